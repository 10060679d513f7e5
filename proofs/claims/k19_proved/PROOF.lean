import PyProof.Rows.All
import PyProof.StrLoop
import PyProof.TupleIter
import PyProof.RangeIter
import Wide.All
import OpenK.AllK
import Wide.FinOn
import Lean
import PyProof.EqAt
import PyProof.EqKinds
import PyProof.TupleCall
import KE.KRevIter
import PyProof.CollectIter
import PyProof.ListRange
import PyProof.StationsW
import KE.KTryMore
import PyProof.RulesAs
import PyProof.Rows.TupDisplay
import KE.KEqDict
import PyProof.SeqI3
import KE.KDictOf
import PyProof.AttrMissHeap
import PyProof.AttrMissSeq
import PyProof.CollectWalk
import PyProof.ListStr
import KE.KDictList
import PyProof.Rows.SortShell
import PyProof.Rows.SortWalk
import PyProof.NeKinds
import PyProof.DictUpdate
import PyProof.ZipIter
import PyProof.Rows.ZipGen
import PyProof.Draws
import PyProof.EnumMake
import PyProof.DictValues
import PyProof.DictWalks
import PyProof.Rows.CallKwBuiltin
import KE.KSortTup
import PyProof.TupleOfGen
import PyProof.ExcClass2
import PyProof.ExcInit
import PyProof.Rows.SetFrom
import PySem.Challenge.RW_floorways_k19_whole_found
set_option Elab.async false
set_option linter.all false
set_option maxRecDepth 100000
set_option maxHeartbeats 4000000
set_option compiler.extract_closed false
set_option bootstrap.genMatcherCode false
set_option genSizeOf false
set_option genInjectivity false
set_option tactic.hygienic false
local macro_rules(kind:=Lean.Parser.Command.declaration)|s=>if s[0].getNumArgs>7||s[0][1].getNumArgs>0 then Lean.Macro.throwUnsupported else let v:=s[1][0].getAtomVal;pure (s.setArg 0 (s[0].setArgs ((if v=="def"||v=="abbrev" then s[0].setArg 4 (Lean.mkNullNode #[.missing]) else s[0]).getArgs.push (.atom .none ""))))
set_option hygiene false
local macro_rules|`(⇑$x)=>`(some (L2.V.ref $x))
local macro_rules|`(↥$x)=>`(some (L2.V.int $x))
local macro_rules|`(↑$x)=>`(($x).heap.objs.size)
local macro_rules|`(!$s:str)=>`(PySem.Str.ofString $s)
local macro_rules|`($s:str ≈$f)=>`(PySem.W.nsIn K PySem.mainGlobals $s=some (some (.ref $f)))
local macro_rules|`($a ∣$b)=>`($a=some $b)
set_option hygiene true
abbrev wa1:=@PySem.F.plainAttrs_list
abbrev wa2:=@PySem.F.slot_list_append
abbrev wa3:=@PySem.F.type_list_append
abbrev wa4:=@List.getElem?_eq_some_iff
abbrev wa5:=@Option.some.inj
abbrev wa6:=@Bool.false_ne_true
abbrev wa7:=@Nat.lt_irrefl
abbrev wa8:=@Nat.le_refl
abbrev wa9:=@Int.le_refl
abbrev wa0:=@Nat.le_trans
abbrev wvP:=PySem.Value->PySem.Shared->Prop
local macro_rules|`(∅)=>`(by decide +kernel)
local macro_rules|`(⋯)=>`(by omega)
open List (range mem_filter mem_range filterMap_cons mem_cons_self mem_cons_of_mem mem_cons mem_append_left mem_append mem_filterMap mem_append_right length_cons length_nil map_cons length_map append_nil nodup_cons of_mem_zip replicate length length_take getElem?_append_right getElem?_append_left getElem?_map mem_of_getElem? length_append map_nil length_drop size_toArray any_cons reverse_cons find?_cons nodup_nil mem_map any_eq_true mem_singleton map_append lookup_cons toArray length_filter_le take_add_one filter_append take_length all_eq_true getD getElem?_eq_getElem getD_eq_getElem?_getD range_succ map_map length_pos_iff map_congr_left mem_iff_getElem? filter_map mem_flatMap filter_cons getElem?_of_mem map sum_cons not_mem_nil length_reverse any_nil take_zero flatMap_cons filter_nil all_map map_id')
open Nat (ne_of_lt lt_of_lt_of_le ne_of_gt zero_le lt_succ_self le_succ mul_le_mul lt_or_ge)
open Int (toNat_natCast eq_ofNat_of_zero_le emod_nonneg emod_lt_of_pos)
open Option (isSome_iff_exists getD_none map_some isSome_map map_eq_some_iff)
open PySem.Heap (get?_update_other get?_update_self get?_push_of_some lt_size get?_push_size size_push)
open Bool (false_eq_true and_eq_true not_eq_true not_eq_true' decide_or)
abbrev ax:=@PySem.wpAny_bind
abbrev bw:=@PySem.wpAny_pure
abbrev aB:=@if_neg
abbrev aM:=@if_pos
abbrev br:=@absurd
theorem dF(h:True:=by first|exact MP _|exact MQ _ ∅ ∅|with_unfolding_all rfl):True:=h
theorem dA(h:True:=by rfl):True:=h
theorem dB(h:True:=by decide):True:=h
theorem dC(h:True:=by decide +kernel):True:=h
theorem dD(h:True:=by first|exact .inl rfl|exact .inr rfl|exact .inr (.inl rfl)|exact .inr (.inr rfl)|assumption):True:=h
theorem dE(h:True:=by intros;intro _ _ _ _ _ _;rfl):True:=h
local macro_rules|`(tactic| walk_at "l")=>`(tactic| (· intro vs H Q E h;cases h;subst vs;rfl))
local macro_rules|`(command|#print $s:str)=>do let mut a:=#[];let mut n:=0;let mut i:=0;for c in s.getString.toList do {n:=n*85+c.toNat%85;i:=i+1;if i%10==0 then {let x:=Lean.mkIdent (.str `PySem.W.Fast s!"tw{n}");a:=a.push (<-Lean.MonadRef.withRef .missing `(command|def $x:ident:=()));n:=0}};return Lean.mkNullNode a
#print"D*TJ.L$C?('j13u(a8[DDcOFq9[SWun4jAcXf137=i]0:u>X,OnO2=U(fjB3%ZYl_Kjr.]0)Ssni6JIE)96-ne*5_SFNUW;XgmFleqLY6#d495d4Gr0lF&P[OcXVkKRgr1/*iU['&VKijAvDcA&(Bj#6epN\\N`9Y8pJF/kDF*9cWLCec>dej)h]^\\)pB:7#e3S^sSDUbu#YIbG)\\^%K7fr(#IVvN:*6>,-.+*v>V7%$o[0)W)Drwh>667wo()DC%:GKm0UXDKNvMg1[5T2IrKAgnWIS4oQKlQN8Vq/cHEX.vk$c+v[lF8HH<1YOr2=D^CT1Q11i#rf:nO7t5Blitu-13O-D^V8fEK0*CL%7Y/A?0dJlLlV'Kb$H\\MDHN)=_)$D*An;f7m<G[ONPnGqE'dP&&c5)`\\,7HIml<Ik8d[27UP,*N8;7a*0,,WqGQ/#5jRs5Aho_'fl#H6t:(cl9,0*2dutAQh'*]U0sW]l-r[iZ`>lag>SJ/Ntq*MbO1*0bP]DErCRo@-R.U8JcI1%,D>&9Ftu..d8@&1eDY7m+'soFPHjL=q're$>F94LCoJ#O,TlVf@bV2f,bgQiskq3D7Am?PGOC^R+Teh`NP^.(M<euBK4]0lFo`@vn[ROWCD]qk#<]msGh'D5?R=6O_Je/4@kC5&GRM2?F(FT??b?cUA&`06wv3MJ-Da7i@e4Juqq?0[^@:;)brIPHJ<2_JK@e&_a2>'gv4wXM*EpvE)D*QUDXdaUqAEC:YP?A'&6Da0'@+l1=v[ilII]:Sen+\\&ahYwIVUh.g[MdALl'PAK@f+)=1v'N,YmK'_jUl<^m/iZFAE(l#l@Jdif[IaK=RfGI4kwwtRoW9-;FpBTMUT>WjXgL63h1K?V@o9IO=GMOI:]+Phj=;/[cAcC_P]2fGMT.-QQc)>+9\\F;[0WPVv%gER'T#_PC*lWZE=Od^](2jI4'XD1Nmq3;o;oKPG1n<<-Qa-(35GA:5or]Z0%8K\\X)4,)1HL-0f6?Cs[sfEh;qh#DcSX,^q\\:cwmQ^?`lBG5ce__[FENlf8/*@VE9Xtp\\o%tJBh(4Dh2.MnsiPkLhEDF4tW/1&\\@,v+w>BUwfwAtXHddZLa03U^E?3TX\\>1a3l,dc&DrA19T&,8*'_NX+qXVekq68G+$nY.c*&N=(+(bA,`dqk3]w241v/-pg%)mD>(1LI>Di1k,1mA96@uv(GGb7PKEECZ^5BR[_dUw)*CNdRA#DqMRPj_OQnj+5[wC.$Gb.['LP+k4+#`=mE$2'GGP93I&<>TU1.h*RR](7jee4<v.o).2sW/a.U-VA2@TC5c(QZ(/cQ;%J'e@)1U/aeJh*Y+0q-^\\%;K#ra6+#@;=2qc.2G;+3DawC7CLJjJ'n2_L\\\\DW>9Y1<4T@KX\\IN3G<oSgShV5uGbe_,JtWM_>&J>HBn$YYueP3Zb7Q]=3k(9]3klaXdBj-t@ML`FT]^]Sa$r/qGDa2N>]Q2L$eSkD#HY>r^tMDmv;ak&`7Bghwn10^cA(<flPDeA)aNkO(?<D`nWW@]RZJR[C(0'UG/MF9u4qwpet[_d[fu-auN=Phq]g'NIp`/co9p),Zl\\B2`*'G(Ki1Zv?jo9L7-7smfvcuPmfXD.-b]H.8lFm`O03\\&2,ooW*3>]:i0vI3OOtfcr^UcWqFYD2_TO.n(.MZN9)'kvU'hYsEG,Dsns&g.pa37q'elMJ*'bGG'-NjGLLlRCW1lm:&?g0-6ss5%gAB(N13fGjhf=93,r73-g65Z&5(ji4E+dekPcbV0VC3v3eLpt`u;kJ^h:whE:s].(DfW2]Zi:c9P8133N=kCX7UgnC)L$Yd^C$P2tVF+B5tvn=*2hc/Wfe)8b*UK1K4#vD[#30i($HN[)2K$AnE:qil,'dlow#bTe/$M</79NHQ6nNo_r=cV^VrIrIBs#>mta:VWY#h%0,c?H]$Q4l&pvw`RVJe?Yr*i9J6SZkD6E\\^XUr/L=Q`)EsGn)&T+S>kkMv7dQB^4s0i_B_E]kD/jR;33N`fMpnsj6H=s2bj](m=W#-S9GlrKpFVl_6<8@8..asVR,;mU6(bV^&Z&bNv%\\FDbmG%OJb\\%8^hWc8hfts.1#i.#cUjf)cf<sJ3rcBc=6+AX*mXX_)@4t\\VinGY1VU`1p*/?1aMl;&`wXj8)F(F,<i<sE*wB&3UdGX&w;GiGgrk5>Xb4Cqr&v`tgB*aK:^kZ_cLK%twiaDLF(G9+`n^)3qK+T`2D(uV6EM5s1SfMLbEa-<G&h5vX6#$/coB3ee;_`2#vY4.?B'+cP,hPP3D`F[u81R/T^@M.EcPcua0W2hbi<mFqFN8*SN4QjIdkp_H'$UQ0`*\\?Jj]IU#M&9cH=S.RQW1mO/au%na*=\\ws:-ei+glREs]V$iu30NW:Z/Ia3H<iw.*#&f$$v62di6=8giTZbk?7;b*Ktw%Dm-V4l:b,aL>?^'R>XS8ELU$cS<O_Zet558nii3fR:*psfbm/,XA7LEtCkJ-*^@jcu'+DB#YpKRX]\\RT9;Ld_=VK8=;r(5-7*>pQ=,/je^cg'.#p3MhmCZnQ`s'G)CYuNMg59DhhO-VGV'$iim$V#e7<f-0C:K_D*JSl2n@^kZ_UuN/R3^#wfQ%P:N1J3Kj*%hEm%/=O65S2p(mCTb$Hgi*l%+oUT/uI#Y*]f<XZ)XUv$T$:+,AQ-%8'VcQPse=rL\\`D63f@okn0o:V@0#M9K*&GdX[`//G_ZL8jGj;.?kC0fLW)Ir6G?r%I>WmKUjaP4[ETNF5BntO6H.B(\\j[ZBnwUcbKON1'_0'?4<PiR']mhmjdcV`X0P%RW$'(Yj)%W:=.8)je3Pp-s@mt@jeA,/OUZ`q<@u)-4a$p3V3pQUB3&E(-pr,jPd2.5iRnW\\o?[6\\h[3*Kw_(,JV'7U3C(:]]%q6=<RkHj_BPQXCNAEhn_J4)R0Fv0@D+AO6o&Xr2=hUMQ&194Q-H9#Q/B8<(j,EKr@J*t4jTwwU#Wpakvj>c[.BSYWUcO8;UX+p%]`bbNc.\\J<JU*`t>$s7g79@API:=,f.eKN\\$`_Jk%GpX*Pfg>&kQa77Ich]JHE^SLn/cBoYnWQm5e0v=?f>R#WGdr9*.E#C`J%nL3#m2EJa2X`L&S'`KV9S4J=Yts%M2T'@PtJm/oW+u2*wa%S;fX.G5-oQe,'[j0NGkRRv0aGFj2ZZnI'C[>d886'.UAr$jc,vUk#<pK0>[4:IcA5WfN@D`AhK'S_Z$INI`i25MI<`.A);,(^A8V/n7J7(G-lqH(]NMaft`r=m[D.M0bQRp0QsO1D%C_#r@_au.<+wQs7X*_X<o^JJZs9QuF9+ZrR)/Gm<_o#a#`SL1Q[=`5Z[<O.n?oqGv(QC27-c=nfQoOw06FcuS0nlj'Hf$8ELcu@<Ki@,@wT.ARg'/aQvK].5jM]J9t7gZX`G]M=/ljksmZsgAgq/nFPqwF9p.B98>5jYa.nUPU=#+oFa33f7\\8nXDIs@P[JGM<dABKOvGP81%<+$^ZY(KJaq0f6iNI1M(@H,GSGV^oHX@<dID`,,V7Mt)+YFHvJ094-JqYjF6ODH=Dn[;3RsBX[wYjRe'lp$9Kbg\\b4I+6*9TTiFkG9dr6$jJ>Oam-EooCKs)Cder5Pk\\@G;<*PPPD<?hk$47OJ;U_]$'E-n*+F1WTD\\0/@giZd6291;M$UA5I:.Zu)_FiM`IX?>la7K35FoC-P>1(*cq)w3:/9AnK:I-=QAS]a+``61VfQ5\\]U[]l5n*+@uc_7-Veuhluq'=a<g&Jt*s`p=@q8V3bv+p7:k&3mbI-eI@W#wrKsV/mD-GZ>hf;m0Pui==1Lcj7Z/<LQewk0wa6;)/4(2m'_$`B$-qm[hjNZ>wJ1fI[FiiuPc^';sCBkAIdqo0<aM$4&+;2.qcrrkCrXVa<6cV8S`h.W]InC]7O@C[n+ae;2Tr>RK0Ei]I&w%WdnSuY@D0s?99P\\D&X/>,?der;Fe':Z@q5ilB7LP#B(mg?qV'+kH<(ZLY6`d5:>HaA'fQMJnW5Q'TEtI/Rp)k=6`IVdBB@HpBQnUd5DCeC5irtO;_fTW&u+`1oZ9B^<[cgiuVGI-+5'D?]k0;$shRL\\k\\Y>$.+cdS35_g3bqg>H0_A]c@4+X<vS^8JA:c^@$LFM:sks)N0Dp[h/VS1gZYJ;6A?+W(S<YC&'oRS6UX.ga+%RrYdQ71bfGeFjt\\Z@1[Xr5[.r6i2T]F5=0_B[CYs43m&>$[#>O8DtB7V1)Y69q?JK<%3_NST/80&NOnY&BqHv.i[TiN2?>oJBv<fmqZkSKuuR+o5b(SwOMM+(4dE\\#'FWqQ*rV\\gdpBj(+R'oWQC@au.;tgk??m*l48%N+]Zh;Mbj]V0W:a_%#)TJ)(<[q52?4(9B\\md-b=7t@UO*\\A<v-Mi6rJU3kdVow@%inF[V.9/)5]c/RAk^7/Y:<p$OwAqv&p,K+ba,kc3lm[RT.%V5=C?uGcC^1,B<jO@SC@E\\7AMUU%\\&,ZL&LAg#JLYC>^wwDo2KL+uI:Ms-t3b-fvqET(W5i$L[&kHjT$ZMGi%[WKGiJ^,_i+$OBj5588l<9&2mFKsbq$@SJ]reBD/)7jUm3rAWa^Z#QGMgUg'K]^s(hK1q$0\\epO,6ZPm'D-\\2PZ0fXt#d,NmP0X+NbIrI;Os#qrtnJapT^LulwT@bSIC[&U_\\VEkUO\\=knqG6OP)Xs?ePM52lDL_2AgI8Af7G_O*Hh5$[$a+@CQV+>#5J1f8w=:MX`]uOk*QIG/+vR,IOHdd86+vl7h'Lh]3vZ*v=cKEvsR?+18Vftb>MRXLVmHqfwN8*?#3h`Y-)lFe_$n8Q`N8,*E1P>r#8)I:J$Wo&,gth9r+Y[862l,jqlWCuV?cnsM<vA<q5-KYd^n)B47?wX;>]47hZSYcP5#aG7fSufuH)[N^-`dUl,B69\\C[2CphE.eG>v#,GNc.RVE\\_@SZwkLMLpdu-kPTQWM@o,51O+c$Qfkp*7(4.2<UvO]KPYg.L-0CT=%FO/#VvZIjOKj<I?qislt@4HhIf`up_#&XoJdfmMX8E`fi)J7mvI-NAWp=Am56/l\\5$3E-Pm%W%[Olv@I:]/OY[#n,:XPqGp+=Z&rS4kD0Dv<nn;;ebKwa'\\._8Btk2HkU]>2c&__[4>tMMkS+X01q4]^?H(?+-Y)IhgTJ9vwOfoP"
open PySem.W (Frag findIn nsIn mg_of keepIn isFn kitOne mg_none_of fnOf hasDictIn plainGet kia_one plainOver mroIn makesIn hideAll instObj codeIn callWith_K hideAll_get clsIn exmOne OpenLaw lookIn methodCall_KW specialIn takesIn tabObj codeHdIn WalkO)
variable {A:PySem.Around}{h':PySem.Heap}{it:PySem.Addr}{α:Type}{aL:Array (Option PySem.Value)}{Q:Option PySem.Value->PySem.Shared->Prop}{i:Nat}{items:Array PySem.Value}{x:PySem.Str}{env:PySem.Env}{pos:PySem.Pos}
namespace L2
open PySem PyProof.Rows PySem.Calls
def gL (A:Around)(h:Heap):Prop:=
 A.handled=none\/∃(a0 C:Addr)(av:Option Addr)(vs:Array Value)(aL:Array (Option Value)),A.handled∣.ref a0/\h.get? a0∣⟨.ref C,av,.fields vs,aL⟩/\vs[2]?∣Value.none
theorem gL.keeps {h:Heap}(d:gL A h) (k:∀b o,h.get? b∣o->h'.get? b∣o):gL A h':=by
 rcases d with d|⟨a0,C,av,vs,aL,gg,fQ,mB⟩
 ·exact .inl d
 ·exact .inr ⟨a0,C,av,vs,aL,gg,k _ _ fQ,mB⟩
theorem gL.update {h:Heap}(d:gL A h){o:Obj}{n:String}(aA:h.get? it∣o) (ak:o.cls=.type n) (f:Obj->Obj):gL A (h.update it f):=by
 rcases d with d|⟨a0,C,av,vs,aL,gg,fQ,mB⟩
 ·exact .inl d
 ·refine .inr ⟨a0,C,av,vs,aL,gg,?_,mB⟩;rw[get?_update_other h f (λz=>?_)]
  ·exact fQ
  ·subst z;rw[aA]at fQ;cases fQ;cases ak
section
variable {prog:Program}{w:World}{A:Around}{E:wvP}{s:Shared}
theorem MR:entryFor table "proto.unchain"=some Builtin.«proto.unchain»:=entryFor_of_tree (by kernel_rfl)
theorem MS {Q:α->Shared->Prop}{e:Addr}{c:Value}{d:Option Addr}{ws:Array Value} (hd:gL A s.heap) (hn:∀a0,A.handled∣.ref a0->a0≠e) (he:s.heap.get? e∣⟨c,d,.fields ws,aL⟩) (hz:2<ws.size)
  (k:∀h',(∀b o,b≠e->s.heap.get? b∣o->h'.get? b∣o)->(∃o,h'.get? e∣o/\o.cls=c)->E (.ref e) { s with heap:=h' }):wpAny (model prog w) A (raiseNew (.ref e):Sem α) Q E s:=by
 rcases hd with hd|⟨a0,C,av,vs,nM,gg,fQ,mB⟩
 ·unfold raiseNew;refine ax (wpAny_handled ?_);rw[hd];exact ax (bw (wpAny_throw (k _ (λ_ _ _ z=>z) ⟨_,he,rfl⟩)))
 ·have ne:=hn a0 gg
  unfold raiseNew;refine ax (wpAny_handled ?_);rw[gg];have ae:(Value.ref a0 != Value.ref e)=true:=by simp[ne]
  dsimp only
  rw[aM ae];refine ax (wpAny_holding (wpAny_runValue (codeAny_builtin MR ?_)));show wpAny _ _ (field (.ref a0) 2>>=_) _ _ s
  refine ax (wpAny_field fQ rfl mB ?_);rw[aM ∅];refine ax (bw (bw ?_));unfold updateField;refine ax (ax (wpAny_load he ?_));show wpAny _ _ (if 2<ws.size then _ else _) _ _ s
  rw[aM hz];refine wpAny_update he (wpAny_throw (k _ (λb o ae z=>?_) ⟨_,get?_update_self _ he rfl,rfl⟩));rwa[get?_update_other _ _ (Ne.symm ae)]
theorem ut {Q:α->Shared->Prop}(hd:gL A s.heap) (k:∀h' e,(∀b o,s.heap.get? b∣o->h'.get? b∣o)->(∃o,h'.get? e∣o/\o.cls=.type "StopIteration")->E (.ref e) { s with heap:=h' }):
  wpAny (model prog w) A (newExc (.type "StopIteration") []>>=λe=>(raiseNew e:Sem α)) Q E s:=by
 refine ax ?_;simp only[newExc,newTuple];refine ax (wpAny_newObj_type ?_ (by size_fits));refine ax (m:=firstArgMember _ _) (wpAny_of_eq (a:=Value.none) (by first|rfl|(simp only[firstArgMember];rfl)) ?_);refine wpAny_newObj_type ?_ (by size_fits);have up:∀b o,s.heap.get? b∣o->((s.heap.push { cls:=.type "tuple",data:=.seq #[] }).push { cls:=.type "StopIteration",data:=.fields (#[Value.ref ↑s,.none,.none,.none,.bool false,.none]++ownMembersOf (.type "StopIteration") []) }).get? b∣o:=
  λb o z=>get?_push_of_some _ (get?_push_of_some _ z)
 have lt:∀b o,s.heap.get? b∣o->b≠(s.heap.push { cls:=.type "tuple",data:=.seq #[] }).objs.size:=λb o z=>ne_of_lt (lt_size (get?_push_of_some _ z))
 refine MS (hd.keeps up) (λa0 z=>?_) (get?_push_size _ rfl) (by rw[Array.size_append];exact lt_of_lt_of_le (show 2<6 by decide) (Nat.le_add_right 6 _)) λh' k1 k2=>k h' _ (λb o z=>k1 b o (lt b o z) (up b o z)) k2;rcases hd with hd|⟨eb,C,av,vs,aL,gg,fQ,mB⟩
 ·rw[hd]at z;cases z
 ·rw[gg]at z;cases z;exact lt _ _ fQ
theorem nN {e:Addr}(he:∃o,s.heap.get? e∣o/\o.cls=.type "StopIteration") (h:Q none s):
  wpAny (model prog w) A (do if <- isInstance (.ref e) (.type "StopIteration") then pure none else throw (.ref e)) Q E s:=
 ax (wpAny_isInstance (T:="StopIteration") (b:=true) he isSubtype_stop (bw h))
theorem MT {l:Addr}(bN:gL A s.heap) (hit:s.heap.IsListIter it l i) (aD:s.heap.IsList l items) (aq:items[i]?=none)
  (ec:∀h',Heap.ExtBut it s.heap h'->Q none { s with heap:=h' }):wpAny (model prog w) A (pyNext (.ref it)) Q E s:=by
 obtain⟨o,aA,ak,hd⟩:=id hit;obtain⟨_,kF,_,_,nO⟩:=aD;unfold pyNext;refine ax (wpAny_attempt (wpAny_callSpecial?_slot (name:=Str.ofString "__next__") hit.typeIs slot_listiter_next (wpAny_call_entry slot_listiter_next hit.typeIs entry_listiter_next ?_ (args_listiter_next _))));show wpAny _ _ (field (.ref it) 0>>=_) _ _ s
 refine ax (wpAny_field aA hd (x:=.ref l) rfl ?_);rw[aB (λz:(Value.ref l==Value.none)=true=>nomatch z)];show wpAny _ _ (field (.ref it) 1>>=_) _ _ s
 refine ax (wpAny_field aA hd (x:=.int i 0) rfl ?_);show wpAny _ _ (seqItems? (.ref l)>>=_) _ _ s
 refine ax (wpAny_seqItems kF nO ?_);simp only[toNat_natCast,aq];refine ax (wpAny_rule (ax (wpAny_setField aA hd (by simp) ?_)));refine ut (bN.update (A:=A) aA ak _) λh' e k1 k2=>nN k2 (ec h' λb o ae z=>k1 b o ?_);rwa[get?_update_other _ _ (Ne.symm ae)]
theorem MU {t:Addr}(bN:gL A s.heap) (hit:s.heap.IsTupleIter it t i) (bC:s.heap.IsTuple t items) (aq:items[i]?=none)
  (ec:∀h',Heap.ExtBut it s.heap h'->Q none { s with heap:=h' }):wpAny (model prog w) A (pyNext (.ref it)) Q E s:=by
 obtain⟨o,aA,ak,hd⟩:=id hit;obtain⟨_,kF,_,_,nO⟩:=bC;unfold pyNext;refine ax (wpAny_attempt (wpAny_callSpecial?_slot (name:=Str.ofString "__next__") hit.typeIs F.slot_tuple_iterator_next (wpAny_call_entry F.slot_tuple_iterator_next hit.typeIs F.entry_tuple_iterator_next ?_ (F.args_tuple_iterator_next_1 _))));show wpAny _ _ (field (.ref it) 0>>=_) _ _ s
 refine ax (wpAny_field aA hd (x:=.ref t) rfl ?_);rw[aB (λz:(Value.ref t==Value.none)=true=>nomatch z)];show wpAny _ _ (field (.ref it) 1>>=_) _ _ s
 refine ax (wpAny_field aA hd (x:=.int i 0) rfl ?_);show wpAny _ _ (seqItems? (.ref t)>>=_) _ _ s
 refine ax (wpAny_seqItems kF nO ?_);simp only[toNat_natCast,aq];refine ax (wpAny_rule (ax (wpAny_setField aA hd (by simp) ?_)));refine ut (bN.update (A:=A) aA ak _) λh' e k1 k2=>nN k2 (ec h' λb o ae z=>k1 b o ?_);rwa[get?_update_other _ _ (Ne.symm ae)]
theorem MV {x left step:Int}(bN:gL A s.heap) (hit:IsRangeIter s.heap it x left step) (MW:left<=0)
  (ec:∀h',Heap.ExtBut it s.heap h'->Q none { s with heap:=h' }):wpAny (model prog w) A (pyNext (.ref it)) Q E s:=by
 have cP:s.TypeIs (.ref it) "range_iterator":=⟨_,hit,rfl⟩
 unfold pyNext;refine ax (wpAny_attempt (wpAny_callSpecial?_slot (name:=Str.ofString "__next__") cP F.slot_range_iterator_next (wpAny_call_entry F.slot_range_iterator_next cP F.entry_range_iterator_next ?_ (F.args_range_iterator_next_1 _))));show wpAny _ _ (field (.ref it) 0>>=_) _ _ s
 refine ax (wpAny_field hit rfl (x:=rawInt x) rfl ?_);show wpAny _ _ (field (.ref it) 1>>=_) _ _ s
 refine ax (wpAny_field hit rfl (x:=rawInt left) rfl ?_);show wpAny _ _ (field (.ref it) 2>>=_) _ _ s
 refine ax (wpAny_field hit rfl (x:=rawInt step) rfl ?_);show wpAny _ _ (if left<=0 then _ else _) _ _ s
 rw[aM MW];refine ax (wpAny_rule (ax ?_));exact ut (A:=A.in1) bN λh' e k1 k2=>nN k2 (ec h' λb o ae z=>k1 b o z)
theorem Dp {n:String}{t:Tok}(hn:n="str_ascii_iterator"\/n="str_iterator") (bN:gL A s.heap) (hit:s.heap.IsStrIter it n x t i) (aq:x.cps[i]?=none)
  (ec:∀h',Heap.ExtBut it s.heap h'->Q none { s with heap:=h' }):wpAny (model prog w) A (pyNext (.ref it)) Q E s:=by
 obtain⟨o,aA,ak,hd⟩:=id hit;unfold pyNext;rcases hn with rfl|rfl
 ·refine ax (wpAny_attempt (wpAny_callSpecial?_slot (name:=Str.ofString "__next__") hit.typeIs F.slot_str_ascii_iterator_next (wpAny_call_entry F.slot_str_ascii_iterator_next hit.typeIs F.entry_str_ascii_iterator_next ?_ (F.args_str_ascii_iterator_next_1 _))));show wpAny _ _ (field (.ref it) 0>>=_) _ _ s
  refine ax (wpAny_field aA hd (x:=.str x t) rfl ?_);show wpAny _ _ (field (.ref it) 1>>=_) _ _ s
  refine ax (wpAny_field aA hd (x:=.int i 0) rfl ?_);simp only[toNat_natCast,aq];refine ax (wpAny_rule (ax (wpAny_setField aA hd (by simp) (ax (wpAny_letGo ?_)))));refine ut (bN.update (A:=A) aA ak _) λh' e k1 k2=>nN k2 (ec h' λb o ae z=>k1 b o ?_);rwa[get?_update_other _ _ (Ne.symm ae)]
 ·refine ax (wpAny_attempt (wpAny_callSpecial?_slot (name:=Str.ofString "__next__") hit.typeIs F.slot_str_iterator_next (wpAny_call_entry F.slot_str_iterator_next hit.typeIs F.entry_str_iterator_next ?_ (F.args_str_iterator_next_1 _))));show wpAny _ _ (field (.ref it) 0>>=_) _ _ s
  refine ax (wpAny_field aA hd (x:=.str x t) rfl ?_);show wpAny _ _ (field (.ref it) 1>>=_) _ _ s
  refine ax (wpAny_field aA hd (x:=.int i 0) rfl ?_);simp only[toNat_natCast,aq];refine ax (wpAny_rule (ax (wpAny_setField aA hd (by simp) (ax (wpAny_letGo ?_)))));refine ut (bN.update (A:=A) aA ak _) λh' e k1 k2=>nN k2 (ec h' λb o ae z=>k1 b o ?_);rwa[get?_update_other _ _ (Ne.symm ae)]
theorem MX {elts:List Expr}{x1}{t:Addr}{Q:Unit->Shared->Prop}(bN:gL A s.heap) (bC:IsTup s.heap t items) (hn:(assignEach elts env).length=items.size) (MY:(assignEach elts env).findIdx? (·.1)=none)
  (h:∀h',Heap.ExtBut ↑s s.heap h'->wpAny (model prog w) A (assignInOrder ((assignEach elts env).map (·.2)) items.toList) Q E { s with heap:=h' }):wpAny (model prog w) A (assign (.Tuple elts x1 pos) env (.ref t)) Q E s:=by
 have ne:t≠↑s:=by obtain⟨o,aA,_⟩:=bC;exact ne_of_lt (lt_size aA)
 rw[assign_Tuple];refine ax (wpAny_standAt ?_);unfold unpack;rw[hn,MY];refine ax (wpAny_holding ?_);unfold unpackItems;refine ax ?_;unfold notIterableAtAll;refine ax (wpAny_specialOf bC.typeIs slot_tuple_iter.lookup (bw ?_));simp only[false_eq_true,if_false];refine ax (wpAny_holding (iter_tuple bC ?_));refine ax (wpAny_holding (draw_tuple ne items.size 0 _ _ ⟨_,get?_push_size _ rfl,rfl,rfl⟩ (bC.push _) ⋯ λfC MZ Dq=>?_));rw[List.drop_zero,List.take_of_length_le (by simp)];rw[aB (by simp)];have k1:∀b o,s.heap.get? b∣o->fC.get? b∣o:=λb o z=>(Dq.2 b (ne_of_lt (lt_size z))).trans (get?_push_of_some _ z)
 have M0:IsTup fC t items:=(bC.push _).extBut Dq.extBut ne
 refine ax (wpAny_holding (MU (s:={ s with heap:=fC }) (bN.keeps k1) MZ M0 (by simp) λo9 M1=>?_));simp only[Option.isSome_none,false_eq_true,if_false];exact bw (h o9 λb o ae z=>M1 b o ae (k1 b o z))
end
end L2
variable {n t' j tk:Nat}{e cS iter:PySem.Expr}{Q E:PySem.Value->PySem.Shared->Prop}{us:List PySem.Value}{bt:Type}{a f C av:PySem.Addr}{u cd doc pm cdv bW c7:PySem.Value}{P prog:PySem.Program}{w:PySem.World}{ob:PySem.Obj}{g':Array PySem.GenState}{N ps:List PySem.Str}{M:PySem.Model}{s' s:PySem.Shared}{pins:List (PySem.Addr×PySem.Obj)}{op:PySem.CmpOp}{K:PySem.W.Frag}{es:List PySem.Expr}{pos':PySem.Pos}{body:List PySem.Stmt}{vs:Array PySem.Value}{R:PySem.Result->PySem.Shared->Prop}{lo:Int}{cu:List PySem.Addr}{pl:PySem.Sem Bool}{dU mg:PySem.Str->Option PySem.Value}{kw:List (PySem.Str×PySem.Value)}{base:PySem.Heap}{fd:PySem.FuncData}{outer:List PySem.Env}{qual name:PySem.Str}{scope:PySem.Scope}{params:PySem.Arguments}{et:Array (Option PySem.Value)}
namespace L2
open PySem PySem.Spec PyProof.Rows
abbrev Key:=Sum Int Str
def nP:Key->Value->Bool
 | .inl k,v=>Value.isInt k v
 | .inr x,v=>Value.isStrOf x v
def Dr (w:World):Key->Int
 | .inl k=>hashInt k
 | .inr x=>hashStr w x
theorem mC:∀{k:Key}{v:Value},nP k v=true->(∃i t,k=Sum.inl i/\v=Value.int i t)\/(∃x t,k=Sum.inr x/\v=Value.str x t)
 | .inl i,v,h=>by
  obtain⟨t,e⟩:=Value.isInt_shape (k:=i) (v:=v) h;exact .inl ⟨i,t,rfl,e⟩
 | .inr x,v,h=>by
  obtain⟨t,e⟩:=Value.isStrOf_shape (x:=x) (v:=v) h;exact .inr ⟨x,t,rfl,e⟩
theorem M3 (i:Int)(t:Tok):nP (.inl i) (.int i t)=true:=by simp[nP,Value.isInt]
theorem M4 (x:Str)(t:Tok):nP (.inr x) (.str x t)=true:=by simp[nP,Value.isStrOf]
theorem M5 (a b:Int):decide ((Sum.inl a:Key)=Sum.inl b)=(a==b):=by
 by_cases e:a=b
 ·subst e;simp
 ·have h:¬(Sum.inl a:Key)=Sum.inl b:=λq=>e (Sum.inl.inj q)
  rw[decide_eq_false h];exact(beq_eq_false_iff_ne.mpr e).symm
theorem M6 (a b:Str):decide ((Sum.inr a:Key)=Sum.inr b)=decide (a=b):=by
 by_cases e:a=b
 ·subst e;simp
 ·have h:¬(Sum.inr a:Key)=Sum.inr b:=λq=>e (Sum.inr.inj q)
  rw[decide_eq_false h,decide_eq_false e]
theorem M7 (a:Int)(b:Str):decide ((Sum.inl a:Key)=Sum.inr b)=false:=decide_eq_false (λq=>nomatch q)
theorem M8 (a:Str)(b:Int):decide ((Sum.inr a:Key)=Sum.inl b)=false:=decide_eq_false (λq=>nomatch q)
def eN (prog:Program)(w:World):PySem.KeyKind prog w Key where
 is:=nP
 hash:=Dr w
 inj:=λv a b aN ae=>by
  rcases mC aN with⟨i,t,rfl,rfl⟩|⟨x,t,rfl,rfl⟩
  ·rcases mC ae with⟨j,u,rfl,e⟩|⟨y,u,rfl,e⟩
   ·injection e with ar _;rw[ar]
   ·exact nomatch e
  ·rcases mC ae with⟨j,u,rfl,e⟩|⟨y,u,rfl,e⟩
   ·exact nomatch e
   ·injection e with ar _;rw[ar]
 byValue:=λk v h=>by
  rcases mC h with⟨i,t,rfl,rfl⟩|⟨x,t,rfl,rfl⟩<;>rfl
 pyHash:=λaJ h=>by
  rcases mC aJ with⟨i,t,rfl,rfl⟩|⟨x,t,rfl,rfl⟩
  ·exact wpAny_pyHash_int h
  ·exact wpAny_pyHash_str h
 eqBool:=λbZ aJ h=>by
  rcases mC bZ with⟨i,t,rfl,rfl⟩|⟨x,t,rfl,rfl⟩
  ·rcases mC aJ with⟨j,u,rfl,rfl⟩|⟨y,u,rfl,rfl⟩
   ·rw[M5]at h;exact wpAny_eqBool_int h
   ·rw[M7]at h;exact SeqAt.EqAt.int_str i t y u _ _ _ _ h
  ·rcases mC aJ with⟨j,u,rfl,rfl⟩|⟨y,u,rfl,rfl⟩
   ·rw[M8]at h;exact SeqAt.EqAt.str_int x t j u _ _ _ _ h
   ·rw[M6]at h;exact wpAny_eqBool_str h
 «strs»:=λk x t v h=>by
  rcases mC h with⟨i,u,rfl,e⟩|⟨y,u,rfl,e⟩
  ·exact nomatch e
  ·injection e with ar _
   subst ar;cases v<;>rfl
theorem M9 (prog:Program)(w:World)(i:Int)(t:Tok):(eN prog w).is (.inl i) (.int i t)=true:=M3 i t
theorem Na (prog:Program)(w:World)(x:Str)(t:Tok):(eN prog w).is (.inr x) (.str x t)=true:=M4 x t
set_option genInjectivity true in
inductive V where
 | bx|bl (b:Bool)|int (i:Int)|str (x:Str)|j7 (b:Array UInt8)|pa (b:UInt64)|ref (a:Addr)|ty (n:String)
 deriving DecidableEq
def RelV:V->Value->Prop
 | .bx,u=>u=Value.none
 | .bl b,u=>u=Value.bool b
 | .int i,u=>∃t,u=Value.int i t
 | .str x,u=>∃t,u=Value.str x t
 | .j7 b,u=>∃t,u=Value.bytes b t
 | .pa b,u=>∃t,u=Value.float b t
 | .ref a,u=>u=Value.ref a
 | .ty n,u=>u=Value.type n
abbrev Vals:List V->List Value->Prop:=Paired RelV
theorem Vals.length {xs:List V}(r:Vals xs us):xs.length=us.length:=Paired.length r
theorem Vals.get:∀{xs:List V}{us:List Value}{i:Nat}{x:V},Vals xs us->xs[i]?∣x->∃u,us[i]?∣u/\RelV x u
 | _,_,_,_,.nil,e=>by simp at e
 | _,_,0,_,.cons r _,e=>by simp at e;subst e;exact⟨_,rfl,r⟩
 | _,_,i+1,x,.cons _ t,e=>by
  obtain⟨u,aa,ag⟩:=Vals.get (i:=i) (x:=x) t (by simpa using e);exact⟨u,by simpa using aa,ag⟩
theorem Vals.set {x:V}{u:Value}(r:RelV x u):∀{xs:List V}{us:List Value}(i:Nat),Vals xs us->Vals (xs.set i x) (us.set i u)
 | _,_,_,.nil=>.nil
 | _,_,0,.cons _ t=>.cons r t
 | _,_,i+1,.cons q t=>.cons q (Vals.set r i t)
theorem Vals.append:∀{xs aF:List V}{us ws:List Value},Vals xs us->Vals aF ws->Vals (xs++aF) (us++ws)
 | _,_,_,_,.nil,s=>s
 | _,_,_,_,.cons r t,s=>.cons r (Vals.append t s)
theorem Vals.take:∀{xs:List V}{us:List Value}(n:Nat),Vals xs us->Vals (xs.take n) (us.take n)
 | _,_,0,_=>.nil
 | _,_,_+1,.nil=>.nil
 | _,_,n+1,.cons r t=>.cons r (Vals.take n t)
theorem Vals.drop:∀{xs:List V}{us:List Value}(n:Nat),Vals xs us->Vals (xs.drop n) (us.drop n)
 | _,_,0,r=>r
 | _,_,_+1,.nil=>.nil
 | _,_,n+1,.cons _ t=>Vals.drop n t
def hx:Option V->Option Value->Prop
 | some v,some u=>RelV v u
 | none,none=>True
 | _,_=>False
def fh:List (bt×V)->List (bt×Value)->Prop:=Paired λ(p:bt×V)(q:bt×Value)=>p.1=q.1/\RelV p.2 q.2
def bq:Key->V
 | .inl i=>.int i
 | .inr x=>.str x
inductive a3 where
 | lst (xs:List V)
 | tup (xs:List V)
 | bO (kvs:List (Key×V))|bc (kvs:List (List Key×V))
 | set (S:Int->Bool) (n:Nat)
 | ins (C av:Addr) (aT:List (Str×V))
 | own (x:Addr)
 | nQ (aT:List (Str×V))
 | met (f x:Addr)
 | vc (lo au:Int)
 | cc (o:Obj) (u:a3)
 | eY (ps:Array Value)
 | ext (mD:Heap->Prop)
abbrev ah:=Addr->Option a3
def upd (H:ah)(a:Addr)(o:a3):ah:=λb=>if b=a then some o else H b
theorem aH {H:ah}{o:a3}:upd H a o a∣o:=by unfold upd;rw[aM rfl]
theorem zf {H:ah}{b:Addr}{o:a3}(h:b≠a):upd H a o b=H b:=by unfold upd;rw[aB h]
theorem Nb {H:ah}{o u:a3}:upd (upd H a o) a u=upd H a u:=by
 funext b;unfold upd;split<;>rfl
theorem cM {H:ah}{b:Addr}{o u:a3}(h:H a∣o) (h':H b∣u) (d:o≠u):a≠b:=by
 intro e;subst e;rw[h]at h';exact d (wa5 h')
theorem cg {H:ah}{b:Addr}{o:a3}(h:H a∣o) (h':H b=none):a≠b:=by
 intro e;subst e;rw[h]at h';cases h'
section
variable (P:Program)(w:World)
def de (H:ah)(h:Heap)(a:Addr):a3->Prop
 | .lst xs=>xs.length<=sizeLine/\∃(aU:List Value)(n:Nat),Vals xs aU/\h.get? a=some { cls:=.type "list",data:=.seq aU.toArray n }
 | .tup xs=>xs.length<=sizeLine/\∃aU:List Value,Vals xs aU/\IsTup h a aU.toArray
 | .bO kvs=>kvs.length<=sizeLine/\(a==sysModules)=false/\∃vs,fh kvs vs/\h.DictOf (eN P w) a vs
 | .bc kvs=>kvs.length<=sizeLine/\(a==sysModules)=false/\∃xs:List (List Key×Addr×Value),
   Paired (λ(p:List Key×V)(q:List Key×Addr×Value)=>p.1=q.1/\H q.2.1∣.tup (p.1.map bq)/\RelV p.2 q.2.2) kvs xs/\
   ∃o es cC,h.get? a∣o/\o.ExactDict/\o.data=.dict es cC/\es.toList=xs.map (entryOfKey (tupleKind (eN P w)))/\(xs.map (·.1)).Nodup
 | .set S n=>h.SetOf (intKind P w) a S n
 | .ins C av aT=>H av∣.own a/\aT.length<=1000/\av≠a/\h.get? a∣instObj C av/\
   ∃dU,h.Ns1 av dU/\(∀f,hx (aT.lookup f) (dU f))/\PySem.Within dU (aT.map (·.1))
 | .own _=>∃o,h.get? a∣o
 | .nQ aT=>∃dU,h.Ns1 a dU/\∀f,hx (aT.lookup f) (dU f)
 | .vc lo au=>∃t u v,h.get? a=some { cls:=.type "range",data:=.fields #[.int lo t,.int au u,.int 1 v] }
 | .cc o u=>h.get? a∣o/\de H h a u
 | .eY ps=>h.get? a=some { cls:=.none,data:=.fields ps }
 | .met f x=>h.get? a∣PySem.W.methodObj (.ref f) (.ref x)
 | .ext mD=>mD h/\(∃o,h.get? a∣o)/\∀aa ag:Heap,mD aa->(∀o,aa.get? a∣o->ag.get? a∣o)->mD ag
def dV (H:ah)(h:Heap):Prop:=∀a o,H a∣o->de P w H h a o
end
section
variable {P:Program}{w:World}{H H':ah}{h h':Heap}{a:Addr}{o:a3}
theorem de.lt (x:de P w H h a o):a<h.objs.size:=by
 cases o with
 | lst xs=>obtain⟨_,_,_,_,e⟩:=x;exact lt_size e
 | tup xs=>obtain⟨_,_,_,p⟩:=x;exact p.lt
 | bO kvs=>obtain⟨_,_,_,_,o,_,_,e,_⟩:=x;exact lt_size e
 | bc kvs=>obtain⟨_,_,_,_,o,_,_,e,_⟩:=x;exact lt_size e
 | set S n=>obtain⟨o,_,_,_,e,_⟩:=x;exact lt_size e
 | ins C av aT=>obtain⟨_,_,_,e,_⟩:=x;exact lt_size e
 | own y=>obtain⟨_,e⟩:=x;exact lt_size e
 | nQ aT=>obtain⟨_,⟨_,_,_,e,_⟩,_⟩:=x;exact lt_size e
 | vc lo au=>obtain⟨_,_,_,e⟩:=x;exact lt_size e
 | cc ob u=>obtain⟨e,_⟩:=x;exact lt_size e
 | eY ps=>exact lt_size (show h.get? a=some _ from x)
 | met f y=>exact lt_size (show h.get? a=some _ from x)
 | ext mD=>obtain⟨_,⟨_,e⟩,_⟩:=x;exact lt_size e
theorem Paired.fp {α β:Type}{F G:α->β->Prop}:∀{l₁:List α}{l₂:List β},Paired F l₁ l₂->(∀a b,F a b->G a b)->Paired G l₁ l₂
 | _,_,.nil,_=>.nil
 | _,_,.cons r t,f=>.cons (f _ _ r) (Paired.fp t f)
theorem de.gX (x:de P w H h a o)(k:∀b u,(b=a\/H b∣.own a)->h.get? b∣u->h'.get? b∣u)(aA:∀b,H b∣.own a->H' b∣.own a)(bC:∀b xs,H b∣.tup xs->H' b∣.tup xs):de P w H' h' a o:=by
 induction o with
 | lst xs=>obtain⟨z,aU,n,r,e⟩:=x;exact⟨z,aU,n,r,k _ _ (.inl rfl) e⟩
 | tup xs=>obtain⟨z,aU,r,ob,e,c⟩:=x;exact⟨z,aU,r,ob,k _ _ (.inl rfl) e,c⟩
 | bO kvs=>obtain⟨z,y,vs,r,ob,es,cC,e,c⟩:=x;exact⟨z,y,vs,r,ob,es,cC,k _ _ (.inl rfl) e,c⟩
 | bc kvs=>
  obtain⟨z,y,xs,r,ob,es,cC,e,c⟩:=x;exact⟨z,y,xs,Paired.fp r λp q z=>⟨z.1,bC _ _ z.2.1,z.2.2⟩,ob,es,cC,k _ _ (.inl rfl) e,c⟩
 | set S n=>obtain⟨ob,es,cC,t,e,c⟩:=x;exact⟨ob,es,cC,t,k _ _ (.inl rfl) e,c⟩
 | ins C av aT=>
  obtain⟨d,z,ne,e,dU,⟨cA,es,cC,aw,c⟩,r⟩:=x;exact⟨aA _ d,z,ne,k _ _ (.inl rfl) e,dU,⟨cA,es,cC,k _ _ (.inr d) aw,c⟩,r⟩
 | own y=>obtain⟨ob,e⟩:=x;exact⟨ob,k _ _ (.inl rfl) e⟩
 | nQ aT=>obtain⟨dU,⟨cA,es,cC,e,c⟩,r⟩:=x;exact⟨dU,⟨cA,es,cC,k _ _ (.inl rfl) e,c⟩,r⟩
 | vc lo au=>obtain⟨t,u,v,e⟩:=x;exact⟨t,u,v,k _ _ (.inl rfl) e⟩
 | cc ob u bE=>obtain⟨e,q⟩:=x;exact⟨k _ _ (.inl rfl) e,bE q⟩
 | eY ps=>
  have e:h.get? a=some { cls:=.none,data:=.fields ps }:=x
  show h'.get? a=some { cls:=.none,data:=.fields ps }
  exact k a _ (.inl rfl) e
 | met f y=>
  have e:h.get? a∣PySem.W.methodObj (.ref f) (.ref y):=x
  show h'.get? a∣PySem.W.methodObj (.ref f) (.ref y)
  exact k a _ (.inl rfl) e
 | ext mD=>obtain⟨p,⟨o,e⟩,st⟩:=x;exact⟨st _ _ p λo q=>k _ _ (.inl rfl) q,⟨o,k _ _ (.inl rfl) e⟩,st⟩
theorem dV.lt (x:dV P w H h)(e:H a∣o):a<h.objs.size:=(x a o e).lt
theorem dV.fresh (x:dV P w H h)(e:h.objs.size<=a):H a=none:=by
 cases q:H a with
 | none=>rfl
 | some u=>exact br (lt_of_lt_of_le (x.lt q) e) (wa7 _)
theorem dV.kept (x:dV P w H h)(k:∀b u,h.get? b∣u->h'.get? b∣u):dV P w H h':=λa o e=>
 (x a o e).gX (λb u _ q=>k b u q) (λ_ q=>q) λ_ _ q=>q
theorem dV.laid (x:dV P w H h)(k:∀b u,h.get? b∣u->h'.get? b∣u)(aG:h.objs.size<=a)(new:de P w (upd H a o) h' a o):dV P w (upd H a o) h':=λb u e=>by
 have hn:=x.fresh aG
 by_cases ae:b=a
 ·subst ae;rw[aH]at e;cases e;exact new
 ·rw[zf ae]at e;exact(x b u e).gX (λc v _ q=>k c v q) (λc q=>by rwa[zf (cg q hn)]) λc xs q=>by rwa[zf (cg q hn)]
end
def jj (H:ah)(a:Addr)(u:a3):Prop:=H a=some u\/∃o,H a∣.cc o u
theorem jj.ok {H:ah}{h:Heap}{u:a3}(r:jj H a u) (x:dV P w H h):de P w H h a u:=by
 rcases r with r|⟨o,r⟩
 ·exact x a u r
 ·obtain⟨_,q⟩:=x a _ r;exact q
def sx:Option a3->Prop
 | some (.lst _)=>True
 | some (.bO _)=>True
 | some (.bc _)=>True
 | some (.set _ _)=>True
 | some (.ins _ _ _)=>True
 | some (.ext _)=>True
 | _=>False
section
variable {P:Program}{w:World}{H:ah}{h h':Heap}{x e:Addr}{bQ:a3}
theorem dV.write (ok:dV P w H h)(fD:sx (H x))(he:e=x\/H e∣.own x)(k:∀b u,b≠e->h.get? b∣u->h'.get? b∣u)(jG:∃u,h'.get? e∣u)(new:de P w (upd H x bQ) h' x bQ):dV P w (upd H x bQ) h':=λb u q=>by
 have Ds:∀c y,H c∣.own y->c≠x:=λc y r z=>by subst z;rw[r]at fD;exact fD
 have Nc:∀c xs,H c∣.tup xs->c≠x:=λc xs r z=>by subst z;rw[r]at fD;exact fD
 by_cases ae:b=x
 ·subst ae;rw[aH]at q;cases q;exact new
 ·rw[zf ae]at q;by_cases pb:b=e
  ·have q':H b∣.own x:=by
    rcases he with z|z
    ·exact br (pb.trans z) ae
    ·rwa[pb]
   rw[q]at q';cases q';obtain⟨v,aJ⟩:=jG;exact⟨v,by rwa[pb]⟩
  ·refine(ok b u q).gX (λc v ak r=>k c v ?_ r) (λc r=>by rwa[zf (Ds c b r)]) λc xs r=>by rwa[zf (Nc c xs r)]
   rcases ak with rfl|ak
   ·exact pb
   ·rintro rfl;rcases he with z|z
    ·exact Ds c b ak z
    ·rw[ak]at z;cases z;exact ae rfl
end
structure fq (aT ex:List Addr)(H H':ah)(h h':Heap):Prop where
 keep:∀b o,h.get? b∣o->H b=none->b ∉ aT->b ∉ ex->h'.get? b∣o
 slot:∀b o,h.get? b∣o->H b=none->b∈aT->b ∉ ex->∃aL,h'.get? b=some { o with slots:=aL }
 free:∀b o,h.get? b∣o->H b=none->b ∉ ex->H' b=none
 there:∀b o,h.get? b∣o->b ∉ ex->∃bQ,h'.get? b∣bQ
 cH:∀b xs,H b∣.tup xs->H' b∣.tup xs
 fE:∀b o u,H b∣.cc o u->H' b∣.cc o u
 hy:∀b ps,H b∣.eY ps->∃more,H' b∣.eY (ps++more)
section
variable {aT Nd ex ad8:List Addr}{H H1 aE:ah}{h aa ag h':Heap}{a x e:Addr}{o:a3}
theorem fq.any (u:fq aT ex H H1 h aa){b:Addr}(q:h.get? b∣ob) (n:H b=none) (aq:b ∉ ex):∃aL,aa.get? b=some { ob with slots:=aL }:=by
 by_cases ae:b∈aT
 ·exact u.slot b ob q n ae aq
 ·exact⟨ob.slots,u.keep b ob q n ae aq⟩
theorem fq.kept (k:∀b u,h.get? b∣u->h'.get? b∣u):fq aT ex H H h h':=
 ⟨λb ob q _ _ _=>k b ob q,λb ob q _ _ _=>⟨ob.slots,k b ob q⟩,λ_ _ _ n _=>n,λb ob q _=>⟨ob,k b ob q⟩,λ_ _ q=>q,λ_ _ _ q=>q,λ_ ps q=>⟨#[],by rw[q];simp⟩⟩
theorem fq.refl:fq aT ex H H h h:=fq.kept λ_ _ q=>q
theorem fq.laid (k:∀b u,h.get? b∣u->h'.get? b∣u)(aG:h.objs.size<=a)(hn:H a=none):fq aT ex H (upd H a o) h h' where
 keep:=λb u q _ _ _=>k b u q
 slot:=λb u q _ _ _=>⟨u.slots,k b u q⟩
 free:=λb u q n _=>by rwa[zf (ne_of_lt (lt_of_lt_of_le (lt_size q) aG))]
 there:=λb u q _=>⟨u,k b u q⟩
 cH:=λb xs q=>by rwa[zf (cg q hn)]
 fE:=λb u xs q=>by rwa[zf (cg q hn)]
 hy:=λb ps q=>⟨#[],by rw[zf (cg q hn),q];simp⟩
theorem fq.write (fD:sx (H x))(he:e=x\/H e∣.own x)(k:∀b u,b≠e->h.get? b∣u->h'.get? b∣u)(jG:∃u,h'.get? e∣u):fq aT ex H (upd H x o) h h':=by
 have aq:∀b,H b=none->b≠x:=λb n z=>by subst z;rw[n]at fD;exact fD
 have ae:∀b,H b=none->b≠e:=λb n z=>by
  subst z;rcases he with r|r
  ·exact aq b n r
  ·rw[n]at r;cases r
 have hm:∀b u,H b∣u->¬sx (some u)->b≠x:=λb u q nm z=>by subst z;rw[q]at fD;exact nm fD
 refine⟨λb u q n _ _=>k b u (ae b n) q,λb u q n _ _=>⟨u.slots,k b u (ae b n) q⟩,λb u q n _=>by rwa[zf (aq b n)],λb u q _=>?_,
  λb xs q=>by rwa[zf (hm b _ q λz=>z)],λb u xs q=>by rwa[zf (hm b _ q λz=>z)],λb ps q=>⟨#[],by rw[zf (hm b _ q λz=>z),q];simp⟩⟩
 by_cases pb:b=e
 ·subst pb;exact jG
 ·exact⟨u,k b u pb q⟩
end
def qQ (h:Heap)(H:ah):List Addr:=(range h.objs.size).filter λa=>(H a).isSome
def mE (h:Heap)(H:ah):Heap:=hideAll h (qQ h H)
theorem Nf (h:Heap)(H:ah):(mE h H).objs.size=h.objs.size:=PySem.W.hideAll_size _ _
theorem Dt {h:Heap}{H:ah}{b:Addr}{o:Obj}(e:h.get? b∣o) (n:H b=none):(mE h H).get? b∣o:=
 hideAll_get _ e λhm=>by
  have q:(H b).isSome=true:=(mem_filter.mp hm).2
  rw[n]at q;simp at q
theorem Ng {h:Heap}{H:ah}{b:Addr}{o:Obj}(e:(mE h H).get? b∣o):h.get? b∣o/\H b=none:=by
 have a4:h.get? b∣o:=PySem.W.of_hideAll (qQ h H) e
 refine⟨a4,?_⟩;cases q:H b with
 | none=>rfl
 | some x=>
  have hm:b∈qQ h H:=mem_filter.mpr ⟨mem_range.mpr (lt_size a4),by simp[q]⟩
  have z:(mE h H).get? b=none:=PySem.W.hideAll_none (qQ h H) hm
  rw[z]at e;cases e
def Nh (g h:Heap)(L:Addr):List (Addr×Obj):=(range h.objs.size).filterMap λa=>if a=L\/(g.get? a).isSome=true then none else(h.get? a).map λo=>(a,o)
def rest (g h:Heap)(L d:Addr):List (Addr×Obj):=(Nh g h L).filter λp=>decide (p.1≠d)
structure Mod (K:Frag)(mg:Str->Option Value)(base:Heap):Prop where
 ig:K.In base
 glob:base.Ns mainGlobals mg
 blt:∃iP,base.Ns builtinsNs iP/\∀x:Str,x≠"__name__"->iP x=bootBuiltins x
 nolimit:base.NoLimit
structure Cx where
 prog:Program
 w:World
 K:Frag
 mg:Str->Option Value
 base:Heap
 A:Around
 N:List Str
 bS:Shared
 c5:ah
 env:Env
 outer:List Env
 stack:List Env
 ex:List Addr
 fn:Str->Bool
 calm:Bool
 dr:List (Addr×Obj)
 cQ:wvP
def d4 (l:List Env):List Addr:=l.filterMap (·.frame)
abbrev Cx.aT (X:Cx):List Addr:=d4 X.outer
def qR (sc:Scope)(x:Str):Prop:=sc.names.lookup x=some .local\/sc.names.lookup x=some .cell\/sc.names.lookup x=some .free
def Loc (sc:Scope)(x:Str):Prop:=sc.names.lookup x=some .local\/sc.names.lookup x=some .cell
def Look (env:Env)(h:Heap)(m:Str->Option Value)(x:Str)(u:Value):Prop:=
 (env.kindOf x=some .local/\m x∣u)\/((env.kindOf x=some .cell\/env.kindOf x=some .free)/\∃c,env.cells.lookup x∣c/\h.IsCell c (some u))
structure Cx.Ok (X:Cx):Prop where
 mod:Mod X.K X.mg X.base
 kind:X.env.scope.kind=.function
 glob:X.env.globals=mainGlobals
 blt:X.env.builtins=builtinsNs
 above:X.bS.heap.objs.size<=X.env.locals
 inj:∀x y c,X.env.cells.lookup x∣c->X.env.cells.lookup y∣c->x=y
 has:∀x,(X.env.kindOf x=some .cell\/X.env.kindOf x=some .free)->∃c,X.env.cells.lookup x∣c
 nR:∀x c,X.fn x=true->X.env.cells.lookup x∣c->X.bS.heap.objs.size<=c
 hd:X.calm=true->X.A.handled=none
 frames:X.A.frames∣X.stack
 qS:X.stack=X.outer\/(X.stack=X.env::X.outer/\X.env.frame∣X.env.locals)
 vd:∀b∈X.ex,b≠X.env.locals/\∀x c,X.env.cells.lookup x∣c->c≠b
 bs:∀b o,X.base.get? b∣o->X.bS.heap.get? b∣o/\X.c5 b=none
 jH:X.base.objs.size<=X.bS.heap.objs.size
 pd:∀b o,X.base.get? b∣o->b ∉ X.ex
 qT:∀b∈X.ex,b ∉ X.aT
 gY:X.bS.heap.FunFrames X.base X.outer
 jI:∀b∈X.aT,X.c5 b=none
structure Inv (X:Cx)(pins:List (Addr×Obj))(J:List (Option V))(H:ah)(s:Shared):Prop where
 ok:X.Ok
 os:s.os=X.bS.os
 bare:AllBare s.gens
 base:fq X.aT X.ex X.c5 H X.bS.heap s.heap
 loc:∃m,s.heap.Ns X.env.locals m/\∀(i:Nat)(x:Str)(v:V),X.N[i]?∣x->J[i]?∣some v->qR X.env.scope x->∃u,RelV v u/\Look X.env s.heap m x u
 cell:∀x c,X.env.cells.lookup x∣c->∃v,s.heap.IsCell c v
 free:H X.env.locals=none
 hB:∀x c,X.env.cells.lookup x∣c->H c=none
 pin:∀p∈X.dr++pins,s.heap.get? p.1∣p.2/\H p.1=none/\p.1≠X.env.locals/\p.1 ∉ X.aT/\∀v,p.2.data≠.cell v
 a6:dV X.prog X.w H s.heap
 len:J.length=X.N.length
section
variable {X:Cx}{pins:List (Addr×Obj)}{J:List (Option V)}{H H':ah}{s:Shared}{h':Heap}
theorem Cx.Ok.Ni (ok:X.Ok){b:Addr}{o:Obj}(e:X.base.get? b∣o):b ∉ X.aT:=λae=>by
 have:=(ok.gY.mem ae).1
 rw[e]at this;cases this
theorem Inv.bs (I:Inv X pins J H s):∀b o,X.base.get? b∣o->s.heap.get? b∣o/\H b=none:=λb o e=>
 ⟨I.base.keep b o (I.ok.bs b o e).1 (I.ok.bs b o e).2 (I.ok.Ni e) (I.ok.pd b o e),I.base.free b o (I.ok.bs b o e).1 (I.ok.bs b o e).2 (I.ok.pd b o e)⟩
theorem Inv.b3 (I:Inv X pins J H s):∀b o,X.base.get? b∣o->s.heap.get? b∣o:=λb o e=>(I.bs b o e).1
theorem Inv.mod (I:Inv X pins J H s):Mod X.K X.mg X.base:=I.ok.mod
theorem Inv.d5 (I:Inv X pins J H s):X.K.In s.heap:=I.ok.mod.ig.keeps I.b3
theorem Inv.fr (I:Inv X pins J H s):∃m,Fr X.base X.env.locals s.heap m:=
 let⟨m,hn,_⟩:=I.loc
 ⟨m,hn,I.b3,wa0 I.ok.jH I.ok.above⟩
theorem Inv.lt (I:Inv X pins J H s):X.env.locals<↑s:=let⟨_,hn,_⟩:=I.loc;hn.lt
theorem Inv.jk (I:Inv X pins J H s):X.bS.heap.objs.size<=↑s:=wa0 I.ok.above (Nat.le_of_lt I.lt)
theorem Inv.ve (I:Inv X pins J H s)(h:↑s<=a):a ∉ X.aT:=λae=>by
 obtain⟨_,o,aA,_⟩:=I.ok.gY.mem ae;exact br (lt_of_lt_of_le (lt_size aA) (wa0 I.jk h)) (wa7 _)
theorem Inv.lQ (I:Inv X pins J H s):∀x c,X.env.cells.lookup x∣c->c≠X.env.locals:=λx c e z=>by
 obtain⟨v,o,aA,hd⟩:=I.cell x c e;obtain⟨m,⟨bQ,es,cC,eg,pe,_⟩,_⟩:=I.loc;rw[z,eg]at aA;cases aA;rw[pe]at hd;cases hd
theorem Inv.gY (I:Inv X pins J H s):s.heap.FunFrames X.base X.outer:=by
 have all:∀(l:List Env),(∀b∈d4 l,b∈X.aT)->X.bS.heap.FunFrames X.base l->s.heap.FunFrames X.base l:=by
  intro l;induction l with
  | nil=>intro _ _;trivial
  | cons env r bE=>
   intro aI aD;obtain⟨aj,⟨L,o,hf,hn,aA,hd⟩,a5⟩:=aD;have cw:L∈X.aT:=aI L (by unfold d4;rw[filterMap_cons,hf];exact mem_cons_self)
   obtain⟨aL,e⟩:=I.base.slot L o aA (I.ok.jI L cw) cw λz=>I.ok.qT L z cw
   exact⟨aj,⟨L,_,hf,hn,e,hd⟩,bE (λb ae=>aI b (by unfold d4;rw[filterMap_cons,hf];exact mem_cons_of_mem _ ae)) a5⟩
 exact all X.outer (λ_ ae=>ae) I.ok.gY
theorem Inv.stack (I:Inv X pins J H s):s.heap.FunFrames X.base X.stack:=by
 rcases I.ok.qS with e|⟨e,hf⟩
 ·rw[e];exact I.gY
 ·rw[e];obtain⟨m,hn,_⟩:=I.loc;refine .cons (by rw[I.ok.kind];decide) hf hn ?_ I.gY;exact Heap.get?_none_of_le (wa0 I.ok.jH I.ok.above)
theorem Inv.pf (I:Inv X pins J H s):∀b∈d4 X.stack,b∈X.env.locals::X.aT:=λb ae=>by
 rcases I.ok.qS with e|⟨e,hf⟩
 ·rw[e]at ae;exact mem_cons_of_mem _ ae
 ·rw[e]at ae;unfold d4 at ae;rw[filterMap_cons,hf]at ae;exact ae
theorem Inv.vf (I:Inv X pins J H s):∀b∈d4 X.stack,H b=none:=λb ae=>by
 rcases mem_cons.mp (I.pf b ae) with e|ae
 ·rw[e];exact I.free
 ·obtain⟨_,o,aA,_⟩:=I.ok.gY.mem ae;exact I.base.free b o aA (I.ok.jI b ae) λz=>I.ok.qT b z ae
theorem Inv.step {d':Drawn}{ch:List Addr}(I:Inv X pins J H s)
  (lR:∀b∈ch,(b∈X.ex\/X.bS.heap.objs.size<=b)/\b≠X.env.locals/\(∀x c,X.env.cells.lookup x∣c->c≠b)/\∀p∈X.dr++pins,p.1≠b)
  (keep:∀b o,b≠X.env.locals->b ∉ X.aT->b ∉ ch->s.heap.get? b∣o->H b=none->h'.get? b∣o)
  (slot:∀b o,b≠X.env.locals->b∈X.aT->b ∉ ch->s.heap.get? b∣o->H b=none->∃aL,h'.get? b=some { o with slots:=aL }) (free:∀b o,b ∉ ch->s.heap.get? b∣o->H b=none->H' b=none)
  (there:∀b o,b ∉ ch->s.heap.get? b∣o->∃bQ,h'.get? b∣bQ)
  (cH:∀b xs,H b∣.tup xs->H' b∣.tup xs) (fE:∀b o u,H b∣.cc o u->H' b∣.cc o u) (hy:∀b ps,H b∣.eY ps->∃more,H' b∣.eY (ps++more))
  (ns:∀m,s.heap.Ns X.env.locals m->h'.Ns X.env.locals m) (a6:dV X.prog X.w H' h') (bD:AllBare g'):
  Inv X pins J H' { s with heap:=h',gens:=g',drawn:=d',toks:=t' }:=by
 have Du:∀b o,X.bS.heap.get? b∣o->b≠X.env.locals:=λb o e=>ne_of_lt (lt_of_lt_of_le (lt_size e) I.ok.above)
 have vg:∀b o,X.bS.heap.get? b∣o->b ∉ X.ex->b ∉ ch:=λb o e aq ae=>by
  rcases (lR b ae).1 with z|z
  ·exact aq z
  ·exact br (lt_of_lt_of_le (lt_size e) z) (wa7 _)
 have cellK:∀x c,X.env.cells.lookup x∣c->∀v,s.heap.IsCell c v->h'.IsCell c v:=λx c e v ⟨o,aA,hd⟩=>by
  have sy:c ∉ ch:=λz=>(lR c z).2.2.1 x c e rfl
  by_cases ak:c∈X.aT
  ·obtain⟨aL,q⟩:=slot c o (I.lQ x c e) ak sy aA (I.hB x c e);exact⟨_,q,hd⟩
  ·exact⟨o,keep c o (I.lQ x c e) ak sy aA (I.hB x c e),hd⟩
 refine⟨I.ok,I.os,bD,⟨λb o e n ae aq=>?_,λb o e n ae aq=>?_,λb o e n aq=>?_,λb o e aq=>?_,λb xs e=>cH b xs (I.base.cH b xs e),λb o xs e=>fE b o xs (I.base.fE b o xs e),λb ps e=>?_⟩,?_,λx c e=>?_,?_,λx c e=>?_,λp aG=>?_,a6,I.len⟩
 ·exact keep b o (Du b o e) ae (vg b o e aq) (I.base.keep b o e n ae aq) (I.base.free b o e n aq)
 ·obtain⟨aL,ar⟩:=I.base.slot b o e n ae aq;obtain⟨mF,aw⟩:=slot b _ (Du b o e) ae (vg b o e aq) ar (I.base.free b o e n aq);exact⟨mF,aw⟩
 ·obtain⟨bQ,ar⟩:=I.base.there b o e aq;exact free b bQ (vg b o e aq) ar (I.base.free b o e n aq)
 ·obtain⟨bQ,ar⟩:=I.base.there b o e aq;exact there b bQ (vg b o e aq) ar
 ·obtain⟨eO,ar⟩:=I.base.hy b ps e;obtain⟨dh,aw⟩:=hy b _ ar;exact⟨eO++dh,by rw[aw,Array.append_assoc]⟩
 ·obtain⟨m,hn,aD⟩:=I.loc;refine⟨m,ns m hn,λi x v ar aw bV=>?_⟩;obtain⟨u,r,l⟩:=aD i x v ar aw bV;refine⟨u,r,?_⟩;rcases l with l|⟨k,c,e,z⟩
  ·exact .inl l
  ·exact .inr ⟨k,c,e,cellK x c e _ z⟩
 ·obtain⟨v,z⟩:=I.cell x c e;exact⟨v,cellK x c e v z⟩
 ·obtain⟨m,⟨o,_,_,aA,_⟩,_⟩:=I.loc;exact free _ o (λz=>(lR _ z).2.1 rfl) aA I.free
 ·obtain⟨v,o,aA,hd⟩:=I.cell x c e;exact free c o (λz=>(lR c z).2.2.1 x c e rfl) aA (I.hB x c e)
 ·obtain⟨e,n,ne,b5,d⟩:=I.pin p aG;have sy:p.1 ∉ ch:=λz=>(lR p.1 z).2.2.2 p aG rfl
  exact⟨keep p.1 p.2 ne b5 sy e n,free p.1 p.2 sy e n,ne,b5,d⟩
theorem Inv.un (I:Inv X pins J H s) (u:fq X.aT [] H H' s.heap h') (a6:dV X.prog X.w H' h'):Inv X pins J H' { s with heap:=h',toks:=t' }:=by
 obtain⟨m,⟨o,es,cC,aA,r⟩,_⟩:=id I.loc;obtain⟨aL,cw⟩:=u.any aA I.free (by simp);exact I.step (g':=s.gens) (d':=s.drawn) (ch:=[]) nofun (λb o _ ae _ e n=>u.keep b o e n ae (by simp)) (λb o _ ae _ e n=>u.slot b o e n ae (by simp)) (λb o _ e n=>u.free b o e n (by simp)) (λb o _ e=>u.there b o e (by simp)) u.cH u.fE u.hy (λba hm=>by
  obtain⟨bQ,fF,nS,eg,c1⟩:=hm;rw[aA]at eg;cases eg;exact⟨_,fF,nS,cw,c1⟩) a6 I.bare
theorem Inv.call {d':Drawn}{ch:List Addr}(I:Inv X pins J H s) (u:fq (d4 X.stack) ch H H' s.heap h') (a6:dV X.prog X.w H' h') (bD:AllBare g')
  (lR:∀b∈ch,(b∈X.ex\/X.bS.heap.objs.size<=b)/\b≠X.env.locals/\(∀x c,X.env.cells.lookup x∣c->c≠b)/\∀p∈X.dr++pins,p.1≠b):
  Inv X pins J H' { s with heap:=h',gens:=g',drawn:=d',toks:=t' }:=by
 obtain⟨m,⟨o,es,cC,aA,r⟩,_⟩:=id I.loc;obtain⟨aL,cw⟩:=u.any aA I.free λz=>(lR _ z).2.1 rfl
 exact I.step (ch:=ch) lR (λb o cw ae ak e n=>u.keep b o e n (λz=>(mem_cons.mp (I.pf b z)).elim cw ae) ak) (λb o _ _ ak e n=>u.any e n ak) (λb o ak e n=>u.free b o e n ak) (λb o ak e=>u.there b o e ak) u.cH u.fE u.hy (λba hm=>by
  obtain⟨bQ,fF,nS,eg,c1⟩:=hm;rw[aA]at eg;cases eg;exact⟨_,fF,nS,cw,c1⟩) a6 bD
theorem Inv.turned (I:Inv X pins J H s) (k:∀b o,b≠it->s.heap.get? b∣o->h'.get? b∣o) (hn:H it=none) (cw:it≠X.env.locals)
  (aa:it∈X.ex\/X.bS.heap.objs.size<=it) (ag:∀x c,X.env.cells.lookup x∣c->c≠it) (aR:∀p∈X.dr++pins,p.1≠it):Inv X pins J H { s with heap:=h',toks:=t' }:=by
 have Dv:∀b u,H b∣u->b≠it:=λb u e z=>by rw[z,hn]at e;cases e
 refine I.step (g':=s.gens) (d':=s.drawn) (ch:=[it]) (λb ae=>?_) (λb o _ _ ak e _=>k b o (λz=>ak (by simp[z])) e) (λb o _ _ ak e _=>⟨o.slots,k b o (λz=>ak (by simp[z])) e⟩) (λ_ _ _ _ n=>n)
  (λb o ak e=>⟨o,k b o (λz=>ak (by simp[z])) e⟩) (λ_ _ e=>e) (λ_ _ _ e=>e) (λb ps e=>⟨#[],by rw[e];simp⟩) (λm hm=>?_) (λb u e=>?_) I.bare
 ·have e:b=it:=by simpa using ae
  subst e;exact⟨aa,cw,ag,aR⟩
 ·obtain⟨o,es,cC,aA,r⟩:=hm;exact⟨o,es,cC,k _ o (Ne.symm cw) aA,r⟩
 ·refine(I.a6 b u e).gX (λc v ak q=>k c v ?_ q) (λ_ q=>q) λ_ _ q=>q;rcases ak with z|z
  ·rw[z];exact Dv b u e
  ·exact Dv c _ z
theorem Inv.tok (I:Inv X pins J H s)(t:Nat):Inv X pins J H { s with toks:=t }:=I.un (h':=s.heap) (t':=t) fq.refl I.a6
theorem Inv.kept (I:Inv X pins J H s) (k:∀b u,s.heap.get? b∣u->h'.get? b∣u):Inv X pins J H { s with heap:=h',toks:=t' }:=I.un (fq.kept k) (I.a6.kept k)
theorem Inv.laid {o:a3}(I:Inv X pins J H s) (k:∀b u,s.heap.get? b∣u->h'.get? b∣u) (aG:↑s<=a) (new:de X.prog X.w (upd H a o) h' a o):
  Inv X pins J (upd H a o) { s with heap:=h',toks:=t' }:=I.un (fq.laid k aG (I.a6.fresh aG)) (I.a6.laid k aG new)
theorem Inv.write {x e:Addr}{o:a3}(I:Inv X pins J H s) (fD:sx (H x)) (he:e=x\/H e∣.own x) (k:∀b u,b≠e->s.heap.get? b∣u->h'.get? b∣u) (jG:∃u,h'.get? e∣u)
  (new:de X.prog X.w (upd H x o) h' x o):Inv X pins J (upd H x o) { s with heap:=h',toks:=t' }:=I.un (fq.write fD he k jG) (I.a6.write fD he k jG new)
theorem Inv.weak {a7:List (Option V)}(I:Inv X pins J H s)(aD:a7.length=J.length)(w:∀(i:Nat) v,a7[i]?∣some v->J[i]?∣some v):Inv X pins a7 H s:=
 ⟨I.ok,I.os,I.bare,I.base,let⟨m,hn,vh⟩:=I.loc;⟨m,hn,λi x v ar aw bV=>vh i x v ar (w i v aw) bV⟩,I.cell,I.free,I.hB,I.pin,I.a6,aD.trans I.len⟩
def Calm (X:Cx):Prop:=X.calm=true\/∃(a0 C:Addr)(av:Option Addr)(vs:Array Value)(aL:Array (Option Value)),X.A.handled∣.ref a0/\vs[2]?∣Value.none/\(a0,(⟨.ref C,av,.fields vs,aL⟩:Obj))∈X.dr
theorem cY {X:Cx}(h:X.calm=true):Calm X:=.inl h
theorem Inv.calm (I:Inv X pins J H s)(c:Calm X):gL X.A s.heap:=by
 rcases c with c|⟨a0,C,av,vs,aL,aa,ag,aR⟩
 ·exact .inl (I.ok.hd c)
 ·exact .inr ⟨a0,C,av,vs,aL,aa,(I.pin _ (mem_append_left _ aR)).1,ag⟩
theorem Inv.sz {nT:List (Addr×Obj)}(I:Inv X pins J H s)(h:∀p∈nT,s.heap.get? p.1∣p.2/\H p.1=none/\p.1≠X.env.locals/\p.1 ∉ X.aT/\∀v,p.2.data≠.cell v):Inv X nT J H s:=
 ⟨I.ok,I.os,I.bare,I.base,I.loc,I.cell,I.free,I.hB,λp aG=>(mem_append.mp aG).elim (λz=>I.pin p (mem_append_left _ z)) (h p),I.a6,I.len⟩
theorem Dw (b9:N.Nodup)(a:N[i]?∣x) (b:N[j]?∣x):i=j:=by
 obtain⟨aa,ar⟩:=wa4.mp a;obtain⟨ag,aw⟩:=wa4.mp b;exact(List.getElem_inj b9).mp (ar.trans aw.symm)
theorem Dx {v:V}{Q:Unit->Shared->Prop}(I:Inv X pins J H s) (b9:X.N.Nodup) (au:X.N[i]?∣x) (aq:Loc X.env.scope x) (r:RelV v u)
  (h:∀s',Inv X pins (J.set i (some v)) H s'->(∃a,Heap.SameBut a s.heap s'.heap/\(a=X.env.locals\/X.env.cells.lookup x∣a))->Q () s') (hf:autoParam (X.fn x=true\/X.env.scope.names.lookup x=some .local) dD._auto_1):wpAny M A (storeName X.env x u) Q E s:=by
 obtain⟨m,hn,aD⟩:=id I.loc;have Nj:(X.env.scope.kind==.class||(X.env.scope.kind==.module&&X.env.locals != X.env.globals))=false:=by rw[I.ok.kind];rfl
 have Dy:i<J.length:=by rw[I.len];exact(wa4.mp au).1
 have lQ:=I.lQ
 have tracked:∀{a:Addr}{h':Heap},(∃o,s.heap.get? a∣o/\H a=none)->Heap.SameBut a s.heap h'->dV X.prog X.w H h':=λ{a h'} aN aI b ob e=>by
  obtain⟨_,_,Dz⟩:=aN;refine(I.a6 b ob e).gX (λc eo ak q=>(aI.2 c ?_).trans q) (λ_ q=>q) λ_ _ q=>q;rintro rfl;rcases ak with rfl|ak
  ·rw[Dz]at e;cases e
  ·rw[Dz]at ak;cases ak
 rcases aq with aj|aj
 ·refine wpAny_storeName_local aj hn (λh' yp aI=>?_) Nj;obtain⟨Nk,_,_,sA,_⟩:=id hn;refine h _ ⟨I.ok,I.os,I.bare,⟨λb o e n ae aq=>?_,λb o e n ae aq=>?_,I.base.free,λb o e aq=>?_,I.base.cH,I.base.fE,I.base.hy⟩,⟨_,yp,λj y ep ar aw bV=>?_⟩,λy c e=>?_,I.free,I.hB,λp aG=>?_,tracked ⟨Nk,sA,I.free⟩ aI,by simpa using I.len⟩ ⟨_,aI,.inl rfl⟩
  ·exact(aI.2 b (ne_of_lt (lt_of_lt_of_le (lt_size e) I.ok.above))).trans (I.base.keep b o e n ae aq)
  ·obtain⟨aL,ar⟩:=I.base.slot b o e n ae aq;exact⟨aL,(aI.2 b (ne_of_lt (lt_of_lt_of_le (lt_size e) I.ok.above))).trans ar⟩
  ·obtain⟨bQ,ar⟩:=I.base.there b o e aq;exact⟨bQ,(aI.2 b (ne_of_lt (lt_of_lt_of_le (lt_size e) I.ok.above))).trans ar⟩
  ·by_cases aZ:j=i
   ·subst aZ;rw[au]at ar;cases ar;rw[List.getElem?_set_self Dy]at aw;cases aw;exact⟨u,r,.inl ⟨aj,by simp⟩⟩
   ·rw[List.getElem?_set_ne (Ne.symm aZ)]at aw;obtain⟨nU,c1,q⟩:=aD j y ep ar aw bV;refine⟨nU,c1,?_⟩;rcases q with⟨k,e⟩|⟨k,c,e,z⟩
    ·refine .inl ⟨k,?_⟩;have:y≠x:=λe=>aZ (Dw b9 ar (e ▸ au))
     simp[this,e]
    ·exact .inr ⟨k,c,e,z.sameBut aI (lQ y c e)⟩
  ·obtain⟨eo,z⟩:=I.cell y c e;exact⟨eo,z.sameBut aI (lQ y c e)⟩
  ·obtain⟨e,n,ne,b5,d⟩:=I.pin p aG;exact⟨(aI.2 p.1 ne).trans e,n,ne,b5,d⟩
 ·have pg:X.fn x=true:=by
   rcases hf with z|z
   ·exact z
   ·rw[z]at aj;cases aj
  obtain⟨c,ak⟩:=I.ok.has x (.inl aj);obtain⟨eo,z⟩:=I.cell x c ak;refine wpAny_storeName_cell I.ok.kind aj ak z (λh' hT aI=>?_);obtain⟨c7,mG,Nl⟩:=id z;refine h { s with heap:=h' } ⟨I.ok,I.os,I.bare,⟨λb o e n ae aq=>?_,λb o e n ae aq=>?_,I.base.free,λb o e aq=>?_,I.base.cH,I.base.fE,I.base.hy⟩,⟨m,hn.sameBut aI (Ne.symm (lQ x c ak)),λj y ep ar aw bV=>?_⟩,λy aY e=>?_,I.free,I.hB,λp aG=>?_,tracked ⟨c7,mG,I.hB x c ak⟩ aI,by simpa using I.len⟩ ⟨c,aI,.inr ak⟩
  ·exact(aI.2 b (ne_of_lt (lt_of_lt_of_le (lt_size e) (I.ok.nR x c pg ak)))).trans (I.base.keep b o e n ae aq)
  ·obtain⟨aL,ar⟩:=I.base.slot b o e n ae aq;exact⟨aL,(aI.2 b (ne_of_lt (lt_of_lt_of_le (lt_size e) (I.ok.nR x c pg ak)))).trans ar⟩
  ·obtain⟨bQ,ar⟩:=I.base.there b o e aq;exact⟨bQ,(aI.2 b (ne_of_lt (lt_of_lt_of_le (lt_size e) (I.ok.nR x c pg ak)))).trans ar⟩
  ·by_cases aZ:j=i
   ·subst aZ;rw[au]at ar;cases ar;rw[List.getElem?_set_self Dy]at aw;cases aw;exact⟨u,r,.inr ⟨.inl aj,c,ak,hT⟩⟩
   ·rw[List.getElem?_set_ne (Ne.symm aZ)]at aw;obtain⟨nU,c1,q⟩:=aD j y ep ar aw bV;refine⟨nU,c1,?_⟩;rcases q with q|⟨k,aY,e,fs⟩
    ·exact .inl q
    ·refine .inr ⟨k,aY,e,fs.sameBut aI ?_⟩;rintro rfl;exact aZ (Dw b9 ar (I.ok.inj _ _ _ e ak ▸ au))
  ·by_cases ph:aY=c
   ·subst ph;exact⟨_,hT⟩
   ·obtain⟨lS,eP⟩:=I.cell y aY e;exact⟨lS,eP.sameBut aI ph⟩
  ·obtain⟨e,n,ne,b5,d⟩:=I.pin p aG;refine⟨(aI.2 p.1 ?_).trans e,n,ne,b5,d⟩;intro q;rw[q,mG]at e;have q':c7=p.2:=wa5 e
   exact d eo (by rwa[<- q'])
theorem vi {v:V}{Q:Unit->Shared->Prop}(I:Inv X pins J H s) (b9:X.N.Nodup) (au:X.N[i]?∣x) (aq:Loc X.env.scope x) (r:RelV v u)
  (h:∀s',Inv X pins (J.set i (some v)) H s'->Q () s') (hf:autoParam (X.fn x=true\/X.env.scope.names.lookup x=some .local) dD._auto_1):wpAny M A (storeName X.env x u) Q E s:=
 Dx I b9 au aq r (λs' dt _=>h s' dt) hf
theorem Inv.DA {ch:List Addr}(I:Inv X pins J H s) (aA:s'.os=s.os) (u:fq (d4 X.stack) ch H H' s.heap s'.heap) (a6:dV X.prog X.w H' s'.heap) (bD:AllBare s'.gens)
  (lR:∀b∈ch,(b∈X.ex\/X.bS.heap.objs.size<=b)/\b≠X.env.locals/\(∀x c,X.env.cells.lookup x∣c->c≠b)/\∀p∈X.dr++pins,p.1≠b):Inv X pins J H' s':=by
 obtain⟨h',g',d',t',bQ⟩:=s';have e:bQ=s.os:=aA
 subst e;exact I.call (g':=g') (t':=t') (d':=d') u a6 bD lR
end
abbrev bL:=Value->Option Addr->ah->Prop
abbrev St:=List (Option V)
abbrev bo:=V->ah->Prop
abbrev TE:=St->ah->bo->Prop
abbrev TT:=St->ah->(Bool->ah->Prop)->Prop
abbrev dz:=St->ah->(List V->ah->Prop)->Prop
structure Ends where
 aP:St->ah->Prop
 ih:bo
 b3:St->ah->Prop:=λ_ _=>False
 bW:St->ah->Prop:=λ_ _=>False
abbrev cV:=Ends->St->ah->Prop
def fR (X:Cx)(pins:List (Addr×Obj))(J:St)(Q:bo)(u:Value)(s':Shared):Prop:=∃v H',Inv X pins J H' s'/\RelV v u/\Q v H'
def yq (X:Cx)(pins:List (Addr×Obj))(J:St)(Q:Bool->ah->Prop)(b:Bool)(s':Shared):Prop:=∃H',Inv X pins J H' s'/\Q b H'
def DB (X:Cx)(pins:List (Addr×Obj))(J:St)(Q:List V->ah->Prop)(us:List Value)(s':Shared):Prop:=∃vs H',Inv X pins J H' s'/\Vals vs us/\Q vs H'
def hU (X:Cx)(pins:List (Addr×Obj))(D:Ends)(f:Flow)(s':Shared):Prop:=
 match f with
 | .next=>∃a7 H',Inv X pins a7 H' s'/\D.aP a7 H'
 | .brk=>∃a7 H',Inv X pins a7 H' s'/\D.b3 a7 H'
 | .cont=>∃a7 H',Inv X pins a7 H' s'/\D.bW a7 H'
 | .ret u=>∃v a7 H',Inv X pins a7 H' s'/\RelV v u/\D.ih v H'
def PE (X:Cx)(e:Expr)(t:TE):Prop:=
 ∀(pins:List (Addr×Obj))(s:Shared)(J:St)(H:ah)(Q:bo),Inv X pins J H s->t J H Q->wpAny (model X.prog X.w) X.A (eval e X.env) (fR X pins J Q) X.cQ s
def ij (X:Cx)(e:Expr)(t:TT):Prop:=
 ∀(pins:List (Addr×Obj))(s:Shared)(J:St)(H:ah)(Q:Bool->ah->Prop),Inv X pins J H s->t J H Q->wpAny (model X.prog X.w) X.A (isTrue e X.env (eval e X.env)) (yq X pins J Q) X.cQ s
def eF (X:Cx)(e:Expr)(t:TT):Prop:=
 ∀(whole:Sem Value)(pins:List (Addr×Obj))(s:Shared)(J:St)(H:ah)(Q:Bool->ah->Prop),Inv X pins J H s->t J H Q->wpAny (model X.prog X.w) X.A (isTrue e X.env whole) (yq X pins J Q) X.cQ s
theorem eF.pt {X:Cx}{t:TT}(h:eF X e t):ij X e t:=h _
def PA (X:Cx)(es:List Expr)(t:dz):Prop:=
 ∀(pos:Pos)(pins:List (Addr×Obj))(s:Shared)(J:St)(H:ah)(Q:List V->ah->Prop),Inv X pins J H s->t J H Q->wpAny (model X.prog X.w) X.A (spliced (backTo pos (starEach es X.env))) (DB X pins J Q) X.cQ s
def PS (X:Cx)(st:Stmt)(t:cV):Prop:=
 ∀(pins:List (Addr×Obj))(s:Shared)(J:St)(H:ah)(D:Ends),Inv X pins J H s->t D J H->wpAny (model X.prog X.w) X.A (exec st X.env) (hU X pins D) X.cQ s
def PSs (X:Cx)(st:List Stmt)(t:cV):Prop:=
 ∀(pins:List (Addr×Obj))(s:Shared)(J:St)(H:ah)(D:Ends),Inv X pins J H s->t D J H->wpAny (model X.prog X.w) X.A (execs st X.env) (hU X pins D) X.cQ s
theorem bz {t:Sem α}{Q iQ:α->Shared->Prop}(h:wpAny M A t Q E s) (ec:∀a s,Q a s->iQ a s):wpAny M A t iQ E s:=wpAny_mono h ec λ_ _ x=>x
section
variable {X:Cx}
def zxs (i:Nat):TE:=λJ H Q=>∃v,J[i]?∣some v/\Q v H
def tC (v:V):TE:=λ_ H Q=>Q v H
theorem DC {pos:Pos}(b9:X.N[i]?∣x) (aJ:qR X.env.scope x) (hd:autoParam ((x==("__debug__":Str))=false) dB._auto_1) (eL:autoParam ((x==("__classdict__":Str))=false) dB._auto_1):PE X (.Name x pos) (zxs i):=by
 intro pins s J H Q I h;obtain⟨v,e,h⟩:=h;obtain⟨m,hn,aD⟩:=I.loc;obtain⟨u,r,l⟩:=aD i x v b9 e aJ;have fin:fR X pins J Q u s:=⟨v,H,I,r,h⟩
 rcases l with⟨aj,hm⟩|⟨aj,c,ak,vj⟩
 ·exact wpAny_Name (wpAny_loadName_local I.ok.kind aj hn hm fin) hd
 ·rcases aj with aj|aj
  ·exact wpAny_Name (wpAny_loadName_cell I.ok.kind aj ak vj fin) hd
  ·exact wpAny_Name (wpAny_loadName_free I.ok.kind aj ak vj fin eL) hd
theorem zc {i j pos}:PE X (.Constant (.int i) j pos) (tC (.int i)):=λ_ _ _ H _ I h=>wpAny_Constant_int ⟨.int i,H,I.tok _,⟨_,rfl⟩,h⟩
theorem jJ {b j pos}:PE X (.Constant (.bool b) j pos) (tC (.bl b)):=λ_ _ _ H _ I h=>Constant_bool ⟨.bl b,H,I,rfl,h⟩
theorem hi {j pos}:PE X (.Constant .none j pos) (tC .bx):=λ_ _ _ H _ I h=>Constant_none ⟨.bx,H,I,rfl,h⟩
theorem eh {x j pos}:PE X (.Constant (.str x) j pos) (tC (.str x)):=λ_ _ _ H _ I h=>Calls.Constant_str ⟨.str x,H,I.tok _,⟨_,rfl⟩,h⟩
def ft (X:Cx)(x:Str):Prop:=X.env.kindOf x=some .globalImplicit
theorem nV {J:St}{H:ah}{pos:Pos}(I:Inv X pins J H s) (bD:ft X x) (hm:X.mg x∣u) (h:Q u s)
  (hd:autoParam ((x==("__debug__":Str))=false) dB._auto_1):wpAny (model X.prog X.w) X.A (eval (.Name x pos) X.env) Q E s:=
 Calls.Name_function_global I.ok.kind bD (Calls.loadGlobal_global (by rw[I.ok.glob];exact I.mod.glob.keeps I.b3) hm h) hd
theorem kG {J:St}{H:ah}{pos:Pos}(I:Inv X pins J H s) (bD:ft X x) (hm:X.mg x=none) (aJ:bootBuiltins x∣u) (h:Q u s)
  (hn:autoParam (x≠"__name__") dB._auto_1) (hd:autoParam ((x==("__debug__":Str))=false) dB._auto_1):wpAny (model X.prog X.w) X.A (eval (.Name x pos) X.env) Q E s:=by
 obtain⟨iP,aa,ag⟩:=I.mod.blt;exact Calls.Name_function_global I.ok.kind bD (Calls.loadGlobal_builtin (by rw[I.ok.glob];exact I.mod.glob.keeps I.b3) hm (by rw[I.ok.blt];exact aa.keeps I.b3) ((ag x hn).trans aJ) h) hd
theorem yr {v:V}{pos:Pos}(bD:ft X x) (hm:X.mg x∣u) (r:RelV v u) (hd:autoParam ((x==("__debug__":Str))=false) dB._auto_1):PE X (.Name x pos) (tC v):=
 λ_ _ _ H _ I h=>nV I bD hm ⟨v,H,I,r,h⟩ hd
theorem Nm {v:V}{pos:Pos}(bD:ft X x) (hm:X.mg x=none) (aJ:bootBuiltins x∣u) (r:RelV v u) (hn:autoParam (x≠"__name__") dB._auto_1) (hd:autoParam ((x==("__debug__":Str))=false) dB._auto_1):PE X (.Name x pos) (tC v):=
 λ_ _ _ H _ I h=>kG I bD hm aJ ⟨v,H,I,r,h⟩ hn hd
variable {a b:Expr}{bB bj:TE}{pos:Pos}
def vk (X:Cx)(op:CmpOp)(a b:Expr)(t:TE):Prop:=
 ∀(pins:List (Addr×Obj))(s:Shared)(J:St)(H:ah)(Q:bo),Inv X pins J H s->t J H Q->
  wpAny (model X.prog X.w) X.A (eval a X.env) (λv d6=>wpAny (model X.prog X.w) X.A (eval b X.env) (λu hV=>wpAny (model X.prog X.w) X.A (compareOp op v u) (fR X pins J Q) X.cQ hV) X.cQ d6) X.cQ s
theorem MQ (b:Expr)(h:op≠.In) (ag:op≠.NotIn):behindInMarks op b=false:=by
 have ar:(op==CmpOp.In)=false:=by cases op<;>first|rfl|exact br rfl h
 have aw:(op==CmpOp.NotIn)=false:=by cases op<;>first|rfl|exact br rfl ag
 cases b<;>simp[behindInMarks,ar,aw]
def tB (t:TE):TT:=λJ H Q=>t J H λx H1=>∃c,x=.bl c/\Q c H1
theorem DD {t:TE}(h:vk X op a b t) (aa:autoParam (behindInMarks op b=false) dF._auto_1):PE X (.Compare a [op] [b] pos) t:=λpins s J H Q I hw=>wpAny_Compare1 (h pins s J H Q I hw) aa
theorem vl {t:TE}(h:vk X op a b t) (aa:autoParam (behindInMarks op b=false) dF._auto_1):ij X (.Compare a [op] [b] pos) (tB t):=by
 intro pins s J H Q I hw;refine wpAny_isTrue_Compare1 (bz (h pins s J H _ I hw) λv s1 aa=>bz aa λu s2 ag=>bz ag λc s3 ⟨x,H1,aO,bX,a8⟩=>?_) aa;obtain⟨d,rfl,q⟩:=a8;cases bX;exact wpAny_truthy_bool ⟨H1,aO,q⟩
theorem fS {t:TE}(h:PE X e t) (he:∀whole,isTrue e X.env whole=(do let v <- whole;standAt e.pos;holding [v] (truthy v)):=by intro _;rfl):ij X e (tB t):=by
 intro pins s J H Q I hw;refine isTrue_plain (bz (h pins s J H _ I hw) λv s1 ⟨x,H1,aO,bX,a8⟩=>?_) (he _);obtain⟨d,rfl,q⟩:=a8;cases bX;exact wpAny_truthy_bool ⟨H1,aO,q⟩
variable {j8 vm:TT}{rest:List Expr}
def zvy (t u:TT):TT:=λJ H Q=>t J H λc H1=>if c=true then u J H1 Q else Q false H1
def tOr (t u:TT):TT:=λJ H Q=>t J H λc H1=>if c=true then Q true H1 else u J H1 Q
def zwu (t:TT):TT:=λJ H Q=>t J H λc H1=>Q (!c) H1
theorem jK (aN:ij X a j8):eF X (.BoolOp .And [a] pos) j8:=by
 intro sC pins s J H Q I h;refine isTrue_and (bz (aN pins s J H Q I h) λc s1 e=>?_);cases c with
 | true=>exact isTrue_and_nil e
 | false=>exact e
theorem kH (aN:ij X a j8):eF X (.BoolOp .Or [a] pos) j8:=by
 intro sC pins s J H Q I h;refine isTrue_or (bz (aN pins s J H Q I h) λc s1 e=>?_);cases c with
 | false=>exact isTrue_or_nil e
 | true=>exact e
theorem jl (aN:ij X a j8)(ae:eF X (.BoolOp .And (b::rest) pos) vm):eF X (.BoolOp .And (a::b::rest) pos) (zvy j8 vm):=by
 intro sC pins s J H Q I h;refine isTrue_and (bz (aN pins s J H _ I h) λc s1 ⟨H1,aO,a8⟩=>?_);cases c with
 | true=>exact ae sC pins s1 J H1 Q aO a8
 | false=>exact⟨H1,aO,a8⟩
theorem jm (aN:ij X a j8)(ae:eF X (.BoolOp .Or (b::rest) pos) vm):eF X (.BoolOp .Or (a::b::rest) pos) (tOr j8 vm):=by
 intro sC pins s J H Q I h;refine isTrue_or (bz (aN pins s J H _ I h) λc s1 ⟨H1,aO,a8⟩=>?_);cases c with
 | true=>exact⟨H1,aO,a8⟩
 | false=>exact ae sC pins s1 J H1 Q aO a8
theorem jn (aN:ij X a j8):ij X (.UnaryOp .Not a pos) (zwu j8):=by
 intro pins s J H Q I h;exact isTrue_not (aN pins s J H (λc H1=>Q (!c) H1) I h)
def zsp (bB bj:TE):TE:=λJ H Q=>bB J H λx H1=>∃c,x=.bl c/\if c=true then bj J H1 Q else Q (.bl false) H1
def zuf (bB bj:TE):TE:=λJ H Q=>bB J H λx H1=>∃c,x=.bl c/\if c=true then Q (.bl true) H1 else bj J H1 Q
def zsk (bB:TE):TE:=λJ H Q=>bB J H λx H1=>∃c,x=.bl c/\Q (.bl (!c)) H1
theorem kI {op}{t:TE}(h:PE X a t):PE X (.BoolOp op [a] pos) t:=λpins s J H Q I hw=>BoolOp_one (h pins s J H Q I hw)
theorem lT (aN:PE X a bB)(ae:PE X (.BoolOp .And (b::rest) pos) bj):PE X (.BoolOp .And (a::b::rest) pos) (zsp bB bj):=by
 intro pins s J H Q I h;refine BoolOp_and (bz (aN pins s J H _ I h) λv s1 ⟨x,H1,aO,bX,a8⟩=>?_);obtain⟨c,rfl,a8⟩:=a8;cases bX;refine wpAny_truthy_bool ?_;cases c with
 | true=>exact ae pins s1 J H1 Q aO a8
 | false=>exact⟨.bl false,H1,aO,rfl,a8⟩
theorem ys (aN:PE X a bB)(ae:PE X (.BoolOp .Or (b::rest) pos) bj):PE X (.BoolOp .Or (a::b::rest) pos) (zuf bB bj):=by
 intro pins s J H Q I h;refine BoolOp_or (bz (aN pins s J H _ I h) λv s1 ⟨x,H1,aO,bX,a8⟩=>?_);obtain⟨c,rfl,a8⟩:=a8;cases bX;refine wpAny_truthy_bool ?_;cases c with
 | false=>exact ae pins s1 J H1 Q aO a8
 | true=>exact⟨.bl true,H1,aO,rfl,a8⟩
theorem Nn (aN:PE X a bB):PE X (.UnaryOp .Not a pos) (zsk bB):=by
 intro pins s J H Q I h;refine UnaryOp_ (bz (aN pins s J H _ I h) λv s1 ⟨x,H1,aO,bX,a8⟩=>?_);obtain⟨c,rfl,a8⟩:=a8;cases bX;exact not_of (wpAny_truthy_bool ⟨.bl (!c),H1,aO,rfl,a8⟩)
def tIf (t:TT)(bB bj:TE):TE:=λJ H Q=>t J H λc H1=>if c=true then bB J H1 Q else bj J H1 Q
theorem sD {c:Expr}(ak:ij X c j8) (aN:PE X a bB) (ae:PE X b bj):PE X (.IfExp c a b pos) (tIf j8 bB bj):=by
 intro pins s J H Q I h;refine wpAny_IfExp (bz (ak pins s J H _ I h) λd s1 ⟨H1,aO,a8⟩=>?_);cases d with
 | true=>exact aN pins s1 J H1 Q aO a8
 | false=>exact ae pins s1 J H1 Q aO a8
end
def aK (K:Frag)(H:ah)(a:Addr)(xs:List V):Prop:=
 jj H a (.lst xs)\/
  ∃(o:Obj)(aU:Array Value)(n:Nat),K.lookup a∣o/\o.cls=.type "list"/\o.dict=none/\o.data=.seq aU n/\aU.size<=sizeLine/\Vals xs aU.toList
def bT (K:Frag)(H:ah)(a:Addr)(xs:List V):Prop:=
 jj H a (.tup xs)\/
  ∃(o:Obj)(aU:Array Value)(n:Nat),K.lookup a∣o/\o.cls=.type "tuple"/\o.data=.seq aU n/\aU.size<=sizeLine/\Vals xs aU.toList
def Np:Value->Option V
 | .none=>some .bx
 | .bool b=>some (.bl b)
 | .int i _=>some (.int i)
 | .str x _=>some (.str x)
 | .bytes b _=>some (.j7 b)
 | .float b _=>some (.pa b)
 | .ref a=>some (.ref a)
 | .type n=>some (.ty n)
 | _=>none
theorem RelV.abs {x:V}(r:RelV x u):Np u∣x:=by
 cases x with
 | bx=>cases r;rfl
 | bl _=>cases r;rfl
 | int _=>obtain⟨t,rfl⟩:=r;rfl
 | str _=>obtain⟨t,rfl⟩:=r;rfl
 | j7 _=>obtain⟨t,rfl⟩:=r;rfl
 | pa _=>obtain⟨t,rfl⟩:=r;rfl
 | ref _=>cases r;rfl
 | ty _=>cases r;rfl
theorem RelV.inj {x y:V}(r:RelV x u) (q:RelV y u):x=y:=wa5 (r.abs.symm.trans q.abs)
theorem Vals.inj:∀{xs aF:List V}{us:List Value},Vals xs us->Vals aF us->xs=aF
 | _,_,_,.nil,.nil=>rfl
 | _,_,_,.cons r t,.cons c1 t'=>by rw[r.inj c1,Vals.inj t t']
section
variable {X:Cx}{pins:List (Addr×Obj)}{J:St}{H:ah}{s:Shared}{a:Addr}{xs aF:List V}
theorem aK.of (h:H a∣.lst xs):aK K H a xs:=.inl (.inl h)
theorem bT.of (h:H a∣.tup xs):bT K H a xs:=.inl (.inl h)
theorem Inv.list (I:Inv X pins J H s)(h:aK X.K H a xs):∃aU:List Value,Vals xs aU/\PlainL s.heap a aU.toArray/\xs.length<=sizeLine:=by
 rcases h with h|⟨o,aU,n,aj,ak,hd,aI,hz,r⟩
 ·obtain⟨z,aU,n,r,e⟩:=h.ok I.a6;exact⟨aU,r,⟨_,n,e,rfl,rfl,rfl⟩,z⟩
 ·refine⟨aU.toList,r,⟨o,n,I.d5 a o aj,ak,hd,by simpa using aI⟩,?_⟩;have e:=r.length
  simp only[Array.length_toList]at e;omega
theorem Inv.tuple (I:Inv X pins J H s)(h:bT X.K H a xs):∃aU:List Value,Vals xs aU/\IsTup s.heap a aU.toArray/\xs.length<=sizeLine:=by
 rcases h with h|⟨o,aU,n,aj,ak,aI,hz,r⟩
 ·obtain⟨z,aU,r,p⟩:=h.ok I.a6;exact⟨aU,r,p,z⟩
 ·refine⟨aU.toList,r,⟨o,I.d5 a o aj,ak,n,by simpa using aI⟩,?_⟩;have e:=r.length
  simp only[Array.length_toList]at e;omega
theorem Inv.DE (I:Inv X pins J H s)(h:aK X.K H a xs)(h':aK X.K H a aF):xs=aF:=by
 obtain⟨aU,r,⟨o,n,e,_,_,d⟩,_⟩:=I.list h;obtain⟨its',c1,⟨bQ,jo,a4,_,_,d'⟩,_⟩:=I.list h';rw[e]at a4;cases a4;rw[d]at d';injection d' with gg _
 have:aU=its':=by simpa using congrArg Array.toList gg
 subst this;exact r.inj c1
theorem Inv.Nq (I:Inv X pins J H s)(h:bT X.K H a xs)(h':bT X.K H a aF):xs=aF:=by
 obtain⟨aU,r,⟨o,e,_,n,d⟩,_⟩:=I.tuple h;obtain⟨its',c1,⟨bQ,a4,_,jo,d'⟩,_⟩:=I.tuple h';rw[e]at a4;cases a4;rw[d]at d';injection d' with gg _
 have:aU=its':=by simpa using congrArg Array.toList gg
 subst this;exact r.inj c1
end
abbrev Cx.wish (X:Cx)(E:wvP):Cx:={ X with cQ:=E }
abbrev Cx.nox (X:Cx):Cx:=X.wish λ_ _=>False
theorem Cx.Ok.wish {X:Cx}(ok:X.Ok) (E:wvP):(X.wish E).Ok:=
 ⟨ok.mod,ok.kind,ok.glob,ok.blt,ok.above,ok.inj,ok.has,ok.nR,ok.hd,ok.frames,ok.qS,ok.vd,ok.bs,ok.jH,ok.pd,ok.qT,ok.gY,ok.jI⟩
theorem Cx.Ok.nW {X:Cx}(ok:(X.wish E).Ok):X.Ok:=
 ⟨ok.mod,ok.kind,ok.glob,ok.blt,ok.above,ok.inj,ok.has,ok.nR,ok.hd,ok.frames,ok.qS,ok.vd,ok.bs,ok.jH,ok.pd,ok.qT,ok.gY,ok.jI⟩
section
variable {X:Cx}{pins:List (Addr×Obj)}{J:St}{H:ah}{s:Shared}{E:wvP}
theorem Inv.wish (I:Inv X pins J H s)(E:wvP):Inv (X.wish E) pins J H s:=⟨I.ok.wish E,I.os,I.bare,I.base,I.loc,I.cell,I.free,I.hB,I.pin,I.a6,I.len⟩
theorem Inv.nW (I:Inv (X.wish E) pins J H s):Inv X pins J H s:=⟨I.ok.nW,I.os,I.bare,I.base,I.loc,I.cell,I.free,I.hB,I.pin,I.a6,I.len⟩
theorem hU.nW {D:Ends}{f:Flow}(h:hU (X.wish E) pins D f s'):hU X pins D f s':=by
 cases f with
 | next=>obtain⟨a7,H',I,q⟩:=h;exact⟨a7,H',I.nW,q⟩
 | brk=>obtain⟨a7,H',I,q⟩:=h;exact⟨a7,H',I.nW,q⟩
 | cont=>obtain⟨a7,H',I,q⟩:=h;exact⟨a7,H',I.nW,q⟩
 | ret u=>obtain⟨v,a7,H',I,r,q⟩:=h;exact⟨v,a7,H',I.nW,r,q⟩
theorem PSs.nox {st:List Stmt}{t:cV}(h:PSs X.nox st t):PSs X st t:=λpins s J H D I hw=>
 wpAny_mono (h pins s J H D (I.wish _) hw) (λ_ _ q=>q.nW) λ_ _ z=>False.elim z
end
section
variable {X:Cx}{st:Stmt}{rest:List Stmt}{t u:cV}{e:Expr}{bM:TE}{pos:Pos}
def zsm:cV:=λD J H=>D.aP J H
def yt (t u:cV):cV:=λD J H=>t { D with aP:=u D } J H
theorem zx:PSs X [] zsm:=λ_ _ J H _ I h=>wpAny_execs_nil ⟨J,H,I,h⟩
theorem aV (aa:PS X st t)(ag:PSs X rest u):PSs X (st::rest) (yt t u):=by
 intro pins s J H D I h;refine wpAny_execs_cons (bz (aa pins s J H { D with aP:=u D } I h) λf s1 q=>?_);cases f with
 | next=>
  obtain⟨a7,H',dt,q⟩:=q;exact ag pins s1 a7 H' D dt q
 | ret v=>exact q
 | brk=>exact q
 | cont=>exact q
theorem aX (aa:PS X st t):PSs X [st] t:=by
 intro pins s J H D I h;refine wpAny_execs_cons (bz (aa pins s J H D I h) λf s1 q=>?_);cases f with
 | next=>exact wpAny_execs_nil q
 | ret v=>exact q
 | brk=>exact q
 | cont=>exact q
def zku:cV:=λD J H=>D.b3 J H
def DF:cV:=λD J H=>D.bW J H
theorem Nr:PS X (.Break pos) zku:=λ_ _ J H _ I h=>wpAny_Break ⟨J,H,I,h⟩
theorem DG:PS X (.Continue pos) DF:=λ_ _ J H _ I h=>wpAny_Continue ⟨J,H,I,h⟩
theorem Inv.quiet {J:St}{H:ah}(I:Inv X pins J H s):interactive X.env=false:=by simp[interactive,I.ok.kind]
def zsb (bM:TE):cV:=λD J H=>bM J H λ_ H1=>D.aP J H1
theorem hj (he:PE X e bM)(aI:autoParam (swapsWith e none pos.line X.env=pure false) dA._auto_1):PS X (.Expr e pos) (zsb bM):=by
 intro pins s J H D I h;exact wpAny_Expr_any (bz (he pins s J H _ I h) λv s1 ⟨x,H1,aO,bX,a8⟩=>⟨J,H1,aO,a8⟩) I.quiet aI
def zxw (bM:TE):cV:=λD J H=>bM J H D.ih
theorem bY (he:PE X e bM):PS X (.Return (some e) pos) (zxw bM):=by
 intro pins s J H D I h;exact wpAny_Return_some (bz (he pins s J H _ I h) λv s1 ⟨x,H1,aO,bX,a8⟩=>⟨x,J,H1,aO,bX,a8⟩)
def zxq (c:TT)(t u:cV):cV:=λD J H=>c J H λb H1=>if b=true then t D J H1 else u D J H1
theorem cN {c:Expr}{a b:List Stmt}{aC:TT}(ak:ij X c aC) (aN:PSs X a t) (ae:PSs X b u):PS X (.If c a b pos) (zxq aC t u):=by
 intro pins s J H D I h;refine wpAny_If (bz (ak pins s J H _ I h) λd s1 ⟨H1,aO,a8⟩=>?_);cases d with
 | true=>exact aN pins s1 J H1 D aO a8
 | false=>exact ae pins s1 J H1 D aO a8
def zju:cV:=λ_ _ _=>False
theorem pj {Nt:List Stmt}:PSs X Nt zju:=λ_ _ _ _ _ _ h=>h.elim
end
abbrev fi:=V->St->ah->(St->ah->Prop)->Prop
abbrev pk:=List V->St->ah->(St->ah->Prop)->Prop
def PG (X:Cx)(target:Expr)(t:fi):Prop:=
 ∀(pins:List (Addr×Obj))(s:Shared)(J:St)(H:ah)(v:V)(u:Value)(Q:St->ah->Prop),Inv X pins J H s->RelV v u->t v J H Q->
  wpAny (model X.prog X.w) X.A (assign target X.env u) (λ_ s'=>∃a7 H',Inv X pins a7 H' s'/\Q a7 H') X.cQ s
def vn (X:Cx)(ts:List Expr)(t:pk):Prop:=
 ∀(pins:List (Addr×Obj))(s:Shared)(J:St)(H:ah)(vs:List V)(us:List Value)(Q:St->ah->Prop),Inv X pins J H s->Vals vs us->t vs J H Q->
  wpAny (model X.prog X.w) X.A (assignInOrder ((assignEach ts X.env).map (·.2)) us) (λ_ s'=>∃a7 H',Inv X pins a7 H' s'/\Q a7 H') X.cQ s
abbrev yu:=V->V->V->ah->(ah->Prop)->Prop
def DH (X:Cx)(t:yu):Prop:=
 ∀(pins:List (Addr×Obj))(s:Shared)(J:St)(H:ah)(o i v:V)(dK hk u:Value)(Q:ah->Prop),Inv X pins J H s->RelV o dK->RelV i hk->RelV v u->t o i v H Q->
  wpAny (model X.prog X.w) X.A (setItem dK hk u) (λ_ s'=>∃H',Inv X pins J H' s'/\Q H') X.cQ s
abbrev qU:=V->V->ah->bo->Prop
def sE (X:Cx)(op:Operator)(t:qU):Prop:=
 ∀(pins:List (Addr×Obj))(s:Shared)(J:St)(H:ah)(x y:V)(v u:Value)(Q:bo),Inv X pins J H s->RelV x v->RelV y u->t x y H Q->
  wpAny (model X.prog X.w) X.A (inplaceOp op v u) (fR X pins J Q) X.cQ s
section
variable {X:Cx}{pos:Pos}
def hW (i:Nat):fi:=λv J H Q=>Q (J.set i (some v)) H
theorem hX (b9:X.N.Nodup) (au:X.N[i]?∣x) (aq:Loc X.env.scope x) (hf:autoParam (X.fn x=true\/X.env.scope.names.lookup x=some .local) dD._auto_1):PG X (.Name x pos) (hW i):=by
 intro pins s J H v u Q I r h;exact wpAny_assign_Name (vi I b9 au aq r (λs' dt=>⟨_,H,dt,h⟩) hf)
def zwe:pk:=λvs J H Q=>vs=[]/\Q J H
def zha (t:fi)(u:pk):pk:=λvs J H Q=>∃v r,vs=v::r/\t v J H λa7 H'=>u r a7 H' Q
theorem kJ:vn X [] zwe:=by
 intro pins s J H vs us Q I r h;obtain⟨e,h⟩:=h;subst e;cases r;exact assignInOrder_nil ⟨J,H,I,h⟩
theorem fG {t:fi}{u:pk}(aa:PG X e t) (ag:vn X es u)
  (aI:autoParam ((assignEach (e::es) X.env).map (·.2)=assign e X.env::(assignEach es X.env).map (·.2)) dA._auto_1):vn X (e::es) (zha t u):=by
 intro pins s J H vs us Q I r h;obtain⟨v,ad9,ar,h⟩:=h;subst ar;cases r with
 | cons r iR=>
  rw[aI];refine assignInOrder_cons (bz (aa pins s J H _ _ _ I r h) λ_ s1 ⟨qV,H1,aO,a8⟩=>?_);exact ag pins s1 qV H1 _ _ Q aO iR a8
def vo (K:Frag)(n:Nat)(t:pk):fi:=λv J H Q=>∃a xs,v=.ref a/\bT K H a xs/\xs.length=n/\t xs J H Q
theorem kK {k:Nat}{t:pk}(ak:Calm X) (h:vn X es t)
  (hn:autoParam ((assignEach es X.env).length=n) dA._auto_1) (hst:autoParam ((assignEach es X.env).findIdx? (·.1)=none) dA._auto_1):PG X (.Tuple es k pos) (vo X.K n t):=by
 intro pins s J H v u Q I r hw;obtain⟨a,xs,ar,ao,aD,hw⟩:=hw;subst ar;cases r;obtain⟨aU,cf,bC,hz⟩:=I.tuple ao;refine MX (I.calm ak) bC (by simp[hn,<- aD,cf.length]) hst λh' aq=>?_;have aO:Inv X pins J H { s with heap:=h' }:=I.kept (t':=s.toks) λb o e=>aq b o (ne_of_lt (lt_size e)) e
 exact h pins _ J H xs _ Q aO (by simpa using cf) hw
def zwo (to iS:TE)(t:yu):fi:=λv J H Q=>to J H λo H1=>iS J H1 λi aE=>t o i v aE λbP=>Q J bP
theorem Nu {o i:Expr}{to iS:TE}{t:yu}(aA:PE X o to) (au:PE X i iS) (aI:DH X t)
  (aN:∀v,assign (.Subscript o i pos) X.env v=(do
   let dK <- holding [v] (eval o X.env)
   let hk <- holding [v,dK] (eval i X.env)
   standAt pos
   holding [v,dK,hk] (setItem dK hk v)
   release [v,dK,hk] []):=by intro _;rfl):PG X (.Subscript o i pos) (zwo to iS t):=by
 intro pins s J H v u Q I r h;rw[aN];refine ax (wpAny_holding (bz (aA pins s J H _ I h) λdK s1 ⟨x,H1,aO,bX,a8⟩=>?_));refine ax (wpAny_holding (bz (au pins s1 J H1 _ aO a8) λhk s2 ⟨y,aE,bu,cB,bK⟩=>?_));refine ax (wpAny_standAt (ax (wpAny_holding (bz (aI pins s2 J aE x y v dK hk u _ bu bX cB r bK) λ_ s3 ⟨bP,cW,dZ⟩=>?_))));exact wpAny_release ⟨J,bP,cW,dZ⟩
def zxt (bM:TE)(g:fi):cV:=λD J H=>bM J H λx H1=>g x J H1 D.aP
theorem qW {bM:TE}{g:fi}(he:PE X e bM) (bD:PG X cS g) (aI:autoParam (swapsWithSole [cS] e pos.line X.env=pure false) dA._auto_1) (hw:autoParam (swappedStores [cS] e X.env=pure none) dA._auto_1)
  (aa:autoParam ((assignEach [cS] X.env).map (·.2)=[assign cS X.env]) dA._auto_1):PS X (.Assign [cS] e pos) (zxt bM g):=by
 intro pins s J H D I h;refine wpAny_Assign_stores (bz (he pins s J H _ I h) λv s1 ⟨x,H1,aO,bX,a8⟩=>?_) aI hw;rw[aa];exact bz (bD pins s1 J H1 x v _ aO bX a8) λ_ s2 q=>q
theorem Nv {bM:TE}(b9:X.N.Nodup) (au:X.N[i]?∣x) (aq:Loc X.env.scope x) (he:PE X e bM) (aI:autoParam (swapsWith e (some (.Name x pos')) pos.line X.env=pure false) dA._auto_1) (hf:autoParam (X.fn x=true\/X.env.scope.names.lookup x=some .local) dD._auto_1):
  PS X (.Assign [.Name x pos'] e pos) (zxt bM (hW i)):=by
 intro pins s J H D I h;refine wpAny_Assign_Name (bz (he pins s J H _ I h) λv s1 ⟨y,H1,aO,bX,a8⟩=>?_) aI;exact vi aO b9 au aq bX (λs2 bu=>⟨_,H1,bu,a8⟩) hf
def zxy (i:Nat)(bM:TE)(iS:qU):cV:=λD J H=>∃x,J[i]?∣some x/\bM J H λy H1=>iS x y H1 λz aE=>D.aP (J.set i (some z)) aE
theorem Nw {bM:TE}{op:Operator}{iS:qU}(b9:X.N.Nodup) (au:X.N[i]?∣x) (aq:Loc X.env.scope x) (he:PE X e bM) (aA:sE X op iS) (hf:autoParam (X.fn x=true\/X.env.scope.names.lookup x=some .local) dD._auto_1):
  PS X (.AugAssign (.Name x pos') op e pos) (zxy i bM iS):=by
 intro pins s J H D I h;obtain⟨v,ar,h⟩:=h;obtain⟨m,hn,aD⟩:=I.loc;have Nx:qR X.env.scope x:=by rcases aq with k|k;exact .inl k;exact .inr (.inl k)
 obtain⟨u,r,l⟩:=aD i x v au ar Nx;refine wpAny_AugAssign_Name ?_;have go:wpAny (model X.prog X.w) X.A (eval e X.env) (λw hV=>wpAny (model X.prog X.w) X.A (inplaceOp op u w) (λr iT=>wpAny (model X.prog X.w) X.A (storeName X.env x r) (λ_=>hU X pins D .next) X.cQ iT) X.cQ hV) X.cQ s:=by
  refine bz (he pins s J H _ I h) λw s1 ⟨y,H1,aO,bX,a8⟩=>?_;refine bz (aA pins s1 J H1 v y u w _ aO r bX a8) λz s2 ⟨zv,aE,bu,cB,bK⟩=>?_;exact vi bu b9 au aq cB (λs3 cW=>⟨_,aE,cW,bK⟩) hf
 rcases l with⟨aj,hm⟩|⟨aj,c,ak,vj⟩
 ·exact wpAny_loadName_local I.ok.kind aj hn hm go
 ·rcases aj with aj|aj
  ·exact wpAny_loadName_cell I.ok.kind aj ak vj go
  ·rcases aq with k|k
   ·have:X.env.scope.names.lookup x=some .free:=aj
    rw[k]at this;cases this
   ·have:X.env.scope.names.lookup x=some .free:=aj
    rw[k]at this;cases this
def ipI (f:Int->Int->Int):qU:=λx y H Q=>∃i j,x=.int i/\y=.int j/\Q (.int (f i j)) H
theorem DI:sE X .Add (ipI λi j=>i+j):=by
 intro pins s J H x y v u Q I bX cB h;obtain⟨i,j,ar,aw,q⟩:=h;subst ar;subst aw;obtain⟨t,rfl⟩:=bX;obtain⟨t',rfl⟩:=cB;exact iadd_int ⟨.int _,H,I.tok _,⟨_,rfl⟩,q⟩
theorem Ny:sE X .Sub (ipI λi j=>i-j):=by
 intro pins s J H x y v u Q I bX cB h;obtain⟨i,j,ar,aw,q⟩:=h;subst ar;subst aw;obtain⟨t,rfl⟩:=bX;obtain⟨t',rfl⟩:=cB;exact isub_int ⟨.int _,H,I.tok _,⟨_,rfl⟩,q⟩
end
section
variable {X:Cx}{pos:Pos}
def Nz (c:TT)(bj:cV):cV:=λD J H=>∃W:Nat->St->ah->Prop,(∃m,W m J H)/\∀m J H,W m J H->
 c J H λb H1=>if b=true then ∃N:St->ah->Prop,(∀a7 H',N a7 H'->∃ba,ba<m/\W ba a7 H')/\bj { D with aP:=N,bW:=N,b3:=D.aP } J H1 else D.aP J H1
theorem yv {c:Expr}{aC:TT}{bj:cV}(aG:PassesOwn (model X.prog X.w) X.A X.env X.cQ) (ak:ij X c aC) (ae:PSs X body bj):PS X (.While c body [] pos) (Nz aC bj):=by
 intro pins s J H D I h;obtain⟨W,⟨m0,cZ⟩,turn⟩:=h;refine wpAny_While (codeAny_whileLoop (λn s'=>∃a7 H',Inv X pins a7 H' s'/\W n a7 H') ?_ m0 ⟨J,H,I,cZ⟩);rintro n s1 ⟨qV,H1,aO,ey⟩;refine wpAny_passesOwn aG (bz (ak pins s1 qV H1 _ aO (turn n qV H1 ey)) λb s2 ⟨aE,bu,bK⟩=>?_);cases b with
 | true=>
  obtain⟨N,b9,bK⟩:=bK;rw[aM rfl];refine wpAny_passesOwn aG (bz (ae pins s2 qV aE _ bu bK) λf s3 dZ=>?_);cases f with
  | next=>
   obtain⟨kL,bP,cW,ik⟩:=dZ;obtain⟨ba,hm,qX⟩:=b9 kL bP ik;exact⟨ba,hm,kL,bP,cW,qX⟩
  | cont=>
   obtain⟨kL,bP,cW,ik⟩:=dZ;obtain⟨ba,hm,qX⟩:=b9 kL bP ik;exact⟨ba,hm,kL,bP,cW,qX⟩
  | brk=>exact dZ
  | ret v=>exact dZ
 | false=>
  rw[aB wa6];exact wpAny_execs_nil ⟨qV,aE,bu,bK⟩
end
structure gZ where
 go:Nat->ah->Prop
 gy:Nat->ah->V->ah->Prop
 stop:Nat->ah->Prop
def jq (X:Cx)(pins:List (Addr×Obj))(H:ah)(b:Addr):Prop:=
 H b=none/\b≠X.env.locals/\b ∉ X.aT/\(b∈X.ex\/X.bS.heap.objs.size<=b)/\(∀x c,X.env.cells.lookup x∣c->c≠b)/\∀p∈X.dr++pins,p.1≠b
theorem Inv.mH {X:Cx}{J:St}{H H':ah}{b:Addr}(I:Inv X pins J H s) (ae:↑s<=b) (hn:H' b=none):jq X pins H' b:=by
 refine⟨hn,ne_of_gt (lt_of_lt_of_le I.lt ae),I.ve ae,.inr (wa0 I.jk ae),λx c e z=>?_,λp aG z=>?_⟩
 ·obtain⟨v,q⟩:=I.cell x c e;exact br (lt_of_lt_of_le q.lt (by rwa[z])) (wa7 _)
 ·exact br (lt_of_lt_of_le (lt_size (I.pin p aG).1) (by rwa[z])) (wa7 _)
structure Turn (P:Program)(w:World)(K:Frag)(cS:Expr)(cq:gZ)(cu:List Addr)(it:Addr)(tn:Nat->Heap->Prop):Prop where
 mem:it∈cu
 obj:∀i h,tn i h->∀b∈cu,∃o,h.get? b∣o/\∀v,o.data≠.cell v
 keep:∀i h h',tn i h->(∀b∈cu,∀o,h.get? b∣o->h'.get? b∣o)->tn i h'
 item:∀(X:Cx),X.prog=P->X.w=w->X.K=K->Calm X->∀(i:Nat)(pins:List (Addr×Obj))(s:Shared)(J:St)(H:ah)(E:wvP),Inv X pins J H s->(∀b∈cu,jq X pins H b)->tn i s.heap->cq.go i H->
  wpAny (model P w) X.A (pyNext (.ref it)) (λr s1=>∃u,r∣u/\
   wpAny (model P w) X.A (letOwnedTupleGo cS (.ref it) u) (λ_ s2=>∃x H',Inv X pins J H' s2/\RelV x u/\cq.gy i H x H'/\tn (i+1) s2.heap/\∀b∈cu,H' b=none) E s1) E s
 done:∀(X:Cx),X.prog=P->X.w=w->X.K=K->Calm X->∀(i:Nat)(pins:List (Addr×Obj))(s:Shared)(J:St)(H:ah)(E:wvP),Inv X pins J H s->(∀b∈cu,jq X pins H b)->tn i s.heap->cq.stop i H->
  wpAny (model P w) X.A (pyNext (.ref it)) (λr s1=>r=none/\Inv X pins J H s1) E s
 self:∀(A:Around)(i:Nat)(s:Shared)(Q:wvP)(E:wvP),tn i s.heap->Q (.ref it) s->wpAny (model P w) A (pyIter (.ref it)) Q E s
abbrev TI:=St->ah->(gZ->ah->Prop)->Prop
def yw (X:Cx)(pins:List (Addr×Obj))(J:St)(cS:Expr)(R:gZ->ah->Prop)(vp:Value)(s2:Shared):Prop:=
 ∃(it:Addr)(cu:List Addr)(tn:Nat->Heap->Prop)(cq:gZ)(H':ah),vp=.ref it/\Inv X pins J H' s2/\Turn X.prog X.w X.K cS cq cu it tn/\tn 0 s2.heap/\(∀b∈cu,jq X pins H' b)/\R cq H'
def PI (X:Cx)(cS iter:Expr)(gz:TI):Prop:=
 ∀(pins:List (Addr×Obj))(s:Shared)(J:St)(H:ah)(R:gZ->ah->Prop),Inv X pins J H s->gz J H R->
  wpAny (model X.prog X.w) X.A (eval iter X.env) (λv s1=>wpAny (model X.prog X.w) X.A (pyIter v) (yw X pins J cS R) X.cQ s1) X.cQ s
theorem qY {o:Obj}{n:String}{Q:Unit->Shared->Prop}(aA:s.heap.get? it∣o) (ak:o.cls=.type n) (hd:o.data=.fields vs)
  (hn:["enumerate","zip","dict_itemiterator","dict_reverseitemiterator","odict_iterator","itertools.zip_longest","itertools.pairwise"].contains n=false) (ec:Q () s):wpAny M A (letOwnedTupleGo cS (.ref it) u) Q E s:=by
 unfold letOwnedTupleGo;cases cS<;>first
  | exact bw ec
  | (cases u<;>first
    | exact bw ec
    | (
      refine ax (wpAny_load aA ?_);rw[ak,hd];show wpAny M A (if (["enumerate","zip","dict_itemiterator","dict_reverseitemiterator","odict_iterator","itertools.zip_longest","itertools.pairwise"].contains n&&vs[0]?==some (rawInt _))=true then _ else _) Q E s
      rw[aB (by intro h;rw[hn,Bool.false_and]at h;cases h)];exact bw ec))
def kM (K:Frag)(a:Addr):gZ:=
 ⟨λi H=>∃xs x,aK K H a xs/\xs[i]?∣x,λi H x H'=>H'=H/\∀xs,aK K H a xs->xs[i]?∣x,λi H=>∃xs,aK K H a xs/\xs.length<=i⟩
def j9 (lo:Int)(n:Nat):gZ:=⟨λi _=>i<n,λi H x H'=>H'=H/\x=.int (lo+i),λi _=>n<=i⟩
theorem NA (a it:Addr):Turn P w K cS (kM K a) [it] it (λi h=>h.IsListIter it a i) where
 mem:=by simp
 obj:=λi h st b ae=>by
  have e:b=it:=by simpa using ae
  subst e;obtain⟨o,e,c,d⟩:=st;exact⟨o,e,λv z=>by rw[d]at z;cases z⟩
 keep:=λi h h' st k=>st.at λo e=>k it (by simp) o e
 item:=by
  intro X df hw c9 ak i pins s J H E I hf st bD;subst df hw c9;obtain⟨xs,x,ao,aq⟩:=bD;obtain⟨aU,cf,p,hz⟩:=I.list ao;obtain⟨u,bZ,gh⟩:=cf.get aq;obtain⟨f0,f1,f2,eB,f4,eC⟩:=hf it (by simp);refine wpAny_pyNext_list_item st p.isList (x:=u) (by simpa using bZ) λh' fu jL=>?_;have aO:Inv X pins J H { s with heap:=h' }:=I.turned (t':=s.toks) (λb o ae e=>(jL.2 b ae).trans e) f0 f1 eB f4 eC
  obtain⟨o,e,c,d⟩:=id fu;exact⟨u,rfl,qY (s:={ s with heap:=h' }) e c d ∅ ⟨x,H,aO,gh,⟨rfl,λaF bg=>by rwa[I.DE bg ao]⟩,fu,λb ae=>(hf b ae).1⟩⟩
 done:=by
  intro X df hw c9 ak i pins s J H E I hf st bD;subst df hw c9;obtain⟨xs,ao,aq⟩:=bD;obtain⟨aU,cf,p,hz⟩:=I.list ao;obtain⟨f0,f1,f2,eB,f4,eC⟩:=hf it (by simp);have aD:=cf.length
  exact MT (I.calm ak) st p.isList (by simp;omega) λh' eb=>⟨rfl,I.turned (t':=s.toks) (λb o ae e=>eb b o ae e) f0 f1 eB f4 eC⟩
 self:=λ_ _ _ _ _ st h=>wpAny_pyIter_listiter st h
theorem NB (it:Addr) (lo:Int) (n:Nat):Turn P w K cS (j9 lo n) [it] it (λi h=>IsRangeIter h it (lo+(i:Nat)*1) ((n:Int)-(i:Nat)) 1) where
 mem:=by simp
 obj:=λi h st b ae=>by
  have e:b=it:=by simpa using ae
  subst e;exact⟨_,st,λv z=>by
   have fs:Data.fields _=Data.cell v:=z
   cases fs⟩
 keep:=λi h h' st k=>k it (by simp) _ st
 item:=by
  intro X df hw c9 ak i pins s J H E I hf st bD;subst df hw c9;obtain⟨f0,f1,f2,eB,f4,eC⟩:=hf it (by simp);refine wpAny_pyNext_range_item st (by have:i<n:=bD;omega) λh' iU jL=>?_;have fu:IsRangeIter h' it (lo+((i+1:Nat):Int)*1) ((n:Int)-((i+1:Nat):Int)) 1:=by
   rw[show lo+((i+1:Nat):Int)*1=lo+(i:Nat)*1+1 by omega,show(n:Int)-((i+1:Nat):Int)=n-(i:Nat)-1 by omega];exact iU
  have aO:Inv X pins J H { s with heap:=h',toks:=s.toks+1 }:=I.turned (λb o ae e=>(jL.2 b ae).trans e) f0 f1 eB f4 eC
  refine⟨_,rfl,qY (s:={ s with heap:=h',toks:=s.toks+1 }) (n:="range_iterator") fu rfl rfl ∅ ⟨.int (lo+i),H,aO,⟨s.toks,?_⟩,⟨rfl,rfl⟩,fu,λb ae=>(hf b ae).1⟩⟩;rw[Int.mul_one]
 done:=by
  intro X df hw c9 ak i pins s J H E I hf st bD;subst df hw c9;obtain⟨f0,f1,f2,eB,f4,eC⟩:=hf it (by simp);exact MV (I.calm ak) st (by have:n<=i:=bD;omega) λh' eb=>⟨rfl,I.turned (t':=s.toks) (λb o ae e=>eb b o ae e) f0 f1 eB f4 eC⟩
 self:=λ_ _ _ _ _ st h=>wpAny_pyIter_rangeiter st h
section
variable {X:Cx}{cS:Expr}
def zsc (K:Frag)(cX:TE):TI:=λJ H R=>cX J H λx H1=>∃a,x=.ref a/\(∃xs,aK K H1 a xs)/\R (kM K a) H1
theorem il {l:Expr}{cX:TE}(aD:PE X l cX):PI X cS l (zsc X.K cX):=by
 intro pins s J H R I h;refine bz (aD pins s J H _ I h) λv s1 ⟨x,H1,aO,bX,a8⟩=>?_;obtain⟨a,e,⟨xs,ao⟩,q⟩:=a8;subst e;cases bX;obtain⟨aU,cf,p,hz⟩:=aO.list ao;refine wpAny_pyIter_list p.isList ?_;refine⟨↑s1,[↑s1],_,_,H1,rfl,aO.kept (t':=s1.toks) λb o e=>get?_push_of_some _ e,NA a _,⟨_,get?_push_size _ rfl,rfl,rfl⟩,λb ae=>?_,q⟩;have e:b=↑s1:=by simpa using ae
 subst e;exact aO.mH (wa8 _) (aO.a6.fresh (wa8 _))
theorem DJ {J:St}{H:ah}{R:gZ->ah->Prop}{au:Int}{t u v:Tok}(I:Inv X pins J H s) (aa:-(2^62)<=lo) (ag:lo<2^62) (aR:-(2^62)<=au) (b4:au<2^62)
  (q:R (j9 lo (au-lo).toNat) H):wpAny (model X.prog X.w) X.A (pyIter (.ref ↑s)) (yw X pins J cS R) E { s with heap:=s.heap.push { cls:=.type "range",data:=.fields #[.int lo t,.int au u,.int 1 v] },toks:=tk }:=by
 refine wpAny_pyIter_range (IsRange.new ..) (small_one aa ag aR b4) ?_;have aO:Inv X pins J H { s with heap:=s.heap.push { cls:=.type "range",data:=.fields #[.int lo t,.int au u,.int 1 v] },toks:=tk }:=I.kept λb o e=>get?_push_of_some _ e
 refine⟨(s.heap.push { cls:=.type "range",data:=.fields #[.int lo t,.int au u,.int 1 v] }).objs.size,[(s.heap.push { cls:=.type "range",data:=.fields #[.int lo t,.int au u,.int 1 v] }).objs.size],_,_,H,rfl,
  aO.kept (t':=tk) λb o e=>get?_push_of_some _ e,NB _ lo (au-lo).toNat,?_,λb ae=>?_,q⟩
 ·have ar:lo+((0:Nat):Int)*1=lo:=by simp
  have aw:(((au-lo).toNat:Nat):Int)-((0:Nat):Int)=Builtin.Range.rangeSize lo au 1:=by rw[rangeSize_one];split<;>omega
  show IsRangeIter _ _ (lo+((0:Nat):Int)*1) ((((au-lo).toNat:Nat):Int)-((0:Nat):Int)) 1
  rw[ar,aw];exact get?_push_size _ rfl
 ·have e:b=(s.heap.push { cls:=.type "range",data:=.fields #[.int lo t,.int au u,.int 1 v] }).objs.size:=by simpa using ae
  subst e;exact aO.mH (wa8 _) (aO.a6.fresh (wa8 _))
def DK (bB:dz):TI:=λJ H R=>bB J H λvs H1=>∃j:Int,vs=[.int j]/\-(2^62)<=j/\j<2^62/\R (j9 0 j.toNat) H1
def zsa (bB:dz):TI:=λJ H R=>bB J H λvs H1=>∃i j:Int,vs=[.int i,.int j]/\(-(2^62)<=i/\i<2^62/\-(2^62)<=j/\j<2^62)/\R (j9 i (j-i).toNat) H1
theorem kN {a:Expr}{bB:dz}{p:Pos}(bD:ft X "range") (hm:X.mg "range"=none) (aN:PA X [a] bB) (aI:autoParam (starEach [a] X.env=[(false,eval a X.env)]) dA._auto_1):PI X cS (.Call (.Name "range" p) [a] [] pos) (DK bB):=by
 intro pins s J H R I h;refine Call_ (kG I bD hm boot_range (PyProof.Rows.callWith_type1 (bz (aN pos pins s J H _ I h) λus s1 ⟨vs,H1,aO,bX,a8⟩=>?_) aI rfl));obtain⟨j,e,a8,bK,q⟩:=a8;subst e;cases bX with
 | cons r iR=>
  cases iR;obtain⟨t,rfl⟩:=r;exact call_range_1 (DJ aO ⋯ ⋯ a8 bK (by simpa using q))
theorem yx {a b:Expr}{bB:dz}{p:Pos}(bD:ft X "range") (hm:X.mg "range"=none) (aN:PA X [a,b] bB) (aI:autoParam (starEach [a,b] X.env=[(false,eval a X.env),(false,eval b X.env)]) dA._auto_1) (lU:autoParam (starEach [b] X.env=[(false,eval b X.env)]) dA._auto_1):
  PI X cS (.Call (.Name "range" p) [a,b] [] pos) (zsa bB):=by
 intro pins s J H R I h;refine Call_ (kG I bD hm boot_range (PyProof.Rows.callWith_type1 (bz (aN pos pins s J H _ I h) λus s1 ⟨vs,H1,aO,bX,a8⟩=>?_) (by rw[aI,lU]) (by rw[lU];rfl)));obtain⟨i,j,e,⟨a8,bK,dZ,mI⟩,q⟩:=a8;subst e;cases bX with
 | cons r iR=>
  cases iR with
  | cons c1 iR=>
   cases iR;obtain⟨t,rfl⟩:=r;obtain⟨t',rfl⟩:=c1;exact call_range_2 (DJ aO a8 bK dZ mI q)
def DL (gz:TI)(g:fi)(bj:cV):cV:=λD J H=>gz J H λcq H1=>∃W:Nat->Nat->St->ah->Prop,(∃m,W 0 m J H1)/\∀i m J H,W i m J H->
 (cq.stop i H/\D.aP J H)\/(cq.go i H/\∃N:St->ah->Prop,(∀a7 H',N a7 H'->∃ba,ba<m/\W (i+1) ba a7 H')/\∀x H',cq.gy i H x H'->g x J H' λdu aE=>bj { D with aP:=N,bW:=N,b3:=D.aP } du aE)
def sF (cu:List Addr)(h:Heap):List (Addr×Obj):=cu.filterMap λb=>(h.get? b).map λo=>(b,o)
theorem vq {h:Heap}{b:Addr}{o:Obj}(ae:b∈cu) (e:h.get? b∣o):(b,o)∈sF cu h:=mem_filterMap.mpr ⟨b,ae,by rw[e];rfl⟩
theorem NC {h:Heap}{p:Addr×Obj}(aG:p∈sF cu h):p.1∈cu/\h.get? p.1∣p.2:=by
 obtain⟨b,ae,e⟩:=mem_filterMap.mp aG;cases q:h.get? b with
 | none=>rw[q]at e;cases e
 | some o=>
  rw[q]at e;have a4:(b,o)=p:=wa5 e
  subst a4;exact⟨ae,q⟩
theorem Inv.pinned {J:St}{H:ah}(I:Inv X pins J H s) (hf:∀b∈cu,jq X pins H b) (aA:∀b∈cu,∃o,s.heap.get? b∣o/\∀v,o.data≠.cell v):Inv X (pins++sF cu s.heap) J H s:=
 I.sz λp aG=>(mem_append.mp aG).elim (λz=>I.pin p (mem_append_right _ z)) λz=>by
  obtain⟨ae,e⟩:=NC z;obtain⟨f0,f1,f2,_⟩:=hf p.1 ae;obtain⟨o,a4,d⟩:=aA p.1 ae;rw[e]at a4;cases a4;exact⟨e,f0,f1,f2,d⟩
theorem Inv.sG {pl:List (Addr×Obj)}{J:St}{H:ah}(I:Inv X (pins++pl) J H s):Inv X pins J H s:=I.sz λp aG=>I.pin p (mem_append_right _ (mem_append_left _ aG))
theorem fc {gz:TI}{g:fi}{bj:cV}(aG:PassesOwn (model X.prog X.w) X.A X.env X.cQ) (ak:Calm X) (au:PI X cS iter gz) (bD:PG X cS g) (ae:PSs X body bj)
  (aI:∀x,foldedSetIterable iter X.env x=pure x:=by intro _;rfl):PS X (.For cS iter body [] pos) (DL gz g bj):=by
 intro pins s J H D I h;refine wpAny_For (bz (au pins s J H _ I h) λv s1 aa=>bz aa λvp s2 ag=>?_) aI;obtain⟨it,cu,tn,cq,aE,e,bu,T,iU,f2,W,⟨m0,cZ⟩,turn⟩:=ag;subst e;have pn:∀{H':ah},(∀b∈cu,H' b=none)->∀b∈cu,jq X pins H' b:=λhn b ae=>⟨hn b ae,(f2 b ae).2⟩
 refine codeAny_forLoop_any (λn s'=>∃i a7 H',Inv X pins a7 H' s'/\tn i s'.heap/\(∀b∈cu,H' b=none)/\W i n a7 H') ?_ m0 ⟨0,J,aE,bu,iU,λb ae=>(f2 b ae).1,cZ⟩;rintro n s3 ⟨i,kL,bP,cW,DM,DN,qX⟩;rcases turn i n kL bP qX with⟨stop,DO⟩|⟨go,N,b9,step⟩
 ·refine wpAny_passesOwn aG (bz (T.done X rfl rfl rfl ak i pins s3 kL bP X.cQ cW (pn DN) DM stop) λr s4 ⟨a5,iV⟩=>?_);subst a5;exact wpAny_execs_nil ⟨kL,bP,iV,DO⟩
 ·refine wpAny_passesOwn aG (bz (T.item X rfl rfl rfl ak i pins s3 kL bP X.cQ cW (pn DN) DM go) λr s4 ⟨u,a5,b4⟩=>?_);subst a5;refine wpAny_passesOwn aG (bz b4 λ_ s5 ⟨x,dg,mJ,mK,NF,pq,vr⟩=>?_);have NG:=mJ.pinned (pn vr) (T.obj _ _ pq)
  refine wpAny_passesOwn aG (bz (bD _ s5 kL dg x u _ NG mK (step x dg NF)) λ_ dm ⟨NH,gM,kO,NI⟩=>?_);refine wpAny_passesOwn aG (bz (ae _ dm NH gM _ kO NI) λf dM lV=>?_);have again:∀{kP:St}{gi:ah},Inv X (pins++sF cu s5.heap) kP gi dM->N kP gi->∃m,m<n/\∃i a7 H',Inv X pins a7 H' dM/\tn i dM.heap/\(∀b∈cu,H' b=none)/\W i m a7 H':=λ{kP gi} jM sH=>by
   obtain⟨ba,hm,vt⟩:=b9 kP gi sH;refine⟨ba,hm,i+1,kP,gi,jM.sG,T.keep _ _ _ pq λb ae o e=>(jM.pin (b,o) (mem_append_right _ (mem_append_right _ (vq ae e)))).1,λb ae=>?_,vt⟩;obtain⟨o,e,d⟩:=T.obj _ _ pq b ae;exact(jM.pin (b,o) (mem_append_right _ (mem_append_right _ (vq ae e)))).2.1
  cases f with
  | next=>obtain⟨kP,gi,jM,sH⟩:=lV;exact again jM sH
  | cont=>obtain⟨kP,gi,jM,sH⟩:=lV;exact again jM sH
  | brk=>obtain⟨kP,gi,jM,lV⟩:=lV;exact⟨kP,gi,jM.sG,lV⟩
  | ret v=>obtain⟨g0,kP,gi,jM,yy,lV⟩:=lV;exact⟨g0,kP,gi,jM.sG,yy,lV⟩
end
theorem qZ {xs:List V}{g:fi}{bj:cV}{D:Ends}{J:St}{H:ah}(Pv:Nat->St->ah->Prop) (h0:Pv 0 J H) (aD:∀i J H,i<=xs.length->Pv i J H->aK K H a xs)
  (aI:∀i x J H,xs[i]?∣x->Pv i J H->g x J H λdu aE=>bj { D with aP:=Pv (i+1),bW:=Pv (i+1),b3:=D.aP } du aE) (hd:∀J H,Pv xs.length J H->D.aP J H):
  ∃W:Nat->Nat->St->ah->Prop,(∃m,W 0 m J H)/\∀i m J H,W i m J H->
   ((kM K a).stop i H/\D.aP J H)\/((kM K a).go i H/\∃N:St->ah->Prop,(∀a7 H',N a7 H'->∃ba,ba<m/\W (i+1) ba a7 H')/\∀x H',(kM K a).gy i H x H'->g x J H' λdu aE=>bj { D with aP:=N,bW:=N,b3:=D.aP } du aE):=by
 refine⟨λi m J H=>m=xs.length-i/\i<=xs.length/\Pv i J H,⟨xs.length,by simp,zero_le _,h0⟩,?_⟩;rintro i m J H ⟨rfl,au,p⟩;have q:=aD i J H au p
 by_cases cF:i<xs.length
 ·refine .inr ⟨⟨xs,xs[i],q,by simp[cF]⟩,Pv (i+1),λa7 H' gj=>⟨xs.length-(i+1),⋯,rfl,cF,gj⟩,λx H' y=>?_⟩;obtain⟨e,y⟩:=y;subst e;exact aI i x J _ (y xs q) p
 ·have e:i=xs.length:=⋯
  subst e;exact .inl ⟨⟨xs,q,wa8 _⟩,hd J H p⟩
theorem yz {g:fi}{bj:cV}{D:Ends}{J:St}{H:ah}(Pv:Nat->St->ah->Prop) (h0:Pv 0 J H)
  (aI:∀i J H,i<n->Pv i J H->g (.int (lo+i)) J H λdu aE=>bj { D with aP:=Pv (i+1),bW:=Pv (i+1),b3:=D.aP } du aE) (hd:∀J H,Pv n J H->D.aP J H):
  ∃W:Nat->Nat->St->ah->Prop,(∃m,W 0 m J H)/\∀i m J H,W i m J H->
   ((j9 lo n).stop i H/\D.aP J H)\/((j9 lo n).go i H/\∃N:St->ah->Prop,(∀a7 H',N a7 H'->∃ba,ba<m/\W (i+1) ba a7 H')/\∀x H',(j9 lo n).gy i H x H'->g x J H' λdu aE=>bj { D with aP:=N,bW:=N,b3:=D.aP } du aE):=by
 refine⟨λi m J H=>m=n-i/\i<=n/\Pv i J H,⟨n,by simp,zero_le _,h0⟩,?_⟩;rintro i m J H ⟨rfl,au,p⟩;by_cases cF:i<n
 ·refine .inr ⟨cF,Pv (i+1),λa7 H' gj=>⟨n-(i+1),⋯,rfl,cF,gj⟩,λx H' y=>?_⟩;obtain⟨e,y⟩:=y;subst e y;exact aI i J _ cF p
 ·have e:i=n:=⋯
  subst e;exact .inl ⟨wa8 _,hd J H p⟩
abbrev fT:=V->V->ah->bo->Prop
def d7 (X:Cx)(f:Value->Value->Sem Value)(r:fT):Prop:=
 ∀(pins:List (Addr×Obj))(s:Shared)(J:St)(H:ah)(x y:V)(v u:Value)(Q:bo),Inv X pins J H s->RelV x v->RelV y u->r x y H Q->
  wpAny (model X.prog X.w) X.A (f v u) (fR X pins J Q) X.cQ s
def yA (X:Cx)(f:Value->Sem Value)(r:V->ah->bo->Prop):Prop:=
 ∀(pins:List (Addr×Obj))(s:Shared)(J:St)(H:ah)(x:V)(v:Value)(Q:bo),Inv X pins J H s->RelV x v->r x H Q->
  wpAny (model X.prog X.w) X.A (f v) (fR X pins J Q) X.cQ s
def g4 (X:Cx)(f:Value)(r:List V->ah->bo->Prop):Prop:=
 ∀(pins:List (Addr×Obj))(s:Shared)(J:St)(H:ah)(xs:List V)(us:List Value)(Q:bo),Inv X pins J H s->Vals xs us->r xs H Q->
  wpAny (model X.prog X.w) X.A (call f us) (fR X pins J Q) X.cQ s
def tOp (r:fT)(bB bj:TE):TE:=λJ H Q=>bB J H λx H1=>bj J H1 λy aE=>r x y aE Q
def tUn (r:V->ah->bo->Prop)(bB:TE):TE:=λJ H Q=>bB J H λx H1=>r x H1 Q
def rI (C:Int->Int->Prop)(g:Int->Int->V):fT:=λx y H Q=>∃i j,x=.int i/\y=.int j/\C i j/\Q (g i j) H
def lW (g:Int->Int->V):fT:=λx y H Q=>∃i j,x=.int i/\y=.int j/\Q (g i j) H
def rU (g:Int->V):V->ah->bo->Prop:=λx H Q=>∃i,x=.int i/\Q (g i) H
section
variable {X:Cx}{a b c:Expr}{bB bj aC:TE}{pos:Pos}
theorem yB (aN:PE X a bB)(ae:PE X b bj){J:St}{H:ah}{R:V->V->ah->Prop}(I:Inv X pins J H s)
  (h:bB J H λx H1=>bj J H1 λy aE=>R x y aE){f:Value->Value->Sem Value}
  (hf:∀v u s2 x y aE,Inv X pins J aE s2->RelV x v->RelV y u->R x y aE->wpAny (model X.prog X.w) X.A (f v u) Q X.cQ s2):
  wpAny (model X.prog X.w) X.A (eval a X.env) (λv d6=>wpAny (model X.prog X.w) X.A (eval b X.env) (λu hV=>wpAny (model X.prog X.w) X.A (f v u) Q X.cQ hV) X.cQ d6) X.cQ s:=by
 refine bz (aN pins s J H _ I h) λv s1 ⟨x,H1,aO,bX,a8⟩=>?_;refine bz (ae pins s1 J H1 _ aO a8) λu s2 ⟨y,aE,bu,cB,bK⟩=>?_;exact hf v u s2 x y aE bu bX cB bK
theorem bG {op:Operator}{r:fT}(aA:d7 X (binaryOp op) r) (aN:PE X a bB) (ae:PE X b bj):PE X (.BinOp a op b pos) (tOp r bB bj):=by
 intro pins s J H Q I h;exact wpAny_BinOp (yB aN ae I h λv u s2 x y aE bu bf bp q=>aA pins s2 J aE x y v u Q bu bf bp q)
theorem hY {op:UnaryOp}{r:V->ah->bo->Prop}(aA:yA X (unaryOp op) r) (aN:PE X a bB):PE X (.UnaryOp op a pos) (tUn r bB):=by
 intro pins s J H Q I h;exact UnaryOp_ (bz (aN pins s J H _ I h) λv s1 ⟨x,H1,aO,bX,a8⟩=>aA pins s1 J H1 x v Q aO bX a8)
theorem vu {f:Value->Value->Sem Value}{C:Int->Int->Prop}{g:Int->Int->Int}
  (rule:∀(i j:Int)(t u:Tok)(s:Shared)(Q:wvP)(E:wvP),C i j->Q (.int (g i j) s.toks) { s with toks:=s.toks+1 }->wpAny (model X.prog X.w) X.A (f (.int i t) (.int j u)) Q E s):
  d7 X f (rI C λi j=>.int (g i j)):=by
 intro pins s J H x y v u Q I bf bp h;obtain⟨i,j,rfl,rfl,ak,q⟩:=h;obtain⟨t,rfl⟩:=bf;obtain⟨t',rfl⟩:=bp;exact rule i j t t' s _ _ ak ⟨.int (g i j),H,I.tok _,⟨_,rfl⟩,q⟩
theorem DP {f:Value->Value->Sem Value}{g:Int->Int->Int}
  (rule:∀(i j:Int)(t u:Tok)(s:Shared)(Q:wvP)(E:wvP),Q (.int (g i j) s.toks) { s with toks:=s.toks+1 }->wpAny (model X.prog X.w) X.A (f (.int i t) (.int j u)) Q E s):
  d7 X f (lW λi j=>.int (g i j)):=by
 intro pins s J H x y v u Q I bf bp h;obtain⟨i,j,rfl,rfl,q⟩:=h;obtain⟨t,rfl⟩:=bf;obtain⟨t',rfl⟩:=bp;exact rule i j t t' s _ _ ⟨.int (g i j),H,I.tok _,⟨_,rfl⟩,q⟩
theorem vv {f:Value->Value->Sem Value}{g:Int->Int->Bool}
  (rule:∀(i j:Int)(t u:Tok)(s:Shared)(Q:wvP)(E:wvP),Q (.bool (g i j)) s->wpAny (model X.prog X.w) X.A (f (.int i t) (.int j u)) Q E s):
  d7 X f (lW λi j=>.bl (g i j)):=by
 intro pins s J H x y v u Q I bf bp h;obtain⟨i,j,rfl,rfl,q⟩:=h;obtain⟨t,rfl⟩:=bf;obtain⟨t',rfl⟩:=bp;exact rule i j t t' s _ _ ⟨.bl (g i j),H,I,rfl,q⟩
def DQ (i j:Int):Prop:=0<j/\j<1073741824
def pv (i j:Int):Prop:=(-(2^64)<i/\i<2^64)\/(-(2^64)<j/\j<2^64)
theorem pv.ok {i j:Int}(h:pv i j):IntMulOk i j:=by
 rcases h with⟨aa,ag⟩|⟨aa,ag⟩
 ·exact .of_left (intBits_le_64 aa ag)
 ·exact .of_right (intBits_le_64 aa ag)
theorem dW:d7 X (binaryOp .Add) (lW λi j=>.int (i+j)):=DP λ_ _ _ _ _ _ _ q=>add_int q
theorem hZ:d7 X (binaryOp .Sub) (lW λi j=>.int (i-j)):=DP λ_ _ _ _ _ _ _ q=>sub_int q
theorem mL:d7 X (binaryOp .Mult) (rI pv λi j=>.int (i*j)):=vu λ_ _ _ _ _ _ _ ak q=>mul_int q ak.ok
theorem ip:d7 X (binaryOp .FloorDiv) (rI DQ λi j=>.int (i/j)):=vu λi j _ _ _ _ _ ak q=>by
 have aa:(0:Int)<j:=ak.1
 have ag:j<1073741824:=ak.2
 exact floordiv_int ⋯ (by rwa[Int.fdiv_eq_ediv_of_nonneg i ⋯]) (.inl (PyProof.noPylong_small ⋯))
theorem fH:d7 X (binaryOp .Mod) (rI (λ_ j=>0<j) λi j=>.int (i%j)):=vu λi j _ _ _ _ _ ak q=>by
 have aa:(0:Int)<j:=ak
 exact mod_int' ⋯ (by rwa[Int.fmod_eq_emod_of_nonneg i ⋯])
theorem NJ {f:Value->Sem Value}{g:Int->Int}
  (rule:∀(i:Int)(t:Tok)(s:Shared)(Q:wvP)(E:wvP),Q (.int (g i) s.toks) { s with toks:=s.toks+1 }->wpAny (model X.prog X.w) X.A (f (.int i t)) Q E s):
  yA X f (rU λi=>.int (g i)):=by
 intro pins s J H x v Q I bf h;obtain⟨i,rfl,q⟩:=h;obtain⟨t,rfl⟩:=bf;exact rule i t s _ _ ⟨.int (g i),H,I.tok _,⟨_,rfl⟩,q⟩
theorem h1:yA X (unaryOp .USub) (rU λi=>.int (-i)):=NJ λ_ _ _ _ _ q=>neg_int q
end
def jN:V->V->Bool
 | .bx,.bx=>true|.bx,.int _=>true|.int _,.bx=>true|.bx,.bl _=>true|.bl _,.bx=>true|.bx,.str _=>true|.str _,.bx=>true
 | .int _,.int _=>true|.bl _,.bl _=>true|.str _,.str _=>true|.j7 _,.j7 _=>true
 | .int _,.str _=>true|.str _,.int _=>true|.bl _,.str _=>true|.str _,.bl _=>true
 | _,_=>false
def rEq:fT:=λx y H Q=>jN x y=true/\Q (.bl (decide (x=y))) H
def rNe:fT:=λx y H Q=>jN x y=true/\Q (.bl (!decide (x=y))) H
theorem DR {i j:Int}:decide (V.int i=V.int j)=(i==j):=by
 rw[Bool.eq_iff_iff];simp
theorem DS {i j:Bool}:decide (V.bl i=V.bl j)=(i==j):=by
 rw[Bool.eq_iff_iff];simp
theorem DT {i j:Str}:decide (V.str i=V.str j)=(i==j):=by
 rw[Bool.eq_iff_iff];simp
theorem DU {i j:Array UInt8}:decide (V.j7 i=V.j7 j)=(i.toList==j.toList):=by
 rw[Bool.eq_iff_iff];cases i;cases j;simp
section
variable {X:Cx}{a b c:Expr}{bB bj aC:TE}{pos:Pos}
theorem ej {J:St}{H:ah}{Q:bo}{k eG:Bool}(I:Inv X pins J H s) (q:Q (.bl k) H) (e:k=eG):fR X pins J Q (.bool eG) s:=by
 subst e;exact⟨.bl k,H,I,rfl,q⟩
theorem eH:d7 X (compareOp .Eq) rEq:=by
 intro pins s J H x y v u Q I bf bp h;obtain⟨aI,q⟩:=h;cases x with
 | bx=>
  cases bf;cases y with
  | bx=>cases bp;exact PySem.EqNone.eq_none_none (ej I q (by simp))
  | bl j=>cases bp;exact PySem.EqNone.eq_none_bool (ej I q (by simp))
  | int j=>obtain⟨t',rfl⟩:=bp;exact PySem.EqNone.eq_none_int (ej I q (by simp))
  | str j=>obtain⟨t',rfl⟩:=bp;exact PySem.EqNone.eq_none_str (ej I q (by simp))
  | _=>exact br (show false=true from aI) wa6
 | bl i=>
  cases bf;cases y with
  | bx=>cases bp;exact PySem.EqNone.eq_bool_none (ej I q (by simp))
  | bl j=>cases bp;exact eq_bool (ej I q DS)
  | str j=>obtain⟨t',rfl⟩:=bp;exact PySem.EqMixed.eq_bool_str (ej I q (by simp))
  | _=>exact br (show false=true from aI) wa6
 | int i=>
  obtain⟨t,rfl⟩:=bf;cases y with
  | bx=>cases bp;exact PySem.EqNone.eq_int_none (ej I q (by simp))
  | int j=>obtain⟨t',rfl⟩:=bp;exact eq_int (ej I q DR)
  | str j=>obtain⟨t',rfl⟩:=bp;exact PySem.EqMixed.eq_int_str (ej I q (by simp))
  | _=>exact br (show false=true from aI) wa6
 | str i=>
  obtain⟨t,rfl⟩:=bf;cases y with
  | bx=>cases bp;exact PySem.EqNone.eq_str_none (ej I q (by simp))
  | bl j=>cases bp;exact PySem.EqMixed.eq_str_bool (ej I q (by simp))
  | int j=>obtain⟨t',rfl⟩:=bp;exact PySem.EqMixed.eq_str_int (ej I q (by simp))
  | str j=>obtain⟨t',rfl⟩:=bp;exact eq_str (ej I q DT)
  | _=>exact br (show false=true from aI) wa6
 | j7 i=>
  obtain⟨t,rfl⟩:=bf;cases y with
  | j7 j=>obtain⟨t',rfl⟩:=bp;exact PySem.W.eq_bytes (ej I q DU)
  | _=>exact br (show false=true from aI) wa6
 | _=>cases y<;>exact br (show false=true from aI) wa6
theorem hC:d7 X (compareOp .NotEq) rNe:=by
 intro pins s J H x y v u Q I bf bp h;obtain⟨aI,q⟩:=h;cases x with
 | bx=>
  cases bf;cases y with
  | bx=>cases bp;exact PySem.EqNone.ne_none_none (ej I q (by simp))
  | bl j=>cases bp;exact PySem.EqNone.ne_none_bool (ej I q (by simp))
  | int j=>obtain⟨t',rfl⟩:=bp;exact PySem.EqNone.ne_none_int (ej I q (by simp))
  | str j=>obtain⟨t',rfl⟩:=bp;exact PySem.EqNone.ne_none_str (ej I q (by simp))
  | _=>exact br (show false=true from aI) wa6
 | bl i=>
  cases bf;cases y with
  | bx=>cases bp;exact PySem.EqNone.ne_bool_none (ej I q (by simp))
  | bl j=>cases bp;exact ne_bool (ej I q (congrArg not DS))
  | str j=>obtain⟨t',rfl⟩:=bp;exact PySem.EqMixed.ne_bool_str (ej I q (by simp))
  | _=>exact br (show false=true from aI) wa6
 | int i=>
  obtain⟨t,rfl⟩:=bf;cases y with
  | bx=>cases bp;exact PySem.EqNone.ne_int_none (ej I q (by simp))
  | int j=>obtain⟨t',rfl⟩:=bp;exact ne_int (ej I q (congrArg not DR))
  | str j=>obtain⟨t',rfl⟩:=bp;exact PySem.EqMixed.ne_int_str (ej I q (by simp))
  | _=>exact br (show false=true from aI) wa6
 | str i=>
  obtain⟨t,rfl⟩:=bf;cases y with
  | bx=>cases bp;exact PySem.EqNone.ne_str_none (ej I q (by simp))
  | bl j=>cases bp;exact PySem.EqMixed.ne_str_bool (ej I q (by simp))
  | int j=>obtain⟨t',rfl⟩:=bp;exact PySem.EqMixed.ne_str_int (ej I q (by simp))
  | str j=>obtain⟨t',rfl⟩:=bp;exact ne_str (ej I q (congrArg not DT))
  | _=>exact br (show false=true from aI) wa6
 | j7 i=>
  obtain⟨t,rfl⟩:=bf;cases y with
  | j7 j=>obtain⟨t',rfl⟩:=bp;exact PySem.W.ne_bytes (ej I q (congrArg not DU))
  | _=>exact br (show false=true from aI) wa6
 | _=>cases y<;>exact br (show false=true from aI) wa6
theorem nX:d7 X (compareOp .Lt) (lW λi j=>.bl (decide (i<j))):=vv λ_ _ _ _ _ _ _ q=>lt_int q
theorem pw:d7 X (compareOp .LtE) (lW λi j=>.bl (decide (i<=j))):=vv λ_ _ _ _ _ _ _ q=>le_int q
theorem vw:d7 X (compareOp .Gt) (lW λi j=>.bl (decide (j<i))):=vv λ_ _ _ _ _ _ _ q=>gt_int q
theorem vx:d7 X (compareOp .GtE) (lW λi j=>.bl (decide (j<=i))):=vv λ_ _ _ _ _ _ _ q=>ge_int q
theorem NK:d7 X (compareOp .In) (λx y H Q=>∃i j,x=.str i/\y=.str j/\Q (.bl (!(Builtin.Str.occurrences j i 0 j.length 1).isEmpty)) H):=by
 intro pins s J H x y v u Q I bf bp h;obtain⟨i,j,rfl,rfl,q⟩:=h;obtain⟨t,rfl⟩:=bf;obtain⟨t',rfl⟩:=bp;exact in_str (ej I q rfl)
theorem DV:d7 X (compareOp .Is) (λx y H Q=>y=.bx/\Q (.bl (decide (x=.bx))) H):=by
 intro pins s J H x y v u Q I bf bp h;obtain⟨rfl,q⟩:=h;cases bp;refine is_none_gen (ej I q ?_);cases x<;>first
  | (cases bf;rfl)
  | (obtain⟨t,rfl⟩:=bf;rfl)
theorem q0:d7 X (compareOp .IsNot) (λx y H Q=>y=.bx/\Q (.bl (!decide (x=.bx))) H):=by
 intro pins s J H x y v u Q I bf bp h;obtain⟨rfl,q⟩:=h;cases bp;refine isnot_none_gen (ej I q ?_);cases x<;>first
  | (cases bf;rfl)
  | (obtain⟨t,rfl⟩:=bf;rfl)
theorem MP (b:Expr)(h:autoParam (op≠.In) dB._auto_1) (ag:autoParam (op≠.NotIn) dB._auto_1):behindInMarks op b=false:=by
 have ar:(op==CmpOp.In)=false:=by cases op<;>first|rfl|exact br rfl h
 have aw:(op==CmpOp.NotIn)=false:=by cases op<;>first|rfl|exact br rfl ag
 cases b<;>simp[behindInMarks,ar,aw]
theorem NL {r:fT}(aA:d7 X (compareOp op) r) (aN:PE X a bB) (ae:PE X b bj) (hm:behindInMarks op b=false):PE X (.Compare a [op] [b] pos) (tOp r bB bj):=by
 intro pins s J H Q I h;exact wpAny_Compare1 (yB aN ae I h λv u s2 x y aE bu bf bp q=>aA pins s2 J aE x y v u Q bu bf bp q) hm
def vy (t:TE):TT:=λJ H Q=>t J H λx H'=>∃k,x=.bl k/\Q k H'
theorem NM {r:fT}(aA:d7 X (compareOp op) r) (aN:PE X a bB) (ae:PE X b bj) (hm:behindInMarks op b=false):ij X (.Compare a [op] [b] pos) (vy (tOp r bB bj)):=by
 intro pins s J H Q I h;refine wpAny_isTrue_Compare1 (bz (aN pins s J H _ I h) λv s1 ⟨x,H1,aO,bX,a8⟩=>bz (ae pins s1 J H1 _ aO a8) λu s2 ⟨y,aE,bu,cB,bK⟩=>
  bz (aA pins s2 J aE x y v u _ bu bX cB bK) λc s3 ⟨z,bP,cW,mM,k,e,dZ⟩=>?_) hm
 subst e;cases mM;exact wpAny_truthy_bool ⟨bP,cW,dZ⟩
def zfe (r c1:fT)(bB bj aC:TE):TE:=λJ H Q=>bB J H λx H1=>bj J H1 λy aE=>r x y aE λz bP=>∃k,z=.bl k/\
 (if k=true then aC J bP λeo ck=>c1 y eo ck Q else Q (.bl false) bP)
theorem NN {px:CmpOp}{r c1:fT}(aA:d7 X (compareOp op) r) (eg:d7 X (compareOp px) c1) (aN:PE X a bB) (ae:PE X b bj) (ak:PE X c aC)
  (hm:lastMarks [op,px] [b,c]=false:=by with_unfolding_all rfl):PE X (.Compare a [op,px] [b,c] pos) (zfe r c1 bB bj aC):=by
 intro pins s J H Q I h;refine Compare_chain (bz (aN pins s J H _ I h) λv s1 ⟨x,H1,aO,bX,a8⟩=>chain_link (bz (ae pins s1 J H1 _ aO a8) λu s2 ⟨y,aE,bu,cB,bK⟩=>
  bz (aA pins s2 J aE x y v u _ bu bX cB bK) λd s3 ⟨z,bP,cW,mM,k,e,dZ⟩=>?_)) hm
 subst e;cases mM;refine wpAny_truthy_bool ?_;cases k with
 | false=>exact ite_ff ⟨.bl false,bP,cW,rfl,dZ⟩
 | true=>exact ite_tt (chain_last (bz (ak pins s3 J bP _ cW dZ) λeo s4 ⟨fs,ck,iV,sI,mI⟩=>eg pins s4 J ck y fs u eo Q iV cB sI mI))
theorem DW {px:CmpOp}{r c1:fT}(aA:d7 X (compareOp op) r) (eg:d7 X (compareOp px) c1) (aN:PE X a bB) (ae:PE X b bj) (ak:PE X c aC)
  (hm:lastMarks [op,px] [b,c]=false:=by with_unfolding_all rfl):ij X (.Compare a [op,px] [b,c] pos) (vy (zfe r c1 bB bj aC)):=by
 intro pins s J H Q I h;refine isTrue_chain (bz (aN pins s J H _ I h) λv s1 ⟨x,H1,aO,bX,a8⟩=>test_link (bz (ae pins s1 J H1 _ aO a8) λu s2 ⟨y,aE,bu,cB,bK⟩=>
  bz (aA pins s2 J aE x y v u _ bu bX cB bK) λd s3 ⟨z,bP,cW,mM,k,e,dZ⟩=>?_)) hm
 subst e;cases mM;refine wpAny_truthy_bool ?_;cases k with
 | false=>
  obtain⟨eG,a4,q'⟩:=dZ;cases a4;exact ite_ff ⟨bP,cW,q'⟩
 | true=>
  refine ite_tt (test_last (bz (ak pins s3 J bP _ cW dZ) λeo s4 ⟨fs,ck,iV,sI,mI⟩=>bz (eg pins s4 J ck y fs u eo _ iV cB sI mI) λd' s5 ⟨eP,dg,mJ,mK,k2,aw,NO⟩=>?_));subst aw;cases mK;exact wpAny_truthy_bool ⟨dg,mJ,NO⟩
theorem q1:(sizeLine:Nat)<2^63:=by rw[sizeLine_eq];decide
theorem vals1 {x:V}(r:Vals [x] us):∃u,us=[u]/\RelV x u:=by
 cases r with
 | cons bX cB=>cases cB;exact⟨_,rfl,bX⟩
theorem vals2 {x y:V}(r:Vals [x,y] us):∃u eo,us=[u,eo]/\RelV x u/\RelV y eo:=by
 cases r with
 | cons bX cB=>
  cases cB with
  | cons mM sI=>cases sI;exact⟨_,_,rfl,bX,mM⟩
theorem q2 (ak:X.calm=true):g4 X (.builtin "max") (λxs H Q=>∃i j,xs=[.int i,.int j]/\Q (.int (if j>i then j else i)) H):=by
 intro pins s J H xs us Q I r h;obtain⟨i,j,rfl,q⟩:=h;obtain⟨u,eo,rfl,⟨t,rfl⟩,⟨t',rfl⟩⟩:=vals2 r;refine max_two_ints (I.ok.hd ak) λh' tk k=>⟨_,H,I.kept k,?_,q⟩;by_cases aZ:j>i
 ·rw[aM aZ,aM aZ];exact⟨_,rfl⟩
 ·rw[aB aZ,aB aZ];exact⟨_,rfl⟩
theorem pz (ak:X.calm=true):g4 X (.builtin "min") (λxs H Q=>∃i j,xs=[.int i,.int j]/\Q (.int (if j<i then j else i)) H):=by
 intro pins s J H xs us Q I r h;obtain⟨i,j,rfl,q⟩:=h;obtain⟨u,eo,rfl,⟨t,rfl⟩,⟨t',rfl⟩⟩:=vals2 r;refine min_two_ints (I.ok.hd ak) λh' tk k=>⟨_,H,I.kept k,?_,q⟩;by_cases aZ:j<i
 ·rw[aM aZ,aM aZ];exact⟨_,rfl⟩
 ·rw[aB aZ,aB aZ];exact⟨_,rfl⟩
theorem NP:g4 X (.builtin "divmod") (λxs H Q=>∃i j,xs=[.int i,.int j]/\DQ i j/\∀p,H p=none->Q (.ref p) (upd H p (.tup [.int (i/j),.int (i%j)]))):=by
 intro pins s J H xs us Q I r h;obtain⟨i,j,rfl,⟨aa,ag⟩,q⟩:=h;obtain⟨u,eo,rfl,⟨t,rfl⟩,⟨t',rfl⟩⟩:=vals2 r;refine divmod_int ⋯ ?_ (.inl (PyProof.noPylong_small ⋯));rw[Int.fdiv_eq_ediv_of_nonneg i ⋯,Int.fmod_eq_emod_of_nonneg i ⋯];have hn:H ↑s=none:=I.a6.fresh (wa8 _)
 refine⟨.ref ↑s,_,?_,rfl,q _ hn⟩;refine I.laid (λb o e=>get?_push_of_some _ e) (wa8 _) ⟨by simp only[length_cons,length_nil];rw[sizeLine_eq];decide,[.int (i/j) s.toks,.int (i%j) (s.toks+1)],.cons ⟨_,rfl⟩ (.cons ⟨_,rfl⟩ .nil),?_⟩;exact⟨_,get?_push_size s.heap rfl,rfl,0,rfl⟩
end
structure pA (h:Heap)(x av C:Addr)(dU:Str->Option Value):Prop where
 obj:h.get? x∣instObj C av
 ns:h.Ns1 av dU
 ne:av≠x
set_option tactic.hygienic true in
theorem NQ {h:Heap}(n:h.Ns1 av dU):∃cA,h.get? av∣cA/\∀name,lookIn name cA∣dU name:=by
 obtain⟨o,es,cC,aA,hd,aj,_,hm⟩:=n;refine⟨o,aA,λname=>?_⟩;have e:=hm name
 unfold nsFind findBy at e;rw[<- Array.find?_toList]at e;unfold lookIn;rw[hd];dsimp only
 split
 ·rename_i y q;rw[q]at e;exact congrArg some e
 ·rename_i q;rw[q]at e;have a:es.toList.any (·.refKey)=false:=by
   rw[List.any_eq_false];intro y bg;obtain⟨z,t,NR⟩:=aj y (Array.mem_toList_iff.mp bg);simp[DictEntry.refKey,NR]
  have DX:¬es.toList.any (·.refKey)=true:=by rw[a];exact wa6
  rw[aB DX];exact congrArg some e
theorem pA.look {h:Heap}{x:Addr}(I:pA h x av C dU):∃cA,PySem.W.InstAt h x (instObj C av) C (some cA)/\∀name,lookIn name cA∣dU name:=
 let⟨cA,aA,aD⟩:=NQ I.ns
 ⟨cA,⟨I.obj,rfl,rfl,aA⟩,aD⟩
section
variable {prog:Program}{w:World}{A:Around}{E:wvP}{s:Shared}{K:Frag}{x av C f:Addr}{dU:Str->Option Value}{name:Str}{v:Value}
theorem NS {expr:Bool}(X:K.In s.heap) (I:pA s.heap x av C dU) (bD:plainGet K C name=true) (bN:hasDictIn K C=true)
  (aN:findIn K (.ref C) name∣none) (aJ:dU name∣v) (iW:PySem.W.handedIn v=true) (h:Q v { s with toks:=s.toks+1 }):
  wpAny (model prog w) A (getAttr (.ref x) name expr) Q E s:=by
 obtain⟨cA,cq,aD⟩:=I.look;exact PySem.W.get_value X cq (PySem.W.plainGet_of bD).1 (PySem.W.findObj_own bN aN rfl (by rw[aD,aJ])) iW h
theorem NT {Q:Value×List Value->Shared->Prop}(X:K.In s.heap) (I:pA s.heap x av C dU) (bD:plainGet K C name=true)
  (hf:findIn K (.ref C) name∣some (.ref f)) (bC:isFn K (.ref f)=true) (aJ:dU name=none) (h:Q (.ref f,[.ref x]) s):
  wpAny (model prog w) A (getMethod (.ref x) name pl) Q E s:=by
 obtain⟨cA,cq,aD⟩:=I.look;exact PySem.W.method_fn X cq (PySem.W.plainGet_of bD).1 (PySem.W.plainGet_of bD).2 hf (beq_iff_eq.mp bC) (by show(lookIn name cA).map (·.isSome)∣false;rw[aD,aJ];rfl) h
theorem DY {ns:List Str}{Q:Unit->Shared->Prop}(X:K.In s.heap) (I:pA s.heap x av C dU)
  (aI:findIn K (.ref C) "__setattr__"∣some (.builtin "object.__setattr__")) (aG:plainOver K C=true) (bC:PySem.W.takerIn K C name∣none) (bN:hasDictIn K C=true)
  (hw:PySem.Within dU ns) (hsz:ns.length<=sizeLine)
  (h:∀h',pA h' x av C (λy=>if y=name then some v else dU y)->Heap.SameBut av s.heap h'->Q () { s with heap:=h',toks:=s.toks+2 }):
  wpAny (model prog w) A (setAttr (.ref x) name v) Q E s:=by
 obtain⟨cA,cq,aD⟩:=I.look;refine PySem.W.set_plain X cq aI (PySem.W.osa_open (s:={ s with toks:=s.toks+1 }) (r:=none) X cq aG bC λb=>?_);obtain⟨cd,ak,pe⟩:=PySem.W.any_some bN;have aq:s.heap.get? x∣⟨.ref C,some av,.plain,#[]⟩:=I.obj
 refine ax (bw (ax (ax (wpAny_loadPart aq (ax (PySem.W.Looks.here (s:={ s with toks:=s.toks+1 }) (PySem.W.looks_clsIn X ak) ?_))))));rw[pe];refine bw (a:=some av) (ax (bw (ax ?_)));refine wpAny_nsSet1 (s:={ s with toks:=s.toks+1 }) I.ns λh' nY lU=>?_;obtain⟨NU,NV,NW,NX,NY,NZ⟩:=nY.count (PySem.Within.cons name v hw);refine ax (wpAny_lookBehind NX (by rw[NY];exact pastItsLine_dict (wa0 NZ (by rw[length_cons];omega))) ?_);exact bw (h _ ⟨(lU.2 _ (Ne.symm I.ne)).trans I.obj,nY,I.ne⟩ lU)
theorem N0 {vs:List Value} (X:K.In s.heap) (hm:makesIn K C=true)
  (au:findIn K (.ref C) "__init__"∣some (.ref f)) (hf:PySem.W.typeIn K (.ref f)∣.type "function")
  (h:codeAny (model prog w) (A.under (.builtin "type.__call__" ⟨.ref C::vs,kw⟩)) (.call (.ref f) ⟨.ref (↑s+1)::vs,kw⟩) (PySem.W.InitBack (↑s+1) R)
   { s with heap:=(s.heap.push PySem.W.emptyDict).push (instObj C ↑s) }):
  codeAny (model prog w) A (.call (.ref C) ⟨vs,kw⟩) R s:=by
 obtain⟨bN,g,d,t,os⟩:=s;exact PySem.W.make_core (PySem.W.makes_of X hm) (PySem.W.looks_findIn X au) (λself=>PySem.W.bind_fn X self hf) (.inl rfl) h
end
def dG (f:Str)(v:V):List (Str×V)->List (Str×V)
 | []=>[(f,v)]
 | (g,x)::r=>if g=f then(g,v)::r else(g,x)::dG f v r
theorem zm (f g:Str)(v:V):∀aT:List (Str×V),(dG f v aT).lookup g=if g=f then some v else aT.lookup g
 | []=>by
  show List.lookup g [(f,v)]=_
  by_cases h:g=f
  ·have ae:(g==f)=true:=beq_iff_eq.mpr h
   simp only[List.lookup,ae,aM h]
  ·have ae:(g==f)=false:=beq_eq_false_iff_ne.mpr h
   simp only[List.lookup,ae,aB h]
 | (k,x)::r=>by
  have bE:=zm f g v r
  rw[show dG f v ((k,x)::r)=(if k=f then(k,v)::r else(k,x)::dG f v r) from rfl];by_cases aj:k=f
  ·rw[aM aj];by_cases h:g=k
   ·have ae:(g==k)=true:=beq_iff_eq.mpr h
    simp only[List.lookup,ae,aM (h.trans aj)]
   ·have ae:(g==k)=false:=beq_eq_false_iff_ne.mpr h
    simp only[List.lookup,ae,aB (λe:g=f=>h (e.trans aj.symm))]
  ·rw[aB aj];by_cases h:g=k
   ·have ae:(g==k)=true:=beq_iff_eq.mpr h
    simp only[List.lookup,ae,aB (λe:g=f=>aj (h.symm.trans e))]
   ·have ae:(g==k)=false:=beq_eq_false_iff_ne.mpr h
    simp only[List.lookup,ae];exact bE
theorem yC (f:Str)(v:V):∀aT:List (Str×V),f∈(dG f v aT).map (·.1)/\∀g,g∈aT.map (·.1)->g∈(dG f v aT).map (·.1)
 | []=>⟨by simp[dG],λg h=>by simp at h⟩
 | (k,x)::r=>by
  obtain⟨iX,vz⟩:=yC f v r;rw[show dG f v ((k,x)::r)=(if k=f then(k,v)::r else(k,x)::dG f v r) from rfl];by_cases aj:k=f
  ·rw[aM aj];subst aj;exact⟨by simp,λg h=>by simpa using h⟩
  ·rw[aB aj];refine⟨?_,λg h=>?_⟩
   ·rw[map_cons];exact mem_cons_of_mem _ iX
   ·rw[map_cons]at h ⊢;rcases mem_cons.mp h with e|e
    ·exact mem_cons.mpr (.inl e)
    ·exact mem_cons_of_mem _ (vz g e)
theorem DZ (f:Str)(v:V):∀aT:List (Str×V),(dG f v aT).length<=aT.length+1
 | []=>by simp[dG]
 | (k,x)::r=>by
  have bE:=DZ f v r
  rw[show dG f v ((k,x)::r)=(if k=f then(k,v)::r else(k,x)::dG f v r) from rfl];by_cases aj:k=f
  ·rw[aM aj,length_cons,length_cons];omega
  ·rw[aB aj,length_cons,length_cons];omega
theorem hx.some_of {v:V}{o:Option Value}(r:hx (some v) o):∃u,o∣u/\RelV v u:=by
 cases o with
 | none=>exact(show False from r).elim
 | some u=>exact⟨u,rfl,r⟩
theorem hx.none_of {o:Option Value}(r:hx none o):o=none:=by
 cases o with
 | none=>rfl
 | some u=>exact(show False from r).elim
theorem N1 {v:V}(r:RelV v u):PySem.W.handedIn u=true:=by
 cases v with
 | bx=>cases (show u=Value.none from r);rfl
 | bl b=>cases (show u=Value.bool b from r);rfl
 | int i=>obtain⟨t,e⟩:=(show ∃t,u=Value.int i t from r);cases e;rfl
 | str x=>obtain⟨t,e⟩:=(show ∃t,u=Value.str x t from r);cases e;rfl
 | j7 b=>obtain⟨t,e⟩:=(show ∃t,u=Value.bytes b t from r);cases e;rfl
 | pa b=>obtain⟨t,e⟩:=(show ∃t,u=Value.float b t from r);cases e;rfl
 | ref a=>cases (show u=Value.ref a from r);rfl
 | ty n=>cases (show u=Value.type n from r);rfl
section
variable {P:Program}{w:World}{H H':ah}{h h':Heap}{a C av:Addr}{aT Nd:List (Str×V)}
theorem vA (a6:dV P w H h)(e:H a∣.ins C av aT):∃dU,pA h a av C dU/\(∀f,hx (aT.lookup f) (dU f))/\PySem.Within dU (aT.map (·.1))/\aT.length<=1000/\H av∣.own a:=by
 obtain⟨d,z,ne,ob,dU,n,r,q⟩:=(show de P w H h a (.ins C av aT) from a6 a _ e);exact⟨dU,⟨ob,n,ne⟩,r,q,z,d⟩
end
structure eQ (K:Frag)(C:Addr):Prop where
 N2:plainGet K C Str.empty=true
 hd:hasDictIn K C=true
 po:plainOver K C=true
 yD:findIn K (.ref C) "__setattr__"∣some (.builtin "object.__setattr__")
theorem eQ.get (c:eQ K C) (f:Str):plainGet K C f=true:=c.N2
def eR (K:Frag)(C:Addr)(f:Str):Prop:=findIn K (.ref C) f∣none
theorem eR.N3 {f:Str}(n:eR K C f):PySem.W.takerIn K C f∣none:=by
 unfold PySem.W.takerIn;rw[show findIn K (.ref C) f=some none from n];rfl
structure Meth (K:Frag)(C:Addr)(m:Str)(f:Addr):Prop where
 at_:findIn K (.ref C) m∣some (.ref f)
 fn:isFn K (.ref f)=true
 c2:keepIn K (.ref f)=true
section
variable {X:Cx}{pins:List (Addr×Obj)}{J:St}{H:ah}{s:Shared}{a C av:Addr}{aT:List (Str×V)}{f:Str}{v:V}{A:Around}{E:wvP}
theorem N4 {b:Bool}(I:Inv X pins J H s) (e:H a∣.ins C av aT) (c:eQ X.K C) (n:eR X.K C f) (l:aT.lookup f∣v)
  (h:∀u s',Inv X pins J H s'->RelV v u->Q u s'):wpAny (model X.prog X.w) A (getAttr (.ref a) f b) Q E s:=by
 obtain⟨dU,O,r,_,_,_⟩:=vA I.a6 e;obtain⟨u,bZ,gh⟩:=hx.some_of (v:=v) (o:=dU f) (by rw[<- l];exact r f);exact NS I.d5 O (c.get f) c.hd n bZ (N1 gh) (h u _ (I.tok _) gh)
theorem vB {m:Str}{g:Addr}{Q:Value×List Value->Shared->Prop}(I:Inv X pins J H s) (e:H a∣.ins C av aT) (c:eQ X.K C) (k:Meth X.K C m g) (l:aT.lookup m=none)
  (h:Q (.ref g,[.ref a]) s):wpAny (model X.prog X.w) A (getMethod (.ref a) m pl) Q E s:=by
 obtain⟨dU,O,r,_,_,_⟩:=vA I.a6 e;have hn:dU m=none:=hx.none_of (by rw[<- l];exact r m)
 exact NT I.d5 O (c.get m) k.at_ k.fn hn h
theorem N5 {y:V}{Q:Unit->Shared->Prop}(I:Inv X pins J H s) (e:H a∣.ins C av aT) (c:eQ X.K C) (n:eR X.K C f) (aD:aT.length<1000) (bp:RelV y u)
  (h:∀s',Inv X pins J (upd H a (.ins C av (dG f y aT))) s'->Q () s'):wpAny (model X.prog X.w) A (setAttr (.ref a) f u) Q E s:=by
 obtain⟨dU,O,r,gz,_,aA⟩:=vA I.a6 e;have hz:(aT.map (·.1)).length<=sizeLine:=by rw[length_map,sizeLine_eq];omega
 refine DY I.d5 O c.yD c.po n.N3 c.hd gz hz λh' yE jL=>h _ ?_;have hd:∃o,h'.get? av∣o:=let⟨o,_,_,a4,_⟩:=yE.ns;⟨o,a4⟩
 refine I.write (x:=a) (e:=av) (by rw[e];exact True.intro) (.inr aA) (λb q ae z=>(jL.2 b ae).trans z) hd ?_;refine⟨by rwa[zf O.ne],?_,O.ne,yE.obj,_,yE.ns,λg=>?_,λg bD=>?_⟩
 ·have:=DZ f y aT;omega
 ·show hx ((dG f y aT).lookup g) (if g=f then some u else dU g)
  rw[zm];by_cases q:g=f
  ·rwa[aM q,aM q]
  ·rw[aB q,aB q];exact r g
 ·by_cases q:g=f
  ·rw[q];exact(yC f y aT).1
  ·refine(yC f y aT).2 g (gz g λz=>bD ?_);show(if g=f then some u else dU g)=none
   rwa[aB q]
theorem Inv.made (I:Inv X pins J H s):Inv X pins J (upd (upd H ↑s (.own (↑s+1))) (↑s+1) (.ins C ↑s []))
  { s with heap:=(s.heap.push PySem.W.emptyDict).push (instObj C ↑s) }:=by
 have ar:(s.heap.push PySem.W.emptyDict).get? ↑s∣PySem.W.emptyDict:=get?_push_size s.heap rfl
 have aw:((s.heap.push PySem.W.emptyDict).push (instObj C ↑s)).get? (↑s+1)∣instObj C ↑s:=by
  have:=get?_push_size (s.heap.push PySem.W.emptyDict) (o:=instObj C ↑s) rfl
  rwa [size_push]at this
 have bV:(s.heap.push PySem.W.emptyDict).Ns ↑s (λ_=>none):=⟨PySem.W.emptyDict,#[],_,ar,rfl,(λe he=>br he (by simp)),λ_=>rfl⟩
 have aO:=I.laid (a:=↑s) (o:=.own (↑s+1)) (h':=s.heap.push PySem.W.emptyDict) (t':=s.toks) (λb u q=>get?_push_of_some _ q) (wa8 _) ⟨_,ar⟩
 refine aO.laid (a:=↑s+1) (o:=.ins C ↑s []) (t':=s.toks) (λb u q=>get?_push_of_some _ q) (Nat.le_of_eq (size_push _ _)) ?_;have ne:↑s≠↑s+1:=ne_of_lt (lt_succ_self _)
 refine⟨by rw[zf ne,aH],zero_le _,ne,aw,λ_=>none,(Heap.Ns1.of_empty bV).at λo q=>get?_push_of_some _ q,λ_=>True.intro,λy bg=>br rfl bg⟩
theorem N6 {f:Str}{s:Shared}(ae:attributeBase e f env (eval e env)=eval e env)
  (h:wpAny (model prog w) A (eval e env) (λo d6=>wpAny (model prog w) A (getAttr o f true) Q E d6) E s):wpAny (model prog w) A (eval (.Attribute e f pos) env) Q E s:=
 Attribute_any_ h (by rw[arm_eval_Attribute,ae])
end
def yF (K:Frag)(bB:TE)(f:Str):TE:=λJ H Q=>bB J H λx H1=>∃a C av aT v,x=.ref a/\H1 a∣.ins C av aT/\eQ K C/\eR K C f/\aT.lookup f∣v/\Q v H1
def zuo (K:Frag)(bB fv:TE)(f:Str):cV:=λD J H=>fv J H λy H1=>bB J H1 λx aE=>∃a C av aT,x=.ref a/\aE a∣.ins C av aT/\eQ K C/\eR K C f/\aT.length<1000/\
 D.aP J (upd aE a (.ins C av (dG f y aT)))
section
variable {X:Cx}{o e value:Expr}{f:Str}{pos pos' sJ:Pos}{bB fv:TE}
theorem dN (he:PE X e bB)(ae:attributeBase e f X.env (eval e X.env)=eval e X.env):PE X (.Attribute e f pos) (yF X.K bB f):=by
 intro pins s J H Q I h;refine N6 ae (bz (he pins s J H _ I h) λu s1 ⟨x,H1,aO,bf,a,C,av,aT,v,ex,a0,c,n,l,q⟩=>?_);subst ex;obtain rfl:u=Value.ref a:=bf;exact N4 aO a0 c n l λnU s2 bu gh=>⟨v,H1,bu,gh,q⟩
theorem iq (aN:PE X o bB)(aJ:PE X value fv)(aI:swapsWith value (some (.Attribute o f pos')) pos.line X.env=pure false):PS X (.Assign [.Attribute o f pos'] value pos) (zuo X.K bB fv f):=by
 intro pins s J H D I h;refine plainObj_wpAny_Assign_Attribute (bz (aJ pins s J H _ I h) λu s1 ⟨y,H1,aO,bp,q⟩=>bz (aN pins s1 J H1 _ aO q) λdK s2 ⟨x,aE,bu,bf,a,C,av,aT,ex,a0,c,n,l,bK⟩=>?_) aI;subst ex;obtain rfl:dK=Value.ref a:=bf;exact N5 bu a0 c n l bp λs3 cW=>⟨J,_,cW,bK⟩
end
section
variable {X:Cx}{pins:List (Addr×Obj)}{J:St}{H:ah}{s:Shared}{A:Around}{E:wvP}{Q:wvP}{c:Value}{b:Bool}
inductive gN (K:Frag)(H:ah):V->Value->Prop where
 | bx:gN K H .bx (.type "NoneType")
 | bl (x:Bool):gN K H (.bl x) (.type "bool")
 | int (i:Int):gN K H (.int i) (.type "int")
 | str (x:Str):gN K H (.str x) (.type "str")
 | pa (x:UInt64):gN K H (.pa x) (.type "float")
 | lst {a:Addr}{xs:List V}(e:H a∣.lst xs):gN K H (.ref a) (.type "list")
 | cc {a:Addr}{o:Obj}{xs:List V}(e:H a∣.cc o (.lst xs)):gN K H (.ref a) (.type "list")
 | tup {a:Addr}{xs:List V}(e:H a∣.tup xs):gN K H (.ref a) (.type "tuple")
 | bO {a:Addr}{kvs:List (Key×V)} (e:H a∣.bO kvs):gN K H (.ref a) (.type "dict")
 | bc {a:Addr}{kvs:List (List Key×V)} (e:H a∣.bc kvs):gN K H (.ref a) (.type "dict")
 | ins {a C av:Addr}{aT:List (Str×V)} (e:H a∣.ins C av aT) (cl:eQ K C) (aN:findIn K (.ref C) "__class__"∣some (.builtin "object.__class__"))
   (hn:specialIn K (.builtin "object.__class__") "__get__"∣some (.builtin "getset_descriptor.__get__")) (pB:takesIn K (.builtin "object.__class__")∣true)
   (hm:mroIn K C (.type "object")∣true):gN K H (.ref a) (.ref C)
theorem D0 {x:V}{t:Value}(I:Inv X pins J H s) (bf:RelV x u) (ty:gN X.K H x t) (e:kitOne X.K t c∣b) (h:∀tk,Q (.bool b) { s with toks:=tk }):
  wpAny (model X.prog X.w) A (call (.builtin "isinstance") [u,c]) Q E s:=by
 cases ty with
 | bx=>cases (show u=Value.none from bf);exact kia_one PySem.W.kitx_none I.d5 True.intro e (λz=>nomatch z) h
 | bl y=>cases (show u=Value.bool y from bf);exact kia_one PySem.W.kitx_bool I.d5 True.intro e (λz=>nomatch z) h
 | int i=>obtain⟨t,q⟩:=(show ∃t,u=Value.int i t from bf);cases q;exact kia_one PySem.W.kitx_int I.d5 True.intro e (λz=>nomatch z) h
 | str y=>obtain⟨t,q⟩:=(show ∃t,u=Value.str y t from bf);cases q;exact kia_one PySem.W.kitx_str I.d5 True.intro e (λz=>nomatch z) h
 | pa y=>obtain⟨t,q⟩:=(show ∃t,u=Value.float y t from bf);cases q;exact kia_one PySem.W.kitx_float I.d5 True.intro e (λz=>nomatch z) h
 | @lst a xs a0=>
  cases (show u=Value.ref a from bf);obtain⟨_,_,n,_,aa⟩:=(show de X.prog X.w H s.heap a (.lst xs) from I.a6 a _ a0);exact kia_one PySem.W.kitx_list I.d5 ⟨_,aa,rfl⟩ e (λz=>nomatch z) h
 | @cc a ob xs a0=>
  cases (show u=Value.ref a from bf);obtain⟨_,_,_,n,_,aa⟩:=(show de X.prog X.w H s.heap a (.cc ob (.lst xs)) from I.a6 a _ a0);exact kia_one PySem.W.kitx_list I.d5 ⟨_,aa,rfl⟩ e (λz=>nomatch z) h
 | @tup a xs a0=>
  cases (show u=Value.ref a from bf);obtain⟨_,_,_,p⟩:=(show de X.prog X.w H s.heap a (.tup xs) from I.a6 a _ a0);obtain⟨o,aa,ag,_⟩:=p;exact kia_one PySem.W.kitx_tuple I.d5 ⟨o,aa,ag⟩ e (λz=>nomatch z) h
 | @bO a kvs a0=>
  cases (show u=Value.ref a from bf);obtain⟨_,_,vs,_,p⟩:=(show de X.prog X.w H s.heap a (.bO kvs) from I.a6 a _ a0);obtain⟨o,es,cC,aa,ag,_⟩:=p;exact kia_one PySem.W.kitx_dict I.d5 ⟨o,aa,ag.1⟩ e (λz=>nomatch z) h
 | @bc a kvs a0=>
  cases (show u=Value.ref a from bf);obtain⟨_,_,xs,_,o,es,cC,aa,ag,_⟩:=(show de X.prog X.w H s.heap a (.bc kvs) from I.a6 a _ a0);exact kia_one PySem.W.kitx_dict I.d5 ⟨o,aa,ag.1⟩ e (λz=>nomatch z) h
 | @ins a C av aT a0 cl aN hn pB hm=>
  cases (show u=Value.ref a from bf);obtain⟨dU,O,_⟩:=vA I.a6 a0;obtain⟨cA,cq,_⟩:=O.look;exact kia_one (PySem.W.kitx_own (cl.get _) cl.hd aN hn pB hm) I.d5 cq e (λz=>nomatch z) h
end
structure da (k:Nat)(A:Around):Prop where
 hd:A.handled=none
 ka:A.depth+3*k+5<recursionLimit
 un:A.units+16*k+200<cLine
theorem da.mono {k:Nat}(r:da k A) (h:j<=k):da j A:=⟨r.hd,by have:=r.ka;omega,by have:=r.un;omega⟩
theorem da.deeper {k:Nat}(r:da (k+1) A) (env:Env):da k (A.deeper env):=
 ⟨r.hd,by have:=r.ka;show A.depth+1+3*k+5<_;omega,by have:=r.un;show A.units+3+16*k+200<_;omega⟩
theorem N7:(A.under (.builtin "type.__call__" ⟨.ref C::us,kw⟩)).depth=A.depth+1:=by
 first|rfl|simp[Around.under,Code.weight,Code.isCreation,Code.isGuard,Code.isCaller,Code.frames,Code.isFrame,guardIds]
theorem N8:(A.under (.builtin "type.__call__" ⟨.ref C::us,kw⟩)).units=A.units+1:=by
 first|rfl|simp[Around.under,Code.cUnits,Code.frames,Code.isFrame]
theorem da.make {k:Nat}(r:da (k+1) A) (C:Addr) (us:List Value) (kw:List (Str×Value)):da k (A.under (.builtin "type.__call__" ⟨.ref C::us,kw⟩)):=
 ⟨r.hd,by have:=r.ka;rw[N7];omega,by have:=r.un;rw[N8];omega⟩
theorem da.depth {k:Nat}(r:da k A):A.depth<recursionLimit:=by have:=r.ka;omega
theorem da.units {k:Nat}(r:da k A):A.units+64<cLine:=by have:=r.un;omega
theorem da.N9 {k:Nat}(r:da k A):A.units<cLine:=by have:=r.un;omega
def zus:dz:=λ_ H Q=>Q [] H
def zhe (bB:TE)(d8:dz):dz:=λJ H Q=>bB J H λx H1=>d8 J H1 λxs aE=>Q (x::xs) aE
section
variable {X:Cx}{e:Expr}{es:List Expr}{bM:TE}{t:dz}{pos:Pos}
theorem ay:PA X [] zus:=λ_ _ _ _ H Q I h=>Calls.spliced_nil ⟨[],H,I,.nil,h⟩
theorem Oa (aN:PE X e bM)(a5:PA X es t)(aI:autoParam (starEach (e::es) X.env=(false,eval e X.env)::starEach es X.env) dA._auto_1):PA X (e::es) (zhe bM t):=by
 intro pos pins s J H Q I h;rw[aI];show wpAny _ _ (spliced ((false,eval e X.env)::backTo pos (starEach es X.env))) _ _ s
 refine Calls.spliced_cons (bz (aN pins s J H _ I h) λu s1 ⟨x,H1,aO,bX,a8⟩=>?_);exact bz (a5 pos pins s1 J H1 _ aO a8) λus s2 ⟨xs,aE,bu,cB,bK⟩=>⟨x::xs,aE,bu,.cons bX cB,bK⟩
def D1 (t:dz):TE:=λJ H Q=>t J H λxs H1=>xs.length<=sizeLine/\∀p,H1 p=none->Q (.ref p) (upd H1 p (.tup xs))
def zwl (t:dz):TE:=λJ H Q=>t J H λxs H1=>xs.length<=sizeLine/\∀p,H1 p=none->Q (.ref p) (upd H1 p (.lst xs))
theorem fj {x1}(h:PA X es t):PE X (.Tuple es x1 pos) (D1 t):=by
 intro pins s J H Q I ao;refine wpAny_Tuple_spliced (bz (h pos pins s J H _ I ao) λus s1 ⟨xs,H1,aO,r,z,q⟩=>⟨by rwa[<- r.length],?_⟩);have hf:H1 ↑s1=none:=aO.a6.fresh (wa8 _)
 refine⟨.ref ↑s1,upd H1 ↑s1 (.tup xs),aO.laid (t':=s1.toks) (λb u e=>get?_push_of_some _ e) (wa8 _) ?_,rfl,q _ hf⟩;exact⟨z,us,r,⟨_,get?_push_size _ rfl,rfl,_,rfl⟩⟩
theorem ww (h:PA X es t):PE X (.List es pos) (zwl t):=by
 intro pins s J H Q I ao;refine wpAny_List_spliced (bz (h pos pins s J H _ I ao) λus s1 ⟨xs,H1,aO,r,z,q⟩=>⟨by rwa[<- r.length],?_⟩);have hf:H1 ↑s1=none:=aO.a6.fresh (wa8 _)
 refine⟨.ref ↑s1,upd H1 ↑s1 (.lst xs),aO.laid (t':=s1.toks) (λb u e=>get?_push_of_some _ e) (wa8 _) ?_,rfl,q _ hf⟩;exact⟨z,us,0,r,get?_push_size _ rfl⟩
end
abbrev d0:=List V->ah->bo->bL->Prop
abbrev g5:=List Env->ah->Shared->bL->wvP
structure nZ (P:Program)(w:World)(K:Frag)(mg:Str->Option Value)(base:Heap)(A:Around)(outer:List Env)(s:Shared)(H:ah):Prop where
 frames:A.frames∣outer
 mod:Mod K mg base
 bs:∀b o,base.get? b∣o->s.heap.get? b∣o/\H b=none
 jH:base.objs.size<=↑s
 gY:s.heap.FunFrames base outer
 jI:∀b∈d4 outer,H b=none
 a6:dV P w H s.heap
 bare:AllBare s.gens
def vC (outer:List Env)(P:Program)(w:World)(H:ah)(s:Shared)(Q:bo)(u:Value)(s':Shared):Prop:=
 ∃v H',s'.os=s.os/\AllBare s'.gens/\fq (d4 outer) [] H H' s.heap s'.heap/\dV P w H' s'.heap/\RelV v u/\Q v H'
def yG (c8:g5)(outer:List Env)(P:Program)(w:World)(H:ah)(s:Shared)(Q:bo)(E:bL)(r:Result)(s':Shared):Prop:=
 match r with
 | .ok (.ret u)=>vC outer P w H s Q u s'
 | .ok _=>False
 | .error e=>c8 outer H s E e s'
structure fw (P:Program)(w:World)(K:Frag)(mg:Str->Option Value)(base:Heap)(c8:g5)(k:Nat)(f:Addr)(fd:FuncData)(ps:List Str)(sp:d0):Prop where
 len:∀vs H Q E,sp vs H Q E->vs.length=ps.length
 run:∀(A:Around)(outer:List Env)(s:Shared)(H:ah)(args:Args)(us:List Value)(vs:List V)(Q:bo)(E:bL),da k A->nZ P w K mg base A outer s H->BindsTo s fd args (ps.zip us)->Vals vs us->sp vs H Q E->
  codeAny (model P w) A (.call (.ref f) args) (yG c8 outer P w H s Q E) s
theorem fw.mono {c8:g5}{k:Nat}{sp:d0}(F:fw P w K mg base c8 j f fd ps sp) (h:j<=k):
  fw P w K mg base c8 k f fd ps sp:=⟨F.len,λA outer s H args us vs Q E a5=>F.run A outer s H args us vs Q E (a5.mono h)⟩
theorem nZ.make {H:ah}(e:nZ P w K mg base A outer s H) (C:Addr) (us:List Value) (kw:List (Str×Value)):
  nZ P w K mg base (A.under (.builtin "type.__call__" ⟨.ref C::us,kw⟩)) outer s H:=⟨by first|exact e.frames|(simpa [Around.under,Code.envs,Code.isFrame,pushEnvs] using e.frames),e.mod,e.bs,e.jH,e.gY,e.jI,e.a6,e.bare⟩
section
variable {X:Cx}{pins:List (Addr×Obj)}{J:St}{H:ah}{s s':Shared}
theorem Inv.sL (I:Inv X pins J H s):nZ X.prog X.w X.K X.mg X.base X.A X.stack s H:=
 ⟨I.ok.frames,I.ok.mod,I.bs,wa0 I.ok.jH I.jk,I.stack,I.vf,I.a6,I.bare⟩
theorem Inv.after {Q:bo}(I:Inv X pins J H s) (h:vC X.stack X.prog X.w H s Q u s'):fR X pins J Q u s':=by
 obtain⟨v,H',os,bare,un,a6,r,q⟩:=h;obtain⟨bN,g,d,t,Ob⟩:=s';obtain rfl:Ob=s.os:=os;exact⟨v,H',I.call (h':=bN) (g':=g) (d':=d) (t':=t) (ch:=[]) un a6 bare (λb z=>br z (by simp)),r,q⟩
end
def zgz (sp:d0)(d1:List V)(E:bL)(t:dz):TE:=λJ H Q=>t J H λvs H1=>sp (vs++d1) H1 Q E
def zjf (C:Addr)(m:Str)(sp:d0)(d1:List V)(E:bL)(bB:TE)(t:dz):TE:=λJ H Q=>bB J H λx H1=>∃a av aT,x=.ref a/\H1 a∣.ins C av aT/\aT.lookup m=none/\
 t J H1 λvs aE=>sp (x::(vs++d1)) aE Q E
def zeg (C:Addr)(sp:d0)(d1:List V)(E:bL)(t:dz):TE:=λJ H Q=>t J H λvs H1=>∀x av,H1 x=none->H1 av=none->av≠x->
 sp (.ref x::(vs++d1)) (upd (upd H1 av (.own x)) x (.ins C av [])) (λv aE=>v=.bx/\Q (.ref x) aE) E
def Binds (K:Frag)(fd:FuncData)(ps:List Str)(ds:List Value):Prop:=
 ∀(s:Shared)(us:List Value),K.In s.heap->(us++ds).length=ps.length->BindsTo s fd ⟨us,[]⟩ (ps.zip (us++ds))
theorem Binds.all (h:∀us:List Value,us.length=ps.length->bindArgs fd ⟨us,[]⟩=pure (ps.zip us)):Binds K fd ps []:=λs us _ aD=>by
 rw[append_nil]at aD ⊢;exact .of_eq (h us aD)
def n0 (c8:g5)(X:Cx)(E:bL):Prop:=∀(pins:List (Addr×Obj))(J:St)(H:ah)(s:Shared)(e:Value)(s':Shared),Inv X pins J H s->c8 X.stack H s E e s'->X.cQ e s'
section
variable {X:Cx}{c8:g5}{k:Nat}{f C:Addr}{fd:FuncData}{ps:List Str}{sp:d0}{d1:List V}{ds:List Value}{E:bL}{x m:Str}{p pos apos:Pos}{e o:Expr}{es:List Expr}{bB:TE}{t:dz}
theorem vD {J:St}{H:ah}{Q:bo}{vs:List V}(F:fw X.prog X.w X.K X.mg X.base c8 k f fd ps sp) (a5:da k X.A) (ae:Binds X.K fd ps ds) (hd:Vals d1 ds) (aq:n0 c8 X E)
  (I:Inv X pins J H s) (r:Vals vs us) (h:sp (vs++d1) H Q E):wpAny (model X.prog X.w) X.A (call (.ref f) us) (fR X pins J Q) X.cQ s:=by
 have cB:Vals (vs++d1) (us++ds):=r.append hd
 have aD:(us++ds).length=ps.length:=by rw[<- cB.length];exact F.len _ _ _ _ h
 refine wpAny_call (codeAny_mono (F.run X.A X.stack s H ⟨us,[]⟩ (us++ds) (vs++d1) Q E a5 I.sL (ae s us I.d5 aD) cB h) λr s' ao=>?_);cases r with
 | error e=>exact aq pins J H s e s' I ao
 | ok bJ=>
  cases bJ with
  | ret u=>exact I.after ao
  | next=>exact False.elim ao
  | brk=>exact False.elim ao
  | cont=>exact False.elim ao
theorem yH (F:fw X.prog X.w X.K X.mg X.base c8 k f fd ps sp)(a5:da k X.A)(bD:ft X x)(hm:X.mg x∣.ref f)(aj:keepIn X.K (.ref f)=true)(ae:Binds X.K fd ps ds)(hd:Vals d1 ds)(aq:n0 c8 X E)(aN:PA X (e::es) t)(hdb:autoParam ((x==("__debug__":Str))=false) dB._auto_1)(he:autoParam (starEach (e::es) X.env=(false,eval e X.env)::starEach es X.env) dA._auto_1)(hpl:autoParam ((backTo pos (starEach es X.env)).any (·.1)=false) dA._auto_1):
  PE X (.Call (.Name x p) (e::es) [] pos) (zgz sp d1 E t):=by
 intro pins s J H Q I h;refine wpAny_Call_Name_kw (nV I bD hm ?_ hdb);refine callWith_K (h₀:=X.base) I.ok.mod.ig aj (bz (aN pos pins s J H _ I h) λus s1 ⟨vs,H1,aO,r,q⟩=>⟨aO.d5,?_⟩) he hpl;exact vD F a5 ae hd aq aO r q
theorem Oc (he:PE X o bB) (c:eQ X.K C) (hm:Meth X.K C m f) (F:fw X.prog X.w X.K X.mg X.base c8 k f fd ps sp) (a5:da k X.A) (ae:Binds X.K fd ps ds) (hd:Vals d1 ds) (aq:n0 c8 X E) (aN:PA X (e::es) t)
  (hst:autoParam (starEach (e::es) X.env=(false,eval e X.env)::starEach es X.env) dA._auto_1) (hpl:autoParam ((backTo pos (starEach es X.env)).any (·.1)=false) dA._auto_1)
  (bC:autoParam (eval (.Call (.Attribute o m apos) (e::es) [] pos) X.env=(do
   let dK <- eval o X.env
   standAt apos.atName
   let(f,first) <- holding [dK] (getMethod dK m pl)
   callWith pos f first (backTo pos (starEach (e::es) X.env)) (backToKw pos (keywordEach [] X.env)))) dA._auto_1):
  PE X (.Call (.Attribute o m apos) (e::es) [] pos) (zjf C m sp d1 E bB t):=by
 intro pins s J H Q I h;refine methodCall_KW (pl:=pl) (bz (he pins s J H _ I h) λu s1 ⟨x,H1,aO,bf,a,av,aT,ex,a0,l,q⟩=>?_) bC;subst ex;obtain rfl:u=Value.ref a:=bf;refine vB aO a0 c hm l ?_;refine callWith_K (first:=[.ref a]) (h₀:=X.base) I.ok.mod.ig hm.c2 (bz (aN pos pins s1 J H1 _ aO q) λus s2 ⟨vs,aE,bu,r,bK⟩=>⟨bu.d5,?_⟩) hst hpl;exact vD (us:=.ref a::us) (vs:=.ref a::vs) F a5 ae hd aq bu (.cons rfl r) bK
theorem Od (he:PE X o bB) (c:eQ X.K C) (hm:Meth X.K C m f) (F:fw X.prog X.w X.K X.mg X.base c8 k f fd ps sp) (a5:da k X.A) (ae:Binds X.K fd ps ds) (hd:Vals d1 ds) (aq:n0 c8 X E)
  (bC:autoParam (eval (.Call (.Attribute o m apos) [] [] pos) X.env=(do
   let dK <- eval o X.env
   standAt apos.atName
   let(f,first) <- holding [dK] (getMethod dK m pl)
   callWith pos f first (backTo pos (starEach [] X.env)) (backToKw pos (keywordEach [] X.env)))) dA._auto_1):
  PE X (.Call (.Attribute o m apos) [] [] pos) (zjf C m sp d1 E bB zus):=by
 intro pins s J H Q I h;refine methodCall_KW (pl:=pl) (bz (he pins s J H _ I h) λu s1 ⟨x,H1,aO,bf,a,av,aT,ex,a0,l,q⟩=>?_) bC;subst ex;obtain rfl:u=Value.ref a:=bf;refine vB aO a0 c hm l ?_;exact PySem.W.callWith_K0 (first:=[.ref a]) aO.d5 hm.c2 (vD (us:=[.ref a]) (vs:=[.ref a]) F a5 ae hd aq aO (.cons rfl .nil) q)
structure h2 (K:Frag)(C f:Addr):Prop where
 makes:makesIn K C=true
 init:findIn K (.ref C) "__init__"∣some (.ref f)
 fn:isFn K (.ref f)=true
 c2:keepIn K (.ref C)=true
theorem D2 {J:St}{H:ah}{Q:bo}{vs:List V}(M:h2 X.K C f) (F:fw X.prog X.w X.K X.mg X.base c8 k f fd ps sp) (a5:da (k+1) X.A) (ae:Binds X.K fd ps ds) (hd:Vals d1 ds)
  (aq:n0 c8 X E) (I:Inv X pins J H s) (r:Vals vs us)
  (h:∀x av,H x=none->H av=none->av≠x->sp (.ref x::(vs++d1)) (upd (upd H av (.own x)) x (.ins C av [])) (λv aE=>v=.bx/\Q (.ref x) aE) E):
  wpAny (model X.prog X.w) X.A (call (.ref C) us) (fR X pins J Q) X.cQ s:=by
 have ao:=h (↑s+1) ↑s (I.a6.fresh (le_succ _)) (I.a6.fresh (wa8 _)) (ne_of_lt (lt_succ_self _))
 have bu:=Inv.made (C:=C) I
 have cB:Vals (V.ref (↑s+1)::(vs++d1)) (Value.ref (↑s+1)::(us++ds)):=.cons rfl (r.append hd)
 have aD:(Value.ref (↑s+1)::us++ds).length=ps.length:=by
  have e:=cB.length
  rw[F.len _ _ _ _ ao]at e;exact e.symm
 refine wpAny_call (N0 (f:=f) I.d5 M.makes M.init (beq_iff_eq.mp M.fn) (codeAny_mono (F.run _ X.stack _ _ ⟨Value.ref (↑s+1)::us,[]⟩ (Value.ref (↑s+1)::(us++ds)) _ _ E (a5.make C us [])
  (bu.sL.make C us []) (ae _ (Value.ref (↑s+1)::us) bu.d5 aD) cB ao) λr s' eS=>?_))
 cases r with
 | error e=>exact aq pins J _ _ e s' bu eS
 | ok bJ=>
  cases bJ with
  | ret u=>
   obtain⟨v,H',cW,cf,ev,dZ⟩:=bu.after eS;subst ev;exact⟨cf,⟨V.ref (↑s+1),H',cW,rfl,dZ⟩⟩
  | next=>exact False.elim eS
  | brk=>exact False.elim eS
  | cont=>exact False.elim eS
theorem Oe (M:h2 X.K C f)(F:fw X.prog X.w X.K X.mg X.base c8 k f fd ps sp)(a5:da (k+1) X.A)(bD:ft X x)(hm:X.mg x∣.ref C)(ae:Binds X.K fd ps ds)(hd:Vals d1 ds)(aq:n0 c8 X E)(aN:PA X (e::es) t)(hdb:autoParam ((x==("__debug__":Str))=false) dB._auto_1)(he:autoParam (starEach (e::es) X.env=(false,eval e X.env)::starEach es X.env) dA._auto_1)(hpl:autoParam ((backTo pos (starEach es X.env)).any (·.1)=false) dA._auto_1):
  PE X (.Call (.Name x p) (e::es) [] pos) (zeg C sp d1 E t):=by
 intro pins s J H Q I h;refine wpAny_Call_Name_kw (nV I bD hm ?_ hdb);refine callWith_K (h₀:=X.base) I.ok.mod.ig M.c2 (bz (aN pos pins s J H _ I h) λus s1 ⟨vs,H1,aO,r,q⟩=>⟨aO.d5,?_⟩) he hpl;exact D2 M F a5 ae hd aq aO r q
theorem Of (M:h2 X.K C f)(F:fw X.prog X.w X.K X.mg X.base c8 k f fd ps sp)(a5:da (k+1) X.A)(bD:ft X x)(hm:X.mg x∣.ref C)(ae:Binds X.K fd ps ds)(hd:Vals d1 ds)(aq:n0 c8 X E)(hdb:autoParam ((x==("__debug__":Str))=false) dB._auto_1):PE X (.Call (.Name x p) [] [] pos) (zeg C sp d1 E zus):=by
 intro pins s J H Q I h;refine wpAny_Call_Name_kw (nV I bD hm ?_ hdb);exact PySem.W.callWith_K0 I.d5 M.c2 (D2 (us:=[]) M F a5 ae hd aq I .nil h)
end
def yI (X:Cx)(sM:List Keyword)(t:dz):Prop:=
 ∀(pos:Pos)(pins:List (Addr×Obj))(s:Shared)(J:St)(H:ah)(Q:List V->ah->Prop),Inv X pins J H s->t J H Q->wpAny (model X.prog X.w) X.A (evalAll ((backToKw pos (keywordEach sM X.env)).map (·.2))) (DB X pins J Q) X.cQ s
section
variable {X:Cx}{c8:g5}{k:Nat}{f C:Addr}{fd:FuncData}{ps ks:List Str}{sp:d0}{E:bL}{x m:Str}{p pos apos yJ:Pos}{e o:Expr}{es:List Expr}{sM:List Keyword}{bM bB:TE}{t tk:dz}{nm:Option Str}
theorem D3:yI X [] zus:=λ_ _ _ _ H Q I h=>wpAny_evalAll_nil ⟨[],H,I,.nil,h⟩
theorem D4 (aN:PE X e bM)(a5:yI X sM t):yI X (⟨nm,e,yJ⟩::sM) (zhe bM t):=by
 intro pos pins s J H Q I h;show wpAny _ _ (evalAll ((do let v <- eval e X.env;standAt pos;pure v)::(backToKw pos (keywordEach sM X.env)).map (·.2))) _ _ s
 refine wpAny_evalAll_cons (ax (bz (aN pins s J H _ I h) λu s1 ⟨x,H1,aO,bX,a8⟩=>ax (wpAny_standAt (bw ?_))));exact bz (a5 pos pins s1 J H1 _ aO a8) λus s2 ⟨xs,aE,bu,cB,bK⟩=>⟨x::xs,aE,bu,.cons bX cB,bK⟩
variable {g:List Value->List Value->List Value}{aea:List V->List V->List V}
end
structure n1 (N P:List Str)(sc:Scope):Prop where
 kind:sc.kind=.function
 co:sc.isCoroutine=false
 gen:sc.isGenerator=false
 nd:N.Nodup
 pre:N.take P.length=P
 par:∀x∈P,sc.names.lookup x=some .local\/sc.names.lookup x=some .cell
 Og:∀y∈sc.names,y.2≠.free
theorem D5 {kindOf:Str->Option NameKind}{x:Str}:∀{binds:List (Str×Value)}{m:Str->Option Value},(∀v,(x,v) ∉ binds)->bindL kindOf binds m x=m x
 | [],_,_=>rfl
 | (n,v)::r,m,h=>by
  unfold bindL;rw[D5 λw hw=>h w (mem_cons_of_mem _ hw)];split
  ·have:x≠n:=by rintro rfl;exact h v mem_cons_self
   simp[this]
  ·rfl
theorem D6 {kindOf:Str->Option NameKind}{x:Str}:∀{binds:List (Str×Value)}{m:Str->Option Value},(∀v,(x,v) ∉ binds)->bindC kindOf binds m x=m x
 | [],_,_=>rfl
 | (n,v)::r,m,h=>by
  unfold bindC;rw[D6 λw hw=>h w (mem_cons_of_mem _ hw)];split
  ·rfl
  ·have:x≠n:=by rintro rfl;exact h v mem_cons_self
   simp[this]
theorem D7 {kindOf:Str->Option NameKind}{x:Str}{v:Value}:∀{P:List Str}{vs:List Value}{i:Nat}{m:Str->Option Value},P.Nodup->P[i]?∣x->vs[i]?∣v->kindOf x=some .local->
  bindL kindOf (P.zip vs) m x∣v
 | [],_,_,_,_,h,_,_=>by simp at h
 | _::_,[],_,_,_,_,h,_=>by simp at h
 | p::P,w::vs,0,m,nd,aa,ag,aj=>by
  simp at aa ag;subst aa;subst ag;show bindL kindOf ((p,w)::P.zip vs) m p=_
  unfold bindL;rw[D5 λv aJ=>(nodup_cons.mp nd).1 (of_mem_zip aJ).1,aM aj];simp
 | p::P,w::vs,i+1,m,nd,aa,ag,aj=>by
  show bindL kindOf ((p,w)::P.zip vs) m x=_
  unfold bindL;exact D7 (i:=i) (nodup_cons.mp nd).2 (by simpa using aa) (by simpa using ag) aj
theorem D8 {kindOf:Str->Option NameKind}{x:Str}{v:Value}:∀{P:List Str}{vs:List Value}{i:Nat}{m:Str->Option Value},P.Nodup->P[i]?∣x->vs[i]?∣v->kindOf x≠some .local->
  bindC kindOf (P.zip vs) m x∣v
 | [],_,_,_,_,h,_,_=>by simp at h
 | _::_,[],_,_,_,_,h,_=>by simp at h
 | p::P,w::vs,0,m,nd,aa,ag,aj=>by
  simp at aa ag;subst aa;subst ag;show bindC kindOf ((p,w)::P.zip vs) m p=_
  unfold bindC;rw[D6 λv aJ=>(nodup_cons.mp nd).1 (of_mem_zip aJ).1,aB aj];simp
 | p::P,w::vs,i+1,m,nd,aa,ag,aj=>by
  show bindC kindOf ((p,w)::P.zip vs) m x=_
  unfold bindC;exact D8 (i:=i) (nodup_cons.mp nd).2 (by simpa using aa) (by simpa using ag) aj
def start (N:List Str)(vs:List V):St:=vs.map some++replicate (N.length-vs.length) none
def g6 (c8:g5)(P:Program)(w:World)(K:Frag)(mg:Str->Option Value)(base:Heap)(N:List Str)(qual:Str)(scope:Scope)(f:Addr)(cd:Value)(A:Around)(outer:List Env)(s:Shared)(H:ah)(E:bL):Cx where
 prog:=P
 w:=w
 K:=K
 mg:=mg
 base:=base
 A:=A.deeper (envOfC qual scope ↑s f cd)
 N:=N
 bS:=s
 c5:=H
 env:=envOfC qual scope ↑s f cd
 outer:=outer
 stack:=envOfC qual scope ↑s f cd::outer
 ex:=[]
 calm:=true
 fn:=λ_=>true
 dr:=[]
 cQ:=λe s'=>wpAny (model P w) (A.deeper (envOfC qual scope ↑s f cd)) (leaving (envOfC qual scope ↑s f cd) e) (λ_ pC=>c8 outer H s E e pC) (λa4 pC=>c8 outer H s E a4 pC) s'
theorem D9 {sc:Scope}(h:sc.names.lookup x=some .cell):∃c,(cellsFrom n sc.names []).lookup x∣c:=by
 have q:=PySem.W.cellsFrom_some sc.names n [] (.inl h)
 exact isSome_iff_exists.mp q
theorem Ea {c8:g5}{s1:Shared}{H:ah}{E:bL}{vs:List V}
  (S:n1 N ps scope) (hd:A.handled=none) (cy:nZ P w K mg base A outer s H) (aD:vs.length=ps.length) (r:Vals vs us)
  (x:InCallC s ↑s (bindL (envOfC qual scope ↑s f cd).kindOf (ps.zip us) λ_=>none) (cellsFrom (↑s+1) scope.names []) (bindC (envOfC qual scope ↑s f cd).kindOf (ps.zip us) λ_=>none) s1):
  Inv (g6 c8 P w K mg base N qual scope f cd A outer s H E) [] (start N vs) H s1:=by
 have hpl:ps.length<=N.length:=by have:=congrArg length S.pre;rw[length_take]at this;omega
 obtain⟨aa,tk,rfl,aj⟩:=x.done;have pD:∀b:Addr,b ∉ (g6 c8 P w K mg base N qual scope f cd A outer s H E).ex:=λb z=>br (show b∈([]:List Addr) from z) (by simp)
 refine⟨⟨cy.mod,S.kind,rfl,rfl,wa8 _,λy z c aa ag=>?_,λy bg=>?_,λy c _ h=>?_,λ_=>hd,Around.frames_deeper cy.frames,.inr ⟨rfl,rfl⟩,λb z=>br z (pD b),cy.bs,cy.jH,λb _ _=>pD b,λb z=>br z (pD b),cy.gY,cy.jI⟩,
  rfl,cy.bare,fq.kept aj,⟨_,x.toInCall.ns,λi y v aa ag aR=>?_⟩,λy c h=>⟨_,x.cell y c h⟩,cy.a6.fresh (wa8 _),λy c h=>?_,λp aG=>br (show p∈([]:List (Addr×Obj)) from aG) (by simp),cy.a6.kept aj,?_⟩
 ·exact name_of_addr x.apart (PySem.mem_of_lookup aa) (PySem.mem_of_lookup ag)
 ·have bg:scope.names.lookup y=some .cell\/scope.names.lookup y=some .free:=bg
  rcases bg with bg|bg
  ·exact D9 bg
  ·exact br rfl (S.Og _ (PySem.mem_of_lookup bg))
 ·exact Nat.le_of_lt (x.above y c (PySem.mem_of_lookup h))
 ·have au:i<vs.length:=by
   unfold start at ag;by_cases au:i<vs.length
   ·exact au
   ·rw[getElem?_append_right (by simpa using au)]at ag;rw[List.getElem?_replicate]at ag;split at ag<;>cases ag
  have aN:vs[i]?∣v:=by
   unfold start at ag;rw[getElem?_append_left (by simpa using au),getElem?_map]at ag;cases e:vs[i]? with
   | none=>rw[e]at ag;cases ag
   | some a=>rw[e]at ag;cases ag;rfl
  obtain⟨u,bZ,cf⟩:=r.get aN;have aG:ps[i]?∣y:=by
   rwa[<- S.pre,List.getElem?_take_of_lt ⋯]
  have Eb:ps.Nodup:=by rw[<- S.pre];exact S.nd.sublist (List.take_sublist _ _)
  refine⟨u,cf,?_⟩;rcases S.par y (mem_of_getElem? aG) with k|k
  ·exact .inl ⟨k,D7 Eb aG bZ k⟩
  ·obtain⟨c,e⟩:=D9 (n:=↑s+1) k;refine .inr ⟨.inl k,c,e,?_⟩;have q:=x.cell y c e
   rw[D8 Eb aG bZ (by show scope.names.lookup y≠_;rw[k];decide)]at q;exact q
 ·exact cy.a6.fresh (Nat.le_of_lt (x.above y c (PySem.mem_of_lookup h)))
 ·unfold start;show _=N.length
  rw[length_append,length_map,List.length_replicate];omega
theorem vE {c8:g5}{k:Nat}{kb bq:Value}{an cA:Option Addr}
  {sp:d0}(lk:K.lookup f∣⟨c7,cA,.func (fnOf name qual params body scope kb bq doc pm an cdv bW),et⟩) (eL:codeIn K cdv qual=true) (S:n1 N ps scope)
  (len:∀vs H Q E,sp vs H Q E->vs.length=ps.length)
  (jO:∀(A:Around)(outer:List Env)(s:Shared)(H:ah)(vs:List V)(Q:bo)(E:bL),da k (A.deeper (envOfC qual scope ↑s f cdv))->sp vs H Q E->
   ∃t,PSs (g6 c8 P w K mg base N qual scope f cdv A outer s H E) body t/\t { aP:=λ_ H'=>Q .bx H',ih:=Q } (start N vs) H):
  fw P w K mg base c8 (k+1) f (fnOf name qual params body scope kb bq doc pm an cdv bW) ps sp:=by
 refine⟨len,λA outer s H args us vs Q E a5 cy ae r fI=>?_⟩;have aD:=len _ _ _ _ fI
 have KX:K.In s.heap:=cy.mod.ig.keeps λb o e=>(cy.bs b o e).1
 have lim:s.heap.NoLimit:=cy.mod.nolimit.keeps λb o e=>(cy.bs b o e).1
 have Oh:∀y∈ps.zip us,scope.names.lookup y.1=some .local\/(scope.names.lookup y.1=some .cell/\((cellsFrom (↑s+1) scope.names []).lookup y.1).isSome=true):=λ⟨n,v⟩ bg=>by
  rcases S.par n (of_mem_zip bg).1 with q|q
  ·exact .inl q
  ·exact .inr ⟨q,PySem.W.cellsFrom_some _ _ _ (.inl q)⟩
 refine codeAny_call_function a5.depth (KX _ _ lk) rfl S.co S.gen rfl (PySem.W.codeRec_of KX eL) (ae _ _ _ _ ?_);refine wpAny_newFunctionEnv_cells S.kind Oh λenv he s1 x=>?_;subst he;refine⟨lim.keeps x.toInCall.keep,codeAny_func ?_⟩;obtain⟨t,bC,ao⟩:=jO A outer s H vs Q E (a5.deeper _) fI;have I:Inv (g6 c8 P w K mg base N qual scope f cdv A outer s H E) [] (start N vs) H s1:=Ea S a5.hd cy aD r x
 refine wpAny_mono (bC [] s1 (start N vs) H _ I ao) (λbJ s' aI=>?_) λe s' aI=>aI;have fin:∀{a7:St}{H':ah}{v:V}{u:Value},Inv (g6 c8 P w K mg base N qual scope f cdv A outer s H E) [] a7 H' s'->RelV v u->Q v H'->vC outer P w H s Q u s':=
  λ{a7 H' v u} cq cf q=>⟨v,H',cq.os,cq.bare,cq.base,cq.a6,cf,q⟩
 cases bJ with
 | ret u=>
  obtain⟨v,a7,H',cq,cf,q⟩:=aI;exact fin cq cf q
 | next=>
  obtain⟨a7,H',cq,q⟩:=aI;exact fin (v:=V.bx) (u:=Value.none) cq rfl q
 | brk=>
  obtain⟨_,_,_,q⟩:=aI;exact False.elim q
 | cont=>
  obtain⟨_,_,_,q⟩:=aI;exact False.elim q
section
variable {X:Cx}{x:Str}{p pos:Pos}{e:Expr}{es:List Expr}{t:dz}{id T:String}{r:List V->ah->bo->Prop}
def tCB (r:List V->ah->bo->Prop)(t:dz):TE:=λJ H Q=>t J H λvs H1=>r vs H1 Q
theorem yK (ak:g4 X (.builtin id) r)(bD:ft X x)(hm:X.mg x=none)(aJ:bootBuiltins x∣.builtin id)(aN:PA X (e::es) t)(hn:autoParam (x≠"__name__") dB._auto_1)(hdb:autoParam ((x==("__debug__":Str))=false) dB._auto_1)(he:autoParam (starEach (e::es) X.env=(false,eval e X.env)::starEach es X.env) dA._auto_1)(hpl:autoParam ((backTo pos (starEach es X.env)).any (·.1)=false) dA._auto_1):PE X (.Call (.Name x p) (e::es) [] pos) (tCB r t):=by
 intro pins s J H Q I h;refine wpAny_Call_Name_kw (kG I bD hm aJ ?_ hn hdb);exact PyProof.Rows.callWith_builtin1 (bz (aN pos pins s J H _ I h) λus s1 ⟨vs,H1,aO,bX,a8⟩=>ak pins s1 J H1 vs us Q aO bX a8) he hpl
theorem Oi (ak:g4 X (.type T) r)(bD:ft X x)(hm:X.mg x=none)(aJ:bootBuiltins x∣.type T)(aN:PA X (e::es) t)(hn:autoParam (x≠"__name__") dB._auto_1)(hdb:autoParam ((x==("__debug__":Str))=false) dB._auto_1)(he:autoParam (starEach (e::es) X.env=(false,eval e X.env)::starEach es X.env) dA._auto_1)(hpl:autoParam ((backTo pos (starEach es X.env)).any (·.1)=false) dA._auto_1):PE X (.Call (.Name x p) (e::es) [] pos) (tCB r t):=by
 intro pins s J H Q I h;refine wpAny_Call_Name_kw (kG I bD hm aJ ?_ hn hdb);exact PyProof.Rows.callWith_type1 (bz (aN pos pins s J H _ I h) λus s1 ⟨vs,H1,aO,bX,a8⟩=>ak pins s1 J H1 vs us Q aO bX a8) he hpl
end
end L2
variable {ns ms:List Int}
namespace HT
open PySem PyProof.Rows
def lexLt:List Int->List Int->Bool
 | [],[]=>false
 | [],_::_=>true
 | _::_,[]=>false
 | x::xs,y::aF=>if x=y then lexLt xs aF else decide (x<y)
theorem sN (x y:Int)(xs aF:List Int):lexLt (x::xs) (y::aF)=if x=y then lexLt xs aF else decide (x<y):=rfl
theorem Oj:lexLt [] []=false:=rfl
theorem Ol (y:Int)(aF:List Int):lexLt [] (y::aF)=true:=rfl
theorem Om (x:Int)(xs:List Int):lexLt (x::xs) []=false:=rfl
theorem Oo (A:Around)(s:Shared)(a:Int)(t:Tok)(c:Int)(u:Tok):∃e,SeqAt.EqAt A s (.int a t) (.int c u) e/\(e=true↔a=c):=
 ⟨(a==c),SeqAt.EqAt.int_int a t c u,by simp⟩
theorem Oq (A:Around)(s:Shared)(a:Int)(t:Tok)(c:Int)(u:Tok)(prog:Program)(w:World)(E:wvP)(Q:wvP)(h:Q (.bool (decide (a<c))) s):
  wpAny (model prog w) A (richCompare .Lt (.int a t) (.int c u)) Q E s:=
 (PyProof.Rows.lt_int h:wpAny (model prog w) A (compareOp .Lt (.int a t) (.int c u)) Q E s)
section
open PySem.SeqAt
open PySem.AutoSeq1 (wpAny_loadPart')
open PySem.MeetsSeq PySem.MeetsSeq2 PySem.MeetsSeq3
theorem Ot (l b:Addr)(items lX:Array Value)(n dO:Nat)(dd yL:Option Addr)(aL nM:Array (Option Value))(ns ms:List Int)(au:IntsAre items.toList ns)(aZ:IntsAre lX.toList ms):
  Meets (Builtin.«tuple.__lt__» ⟨[.ref l,.ref b],[]⟩)
   (λ_ R s=>s.heap.get? l=some { cls:=.type "tuple",dict:=dd,data:=.seq items n,slots:=aL }/\s.heap.get? b=some { cls:=.type "tuple",dict:=yL,data:=.seq lX dO,slots:=nM }/\
    R (.ok (.ret (.bool (lexLt ns ms)))) s):=
 .of_wp λprog w A R s h=>by
  obtain⟨aG,g,d,tk,os⟩:=s;obtain⟨aD,ae,h⟩:=h;have f2:=AutoSeq1.sub_tuple_tuple
  have eu:items.size=ns.length:=by rw[<- au.length];simp
  have eP:lX.size=ms.length:=by rw[<- aZ.length];simp
  wp_walk using wpAny_loadPart' aD,wpAny_loadPart' ae,wpAny_forIn_list _ (λrest b s'=>b.1=none/\s'=⟨aG,g,d,tk,os⟩/\∃(vs ws:List Value)(kQ q3:List Int),rest=vs.zip ws/\
   IntsAre vs kQ/\IntsAre ws q3/\kQ.length+lX.size=q3.length+items.size/\R (.ok (.ret (.bool (lexLt kQ q3)))) ⟨aG,g,d,tk,os⟩) _
  case turn=>
   rintro⟨y,x⟩ rest b s' ⟨dP,rfl,vs,ws,kQ,q3,hz,yM,vF,hlen,eZ⟩;cases yM with
   | nil=>rw[List.zip_nil_left]at hz;cases hz
   | cons a t Ou=>
    cases vF with
    | nil=>rw[List.zip_nil_right]at hz;cases hz
    | cons c u Ov=>
     rw[List.zip_cons_cons]at hz;injection hz with Ow yN
     injection Ow with bg aq
     subst bg aq;rw[sN]at eZ;simp only[length_cons]at hlen;obtain⟨e,he,Ec⟩:=Oo A.in1 ⟨aG,g,d,tk,os⟩ a t c u;refine ax (he prog w _ _ ?_);cases e with
     | true=>
      rw[aM (Ec.mp rfl)]at eZ;wp_walk
      exact⟨rfl,rfl,_,_,_,_,yN,Ou,Ov,⋯,eZ⟩
     | false=>
      rw[aB (λq=>br (Ec.mpr q) wa6)]at eZ;have Ox:=Oq A.in1 ⟨aG,g,d,tk,os⟩ a t c u prog w
      wp_walk using Ox
      exact⟨_,rfl,by simpa using eZ⟩
  case fin=>
   rintro⟨ct,b6⟩ s' ⟨dP,rfl,vs,ws,kQ,q3,hz,yM,vF,hlen,eZ⟩;simp only at dP;subst dP;have aJ:lexLt kQ q3=decide (items.size<lX.size):=by
    cases yM with
    | nil=>
     cases vF with
     | nil=>
      simp only[length_nil]at hlen;rw[Oj];exact(decide_eq_false ⋯).symm
     | cons c u hw=>
      simp only[length_nil,length_cons]at hlen;rw[Ol];exact(decide_eq_true ⋯).symm
    | cons a t aJ=>
     cases vF with
     | nil=>
      simp only[length_nil,length_cons]at hlen;rw[Om];exact(decide_eq_false ⋯).symm
     | cons c u hw=>
      rw[List.zip_cons_cons]at hz;cases hz
   rw[aJ]at eZ;wp_walk
   exact⟨_,rfl,by simpa [Builtin.Tuple.tupleCompareSizes] using eZ⟩
  case h=>
   exact⟨rfl,rfl,items.toList,lX.toList,ns,ms,rfl,au,aZ,⋯,h⟩
end
section
variable {prog:Program}{w:World}{A:Around}{E:wvP}{s:Shared}
theorem Oy {l b:Addr}{lX:Array Value}(aD:IsTup s.heap l items) (ae:IsTup s.heap b lX) (au:IntsAre items.toList ns) (aZ:IntsAre lX.toList ms)
  (bZ:A.units<cLine) (h:Q (.bool (lexLt ns ms)) s):wpAny (model prog w) A (compareOp .Lt (.ref l) (.ref b)) Q E s:=by
 obtain⟨⟨cls,dd,data,aL⟩,aA,ak,n,hd⟩:=id aD;obtain⟨⟨aeb,yL,data2,nM⟩,sO,n2,dO,hd2⟩:=id ae;simp only at ak hd n2 hd2;subst ak hd n2 hd2;exact richCompare_meets_room (op:=.Lt) ⟨_,aA,rfl⟩ ⟨_,sO,rfl⟩ PySem.F.slot_tuple_lt PySem.F.entry_tuple_lt (PySem.F.args_tuple_lt_2 _ _) (Ot l b items lX n dO dd yL aL nM ns ms au aZ)
  ⟨aA,sO,show Value.bool (lexLt ns ms)≠Value.notImplemented/\Q (.bool (lexLt ns ms)) s from⟨(λx=>nomatch x),h⟩⟩ bZ
def gA (n d:Nat):Option Int->Nat
 | none=>d
 | some v=>if v<0 then(v+(n:Int)).toNat else min v.toNat n
theorem Oz (n d:Nat):gA n d none=d:=rfl
theorem Ed (n d k:Nat):gA n d (some (k:Int))=min k n:=by
 show(if (k:Int)<0 then((k:Int)+(n:Int)).toNat else min (k:Int).toNat n)=min k n
 rw[aB ⋯,toNat_natCast]
end
end HT
variable {H:L2.ah}{J:L2.St}{y:L2.V}{p:PySem.Addr}
namespace L2
open PySem PySem.Spec PyProof.Rows
abbrev sP:=St->ah->(Option Int->ah->Prop)->Prop
def pE (X:Cx)(e:Option Expr)(t:sP):Prop:=
 ∀(pins:List (Addr×Obj))(s:Shared)(J:St)(H:ah)(Q:Option Int->ah->Prop),Inv X pins J H s->t J H Q->
  wpAny (model X.prog X.w) X.A (evalPart e X.env) (λu s'=>∃o H',Inv X pins J H' s'/\IsPart u o/\Q o H') X.cQ s
def zec:sP:=λ_ H Q=>Q none H
def zsy (t:TE):sP:=λJ H Q=>t J H λx H1=>∃i,x=.int i/\Q (some i) H1
theorem intsAre_of:∀{us:List Value},Vals (ns.map V.int) us->IntsAre us ns:=by
 induction ns with
 | nil=>intro us r;rw[map_nil]at r;cases r;exact .nil
 | cons n ns bE=>
  intro us r;rw[map_cons]at r;cases r with
  | cons bX cB=>
   obtain⟨t,e⟩:=bX;subst e;exact .cons n t (bE cB)
section
variable {X:Cx}{e:Expr}{bM:TE}{lo au:Option Expr}{cX hD:sP}{pos ew:Pos}
theorem Ee:pE X none zec:=by
 intro pins s J H Q I h;rw[evalPart_none];exact bw ⟨none,H,I,.none,h⟩
theorem vG (h:PE X e bM):pE X (some e) (zsy bM):=by
 intro pins s J H Q I hw;rw[evalPart_some];refine bz (h pins s J H _ I hw) λu s1 ⟨x,H1,aO,bX,a8⟩=>?_;obtain⟨i,rfl,q⟩:=a8;obtain⟨t,rfl⟩:=bX;exact⟨some i,H1,aO,.int i t,q⟩
def yO (X:Cx)(r:V->Option Int->Option Int->ah->bo->Prop):Prop:=
 ∀(pins:List (Addr×Obj))(s:Shared)(J:St)(H:ah)(x:V)(v n3 n4:Value)(lo au:Option Int)(aL:Addr)(Q:bo),Inv X pins J H s->RelV x v->s.heap.IsSliceOf aL n3 n4 .none->IsPart n3 lo->IsPart n4 au->r x lo au H Q->
  ∃T id,typeLookup (.type T) "__getitem__"=pure (some (.builtin id))/\s.TypeIs v T/\wpAny (model X.prog X.w) X.A (getItem v (.ref aL)) (fR X pins J Q) X.cQ s
def tSl (r:V->Option Int->Option Int->ah->bo->Prop)(bM:TE)(cX hD:sP):TE:=λJ H Q=>bM J H λx H1=>cX J H1 λl aE=>hD J aE λu bP=>r x l u bP Q
theorem yP {r:V->Option Int->Option Int->ah->bo->Prop}(a5:yO X r) (he:PE X e bM) (aD:pE X lo cX) (bZ:pE X au hD):PE X (.Subscript e (.Slice lo au none ew) pos) (tSl r bM cX hD):=by
 intro pins s J H Q I h;refine Subscript_ (bz (he pins s J H _ I h) λv s1 ⟨x,H1,aO,bX,a8⟩=>?_);refine wpAny_Slice (bz (aD pins s1 J H1 _ aO a8) λn3 s2 ⟨l,aE,bu,pl,bK⟩=>bz (bZ pins s2 J aE _ bu bK) λn4 s3 ⟨u,bP,cW,pu,dZ⟩=>?_);rw[evalPart_none];refine bw ?_;have iV:Inv X pins J bP { s3 with heap:=s3.heap.push { cls:=.type "slice",data:=.fields #[n3,n4,.none] } }:=cW.kept (t':=s3.toks) λb ob q=>get?_push_of_some _ q
 obtain⟨T,id,cP,bC,bD⟩:=a5 pins { s3 with heap:=s3.heap.push { cls:=.type "slice",data:=.fields #[n3,n4,.none] } } J bP x v n3 n4 l u ↑s3 Q iV bX (Heap.IsSliceOf.new ..) pl pu dZ;show wpAny (model X.prog X.w) X.A (subscriptTail e (.Slice lo au none ew) v (.ref ↑s3)) (fR X pins J Q) X.cQ { s3 with heap:=s3.heap.push { cls:=.type "slice",data:=.fields #[n3,n4,.none] } }
 exact tail_any (ops:=[.ref ↑s3,v]) bC cP bD (by with_unfolding_all rfl)
def jr (xs:List V)(lo au:Option Int):List V:=(xs.drop (HT.gA xs.length 0 lo)).take (HT.gA xs.length xs.length au-HT.gA xs.length 0 lo)
theorem OA (xs:List V)(lo au:Option Int):(jr xs lo au).length<=xs.length:=by
 unfold jr;rw[length_take,length_drop];omega
end
def js (n:Nat)(i:Int):Option Nat:=if 0<=i then(if i<n then some i.toNat else none) else if -(n:Int)<=i then some (i+n).toNat else none
def dH (xs:List α) (i:Int):Option α:=(js xs.length i).bind λj=>xs[j]?
theorem Ef {i:Int}(h:js n i∣j):seqIndex? i n∣j/\j<n/\-(n:Int)<=i/\i<n:=by
 unfold js at h;by_cases h0:0<=i
 ·rw[aM h0]at h;by_cases aa:i<n
  ·rw[aM aa]at h;have e:i.toNat=j:=wa5 h
   exact⟨by rw[seqIndex_of h0 aa,e],⋯,⋯,aa⟩
  ·rw[aB aa]at h;cases h
 ·rw[aB h0]at h;by_cases aa:-(n:Int)<=i
  ·rw[aM aa]at h;have e:(i+n).toNat=j:=wa5 h
   exact⟨by rw[seqIndex_neg ⋯ aa,e],⋯,aa,⋯⟩
  ·rw[aB aa]at h;cases h
theorem yQ {xs:List α}{i:Int}{v:α}(h:dH xs i∣v):∃j,seqIndex? i xs.length∣j/\xs[j]?∣v/\j<xs.length/\-(xs.length:Int)<=i/\i<xs.length:=by
 unfold dH at h;cases e:js xs.length i with
 | none=>rw[e]at h;cases h
 | some j=>
  rw[e]at h;obtain⟨aa,ag,aR,b4⟩:=Ef e;exact⟨j,aa,h,ag,aR,b4⟩
theorem gk {xs:List α}{v:α}(h:xs[j]?∣v):dH xs (j:Int)∣v:=by
 have aZ:j<xs.length:=(wa4.mp h).1
 have e:js xs.length (j:Int)∣j:=by
  unfold js;rw[aM ⋯,aM ⋯];simp
 unfold dH;rwa[e]
theorem OB (xs:List α) (v:α):dH (xs++[v]) (-1)∣v:=by
 have aD:(xs++[v]).length=xs.length+1:=by simp
 have e:js (xs++[v]).length (-1)∣xs.length:=by
  unfold js;rw[aD,aB ∅,aM ⋯];congr 1
  omega
 unfold dH;rw[e];show(xs++[v])[xs.length]?∣v
 simp
def OC (b:Expr):Prop:=∀o i,subscripted b false o i=operate [o,i] (getItem o i)
def q4 (X:Cx)(r:fT):Prop:=
 ∀(value slice:Expr)(pins:List (Addr×Obj))(s:Shared)(J:St)(H:ah)(x y:V)(v u:Value)(Q:bo),Inv X pins J H s->RelV x v->RelV y u->r x y H Q->
  subscripted slice false v u=operate [v,u] (getItem v u)->wpAny (model X.prog X.w) X.A (subscriptTail value slice v u) (fR X pins J Q) X.cQ s
def vH (X:Cx)(id:String)(r:V->List V->ah->bo->Prop):Prop:=
 ∀(pins:List (Addr×Obj))(s:Shared)(J:St)(H:ah)(x:V)(xs:List V)(v:Value)(us:List Value)(Q:bo),Inv X pins J H s->RelV x v->Vals xs us->r x xs H Q->
  wpAny (model X.prog X.w) X.A (call (.builtin id) (v::us)) (fR X pins J Q) X.cQ s
section
variable {X:Cx}{a b:Expr}{bB bj:TE}{pos:Pos}
theorem bR {r:fT}(a5:q4 X r) (aN:PE X a bB) (ae:PE X b bj) (aI:OC b):PE X (.Subscript a b pos) (tOp r bB bj):=by
 intro pins s J H Q I h;exact Subscript_ (yB aN ae I h λv u s2 x y aE bu bf bp q=>a5 a b pins s2 J aE x y v u Q bu bf bp q (aI _ _))
def zvd (K:Frag):fT:=λx y H Q=>∃p xs i v,x=.ref p/\y=.int i/\aK K H p xs/\dH xs i∣v/\Q v H
def zur (K:Frag):fT:=λx y H Q=>∃p xs i v,x=.ref p/\y=.int i/\bT K H p xs/\dH xs i∣v/\Q v H
def Eg:fT:=λx y H Q=>∃z i c,x=.str z/\y=.int i/\z.length<=sizeLine/\dH z.cps.toList i∣c/\Q (.str ⟨#[c]⟩) H
theorem zy:q4 X (zvd X.K):=by
 intro value slice pins s J H x y v u Q I bf bp h aI;obtain⟨p,xs,i,z,rfl,rfl,ao,he,q⟩:=h;cases bf;obtain⟨t,rfl⟩:=bp;obtain⟨aU,r,pl,hz⟩:=I.list ao;obtain⟨j,aa,ag,aR,b4,ek⟩:=yQ he;obtain⟨w,vI,ir⟩:=r.get ag;have aD:=r.length
 have hn:=q1
 have fin:fR X pins J Q w s:=⟨z,H,I,ir,q⟩
 by_cases h0:0<=i
 ·have aZ:i.toNat=j:=by
   rw[seqIndex_of h0 ek]at aa;exact wa5 aa
  exact item_listR pl.isList h0 ⋯ (by rw[aZ];simpa using vI) fin aI
 ·have aZ:(i+(aU.toArray.size:Int)).toNat=j:=by
   rw[seqIndex_neg ⋯ b4]at aa;rw[size_toArray,<- aD];exact wa5 aa
  exact subscriptTail_builtinR (x:=w) pl.isList.typeIs slot_list_getitem.lookup
   (wpAny_getItem_list_neg (Q:=λr s'=>r=w/\fR X pins J Q r s') pl.isList ⋯ (by rw[size_toArray]<;>omega) ⋯ (by rw[aZ];simpa using vI) ⟨rfl,fin⟩) aI
theorem dv:q4 X (zur X.K):=by
 intro value slice pins s J H x y v u Q I bf bp h aI;obtain⟨p,xs,i,z,rfl,rfl,ao,he,q⟩:=h;cases bf;obtain⟨t,rfl⟩:=bp;obtain⟨aU,r,pl,hz⟩:=I.tuple ao;obtain⟨j,aa,ag,aR,b4,ek⟩:=yQ he;obtain⟨w,vI,ir⟩:=r.get ag;have aD:=r.length
 have hn:=q1
 have fin:fR X pins J Q w s:=⟨z,H,I,ir,q⟩
 exact subscriptTail_builtinR (x:=w) pl.typeIs slot_tuple_getitem.lookup
  (getItem_tuple (j:=j) (Q:=λr s'=>r=w/\fR X pins J Q r s') pl ⋯ ⋯ (by rwa[size_toArray,<- aD]) (by simpa using vI) ⟨rfl,fin⟩) aI
theorem yR:q4 X Eg:=by
 intro value slice pins s J H x y v u Q I bf bp h aI;obtain⟨z,i,c,rfl,rfl,hz,he,q⟩:=h;obtain⟨t,rfl⟩:=bf;obtain⟨t',rfl⟩:=bp;obtain⟨j,aa,ag,aR,b4,ek⟩:=yQ he;have aD:z.cps.toList.length=z.length:=by simp[Str.length]
 rw[aD]at aa b4 ek;have hn:=q1
 exact tail_any (typeIs_str s z t) slot_str_getitem.lookup (getItem_str (c:=c) (by
  have ar:decide (i < -(2^63:Int))=false:=decide_eq_false ⋯
  have aw:decide (i >= 2^63)=false:=decide_eq_false ⋯
  rw[ar,aw,Bool.or_false]) (by rw[aa];simpa using ag) ⟨.str ⟨#[c]⟩,H,I.tok _,⟨_,rfl⟩,q⟩) aI
theorem OD (aU:List Value)(n j:Nat)(u:Value):Obj.mapSeq (·.setIfInBounds j u) { cls:=.type "list",data:=.seq aU.toArray n }={ cls:=.type "list",data:=.seq (aU.set j u).toArray n }:=by
 simp[Obj.mapSeq]
theorem Inv.lst {pins:List (Addr×Obj)}{J:St}{H:ah}{s:Shared}{p:Addr}{xs:List V}(I:Inv X pins J H s) (h:H p∣.lst xs):
  ∃(aU:List Value)(n:Nat),Vals xs aU/\s.heap.get? p=some { cls:=.type "list",data:=.seq aU.toArray n }/\xs.length<=sizeLine:=by
 obtain⟨z,aU,n,r,e⟩:=I.a6 p _ h;exact⟨aU,n,r,e,z⟩
theorem Inv.OE {xs aF:List V}{aU its':List Value}{jo:Nat}{f:Obj->Obj}(I:Inv X pins J H s) (h:H p∣.lst xs)
  (aA:s.heap.get? p=some { cls:=.type "list",data:=.seq aU.toArray n }) (hf:f { cls:=.type "list",data:=.seq aU.toArray n }={ cls:=.type "list",data:=.seq its'.toArray jo }) (r:Vals aF its') (hz:aF.length<=sizeLine) (t:Nat):
  Inv X pins J (upd H p (.lst aF)) { s with heap:=s.heap.update p f,toks:=t }:=by
 have e:(s.heap.update p f).get? p=some { cls:=.type "list",data:=.seq its'.toArray jo }:=by
  rw[get?_update_self f aA (by rw[hf]<;>rfl),hf]
 refine I.write (x:=p) (e:=p) (by rw[h];trivial) (.inl rfl) (λb u ae q=>(get?_update_other _ _ (Ne.symm ae)).trans q) ⟨_,e⟩ ?_;exact⟨hz,its',jo,r,e⟩
def zsw:V->V->V->ah->(ah->Prop)->Prop:=λo i v H Q=>∃p xs k j,o=.ref p/\i=.int k/\H p∣.lst xs/\js xs.length k∣j/\Q (upd H p (.lst (xs.set j v)))
theorem set_list:DH X zsw:=by
 intro pins s J H o i v dK hk u Q I OF OG cf h;obtain⟨p,xs,k,j,rfl,rfl,aG,aZ,q⟩:=h;cases OF;obtain⟨t,rfl⟩:=OG;obtain⟨aU,n,r,aA,hz⟩:=I.lst aG;obtain⟨aa,ag,aR,b4⟩:=Ef aZ;have aD:=r.length
 have hn:=q1
 have dt:Inv X pins J (upd H p (.lst (xs.set j v))) { s with heap:=s.heap.update p (Obj.mapSeq (·.setIfInBounds j u)) }:=
  I.OE aG aA (OD aU n j u) (r.set cf j) (by rwa[List.length_set]) s.toks
 by_cases h0:0<=k
 ·have aj:k.toNat=j:=by
   rw[seqIndex_of h0 b4]at aa;exact wa5 aa
  exact PySem.W.ki_setAt aA h0 ⋯ (by rwa[size_toArray,<- aD]) (by rw[aj];exact⟨_,dt,q⟩)
 ·have aj:(k+(aU.toArray.size:Int)).toNat=j:=by
   rw[seqIndex_neg ⋯ aR]at aa;rw[size_toArray,<- aD];exact wa5 aa
  exact PySem.W.ki_setBack aA ⋯ (by rwa[size_toArray,<- aD]) ⋯ (by rw[aj];exact⟨_,dt,q⟩)
theorem OH (lo au:Option Int)(n:Nat):(sliceBounds lo au none n).1=((HT.gA n 0 lo:Nat):Int)/\(sliceBounds lo au none n).2.1=((HT.gA n n au:Nat):Int)/\(sliceBounds lo au none n).2.2=1:=by
 refine⟨?_,?_,rfl⟩
 ·cases lo with
  | none=>simp[sliceBounds,HT.gA]
  | some i=>
   simp only[sliceBounds,HT.gA,getD_none,show(1:Int)>0 by decide,if_true];by_cases h:i<0
   ·simp only[h,if_true]<;>omega
   ·simp only[h,if_false]<;>omega
 ·cases au with
  | none=>simp[sliceBounds,HT.gA]
  | some i=>
   simp only[sliceBounds,HT.gA,getD_none,show(1:Int)>0 by decide,if_true];by_cases h:i<0
   ·simp only[h,if_true]<;>omega
   ·simp only[h,if_false]<;>omega
theorem OI (aU:List Value)(lo au:Option Int):slicePick aU.toArray lo au none=((aU.drop (HT.gA aU.length 0 lo)).take (HT.gA aU.length aU.length au-HT.gA aU.length 0 lo)).toArray:=by
 obtain⟨aa,ag,aR⟩:=OH lo au aU.toArray.size;unfold slicePick;rw[aa,ag,aR];simp only[sliceRange_one,pick_run,size_toArray]<;>rfl
def zvh (K:Frag):V->Option Int->Option Int->ah->bo->Prop:=λx lo au H Q=>∃a xs,x=.ref a/\aK K H a xs/\∀p,H p=none->Q (.ref p) (upd H p (.lst (jr xs lo au)))
theorem yS:yO X (zvh X.K):=by
 intro pins s J H x v n3 n4 lo au aL Q I bf aI pl pu h;obtain⟨a,xs,rfl,aq,q⟩:=h;cases bf;obtain⟨aU,r,bC,hz⟩:=I.list aq;have hlen:=r.length
 refine⟨"list",_,slot_list_getitem.lookup,bC.isList.typeIs,?_⟩;refine wpAny_getItem_list_slice bC.isList aI pl pu .none (by simp) ?_ (by rw[size_toArray]<;>omega);rw[OI,<- hlen];refine⟨.ref ↑s,_,I.laid (t':=s.toks) (o:=.lst (jr xs lo au)) (λb ob q=>get?_push_of_some _ q) (wa8 _) ?_,rfl,q _ (I.a6.fresh (wa8 _))⟩;exact⟨wa0 (OA xs lo au) hz,_,0,(r.drop (HT.gA xs.length 0 lo)).take (HT.gA xs.length xs.length au-HT.gA xs.length 0 lo),get?_push_size _ rfl⟩
def n5:V->Bool
 | .bx=>true
 | .bl _=>true
 | .int _=>true
 | .str _=>true
 | _=>false
def iu:V->V->Bool
 | .bx,.bx=>true
 | .bl a,.bl b=>a==b
 | .bl a,.int b=>(if a then 1 else 0)==b
 | .int a,.bl b=>a==(if b then 1 else 0)
 | .int a,.int b=>a==b
 | .str a,.str b=>a==b
 | _,_=>false
theorem OJ {x:V}{v:Value}(bp:RelV y u) (bf:RelV x v) (yT:n5 y=true) (iY:n5 x=true):SeqAt.EqAt A s u v (iu y x):=by
 cases y with
 | bx=>
  cases bp;cases x with
  | bx=>cases bf;exact SeqAt.EqAt.same _
  | bl b=>cases bf;exact SeqAt.EqAt.none_bool b
  | int b=>obtain⟨t,rfl⟩:=bf;exact SeqAt.EqAt.none_int b t
  | str b=>obtain⟨t,rfl⟩:=bf;exact SeqAt.EqAt.none_str b t
  | _=>exact br (show false=true from iY) wa6
 | bl a=>
  cases bp;cases x with
  | bx=>cases bf;exact SeqAt.EqAt.bool_none a
  | bl b=>cases bf;exact SeqAt.EqAt.bool_bool a b
  | int b=>obtain⟨t,rfl⟩:=bf;exact SeqAt.EqAt.bool_int a b t
  | str b=>obtain⟨t,rfl⟩:=bf;exact SeqAt.EqAt.bool_str a b t
  | _=>exact br (show false=true from iY) wa6
 | int a=>
  obtain⟨t',rfl⟩:=bp;cases x with
  | bx=>cases bf;exact SeqAt.EqAt.int_none a t'
  | bl b=>cases bf;exact SeqAt.EqAt.int_bool a t' b
  | int b=>obtain⟨t,rfl⟩:=bf;exact SeqAt.EqAt.int_int a t' b t
  | str b=>obtain⟨t,rfl⟩:=bf;exact SeqAt.EqAt.int_str a t' b t
  | _=>exact br (show false=true from iY) wa6
 | str a=>
  obtain⟨t',rfl⟩:=bp;cases x with
  | bx=>cases bf;exact SeqAt.EqAt.str_none a t'
  | bl b=>cases bf;exact SeqAt.EqAt.str_bool a t' b
  | int b=>obtain⟨t,rfl⟩:=bf;exact SeqAt.EqAt.str_int a t' b t
  | str b=>obtain⟨t,rfl⟩:=bf;exact SeqAt.EqAt.str_str a t' b t
  | _=>exact br (show false=true from iY) wa6
 | _=>exact br (show false=true from yT) wa6
def iZ (x:V)(u:Value):Bool:=match u with
 | .none=>iu .bx x
 | .bool b=>iu (.bl b) x
 | .int i _=>iu (.int i) x
 | .str z _=>iu (.str z) x
 | _=>false
theorem Eh {x:V}(r:RelV y u) (f:n5 y=true):iZ x u=iu y x:=by
 cases y with
 | bx=>cases r;rfl
 | bl b=>cases r;rfl
 | int i=>obtain⟨t,rfl⟩:=r;rfl
 | str z=>obtain⟨t,rfl⟩:=r;rfl
 | _=>exact br (show false=true from f) wa6
theorem sQ {x:V}:∀{xs:List V}{us:List Value},Vals xs us->xs.all n5=true->us.any (iZ x)=xs.any λy=>iu y x
 | _,_,.nil,_=>rfl
 | y::xs,u::us,.cons r t,f=>by
  rw[List.all_cons,and_eq_true]at f;rw[any_cons,any_cons,Eh r f.1,sQ t f.2]
theorem sR {A:Around}{s:Shared}{x:V}{v:Value}(bf:RelV x v) (iY:n5 x=true):∀{xs:List V}{us:List Value},Vals xs us->xs.all n5=true->∀u∈us,SeqAt.EqAt A s u v (iZ x u)
 | _,_,.nil,_=>λu bZ=>by cases bZ
 | y::xs,u::us,.cons r t,f=>λnU bZ=>by
  rw[List.all_cons,and_eq_true]at f;rcases mem_cons.mp bZ with rfl|bZ
  ·rw[Eh r f.1];exact OJ r bf f.1 iY
  ·exact sR bf iY t f.2 nU bZ
def kc (x:V)(xs:List V):Bool:=xs.any λy=>iu y x
def rIn (K:Frag)(neg:Bool):fT:=λx y H Q=>∃p xs,y=.ref p/\(aK K H p xs\/bT K H p xs)/\n5 x=true/\xs.all n5=true/\Q (.bl (if neg then !kc x xs else kc x xs)) H
theorem vJ:d7 X (compareOp .In) (rIn X.K false):=by
 intro pins s J H x y v u Q I bf bp h;obtain⟨p,xs,rfl,ao,iY,aT,q⟩:=h;cases bp;rcases ao with ao|ao
 ·obtain⟨aU,r,pl,hz⟩:=I.list ao;refine SeqAt.in_listAt (iZ x) pl.isList (λw hw=>sR bf iY r aT w (by simpa using hw)) ⟨.bl _,H,I,rfl,?_⟩;rwa[show aU.toArray.any (iZ x)=aU.any (iZ x) by simp,sQ r aT]
 ·obtain⟨aU,r,pl,hz⟩:=I.tuple ao;refine SeqAt.in_tupleAt (iZ x) pl (λw hw=>sR bf iY r aT w (by simpa using hw)) ⟨.bl _,H,I,rfl,?_⟩;rwa[show aU.toArray.any (iZ x)=aU.any (iZ x) by simp,sQ r aT]
theorem Ei:d7 X (compareOp .NotIn) (rIn X.K true):=by
 intro pins s J H x y v u Q I bf bp h;obtain⟨p,xs,rfl,ao,iY,aT,q⟩:=h;cases bp;rcases ao with ao|ao
 ·obtain⟨aU,r,pl,hz⟩:=I.list ao;refine SeqAt.notIn_listAt (iZ x) pl.isList (λw hw=>sR bf iY r aT w (by simpa using hw)) ⟨.bl _,H,I,rfl,?_⟩;rwa[show aU.toArray.any (iZ x)=aU.any (iZ x) by simp,sQ r aT]
 ·obtain⟨aU,r,pl,hz⟩:=I.tuple ao;refine SeqAt.notIn_tupleAt (iZ x) pl (λw hw=>sR bf iY r aT w (by simpa using hw)) ⟨.bl _,H,I,rfl,?_⟩;rwa[show aU.toArray.any (iZ x)=aU.any (iZ x) by simp,sQ r aT]
theorem zr:g4 X (.builtin "len") (λxs H Q=>∃p aF,xs=[.ref p]/\(aK X.K H p aF\/bT X.K H p aF)/\Q (.int aF.length) H):=by
 intro pins s J H xs us Q I r h;obtain⟨p,aF,rfl,ao,q⟩:=h;obtain⟨u,rfl,bf⟩:=vals1 r;cases bf;have hn:=q1
 rcases ao with ao|ao
 ·obtain⟨aU,c1,pl,hz⟩:=I.list ao;have hlen:=c1.length
  exact Calls.call_len_list pl.isList (by simp only[size_toArray]<;>omega) ⟨.int aF.length,H,I.tok _,⟨s.toks+1,by rw[size_toArray,hlen]⟩,q⟩
 ·obtain⟨aU,c1,pl,hz⟩:=I.tuple ao;have hlen:=c1.length
  exact len_tuple pl (by simp only[size_toArray]<;>omega) ⟨.int aF.length,H,I.tok _,⟨s.toks+1,by rw[size_toArray,hlen]⟩,q⟩
theorem kd:g4 X (.builtin "len") (λxs H Q=>∃z,xs=[.str z]/\z.length<=sizeLine/\Q (.int z.length) H):=by
 intro pins s J H xs us Q I r h;obtain⟨z,rfl,hz,q⟩:=h;obtain⟨u,rfl,t,rfl⟩:=vals1 r;have hn:=q1
 exact len_str ⋯ ⟨.int z.length,H,I.tok _,⟨_,rfl⟩,q⟩
theorem vK:g4 X (.type "list") (λxs H Q=>∃p aF,xs=[.ref p]/\(aK X.K H p aF\/bT X.K H p aF)/\∀l,H l=none->Q (.ref l) (upd H l (.lst aF))):=by
 intro pins s J H xs us Q I r h;obtain⟨p,aF,rfl,ao,q⟩:=h;obtain⟨u,rfl,bf⟩:=vals1 r;cases bf;have fin:∀(aU:List Value),Vals aF aU->aF.length<=sizeLine->∀(h':Heap)(aY:Nat),(∀b bQ,s.heap.get? b∣bQ->h'.get? b∣bQ)->
   h'.get? ↑s=some { cls:=.type "list",dict:=none,data:=.seq aU.toArray aY,slots:=#[] }->fR X pins J Q (.ref ↑s) { s with heap:=h' }:=λaU c1 hz h' aY c2 e=>
  ⟨.ref ↑s,_,I.laid (t':=s.toks) c2 (wa8 _) (show de X.prog X.w _ h' _ (.lst aF) from⟨hz,aU,aY,c1,e⟩),rfl,q _ (I.a6.fresh (wa8 _))⟩
 rcases ao with ao|ao
 ·obtain⟨aU,c1,pl,hz⟩:=I.list ao;have hlen:=c1.length
  obtain⟨o,aA,ak,n,hd⟩:=pl.isList;exact call_list_seq p (.inl rfl) aA ak hd (λh' aY c2 e=>fin aU c1 hz h' aY c2 e) (by simp only[size_toArray]<;>omega)
 ·obtain⟨aU,c1,pl,hz⟩:=I.tuple ao;have hlen:=c1.length
  obtain⟨o,aA,ak,n,hd⟩:=pl;exact call_list_seq p (.inr rfl) aA ak hd (λh' aY c2 e=>fin aU c1 hz h' aY c2 e) (by simp only[size_toArray]<;>omega)
theorem OK:g4 X (.type "tuple") (λxs H Q=>∃p aF,xs=[.ref p]/\((aK X.K H p aF/\∀l,H l=none->Q (.ref l) (upd H l (.tup aF)))\/(bT X.K H p aF/\Q (.ref p) H))):=by
 intro pins s J H xs us Q I r h;obtain⟨p,aF,rfl,h⟩:=h;obtain⟨u,rfl,bf⟩:=vals1 r;cases bf;rcases h with⟨ao,q⟩|⟨ao,q⟩
 ·obtain⟨aU,c1,pl,hz⟩:=I.list ao;have hlen:=c1.length
  refine call_tuple_list pl.isList (λh' c2=>?_) (by simp only[size_toArray]<;>omega);have aO:Inv X pins J H { s with heap:=h' }:=I.kept (t':=s.toks) c2
  have bu:Inv X pins J (upd H h'.objs.size (.tup aF)) { s with heap:=h'.push { cls:=.type "tuple",data:=.seq aU.toArray } }:=
   aO.laid (t':=s.toks) (λb o e=>get?_push_of_some _ e) (wa8 _) (show de X.prog X.w _ _ _ (.tup aF) from⟨hz,aU,c1,IsTup.new _ _⟩)
  exact⟨.ref h'.objs.size,_,bu,rfl,q _ (aO.a6.fresh (wa8 _))⟩
 ·obtain⟨aU,c1,pl,hz⟩:=I.tuple ao;exact call_tuple_same pl ⟨.ref p,H,I,rfl,q⟩
def Ej (K:Frag)(T:String)(x:V)(H:ah):Prop:=match x with
 | .str _=>T="str"
 | .int _=>T="int"
 | .ref p=>(T="list"/\∃xs,aK K H p xs)\/(T="tuple"/\∃o,K.lookup p∣o/\o.cls=.type "tuple"/\o.dict=none)\/
   (T="dict"/\((∃kvs,H p∣.bO kvs)\/∃kvs,H p∣.bc kvs))\/(T="set"/\∃S n,H p∣.set S n)
 | _=>False
theorem OL {T:String}{x:V}{v:Value}(I:Inv X pins J H s) (r:RelV x v) (ty:Ej X.K T x H):
  s.TypeIs v T/\∀a,v=.ref a->∃ob,s.heap.get? a∣ob/\ob.dict=none:=by
 cases x with
 | str z=>
  obtain⟨t,rfl⟩:=r;cases (show T="str" from ty);exact⟨typeIs_str s z t,λ_ e=>nomatch e⟩
 | int i=>
  obtain⟨t,rfl⟩:=r;cases (show T="int" from ty);exact⟨typeIs_int s i t,λ_ e=>nomatch e⟩
 | ref p=>
  cases r;rcases ty with⟨rfl,xs,ao⟩|⟨rfl,o,aj,ak,hd⟩|⟨rfl,aj⟩|⟨rfl,S,n,aj⟩
  ·obtain⟨aU,_,pl,_⟩:=I.list ao;refine⟨pl.isList.typeIs,λa e=>?_⟩;cases e;obtain⟨o,n,e,c,hd,_⟩:=pl;exact⟨o,e,hd⟩
  ·refine⟨⟨o,I.d5 p o aj,ak⟩,λa e=>?_⟩;cases e;exact⟨o,I.d5 _ o aj,hd⟩
  ·have z:∃o,s.heap.get? p∣o/\o.ExactDict:=by
    rcases aj with⟨kvs,aj⟩|⟨kvs,aj⟩
    ·obtain⟨_,_,_,_,o,_,_,e,ex,_⟩:=I.a6 p _ aj;exact⟨o,e,ex⟩
    ·obtain⟨_,_,_,_,o,_,_,e,ex,_⟩:=I.a6 p _ aj;exact⟨o,e,ex⟩
   obtain⟨o,e,ex⟩:=z;refine⟨⟨o,e,ex.1⟩,λa aw=>?_⟩;cases aw;exact⟨o,e,ex.2.1⟩
  ·obtain⟨o,_,_,_,e,ex,_⟩:=I.a6 p _ aj;refine⟨⟨o,e,ex.1⟩,λa aw=>?_⟩;cases aw;exact⟨o,e,ex.2.1⟩
 | _=>exact False.elim ty
def tBM (K:Frag)(T:String)(r:V->List V->ah->bo->Prop)(to:TE)(t:dz):TE:=λJ H Q=>to J H λx H1=>Ej K T x H1/\t J H1 λxs aE=>r x xs aE Q
variable {o e:Expr}{es:List Expr}{to:TE}{t:dz}{name:Str}{apos dQ:Pos}{T id:String}{r:V->List V->ah->bo->Prop}
theorem hE (fJ:PlainAttrs T)(slot:Slot T name id)(lY:typeOf (.builtin id)=pure (.type "method_descriptor"))(hm:vH X id r)(aA:PE X o to)(aN:PA X (e::es) t)(OM:autoParam (attributeBase o name X.env (eval o X.env)=eval o X.env) dA._auto_1)(ON:autoParam (((backTo dQ (starEach (e::es) X.env)).all (λx=>!x.1)&&(backToKw dQ (keywordEach [] X.env)).all (λx=>x.1.isSome)
   && decide ((e::es).length+([]:List Keyword).length+(if ([]:List Keyword).isEmpty then 0 else 1)<30))=true) dA._auto_1)(OO:autoParam ((apos.endLine==dQ.line)=true) dA._auto_1)(aI:autoParam (starEach (e::es) X.env=(false,eval e X.env)::starEach es X.env) dA._auto_1)(OP:autoParam ((backTo dQ (starEach es X.env)).any (·.1)=false) dA._auto_1):
  PE X (.Call (.Attribute o name apos) (e::es) [] dQ) (tBM X.K T r to t):=by
 intro pins s J H Q I h;refine wpAny_Call_method_late OM ON OO rfl (bz (aA pins s J H _ I h) λv s1 ⟨x,H1,aO,bX,ty,a8⟩=>?_);obtain⟨aa,ag⟩:=OL aO bX ty;refine⟨T,id,fJ,slot,lY,aa,ag,?_⟩;have hA:=aN dQ pins s1 J H1 _ aO a8
 rw[aI]at hA ⊢;refine Calls.callWith_builtin (by show(false||(backTo dQ (starEach es X.env)).any (·.1))=false;rw[OP]<;>rfl) (Calls.evalArgs_plain ?_);exact bz hA λus s2 ⟨vs,aE,bu,cB,bK⟩=>hm pins s2 J aE x vs v us Q bu bX cB bK
end
def OQ (X:Cx)(id:String)(r:V->List V->ah->bo->Prop):Prop:=
 ∀(pins:List (Addr×Obj))(s:Shared)(J:St)(H:ah)(x:V)(xs:List V)(v:Value)(us:List Value)(Q:bo),Inv X pins J H s->RelV x v->Vals xs us->r x xs H Q->
  wpAny (model X.prog X.w) X.A (call (.builtin id) (v::us)) (fR X pins J Q) X.cQ s
theorem Vals.one:∀{x:V}{us:List Value},Vals [x] us->∃u,us=[u]/\RelV x u
 | _,_,.cons r .nil=>⟨_,rfl,r⟩
theorem Vals.reverse {xs:List V}(h:Vals xs us):Vals xs.reverse us.reverse:=by
 induction h with
 | nil=>exact .nil
 | cons r t bE=>rw[reverse_cons,reverse_cons];exact Vals.append bE (.cons r .nil)
section
variable {X:Cx}{pins:List (Addr×Obj)}{J:St}{H:ah}{s:Shared}{l b:Addr}{xs aF zs:List V}
theorem Inv.OR {aU its':List Value}{f:Array Value->Array Value}(I:Inv X pins J H s) (fK:H l∣.lst xs)
  (e:s.heap.get? l=some { cls:=.type "list",data:=.seq aU.toArray n }) (hf:f aU.toArray=its'.toArray) (aJ:Vals aF its') (hz:aF.length<=sizeLine):
  Inv X pins J (upd H l (.lst aF)) { s with heap:=s.heap.update l (Obj.mapSeq f),toks:=t' }:=by
 have q:=PySem.IsL.update e f
 rw[hf]at q;refine I.write (x:=l) (e:=l) (by rw[fK];exact trivial) (.inl rfl) (λb1 u ae bZ=>(get?_update_other s.heap (Obj.mapSeq f) (Ne.symm ae)).trans bZ) ⟨_,q⟩ ?_;exact⟨hz,its',_,aJ,q⟩
theorem Inv.OS {aU:List Value}(I:Inv X pins J H s) (aJ:Vals aF aU) (hz:aF.length<=sizeLine):
  Inv X pins J (upd H ↑s (.lst aF)) { s with heap:=s.heap.push { cls:=.type "list",data:=.seq aU.toArray },toks:=t' }:=
 I.laid (λ_ _ q=>get?_push_of_some _ q) (wa8 _) ⟨hz,aU,0,aJ,get?_push_size _ rfl⟩
theorem Inv.fresh (I:Inv X pins J H s):H ↑s=none:=I.a6.fresh (wa8 _)
theorem Inv.yU (I:Inv X pins J H s)(fK:H l∣.lst xs):xs.length<=sizeLine/\∃(aU:List Value)(n:Nat),Vals xs aU/\xs.length=aU.length/\s.heap.get? l=some { cls:=.type "list",data:=.seq aU.toArray n }:=by
 obtain⟨z,aU,n,r,e⟩:=I.a6 l _ fK;exact⟨z,aU,n,r,r.length,e⟩
end
section
variable {X:Cx}
def yV:V->List V->ah->bo->Prop:=λx vs H Q=>∃l xs y,x=.ref l/\vs=[y]/\H l∣.lst xs/\xs.length<sizeLine/\Q .bx (upd H l (.lst (xs++[y])))
theorem i0:OQ X "list.append" yV:=by
 intro pins s J H x vs v us Q I bf cf h;obtain⟨l,xs,y,rfl,rfl,fK,hz,q⟩:=h;cases bf;obtain⟨u,rfl,gh⟩:=cf.one;obtain⟨z,aU,n,r,aD,e⟩:=I.yU fK;refine call_meets F.slot_list_append ⟨_,e,rfl⟩ F.entry_list_append (F.args_list_append_2 _ _) (PySem.list_append l aU.toArray n u (by rw[size_toArray];omega)) ⟨e,?_⟩;refine⟨.bx,_,I.OR (its':=aU++[u]) fK e (by simp) (r.append (.cons gh .nil)) ?_,rfl,q⟩;rw[length_append,List.length_singleton];omega
def Ek:fT:=λx y H Q=>∃l b xs zs,x=.ref l/\y=.ref b/\H l∣.lst xs/\H b∣.lst zs/\xs.length+zs.length<=sizeLine/\∀p,H p=none->Q (.ref p) (upd H p (.lst (xs++zs)))
theorem yW:d7 X (binaryOp .Add) Ek:=by
 intro pins s J H x y v u Q I bf bp h;obtain⟨l,b,xs,zs,rfl,rfl,fK,kR,hz,q⟩:=h;cases bf;cases bp;obtain⟨z,aU,n,r,aD,e⟩:=I.yU fK;obtain⟨eP,El,dO,cB,aec,aw⟩:=I.yU kR;refine PySem.P.add_list e aw ?_ (by rw[size_toArray,size_toArray];omega);have a0:aU.toArray++El.toArray=(aU++El).toArray:=by simp
 rw[a0];exact⟨.ref _,_,I.OS (t':=s.toks) (r.append cB) (by rw[length_append];omega),rfl,q _ I.fresh⟩
end
section
variable {prog:Program}{w:World}{A:Around}{E:wvP}{s:Shared}
end
section
variable {X:Cx}
end
end L2
namespace Att
open PySem PySem.W PySem.Calls PyProof.Rows
theorem OT {P:Params}{h:Heap}:∀(ns:List Int)(vs:List Value),WellAll P h vs (ns.map WData.int)->IntsAre vs ns:=by
 intro ns;induction ns with
 | nil=>
  intro vs w;rw[map_nil]at w;cases w;exact .nil
 | cons n ns bE=>
  intro vs w;rw[map_cons]at w;cases w with
  | cons a b=>
   cases a;exact .cons _ _ (bE _ b)
theorem OU {l:OpenLaw}(hn:l.most∣n){P:Params}{h:Heap}{args:List WData}{vals:List Value}
  (vL:l.row.toRowW.claim.pre args=true) (yX:WellAll P h vals args):
  ∃a vs ns,vals=[Value.ref a]/\args=[WData.list (ns.map WData.int)]/\h.get? a=some { cls:=.type "list",data:=.seq vs.toArray }/\IntsAre vs ns/\ns.length<=n:=by
 have OV:WShape.hasAll [] args [.list .int]=true:=(pre_splitW vL).1
 have ak:l.pre.holds [] { args:=args }=true:=(pre_splitW vL).2
 obtain⟨d,r,rfl,aa,ag⟩:=hasAllW_cons OV;obtain rfl:=hasAllW_nil ag;obtain⟨xs,rfl,aR⟩:=hasW_list aa;obtain⟨ns,rfl⟩:=items_int aR;have hlen:ns.length<=n:=by
  unfold OpenLaw.pre at ak;have b4:(WTm.not (.lt (.lit (.int (n:Int))) (.len (.arg 0)))).holds [] { args:=[.list (ns.map .int)] }=true:=by
   have b4:=(holds_andW ak).1
   rw[hn]at b4;exact b4
  have ek:=condW_of b4 (w_not (w_lt w_lit (w_len_list (w_arg rfl))))
  rw[length_map]at ek;refine Nat.le_of_not_lt λq=>?_;have q':(n:Int)<((ns.length:Nat):Int):=⋯
  first
   | (rw[decide_eq_true q']at ek;exact br ek ∅)
   | (simp at ek;omega)
 cases yX with
 | cons ey lS=>
  cases lS;cases ey with
  | list aA yY=>exact⟨_,_,ns,rfl,rfl,aA,OT ns _ yY,hlen⟩
theorem OW (l:OpenLaw)(args:List WData):l.row.toRowW.claim.post args (.bool true) args=true:=
 postW_of (r:=l.row.toRowW) (X:=(true==true))
  (show WShape.has [] (.bool true) .bool=true by first|rfl|decide|simp[WShape.has,WShape.arms,WShape.armsAll])
  (show(WTm.eq .res (.lit (.bool true))).value [] { args:=args,res:=some (.bool true),after:=args }∣.bool (true==true) from w_eq_bool (w_res rfl) w_lit) rfl
section
variable {prog:Program}{w:World}{A:Around}{E:wvP}{s:Shared}{K:Frag}
end
end Att
variable {xs:List (List L2.Key×PySem.Addr×PySem.Value)}{v:L2.V}{X:L2.Cx}{st:PySem.Stmt}{bM cX:L2.TE}{H' c5:L2.ah}{gz:L2.TI}{c8:L2.g5}{sp:L2.d0}{kvs:List (List L2.Key×L2.V)}{mQ:List (L2.TE×L2.TE)}{cl:List (PySem.Str×PySem.Addr)}{ex:List PySem.Addr}{bS:PySem.Shared}{ifs:List PySem.Expr}{tt:L2.TT}{cq:L2.gZ}{F:List L2.V->L2.ah->Prop}
namespace L2
open PySem PySem.Spec PyProof.Rows
theorem vM:∀{vs:List Value}{ns:List Int},IntsAre vs ns->Vals (ns.map V.int) vs
 | _,_,.nil=>.nil
 | _,_,.cons n t h=>.cons ⟨t,rfl⟩ (vM h)
def inClass (s:Stmt)(j:Nat):Stmt:=match s with
 | .ClassDef _ _ _ body _ _ _ _ _ _ _=>body.getD j (.Pass ⟨0,0,0,0⟩)
 | _=>.Pass ⟨0,0,0,0⟩
def gB (s:Stmt):Arguments:=match s with
 | .FunctionDef _ a _ _ _ _ _ _ _ _=>a
 | _=>{ posonlyargs:=[],args:=[],vararg:=none,kwonlyargs:=[],kw_defaults:=[],kwarg:=none,defaults:=[] }
def e0 (s:Stmt):List Stmt:=match s with
 | .FunctionDef _ _ b _ _ _ _ _ _ _=>b
 | _=>[]
def bU (s:Stmt):Scope:=match s with
 | .FunctionDef _ _ _ _ _ _ sc _ _ _=>sc
 | _=>{ kind:=.function,names:=[],isGenerator:=false,isCoroutine:=false }
abbrev bI:g5:=λ_ _ _ _ _ _=>False
abbrev fU:bL:=λ_ _ _=>False
theorem n6:n0 bI X fU:=λ_ _ _ _ _ _ _ h=>h.elim
structure ke (K:Frag)(x qual:Str)(st:Stmt)(f:Addr)(fd:FuncData):Prop where
 ex:∃(c7:Value)(cA:Option Addr)(bq doc pm:Value)(an:Option Addr)(cdv bW:Value)(et:Array (Option Value)),
  fd=fnOf x qual (gB st) (e0 st) (bU st) .none bq doc pm an cdv bW/\K.lookup f∣⟨c7,cA,.func fd,et⟩/\codeIn K cdv qual=true
 c2:keepIn K (.ref f)=true
section
variable {P:Program}{w:World}{K:Frag}{mg:Str->Option Value}{base:Heap}
theorem ke.ok {k:Nat}(F:ke K x qual st f fd) (S:n1 N ps (bU st)) (len:∀vs H Q E,sp vs H Q E->vs.length=ps.length)
  (jO:∀(cdv:Value)(A:Around)(outer:List Env)(s:Shared)(H:ah)(vs:List V)(Q:bo)(E:bL),da k (A.deeper (envOfC qual (bU st) ↑s f cdv))->sp vs H Q E->
   ∃t,PSs (g6 bI P w K mg base N qual (bU st) f cdv A outer s H E).nox (e0 st) t/\t { aP:=λ_ H'=>Q .bx H',ih:=Q } (start N vs) H):fw P w K mg base bI (k+1) f fd ps sp:=by
 obtain⟨c7,cA,bq,doc,pm,an,cdv,bW,et,rfl,lk,eL⟩:=F.ex;refine vE lk eL S len λA outer s H vs Q E a5 fI=>?_;obtain⟨t,h,q⟩:=jO cdv A outer s H vs Q E a5 fI;exact⟨t,h.nox,q⟩
theorem ke.binds (F:ke K x qual st f fd)
  (h:∀(bq doc pm:Value)(an:Option Addr)(cdv bW:Value)(us:List Value),us.length=ps.length->bindArgs (fnOf x qual (gB st) (e0 st) (bU st) .none bq doc pm an cdv bW) ⟨us,[]⟩=pure (ps.zip us)):Binds K fd ps []:=by
 obtain⟨c7,cA,bq,doc,pm,an,cdv,bW,et,rfl,lk,eL⟩:=F.ex;exact .all (h bq doc pm an cdv bW)
theorem OX {cA an:Option Addr}{bq:Value}(l:K.lookup f∣⟨c7,cA,.func (fnOf x qual (gB st) (e0 st) (bU st) .none bq doc pm an cdv bW),et⟩)
  (c:codeIn K cdv qual=true) (k:keepIn K (.ref f)=true):ke K x qual st f (fnOf x qual (gB st) (e0 st) (bU st) .none bq doc pm an cdv bW):=⟨⟨c7,cA,bq,doc,pm,an,cdv,bW,et,rfl,l,c⟩,k⟩
end
section
variable {X:Cx}
theorem cK (i:Nat)(b9:autoParam (X.N[i]?∣x) dA._auto_1) (aJ:autoParam (qR X.env.scope x) dD._auto_1) (hd:autoParam ((x==("__debug__":Str))=false) dB._auto_1)
  (eL:autoParam ((x==("__classdict__":Str))=false) dB._auto_1):PE X (.Name x pos) (zxs i):=DC b9 aJ hd eL
end
def aQ (H H':ah):Prop:=∀b o,H b∣o->H' b∣o
theorem aQ.refl (H:ah):aQ H H:=λ_ _ h=>h
theorem aQ.trans {H1 aE:ah}(a:aQ H H1) (b:aQ H1 aE):aQ H aE:=λc o h=>b c o (a c o h)
theorem aQ.free (e:aQ H H'){l:Addr}(h:H' l=Option.none):H l=Option.none:=by
 cases q:H l with
 | none=>rfl
 | some o=>
  rw[e l o q]at h;cases h
theorem aQ.seq {xs:List V}(e:aQ H H') (h:aK K H a xs):aK K H' a xs:=by
 rcases h with(h|⟨o,h⟩)|h
 ·exact .inl (.inl (e _ _ h))
 ·exact .inl (.inr ⟨o,e _ _ h⟩)
 ·exact .inr h
section
variable {bt:Type}[DecidableEq bt]
def aS (kvs:List (bt×V))(k:bt):Option V:=(kvs.find? λbF=>decide (bF.1=k)).map (·.2)
def putK (kvs:List (bt×V))(k:bt)(v:V):List (bt×V):=
 if (kvs.any λbF=>decide (bF.1=k))=true then kvs.map (λbF=>if bF.1=k then(bF.1,v) else bF) else kvs++[(k,v)]
theorem i1 {p:bt×V}{r:List (bt×V)}{k:bt}(e:p.1=k):aS (p::r) k∣p.2:=by simp[aS,find?_cons,e]
theorem iv {p:bt×V}{r:List (bt×V)}{k:bt}(e:¬p.1=k):aS (p::r) k=aS r k:=by simp[aS,find?_cons,e]
theorem mO (k:bt):∀kvs:List (bt×V),(kvs.any λbF=>decide (bF.1=k))=(aS kvs k).isSome
 | []=>rfl
 | p::r=>by
  rw[any_cons];by_cases e:p.1=k
  ·simp only[i1 e,decide_eq_true e,Bool.true_or,Option.isSome_some]
  ·rw[iv e,decide_eq_false e,Bool.false_or];exact mO k r
theorem Em (k j:bt)(y:V):∀kvs:List (bt×V),aS (kvs.map λbF=>if bF.1=k then(bF.1,y) else bF) j=(aS kvs j).map λx=>if j=k then y else x
 | []=>rfl
 | p::r=>by
  have bE:=Em k j y r
  rw[map_cons];by_cases h:p.1=k
  ·rw[aM h];by_cases e:p.1=j
   ·rw[i1 (p:=(p.1,y)) e,i1 e,map_some,aM (e.symm.trans h)]
   ·rw[iv (p:=(p.1,y)) e,iv e,bE]
  ·rw[aB h];by_cases e:p.1=j
   ·rw[i1 (p:=p) e,i1 e,map_some,aB (λz=>h (e.trans z))]
   ·rw[iv (p:=p) e,iv e,bE]
theorem En (k j:bt)(y:V):∀kvs:List (bt×V),aS kvs k=none->aS (kvs++[(k,y)]) j=if j=k then some y else aS kvs j
 | [],_=>by
  by_cases e:k=j
  ·rw[aM e.symm];exact i1 (p:=(k,y)) e
  ·rw[aB (λz=>e z.symm)];exact iv (p:=(k,y)) e
 | p::r,hn=>by
  rw[List.cons_append];have aj:¬p.1=k:=λz=>by rw[i1 z]at hn;cases hn
  rw[iv aj]at hn;have bE:=En k j y r hn
  by_cases e:p.1=j
  ·rw[i1 e,i1 e,aB (λz=>aj (e.trans z))]
  ·rw[iv e,iv e,bE]
theorem mP (kvs:List (bt×V))(k j:bt)(y:V):aS (putK kvs k y) j=if j=k then some y else aS kvs j:=by
 unfold putK;by_cases a:(kvs.any λbF=>decide (bF.1=k))=true
 ·rw[aM a,Em];rw[mO]at a;by_cases e:j=k
  ·obtain⟨x,aq⟩:=isSome_iff_exists.mp a;rw[aM e,e,aq,map_some,aM rfl]
  ·rw[aB e];cases aS kvs j with
   | none=>rfl
   | some x=>rw[map_some,aB e]
 ·rw[aB a];refine En k j y kvs ?_;rw[mO]at a;cases q:aS kvs k with
  | none=>rfl
  | some x=>rw[q]at a;exact(a rfl).elim
theorem yZ (kvs:List (bt×V))(k:bt)(v:V):(putK kvs k v).length<=kvs.length+1:=by
 unfold putK;split
 ·rw[length_map];omega
 ·rw[length_append,length_cons,length_nil];omega
theorem Eo {kvs:List (bt×V)}{k:bt}(v:V) (h:aS kvs k=none):putK kvs k v=kvs++[(k,v)]:=by
 unfold putK;rw[mO,h];exact aB ∅
theorem hx.sS {o:Option V}{u:Option Value}(r:hx o u):o.isSome=u.isSome:=by
 cases o with
 | none=>cases u with
  | none=>rfl
  | some _=>exact(show False from r).elim
 | some _=>cases u with
  | none=>exact(show False from r).elim
  | some _=>rfl
theorem hx.getD {o:Option V}{u:Option Value}{d:V}{d':Value}(r:hx o u) (n7:RelV d d'):RelV (o.getD d) (u.getD d'):=by
 cases o with
 | none=>cases u with
  | none=>exact n7
  | some _=>exact(show False from r).elim
 | some _=>cases u with
  | none=>exact(show False from r).elim
  | some _=>exact r
theorem fh.val {kvs:List (bt×V)}{vs:List (bt×Value)} (r:fh kvs vs) (k:bt):hx (aS kvs k) (valueAt vs k):=by
 unfold fh at r;induction r with
 | nil=>exact True.intro
 | @cons p q ps gm h t bE=>
  obtain⟨aa,ag⟩:=h;by_cases e:p.1=k
  ·have a4:q.1=k:=aa.symm.trans e
   have b:valueAt (q::gm) k∣q.2:=by simp[valueAt,find?_cons,a4]
   rwa[i1 e,b]
  ·have a4:¬q.1=k:=λz=>e (aa.trans z)
   have b:valueAt (q::gm) k=valueAt gm k:=by simp[valueAt,find?_cons,a4]
   rwa[iv e,b]
theorem fh.any {kvs:List (bt×V)}{vs:List (bt×Value)} (r:fh kvs vs) (k:bt):(kvs.any λbF=>decide (bF.1=k))=vs.any λbF=>decide (bF.1=k):=by
 unfold fh at r;induction r with
 | nil=>rfl
 | cons h t bE=>rw[any_cons,any_cons,bE,h.1]
theorem fh.y0 {kvs:List (bt×V)}{vs:List (bt×Value)} (r:fh kvs vs) (k:bt)(bp:RelV y u):
  fh (kvs.map λbF=>if bF.1=k then(bF.1,y) else bF) (vs.map λbF=>if bF.1=k then(bF.1,u) else bF):=by
 unfold fh at r ⊢;induction r with
 | nil=>exact .nil
 | @cons p q ps gm h t bE=>
  rw[map_cons,map_cons];refine .cons ?_ bE;obtain⟨aa,ag⟩:=h;by_cases e:p.1=k
  ·rw[aM e,aM (aa.symm.trans e)];exact⟨aa,bp⟩
  ·rw[aB e,aB (λz=>e (aa.trans z))];exact⟨aa,ag⟩
theorem fh.put {kvs:List (bt×V)}{vs:List (bt×Value)} (r:fh kvs vs) (k:bt)(bp:RelV y u):fh (putK kvs k y) (stored vs k u):=by
 unfold putK stored;rw[r.any k];by_cases e:(vs.any λbF=>decide (bF.1=k))=true
 ·rw[aM e,aM e];exact r.y0 k bp
 ·rw[aB e,aB e];exact Paired.snoc r ⟨rfl,bp⟩
theorem fh.length {kvs:List (bt×V)}{vs:List (bt×Value)} (r:fh kvs vs):kvs.length=vs.length:=Paired.length r
end
theorem n8 {k:Key}(r:RelV (bq k) u):(eN P w).is k u=true:=by
 cases k with
 | inl i=>obtain⟨t,e⟩:=(show ∃t,u=Value.int i t from r);subst e;exact M9 P w i t
 | inr x=>obtain⟨t,e⟩:=(show ∃t,u=Value.str x t from r);subst e;exact Na P w x t
theorem OY {a b:Key}(e:bq a=bq b):a=b:=by
 cases a with
 | inl i=>cases b with
  | inl j=>have a4:V.int i=V.int j:=e;injection a4 with a4;rw[a4]
  | inr y=>exact nomatch (show V.int i=V.str y from e)
 | inr x=>cases b with
  | inl j=>exact nomatch (show V.str x=V.int j from e)
  | inr y=>have a4:V.str x=V.str y:=e;injection a4 with a4;rw[a4]
theorem Ep:∀{a b:List Key},a.map bq=b.map bq->a=b
 | [],[],_=>rfl
 | [],_::_,e=>by simp at e
 | _::_,[],e=>by simp at e
 | x::xs,y::aF,e=>by
  rw[map_cons,map_cons]at e;injection e with ar aw
  rw[OY ar,Ep aw]
theorem Er {P:Program}{w:World}:∀{ks:List Key}{us:List Value},Vals (ks.map bq) us->ItemsAre (eN P w) ks us
 | [],_,r=>by rw[map_nil]at r;cases r;exact .nil
 | k::ks,_,r=>by
  rw[map_cons]at r;cases r with
  | cons h t=>exact .cons (n8 h) (Er t)
abbrev KT (H:ah):List (List Key×V)->List (List Key×Addr×Value)->Prop:=Paired λp q=>p.1=q.1/\H q.2.1∣.tup (p.1.map bq)/\RelV p.2 q.2.2
theorem KT.val  (r:KT H kvs xs) (k:List Key):hx (aS kvs k) ((atKey xs k).map (·.2)):=by
 induction r with
 | nil=>exact True.intro
 | @cons p q ps gm h t bE=>
  obtain⟨aa,_,ag⟩:=h;by_cases e:p.1=k
  ·have a4:q.1=k:=aa.symm.trans e
   have b:atKey (q::gm) k∣q.2:=by simp[atKey,find?_cons,a4]
   rwa[i1 e,b]
  ·have a4:¬q.1=k:=λz=>e (aa.trans z)
   have b:atKey (q::gm) k=atKey gm k:=by simp[atKey,find?_cons,a4]
   rwa[iv e,b]
theorem KT.y0  (r:KT H kvs xs) (k:List Key)(bp:RelV y u):
  KT H (kvs.map λbF=>if bF.1=k then(bF.1,y) else bF) (xs.map (putAt k u)):=by
 induction r with
 | nil=>exact .nil
 | @cons p q ps gm h t bE=>
  rw[map_cons,map_cons];refine .cons ?_ bE;obtain⟨aa,ag,aR⟩:=h;unfold putAt;by_cases e:p.1=k
  ·rw[aM e,aM (aa.symm.trans e)];exact⟨aa,ag,bp⟩
  ·rw[aB e,aB (λz=>e (aa.trans z))];exact⟨aa,ag,aR⟩
theorem KT.put  (r:KT H kvs xs) (k:List Key){b:Addr}(ae:H b∣.tup (k.map bq)) (bp:RelV y u):
  KT H (putK kvs k y) (storedH xs k b u):=by
 have e:(kvs.any λbF=>decide (bF.1=k))=(atKey xs k).isSome:=by
  rw[mO,(r.val k).sS,isSome_map]
 unfold putK storedH;rw[e];by_cases q:(atKey xs k).isSome=true
 ·rw[aM q,aM q];exact r.y0 k bp
 ·rw[aB q,aB q];exact Paired.snoc r ⟨rfl,ae,bp⟩
theorem KT.keeps  (r:KT H kvs xs) (bC:∀b aF,H b∣.tup aF->H' b∣.tup aF):KT H' kvs xs:=
 Paired.fp r λ_ _ z=>⟨z.1,bC _ _ z.2.1,z.2.2⟩
section
variable {P:Program}{w:World}{H:ah}{h:Heap}{a:Addr}
theorem Es {u:a3}(ok:dV P w H h) (e:jj H a u):de P w H h a u:=e.ok ok
theorem lZ {kvs:List (Key×V)}(ok:dV P w H h)(e:jj H a (.bO kvs)):kvs.length<=sizeLine/\(a==sysModules)=false/\∃vs,fh kvs vs/\h.DictOf (eN P w) a vs:=
 show de P w H h a (.bO kvs) from Es ok e
theorem y1 {kvs:List (Key×V)}(ok:dV P w H h)(e:H a∣.bO kvs):kvs.length<=sizeLine/\(a==sysModules)=false/\∃vs,fh kvs vs/\h.DictOf (eN P w) a vs:=lZ ok (.inl e)
theorem n9 {ks:List Key}(ok:dV P w H h) (e:H a∣.tup (ks.map bq)):(tupleKind (eN P w)).is h ks a:=by
 obtain⟨_,aU,r,o,aa,ag,n,aR⟩:=(show de P w H h a (.tup (ks.map bq)) from ok a _ e);exact⟨o,aU.toArray,n,aa,ag,aR,by simpa using Er r⟩
theorem oa (ok:dV P w H h)(e:jj H a (.bc kvs)):kvs.length<=sizeLine/\(a==sysModules)=false/\
  ∃xs,KT H kvs xs/\h.DictOfH (tupleKind (eN P w)) a xs:=by
 obtain⟨z,y,xs,r,o,es,cC,aa,ag,aR,b4,ek⟩:=(show de P w H h a (.bc kvs) from Es ok e);refine⟨z,y,xs,r,o,es,cC,aa,ag,aR,b4,λx aq=>?_,ek⟩;have all:∀{l:List (List Key×V)}{m:List (List Key×Addr×Value)},KT H l m->∀x∈m,(tupleKind (eN P w)).is h x.1 x.2.1:=by
  intro l m q;induction q with
  | nil=>intro x aq;exact nomatch aq
  | @cons p q ps gm ao t bE=>
   intro x aq;rcases mem_cons.mp aq with e|aq
   ·subst e;exact n9 ok (by rw[<- ao.1];exact ao.2.1)
   ·exact bE x aq
 exact all r x aq
theorem q5 (ok:dV P w H h)(e:H a∣.bc kvs):kvs.length<=sizeLine/\(a==sysModules)=false/\
  ∃xs,KT H kvs xs/\h.DictOfH (tupleKind (eN P w)) a xs:=oa ok (.inl e)
end
def ed (H:ah)(a:Addr)(y:V)(r:Option V):Prop:=
 (∃kvs k,jj H a (.bO kvs)/\y=bq k/\r=aS kvs k)\/∃kvs k b,jj H a (.bc kvs)/\y=.ref b/\H b∣.tup (k.map bq)/\r=aS kvs k
def kf (H:ah)(a:Addr)(y v:V)(H':ah):Prop:=
 (∃kvs k,H a∣.bO kvs/\y=bq k/\kvs.length<sizeLine/\H'=upd H a (.bO (putK kvs k v)))\/
 ∃kvs k b,H a∣.bc kvs/\y=.ref b/\H b∣.tup (k.map bq)/\kvs.length<sizeLine/\H'=upd H a (.bc (putK kvs k v))
theorem ed.k {kvs:List (Key×V)}{k:Key}(e:H a∣.bO kvs):ed H a (bq k) (aS kvs k):=.inl ⟨kvs,k,.inl e,rfl,rfl⟩
theorem ed.t {b:Addr}{k:List Key}(e:H a∣.bc kvs) (eb:H b∣.tup (k.map bq)):ed H a (.ref b) (aS kvs k):=.inr ⟨kvs,k,b,.inl e,rfl,eb,rfl⟩
theorem kf.k {kvs:List (Key×V)}{k:Key}(e:H a∣.bO kvs) (aD:kvs.length<sizeLine):kf H a (bq k) v (upd H a (.bO (putK kvs k v))):=.inl ⟨kvs,k,e,rfl,aD,rfl⟩
theorem kf.t {b:Addr}{k:List Key}(e:H a∣.bc kvs) (eb:H b∣.tup (k.map bq)) (aD:kvs.length<sizeLine):
  kf H a (.ref b) v (upd H a (.bc (putK kvs k v))):=.inr ⟨kvs,k,b,e,rfl,eb,aD,rfl⟩
section
variable {X:Cx}{pins:List (Addr×Obj)}{J:St}{H:ah}{s:Shared}{a:Addr}{y v:V}{u r:Value}{o:Option V}{A:Around}{E:wvP}
theorem Inv.big (I:Inv X pins J H s):sysModules<↑s:=by
 have h:mainGlobals<↑s:=(I.mod.glob.keeps I.b3).lt
 exact Nat.lt_trans ∅ h
theorem OZ (bZ:A.units+1<cLine) (I:Inv X pins J H s) (g:ed H a y (some v)) (bp:RelV y u) (h:∀eo s',Inv X pins J H s'->RelV v eo->Q eo s'):
  wpAny (model X.prog X.w) A (getItem (.ref a) u) Q E s:=by
 rcases g with⟨kvs,k,e,el,l⟩|⟨kvs,k,b,e,el,eb,l⟩
 ·subst el;obtain⟨z,hd,vs,rel,dd⟩:=lZ I.a6 e;obtain⟨eo,hw,ir⟩:=hx.some_of (v:=v) (o:=valueAt vs k) (by rw[l];exact rel.val k);exact wpAny_getItem_of (n8 bp) dd.mapOf hw (h eo _ (I.tok _) ir)
 ·subst el;cases (show u=Value.ref b from bp);obtain⟨z,hd,xs,rel,dd⟩:=oa I.a6 e;obtain⟨eo,hw,ir⟩:=hx.some_of (v:=v) (o:=(atKey xs k).map (·.2)) (by rw[l];exact rel.val k);obtain⟨p,aG,O0⟩:=map_eq_some_iff.mp hw;refine wpAny_getItem_heap (tupleKind_room_in1 bZ) (n9 I.a6 eb) dd aG ?_;rw[O0];exact h eo _ (I.tok _) ir
theorem O1 (bZ:A.units+1<cLine) (I:Inv X pins J H s) (g:ed H a y o) (bp:RelV y u) (h:∀s',Inv X pins J H s'->Q (.bool o.isSome) s'):
  wpAny (model X.prog X.w) A (compareOp .In u (.ref a)) Q E s:=by
 rcases g with⟨kvs,k,e,el,l⟩|⟨kvs,k,b,e,el,eb,l⟩
 ·subst el;obtain⟨z,hd,vs,rel,dd⟩:=lZ I.a6 e;refine wpAny_in_of (n8 bp) hd dd.mapOf ?_;rw[<- (rel.val k).sS,<- l];exact h _ (I.tok _)
 ·subst el;cases (show u=Value.ref b from bp);obtain⟨z,hd,xs,rel,dd⟩:=oa I.a6 e;refine wpAny_in_heap (tupleKind_room_in1 bZ) (n9 I.a6 eb) hd dd ?_;have q:=(rel.val k).sS
  rw[isSome_map]at q;rw[<- q,<- l];exact h _ (I.tok _)
theorem O2 (bZ:A.units+1<cLine) (I:Inv X pins J H s) (g:ed H a y o) (bp:RelV y u) (h:∀s',Inv X pins J H s'->Q (.bool (!o.isSome)) s'):
  wpAny (model X.prog X.w) A (compareOp .NotIn u (.ref a)) Q E s:=by
 rcases g with⟨kvs,k,e,el,l⟩|⟨kvs,k,b,e,el,eb,l⟩
 ·subst el;obtain⟨z,hd,vs,rel,dd⟩:=lZ I.a6 e;refine wpAny_notIn_of (n8 bp) hd dd.mapOf ?_;rw[<- (rel.val k).sS,<- l];exact h _ (I.tok _)
 ·subst el;cases (show u=Value.ref b from bp);obtain⟨z,hd,xs,rel,dd⟩:=oa I.a6 e;refine wpAny_notIn_heap (tupleKind_room_in1 bZ) (n9 I.a6 eb) hd dd ?_;have q:=(rel.val k).sS
  rw[isSome_map]at q;rw[<- q,<- l];exact h _ (I.tok _)
theorem vN {ob:a3}(I:Inv X pins J H s) (fD:sx (H a)) (aI:Heap.SameBut a s.heap h') (he:∃q,h'.get? a∣q) (new:de X.prog X.w (upd H a ob) h' a ob):
  Inv X pins J (upd H a ob) { s with heap:=h',toks:=t' }:=
 I.write (x:=a) (e:=a) fD (.inl rfl) (λb q ae z=>(aI.2 b ae).trans z) he new
theorem Et {kvs:List (Key×V)}{vs:List (Key×Value)} (z:kvs.length<=sizeLine) (hd:(a==sysModules)=false) (rel:fh kvs vs) (dd:h'.DictOf (eN P w) a vs):
  de P w H' h' a (.bO kvs):=⟨z,hd,vs,rel,dd⟩
theorem O3 {Q:Unit->Shared->Prop}(bZ:A.units+1<cLine) (I:Inv X pins J H s) (g:kf H a y v H') (bp:RelV y u) (cf:RelV v r) (h:∀s',Inv X pins J H' s'->Q () s'):
  wpAny (model X.prog X.w) A (setItem (.ref a) u r) Q E s:=by
 rcases g with⟨kvs,k,e,el,l,pF⟩|⟨kvs,k,b,e,el,eb,l,pF⟩
 ·subst el pF;obtain⟨z,hd,vs,rel,dd⟩:=y1 I.a6 e;have hz:vs.length<=sizeLine:=by rwa[<- rel.length]
  have aD:(putK kvs k v).length<=sizeLine:=by have:=yZ kvs k v;omega
  refine wpAny_setItem_pairs (hsz:=hz) (n8 bp) dd λh' kS aI=>h _ ?_;have he:∃q,h'.get? a∣q:=let⟨q,_,_,ao,_⟩:=kS;⟨q,ao⟩
  exact vN I (by rw[e];exact True.intro) aI he (Et aD hd (rel.put k cf) kS)
 ·subst el pF;cases (show u=Value.ref b from bp);obtain⟨z,hd,xs,rel,dd⟩:=q5 I.a6 e;have hz:xs.length<=sizeLine:=by rwa[<- Paired.length rel]
  have aD:(putK kvs k v).length<=sizeLine:=by have:=yZ kvs k v;omega
  refine wpAny_setItem_heap (hsz:=hz) (tupleKind_room_in1 bZ) (n9 I.a6 eb) dd λh' kS aI=>h _ ?_;obtain⟨q,es,cC,ao,ag,aR,b4,_,ek⟩:=kS;refine vN I (by rw[e];exact True.intro) aI ⟨q,ao⟩ ⟨aD,hd,_,(rel.put k eb cf).keeps λc aF fL=>?_,q,es,cC,ao,ag,aR,b4,ek⟩;rwa[zf (cM fL e (λz=>nomatch z))]
end
section
variable {X:Cx}{pins:List (Addr×Obj)}{J:St}{H:ah}{s:Shared}{a:Addr}{kvs:List (Key×V)}{k:Key}{u:Value}{A:Around}{E:wvP}
theorem y2 (I:Inv X pins J H s) (e:jj H a (.bO kvs)) (h:∀t s',Inv X pins J H s'->Q (.int kvs.length t) s'):wpAny (model X.prog X.w) A (call (.builtin "len") [.ref a]) Q E s:=by
 obtain⟨z,hd,vs,rel,dd⟩:=lZ I.a6 e;refine call_len_dict hd dd (by rw[<- rel.length];rw[sizeLine_eq]at z;omega) ?_;rw[<- rel.length];exact h _ _ (I.tok _)
end
def Eu (i:Expr):Prop:=∀dK hk,subscripted i false dK hk=operate [dK,hk] (getItem dK hk)
theorem O4 {value slice:Expr}{T id:String}
  (aD:typeLookup (.type T) "__getitem__"=pure (some (.builtin id))) (aI:Eu slice)
  (h:wpAny (model prog w) A (eval value env) (λo d6=>wpAny (model prog w) A (eval slice env) (λi hV=>hV.TypeIs o T/\wpAny (model prog w) A (getItem o i) Q E hV) E d6) E s):
  wpAny (model prog w) A (eval (.Subscript value slice pos) env) Q E s:=by
 refine Subscript_ (wpAny_mono h (λo d6 fC=>wpAny_mono fC (λi hV o9=>?_) λ_ _ x=>x) λ_ _ x=>x);obtain⟨cP,o9⟩:=o9;unfold subscriptTail;refine ax ?_;rw[getitemInPython_of_ne cP.not_modules];refine ax (wpAny_specialOf cP aD ?_);have fin:wpAny (model prog w) A (subscripted slice false o i) (λr iT=>wpAny (model prog w) A (letTemporaryGo value o r>>=λ_=>pure r) Q E iT) E hV:=by
  rw[aI o i];exact wpAny_operating (wpAny_mono o9 (λr iT q6=>ax (wpAny_letTemporaryGo (bw q6))) λ_ _ x=>x)
 first
  | exact bw (ax fin)
  | exact ax (bw (ax fin))
  | exact ax fin
theorem O5 {o:Option V}(I:Inv X pins J H s) (g:ed H a y o):s.TypeIs (.ref a) "dict":=by
 rcases g with⟨kvs,k,e,_,_⟩|⟨kvs,k,b,e,_,_,_⟩
 ·obtain⟨_,_,vs,_,dd⟩:=lZ I.a6 e;exact dd.typeIs
 ·obtain⟨_,_,xs,_,dd⟩:=oa I.a6 e;exact dd.typeIs
def zsg (ee ty:TE):TE:=λJ H Q=>ee J H λx H1=>ty J H1 λy aE=>∃a v,x=.ref a/\ed aE a y (some v)/\Q v aE
def zvr (ty ee:TE):TE:=λJ H Q=>ty J H λy H1=>ee J H1 λx aE=>∃a o,x=.ref a/\ed aE a y o/\Q (.bl o.isSome) aE
def zdv (ty ee:TE):TE:=λJ H Q=>ty J H λy H1=>ee J H1 λx aE=>∃a o,x=.ref a/\ed aE a y o/\Q (.bl (!o.isSome)) aE
def zsh (ee ty fv:TE):cV:=λD J H=>fv J H λv H1=>ee J H1 λx aE=>ty J aE λy bP=>∃a ck,x=.ref a/\kf bP a y v ck/\D.aP J ck
section
variable {X:Cx}{o i e value:Expr}{pos pos' sJ:Pos}{ee ty fv:TE}
theorem gn (bZ:X.A.units+1<cLine)(aA:PE X o ee)(au:PE X i ty)(aI:Eu i):PE X (.Subscript o i pos) (zsg ee ty):=by
 intro pins s J H Q I h;refine O4 PySem.F.slot_dict_getitem.lookup aI (bz (aA pins s J H _ I h) λu s1 ⟨x,H1,aO,bf,a8⟩=>bz (au pins s1 J H1 _ aO a8) λhk s2 ⟨y,aE,bu,bp,a,v,ex,g,bK⟩=>?_);subst ex;obtain rfl:u=Value.ref a:=bf;exact⟨O5 bu g,OZ bZ bu g bp λeo s3 cW ir=>⟨v,aE,cW,ir,bK⟩⟩
theorem Ew (bZ:X.A.units+1<cLine)(au:PE X i ty)(aA:PE X o ee):vk X .In i o (zvr ty ee):=by
 intro pins s J H Q I h;refine bz (au pins s J H _ I h) λhk s1 ⟨y,H1,aO,bp,a8⟩=>bz (aA pins s1 J H1 _ aO a8) λu s2 ⟨x,aE,bu,bf,a,dK,ex,g,bK⟩=>?_;subst ex;obtain rfl:u=Value.ref a:=bf;exact O1 bZ bu g bp λs3 cW=>⟨.bl dK.isSome,aE,cW,rfl,bK⟩
theorem vO (bZ:X.A.units+1<cLine)(au:PE X i ty)(aA:PE X o ee):vk X .NotIn i o (zdv ty ee):=by
 intro pins s J H Q I h;refine bz (au pins s J H _ I h) λhk s1 ⟨y,H1,aO,bp,a8⟩=>bz (aA pins s1 J H1 _ aO a8) λu s2 ⟨x,aE,bu,bf,a,dK,ex,g,bK⟩=>?_;subst ex;obtain rfl:u=Value.ref a:=bf;exact O2 bZ bu g bp λs3 cW=>⟨.bl (!dK.isSome),aE,cW,rfl,bK⟩
theorem q7 (bZ:X.A.units+1<cLine)(aA:PE X o ee)(au:PE X i ty)(aJ:PE X value fv)(aI:swapsWith value (some (.Subscript o i pos')) pos.line X.env=pure false):
  PS X (.Assign [.Subscript o i pos'] value pos) (zsh ee ty fv):=by
 intro pins s J H D I h;refine wpAny_Assign_Subscript (bz (aJ pins s J H _ I h) λr s1 ⟨v,H1,aO,cf,a8⟩=>bz (aA pins s1 J H1 _ aO a8) λu s2 ⟨x,aE,bu,bf,bK⟩=>bz (au pins s2 J aE _ bu bK) λhk s3 ⟨y,bP,cW,bp,a,ck,ex,g,dZ⟩=>?_) aI;subst ex;obtain rfl:u=Value.ref a:=bf;exact O3 bZ cW g bp cf λs4 iV=>⟨J,ck,iV,dZ⟩
end
theorem Ex (h:Heap) (ae:sysModules<h.objs.size):de P w H (h.push { cls:=.type "dict",data:=.dict #[] }) h.objs.size (.bO []):=
 ⟨zero_le _,beq_eq_false_iff_ne.mpr (Ne.symm (ne_of_lt ae)),[],.nil,Heap.DictOf.new h⟩
theorem Ey (h:Heap) (ae:sysModules<h.objs.size):de P w H (h.push { cls:=.type "dict",data:=.dict #[] }) h.objs.size (.bc []):=
 ⟨zero_le _,beq_eq_false_iff_ne.mpr (Ne.symm (ne_of_lt ae)),[],.nil,_,#[],0,get?_push_size _ rfl,⟨rfl,rfl,rfl⟩,rfl,rfl,nodup_nil⟩
def y3:TE:=λ_ H Q=>∀p,H p=none->Q (.ref p) (upd H p (.bO []))
def zhl:TE:=λ_ H Q=>∀p,H p=none->Q (.ref p) (upd H p (.bc []))
section
variable {X:Cx}{pos:Pos}
theorem y4:PE X (.Dict [] [] pos) y3:=λpins s J H Q I h=>
 wpAny_Dict_empty ⟨.ref ↑s,_,I.laid (a:=↑s) (o:=.bO []) (t':=s.toks) (λ_ _ q=>get?_push_of_some _ q) (wa8 _) (Ex s.heap I.big),rfl,h _ (I.a6.fresh (wa8 _))⟩
theorem y5:PE X (.Dict [] [] pos) zhl:=λpins s J H Q I h=>
 wpAny_Dict_empty ⟨.ref ↑s,_,I.laid (a:=↑s) (o:=.bc []) (t':=s.toks) (λ_ _ q=>get?_push_of_some _ q) (wa8 _) (Ey s.heap I.big),rfl,h _ (I.a6.fresh (wa8 _))⟩
end
def vP:List (TE×TE)->St->ah->(List (V×V)->ah->Prop)->Prop
 | [],_,H,Q=>Q [] H
 | (tk,fv)::r,J,H,Q=>tk J H λx H1=>fv J H1 λy aE=>vP r J aE λps bP=>Q ((x,y)::ps) bP
abbrev Ez:List (V×V)->List (Value×Value)->Prop:=Paired λp q=>RelV p.1 q.1/\RelV p.2 q.2
def vQ (X:Cx)(pos:Pos)(keys:List (Option Expr))(values:List Expr)(mQ:List (TE×TE)):Prop:=
 ∀(pins:List (Addr×Obj))(s:Shared)(J:St)(H:ah)(Q:List (V×V)->ah->Prop),Inv X pins J H s->vP mQ J H Q->
  wpAny (model X.prog X.w) X.A (evalPairs (pairTrees keys values X.env pos)) (λvs s'=>∃ps H',Inv X pins J H' s'/\Ez ps vs/\Q ps H') X.cQ s
theorem EA:vQ X pos [] [] []:=λpins s J H Q I h=>pairTrees_nil_walk ⟨[],H,I,.nil,h⟩
theorem vR {k v:Expr}{ks:List (Option Expr)}{vs:List Expr}{tk fv:TE} (aj:PE X k tk) (aJ:PE X v fv) (a5:vQ X pos ks vs mQ):
  vQ X pos (some k::ks) (v::vs) ((tk,fv)::mQ):=λpins s J H Q I h=>
 pairTrees_cons_walk (bz (aj pins s J H _ I h) λu s1 ⟨x,H1,aO,bf,a8⟩=>bz (aJ pins s1 J H1 _ aO a8) λlS s2 ⟨y,aE,bu,bp,bK⟩=>
  bz (a5 pins s2 J aE _ bu bK) λws s3 ⟨ps,bP,cW,rel,dZ⟩=>⟨(x,y)::ps,bP,cW,.cons ⟨bf,bp⟩ rel,dZ⟩)
def q8 (kvs more:List (Key×V)):List (Key×V):=more.foldl (λacc bF=>putK acc bF.1 bF.2) kvs
theorem fh.merge:∀{more:List (Key×V)}{rs:List (Key×Value)}{kvs:List (Key×V)}{vs:List (Key×Value)},fh more rs->fh kvs vs->fh (q8 kvs more) (merged vs rs):=by
 intro more rs kvs vs r;unfold fh at r;induction r generalizing kvs vs with
 | nil=>intro q;exact q
 | @cons p q ps gm h t bE=>
  intro hF;have e:fh (putK kvs p.1 p.2) (stored vs q.1 q.2):=by
   have:=hF.put p.1 h.2
   rwa[<- h.1]
  exact bE e
theorem EB:∀(more kvs:List (Key×V)),(q8 kvs more).length<=kvs.length+more.length
 | [],kvs=>by show kvs.length<=kvs.length+0;omega
 | p::r,kvs=>by
  have aa:=EB r (putK kvs p.1 p.2)
  have ag:=yZ kvs p.1 p.2
  show(q8 (putK kvs p.1 p.2) r).length<=_
  rw[length_cons];omega
theorem EC {P:Program}{w:World}:∀{kvs:List (Key×V)}{ws:List (Value×Value)},Ez (kvs.map λbF=>(bq bF.1,bF.2)) ws->∃rs,Carries (eN P w) ws rs/\fh kvs rs
 | [],_,r=>by rw[map_nil]at r;cases r;exact⟨[],True.intro,.nil⟩
 | p::kvs,_,r=>by
  rw[map_cons]at r;cases r with
  | @cons a b as bs h t=>
   obtain⟨rs,c,q⟩:=EC (P:=P) (w:=w) t;obtain⟨ct,b6⟩:=b;exact⟨(p.1,b6)::rs,⟨n8 h.1,rfl,c⟩,.cons ⟨rfl,h.2⟩ q⟩
def zsu (mQ:List (TE×TE)):TE:=λJ H Q=>∀p,H p=none->vP mQ J (upd H p (.bO [])) λps aE=>aE p∣.bO []/\∃kvs:List (Key×V),ps=kvs.map (λbF=>(bq bF.1,bF.2))/\kvs.length<=15/\Q (.ref p) (upd aE p (.bO (q8 [] kvs)))
theorem O6 {keys:List (Option Expr)}{values:List Expr} (h:vQ X pos keys values mQ) (yY:keys.all (·.isSome)=true) (aD:keys.length=values.length) (h0:keys≠[])
  (O7:keys.length<=15):PE X (.Dict keys values pos) (zsu mQ):=by
 intro pins s J H Q I q;have hn:=I.a6.fresh (wa8 ↑s)
 have aO:=I.laid (a:=↑s) (o:=.bO []) (h':=s.heap.push { cls:=.type "dict",data:=.dict #[] }) (t':=s.toks) (λ_ _ q=>get?_push_of_some _ q) (wa8 _) (Ex s.heap I.big)
 refine wpAny_Dict_walk (knd:=eN X.prog X.w) yY aD h0 O7 (bz (h pins _ J _ _ aO (q _ hn)) λws s2 ⟨ps,aE,bu,rel,e,kvs,cC,lk,bK⟩=>?_);subst cC;obtain⟨rs,c,O8⟩:=EC (P:=X.prog) (w:=X.w) rel;obtain⟨z,hd,aed,hF,dd⟩:=y1 bu.a6 e;cases hF;refine⟨rs,c,dd,λh' kS aI=>⟨.ref ↑s,_,?_,rfl,bK⟩⟩;have hz:(q8 [] kvs).length<=sizeLine:=by
  have aa:=EB kvs []
  rw[length_nil]at aa;rw[sizeLine_eq];omega
 have he:∃q,h'.get? ↑s∣q:=let⟨q,_,_,ao,_⟩:=kS;⟨q,ao⟩
 exact vN bu (by rw[e];exact True.intro) aI he (Et hz hd (O8.merge .nil) kS)
structure O9 (X:Cx)(o:Expr)(m:Str)(apos:Pos)(e:Expr)(dQ:Pos):Prop where
 base:attributeBase o m X.env (eval o X.env)=eval o X.env
 pG:((backTo dQ (starEach [e] X.env)).all (λx=>!x.1)&&(backToKw dQ (keywordEach [] X.env)).all (λx=>x.1.isSome)
  && decide (([e]:List Expr).length+([]:List Keyword).length+(if ([]:List Keyword).isEmpty then 0 else 1)<30))=true
 line:(apos.endLine==dQ.line)=true
 trees:backTo dQ (starEach [e] X.env)=[(false,eval e X.env)]
structure M2 (X:Cx)(o:Expr)(m:Str)(apos:Pos)(e f:Expr)(dQ:Pos):Prop where
 base:attributeBase o m X.env (eval o X.env)=eval o X.env
 pG:((backTo dQ (starEach [e,f] X.env)).all (λx=>!x.1)&&(backToKw dQ (keywordEach [] X.env)).all (λx=>x.1.isSome)
  && decide (([e,f]:List Expr).length+([]:List Keyword).length+(if ([]:List Keyword).isEmpty then 0 else 1)<30))=true
 line:(apos.endLine==dQ.line)=true
 trees:backTo dQ (starEach [e,f] X.env)=[(false,eval e X.env),(false,eval f X.env)]
def y6 (H:ah)(a:Addr):Prop:=(∃kvs,jj H a (.bO kvs))\/∃kvs,jj H a (.bc kvs)
theorem ED (I:Inv X pins J H s) (d:y6 H a):
  s.TypeIs (.ref a) "dict"/\(∀b,Value.ref a=.ref b->∃ob,s.heap.get? b∣ob/\ob.dict=none)/\(a==sysModules)=false:=by
 rcases d with⟨kvs,e⟩|⟨kvs,e⟩
 ·obtain⟨_,hd,vs,_,dd⟩:=lZ I.a6 e;refine⟨dd.typeIs,λb q=>?_,hd⟩;cases q;obtain⟨ob,_,_,aa,ag,_⟩:=dd;exact⟨ob,aa,ag.2.1⟩
 ·obtain⟨_,hd,xs,_,dd⟩:=oa I.a6 e;refine⟨dd.typeIs,λb q=>?_,hd⟩;cases q;obtain⟨ob,_,_,aa,ag,_⟩:=dd;exact⟨ob,aa,ag.2.1⟩
section
variable {X:Cx}{pins:List (Addr×Obj)}{J:St}{H:ah}{s:Shared}{a:Addr}{y d:V}{u r:Value}{o:Option V}{A:Around}{E:wvP}
theorem Pa (bZ:A.units+1<cLine) (I:Inv X pins J H s) (g:ed H a y o) (bp:RelV y u) (h:∀eo s',Inv X pins J H s'->RelV (o.getD .bx) eo->Q eo s'):
  wpAny (model X.prog X.w) A (call (.builtin "dict.get") [.ref a,u]) Q E s:=by
 rcases g with⟨kvs,k,e,el,l⟩|⟨kvs,k,b,e,el,eb,l⟩
 ·subst el;obtain⟨z,hd,vs,rel,dd⟩:=lZ I.a6 e;refine call_meetsIn PySem.F.slot_dict_get dd.typeIs PySem.F.entry_dict_get (PySem.F.args_dict_get_2 _ _) (meets_dict_get (eN X.prog X.w) a (n8 bp) hd) ⟨_,dd.mapOf,h _ _ (I.tok _) ?_⟩;rw[l];exact(rel.val k).getD rfl
 ·subst el;cases (show u=Value.ref b from bp);obtain⟨z,hd,xs,rel,dd⟩:=oa I.a6 e;refine call_meetsIn PySem.F.slot_dict_get dd.typeIs PySem.F.entry_dict_get (PySem.F.args_dict_get_2 _ _) (meetsH_dict_get (tupleKind (eN X.prog X.w)) a b hd) ⟨tupleKind_room_in1 bZ,k,xs,n9 I.a6 eb,dd,h _ _ (I.tok _) ?_⟩;rw[l];exact(rel.val k).getD rfl
theorem Pb (bZ:A.units+1<cLine) (I:Inv X pins J H s) (g:ed H a y o) (bp:RelV y u) (n7:RelV d r) (h:∀eo s',Inv X pins J H s'->RelV (o.getD d) eo->Q eo s'):
  wpAny (model X.prog X.w) A (call (.builtin "dict.get") [.ref a,u,r]) Q E s:=by
 rcases g with⟨kvs,k,e,el,l⟩|⟨kvs,k,b,e,el,eb,l⟩
 ·subst el;obtain⟨z,hd,vs,rel,dd⟩:=lZ I.a6 e;refine call_meetsIn PySem.F.slot_dict_get dd.typeIs PySem.F.entry_dict_get (PySem.F.args_dict_get_3 _ _ _) (meets_dict_get_default (eN X.prog X.w) a (n8 bp) hd r) ⟨_,dd.mapOf,h _ _ (I.tok _) ?_⟩;rw[l];exact(rel.val k).getD n7
 ·subst el;cases (show u=Value.ref b from bp);obtain⟨z,hd,xs,rel,dd⟩:=oa I.a6 e;refine call_meetsIn PySem.F.slot_dict_get dd.typeIs PySem.F.entry_dict_get (PySem.F.args_dict_get_3 _ _ _) (meetsH_dict_get_default (tupleKind (eN X.prog X.w)) a b hd r) ⟨tupleKind_room_in1 bZ,k,xs,n9 I.a6 eb,dd,h _ _ (I.tok _) ?_⟩;rw[l];exact(rel.val k).getD n7
end
def zez (ee ty:TE):TE:=λJ H Q=>ee J H λx H1=>∃a,x=.ref a/\y6 H1 a/\ty J H1 λy aE=>∃o,ed aE a y o/\Q (o.getD .bx) aE
def EE (ee ty vS:TE):TE:=λJ H Q=>ee J H λx H1=>∃a,x=.ref a/\y6 H1 a/\ty J H1 λy aE=>vS J aE λz bP=>∃o,ed bP a y o/\Q (o.getD z) bP
section
variable {X:Cx}{o e f:Expr}{apos dQ:Pos}{ee ty vS:TE}
theorem EF (bZ:X.A.units+1<cLine)(aA:PE X o ee)(he:PE X e ty)(m:O9 X o "get" apos e dQ):PE X (.Call (.Attribute o "get" apos) [e] [] dQ) (zez ee ty):=by
 intro pins s J H Q I h;refine wpAny_Call_method m.base m.pG m.line PySem.F.plainAttrs_dict PySem.F.slot_dict_get PySem.F.type_dict_get (bz (aA pins s J H _ I h) λu s1 ⟨x,H1,aO,bf,a,ex,d,a8⟩=>?_);subst ex;obtain rfl:u=Value.ref a:=bf;obtain⟨t1,gC,_⟩:=ED aO d;refine⟨t1,gC,?_⟩;rw[m.trees];refine Calls.callWith_builtin rfl (Calls.evalArgs_plain (Calls.spliced_cons (bz (he pins s1 J H1 _ aO a8) λhk s2 ⟨y,aE,bu,bp,dK,g,bK⟩=>Calls.spliced_nil ?_)));exact Pa bZ bu g bp λeo s3 cW ir=>⟨_,aE,cW,ir,bK⟩
theorem EG (bZ:X.A.units+1<cLine)(aA:PE X o ee)(he:PE X e ty)(hf:PE X f vS)(m:M2 X o "get" apos e f dQ):PE X (.Call (.Attribute o "get" apos) [e,f] [] dQ) (EE ee ty vS):=by
 intro pins s J H Q I h;refine wpAny_Call_method m.base m.pG m.line PySem.F.plainAttrs_dict PySem.F.slot_dict_get PySem.F.type_dict_get (bz (aA pins s J H _ I h) λu s1 ⟨x,H1,aO,bf,a,ex,d,a8⟩=>?_);subst ex;obtain rfl:u=Value.ref a:=bf;obtain⟨t1,gC,_⟩:=ED aO d;refine⟨t1,gC,?_⟩;rw[m.trees];refine Calls.callWith_builtin rfl (Calls.evalArgs_plain (Calls.spliced_cons (bz (he pins s1 J H1 _ aO a8) λhk s2 ⟨y,aE,bu,bp,bK⟩=>
  Calls.spliced_cons (bz (hf pins s2 J aE _ bu bK) λpH s3 ⟨z,bP,cW,Pc,dK,g,dZ⟩=>Calls.spliced_nil ?_))))
 exact Pb bZ cW g bp Pc λeo s4 iV ir=>⟨_,bP,iV,ir,dZ⟩
end
section
variable {X:Cx}{pins:List (Addr×Obj)}{J:St}{H:ah}{s:Shared}{a:Addr}{kvs:List (Key×V)}{A:Around}{E:wvP}
end
section
variable {X:Cx}{pins:List (Addr×Obj)}{J:St}{H:ah}{s:Shared}{a:Addr}{y:V}{u:Value}{A:Around}{E:wvP}
end
section
variable {X:Cx}
end
section
variable {bt:Type}[DecidableEq bt]
theorem EH {kvs:List (bt×V)}{k:bt}(h:aS kvs k=none):¬k∈kvs.map (·.1):=by
 intro m;obtain⟨p,aG,e⟩:=mem_map.mp m;have q:(kvs.any λbF=>decide (bF.1=k))=true:=any_eq_true.mpr ⟨p,aG,decide_eq_true e⟩
 rw[mO,h]at q;exact br q (by simp)
theorem pI {kvs:List (bt×V)}{k:bt}(h:aS kvs k∣v):k∈kvs.map (·.1):=by
 have q:(kvs.any λbF=>decide (bF.1=k))=true:=by
  rw[mO,h];all_goals rfl
 obtain⟨p,aG,e⟩:=any_eq_true.mp q;exact mem_map.mpr ⟨p,aG,of_decide_eq_true e⟩
theorem y7:∀{l:List bt}{k:bt},l.Nodup->¬k∈l->(l++[k]).Nodup
 | [],k,_,_=>by simp
 | a::r,k,h,aj=>by
  obtain⟨aa,ag⟩:=nodup_cons.mp h;show(a::(r++[k])).Nodup
  refine nodup_cons.mpr ⟨λm=>?_,y7 ag λm=>aj (mem_cons.mpr (Or.inr m))⟩;rcases mem_append.mp m with q|q
  ·exact aa q
  ·exact aj (mem_cons.mpr (Or.inl (mem_singleton.mp q).symm))
theorem Pd {kvs:List (bt×V)}{k:bt}(v:V) (hn:(kvs.map (·.1)).Nodup) (h:aS kvs k=none):((putK kvs k v).map (·.1)).Nodup:=by
 rw[Eo v h,map_append];exact y7 hn (EH h)
end
def fV (X:Cx)(scope:Scope)(cl:List (Str×Addr))(N:List Str)(C:Addr)(ex:List Addr)(bS:Shared)(c5:ah):Cx where
 prog:=X.prog
 w:=X.w
 K:=X.K
 mg:=X.mg
 base:=X.base
 A:=X.A
 N:=N
 bS:=bS
 c5:=c5
 env:=compEnvC scope cl C X.env
 outer:=X.stack
 stack:=X.stack
 ex:=ex
 fn:=λ_=>false
 calm:=X.calm
 dr:=X.dr
 cQ:=λ_ _=>False
theorem y8 (c:Calm X):Calm (fV X scope cl N C ex bS c5):=c
structure gD (X:Cx)(scope:Scope)(tn cn:List Str)(dR:List Nat):Prop where
 kind:scope.kind=.function
 pJ:∀y∈scope.names,y.2≠.cell
 names:∀y∈scope.names,y.2=.local->scope.names.lookup y.1=some .local
 sT:∀y∈scope.names,y.2=.free->X.env.kindOf y.1=some .cell\/X.env.kindOf y.1=some .free
 free:∀y∈cn,scope.names.lookup y=some .free
 slots:dR.map (λj=>X.N[j]?)=cn.map some
theorem gD.of {hG:Scope}{tn cn:List Str}{dR:List Nat}(aA:X.env.scope=hG) (kind:scope.kind=.function) (pJ:∀y∈scope.names,y.2≠.cell)
  (names:∀y∈scope.names,y.2=.local->scope.names.lookup y.1=some .local) (sT:∀y∈scope.names,y.2=.free->hG.names.lookup y.1=some .cell\/hG.names.lookup y.1=some .free) (free:∀y∈cn,scope.names.lookup y=some .free)
  (slots:dR.map (λj=>X.N[j]?)=cn.map some):gD X scope tn cn dR:=
 ⟨kind,pJ,names,λy bg hf=>by show X.env.scope.names.lookup y.1=_\/X.env.scope.names.lookup y.1=_;rw[aA];exact sT y bg hf,free,slots⟩
def mR (J:St)(dR:List Nat):St:=dR.map λj=>(J[j]?).getD none
theorem y9 (env:Env):∀(names:List (Str×NameKind))(cs:List (Str×Addr)),(∀x∈names,x.2=.free->∃c,env.cells.lookup x.1∣c)->(∀y c,cs.lookup y∣c->env.cells.lookup y∣c)->
  ∃cl:List (Str×Addr),(forIn names cs λ(x:Str×NameKind)(r:List (Str×Addr))=>(if (x.2==NameKind.free)=true then do let a <- cellOf env x.1;pure (ForInStep.yield ((x.1,a)::r)) else pure (ForInStep.yield r):Sem (ForInStep (List (Str×Addr)))))=pure cl/\
   (∀y c,cl.lookup y∣c->env.cells.lookup y∣c)/\(∀x∈names,x.2=.free->∃c,cl.lookup x.1∣c)/\∀y c,cs.lookup y∣c->∃aY,cl.lookup y∣aY
 | [],cs,_,ag=>⟨cs,by simp,ag,λx h=>br h (by simp),λy c h=>⟨c,h⟩⟩
 | (n,k)::r,cs,aa,ag=>by
  by_cases aj:(k==NameKind.free)=true
  ·obtain⟨c,ak⟩:=aa (n,k) mem_cons_self (by simpa using aj);have vT:∀y d,((n,c)::cs).lookup y∣d->env.cells.lookup y∣d:=λy d h=>by
    rw[lookup_cons]at h;split at h
    ·rename_i e;have a4:y=n:=by simpa using e
     cases h;rwa[a4]
    ·exact ag y d h
   obtain⟨cl,e,p1,ew,fM⟩:=y9 env r ((n,c)::cs) (λx aq=>aa x (mem_cons_of_mem _ aq)) vT;refine⟨cl,?_,p1,λx aq hf=>?_,λy d h=>?_⟩
   ·rw[List.forIn_cons];simp only[aj,if_true,cellOf,ak,pure_bind];exact e
   ·rcases mem_cons.mp aq with ar|ar
    ·subst ar;exact fM n c (by rw[lookup_cons];simp)
    ·exact ew x ar hf
   ·by_cases bg:(y==n)=true
    ·exact fM y c (by rw[lookup_cons,bg])
    ·exact fM y d (by rw[lookup_cons];simp only[not_eq_true]at bg;rwa[bg])
  ·obtain⟨cl,e,p1,ew,fM⟩:=y9 env r cs (λx aq=>aa x (mem_cons_of_mem _ aq)) ag;refine⟨cl,?_,p1,λx aq hf=>?_,fM⟩
   ·rw[List.forIn_cons];simp only[aj,if_false,pure_bind,false_eq_true];exact e
   ·rcases mem_cons.mp aq with ar|ar
    ·subst ar;exact br (by simpa using hf) aj
    ·exact ew x ar hf
theorem EI (h:∀x∈scope.names,x.2=.free->∃c,env.cells.lookup x.1∣c):
  ∃cl:List (Str×Addr),closureFor scope env=pure cl/\(∀y c,cl.lookup y∣c->env.cells.lookup y∣c)/\∀x∈scope.names,x.2=.free->∃c,cl.lookup x.1∣c:=by
 obtain⟨cl,e,p1,ew,_⟩:=y9 env scope.names [] h (λy c h=>by simp at h);refine⟨cl,?_,p1,ew⟩;unfold closureFor;simp only[bind_pure];first
  | exact e
  | (rw[<- e];rfl)
  | (rw[<- e];congr 1;funext x r;obtain⟨n,k⟩:=x;by_cases aj:(k==NameKind.free)=true<;>simp[aj])
theorem EJ {env:Env}:∀{names:List (Str×NameKind)}{x:Str},names.lookup x=some .free->
  (names.map λ(n,k)=>if (k==NameKind.free&&env.scope.kind==.function&&env.kindOf n==some .cell) then(n,NameKind.cell) else(n,k)).lookup x=some .cell\/
  (names.map λ(n,k)=>if (k==NameKind.free&&env.scope.kind==.function&&env.kindOf n==some .cell) then(n,NameKind.cell) else(n,k)).lookup x=some .free
 | [],_,h=>by simp at h
 | (n,k)::r,x,h=>by
  have bE:=@EJ env r x
  show List.lookup x ((if (k==NameKind.free&&env.scope.kind==.function&&env.kindOf n==some .cell)=true then(n,NameKind.cell) else(n,k))::_)=_\/List.lookup x ((if (k==NameKind.free&&env.scope.kind==.function&&env.kindOf n==some .cell)=true then(n,NameKind.cell) else(n,k))::_)=_
  cases aq:x==n with
  | true=>
   simp only[lookup_cons,aq]at h;cases h;by_cases ak:(NameKind.free==NameKind.free&&env.scope.kind==.function&&env.kindOf n==some .cell)=true
   ·rw[aM ak];simp[lookup_cons,aq]
   ·rw[aB ak];simp[lookup_cons,aq]
  | false=>
   simp only[lookup_cons,aq]at h;by_cases ak:(k==NameKind.free&&env.scope.kind==.function&&env.kindOf n==some .cell)=true
   ·rw[aM ak];simp only[lookup_cons,aq];exact bE h
   ·rw[aB ak];simp only[lookup_cons,aq];exact bE h
theorem EK {env:Env}:∀{names:List (Str×NameKind)}{x:Str},(∀y∈names,y.2≠.cell)->
  ((names.map λ(n,k)=>if (k==NameKind.free&&env.scope.kind==.function&&env.kindOf n==some .cell) then(n,NameKind.cell) else(n,k)).lookup x=some .cell\/
  (names.map λ(n,k)=>if (k==NameKind.free&&env.scope.kind==.function&&env.kindOf n==some .cell) then(n,NameKind.cell) else(n,k)).lookup x=some .free)->names.lookup x=some .free
 | [],_,_,h=>by simp at h
 | (n,k)::r,x,hn,h=>by
  have bE:=@EK env r x (λy bg=>hn y (mem_cons_of_mem _ bg))
  have h:List.lookup x ((if (k==NameKind.free&&env.scope.kind==.function&&env.kindOf n==some .cell)=true then(n,NameKind.cell) else(n,k))::_)=_\/List.lookup x ((if (k==NameKind.free&&env.scope.kind==.function&&env.kindOf n==some .cell)=true then(n,NameKind.cell) else(n,k))::_)=_:=h
  cases aq:x==n with
  | true=>
   simp only[lookup_cons,aq];by_cases ak:(k==NameKind.free&&env.scope.kind==.function&&env.kindOf n==some .cell)=true
   ·have:(k==NameKind.free)=true:=by
     simp only[and_eq_true]at ak;exact ak.1.1
    have:k=.free:=by simpa using this
    rw[this]
   ·rw[aB ak]at h;simp only[lookup_cons,aq]at h;rcases h with h|h
    ·exact br (wa5 h) (hn (n,k) mem_cons_self)
    ·rw[wa5 h]
  | false=>
   simp only[lookup_cons,aq];by_cases ak:(k==NameKind.free&&env.scope.kind==.function&&env.kindOf n==some .cell)=true
   ·rw[aM ak]at h;simp only[lookup_cons,aq]at h;exact bE h
   ·rw[aB ak]at h;simp only[lookup_cons,aq]at h;exact bE h
section
variable {X:Cx}{scope:Scope}{tn cn:List Str}{dR:List Nat}{pins:List (Addr×Obj)}{J:St}{H:ah}{s:Shared}{cu:List Addr}{cl:List (Str×Addr)}{ob:Obj}
theorem Pe (S:gD X scope tn cn dR)(I:Inv X pins J H s)(eD:∀y c,cl.lookup y∣c->X.env.cells.lookup y∣c)(i2:∀x∈scope.names,x.2=.free->∃c,cl.lookup x.1∣c)(hf:∀b∈cu,jq X pins H b)(jP:∀b∈cu,b<↑s)(N:List Str):
  (fV X scope cl N (s.heap.push ob).objs.size (↑s::cu) { s with heap:=s.heap.push ob } H).Ok:=by
 have i3:(s.heap.push ob).objs.size=↑s+1:=by rw[size_push]
 refine⟨I.ok.mod,S.kind,I.ok.glob,I.ok.blt,wa8 _,λx y c aa ag=>I.ok.inj x y c (eD x c aa) (eD y c ag),λx aq=>?_,λx c h=>br h (by simp[fV]),I.ok.hd,I.ok.frames,.inl rfl,λb ae=>?_,
  λb o e=>⟨get?_push_of_some _ (I.bs b o e).1,(I.bs b o e).2⟩,?_,λb o e ae=>?_,λb ae z=>?_,?_,I.vf⟩
 ·exact i2 (x,.free) (PySem.mem_of_lookup (EK S.pJ aq)) rfl
 ·rcases mem_cons.mp (show b∈↑s::cu from ae) with e|ae
  ·subst e;refine⟨λz=>?_,λx c e z=>?_⟩
   ·have fs:↑s=(s.heap.push ob).objs.size:=z
    omega
   ·obtain⟨v,q⟩:=I.cell x c (eD x c e);exact br q.lt (by rw[z];exact wa7 _)
  ·refine⟨λz=>?_,λx c e=>(hf b ae).2.2.2.2.1 x c (eD x c e)⟩;have fs:b=(s.heap.push ob).objs.size:=z
   have aa:=jP b ae
   rw[fs,i3]at aa;exact wa7 _ (Nat.lt_of_succ_lt aa)
 ·show X.base.objs.size<=(s.heap.push ob).objs.size
  have aa:=I.ok.jH
  have ag:=I.jk
  omega
 ·rcases mem_cons.mp (show b∈↑s::cu from ae) with ar|ae
  ·subst ar;exact br (lt_size (I.b3 _ o e)) (wa7 _)
  ·rcases (hf b ae).2.2.2.1 with z|z
   ·exact I.ok.pd b o e z
   ·have aa:=I.ok.jH
    have ag:=lt_size e
    exact wa7 _ (lt_of_lt_of_le ag (wa0 aa z))
 ·have fs:=I.pf b z
  rcases mem_cons.mp (show b∈↑s::cu from ae) with ar|ae
  ·subst ar;rcases mem_cons.mp fs with eu|eu
   ·exact br I.lt (by rw[<- eu];exact wa7 _)
   ·exact I.ve (wa8 _) eu
  ·rcases mem_cons.mp fs with eu|eu
   ·exact(hf b ae).2.1 eu
   ·exact(hf b ae).2.2.1 eu
 ·exact I.stack.of_keeps λb o e _=>⟨o,get?_push_of_some _ e,rfl⟩
theorem Pg (S:gD X scope tn cn dR)(I:Inv X pins J H s)(eD:∀y c,cl.lookup y∣c->X.env.cells.lookup y∣c)(i2:∀x∈scope.names,x.2=.free->∃c,cl.lookup x.1∣c)(hf:∀b∈cu,jq X pins H b)(jP:∀b∈cu,b<↑s)(q9:∀v,ob.data≠.cell v)(jQ:ob.isFreed=false){aa:Heap}{m0:Str->Option Value}(hn:aa.Ns (s.heap.push ob).objs.size m0)
  (aj:∀b o,(s.heap.push ob).get? b∣o->aa.get? b∣o):
  Inv (fV X scope cl (tn++cn) (s.heap.push ob).objs.size (↑s::cu) { s with heap:=s.heap.push ob } H) (X.dr++pins++[(↑s,ob)]) (replicate tn.length none++mR J dR) H { s with heap:=aa,toks:=tk }:=by
 have i3:(s.heap.push ob).objs.size=↑s+1:=by rw[size_push]
 have c6:∀b o,s.heap.get? b∣o->aa.get? b∣o:=λb o e=>aj b o (get?_push_of_some _ e)
 have hlen:dR.length=cn.length:=by have:=congrArg length S.slots;simpa using this
 refine⟨Pe S I eD i2 hf jP _,rfl,I.bare,fq.kept aj,⟨m0,hn,λi x v ar aw bV=>?_⟩,λx c e=>?_,I.a6.fresh (by rw[i3];exact le_succ _),λx c e=>I.hB x c (eD x c e),λp aG=>?_,I.a6.kept c6,?_⟩
 ·have ar:(tn++cn)[i]?∣x:=ar
  by_cases au:i<tn.length
  ·rw[getElem?_append_left (by simpa using au),List.getElem?_replicate,aM au]at aw;cases aw
  ·have jR:tn.length<=i:=Nat.le_of_not_lt au
   rw[getElem?_append_right (by simpa using jR),List.length_replicate]at aw;rw[getElem?_append_right jR]at ar;have aq:x∈cn:=mem_of_getElem? ar
   have oc:(dR.map λj=>X.N[j]?)[i-tn.length]?=(cn.map some)[i-tn.length]?:=by rw[S.slots]
   rw[getElem?_map,getElem?_map,ar]at oc;unfold mR at aw;rw[getElem?_map]at aw;cases aZ:dR[i-tn.length]? with
   | none=>rw[aZ]at aw;cases aw
   | some j=>
    rw[aZ]at oc aw;have b9:X.N[j]?∣x:=wa5 oc
    have aw:(J[j]?).getD none∣v:=wa5 aw
    have Ph:J[j]?∣some v:=by
     cases q:J[j]? with
     | none=>rw[q]at aw;cases aw
     | some y=>rw[q]at aw;rw[<- aw];rfl
    have EL:=S.sT (x,.free) (PySem.mem_of_lookup (S.free x aq)) rfl
    obtain⟨m,_,aD⟩:=I.loc;obtain⟨u,r,l⟩:=aD j x v b9 Ph (by rcases EL with z|z;exact .inr (.inl z);exact .inr (.inr z));refine⟨u,r,?_⟩;rcases l with⟨k,_⟩|⟨k,c,e,z⟩
    ·rcases EL with z|z
     ·rw[show X.env.kindOf x=_ from k]at z;cases z
     ·rw[show X.env.kindOf x=_ from k]at z;cases z
    ·obtain⟨aY,fL⟩:=i2 (x,.free) (PySem.mem_of_lookup (S.free x aq)) rfl;have a4:=eD x aY fL
     rw[e]at a4;cases a4;obtain⟨c7,aA,hd⟩:=z;exact .inr ⟨EJ (S.free x aq),c,fL,c7,c6 c c7 aA,hd⟩
 ·obtain⟨v,c7,aA,hd⟩:=I.cell x c (eD x c e);exact⟨v,c7,c6 c c7 aA,hd⟩
 ·have aG:p∈X.dr++pins++[(↑s,ob)]:=(mem_append.mp aG).elim (λz=>mem_append_left _ (mem_append_left _ z)) id
  rcases mem_append.mp aG with aG|aG
  ·obtain⟨e,n,ne,b5,d⟩:=I.pin p aG;refine⟨c6 _ _ e,n,λz=>?_,λz=>?_,d⟩
   ·have fs:p.1=(s.heap.push ob).objs.size:=z
    have aa:=lt_size e
    rw[fs,i3]at aa;exact wa7 _ (Nat.lt_of_succ_lt aa)
   ·rcases mem_cons.mp (I.pf p.1 z) with eu|eu
    ·exact ne eu
    ·exact b5 eu
  ·have e:p=(↑s,ob):=by simpa using aG
   subst e;refine⟨aj _ _ (get?_push_size _ jQ),I.a6.fresh (wa8 _),λz=>?_,λz=>?_,q9⟩
   ·have fs:↑s=(s.heap.push ob).objs.size:=z
    omega
   ·rcases mem_cons.mp (I.pf ↑s z) with eu|eu
    ·exact br I.lt (by rw[<- eu];exact wa7 _)
    ·exact I.ve (wa8 _) eu
 ·show(replicate tn.length none++mR J dR).length=(tn++cn).length
  unfold mR;simp[hlen]
theorem Pj {sU:St}{s3:Shared}{aU:List Value}{aF:List V}(I:Inv X pins J H s) (hf:∀b∈cu,jq X pins H b) (jP:∀b∈cu,b<↑s) (i3:↑s<C)
  (ra:∀b o,s.heap.get? b∣o->s3.heap.get? b∣o) (za:s3.os=s.os)
  (dt:Inv (fV X scope cl N C (↑s::cu) s3 H) (X.dr++pins++[(↑s,{ cls:=.type "list",data:=.seq aU.toArray n })]) sU H' s') (cf:Vals aF aU) (hz:aF.length<=sizeLine):
  Inv X pins J (upd H' ↑s (.lst aF)) s'/\H' ↑s=none/\jq X pins (upd H' ↑s (.lst aF)) C/\∃m,s'.heap.Ns C m:=by
 have mS:=dt.pin (↑s,{ cls:=.type "list",data:=.seq aU.toArray n }) (by show _∈X.dr++(X.dr++pins++[_]);simp)
 have e1:H' ↑s=none:=mS.2.1
 have base:fq (d4 X.stack) (↑s::cu) H H' s3.heap s'.heap:=dt.base
 have old:∀b o,s.heap.get? b∣o->b≠↑s:=λb o e=>ne_of_lt (lt_size e)
 have vU:∀b o,s.heap.get? b∣o->b ∉ cu->b ∉ ↑s::cu:=λb o e h z=>by
  rcases mem_cons.mp z with z|z
  ·exact old b o e z
  ·exact h z
 have zb:∀b u,H b∣u->b≠↑s:=λb u e=>ne_of_lt (I.a6.lt e)
 refine⟨I.DA (ch:=cu) (dt.os.trans za) ⟨λb o e n ae aq=>base.keep b o (ra b o e) n ae (vU b o e aq),λb o e n ae aq=>base.slot b o (ra b o e) n ae (vU b o e aq),λb o e n aq=>?_,λb o e aq=>base.there b o (ra b o e) (vU b o e aq),
  λb xs e=>?_,λb o u e=>?_,λb ps e=>?_⟩ (λa o e=>?_) dt.bare λb ae=>?_,e1,I.mH (Nat.le_of_lt i3) ?_,?_⟩
 ·rw[zf (old b o e)];exact base.free b o (ra b o e) n (vU b o e aq)
 ·rw[zf (zb b _ e)];exact base.cH b xs e
 ·rw[zf (zb b _ e)];exact base.fE b o u e
 ·rw[zf (zb b _ e)];exact base.hy b ps e
 ·by_cases aN:a=↑s
  ·subst aN;rw[aH]at e;cases e;exact⟨hz,aU,n,cf,mS.1⟩
  ·rw[zf aN]at e;exact(dt.a6 a o e).gX (λ_ _ _ q=>q) (λc q=>by rwa[zf (cg q e1)]) λc xs q=>by rwa[zf (cg q e1)]
 ·have q:=hf b ae
  exact⟨q.2.2.2.1,q.2.1,q.2.2.2.2.1,q.2.2.2.2.2⟩
 ·rw[zf (ne_of_gt i3)];exact dt.free
 ·obtain⟨m,hn,_⟩:=dt.loc;exact⟨m,hn⟩
end
def sV (X:Cx)(ifs:List Expr)(t:TT):Prop:=
 ∀(pins:List (Addr×Obj))(s:Shared)(J:St)(H:ah)(Q:Bool->ah->Prop),Inv X pins J H s->t J H Q->
  wpAny (model X.prog X.w) X.A (forIn ifs true λc r=>if r=true then do let ok <- isTrue c X.env (eval c X.env);pure (ForInStep.yield ok) else pure (ForInStep.yield r)) (yq X pins J Q) X.cQ s
def EM:TT:=λ_ H Q=>Q true H
theorem od:sV X [] EM:=λ_ _ _ H _ I h=>wpAny_tests_nil ⟨H,I,h⟩
theorem pK {c:Expr}{t:TT}(h:ij X c t):sV X [c] t:=λpins s J H Q I hw=>wpAny_tests_one (h pins s J H Q I hw)
theorem Pk {elt target:Expr}{it acc:Value}(I:Nat->Shared->Prop)
  (turn:∀n s,I n s->wpAny (model prog w) A (pyNext it) (λr d6=>match r with
   | none=>R (.ok .next) d6
   | some v=>wpAny (model prog w) A (letOwnedTupleGo target it v) (λ_ EN=>wpAny (model prog w) A (assign target env v) (λ_ hV=>
     wpAny (model prog w) A (forIn ifs true λc r=>if r=true then do let ok <- isTrue c env (eval c env);pure (ForInStep.yield ok) else pure (ForInStep.yield r)) (λok iT=>
      if ok=true then wpAny (model prog w) A (eval elt env) (λx oe=>
       wpAny (model prog w) A (call (.builtin "list.append") [acc,x]) (λ_ EO=>∃m,m<n/\I m EO) (λ_ _=>False) oe) (λ_ _=>False) iT
      else ∃m,m<n/\I m iT) (λ_ _=>False) hV) (λ_ _=>False) EN) (λ_ _=>False) d6) (λ_ _=>False) s)
  (n:Nat) (h:I n s):
  codeAny (model prog w) A (.compLoop (.ListComp elt [⟨target,iter,ifs,0⟩] scope pos) 0 it acc env) R s:=by
 refine codeAny_loop rfl I (λn s rb=>?_) n h;show wpAny _ A ((compTurn (.ListComp elt [⟨target,iter,ifs,0⟩] scope pos) 0 it acc env).onRaise (λx=>do noteFrame x env;theTreesLotGoes x)) _ _ s
 refine wpAny_noted ?_;rw[compTurn_list];refine ax (wpAny_standAt (ax (wpAny_mono (turn n s rb) (λr d6 fC=>?_) λ_ _ h'=>h'.elim)));cases r with
 | none=>exact bw fC
 | some v=>
  refine ax (wpAny_mono fC (λ_ EN Pl=>?_) λ_ _ h'=>h'.elim);refine ax (wpAny_mono Pl (λ_ hV o9=>ax (wpAny_mono o9 (λok iT q6=>?_) λ_ _ h'=>h'.elim)) λ_ _ h'=>h'.elim);cases ok with
  | false=>exact bw ⟨rfl,q6⟩
  | true=>
   exact ax (ax (wpAny_mono q6 (λx oe Pm=>ax (wpAny_mono Pm (λ_ EO Pn=>bw (bw ⟨rfl,Pn⟩)) λ_ _ h'=>h'.elim)) λ_ _ h'=>h'.elim))
def l0 (cq:gZ)(g:fi)(tt:TT)(bM:TE)(sU:St)(W:Nat->Nat->List V->ah->Prop)(F:List V->ah->Prop):Prop:=
 ∀i m aF H,W i m aF H->(cq.stop i H/\aF.length<=sizeLine/\F aF H)\/(cq.go i H/\∃N:List V->ah->Prop,(∀iw H',N iw H'->∃ba,ba<m/\W (i+1) ba iw H')/\
  ∀x H',cq.gy i H x H'->g x sU H' λdu aE=>(du.length=sU.length/\∀(j:Nat)(v:V),sU[j]?∣some v->du[j]?∣some v)/\
   tt du aE λb bP=>if b=true then bM du bP λy ck=>aF.length<=sizeLine/\N (aF++[y]) ck else N aF bP)
section
variable {X:Cx}{scope:Scope}{tn cn:List Str}{dR:List Nat}
theorem EP {elt:Expr}{g:fi}{pL:Nat->Heap->Prop}
  {W:Nat->Nat->List V->ah->Prop}{m0:Nat}{RR:Value->Addr->Result->Shared->Prop}
  (S:gD X scope tn cn dR) (ak:Calm X) (eD:∀y c,cl.lookup y∣c->X.env.cells.lookup y∣c) (i2:∀x∈scope.names,x.2=.free->∃c,cl.lookup x.1∣c)
  (bD:∀C ex bS c5,PG (fV X scope cl (tn++cn) C ex bS c5) cS g) (bC:∀C ex bS c5,sV (fV X scope cl (tn++cn) C ex bS c5) ifs tt) (he:∀C ex bS c5,PE (fV X scope cl (tn++cn) C ex bS c5) elt bM)
  (I:Inv X pins J H s) (T:Turn X.prog X.w X.K cS cq cu it pL) (st:pL 0 s.heap) (hf:∀b∈cu,jq X pins H b) (zd:l0 cq g tt bM (replicate tn.length none++mR J dR) W F) (cZ:W 0 m0 [] H)
  (Po:∀D C s' H' aF m,H' D=none->F aF H'->Inv X pins J (upd H' D (.lst aF)) s'->jq X pins (upd H' D (.lst aF)) C->s'.heap.Ns C m->RR (.ref D) C (.ok .next) s'):
  wpAny (model X.prog X.w) X.A (newList []) (λacc iT=>wpAny (model X.prog X.w) X.A (newFunctionEnv scope X.env.globals cl [] X.env.qual none .none (some X.env)) (λER oe=>
   codeAny (model X.prog X.w) X.A (.compStart (.ListComp elt [⟨cS,iter,ifs,0⟩] scope pos) 0 (.ref it) acc { ER with scope:=relabel scope X.env }) (RR acc ER.locals) oe) E iT) E s:=by
 have jP:∀b∈cu,b<↑s:=λb ae=>let⟨o,e,_⟩:=T.obj 0 s.heap st b ae;lt_size e
 refine wpAny_newObj_type (wpAny_newFunctionEnv S.pJ (by intro y bg;simp at bg) (λfC ES ET=>?_) S.kind);dsimp only at ES ET ⊢
 have aj:∀b o,(s.heap.push { cls:=.type "list",dict:=none,data:=.seq ([]:List Value).toArray }).get? b∣o->fC.get? b∣o:=λb o e=>
  ET.extBut b o (ne_of_lt (lt_size e)) (get?_push_of_some _ e)
 have aO:=Pg (tk:=s.toks+([]:List (Str×Value)).length) S I eD i2 hf jP (ob:={ cls:=.type "list",dict:=none,data:=.seq ([]:List Value).toArray }) (λv z=>by cases z) rfl ES aj
 have i3:(s.heap.push { cls:=.type "list",dict:=none,data:=.seq ([]:List Value).toArray }).objs.size=↑s+1:=by rw[size_push]
 generalize aee:(s.heap.push { cls:=.type "list",dict:=none,data:=.seq ([]:List Value).toArray }).objs.size=C at *
 have dI:pL 0 fC:=T.keep 0 _ _ st λb ae o e=>aj b o (get?_push_of_some _ e)
 have ix:∀b o,s.heap.get? b∣o->({ s with heap:=s.heap.push { cls:=.type "list",dict:=none,data:=.seq ([]:List Value).toArray } }:Shared).heap.get? b∣o:=λb o e=>get?_push_of_some _ e
 generalize ra:({ s with heap:=s.heap.push { cls:=.type "list",dict:=none,data:=.seq ([]:List Value).toArray } }:Shared)=s3 at *
 have za:s3.os=s.os:=by rw[<- ra]
 have Pp:∀b∈cu,H b=none:=λb ae=>(hf b ae).1
 have pn:∀{aU:List Value}{n:Nat}{H':ah},(∀b∈cu,H' b=none)->∀b∈cu,jq (fV X scope cl (tn++cn) C (↑s::cu) s3 H) (X.dr++pins++[(↑s,{ cls:=.type "list",data:=.seq aU.toArray n })]) H' b:=λ{aU n H'} hn b ae=>by
  have q:=hf b ae
  have cF:=jP b ae
  refine⟨hn b ae,λz=>?_,λz=>?_,.inl (mem_cons_of_mem _ ae),λx c e=>q.2.2.2.2.1 x c (eD x c e),λp aG z=>?_⟩
  ·have fs:b=C:=z
   rw[fs,i3]at cF;exact wa7 _ (Nat.lt_of_succ_lt cF)
  ·rcases mem_cons.mp (I.pf b z) with eu|eu
   ·exact q.2.1 eu
   ·exact q.2.2.1 eu
  ·have aG:p∈X.dr++pins++[(↑s,_)]:=(mem_append.mp aG).elim (λz=>mem_append_left _ (mem_append_left _ z)) id
   rcases mem_append.mp aG with aG|aG
   ·exact q.2.2.2.2.2 p aG z
   ·have e:=mem_singleton.mp aG
    rw[e]at z;have fs:↑s=b:=z
    rw[<- fs]at cF;exact wa7 _ cF
 have loop:∀oe:Shared,oe={ s with heap:=fC,toks:=s.toks+([]:List (Str×Value)).length }->
   codeAny (model X.prog X.w) X.A (.compLoop (.ListComp elt [⟨cS,iter,ifs,0⟩] scope pos) 0 (.ref it) (.ref ↑s) (compEnvC scope cl C X.env)) (RR (.ref ↑s) C) oe:=by
  rintro oe rfl;refine Pk (λn s'=>∃i aF aU k H',Inv (fV X scope cl (tn++cn) C (↑s::cu) s3 H) (X.dr++pins++[(↑s,{ cls:=.type "list",data:=.seq (toArray aU) k })]) (replicate tn.length none++mR J dR) H' s'/\
   pL i s'.heap/\(∀b∈cu,H' b=none)/\Vals aF aU/\W i n aF H') ?_ m0 ⟨0,[],[],0,H,aO,dI,Pp,.nil,cZ⟩
  rintro n s5 ⟨i,aF,aU,k,dg,mJ,pq,vr,vV,Pq⟩;rcases zd i n aF dg Pq with⟨stop,hz,eC⟩|⟨go,aef,EU,step⟩
  ·refine wpAny_mono (T.done (fV X scope cl (tn++cn) C (↑s::cu) s3 H) rfl rfl rfl (y8 ak) i _ s5 _ dg (λ_ _=>False) mJ (pn vr) pq stop) (λr dm fx=>?_) λ_ _ z=>z;obtain⟨a5,kO⟩:=fx;subst a5;obtain⟨Pr,Pt,Pu,m,Pw⟩:=Pj I hf jP ⋯ ix za kO vV hz;exact Po _ _ _ _ _ m Pt eC Pr Pu Pw
  ·refine wpAny_mono (T.item (fV X scope cl (tn++cn) C (↑s::cu) s3 H) rfl rfl rfl (y8 ak) i _ s5 _ dg (λ_ _=>False) mJ (pn vr) pq go) (λr dm fx=>?_) λ_ _ z=>z;obtain⟨u,a5,fx⟩:=fx;subst a5;refine wpAny_mono fx (λ_ dM ze=>?_) λ_ _ z=>z;obtain⟨x,gi,jM,yy,Px,vW,Py⟩:=ze;have Pz:=jM.pinned (pn Py) (T.obj _ _ vW)
   refine wpAny_mono (bD C (↑s::cu) s3 H _ dM _ gi x u _ Pz yy (step x gi Px)) (λ_ fk zg=>?_) λ_ _ z=>z;obtain⟨vX,mT,PB,⟨EV,EW⟩,PC⟩:=zg;have back:∀{l1:ah}{gp:Shared},Inv (fV X scope cl (tn++cn) C (↑s::cu) s3 H) (X.dr++pins++[(↑s,{ cls:=.type "list",data:=.seq (toArray aU) k })]++sF cu dM.heap) vX l1 gp->
     pL (i+1) gp.heap/\(∀b∈cu,l1 b=none):=λ{l1 gp} rd=>by
    refine⟨T.keep _ _ _ vW λb ae o e=>(rd.pin (b,o) (mem_append_right _ (mem_append_right _ (vq ae e)))).1,λb ae=>?_⟩;obtain⟨o,e,d⟩:=T.obj _ _ vW b ae;exact(rd.pin (b,o) (mem_append_right _ (mem_append_right _ (vq ae e)))).2.1
   refine wpAny_mono (bC C (↑s::cu) s3 H _ fk vX mT _ PB PC) (λok gp PD=>?_) λ_ _ z=>z;obtain⟨l1,rd,vY⟩:=PD;cases ok with
   | false=>
    rw[aB ∅]at vY ⊢;obtain⟨ba,hm,sW⟩:=EU _ _ vY;obtain⟨ct,b6⟩:=back rd;exact⟨ba,hm,i+1,aF,aU,k,l1,rd.sG.weak EV.symm EW,ct,b6,vV,sW⟩
   | true=>
    rw[aM rfl]at vY ⊢;refine wpAny_mono (he C (↑s::cu) s3 H _ gp vX l1 _ rd vY) (λzh l2 PF=>?_) λ_ _ z=>z;obtain⟨y,rf,vZ,PH,PJ,EX⟩:=PF;obtain⟨ba,hm,PK⟩:=EU _ _ EX;obtain⟨ct,b6⟩:=back vZ;have mS:=vZ.pin (↑s,{ cls:=.type "list",data:=.seq (toArray aU) k }) (mem_append_right _ (mem_append_left _ (mem_append_right _ (mem_singleton.mpr rfl))))
    refine wpAny_list_append_plain (hsz:=by rwa[size_toArray,<- vV.length]) ⟨k,mS.1⟩ λEY PL EZ=>?_;obtain⟨eG,PM⟩:=PL;have PN:Inv (fV X scope cl (tn++cn) C (↑s::cu) s3 H) (X.dr++pins) vX rf l2:=vZ.sz λp aG=>vZ.pin p (mem_append_right _ (mem_append_left _ (mem_append_left _ aG)))
    have E0:=PN.turned (t':=l2.toks) (h':=EY) (it:=↑s) (λb o ae e=>EZ.extBut b o ae e) mS.2.1 mS.2.2.1 (.inl mem_cons_self) (λx c e z=>?_) (λp aG z=>?_)
    ·refine⟨ba,hm,i+1,aF++[y],aU++[zh],eG,rf,?_,?_,b6,vV.append (.cons PH .nil),PK⟩
     ·refine(E0.sz λp aG=>?_).weak EV.symm EW;rcases mem_append.mp aG with aG|aG
      ·exact E0.pin p (mem_append_right _ aG)
      ·have e:=mem_singleton.mp aG
       subst e;refine⟨?_,mS.2.1,mS.2.2.1,mS.2.2.2.1,λv z=>by cases z⟩;show EY.get? ↑s=_
       rw[PM];simp
     ·refine T.keep _ _ _ ct λb ae o e=>EZ.extBut b o (λz=>?_) e;have aa:=jP b ae
      rw[z]at aa;exact wa7 _ aa
    ·obtain⟨v,q⟩:=I.cell x c (eD x c e);exact br q.lt (by rw[z];exact wa7 _)
    ·have aG:p∈X.dr++pins:=(mem_append.mp aG).elim (λz=>mem_append_left _ z) id
     exact br (lt_size (I.pin p aG).1) (by rw[z];exact wa7 _)
 exact codeAny_compStart_list (loop _ rfl) (T.self X.A 0 _ _ _ dI (loop _ rfl))
def zsx (gz:TI)(k:Nat)(dR:List Nat)(g:fi)(tt:TT)(bM:TE):TE:=λJ H Q=>gz J H λcq H1=>∃W:Nat->Nat->List V->ah->Prop,(∃m,W 0 m [] H1)/\
 l0 cq g tt bM (replicate k none++mR J dR) W λaF H'=>∀D,H' D=none->Q (.ref D) (upd H' D (.lst aF))
theorem kg {elt:Expr}{g:fi}(S:gD X scope tn cn dR) (ak:Calm X) (au:PI X cS iter gz)
  (bD:∀cl C ex bS c5,PG (fV X scope cl (tn++cn) C ex bS c5) cS g) (bC:∀cl C ex bS c5,sV (fV X scope cl (tn++cn) C ex bS c5) ifs tt) (he:∀cl C ex bS c5,PE (fV X scope cl (tn++cn) C ex bS c5) elt bM)
  (aI:∀x,foldedSetIterable iter X.env x=pure x:=by intro _;rfl):PE X (.ListComp elt [⟨cS,iter,ifs,0⟩] scope pos) (zsx gz tn.length dR g tt bM):=by
 intro pins s J H Q I h;obtain⟨cl,zi,eD,i2⟩:=EI (scope:=scope) (env:=X.env) λx aq hf=>I.ok.has x.1 (S.sT x aq hf)
 rw[eval_ListComp];refine wpAny_comprehension_free (use:=none) rfl aI zi S.kind S.names (bz (au pins s J H _ I h) λv s1 aa=>bz aa λvp s2 ag=>?_);obtain⟨it,cu,pL,cq,aE,e,bu,T,iU,f2,W,⟨m0,cZ⟩,turn⟩:=ag;subst e;refine EP (RR:=λacc C=>compPost (model X.prog X.w) X.A X.cQ none (fR X pins J Q) acc C) S ak eD i2 (bD cl) (bC cl) (he cl) bu T iU f2 turn cZ ?_;intro D C s' H' aF m e1 f dt jS hn;refine⟨m,hn,λh' i4=>?_⟩;have zk:=dt.turned (t':=s'.toks) (h':=h') (it:=C) (λb o ae e=>i4.extBut b o ae e) jS.1 jS.2.1 jS.2.2.2.1 jS.2.2.2.2.1 jS.2.2.2.2.2
 exact⟨.ref D,_,zk,rfl,f D e1⟩
def zse (i:Nat)(gz:TI)(k:Nat)(dR:List Nat)(g:fi)(tt:TT)(bM:TE):cV:=λD J H=>gz J H λcq H1=>∃W:Nat->Nat->List V->ah->Prop,(∃m,W 0 m [] H1)/\
 l0 cq g tt bM (replicate k none++mR J dR) W λaF H'=>∀p,H' p=none->D.aP (J.set i (some (.ref p))) (upd H' p (.lst aF))
theorem zl {elt:Expr}{E1 py:Pos}{y:Str}{g:fi}(S:gD X scope tn cn dR) (ak:Calm X) (b9:X.N.Nodup) (bg:X.N[i]?∣y) (aD:X.env.scope.names.lookup y=some .local)
  (au:PI X cS iter gz)
  (bD:∀cl C ex bS c5,PG (fV X scope cl (tn++cn) C ex bS c5) cS g) (bC:∀cl C ex bS c5,sV (fV X scope cl (tn++cn) C ex bS c5) ifs tt) (he:∀cl C ex bS c5,PE (fV X scope cl (tn++cn) C ex bS c5) elt bM)
  (hsw:swapsWith (.ListComp elt [⟨cS,iter,ifs,0⟩] scope pos) (some (.Name y py)) E1.line X.env=pure true)
  (aI:∀x,foldedSetIterable iter X.env x=pure x:=by intro _;rfl):PS X (.Assign [.Name y py] (.ListComp elt [⟨cS,iter,ifs,0⟩] scope pos) E1) (zse i gz tn.length dR g tt bM):=by
 intro pins s J H D I h;obtain⟨cl,zi,eD,i2⟩:=EI (scope:=scope) (env:=X.env) λx aq hf=>I.ok.has x.1 (S.sT x aq hf)
 rw[exec_Assign_Name_used _ _ _ _ hsw];refine ax (wpAny_standAt (ax ?_));show wpAny _ X.A (do let _ <- comprehension (.ListComp elt [⟨cS,iter,ifs,0⟩] scope pos) scope X.env _ (newList []) false (eval iter X.env) (some (assign (.Name y py) X.env))) _ _ s
 refine ax (wpAny_mono (wpAny_comprehension_free (use:=some (assign (.Name y py) X.env)) (Q:=λ_ s'=>hU X pins D .next s') rfl aI zi S.kind S.names
  (bz (au pins s J H _ I h) λv s1 aa=>bz aa λvp s2 ag=>?_)) (λ_ s' ao=>bw (bw ao)) λ_ _ e=>e)
 obtain⟨it,cu,pL,cq,aE,e,bu,T,iU,f2,W,⟨m0,cZ⟩,turn⟩:=ag;subst e;refine EP (RR:=λacc C=>compPost (model X.prog X.w) X.A X.cQ (some (assign (.Name y py) X.env)) (λ_ s'=>hU X pins D .next s') acc C) S ak eD i2 (bD cl) (bC cl) (he cl) bu T iU f2 turn cZ ?_;intro p C s' H' aF m e1 f dt jS hn;show wpAny _ X.A (assign (.Name y py) X.env (.ref p)) _ _ _
 refine wpAny_assign_Name (Dx (v:=.ref p) dt b9 bg (.inl aD) rfl (λs4 iV ⟨a,PO,aN⟩=>?_) (.inr aD));have PQ:C≠a:=by
  rcases aN with aN|aN
  ·rw[aN];exact jS.2.1
  ·exactλz=>jS.2.2.2.2.1 y a aN z.symm
 refine⟨m,hn.sameBut PO PQ,λh' i4=>?_⟩;have zk:=iV.turned (t':=s4.toks) (h':=h') (it:=C) (λb o ae e=>i4.extBut b o ae e) jS.1 jS.2.1 jS.2.2.2.1 jS.2.2.2.2.1 jS.2.2.2.2.2
 exact⟨_,_,zk,f p e1⟩
end
structure pM (cq:gZ)(H:ah)(xs:List V):Prop where
 go:∀i,i<xs.length->cq.go i H
 gy:∀i x H',i<xs.length->cq.gy i H x H'->H'=H/\xs[i]?∣x
 stop:cq.stop xs.length H
theorem src_list {xs:List V}(h:aK K H a xs):pM (kM K a) H xs:=
 ⟨λi au=>⟨xs,xs[i],h,by simp[au]⟩,λi x H' _ y=>⟨y.1,y.2 xs h⟩,⟨xs,h,wa8 _⟩⟩
theorem src_range:pM (j9 lo n) H ((range n).map λi=>V.int (lo+(i:Nat))):=
 ⟨λi au=>(show i<n by simpa using au),λi x H' au y=>⟨y.1,by
  have jR:i<n:=by simpa using au
  have e:x=.int (lo+(i:Nat)):=y.2
  rw[e,getElem?_map,List.getElem?_range jR];rfl⟩,by show n<=_;simp⟩
theorem v3 {x:V}{cs:St}:((some x::cs:St).length=(none::cs:St).length)/\∀(j:Nat)(v:V),(none::cs:St)[j]?∣some v->(some x::cs:St)[j]?∣some v:=by
 refine⟨by simp,λj v h=>?_⟩;cases j with
 | zero=>simp at h
 | succ j=>simpa using h
theorem pN {xs:List V}{cs:St}(S:pM cq H xs) (p:V->Bool) (f:V->V) (zo:∀x∈xs,∀Q:Bool->ah->Prop,Q (p x) H->tt (some x::cs) H Q)
  (zp:∀x∈xs,p x=true->∀Q:bo,Q (f x) H->bM (some x::cs) H Q) (hn:xs.length<=sizeLine) (hl:F ((xs.filter p).map f) H):
  ∃W:Nat->Nat->List V->ah->Prop,(∃m,W 0 m [] H)/\l0 cq (hW 0) tt bM (none::cs) W F:=by
 refine⟨λi m aF H'=>m=xs.length-i/\i<=xs.length/\H'=H/\aF=((xs.take i).filter p).map f,⟨xs.length,by simp,zero_le _,rfl,by simp⟩,?_⟩;rintro i m aF H' ⟨rfl,au,rfl,rfl⟩;have hlen:(((xs.take i).filter p).map f).length<=sizeLine:=by
  rw[length_map];refine wa0 (length_filter_le _ _) ?_;rw[length_take];omega
 by_cases cF:i<xs.length
 ·refine .inr ⟨S.go i cF,λiw cO=>cO=H'/\iw=((xs.take (i+1)).filter p).map f,λiw cO h=>⟨xs.length-(i+1),⋯,rfl,cF,h.1,h.2⟩,λx cO y=>?_⟩;obtain⟨rfl,aq⟩:=S.gy i x cO cF y;have hm:x∈xs:=mem_of_getElem? aq
  have pB:xs.take (i+1)=xs.take i++[x]:=by
   rw[take_add_one,aq];rfl
  show _/\_
  refine⟨v3,?_⟩;refine zo x hm _ ?_;cases aG:p x with
  | true=>
   rw[aM rfl];refine zp x hm aG _ ⟨hlen,rfl,?_⟩;rw[pB,filter_append,map_append];simp[aG]
  | false=>
   rw[aB ∅];refine⟨rfl,?_⟩;rw[pB,filter_append,map_append];simp[aG]
 ·have e:i=xs.length:=⋯
  subst e;refine .inl ⟨S.stop,hlen,?_⟩;rwa[take_length]
theorem E2 {x:Nat->V}{cs:St}(Pv:Nat->List V->ah->Prop) (h0:Pv 0 [] H)
  (PR:∀i aF H,i<n->Pv i aF H->cq.go i H/\∀y H',cq.gy i H y H'->H'=H/\y=x i) (PT:∀aF H,Pv n aF H->cq.stop n H)
  (aI:∀i aF H,i<n->Pv i aF H->tt (some (x i)::cs) H λb bP=>if b=true then bM (some (x i)::cs) bP λy ck=>aF.length<=sizeLine/\Pv (i+1) (aF++[y]) ck else Pv (i+1) aF bP)
  (hd:∀aF H,Pv n aF H->aF.length<=sizeLine/\F aF H):
  ∃W:Nat->Nat->List V->ah->Prop,(∃m,W 0 m [] H)/\l0 cq (hW 0) tt bM (none::cs) W F:=by
 refine⟨λi m aF H=>m=n-i/\i<=n/\Pv i aF H,⟨n,by simp,zero_le _,h0⟩,?_⟩;rintro i m aF H ⟨rfl,au,p⟩;by_cases cF:i<n
 ·obtain⟨g1,g2⟩:=PR i aF H cF p;refine .inr ⟨g1,Pv (i+1),λiw H' h=>⟨n-(i+1),⋯,rfl,cF,h⟩,λy H' sX=>?_⟩;obtain⟨rfl,rfl⟩:=g2 y H' sX;exact⟨v3,aI i aF _ cF p⟩
 ·have e:i=n:=⋯
  subst e;obtain⟨aa,ag⟩:=hd aF H p;exact .inl ⟨PT aF H p,aa,ag⟩
theorem cxK {E:bL}:(g6 c8 P w K mg base N qual scope f cd A outer s H E).K=K:=rfl
theorem cxA {E:bL}:(g6 c8 P w K mg base N qual scope f cd A outer s H E).A=A.deeper (envOfC qual scope ↑s f cd):=rfl
theorem zya:(fV X scope cl N C ex bS c5).K=X.K:=rfl
theorem PU:(fV X scope cl N C ex bS c5).A=X.A:=rfl
def dw (c:Nat):V:=.str ⟨#[c]⟩
def v5 (x:Str):gZ:=⟨λi _=>i<x.cps.size,λi H v H'=>H'=H/\∃c,x.cps[i]?∣c/\v=dw c,λi _=>x.cps.size<=i⟩
theorem PV (it:Addr) (x:Str) (t:Tok){ty:String}(lY:ty="str_ascii_iterator"\/ty="str_iterator"):Turn P w K cS (v5 x) [it] it (λi h=>h.IsStrIter it ty x t i) where
 mem:=by simp
 obj:=λi h st b ae=>by
  have e:b=it:=by simpa using ae
  subst e;obtain⟨o,e,c,d⟩:=st;exact⟨o,e,λv z=>by rw[d]at z;cases z⟩
 keep:=λi h h' st k=>let⟨o,e,r⟩:=st;⟨o,k it (by simp) o e,r⟩
 item:=by
  intro X df hw c9 ak i pins s J H E I hf st bD;subst df hw c9;have au:i<x.cps.size:=bD
  obtain⟨f0,f1,f2,eB,f4,eC⟩:=hf it (by simp);have aq:x.cps[i]?=some x.cps[i]:=by simp[au]
  have fin:∀h',h'.IsStrIter it ty x t (i+1)->Heap.SameBut it s.heap h'->∃u,some (Value.str ⟨#[x.cps[i]]⟩ s.toks)∣u/\
    wpAny (model X.prog X.w) X.A (letOwnedTupleGo cS (.ref it) u) (λ_ s2=>∃y H',Inv X pins J H' s2/\RelV y u/\(v5 x).gy i H y H'/\s2.heap.IsStrIter it ty x t (i+1)/\∀b∈[it],H' b=none) E { s with heap:=h',toks:=s.toks+1 }:=λh' fu jL=>by
   have aO:Inv X pins J H { s with heap:=h',toks:=s.toks+1 }:=I.turned (λb o ae e=>(jL.2 b ae).trans e) f0 f1 eB f4 eC
   obtain⟨o,e,c,d⟩:=id fu;refine⟨_,rfl,qY (s:={ s with heap:=h',toks:=s.toks+1 }) e c d ?_ ⟨dw x.cps[i],H,aO,⟨_,rfl⟩,⟨rfl,_,aq,rfl⟩,fu,λb ae=>(hf b ae).1⟩⟩;rcases lY with z|z<;>(subst z;decide)
  rcases lY with z|z
  ·subst z;exact wpAny_pyNext_ascii_item st aq fin
  ·subst z;exact wpAny_pyNext_wide_item st aq fin
 done:=by
  intro X df hw c9 ak i pins s J H E I hf st bD;subst df hw c9;have au:x.cps.size<=i:=bD
  obtain⟨f0,f1,f2,eB,f4,eC⟩:=hf it (by simp);have aq:x.cps[i]?=none:=by simp[au]
  have fin:∀h',Heap.ExtBut it s.heap h'->(none:Option Value)=none/\Inv X pins J H { s with heap:=h' }:=λh' eb=>⟨rfl,I.turned (t':=s.toks) (λb o ae e=>eb b o ae e) f0 f1 eB f4 eC⟩
  rcases lY with z|z
  ·subst z;exact Dp (.inl rfl) (I.calm ak) st aq fin
  ·subst z;exact Dp (.inr rfl) (I.calm ak) st aq fin
 self:=λ_ _ _ _ _ st h=>by
  rcases lY with z|z
  ·subst z;exact wpAny_pyIter_striter_ascii st h
  ·subst z;exact wpAny_pyIter_striter_wide st h
def zxf (cX:TE):TI:=λJ H R=>cX J H λv H1=>∃x,v=.str x/\R (v5 x) H1
theorem E3 {l:Expr}(aD:PE X l cX):PI X cS l (zxf cX):=by
 intro pins s J H R I h;refine bz (aD pins s J H _ I h) λv s1 ⟨y,H1,aO,bX,a8⟩=>?_;obtain⟨x,e,q⟩:=a8;subst e;obtain⟨t,rfl⟩:=bX;have fin:∀ty,(ty="str_ascii_iterator"\/ty="str_iterator")->yw X pins J cS R (.ref ↑s1) { s1 with heap:=s1.heap.push { cls:=.type ty,data:=.fields #[.str x t,.int 0 0] } }:=λty lY=>by
  refine⟨↑s1,[↑s1],_,_,H1,rfl,aO.kept (t':=s1.toks) λb o e=>get?_push_of_some _ e,PV _ x t lY,⟨_,get?_push_size _ rfl,rfl,rfl⟩,λb ae=>?_,q⟩;have e:b=↑s1:=by simpa using ae
  subst e;exact aO.mH (wa8 _) (aO.a6.fresh (wa8 _))
 cases aN:x.cps.all (· < 128)
 ·exact wpAny_pyIter_wide aN (fin _ (.inr rfl))
 ·exact wpAny_pyIter_ascii aN (fin _ (.inl rfl))
theorem E4:pM (v5 x) H (x.cps.toList.map dw):=
 ⟨λi au=>(show i<x.cps.size by simpa using au),λi v H' au y=>⟨y.1,by
  obtain⟨c,ar,aw⟩:=y.2;rw[aw,getElem?_map,Array.getElem?_toList,ar];rfl⟩,by show x.cps.size<=_;simp⟩
section
variable {X:Cx}
theorem E5:d7 X (compareOp .In) (λx y H Q=>∃c j,x=dw c/\y=.str j/\Q (.bl (decide (c∈j.cps.toList))) H):=by
 intro pins s J H x y v u Q I bf bp h;obtain⟨c,j,rfl,rfl,q⟩:=h;refine NK pins s J H _ _ v u Q I bf bp ⟨_,j,rfl,rfl,?_⟩;rwa[PySem.StrLaws.found_one]
theorem all_range (bs:List Bool):(range bs.length).all (λi=>bs.getD i false)=bs.all id:=by
 rw[Bool.eq_iff_iff,all_eq_true,all_eq_true];constructor
 ·intro h b ae;obtain⟨i,au,e⟩:=List.mem_iff_getElem.mp ae;have q:=h i (mem_range.mpr au)
  simpa [getD,au,e] using q
 ·intro h i au;have jR:=mem_range.mp au
  have q:=h bs[i] (List.getElem_mem jR)
  simpa [getD,jR] using q
theorem E6:g4 X (.builtin "all") (λxs H Q=>∃(a:Addr)(bs:List Bool),xs=[.ref a]/\X.A.handled=none/\aK X.K H a (bs.map V.bl)/\Q (.bl (bs.all id)) H):=by
 intro pins s J H xs us Q I r h;obtain⟨a,bs,rfl,bN,ao,q⟩:=h;obtain⟨u,rfl,gh⟩:=vals1 r;cases gh;obtain⟨aU,cf,p,hz⟩:=I.list ao;have aD:=cf.length
 rw[length_map]at aD;obtain⟨o,aA,_⟩:=id p.isList;have cF:=lt_size aA
 refine call_all_walk (wpAny_pyIter_list p.isList ?_);refine⟨↑s,_,_,_,_,_,λi=>bs.getD i false,rfl,Walks.list (A:=X.A.in1) bN ↑s a (ne_of_lt cF) aU.toArray,⟨⟨_,get?_push_size _ rfl,rfl,rfl⟩,p.isList.at λo e=>get?_push_of_some _ e⟩,?_,λh' tk aj=>?_⟩
 ·intro i v s' iQ aeg aJ ec;have aJ:aU.toArray[i]?∣v:=aJ
  have au:aU[i]?∣v:=by simpa using aJ
  have E7:i<bs.length:=by rw[aD];exact(wa4.mp au).1
  obtain⟨u,bZ,gh⟩:=cf.get (i:=i) (x:=V.bl bs[i]) (by simp[E7]);rw[au]at bZ;cases bZ;cases gh;refine wpAny_truthy_bool ?_;have e:bs.getD i false=bs[i]:=by simp[getD,E7]
  rwa[<- e]
 ·rw[size_toArray,<- aD,all_range];refine⟨.bl (bs.all id),H,I.kept λb o e=>?_,rfl,q⟩;exact aj b o (λz=>wa7 _ (by have:=lt_size e;rw[mem_singleton.mp z]at this;exact this)) (get?_push_of_some _ e)
end
theorem E8 (x y:Str):(x++y).cps.toList=x.cps.toList++y.cps.toList:=by
 show(x.cps++y.cps).toList=_
 simp
theorem v7 {y:Str}(h:x.cps.toList=y.cps.toList):x=y:=by
 obtain⟨a⟩:=x;obtain⟨b⟩:=y;congr 1
 exact Array.toList_inj.mp h
theorem E9 (x:Str):x.cps.toList.length=x.length:=by simp[Str.length]
mutual
inductive Den (K:Frag)(H:ah):V->PyData->Prop
 | bx:Den K H .bx .none
 | bl (b:Bool):Den K H (.bl b) (.bool b)
 | int (i:Int):Den K H (.int i) (.int i)
 | str (x:Str):Den K H (.str x) (.str x)
 | lst {a:Addr}{xs:List V}{ds:List PyData}:aK K H a xs->kh K H xs ds->Den K H (.ref a) (.list ds)
 | tup {a:Addr}{xs:List V}{ds:List PyData}:bT K H a xs->kh K H xs ds->Den K H (.ref a) (.tuple ds)
inductive kh (K:Frag)(H:ah):List V->List PyData->Prop
 | nil:kh K H [] []
 | cons {x:V}{xs:List V}{d:PyData}{ds:List PyData}:Den K H x d->kh K H xs ds->kh K H (x::xs) (d::ds)
end
section
variable {X:Cx}{pins:List (Addr×Obj)}{J:St}{H:ah}{s:Shared}
theorem kh.reads (I:Inv X pins J H s){xs:List V}{ds:List PyData}(h:kh X.K H xs ds) (r:Vals xs us):∃as,ReadsAll s.heap us ds as:=by
 refine kh.rec (motive_1:=λx d _=>∀u,RelV x u->∃as,Reads s.heap u d as) (motive_2:=λxs ds _=>∀us,Vals xs us->∃as,ReadsAll s.heap us ds as) ?_ ?_ ?_ ?_ ?_ ?_ ?_ ?_ h us r
 ·intro u r;cases r;exact⟨_,Reads.none⟩
 ·intro b u r;cases r;exact⟨_,Reads.bool b⟩
 ·intro i u r;obtain⟨t,rfl⟩:=r;exact⟨_,Reads.int i t⟩
 ·intro x u r;obtain⟨t,rfl⟩:=r;exact⟨_,Reads.str x t⟩
 ·intro a xs ds h aI bE u r;cases r;obtain⟨aU,cf,p,hz⟩:=I.list h;obtain⟨as,q⟩:=bE _ cf;obtain⟨o,aA,ak,n,hd⟩:=p.isList;exact⟨_,reads_list_at aA ak hd (by simpa using q)⟩
 ·intro a xs ds h aI bE u r;cases r;obtain⟨aU,cf,p,hz⟩:=I.tuple h;obtain⟨as,q⟩:=bE _ cf;obtain⟨o,aA,ak,n,hd⟩:=(show s.heap.IsTuple _ _ from p);exact⟨_,reads_tuple_at aA ak hd (by simpa using q)⟩
 ·intro us r;cases r;exact⟨_,ReadsAll.nil⟩
 ·intro x xs d ds h aI iX vz us r;cases r with
  | cons r iR=>
   obtain⟨as,q⟩:=iX _ r;obtain⟨bs,p⟩:=vz _ iR;exact⟨_,ReadsAll.cons q p⟩
theorem Den.reads (I:Inv X pins J H s){x:V}{d:PyData}(h:Den X.K H x d) (r:RelV x u):∃as,Reads s.heap u d as:=by
 obtain⟨as,q⟩:=kh.reads I (.cons h .nil) (.cons r .nil);cases q with
 | cons q _=>exact⟨_,q⟩
def zwi (K:Frag)(neg:Bool):fT:=λx y H Q=>∃d e,Den K H x d/\Den K H y e/\SeqAt.shaped d=true/\SeqAt.shaped e=true/\Q (.bl (if neg then !PyData.eqv d e else PyData.eqv d e)) H
theorem v8 (bZ:X.A.units+64<cLine):d7 X (compareOp .Eq) (zwi X.K false):=by
 intro pins s J H x y v u Q I bf bp h;obtain⟨d,e,hd,he,sY,zq,q⟩:=h;obtain⟨as,ki⟩:=hd.reads I bf;obtain⟨bs,kT⟩:=he.reads I bp;exact eq_dataH ki kT sY zq bZ (ej I q rfl)
theorem pO (bZ:X.A.units+64<cLine):d7 X (compareOp .NotEq) (zwi X.K true):=by
 intro pins s J H x y v u Q I bf bp h;obtain⟨d,e,hd,he,sY,zq,q⟩:=h;obtain⟨as,ki⟩:=hd.reads I bf;obtain⟨bs,kT⟩:=he.reads I bp;exact ne_dataH ki kT sY zq bZ (ej I q rfl)
end
theorem zw {K:Frag}{H:ah}:∀ns:List Int,kh K H (ns.map V.int) (ns.map PyData.int)
 | []=>.nil
 | n::r=>.cons (.int n) (zw r)
section
variable {X:Cx}
theorem mU:g4 X (.builtin "isinstance") (λxs H Q=>∃x n t b,xs=[x,.ty n]/\gN X.K H x t/\kitOne X.K t (.type n)∣b/\Q (.bl b) H):=by
 intro pins s J H xs us Q I r h;obtain⟨x,n,t,b,rfl,ty,e,q⟩:=h;obtain⟨u,v,rfl,gh,cf⟩:=vals2 r;cases cf;exact D0 I gh ty e λtk=>⟨.bl b,H,I.tok _,rfl,q⟩
end
namespace RevF
theorem PW:typeLookup (.type "list_reverseiterator") "__len__"=pure none:=by
 rw[typeLookup_type,builtinLookup_eq_fast];kernel_rfl
theorem PX:typeLookup (.type "list_reverseiterator") "__length_hint__"=pure (some (.builtin "list_reverseiterator.__length_hint__")):=by
 rw[typeLookup_type,builtinLookup_eq_fast];kernel_rfl
end RevF
theorem PY {I l:Addr}{Q:List Value->Shared->Prop}(bN:A.handled=none)
  (hit:s.heap.IsRevIter I l ((items.size:Int)-1)) (aD:s.heap.IsList l items) (jT:l≠I) (hn:items.size<=sizeLine)
  (ec:∀s' acc,Moved [I] (λa b=>b=a) s s'->ItemsOf (λi v=>items[items.size-1-i]?∣v) acc items.size->Q acc.toList s'):wpAny (model prog w) A (collect (.ref I)) Q E s:=by
 obtain⟨l3,PZ,aeh,aei⟩:=id hit;obtain⟨ol,kF,eD,nl,nO⟩:=id aD;have Fb:=lt_size PZ
 have Fc:=lt_size kF
 have Fd:↑s ∉ [I,l]:=λhm=>by
  rcases mem_cons.mp hm with z|z
  ·exact wa7 _ (by rw[<- z]at Fb;exact Fb)
  ·exact wa7 _ (by rw[<- mem_singleton.mp z]at Fc;exact Fc)
 have og:↑s≠I:=λz=>Fd (by rw[z];exact mem_cons_self)
 have W:=(Walks.listRev (prog:=prog) (w:=w) (A:=A.in1) bN I l jT items).toS
 unfold collect;refine ax (wpAny_runValue (codeAny_builtin F.entry_proto_collect ?_));rw[Around.under_plainId F.plain_proto_collect _];show wpAny _ A.in1 (newList []>>=λm=>again (.builtin "list.__iadd__" ⟨[m,.ref I],[]⟩)) _ _ s
 refine ax (wpAny_newObj_type (bw ⟨plainId_quiet F.plain_list_iadd _,codeAny_builtin F.entry_list_iadd ?_⟩));rw[Around.under_plainId F.plain_list_iadd _];have up:∀b o,s.heap.get? b∣o->(s.heap.push { cls:=.type "list",data:=.seq ([]:List Value).toArray }).get? b∣o:=λb o e=>get?_push_of_some _ e
 have new:(s.heap.push { cls:=.type "list",data:=.seq ([]:List Value).toArray }).get? ↑s=some { cls:=.type "list",data:=.seq ([]:List Value).toArray }:=get?_push_size _ rfl
 have zz:(s.heap.push { cls:=.type "list",data:=.seq ([]:List Value).toArray }).IsRevIter I l ((items.size:Int)-1):=hit.at λo e=>up _ o e
 have e2:(s.heap.push { cls:=.type "list",data:=.seq ([]:List Value).toArray }).IsList l items:=aD.at λo e=>up _ o e
 have P0:Builtin.List.listSameRef (.ref ↑s) (.ref I)=false:=by simp[Builtin.List.listSameRef,og]
 show wpAny _ A.in1 (Builtin.List.listExtendWith (.ref ↑s) (.ref I) (.ref ↑s)) _ _ _
 unfold Builtin.List.listExtendWith;have ty:({ s with heap:=s.heap.push { cls:=.type "list",data:=.seq ([]:List Value).toArray } }:Shared).TypeIs (.ref I) "list_reverseiterator":=zz.typeIs
 refine ax (wpAny_typeOf ty ?_);rw[aB (by rw[P0];decide)];refine ax (wpAny_pyIter_revIter zz ?_);refine ax (wpAny_holding ?_);unfold Builtin.List.listLengthHint;refine ax (wpAny_specialOf ty RevF.PW ?_);show wpAny _ A.in1 (specialOf (Value.ref I) (!"__length_hint__")>>=_) _ _ _
 refine ax (wpAny_specialOf ty RevF.PX ?_);have fI:splitId "list_reverseiterator.__length_hint__"∣("list_reverseiterator","__length_hint__"):=∅
 generalize P1:("list_reverseiterator.__length_hint__":String)=hint at fI ⊢
 dsimp only
 simp only[fI];refine ax (wpAny_isInstance (b:=true) ty (by rw[isSubtype_type];kernel_rfl) ?_);subst P1;refine bw ?_;rw[aB ∅];have hst:0<=items.size/\(s.heap.push { cls:=.type "list",data:=.seq ([]:List Value).toArray }).IsRevIter I l ((items.size:Int)-1-((0:Nat):Int))/\(s.heap.push { cls:=.type "list",data:=.seq ([]:List Value).toArray }).IsList l items:=
  ⟨zero_le _,by simpa using zz,e2⟩
 refine bw ⟨plainId_quiet F.plain_extend_loop _,codeAny_extend_loopS W hn _ Fd _ items.size 0 _ _ _ rfl (zero_le _) hst new (ItemsOf.nil _) λs' acc c hm i5 kU=>?_⟩;show wpAny _ A (load ↑s>>=_) _ _ s'
 refine ax (wpAny_load i5 (bw (ec s' acc ?_ kU)));exact Moved.drop_new (o:={ cls:=.type "list",data:=.seq ([]:List Value).toArray }) (tk:=s.toks) hm (wa8 _)
theorem P2 {P:Nat->Value->Prop}{acc:Array Value}(h:ItemsOf P acc n):acc.size=n/\∀j v,acc[j]?∣v->P j v:=h
section
variable {X:Cx}
end
end L2
namespace L2
open PySem PySem.Spec PyProof.Rows
section
variable {X:Cx}
end
theorem P4 {sc:Scope}(h:qR sc x) (e:autoParam (X.env.scope=sc) dA._auto_1):qR X.env.scope x:=e ▸ h
theorem fN {sc:Scope}(h:sc.names.lookup x=some .globalImplicit) (e:autoParam (X.env.scope=sc) dA._auto_1):ft X x:=by
 show X.env.scope.names.lookup x=_
 rwa[e]
theorem zA {sc:Scope}(h:sc.names.lookup x=some .local\/sc.names.lookup x=some .cell) (e:autoParam (X.env.scope=sc) dA._auto_1):Loc X.env.scope x:=e ▸ h
def gO (e:Expr):Bool:=Expr.casesOn (motive_1:=λ_=>Bool) e (λ_ _ _=>true) (λ_ _ _=>true) (λ_ _ _ _=>true) (λ_ _ _=>true) (λ_ _ _ _=>true) (λ_ _ _ _=>true) (λ_ _ _=>true) (λ_ _ _=>true) (λ_ _ _ _=>true) (λ_ _ _ _=>true) (λ_ _ _ _ _=>true) (λ_ _ _ _=>true) (λ_ _=>true) (λ_ _=>true) (λ_ _=>true) (λ_ _ _ _=>true) (λ_ _ _ _=>true) (λ_ _ _ _=>true) (λ_ _=>true) (λ_ _ _=>true) (λ_ _ _=>true) (λ_ _ _=>true) (λ_ _=>false) (λ_ _=>true) (λ_ _=>true) (λ_ _ _=>true) (λ_ _ _ _=>true)
def plainAll:List Expr->Bool
 | []=>true
 | e::r=>gO e&&plainAll r
theorem fl (h:gO e=true):starEach (e::es) env=(false,eval e env)::starEach es env:=by
 cases e<;>first|rfl|cases h
theorem dI (h:gO e=true):starEach [e] env=[(false,eval e env)]:=by
 rw[fl h];rfl
theorem iU {d:Expr}(h:gO e=true) (ag:gO d=true):starEach [e,d] env=[(false,eval e env),(false,eval d env)]:=by
 rw[fl h,dI ag]
theorem fW {env:Env}{pos:Pos}:∀{es:List Expr},plainAll es=true->(backTo pos (starEach es env)).any (·.1)=false
 | [],_=>rfl
 | e::r,h=>by
  have h':(gO e&&plainAll r)=true:=h
  rw[and_eq_true]at h';rw[fl h'.1];show(false||(backTo pos (starEach r env)).any (·.1))=false
  rw[fW h'.2];rfl
end L2
namespace HT
open PySem PyProof.Rows
section
variable {prog:Program}{w:World}{A:Around}{E:wvP}{s:Shared}
end
end HT
variable {D:L2.Ends}{bj:L2.cV}{cs:List Int}{loose:List PySem.Str}{rg:(PySem.Str->Option PySem.Value)->PySem.Heap->Prop}{oh:PySem.World->PySem.Heap->Prop}
namespace L2
open PySem PySem.Spec PyProof.Rows
section
variable {X:Cx}
theorem v9:d7 X (binaryOp .Mult) (rI IntMulOk λi j=>.int (i*j)):=vu λ_ _ _ _ _ _ _ ak q=>mul_int q ak
end
def kV (i:Int):Prop:=Builtin.Int.intBits i<=2^20
theorem P5:kV 0:=by unfold kV;decide +kernel
theorem Fe:∀{ns:List Int}{m:Nat},PySem.W.WData.weightAll (ns.map PySem.W.WData.int)<=m->∀i∈ns,Builtin.Int.intBits i<=m
 | [],_,_,i,h=>br h (by simp)
 | n::r,m,hw,i,h=>by
  have hw:Builtin.Int.intBits n+1+PySem.W.WData.weightAll (r.map PySem.W.WData.int)<=m:=hw
  rcases mem_cons.mp h with e|e
  ·rw[e];omega
  ·exact Fe ⋯ i e
theorem P6 {l:OpenLaw}{q:Program}{d:DefRec}
  (hn:l.most∣n) (sZ:d.params.defaults=[])
  (call:∀(w:World)(bS d6:Shared)(mg iP:Str->Option Value)(fa:Addr)(o:Obj)(pm cd doc:Value)(a:Addr)(vs:List Value)(ns:List Int),
   PySem.W.Ground q loose [] rg w bS mg iP d6.heap->oh w d6.heap->
   d6.heap.get? fa∣o->o.data=.func (Calls.docDef d.name d.params d.body d.scope pm cd doc)->d6.heap.CodeRec cd d.name->mg d.name∣.ref fa->
   d6.heap.get? a=some { cls:=.type "list",data:=.seq vs.toArray }->IntsAre vs ns->ns.length<=n->(∀i∈ns,kV i)->d6.gens=#[]->
   codeAny (model l.prog w) callerA (.call (.ref fa) ⟨[.ref a],[]⟩) (λr s'=>r=.ok (.ret (.bool true))/\OldK d6.heap s'.heap/\s'.os=d6.os/\AllBare s'.gens) d6):
  WalkO q loose rg oh l.row.toRowW d [] (λf vs=>PySem.call f vs):=by
 intro w bS d6 mg iP G Y fa o pm cd doc kb bq aA hd eL e1 hmg bD args vals as vL P7 aej yX aek;obtain rfl:kb=.none:=PySem.W.Dflts.none e1 sZ;obtain rfl:bq=.none:=PySem.W.Dflts.noKw e1;obtain⟨a,vs,ns,rfl,rfl,zB,hints,hlen⟩:=Att.OU hn vL yX;have ae:∀i∈ns,kV i:=by
  have aa:(PySem.W.WData.layable (.list (ns.map PySem.W.WData.int))&&true)=true:=P7
  rw[Bool.and_true]at aa;have ag:(PySem.W.WData.canLay (.list (ns.map PySem.W.WData.int))&&decide (PySem.W.WData.depth (.list (ns.map PySem.W.WData.int))<=64)&&decide (PySem.W.WData.weight (.list (ns.map PySem.W.WData.int))<=2^20))=true:=aa
  rw[and_eq_true]at ag;exact Fe (of_decide_eq_true ag.2)
 refine PySem.W.enter_call (codeAny_mono (call w bS d6 mg iP fa o pm cd doc a vs ns G Y aA (PySem.W.fd_plain hd) eL hmg zB hints hlen ae bD) λr s' ao=>?_);obtain⟨rfl,ag,aR,b4⟩:=ao;exact⟨.inl ⟨.bool true,.bool true,[],rfl,λ_=>rfl,.bool true,Att.OW l _,λ_=>⟨List.Pairwise.nil,λ_ hm=>(nomatch hm)⟩⟩,ag,aR,b4⟩
def P8 (cq:gZ)(g:fi)(bj:cV)(D:Ends)(J:St)(H1:ah):Prop:=∃W:Nat->Nat->St->ah->Prop,(∃m,W 0 m J H1)/\∀i m J H,W i m J H->
 (cq.stop i H/\D.aP J H)\/(cq.go i H/\∃N:St->ah->Prop,(∀a7 H',N a7 H'->∃ba,ba<m/\W (i+1) ba a7 H')/\∀x H',cq.gy i H x H'->g x J H' λdu aE=>bj { D with aP:=N,bW:=N,b3:=D.aP } du aE)
theorem P9 {g:fi}:DL gz g bj D J H=gz J H λcq H1=>P8 cq g bj D J H1:=rfl
theorem bb {o:a3}(h:H p=none):aQ H (upd H p o):=λb u e=>by rwa[zf (cg e h)]
theorem kW {H1:ah}{o:a3}(h:aQ H H1) (aG:H p=none):aQ H (upd H1 p o):=λb u e=>by rw[zf (cg e aG)];exact h b u e
theorem zC {i:Int}(h0:0<=i) (aa:i<cs.length):dH (cs.map V.int) i=↥(cs.getD i.toNat 0):=by
 obtain⟨j,rfl⟩:=eq_ofNat_of_zero_le h0;have aZ:j<cs.length:=⋯
 refine gk ?_;simp[aZ]
theorem getD_in (h:j<cs.length):cs.getD j 0∈cs:=by
 simp[getD,h]
theorem Qa {d:Nat}{i:Int}(h0:0<=i) (aa:i<=n):HT.gA n d (some i)=i.toNat:=by
 show(if i<0 then(i+(n:Int)).toNat else min i.toNat n)=_
 rw[aB ⋯];omega
theorem Qb {d:Nat}{i:Int}(h0:(n:Int)<=i):HT.gA n d (some i)=n:=by
 show(if i<0 then(i+(n:Int)).toNat else min i.toNat n)=_
 rw[aB ⋯];omega
theorem Qc {i:Int}(h0:0<=i):jr (cs.map V.int) (some i) none=(cs.drop i.toNat).map V.int:=by
 unfold jr;rw[HT.Oz,length_map];by_cases aa:i<=cs.length
 ·rw[Qa h0 aa,<- List.map_drop];refine List.take_of_length_le ?_;rw[length_map,length_drop];exact wa8 _
 ·rw[Qb ⋯,<- List.map_drop,List.drop_of_length_le (wa8 _),List.drop_of_length_le ⋯];simp
theorem s6 (h:aK K H a (ns.map V.int)):Den K H (.ref a) (.list (ns.map PyData.int)):=.lst h (zw ns)
theorem s7 (h:bT K H a (ns.map V.int)):Den K H (.ref a) (.tuple (ns.map PyData.int)):=.tup h (zw ns)
theorem s8:∀ns:List Int,PyData.canLayAll0 (ns.map PyData.int)=true
 | []=>rfl
 | n::r=>by simp[PyData.canLayAll0,PyData.canLay0,s8 r]
theorem s9:∀ns:List Int,PyData.depthAll (ns.map PyData.int)=0
 | []=>rfl
 | n::r=>by simp[PyData.depthAll,PyData.depth,s9 r]
theorem shaped_ints (ns:List Int):SeqAt.shaped (.list (ns.map PyData.int))=true:=by
 simp[SeqAt.shaped,PyData.canLay0,PyData.depth,s8 ns,s9 ns]
theorem rh (ns:List Int):SeqAt.shaped (.tuple (ns.map PyData.int))=true:=by
 simp[SeqAt.shaped,PyData.canLay0,PyData.depth,s8 ns,s9 ns]
mutual
theorem l4:∀d:PyData,d.canLay0=true->PyData.eqv d d=true
 | .none,_=>rfl
 | .bool b,_=>by simp[PyData.eqv]
 | .int i,_=>by simp[PyData.eqv]
 | .str x,_=>by simp[PyData.eqv]
 | .list xs,h=>by
  have h':PyData.canLayAll0 xs=true:=h
  show PyData.eqvAll xs xs=true
  exact zD xs h'
 | .tuple xs,h=>by
  have h':PyData.canLayAll0 xs=true:=h
  show PyData.eqvAll xs xs=true
  exact zD xs h'
 | .dict _,h=>by cases h
theorem zD:∀ds:List PyData,PyData.canLayAll0 ds=true->PyData.eqvAll ds ds=true
 | [],_=>rfl
 | d::r,h=>by
  have h':(PyData.canLay0 d&&PyData.canLayAll0 r)=true:=h
  rw[and_eq_true]at h';show(PyData.eqv d d&&PyData.eqvAll r r)=true
  rw[l4 d h'.1,zD r h'.2];rfl
end
end L2
namespace HT
open PySem PyProof.Rows
section
variable {prog:Program}{w:World}{A:Around}{E:wvP}{s:Shared}
end
end HT
variable {xs:List L2.V}
namespace L2
open PySem PySem.Spec PyProof.Rows
section
variable {X:Cx}{pos:Pos}
end
theorem Qd:∀{aF:List Str}{us:List Value},Vals (aF.map V.str) us->StrsAre us aF:=by
 intro aF;induction aF with
 | nil=>intro us r;rw[map_nil]at r;cases r;exact .nil
 | cons n ns bE=>
  intro us r;rw[map_cons]at r;cases r with
  | cons bX cB=>
   obtain⟨t,e⟩:=bX;subst e;exact .cons n t (bE cB)
section
variable {X:Cx}
def rJoin (K:Frag):V->List V->ah->bo->Prop:=λx vs H Q=>∃(sep:Str)(a:Addr)(aF:List Str),x=.str sep/\vs=[.ref a]/\aK K H a (aF.map V.str)/\(aF.map (·.length)).sum+aF.length*sep.length<=16777216/\Q (.str (Txt.join sep aF)) H
theorem zE:vH X "str.join" (rJoin X.K):=by
 intro pins s J H x vs v us Q I bf cf h;obtain⟨sep,a,aF,rfl,rfl,ao,a6,q⟩:=h;obtain⟨t,rfl⟩:=bf;obtain⟨u,rfl,gh⟩:=cf.one;cases gh;obtain⟨aU,r,pl,hz⟩:=I.list ao;exact join_list pl.isList (Qd (by simpa using r)) a6 λt' k=>⟨.str (Txt.join sep aF),H,I.tok _,⟨t',rfl⟩,q⟩
end
section
variable {X:Cx}{K:Frag}
theorem Qe {f:Str}{bB:TE}(c9:X.K=K) (he:PE X e bB) (ae:attributeBase e f X.env (eval e X.env)=eval e X.env):PE X (.Attribute e f pos) (yF K bB f):=by
 subst c9;exact dN he ae
theorem Qf (c9:X.K=K):q4 X (zvd K):=by subst c9;exact zy
theorem wa (c9:X.K=K):q4 X (zur K):=by subst c9;exact dv
theorem Qg (c9:X.K=K)(bZ:X.A.units+64<cLine):d7 X (compareOp .NotEq) (zwi K true):=by subst c9;exact pO bZ
theorem Qh (c9:X.K=K):d7 X (compareOp .In) (rIn K false):=by subst c9;exact vJ
theorem Ff (c9:X.K=K):g4 X (.builtin "len") (λxs H Q=>∃p aF,xs=[.ref p]/\(aK K H p aF\/bT K H p aF)/\Q (.int aF.length) H):=by subst c9;exact zr
end
theorem Qi {cs:St}(Pv:Nat->List V->ah->Prop) (h0:Pv 0 [] H) (aD:∀i aF H,i<=xs.length->Pv i aF H->aK K H a xs)
  (aI:∀i x aF H,xs[i]?∣x->Pv i aF H->tt (some x::cs) H λb bP=>if b=true then bM (some x::cs) bP λy ck=>aF.length<=sizeLine/\Pv (i+1) (aF++[y]) ck else Pv (i+1) aF bP)
  (hd:∀aF H,Pv xs.length aF H->aF.length<=sizeLine/\F aF H):
  ∃W:Nat->Nat->List V->ah->Prop,(∃m,W 0 m [] H)/\l0 (kM K a) (hW 0) tt bM (none::cs) W F:=by
 refine⟨λi m aF H'=>m=xs.length-i/\i<=xs.length/\Pv i aF H',⟨xs.length,by simp,zero_le _,h0⟩,?_⟩;rintro i m aF H' ⟨rfl,au,p⟩;have q:=aD i aF H' au p
 have S:=src_list q
 by_cases cF:i<xs.length
 ·refine .inr ⟨S.go i cF,λiw cO=>Pv (i+1) iw cO,λiw cO gj=>⟨xs.length-(i+1),⋯,rfl,cF,gj⟩,λx cO y=>?_⟩;obtain⟨ar,aw⟩:=S.gy i x cO cF y;subst ar;refine⟨⟨rfl,λj v aZ=>?_⟩,?_⟩
  ·cases j with
   | zero=>cases aZ
   | succ j=>exact aZ
  ·exact aI i x aF cO aw p
 ·have e:i=xs.length:=⋯
  subst e;exact .inl ⟨S.stop,hd aF H' p⟩
theorem Qj {z:Int}{xs:List Int}:kc (V.int z) (xs.map V.int)=decide (z∈xs):=by
 unfold kc;rw[Bool.eq_iff_iff,any_eq_true,decide_eq_true_eq];constructor
 ·rintro⟨y,bg,e⟩;obtain⟨x,aq,rfl⟩:=mem_map.mp bg;have:(x==z)=true:=e
  rwa[<- eq_of_beq this]
 ·intro h;exact⟨V.int z,mem_map.mpr ⟨z,h,rfl⟩,by show(z==z)=true;simp⟩
end L2
variable {G:Prop}
namespace L2
open PySem PyProof.Rows PySem.Calls
theorem oqq (h:∀gE:Prop,(G->gE)->gE):G:=h G id
def Qk (B:Heap)(e:Addr)(cls:Value)(av:Option Addr)(bJ:Value)(h:Heap):Prop:=
 ∃(vs:Array Value)(aL:Array (Option Value))(T:Addr)(i6:Obj)(ts:Array Value),h.get? e∣⟨cls,av,.fields vs,aL⟩/\vs[2]?∣Value.none/\vs[1]?∣.ref T/\B.get? T=none/\T≠e/\h.get? T∣i6/\i6.data=.fields ts/\ts[3]?∣bJ
structure iy (B:Heap)(l:List Env)(e:Addr)(cls:Value)(av:Option Addr)(bJ:Value)(h:Heap):Prop where
 st:B.StaysIn h
 new:B.get? e=none
 fr:h.FunFrames B l
 at_:Qk B e cls av bJ h
section
variable {M:Model}{A:Around}{E:wvP}{s:Shared}{B:Heap}{env:Env}{outer l:List Env}{L e:Addr}{cls:Value}{av:Option Addr}{Q:Unit->Shared->Prop}
theorem Fg {head:Value}{Ql:Bool}(jQ:A.frames∣(env::outer)) (hf:env.frame∣L) (st:B.StaysIn s.heap) (hn:B.get? e=none) (fr:s.heap.FunFrames B (env::outer))
  (he:s.heap.get? e∣⟨cls,av,.fields vs,aL⟩) (ag:vs[2]?∣Value.none) (k:∀h',iy B (env::outer) e cls av (rawInt L) h'->s.heap.UpToSlots h'->Q () { s with heap:=h' }):
  wpAny M A (frameOf env>>=λa=>entryPlaceOf L Ql>>=λpl=>EntryCells.newEntry head a .none (rawInt L) .none pl>>=λb=>setField (.ref e) 1 b) Q E s:=by
 have Fh:2<vs.size:=(Array.getElem?_eq_some_iff.mp ag).1
 have Qm:e ∉ (env::outer).filterMap (·.frame):=λhm=>by
  obtain⟨_,o,aA,Qn⟩:=fr.mem hm;rw[he]at aA;cases aA;exact Qn vs rfl
 refine ax (wpAny_frameOf_fun jQ fr hf λfC aI=>?_);refine ax (wpAny_entryPlaceOf λpl hpl=>?_);unfold EntryCells.newEntry newFields;refine ax (wpAny_newObj_type ?_ (hpl.sizeOk5 _ _ _ _ _));have ar:fC.get? e∣⟨cls,av,.fields vs,aL⟩:=(aI.2.1 e Qm).trans he
 have dI:B.StaysIn fC:=λb o q=>(aI.2.1 b λhm=>by rw[(fr.mem hm).1]at q;cases q).trans (st b o q)
 refine wpAny_setField (get?_push_of_some _ ar) rfl (Nat.lt_trans ∅ Fh) (k _ ?_ ?_);all_goals have ne:fC.objs.size≠e:=ne_of_gt (lt_size ar)
 ·refine⟨λb o q=>?_,hn,fr.of_keeps λb o q b5=>?_,⟨vs.setIfInBounds 1 (.ref fC.objs.size),aL,fC.objs.size,_,_,?_,?_,?_,dI.fresh,ne,(get?_update_other _ _ (Ne.symm ne)).trans (get?_push_size fC rfl),rfl,?_⟩⟩
  ·rw[get?_update_other _ _ (λz=>by rw[<- z,hn]at q;cases q)];exact get?_push_of_some _ (dI b o q)
  ·obtain⟨mF,ae⟩:=aI.2.2 b o q;refine⟨{ o with slots:=mF },?_,rfl⟩;rw[get?_update_other _ _ (λz=>by rw[<- z,he]at q;cases q;exact b5 vs rfl)];exact get?_push_of_some _ ae
  ·exact get?_update_self _ (get?_push_of_some _ ar) rfl
  ·rwa[Array.getElem?_setIfInBounds_ne ∅]
  ·simp[Nat.lt_trans (show 1<2 by decide) Fh]
  ·first|(simp;done)|(rcases hpl with rfl|⟨_,_,_,_,_,_,_,rfl⟩<;>simp)
 ·intro b o q b5;obtain⟨mF,ae⟩:=aI.2.2 b o q;refine⟨mF,?_⟩;rw[get?_update_other _ _ (λz=>by rw[<- z,he]at q;cases q;exact b5 vs rfl)];exact get?_push_of_some _ ae
theorem Qo  (jQ:A.frames∣(env::outer)) (hf:env.frame∣L) (st:B.StaysIn s.heap) (hn:B.get? e=none) (fr:s.heap.FunFrames B (env::outer))
  (he:s.heap.get? e∣⟨cls,av,.fields vs,aL⟩) (ag:vs[2]?∣Value.none) (aa:vs[1]?∣Value.none) (k:∀h',iy B (env::outer) e cls av (rawInt L) h'->s.heap.UpToSlots h'->Q () { s with heap:=h' }):
  wpAny M A (noteFrame (.ref e) env) Q E s:=by
 unfold noteFrame;simp only[hf];refine ax (wpAny_field he rfl aa ?_);rw[aB ∅];exact Fg jQ hf st hn fr he ag k
theorem Fi (jQ:A.frames∣(env::outer))(hf:env.frame∣L)(f:iy B (env::outer) e cls av .none s.heap)(k:∀h',iy B (env::outer) e cls av (rawInt L) h'->s.heap.UpToSlots h'->Q () { s with heap:=h' }):
  wpAny M A (noteFrame (.ref e) env) Q E s:=by
 obtain⟨st,hn,fr,vs,aL,T,i6,ts,he,ag,aa,jt,ne,cP,bc,t3⟩:=f;unfold noteFrame;simp only[hf];refine ax (wpAny_field he rfl aa ?_);rw[aM (by simp)];refine ax (wpAny_field cP bc t3 ?_);rw[aB (by simp[rawInt])];refine ax (wpAny_setField cP bc (Array.getElem?_eq_some_iff.mp t3).1 ?_);have other:∀b o,b≠T->s.heap.get? b∣o->(s.heap.update T (Obj.mapFields (·.setIfInBounds 3 Value.none))).get? b∣o:=λb o ae z=>by
  rwa[get?_update_other _ _ (Ne.symm ae)]
 have ta:∀b o,s.heap.get? b∣o->(∀ws,o.data≠.fields ws)->b≠T:=λb o q b5 z=>by
  rw[z,cP]at q;cases q;exact b5 ts bc
 refine Fg (s:={ s with heap:=_ }) jQ hf (λb o q=>other b o (λz=>by rw[z,jt]at q;cases q) (st b o q)) hn (fr.of_keeps λb o q b5=>⟨o,other b o (ta b o q b5) q,rfl⟩) (other e _ (Ne.symm ne) he) ag λh' hH u=>k h' hH λb o q b5=>?_;exact u b o (other b o (ta b o q b5) q) b5
theorem land {bJ:Value}(f:iy B l e cls av bJ s.heap) (k:∀h',iy B l e cls av .none h'->s.heap.UpToSlots h'->Q () { s with heap:=h' }):wpAny M A (setFlight (.ref e) none) Q E s:=by
 obtain⟨st,hn,fr,vs,aL,T,i6,ts,he,ag,aa,jt,ne,cP,bc,t3⟩:=f;unfold setFlight;refine ax (wpAny_field he rfl aa ?_);rw[aM (by simp)];have jk:=(Array.getElem?_eq_some_iff.mp t3).1
 have other:∀b o,b≠T->s.heap.get? b∣o->(s.heap.update T (Obj.mapFields (·.setIfInBounds 3 Value.none))).get? b∣o:=λb o ae z=>by
  rwa[get?_update_other _ _ (Ne.symm ae)]
 have ta:∀b o,s.heap.get? b∣o->(∀ws,o.data≠.fields ws)->b≠T:=λb o q b5 z=>by
  rw[z,cP]at q;cases q;exact b5 ts bc
 refine wpAny_setField cP bc jk (k _ ⟨λb o q=>other b o (λz=>by rw[z,jt]at q;cases q) (st b o q),hn,fr.of_keeps λb o q b5=>⟨o,other b o (ta b o q b5) q,rfl⟩,vs,aL,T,_,_,other e _ (Ne.symm ne) he,ag,aa,jt,ne,get?_update_self _ cP (Obj.isFreed_of_fields (Obj.data_mapFields bc _)),Obj.data_mapFields bc _,?_⟩ λb o q b5=>⟨o.slots,other b o (ta b o q b5) q⟩);simp[jk]
theorem iy.tail {bJ:Value}{h:Heap}(f:iy B (env::outer) e cls av bJ h):iy B outer e cls av bJ h:=⟨f.st,f.new,f.fr.2.2,f.at_⟩
theorem Fj  (jQ:A.frames∣(env::outer)) (hf:env.frame∣L) (st:B.StaysIn s.heap) (hn:B.get? e=none) (fr:s.heap.FunFrames B (env::outer))
  (he:s.heap.get? e∣⟨cls,av,.fields vs,aL⟩) (ag:vs[2]?∣Value.none) (aa:vs[1]?∣Value.none) (k:∀h',iy B outer e cls av .none h'->s.heap.UpToSlots h'->Q () { s with heap:=h' }):
  wpAny M A (leaving env (.ref e)) Q E s:=by
 unfold leaving;exact ax (Qo jQ hf st hn fr he ag aa λh' f u=>land f λag f2 kX=>k ag f2.tail (u.trans kX))
theorem Qp (jQ:A.frames∣(env::outer))(hf:env.frame∣L)(f:iy B (env::outer) e cls av .none s.heap)(k:∀h',iy B outer e cls av .none h'->s.heap.UpToSlots h'->Q () { s with heap:=h' }):
  wpAny M A (leaving env (.ref e)) Q E s:=by
 unfold leaving;exact ax (Fi jQ hf f λh' f u=>land f λag f2 kX=>k ag f2.tail (u.trans kX))
end
end L2
namespace L2
open PySem PySem.Spec PyProof.Rows
theorem de.some {h:Heap}{o:a3}(x:de P w H h a o):∃u,h.get? a∣u:=by
 cases o with
 | lst xs=>obtain⟨_,_,_,_,e⟩:=x;exact⟨_,e⟩
 | tup xs=>obtain⟨_,_,_,o,e,_⟩:=x;exact⟨_,e⟩
 | bO kvs=>obtain⟨_,_,_,_,o,_,_,e,_⟩:=x;exact⟨_,e⟩
 | bc kvs=>obtain⟨_,_,_,_,o,_,_,e,_⟩:=x;exact⟨_,e⟩
 | set S n=>obtain⟨o,_,_,_,e,_⟩:=x;exact⟨_,e⟩
 | ins C av aT=>obtain⟨_,_,_,e,_⟩:=x;exact⟨_,e⟩
 | own y=>exact x
 | nQ aT=>obtain⟨_,⟨_,_,_,e,_⟩,_⟩:=x;exact⟨_,e⟩
 | vc lo au=>obtain⟨_,_,_,e⟩:=x;exact⟨_,e⟩
 | cc ob u=>obtain⟨e,_⟩:=x;exact⟨_,e⟩
 | eY ps=>exact⟨_,x⟩
 | met f y=>exact⟨_,x⟩
 | ext mD=>obtain⟨_,e,_⟩:=x;exact e
structure zF (aT:List Addr)(H H':ah)(h B:Heap):Prop where
 keep:∀b o,h.get? b∣o->H b=none->b ∉ aT->B.get? b∣o
 free:∀b o,h.get? b∣o->H b=none->H' b=none
 there:∀b o,h.get? b∣o->b ∉ aT->∃bQ,B.get? b∣bQ
 cH:∀b xs,H b∣.tup xs->H' b∣.tup xs
 fE:∀b o u,H b∣.cc o u->H' b∣.cc o u
 hy:∀b ps,H b∣.eY ps->∃more,H' b∣.eY (ps++more)
theorem zF.un {aT:List Addr}{h B aR:Heap}(u:zF aT H H' h B) (st:B.StaysIn aR) (aL:∀b o,b∈aT->h.get? b∣o->∃aL,aR.get? b=some { o with slots:=aL }):fq aT [] H H' h aR where
 keep:=λb o e n ae _=>st _ _ (u.keep b o e n ae)
 slot:=λb o e n ae _=>aL b o ae e
 free:=λb o e n _=>u.free b o e n
 there:=λb o e _=>by
  by_cases ae:b∈aT
  ·obtain⟨_,z⟩:=aL b o ae e;exact⟨_,z⟩
  ·obtain⟨bQ,z⟩:=u.there b o e ae;exact⟨bQ,st _ _ z⟩
 cH:=u.cH
 fE:=u.fE
 hy:=u.hy
def i7 (P:Program)(w:World):g5:=λouter H s E e s'=>
 ∃(a0:Addr)(cls:Value)(av:Option Addr)(H':ah)(B:Heap),e=.ref a0/\s'.os=s.os/\AllBare s'.gens/\iy B outer a0 cls av .none s'.heap/\dV P w H' B/\zF (d4 outer) H H' s.heap B/\
  (∀b o,b∈d4 outer->s.heap.get? b∣o->∃aL,s'.heap.get? b=some { o with slots:=aL })/\E cls av H'
abbrev jU:=St->bL
structure tb (X:Cx)(gq:jU):Prop where
 pass:∀(pins:List (Addr×Obj))(J:St)(H:ah)(s:Shared)(e:Value)(s':Shared),Inv X pins J H s->i7 X.prog X.w X.stack H s (gq J) e s'->X.cQ e s'
structure Fm (X:Cx)(gq:jU):Prop extends tb X gq where
 raise:∀(pins:List (Addr×Obj))(J:St)(H:ah)(s:Shared)(h':Heap)(e:Addr)(cls:Value)(args:List Value),Inv X pins J H s->Heap.MadeExcOf s.heap h' e cls args->gq J cls none H->X.cQ (.ref e) { s with heap:=h' }
def noW:jU:=λ_ _ _ _=>False
theorem Qq:tb X noW:=⟨λ_ _ _ _ _ _ _ h=>False.elim (by obtain⟨_,_,_,_,_,_,_,_,_,_,_,_,z⟩:=h;exact z)⟩
section
variable {P:Program}{w:World}{K:Frag}{mg:Str->Option Value}{base:Heap}{N:List Str}{qual:Str}{scope:Scope}{f:Addr}{cd:Value}{A:Around}{outer:List Env}{bS:Shared}{c5:ah}{E:bL}
theorem Fn {h:Heap}{l:List Addr}(ok:dV P w H h) (fr:∀b∈l,H b=none):dV P w H (hideAll h l):=λa o e=>
 (ok a o e).gX (λb u ae q=>hideAll_get _ q λz=>by
  have n:=fr b z
  rcases ae with rfl|ae
  ·rw[n]at e;cases e
  ·rw[n]at ae;cases ae) (λ_ q=>q) λ_ _ q=>q
theorem Fo:Fm (g6 (i7 P w) P w K mg base N qual scope f cd A outer bS c5 E) (λ_=>E) where
 raise:=λpins J H s h' e cls args I mk ix=>by
  have hst:(g6 (i7 P w) P w K mg base N qual scope f cd A outer bS c5 E).stack=envOfC qual scope ↑bS f cd::outer:=rfl
  have tc:=I.vf
  have oi:=I.stack
  rw[hst]at tc oi;obtain⟨t,he,_,_⟩:=mk.there;have hn:(hideAll s.heap (d4 (envOfC qual scope ↑bS f cd::outer))).get? e=none:=by
   cases q:(hideAll s.heap (d4 (envOfC qual scope ↑bS f cd::outer))).get? e with
   | none=>rfl
   | some o=>have:=PySem.W.of_hideAll _ q;rw[mk.new]at this;cases this
  have zG:s.heap.FunFrames (hideAll s.heap (d4 (envOfC qual scope ↑bS f cd::outer))) (envOfC qual scope ↑bS f cd::outer):=
   PySem.W.funFrames_hide oi λenv he a aN=>mem_filterMap.mpr ⟨env,he,aN⟩
  show wpAny (model P w) (A.deeper (envOfC qual scope ↑bS f cd)) (leaving (envOfC qual scope ↑bS f cd) (.ref e)) _ _ _
  refine Fj (s:={ s with heap:=h' }) (B:=hideAll s.heap (d4 (envOfC qual scope ↑bS f cd::outer))) (env:=envOfC qual scope ↑bS f cd) (outer:=outer) (L:=↑bS) I.ok.frames rfl (λb o q=>mk.keeps b o (PySem.W.of_hideAll _ q)) hn (zG.of_keeps λb o q _=>⟨o,mk.keeps b o q,rfl⟩) he rfl rfl λag bJ up=>?_;have l5:∀b o,bS.heap.get? b∣o->b ∉ d4 outer->b ∉ d4 (envOfC qual scope ↑bS f cd::outer):=λb o q n z=>by
   rcases mem_cons.mp (show b∈↑bS::d4 outer from z) with z|z
   ·exact br (lt_size q) (by rw[z];exact wa7 _)
   ·exact n z
  refine⟨e,cls,none,H,_,rfl,I.os,I.bare,bJ,Fn I.a6 tc,⟨λb o q n b5=>hideAll_get _ (I.base.keep b o q n b5 (λz=>nomatch z)) (l5 b o q b5),λb o q n=>I.base.free b o q n (λz=>nomatch z),λb o q b5=>?_,I.base.cH,I.base.fE,I.base.hy⟩,λb o ae q=>?_,ix⟩
  ·obtain⟨bQ,q'⟩:=I.base.there b o q (λz=>nomatch z);exact⟨bQ,hideAll_get _ q' (l5 b o q b5)⟩
  ·obtain⟨_,bQ,q',b5⟩:=I.ok.gY.mem ae;obtain rfl:o=bQ:=wa5 ((show bS.heap.get? b=some o from q).symm.trans q');obtain⟨aL,z⟩:=I.base.slot b o q (I.ok.jI b ae) ae (λz=>nomatch z);exact up b { o with slots:=aL } (mk.keeps _ _ z) b5
 pass:=λpins J H s e s' I z=>by
  obtain⟨a0,cls,av,H',B,rfl,os,bare,bJ,a6,u,zH,ix⟩:=z;have bJ:iy B (envOfC qual scope ↑bS f cd::outer) a0 cls av .none s'.heap:=bJ
  show wpAny (model P w) (A.deeper (envOfC qual scope ↑bS f cd)) (leaving (envOfC qual scope ↑bS f cd) (.ref a0)) _ _ _
  refine Qp (L:=↑bS) I.ok.frames rfl bJ λag Qr up=>?_;have l5:∀b o,bS.heap.get? b∣o->b ∉ d4 outer->b ∉ d4 (envOfC qual scope ↑bS f cd::outer):=λb o q n z=>by
   rcases mem_cons.mp (show b∈↑bS::d4 outer from z) with z|z
   ·exact br (lt_size q) (by rw[z];exact wa7 _)
   ·exact n z
  refine⟨a0,cls,av,H',B,rfl,os.trans I.os,bare,Qr,a6,⟨λb o q n b5=>u.keep b o (I.base.keep b o q n b5 (λz=>nomatch z)) (I.base.free b o q n (λz=>nomatch z)) (l5 b o q b5),λb o q n=>?_,λb o q b5=>?_,λb xs q=>u.cH b xs (I.base.cH b xs q),λb o x q=>u.fE b o x (I.base.fE b o x q),λb ps q=>?_⟩,λb o ae q=>?_,ix⟩
  ·obtain⟨bQ,q'⟩:=I.base.there b o q (λz=>nomatch z);exact u.free b bQ q' (I.base.free b o q n (λz=>nomatch z))
  ·obtain⟨bQ,q'⟩:=I.base.there b o q (λz=>nomatch z);exact u.there b bQ q' (l5 b o q b5)
  ·obtain⟨eO,ar⟩:=I.base.hy b ps q;obtain⟨dh,aw⟩:=u.hy b _ ar;exact⟨eO++dh,by rw[aw,Array.append_assoc]⟩
  ·obtain⟨_,bQ,q',b5⟩:=I.ok.gY.mem ae;obtain rfl:o=bQ:=wa5 ((show bS.heap.get? b=some o from q).symm.trans q');obtain⟨aL,z⟩:=I.base.slot b o q (I.ok.jI b ae) ae (λz=>nomatch z);obtain⟨nM,eP⟩:=zH b _ (show b∈↑bS::d4 outer from mem_cons_of_mem _ ae) z;exact up b { o with slots:=nM } eP b5
end
def zjh (C:Addr)(m:Str)(sp:d0)(d1:List V)(gq:jU)(bB:TE)(t:dz):TE:=λJ H Q=>bB J H λx H1=>∃a av aT,x=.ref a/\H1 a∣.ins C av aT/\aT.lookup m=none/\t J H1 λvs aE=>sp (x::(vs++d1)) aE Q (gq J)
section
variable {X:Cx}{k:Nat}{f C:Addr}{fd:FuncData}{ps:List Str}{sp:d0}{d1:List V}{ds:List Value}{gq:jU}{x m:Str}{p pos apos:Pos}{e o:Expr}{es:List Expr}{bB:TE}{t:dz}
theorem Qs {Q:bo}{vs:List V}(F:fw X.prog X.w X.K X.mg X.base (i7 X.prog X.w) k f fd ps sp) (a5:da k X.A) (ae:Binds X.K fd ps ds) (hd:Vals d1 ds) (aq:tb X gq)
  (I:Inv X pins J H s) (r:Vals vs us) (h:sp (vs++d1) H Q (gq J)):wpAny (model X.prog X.w) X.A (call (.ref f) us) (fR X pins J Q) X.cQ s:=by
 have cB:Vals (vs++d1) (us++ds):=r.append hd
 have aD:(us++ds).length=ps.length:=by rw[<- cB.length];exact F.len _ _ _ _ h
 refine wpAny_call (codeAny_mono (F.run X.A X.stack s H ⟨us,[]⟩ (us++ds) (vs++d1) Q (gq J) a5 I.sL (ae s us I.d5 aD) cB h) λr s' ao=>?_);cases r with
 | error e=>exact aq.pass pins J H s e s' I ao
 | ok bJ=>cases bJ with
  | ret u=>exact I.after ao
  | next=>exact ao.elim
  | brk=>exact ao.elim
  | cont=>exact ao.elim
theorem zI (he:PE X o bB) (c:eQ X.K C) (hm:Meth X.K C m f) (F:fw X.prog X.w X.K X.mg X.base (i7 X.prog X.w) k f fd ps sp) (a5:da k X.A) (ae:Binds X.K fd ps ds) (hd:Vals d1 ds) (aq:tb X gq) (aN:PA X (e::es) t)
  (hst:autoParam (starEach (e::es) X.env=(false,eval e X.env)::starEach es X.env) dA._auto_1) (hpl:autoParam ((backTo pos (starEach es X.env)).any (·.1)=false) dA._auto_1)
  (bC:autoParam (eval (.Call (.Attribute o m apos) (e::es) [] pos) X.env=(eval o X.env>>=λdK=>standAt apos.atName>>=λ_=>holding [dK] (getMethod dK m pl)>>=λr=>callWith pos r.1 r.2 (backTo pos (starEach (e::es) X.env)) (backToKw pos (keywordEach [] X.env)))) dA._auto_1):
  PE X (.Call (.Attribute o m apos) (e::es) [] pos) (zjh C m sp d1 gq bB t):=by
 intro pins s J H Q I h;refine methodCall_KW (pl:=pl) (bz (he pins s J H _ I h) λu s1 bN=>oqq λgE uq=>?_) bC;obtain⟨x,H1,aO,bf,a,av,aT,ex,a0,l,q⟩:=bN;refine uq ?_;subst ex;cases (show u=Value.ref a from bf);refine vB aO a0 c hm l ?_;exact callWith_K (first:=[.ref a]) (h₀:=X.base) I.ok.mod.ig hm.c2 (bz (aN pos pins s1 J H1 _ aO q) λus s2 ⟨vs,aE,bu,r,bK⟩=>⟨bu.d5,Qs (us:=.ref a::us) (vs:=.ref a::vs) F a5 ae hd aq bu (.cons rfl r) bK⟩) hst hpl
theorem Qt {C:Addr}{cd:ClassData}(e:clsIn K C∣cd):∃c d aL,K.lookup C∣⟨c,d,.cls cd,aL⟩:=by
 unfold clsIn at e;cases h:K.lookup C with
 | none=>rw[h]at e;cases e
 | some o=>
  rw[h]at e;obtain⟨c,d,zJ,aL⟩:=o;cases zJ with
  | cls x=>cases e;exact⟨_,_,_,rfl⟩
  | _=>cases e
theorem Qu {aL:Array α}{x:α}(h:aL.size=6) (e:aL[4]?∣x):∃k0 k1 k2 k3 k5,aL=#[k0,k1,k2,k3,x,k5]:=by
 obtain⟨l⟩:=aL;rcases l with _|⟨k0,_|⟨k1,_|⟨k2,_|⟨k3,_|⟨td,_|⟨k5,_|⟨_,_⟩⟩⟩⟩⟩⟩⟩<;>cases h
 cases e;exact⟨_,_,_,_,_,rfl⟩
abbrev ri:List Value:=[.type "ValueError",.type "Exception",.type "BaseException",.type "object"]
def wb (K:Frag)(C:Addr)(i:Option Value):Bool:=(K.lookup C).any (λo=>o.cls==.type "type" && o.slots.size==6&&o.slots[4]?==some (some (.builtin "ValueError.__new__"))) &&
 (clsIn K C).any λcd=>cd.mro.head?==some (.ref C)&&!cd.hasDel&&PySem.W.tailIn K ri cd.mro.tail&&PySem.W.nsOkIn K cd.ns&&nsIn K cd.ns "__init__" == some i
theorem Fp {C:Addr}{i:Option Value}(q:wb K C i=true):∃(dd:Option Addr)(cd:ClassData)(k0 k1 k2 k3 k5:Option Value),K.lookup C∣⟨.type "type",dd,.cls { cd with mro:=.ref C::cd.mro.tail,hasDel:=false },#[k0,k1,k2,k3,some (.builtin "ValueError.__new__"),k5]⟩/\
  PySem.W.tailIn K ri cd.mro.tail=true/\PySem.W.nsOkIn K cd.ns=true/\nsIn K cd.ns "__init__"∣i:=by
 obtain⟨a8,bK⟩:=Bool.and_eq_true_iff.mp q;obtain⟨o,aA,a8⟩:=(Option.any_eq_true _ _).mp a8;obtain⟨cd,ak,bK⟩:=(Option.any_eq_true _ _).mp bK;simp only[and_eq_true,beq_iff_eq,not_eq_true']at a8 bK;obtain⟨⟨ar,aw⟩,bV⟩:=a8;obtain⟨⟨⟨⟨m,d⟩,t⟩,n⟩,j⟩:=bK;obtain⟨c,dd,aL,aD⟩:=Qt ak;cases aA.symm.trans aD;obtain⟨k0,k1,k2,k3,k5,rfl⟩:=Qu aw bV;refine⟨dd,cd,k0,k1,k2,k3,k5,?_,t,n,j⟩;cases ar;obtain⟨nm,bs,mro,ns,DO,ael,sn,sub,ab,col,del⟩:=cd;cases mro with
 | nil=>cases m
 | cons a r=>cases m;cases d;exact aD
structure Fq (K:Frag)(C:Addr):Prop where
 ex:wb K C none=true
def zif (gq:jU)(C:Addr)(t:dz):cV:=λD J H=>t J H λvs H1=>vs.length<=sizeLine/\gq J (.ref C) none H1
set_option tactic.hygienic true in
theorem Qv {np dQ:Pos}(aq:Fm X gq) (ak:X.calm=true) (bD:ft X x) (hm:X.mg x∣.ref C) (er:Fq X.K C) (aN:PA X (e::es) t)
  (hdb:autoParam ((x==("__debug__":Str))=false) dB._auto_1) (he:autoParam (starEach (e::es) X.env=(false,eval e X.env)::starEach es X.env) dA._auto_1) (hpl:autoParam ((backTo dQ (starEach es X.env)).any (·.1)=false) dA._auto_1):
  PS X (.Raise (some (.Call (.Name x np) (e::es) [] dQ)) none pos) (zif gq C t):=by
 intro pins s J H D I h;obtain⟨dd,cd,k0,k1,k2,k3,k5,aA,bC,a6,zK⟩:=Fp er.ex;have T:=PySem.W.tail_of_in I.ok.mod.ig bC
 refine wpAny_Raise_call_subT (C:=C) (nm:=cd.name) (q:=cd.qualname) (N:=cd.ns) (bs:=cd.bases) (bm:=cd.mro.tail) (hdct:=cd.hasDict) (sn:=cd.slotNames) (sub:=cd.subclasses) (ab:=cd.abstract) (col:=cd.collection) (dd:=dd) (k0:=k0) (k1:=k1) (k2:=k2) (k3:=k3) (k5:=k5) PySem.F.excBase_ValueError (mN:=X.base.nsMap cd.ns)
  (T.hasType PySem.F.excBase_ValueError.hasBase) (I.ok.hd ak) (by rw[he];show(false||(backTo dQ (starEach es X.env)).any (·.1))=false;rw[hpl];rfl) (PySem.W.nsMap_none_of_in I.ok.mod.ig a6 zK) (nV I bD hm ⟨rfl,?_⟩ hdb)
 rw[he];have aG:=aN dQ pins s J H _ I h
 rw[he]at aG;refine Calls.evalArgs_plain (wpAny_mono aG (λus s1 z=>?_) λ_ _ z=>z);obtain⟨vs,H1,aO,cf,hz,hw⟩:=z;refine⟨rfl,by rwa[<- cf.length],aO.d5 _ _ aA,(Heap.Ns.of_isNs (PySem.W.isNs_of_in I.ok.mod.ig a6)).keeps aO.b3,T.keeps aO.b3,λh' a0 mk=>aq.raise pins J H1 s1 h' a0 _ _ aO mk hw⟩
end
structure zL (C:Addr)(av:Option Addr)(ob:Obj):Prop where
 ex:∃(vs:Array Value)(aL:Array (Option Value)),ob=⟨.ref C,av,.fields vs,aL⟩/\vs[2]?∣Value.none
def mV (X:Cx)(pins:List (Addr×Obj))(E:wvP):Cx:={ X with dr:=X.dr++pins,cQ:=E }
def l6 (X:Cx)(pins:List (Addr×Obj))(a0:Addr)(ob:Obj):Cx:={ X with A:=X.A.mark (some (.ref a0)),calm:=false,dr:=X.dr++pins++[(a0,ob)],cQ:=λ_ _=>False }
section
variable {X:Cx}{pins nT:List (Addr×Obj)}{J:St}{H:ah}{s:Shared}{E:wvP}{a0:Addr}{ob:Obj}
theorem Qw (ok:X.Ok):(mV X pins E).Ok:=⟨ok.mod,ok.kind,ok.glob,ok.blt,ok.above,ok.inj,ok.has,ok.nR,ok.hd,ok.frames,ok.qS,ok.vd,ok.bs,ok.jH,ok.pd,ok.qT,ok.gY,ok.jI⟩
theorem Qx (ok:X.Ok):(l6 X pins a0 ob).Ok:=⟨ok.mod,ok.kind,ok.glob,ok.blt,ok.above,ok.inj,ok.has,ok.nR,(λz=>nomatch z),ok.frames,ok.qS,ok.vd,ok.bs,ok.jH,ok.pd,ok.qT,ok.gY,ok.jI⟩
theorem Qy (I:Inv X pins J H s):Inv (mV X pins E) [] J H s:=⟨Qw I.ok,I.os,I.bare,I.base,I.loc,I.cell,I.free,I.hB,λp aG=>I.pin p (by simpa [mV] using aG),I.a6,I.len⟩
theorem te (ok:X.Ok)(I:Inv (mV X pins E) nT J H s):Inv X pins J H s:=⟨ok,I.os,I.bare,I.base,I.loc,I.cell,I.free,I.hB,λp aG=>I.pin p (mem_append_left _ aG),I.a6,I.len⟩
theorem Qz (I:Inv X pins J H s)(he:s.heap.get? a0∣ob)(hn:H a0=none)(aD:a0≠X.env.locals)(hf:a0 ∉ X.aT)(ak:∀v,ob.data≠.cell v):Inv (l6 X pins a0 ob) [] J H s:=
 ⟨Qx I.ok,I.os,I.bare,I.base,I.loc,I.cell,I.free,I.hB,λp aG=>by
  have aG:p∈X.dr++pins++[(a0,ob)]:=by simpa [l6] using aG
  rcases mem_append.mp aG with z|z
  ·exact I.pin p z
  ·cases mem_singleton.mp z;exact⟨he,hn,aD,hf,ak⟩,I.a6,I.len⟩
theorem wc (ok:X.Ok)(I:Inv (l6 X pins a0 ob) nT J H s):Inv X pins J H s:=⟨ok,I.os,I.bare,I.base,I.loc,I.cell,I.free,I.hB,λp aG=>I.pin p (mem_append_left _ (mem_append_left _ aG)),I.a6,I.len⟩
theorem hU.QA {f:Flow}(ok:X.Ok) (h:hU (mV X pins E) [] D f s):hU X pins D f s:=by
 cases f with
 | next=>obtain⟨a7,H',I,q⟩:=h;exact⟨a7,H',te ok I,q⟩
 | brk=>obtain⟨a7,H',I,q⟩:=h;exact⟨a7,H',te ok I,q⟩
 | cont=>obtain⟨a7,H',I,q⟩:=h;exact⟨a7,H',te ok I,q⟩
 | ret u=>obtain⟨v,a7,H',I,r,q⟩:=h;exact⟨v,a7,H',te ok I,r,q⟩
theorem hU.QB {f:Flow}(ok:X.Ok) (h:hU (l6 X pins a0 ob) [] D f s):hU X pins D f s:=by
 cases f with
 | next=>obtain⟨a7,H',I,q⟩:=h;exact⟨a7,H',wc ok I,q⟩
 | brk=>obtain⟨a7,H',I,q⟩:=h;exact⟨a7,H',wc ok I,q⟩
 | cont=>obtain⟨a7,H',I,q⟩:=h;exact⟨a7,H',wc ok I,q⟩
 | ret u=>obtain⟨v,a7,H',I,r,q⟩:=h;exact⟨v,a7,H',wc ok I,r,q⟩
end
section
variable {X:Cx}{x n:Str}{C:Addr}{body:List Stmt}{tf:Stmt}{tg:List Stmt}{np pos pP:Pos}{bj:jU->cV}{hD:Addr->Addr->Option Addr->cV}
theorem QC {h:Heap}{o:Obj}(e:h.get? a∣o):PySem.W.Looks M h (typeOf (.ref a)) o.cls:=(PySem.W.Looks.ld e).andThen .now
def Behind (X:Cx)(nm:Option Str)(pP:Pos)(Q:Flow->Shared->Prop)(r:Result)(s:Shared):Prop:=match r with
 | .ok f=>(match nm with
  | none=>Q f s
  | some n=>wpAny (model X.prog X.w) X.A (do bindName X.env n .none;unbindBehindTheSuite X.env n pP) (λ_ iT=>Q f iT) X.cQ s)
 | .error x=>cameBackBy (model X.prog X.w) X.A X.env X.cQ x s
theorem QD {nT:List (Addr×Obj)}{e:Value}{kj:bL}{nm:Option Str}{Q:Flow->Shared->Prop}{th:wvP}{L:Addr}(hst:X.stack=X.env::outer) (hf:X.env.frame∣L) (bD:ft X x) (hm:X.mg x∣.ref C) (hdb:(x==("__debug__":Str))=false) (ok:X.Ok)
  (I:Inv (mV X pins th) nT J H s) (z:i7 X.prog X.w X.stack H s kj e s') (zd:∀cls av H',kj cls av H'->∃gF,cls=.ref gF/\exmOne X.K (.ref gF) (.ref C)∣true)
  (k:∀(a0 gF:Addr)(av:Option Addr)(H':ah)(s5:Shared),e=.ref a0->kj (.ref gF) av H'->H' a0=none->(∀(M:Model)(A:Around)(E:wvP)(Q:Unit->Shared->Prop),(∀ob dm,zL gF av ob->Inv (l6 X pins a0 ob) [] J H' dm->Q () dm)->wpAny M A (setFlight (.ref a0) none) Q E s5)->
   codeAny (model X.prog X.w) (X.A.mark (some (.ref a0))) (.handlers (.ref a0) [.ExceptHandler none nm (tf::tg) pP] X.env) (Behind X nm pP Q) s5):
  wpAny (model X.prog X.w) X.A (noteFrame e X.env) (λ_ hV=>wpAny (model X.prog X.w) X.A (setFlight e none) (λ_ iT=>wpAny (model X.prog X.w) X.A (handleBy e X.env [.ExceptHandler (some (.Name x np)) nm (tf::tg) pP]) Q X.cQ iT) X.cQ hV) X.cQ s':=by
 obtain⟨a0,cls,av,H',B,rfl,os,bare,bJ,a6,u,zH,ix⟩:=z;obtain⟨gF,rfl,QE⟩:=zd cls av H' ix;have bJ:iy B (X.env::outer) a0 (.ref gF) av .none s'.heap:=by rwa[<- hst]
 have cq:∀{aR:Heap}{t3:Nat},B.StaysIn aR->s'.heap.UpToSlots aR->Inv X pins J H' { s' with heap:=aR,toks:=t3 }:=λ{aR t3} st up=>by
  refine te ok (Inv.DA I (s':={ s' with heap:=aR,toks:=t3 }) os (u.un st λb o ae q=>?_) (a6.kept st) bare (λb z=>nomatch z));obtain⟨_,bQ,q',b5⟩:=I.stack.mem ae;rw[q]at q';cases q';obtain⟨aL,bK⟩:=zH b o ae q;exact up b { o with slots:=aL } bK b5
 have hn:H' a0=none:=by
  cases q:H' a0 with
  | none=>rfl
  | some o=>obtain⟨_,z⟩:=(a6 a0 o q).some;rw[bJ.new]at z;cases z
 refine Fi (by rw[ok.frames,hst]) hf bJ λb4 QF ti=>?_;refine land (s:={ s' with heap:=b4 }) QF λek zM zN=>?_;have fin:∀{fx:Heap}{oj:Nat},iy B (X.env::outer) a0 (.ref gF) av .none fx->ek.UpToSlots fx->∃ob,zL gF av ob/\Inv (l6 X pins a0 ob) [] J H' { s' with heap:=fx,toks:=oj }:=λ{fx oj} wd zO=>by
  have kO:=cq (t3:=oj) wd.st ((ti.trans zN).trans zO)
  obtain⟨vs,aL,T,i6,ts,he,ag,aa,_⟩:=wd.at_;refine⟨_,⟨vs,aL,rfl,ag⟩,Qz kO he hn (λz=>?_) (λz=>?_) (λv z=>by cases z)⟩
  ·obtain⟨m,⟨o,es,cC,aA,hd,_⟩,_⟩:=kO.loc;rw[<- z]at aA;have aA:=(show fx.get? a0=some o from aA)
   rw[he]at aA;cases aA;cases hd
  ·obtain⟨_,o,aA,b5⟩:=kO.gY.mem z;have aA:=(show fx.get? a0=some o from aA)
   rw[he]at aA;cases aA;exact b5 _ rfl
 refine wpAny_handleBy_cons (codeAny_handlers_test ?_) (by intro q;cases q);obtain⟨QG,_,mJ⟩:=fin (oj:=s'.toks) zM (Heap.UpToSlots.refl _);refine nV (X:=l6 X pins a0 QG) mJ bD hm ?_ hdb;obtain⟨vs,aL,T,i6,ts,he,_⟩:=id zM.at_;refine(PySem.W.exm_one mJ.d5 (QC he) QE).here ?_;refine k a0 gF av H' _ rfl ix hn λM A E Q q=>land (s:={ s' with heap:=ek }) zM λfx wd zO=>?_;obtain⟨QH,QI,kO⟩:=fin (oj:=s'.toks) wd zO;exact q QH _ QI kO
end
def QJ (P:Program)(w:World)(K:Frag)(mg:Str->Option Value)(base:Heap)(N:List Str)(qual:Str)(scope:Scope)(f:Addr)(cd:Value)(A:Around)(outer:List Env)(s:Shared)(H:ah)(a0:Addr)(ob:Obj):Cx:=
 { g6 bI P w K mg base N qual scope f cd A outer s H fU with calm:=false,dr:=[(a0,ob)],cQ:=λ_ _=>False }
section
variable {P:Program}{w:World}{K:Frag}{mg:Str->Option Value}{base:Heap}{x qual:Str}{st:Stmt}{f:Addr}{fd:FuncData}{N ps:List Str}{k:Nat}{sp:d0}
theorem ke.we (F:ke K x qual st f fd)(S:n1 N ps (bU st))(len:∀vs H Q E,sp vs H Q E->vs.length=ps.length)(jO:∀(cdv:Value) (A:Around) (outer:List Env) (s:Shared) (H:ah) (vs:List V) (Q:bo) (E:bL),da k (A.deeper (envOfC qual (bU st) ↑s f cdv))->sp vs H Q E->
   ∃t,PSs (g6 (i7 P w) P w K mg base N qual (bU st) f cdv A outer s H E) (e0 st) t/\t { aP:=λ_ H'=>Q .bx H',ih:=Q } (start N vs) H):fw P w K mg base (i7 P w) (k+1) f fd ps sp:=by
 obtain⟨c7,cA,bq,doc,pm,an,cdv,bW,et,rfl,lk,eL⟩:=F.ex;exact vE lk eL S len λA outer s H vs Q E a5 fI=>jO cdv A outer s H vs Q E a5 fI
end
theorem zvx {a0:Addr}:(QJ P w K mg base N qual scope f cd A outer s H a0 ob).K=K:=rfl
theorem QK {a0:Addr}:(l6 X pins a0 ob).K=X.K:=rfl
theorem zvv:(mV X pins E).K=X.K:=rfl
section
variable {X:Cx}{k:Nat}{f C:Addr}{fd:FuncData}{ps:List Str}{sp:d0}{a0:Addr}{ob:Obj}{x m:Str}{p pos apos:Pos}{e o:Expr}{es:List Expr}{bB:TE}{t:dz}
end
end L2
namespace L2
open PySem PySem.Spec PyProof.Rows PySem.W
section
variable {prog:Program}{w:World}{A:Around}{E:wvP}{s:Shared}{K:Frag}{x D:Addr}{aem:Obj}{cA:Option Obj}{name:Str}
end
def tj:V->Option Value
 | .ref a=>some (.ref a)
 | .ty n=>some (.type n)
 | _=>none
theorem QL {c:V}{v:Value}(h:tj c∣v) (r:RelV c u):u=v:=by
 cases c<;>simp only[tj]at h<;>cases h<;>exact r
section
variable {X:Cx}{a0 C:Addr}{av:Option Addr}{ob:Obj}
theorem zP:g4 X (.builtin "isinstance") (λxs H Q=>∃x c v t b,xs=[x,c]/\tj c∣v/\gN X.K H x t/\kitOne X.K t v∣b/\Q (.bl b) H):=by
 intro pins s J H xs us Q I r h;obtain⟨x,c,v,t,b,rfl,aJ,ty,e,q⟩:=h;obtain⟨kk,kX,rfl,bX,cB⟩:=vals2 r;cases QL aJ cB;exact D0 I bX ty e λtk=>⟨.bl b,H,I.tok _,rfl,q⟩
end
end L2
variable {tab:List (PySem.Addr×L2.d0)}
namespace L2
open PySem PySem.Spec PyProof.Rows PySem.Builtin PySem.Builtin.Str PySem.Builtin.Int
structure pQ (K:Frag)(x qual:Str)(st:Stmt)(f:Addr)(fd:FuncData)(items:Array Value):Prop where
 ex:∃(c7:Value)(cA:Option Addr)(bq doc pm:Value)(an:Option Addr)(cdv bW:Value)(et:Array (Option Value))(T:Addr)(i6:Obj)(n:Nat),
  fd=fnOf x qual (gB st) (e0 st) (bU st) (.ref T) bq doc pm an cdv bW/\K.lookup f∣⟨c7,cA,.func fd,et⟩/\codeIn K cdv qual=true/\K.lookup T∣i6/\i6.data=.seq items n
 c2:keepIn K (.ref f)=true
section
variable {P:Program}{w:World}{K:Frag}{mg:Str->Option Value}{base:Heap}{x qual:Str}{st:Stmt}{f:Addr}{fd:FuncData}{items:Array Value}{N ps:List Str}{k:Nat}{sp:d0}
theorem pQ.ok (F:pQ K x qual st f fd items)(S:n1 N ps (bU st))(len:∀vs H Q E,sp vs H Q E->vs.length=ps.length)(jO:∀(cdv:Value) (A:Around) (outer:List Env) (s:Shared) (H:ah) (vs:List V) (Q:bo) (E:bL),da k (A.deeper (envOfC qual (bU st) ↑s f cdv))->sp vs H Q E->
   ∃t,PSs (g6 bI P w K mg base N qual (bU st) f cdv A outer s H E).nox (e0 st) t/\t { aP:=λ_ H'=>Q .bx H',ih:=Q } (start N vs) H):fw P w K mg base bI (k+1) f fd ps sp:=by
 obtain⟨c7,cA,bq,doc,pm,an,cdv,bW,et,T,i6,n,rfl,lk,eL,_⟩:=F.ex;refine vE lk eL S len λA outer s H vs Q E a5 fI=>?_;obtain⟨t,h,q⟩:=jO cdv A outer s H vs Q E a5 fI;exact⟨t,h.nox,q⟩
theorem pQ.binds {ds:List Value}(F:pQ K x qual st f fd items)
  (h:∀(T:Addr)(bq doc pm:Value)(an:Option Addr)(cdv bW:Value)(us:List Value),(us++ds).length=ps.length->∃k:Option (Array Value)->Sem (List (Str×Value)),
   bindArgs (fnOf x qual (gB st) (e0 st) (bU st) (.ref T) bq doc pm an cdv bW) ⟨us,[]⟩=(seqItems? (.ref T)>>=k)/\k (some items)=pure (ps.zip (us++ds))):Binds K fd ps ds:=by
 obtain⟨c7,cA,bq,doc,pm,an,cdv,bW,et,T,i6,n,rfl,lk,eL,cP,hd⟩:=F.ex;intro s us KX aD;obtain⟨k,aa,ag⟩:=h T bq doc pm an cdv bW us aD;exact .of_defaults (k:=k) rfl (KX _ _ cP) hd aa ag
theorem QM {cA an:Option Addr}{eT:Array (Option Value)}{bq Fs:Value}{T:Addr}{bc:Option Addr}(l:K.lookup f∣⟨c7,cA,.func (fnOf x qual (gB st) (e0 st) (bU st) (.ref T) bq doc pm an cdv bW),et⟩)
  (c:codeIn K cdv qual=true) (k:keepIn K (.ref f)=true) (t:K.lookup T∣⟨Fs,bc,.seq items n,eT⟩):pQ K x qual st f (fnOf x qual (gB st) (e0 st) (bU st) (.ref T) bq doc pm an cdv bW) items:=
 ⟨⟨c7,cA,bq,doc,pm,an,cdv,bW,et,T,_,n,rfl,l,c,t,rfl⟩,k⟩
end
structure rj (X:Cx)(m:Str)(k:Nat)(ps:List Str)(e:Addr×d0):Prop where
 cl:eQ X.K e.1
 ex:∃f fd,Meth X.K e.1 m f/\fw X.prog X.w X.K X.mg X.base bI k f fd ps e.2/\Binds X.K fd ps []
theorem pR {m:Str}{k:Nat}:∀e∈([]:List (Addr×d0)),rj X m k ps e:=λe h=>nomatch h
theorem QN {m:Str}{k:Nat} (cl:eQ X.K C) (hm:Meth X.K C m f) (F:fw X.prog X.w X.K X.mg X.base bI j f fd ps sp) (aZ:j<=k) (ae:Binds X.K fd ps []) (r:∀e∈tab,rj X m k ps e):∀e∈(C,sp)::tab,rj X m k ps e:=
 λe h=>(mem_cons.mp h).elim (λz=>by rw[z];exact⟨cl,f,fd,hm,F.mono aZ,ae⟩) (r e)
def zke (tab:List (Addr×d0))(m:Str)(bB:TE)(t:dz):TE:=λJ H Q=>bB J H λx H1=>∃a av aT e,e∈tab/\x=.ref a/\H1 a∣.ins e.1 av aT/\aT.lookup m=none/\t J H1 λvs aE=>e.2 (x::vs) aE Q fU
section
variable {X:Cx}{k:Nat}{ps:List Str}{tab:List (Addr×d0)}{m:Str}{pos apos:Pos}{e o:Expr}{es:List Expr}{bB:TE}{t:dz}
theorem pS (he:PE X o bB) (D:∀e∈tab,rj X m k ps e) (a5:da k X.A) (aN:PA X (e::es) t)
  (hst:autoParam (starEach (e::es) X.env=(false,eval e X.env)::starEach es X.env) dA._auto_1) (hpl:autoParam ((backTo pos (starEach es X.env)).any (·.1)=false) dA._auto_1)
  (bC:autoParam (eval (.Call (.Attribute o m apos) (e::es) [] pos) X.env=(eval o X.env>>=λdK=>standAt apos.atName>>=λ_=>holding [dK] (getMethod dK m pl)>>=λr=>callWith pos r.1 r.2 (backTo pos (starEach (e::es) X.env)) (backToKw pos (keywordEach [] X.env)))) dA._auto_1):
  PE X (.Call (.Attribute o m apos) (e::es) [] pos) (zke tab m bB t):=by
 intro pins s J H Q I h;refine methodCall_KW (pl:=pl) (bz (he pins s J H _ I h) λu s1 bN=>oqq λgE uq=>?_) bC;obtain⟨x,H1,aO,bf,a,av,aT,C,i3,ex,a0,l,q⟩:=bN;refine uq ?_;subst ex;cases (show u=Value.ref a from bf);obtain⟨c,f,fd,hm,F,ae⟩:=D C i3;refine vB aO a0 c hm l ?_;exact callWith_K (first:=[.ref a]) (h₀:=X.base) I.ok.mod.ig hm.c2 (bz (aN pos pins s1 J H1 _ aO q) λus s2 ⟨vs,aE,bu,r,bK⟩=>⟨bu.d5,vD (us:=.ref a::us) (vs:=.ref a::vs) (d1:=[]) (ds:=[]) F a5 ae .nil n6 bu (.cons rfl r) (by simpa only[append_nil] using bK)⟩) hst hpl
end
theorem QO {a b:Str}{k}{fJ QP:Pos}(c9:X.K=K) (ak:Calm X) (b9:(a::b::N).Nodup) (pT:Loc (compEnvC scope cl C X.env).scope a) (zQ:Loc (compEnvC scope cl C X.env).scope b)
  (fa:(compEnvC scope cl C X.env).scope.names.lookup a=some .local) (QQ:(compEnvC scope cl C X.env).scope.names.lookup b=some .local):
  PG (fV X scope cl (a::b::N) C ex bS c5) (.Tuple [.Name a fJ,.Name b QP] k pos) (vo K 2 (zha (hW 0) (zha (hW 1) zwe))):=by
 subst c9;exact kK (X:=fV X scope cl (a::b::N) C ex bS c5) (n:=2) (y8 ak) (fG (hX (i:=0) b9 rfl pT (.inr fa)) (fG (hX (i:=1) b9 rfl zQ (.inr QQ)) kJ))
theorem dx (h:n+64<cLine):n+1<cLine:=⋯
end L2
variable {d:PySem.Addr}{cA:PySem.Obj}{β:Type}{cC:Nat}
namespace L2
open PySem PySem.Spec PyProof.Rows
def zdm (tk fv:TE):TE:=λJ H Q=>∀p,H p=none->tk J (upd H p (.bc [])) λx H1=>fv J H1 λy aE=>aE p∣.bc []/\∃b k,x=.ref b/\aE b∣.tup (k.map bq)/\Q (.ref p) (upd aE p (.bc [(k,y)]))
set_option tactic.hygienic true in
theorem zR {k v:Expr}{tk fv:TE}(bZ:X.A.units+1<cLine) (aj:PE X k tk) (aJ:PE X v fv):PE X (.Dict [some k] [v] pos) (zdm tk fv):=by
 intro pins s J H Q I q;have hn:=I.a6.fresh (wa8 ↑s)
 have aO:=I.laid (a:=↑s) (o:=.bc []) (h':=s.heap.push { cls:=.type "dict",data:=.dict #[] }) (t':=s.toks) (λ_ _ q=>get?_push_of_some _ q) (wa8 _) (Ey s.heap I.big)
 refine wpAny_Dict_any rfl rfl (by simp) (by show 1<=15;decide) (bz (vR (pos:=pos) aj aJ EA pins _ J _ (λps aE=>match ps with
  | [(x,y)]=>aE ↑s∣.bc []/\∃b k,x=.ref b/\aE b∣.tup (k.map bq)/\Q (.ref ↑s) (upd aE ↑s (.bc [(k,y)]))
  | _=>False) aO (q _ hn)) λws s2 ⟨ps,aE,bu,rel,ag⟩=>?_)
 obtain _|⟨bX,cB⟩:=rel
 ·exact ag.elim
 rename_i c d _ _ _;obtain⟨x,y⟩:=c;obtain⟨u,r⟩:=d;obtain⟨bf,bp⟩:=bX;obtain _|⟨_,_⟩:=cB
 ·obtain⟨e,b,tl,ex,eb,bK⟩:=ag;subst ex;cases (show u=Value.ref b from bf);obtain⟨z,hd,xs,rel,dd⟩:=q5 bu.a6 e;cases rel;unfold storeAll;rw[List.forIn_cons];refine ax (ax (wpAny_dictSet_heap (hsz:=zero_le _) (show(tupleKind (eN X.prog X.w)).room X.A from(by show X.A.units<cLine;omega)) (n9 bu.a6 eb) dd λh' kS aI=>bw ?_));show wpAny _ _ (forIn [] PUnit.unit _) _ _ _
  rw[List.forIn_nil];refine bw ⟨.ref ↑s,_,?_,rfl,bK⟩;obtain⟨q,es,cC,ao,ag,aR,b4,_,ek⟩:=kS;refine vN bu (by rw[e];exact True.intro) aI ⟨q,ao⟩ ⟨by show 1<=_;rw[sizeLine_eq];decide,hd,_,.cons ⟨rfl,?_,bp⟩ .nil,q,es,cC,ao,ag,aR,b4,ek⟩;rwa[zf (cM eb e (λz=>nomatch z))]
 ·exact ag.elim
section
variable {prog:Program}{w:World}{K:Type} [DecidableEq K]{knd:HeapKind prog w K}{A:Around}{E:wvP}{s:Shared}
end
section
variable {prog:Program}{w:World}{K:Type} [DecidableEq K]{knd:HeapKind prog w K}{A:Around}{E:wvP}{s:Shared}
end
theorem Paired.ju {R:α->β->Prop}{l:List α}{m:List β}(p:Paired R l m):∀{j:Nat}{a:α},l[j]?∣a->∃b,m[j]?∣b/\R a b:=by
 induction p with
 | nil=>intro j a e;cases e
 | cons h r bE=>
  intro j a e;cases j with
  | zero=>cases e;exact⟨_,rfl,h⟩
  | succ j=>exact bE e
theorem Paired.at2 {R:α->β->Prop}{l:List α}{m:List β}(p:Paired R l m):∀{j:Nat}{b:β},m[j]?∣b->∃a,l[j]?∣a/\R a b:=by
 induction p with
 | nil=>intro j a e;cases e
 | cons h r bE=>
  intro j a e;cases j with
  | zero=>cases e;exact⟨_,rfl,h⟩
  | succ j=>exact bE e
theorem Ft {bt:Type}[DecidableEq bt]:∀{kvs:List (bt×V)}{k:bt}{v:V},aS kvs k∣v->∃j:Nat,kvs[j]?∣(k,v)
 | [],_,_,h=>by cases h
 | p::r,k,v,h=>by
  by_cases e:p.1=k
  ·rw[i1 e]at h;cases h;exact⟨0,by subst e;rfl⟩
  ·rw[iv e]at h;obtain⟨j,aw⟩:=Ft h;exact⟨j+1,by rwa[List.getElem?_cons_succ]⟩
section
variable {prog:Program}{w:World}{A:Around}{E:wvP}{s:Shared}
theorem zS {es:Array DictEntry}(hd:(d==sysModules)=false) (aA:s.heap.get? d∣cA) (ak:cA.ExactDict) (kY:cA.data=.dict es cC)
  (ec:Q (.ref ↑s) { s with heap:=s.heap.push { cls:=.type "dict_keyiterator",data:=.fields #[.ref d,.int 0 0,.int es.size 0,.int cC 0] } }):
  wpAny (model prog w) A (pyIter (.ref d)) Q E s:=by
 have cP:s.TypeIs (.ref d) "dict":=⟨cA,aA,ak.1⟩
 refine wpAny_pyIter_slot cP F.slot_dict_iter (wpAny_call_entry F.slot_dict_iter cP F.entry_dict_iter ?_ (F.args_dict_iter_1 _));unfold Builtin.«dict.__iter__»;refine ax ?_;unfold Builtin.Dict.dictSlotNone;refine ax (wpAny_notOrdered_dict cP ?_);show wpAny _ _ (pure (Value.ref d)) _ _ s
 refine bw ?_;show wpAny _ _ (Builtin.Dict.showsAll d>>=_) _ _ s
 unfold Builtin.Dict.showsAll;rw[aB (by rw[hd];exact wa6)];refine ax (bw ?_);refine ax (wpAny_dictEntries aA kY ?_);refine ax (wpAny_dictEpoch aA kY ?_);refine ax (wpAny_newObj_type (bw ⟨_,rfl,"dict_keyiterator",_,⟨_,get?_push_size _ rfl,rfl⟩,F.slot_dict_keyiterator_next.lookup,?_⟩));simpa [rawInt] using ec
theorem Fu {es:Array DictEntry}{e:DictEntry}{Q:Option Value->Shared->Prop}(hit:s.heap.IsKeyIter it d i es.size cC) (gG:s.heap.get? d∣cA) (gP:cA.data=.dict es cC)
  (aq:es[i]?∣e) (ec:∀h',h'.IsKeyIter it d (i+1) es.size cC->Heap.SameBut it s.heap h'->Q (some e.key) { s with heap:=h' }):
  wpAny (model prog w) A (pyNext (.ref it)) Q E s:=by
 obtain⟨o,aA,ak,hd⟩:=id hit;unfold pyNext;refine ax (wpAny_attempt (wpAny_callSpecial?_slot (name:=Str.ofString "__next__") hit.typeIs F.slot_dict_keyiterator_next
  (wpAny_call_entry F.slot_dict_keyiterator_next hit.typeIs F.entry_dict_keyiterator_next ?_ (F.args_dict_keyiterator_next_1 _))))
 refine ax (bw ?_);refine ax ?_;refine ax ?_;first|refine ax (wpAny_typeNameOfWhole_keyiter hit.typeIs (bw ?_))|refine ax (wpAny_typeNameOf_keyiter hit.typeIs (bw ?_))
 refine ax (wpAny_fieldsOf aA hd ?_);have zT:Builtin.Dict_items.ownsTuple "dict_keyiterator"=false:=by decide
 rw[aB (λz=>wa6 (zT.symm.trans z))];show wpAny _ _ (if (Value.ref d==Value.none)=true then _ else _) _ _ s
 rw[aB (show ¬((Value.ref d==Value.none)=true) from wa6)];refine ax (bw ?_);refine ax (wpAny_dictEntries gG gP ?_);rw[aB (by simp)];refine ax (bw ?_);refine ax (wpAny_dictEpoch gG gP ?_);rw[aB (by simp)];refine bw ?_;simp only[show ¬((i:Int)<0) from by omega,if_false,toNat_natCast,aq];refine ax ?_;first|refine ax (wpAny_typeNameOfWhole_keyiter hit.typeIs (bw ?_))|refine ax (wpAny_typeNameOf_keyiter hit.typeIs (bw ?_))
 refine ax (wpAny_isOneOf_keyiter hit.typeIs ?_);show wpAny _ _ (setField (.ref it) 1 (rawInt ((i:Int)+1))>>=_) _ _ s
 refine ax (wpAny_setField aA hd (by simp) ?_);have om:(s.heap.update it (Obj.mapFields (·.setIfInBounds 1 (rawInt ((i:Int)+1))))).IsKeyIter it d (i+1) es.size cC:=
  ⟨_,get?_update_self _ aA (Obj.isFreed_of_fields (Obj.data_mapFields hd _)),(Obj.cls_mapFields ..).trans ak,by rw[Obj.data_mapFields hd];simp[rawInt]⟩
 refine ax (wpAny_holding ?_);refine ax (wpAny_isOneOf_keyiter (s:={ s with heap:=s.heap.update it (Obj.mapFields (·.setIfInBounds 1 (rawInt ((i:Int)+1)))) }) om.typeIs ?_);show wpAny _ _ (pure e.key) _ _ _
 exact bw (bw ⟨_,rfl,bw (ec _ om (Heap.SameBut.update ..))⟩)
theorem Fv {es:Array DictEntry}{Q:Option Value->Shared->Prop}(bN:gL A s.heap) (hit:s.heap.IsKeyIter it d i es.size cC) (gG:s.heap.get? d∣cA) (gP:cA.data=.dict es cC)
  (tm:es.size<=i) (ec:∀h',Heap.ExtBut it s.heap h'->Q none { s with heap:=h' }):wpAny (model prog w) A (pyNext (.ref it)) Q E s:=by
 obtain⟨o,aA,ak,hd⟩:=id hit;unfold pyNext;refine ax (wpAny_attempt (wpAny_callSpecial?_slot (name:=Str.ofString "__next__") hit.typeIs F.slot_dict_keyiterator_next
  (wpAny_call_entry F.slot_dict_keyiterator_next hit.typeIs F.entry_dict_keyiterator_next ?_ (F.args_dict_keyiterator_next_1 _))))
 refine ax (bw ?_);refine ax ?_;refine ax ?_;first|refine ax (wpAny_typeNameOfWhole_keyiter hit.typeIs (bw ?_))|refine ax (wpAny_typeNameOf_keyiter hit.typeIs (bw ?_))
 refine ax (wpAny_fieldsOf aA hd ?_);have zT:Builtin.Dict_items.ownsTuple "dict_keyiterator"=false:=by decide
 rw[aB (λz=>wa6 (zT.symm.trans z))];show wpAny _ _ (if (Value.ref d==Value.none)=true then _ else _) _ _ s
 rw[aB (show ¬((Value.ref d==Value.none)=true) from wa6)];refine ax (bw ?_);refine ax (wpAny_dictEntries gG gP ?_);rw[aB (by simp)];refine ax (bw ?_);refine ax (wpAny_dictEpoch gG gP ?_);rw[aB (by simp)];refine bw ?_;simp only[show ¬((i:Int)<0) from by omega,if_false,toNat_natCast,Array.getElem?_eq_none tm];refine ax ?_;first|refine ax (wpAny_typeNameOfWhole_keyiter hit.typeIs (bw ?_))|refine ax (wpAny_typeNameOf_keyiter hit.typeIs (bw ?_))
 show wpAny _ _ (setField (.ref it) 0 .none>>=_) _ _ s
 refine ax (wpAny_setField aA hd (by simp) ?_);refine ut (bN.update (A:=A) aA ak _) λh' e k1 k2=>nN k2 (ec h' λb o ae z=>k1 b o ?_);rwa[get?_update_other _ _ (Ne.symm ae)]
end
section
variable {X:Cx}{pins:List (Addr×Obj)}{J:St}{H:ah}{s:Shared}{a:Addr}
theorem Inv.re {u v:a3}(I:Inv X pins J H s) (e:H a∣u) (fX:∀xs,u≠.tup xs) (no:∀y,u≠.own y) (nb:∀ps,u≠.eY ps) (b5:∀o w,X.c5 a≠some (.cc o w)) (new:de X.prog X.w (upd H a v) s.heap a v):Inv X pins J (upd H a v) s:=by
 have ne:∀{b:Addr},H b=none->b≠a:=λ{b} h z=>by rw[z,e]at h;cases h
 refine⟨I.ok,I.os,I.bare,⟨I.base.keep,I.base.slot,λb o q n aq=>?_,I.base.there,λb xs q=>?_,λb o w q=>?_,λb ps q=>?_⟩,I.loc,I.cell,?_,λx c h=>?_,λp aG=>?_,λb o q=>?_,I.len⟩
 ·have z:=I.base.free b o q n aq
  rwa[zf (ne z)]
 ·have z:=I.base.cH b xs q
  rwa[zf (λh=>by rw[h,e]at z;exact fX xs (wa5 z))]
 ·have z:=I.base.fE b o w q
  rwa[zf (λh=>by rw[h]at q;exact b5 o w q)]
 ·obtain⟨more,z⟩:=I.base.hy b ps q;exact⟨more,by rwa[zf (λh=>by rw[h,e]at z;exact nb _ (wa5 z))]⟩
 ·rw[zf (ne I.free)];exact I.free
 ·rw[zf (ne (I.hB x c h))];exact I.hB x c h
 ·obtain⟨eu,eP,QR⟩:=I.pin p aG;exact⟨eu,by rwa[zf (ne eP)],QR⟩
 ·by_cases ae:b=a
  ·subst ae;rw[aH]at q;cases q;exact new
  ·rw[zf ae]at q;refine(I.a6 b o q).gX (λ_ _ _ z=>z) (λc z=>?_) λc xs z=>?_
   ·rwa[zf (λh=>by rw[h,e]at z;exact no _ (wa5 z))]
   ·rwa[zf (λh=>by rw[h,e]at z;exact fX _ (wa5 z))]
theorem Fw {h:Heap}(x:de P w H h a (.bc kvs)) (fK:∀b xs,H b∣.tup xs->H' b∣.tup xs):de P w H' h a (.bc kvs):=by
 obtain⟨z,y,xs,r,rest⟩:=x;exact⟨z,y,xs,Paired.fp r λp q z=>⟨z.1,fK _ _ z.2.1,z.2.2⟩,rest⟩
theorem Inv.freeze (I:Inv X pins J H s)(e:H a∣.bc kvs){o:Obj}(aA:s.heap.get? a∣o):Inv X pins J (upd H a (.cc o (.bc kvs))) s:=by
 refine I.re e nofun nofun nofun (λo w z=>?_) ⟨aA,Fw (I.a6 a _ e) λb xs z=>?_⟩
 ·have:=I.base.fE a o w z
  rw[e]at this;cases this
 ·rwa[zf (cM z e (λz=>nomatch z))]
theorem Inv.pU {o:Obj}(I:Inv X pins J H s) (e:H a∣.cc o (.bc kvs)) (b5:∀o w,X.c5 a≠some (.cc o w)):Inv X pins J (upd H a (.bc kvs)) s:=by
 refine I.re e nofun nofun nofun b5 (Fw (I.a6 a _ e).2 λb xs z=>?_);rwa[zf (cM z e (λz=>nomatch z))]
end
def mW (a:Addr)(o:Obj)(kvs:List (List Key×V)):gZ:=
 ⟨λi H=>H a∣.cc o (.bc kvs)/\i<kvs.length,λi H x H'=>H'=H/\∃b k v,x=.ref b/\kvs[i]?∣(k,v)/\H b∣.tup (k.map bq),λi H=>H a∣.cc o (.bc kvs)/\kvs.length<=i⟩
theorem QS (a it:Addr) (o:Obj) (kvs:List (List Key×V)) (es:Array DictEntry) (cC:Nat) (gP:o.data=.dict es cC):Turn P w K cS (mW a o kvs) [it] it (λi h=>h.IsKeyIter it a i es.size cC) where
 mem:=by simp
 obj:=λi h st b ae=>by
  have e:b=it:=by simpa using ae
  subst e;obtain⟨o,e,c,d⟩:=st;exact⟨o,e,λv z=>by rw[d]at z;cases z⟩
 keep:=λi h h' st k=>st.at λo e=>k it (by simp) o e
 item:=by
  intro X df hw c9 ak i pins s J H E I hf st bD;subst df hw c9;obtain⟨ao,aq⟩:=bD;obtain⟨gG,z,hd,xs,rel,bQ,fF,nS,eg,zU,jV,tp,tq⟩:=(show de X.prog X.w H s.heap a (.cc o (.bc kvs)) from I.a6 a _ ao);rw[gG]at eg;cases eg;rw[gP]at jV;cases jV;obtain⟨bF,g7⟩:∃bF,kvs[i]?∣bF:=⟨_,getElem?_eq_getElem aq⟩;obtain⟨q,tr,a8,bK,dZ⟩:=Paired.ju rel g7;have zV:es[i]?∣entryOfKey (tupleKind (eN X.prog X.w)) q:=by rw[entry_at tp i,tr];rfl
  obtain⟨f0,f1,f2,eB,f4,eC⟩:=hf it (by simp);refine Fu st gG gP zV λh' fu jL=>?_;have aO:Inv X pins J H { s with heap:=h' }:=I.turned (t':=s.toks) (λb o ae e=>(jL.2 b ae).trans e) f0 f1 eB f4 eC
  obtain⟨fm,e,c,d⟩:=id fu;exact⟨_,rfl,qY (s:={ s with heap:=h' }) e c d ∅ ⟨.ref q.2.1,H,aO,rfl,⟨rfl,q.2.1,bF.1,bF.2,rfl,g7,bK⟩,fu,λb ae=>(hf b ae).1⟩⟩
 done:=by
  intro X df hw c9 ak i pins s J H E I hf st bD;subst df hw c9;obtain⟨ao,aq⟩:=bD;obtain⟨gG,z,hd,xs,rel,bQ,fF,nS,eg,zU,jV,tp,tq⟩:=(show de X.prog X.w H s.heap a (.cc o (.bc kvs)) from I.a6 a _ ao);rw[gG]at eg;cases eg;rw[gP]at jV;cases jV;have hsz:es.size=xs.length:=size_of_entries tp
  have aD:=Paired.length rel
  obtain⟨f0,f1,f2,eB,f4,eC⟩:=hf it (by simp);exact Fv (I.calm ak) st gG gP ⋯ λh' eb=>⟨rfl,I.turned (t':=s.toks) (λb o ae e=>eb b o ae e) f0 f1 eB f4 eC⟩
 self:=λ_ _ _ _ _ st h=>wpAny_pyIter_keyiter st h
def zlt (bM:TE):TI:=λJ H R=>bM J H λx H1=>∃a kvs,x=.ref a/\H1 a∣.bc kvs/\∀o,R (mW a o kvs) (upd H1 a (.cc o (.bc kvs)))
theorem wg {l:Expr}(aD:PE X l cX):PI X cS l (zlt cX):=by
 intro pins s J H R I h;refine bz (aD pins s J H _ I h) λv s1 ⟨x,H1,aO,bX,a8⟩=>?_;obtain⟨a,kvs,e,ao,q⟩:=a8;subst e;cases bX;obtain⟨z,hd,xs,rel,dd⟩:=q5 aO.a6 ao;obtain⟨o,es,cC,aA,ak,kY,_⟩:=dd;refine zS hd aA ak kY ?_;have bu:=aO.freeze ao aA
 refine⟨↑s1,[↑s1],_,_,_,rfl,bu.kept (t':=s1.toks) λb o e=>get?_push_of_some _ e,QS a _ o kvs es cC kY,⟨_,get?_push_size _ rfl,rfl,rfl⟩,λb ae=>?_,q o⟩;have e:b=↑s1:=by simpa using ae
 subst e;exact bu.mH (wa8 _) (bu.a6.fresh (wa8 _))
def Ends.pU (D:Ends)(a:Addr)(kvs:List (List Key×V)):Ends where
 aP:=λJ H=>(∃o,H a∣.cc o (.bc kvs))/\D.aP J (upd H a (.bc kvs))
 ih:=λv H=>(∃o,H a∣.cc o (.bc kvs))/\D.ih v (upd H a (.bc kvs))
 b3:=λJ H=>(∃o,H a∣.cc o (.bc kvs))/\D.b3 J (upd H a (.bc kvs))
 bW:=λJ H=>(∃o,H a∣.cc o (.bc kvs))/\D.bW J (upd H a (.bc kvs))
def Fx (t:cV):cV:=λD J H=>∃a kvs,H a∣.bc kvs/\t (D.pU a kvs) J H
theorem zW {t:cV}(h:PS X st t):PS X st (Fx t):=by
 intro pins s J H D I q;obtain⟨a,kvs,e,q⟩:=q;have b5:∀o w,X.c5 a≠some (.cc o w):=λo w z=>by
  have:=I.base.fE a o w z
  rw[e]at this;cases this
 refine bz (h pins s J H _ I q) λf s' y=>?_;cases f with
 | next=>obtain⟨a7,H',dt,⟨o,z⟩,d⟩:=y;exact⟨a7,_,dt.pU z b5,d⟩
 | brk=>obtain⟨a7,H',dt,⟨o,z⟩,d⟩:=y;exact⟨a7,_,dt.pU z b5,d⟩
 | cont=>obtain⟨a7,H',dt,⟨o,z⟩,d⟩:=y;exact⟨a7,_,dt.pU z b5,d⟩
 | ret u=>obtain⟨v,a7,H',dt,cf,⟨o,z⟩,d⟩:=y;exact⟨v,a7,_,dt.pU z b5,cf,d⟩
theorem QT {o:Obj}{g:fi}(Pv:Nat->St->ah->Prop) (h0:Pv 0 J H) (aD:∀i J H,i<=kvs.length->Pv i J H->H a∣.cc o (.bc kvs))
  (aI:∀i k v b J H,kvs[i]?∣(k,v)->H b∣.tup (k.map bq)->Pv i J H->g (.ref b) J H λdu aE=>bj { D with aP:=Pv (i+1),bW:=Pv (i+1),b3:=D.aP } du aE) (hd:∀J H,Pv kvs.length J H->D.aP J H):
  ∃W:Nat->Nat->St->ah->Prop,(∃m,W 0 m J H)/\∀i m J H,W i m J H->
   ((mW a o kvs).stop i H/\D.aP J H)\/((mW a o kvs).go i H/\∃N:St->ah->Prop,(∀a7 H',N a7 H'->∃ba,ba<m/\W (i+1) ba a7 H')/\∀x H',(mW a o kvs).gy i H x H'->g x J H' λdu aE=>bj { D with aP:=N,bW:=N,b3:=D.aP } du aE):=by
 refine⟨λi m J H=>m=kvs.length-i/\i<=kvs.length/\Pv i J H,⟨kvs.length,by simp,zero_le _,h0⟩,?_⟩;rintro i m J H ⟨rfl,au,p⟩;by_cases cF:i<kvs.length
 ·refine .inr ⟨⟨aD i J H au p,cF⟩,Pv (i+1),λa7 H' gj=>⟨kvs.length-(i+1),⋯,rfl,cF,gj⟩,λx H' y=>?_⟩;obtain⟨e,b,k,v,ar,aw,bV⟩:=y;subst e ar;exact aI i k v b J _ aw bV p
 ·have e:i=kvs.length:=⋯
  subst e;exact .inl ⟨⟨aD _ J H (wa8 _) p,wa8 _⟩,hd J H p⟩
section
variable {prog:Program}{w:World}{d:Addr}
end
theorem Fy {k:Nat}(r:da k A):A.units+64+1<cLine:=by have:=r.un;omega
theorem ints_of:∀{ns:List Int}{us:List Value},Vals (ns.map V.int) us->∃xs:List (Int×Tok),us=xs.map (λp=>Value.int p.1 p.2)/\xs.map (·.1)=ns
 | [],_,r=>by rw[map_nil]at r;cases r;exact⟨[],rfl,rfl⟩
 | n::ns,_,r=>by
  rw[map_cons]at r;cases r with
  | cons h t=>
   obtain⟨u,rfl⟩:=h;obtain⟨xs,rfl,e⟩:=ints_of t;exact⟨(n,u)::xs,rfl,by rw[map_cons,e]⟩
theorem wh (xs:List (Int×Tok))(i:Nat):numAt xs.toArray i=(xs.map (·.1)).getD i 0:=by
 unfold numAt;rw[getD_eq_getElem?_getD,getElem?_map];simp
section
variable {X:Cx}
end
section
variable {prog:Program}{w:World}{K:Type} [DecidableEq K]{knd:KeyKind prog w K}{A:Around}{R:Result->Shared->Prop}
end
section
variable {prog:Program}{w:World}{K:Type} [DecidableEq K]{knd:KeyKind prog w K}{A:Around}{E:wvP}{s:Shared}
end
section
variable {X:Cx}
end
end L2
variable {q:Int}{sg:List Nat}
namespace Fl
open PySem L2
theorem Fz:∀{l m:List Int},l.Pairwise (· < ·)->m.Pairwise (· < ·)->(∀x,x∈l↔x∈m)->l=m
 | [],[],_,_,_=>rfl
 | [],b::m,_,_,h=>by have:=(h b).mpr (by simp);simp at this
 | a::l,[],_,_,h=>by have:=(h a).mp (by simp);simp at this
 | a::l,b::m,aD,hm,h=>by
  obtain⟨e2,e3⟩:=List.pairwise_cons.mp aD;obtain⟨eO,dh⟩:=List.pairwise_cons.mp hm;have e:a=b:=by
   rcases mem_cons.mp ((h a).mp (by simp)) with z|z
   ·exact z
   ·rcases mem_cons.mp ((h b).mpr (by simp)) with y|y
    ·exact y.symm
    ·have:=eO a z
     have:=e2 b y
     omega
  subst e;congr 1
  refine Fz e3 dh λx=>⟨λaq=>?_,λaq=>?_⟩
  ·rcases mem_cons.mp ((h x).mp (mem_cons_of_mem _ aq)) with z|z
   ·have:=e2 x aq
    omega
   ·exact z
  ·rcases mem_cons.mp ((h x).mpr (mem_cons_of_mem _ aq)) with z|z
   ·have:=eO x aq
    omega
   ·exact z
theorem QU {x y:Int}(h:x*x+y*y=1):(x=0/\(y=1\/y=-1))\/(y=0/\(x=1\/x=-1)):=by
 have key:∀z:Int,z<=z*z/\-z<=z*z:=λz=>by
  by_cases hz:0<=z
  ·by_cases aa:z=0
   ·subst aa;decide
   ·have:=Int.mul_nonneg hz (show 0<=z-1 by omega)
    rw[Int.mul_sub,Int.mul_one]at this;omega
  ·have:=Int.mul_nonneg (show 0<=-z by omega) (show 0<=-z-1 by omega)
   rw[Int.mul_sub,Int.neg_mul_neg,Int.mul_one]at this;omega
 have k1:=key x
 have k2:=key y
 have di:0<=x*x:=⋯
 have dO:0<=y*y:=⋯
 have aq:x=0\/x=1\/x=-1:=⋯
 have bg:y=0\/y=1\/y=-1:=⋯
 rcases aq with rfl|rfl|rfl<;>rcases bg with rfl|rfl|rfl<;>simp_all
theorem wi {w c b:Int}(hw:0<w) (h:c=w*b+q) (h0:0<=q) (aa:q<w):c/w=b/\c%w=q:=by
 subst h;constructor
 ·rw[Int.add_comm,Int.add_mul_ediv_left _ _ ⋯,Int.ediv_eq_zero_of_lt h0 aa];omega
 ·rw[Int.add_comm,Int.add_mul_emod_self_left,Int.emod_eq_of_lt h0 aa]
def mX (c:Nat):Prop:=c=46\/c=35\/c=43\/c=126\/c=124
structure Good (w h:Nat)(sg:List Nat):Prop where
 cZ:1<=w
 ey:w<=10
 h0:1<=h
 aa:h<=10
 len:sg.length=w*h
 ok:∀c∈sg,mX c
 cell:∃c∈sg,c≠35
def txt (cs:List Nat):Str:=⟨cs.toArray⟩
def gQ (w:Nat)(sg:List Nat)(j:Nat):Str:=txt ((sg.drop (w*j)).take w)
def linesOf (w h:Nat)(sg:List Nat):List Str:=(range h).map (gQ w sg)
theorem jv {w h:Nat}(g:Good w h sg):1<=sg.length/\sg.length<=100:=by
 rw[g.len];exact⟨mul_le_mul g.cZ g.h0,mul_le_mul g.ey g.aa⟩
theorem rk (cs:List Nat):(txt cs).length=cs.length:=by simp[txt,Str.length]
theorem pV (cs:List Nat):(txt cs).cps.toList=cs:=by simp[txt]
theorem FA {w h:Nat}(aZ:j<h):w*j+w<=w*h:=by
 have:=Nat.mul_le_mul_left w (show j+1<=h from aZ)
 rw[Nat.mul_add,Nat.mul_one]at this;exact this
theorem l7 {w h:Nat}(g:Good w h sg)(aZ:j<h):(gQ w sg j).length=w:=by
 have:=FA (w:=w) aZ
 have:=g.len
 unfold gQ;rw[rk,length_take,length_drop];omega
theorem mY (w h:Nat)(sg:List Nat):(linesOf w h sg).length=h:=by simp[linesOf]
theorem l8 {w h:Nat}(aZ:j<h):(linesOf w h sg)[j]?∣gQ w sg j:=by
 simp[linesOf,aZ]
theorem FC (w:Nat)(sg:List Nat):∀h:Nat,((range h).map λj=>(sg.drop (w*j)).take w).flatten=sg.take (w*h)
 | 0=>by simp
 | h+1=>by
  rw[range_succ,map_append,List.flatten_append,FC w sg h,Nat.mul_add,Nat.mul_one];simp[List.take_add]
theorem FD:∀aF:List Str,(Txt.join (!"") aF).cps.toList=(aF.map (·.cps.toList)).flatten:=by
 have e:∀aF:List Str,(Str.join (!"") aF).cps.toList=(aF.map (·.cps.toList)).flatten:=by
  intro aF;have cy:(!"").cps.toList=[]:=∅
  induction aF with
  | nil=>rfl
  | cons x r bE=>
   cases r with
   | nil=>simp[Str.join]
   | cons y r=>
    show(x++Str.ofString ""++Str.join (!"") (y::r)).cps.toList=_
    rw[E8,E8,cy,bE];simp
 intro aF;show(Builtin.Str.glued (!"") aF).cps.toList=_
 rw[StrLaws.glued_eq_join,e]
theorem FE {w h:Nat}(g:Good w h sg):Txt.join (!"") (linesOf w h sg)=txt sg:=by
 refine v7 ?_;rw[FD,pV];unfold linesOf;rw[map_map];have:((λx:Str=>x.cps.toList) ∘ gQ w sg)=λj=>(sg.drop (w*j)).take w:=by
  funext j
  exact pV _
 rw[this,FC,<- g.len,take_length]
theorem FF {w h:Nat}(g:Good w h sg):((linesOf w h sg).map (·.length)).sum+(linesOf w h sg).length*(!"").length<=16777216:=by
 have cy:(!"").length=0:=∅
 have:∀n,n<=h->(((range n).map (gQ w sg)).map (·.length)).sum=n*w:=by
  intro n;induction n with
  | zero=>intro _;simp
  | succ n bE=>
   intro hn;rw[range_succ,map_append,map_append,List.sum_append,bE ⋯];simp[l7 g (show n<h by omega),Nat.add_mul]
 unfold linesOf;rw[cy,this h (wa8 _)];have:=mul_le_mul g.aa g.ey
 omega
theorem QV {w h:Nat}(g:Good w h sg):∀c∈(gQ w sg j).cps.toList,mX c:=by
 intro c ak;unfold gQ at ak;rw[pV]at ak;exact g.ok c (List.mem_of_mem_drop (List.mem_of_mem_take ak))
def at_ (sg:List Nat)(i:Int):Nat:=sg.getD i.toNat 0
def gH (sg:List Nat)(i:Int):Bool:=decide (0<=i)&&decide (i<sg.length)&&!decide (at_ sg i=35)
def tu (sg:List Nat):V->Bool
 | .int i=>gH sg i
 | _=>false
def places (sg:List Nat):List Int:=(range sg.length).map λi=>((i:Nat):Int)
def cellsOf (sg:List Nat):List Int:=(places sg).filter λi=>!decide (at_ sg i=35)
theorem wj {i:Int}:i∈places sg↔0<=i/\i<sg.length:=by
 unfold places;rw[mem_map];constructor
 ·rintro⟨j,aZ,rfl⟩;have:=mem_range.mp aZ
  omega
 ·intro h;exact⟨i.toNat,mem_range.mpr ⋯,⋯⟩
theorem QW (sg:List Nat):(places sg).Pairwise (· < ·):=by
 unfold places;rw[List.pairwise_map];exact List.Pairwise.imp (λh=>by omega) List.pairwise_lt_range
theorem QX (sg:List Nat):cellsOf sg=(places sg).filter (gH sg):=by
 unfold cellsOf;refine List.filter_congr λi au=>?_;have:=wj.mp au
 unfold gH;rw[decide_eq_true this.1,decide_eq_true this.2];rfl
theorem wk {i:Int}:i∈cellsOf sg↔gH sg i=true:=by
 rw[QX,mem_filter,wj];unfold gH;simp only[and_eq_true,decide_eq_true_eq];constructor
 ·intro h;exact h.2
 ·intro h;exact⟨h.1,h⟩
def kZ (w:Nat)(c:Int):List Int:=[c-w]++(if c%w>0 then [c-1] else [])++(if c%w<(w:Int)-1 then [c+1] else [])++[c+w]
def dc (w:Nat)(sg:List Nat)(c:Int):List Int:=(kZ w c).filter (gH sg)
def wm (w:Nat)(sg:List Nat)(c:Int):List Int:=(cellsOf sg).filter λo=>decide ((o/w-c/w)*(o/w-c/w)+(o%w-c%w)*(o%w-c%w)=1)
theorem FG {w h:Nat}(g:Good w h sg){c:Int}(dj:0<=c) (cL:c<sg.length):dc w sg c=wm w sg c:=by
 have cZ:(0:Int)<w:=by have:=g.cZ;omega
 have d9:=emod_nonneg c (show(w:Int)≠0 by omega)
 have a8:=emod_lt_of_pos c cZ
 have rl:=Int.mul_ediv_add_emod c w
 refine Fz ?_ ?_ λo=>?_
 ·unfold dc kZ;refine List.Pairwise.filter _ ?_;by_cases a1:c%w>0<;>by_cases a2:c%w<(w:Int)-1<;>simp[a1,a2,List.pairwise_cons]<;>omega
 ·unfold wm cellsOf;exact((QW sg).filter _).filter _
 ·unfold dc wm;rw[mem_filter,mem_filter,wk,decide_eq_true_eq];have mem:o∈kZ w c↔o=c-w\/(c%w>0/\o=c-1)\/(c%w<(w:Int)-1/\o=c+1)\/o=c+w:=by
   unfold kZ;by_cases a1:c%w>0<;>by_cases a2:c%w<(w:Int)-1<;>simp[a1,a2]
  rw[mem];constructor
  ·rintro⟨hm,aA⟩;refine⟨aA,?_⟩;rcases hm with rfl|⟨a1,rfl⟩|⟨a2,rfl⟩|rfl
   ·obtain⟨ar,aw⟩:=wi (c:=c-w) (b:=c/w-1) (q:=c%w) cZ (by rw[Int.mul_sub,Int.mul_one];omega) d9 a8;rw[ar,aw,show c/(w:Int)-1-c/w=-1 by omega,Int.sub_self];rfl
   ·obtain⟨ar,aw⟩:=wi (c:=c-1) (b:=c/w) (q:=c%w-1) cZ ⋯ ⋯ ⋯;rw[ar,aw,show c%(w:Int)-1-c%w=-1 by omega,Int.sub_self];rfl
   ·obtain⟨ar,aw⟩:=wi (c:=c+1) (b:=c/w) (q:=c%w+1) cZ ⋯ ⋯ ⋯;rw[ar,aw,show c%(w:Int)+1-c%w=1 by omega,Int.sub_self];rfl
   ·obtain⟨ar,aw⟩:=wi (c:=c+w) (b:=c/w+1) (q:=c%w) cZ (by rw[Int.mul_add,Int.mul_one];omega) d9 a8;rw[ar,aw,show c/(w:Int)+1-c/w=1 by omega,Int.sub_self];rfl
  ·rintro⟨aA,aI⟩;refine⟨?_,aA⟩;have hF:=emod_nonneg o (show(w:Int)≠0 by omega)
   have bX:=emod_lt_of_pos o cZ
   have n7:=Int.mul_ediv_add_emod o w
   rcases QU aI with⟨x0,fo⟩|⟨jW,x1⟩
   ·have e:o/(w:Int)=c/w:=⋯
    rw[e]at n7;rcases fo with fo|fo
    ·exact .inr (.inr (.inl ⟨⋯,⋯⟩))
    ·exact .inr (.inl ⟨⋯,⋯⟩)
   ·rcases x1 with x1|x1
    ·have e:o/(w:Int)=c/w+1:=⋯
     rw[e,Int.mul_add,Int.mul_one]at n7;exact .inr (.inr (.inr ⋯))
    ·have e:o/(w:Int)=c/w-1:=⋯
     rw[e,Int.mul_sub,Int.mul_one]at n7;exact .inl ⋯
theorem QY {w h:Nat}(g:Good w h sg){c:Int}(dj:0<=c) (cL:c<sg.length):(c/w).toNat<h/\0<=c/w/\0<=c%w/\c%w<w/\(gQ w sg (c/w).toNat).cps.toList[(c%w).toNat]?∣at_ sg c:=by
 have cZ:(0:Int)<w:=by have:=g.cZ;omega
 have d9:=emod_nonneg c (show(w:Int)≠0 by omega)
 have a8:=emod_lt_of_pos c cZ
 have rl:=Int.mul_ediv_add_emod c w
 have wo:=Int.ediv_nonneg dj (show(0:Int)<=w by omega)
 obtain⟨j,aZ⟩:=eq_ofNat_of_zero_le wo;obtain⟨r,a5⟩:=eq_ofNat_of_zero_le d9;rw[aZ,a5]at rl ⊢;rw[a5]at a8;have len:=g.len
 have ak:c=((w*j+r:Nat):Int):=by rw[<- rl];simp
 have QZ:j<h:=by
  have:w*j<w*h:=⋯
  exact Nat.lt_of_mul_lt_mul_left this
 refine⟨by simpa using QZ,⋯,⋯,a8,?_⟩;unfold gQ at_;rw[pV,ak];simp only[toNat_natCast];rw[List.getElem?_take_of_lt ⋯,List.getElem?_drop];have:w*j+r<sg.length:=⋯
 simp[this]
end Fl
variable {cL cD:List Int}
namespace Wy
open PySem L2
def ef (H:ah)(v:V)(b:Int)(cs:List Int):Prop:=∃p q,v=.ref p/\H p∣.tup [.int b,.ref q]/\H q∣.tup (cs.map V.int)
theorem ef.same {b:Int}(e:aQ H H') (h:ef H v b cs):ef H' v b cs:=by
 obtain⟨p,q,aa,ag,aR⟩:=h;exact⟨p,q,aa,e _ _ ag,e _ _ aR⟩
def idx (b:Int)(cs:List Int)(t:Int):Int:=if (cs.length:Int)-1<t-b then(cs.length:Int)-1 else t-b
def b7 (b:Int)(cs:List Int)(t:Int):V:=if t<b then .bx else .int (cs.getD (idx b cs t).toNat 0)
theorem FH {b:Int}{t:Int}(h:b<=t) (ak:cs≠[]):0<=idx b cs t/\idx b cs t<cs.length:=by
 have:0<cs.length:=length_pos_iff.mpr ak
 unfold idx;split<;>omega
theorem k4 (b:Int)(cs:List Int)(t:Int):b7 b cs t=.bx\/∃z,b7 b cs t=.int z:=by
 unfold b7;split
 ·exact .inl rfl
 ·exact .inr ⟨_,rfl⟩
theorem tv {b:Int}{t:Int}:b7 b cs t=.bx↔t<b:=by
 unfold b7;split
 ·simp_all
 ·simp_all
theorem wq {b:Int}{t t':Int}(ak:cs≠[]) (h:b+(cs.length:Int)-1<=t) (h':b+(cs.length:Int)-1<=t'):b7 b cs t=b7 b cs t':=by
 have aD:0<cs.length:=length_pos_iff.mpr ak
 have e:idx b cs t=idx b cs t':=by
  unfold idx;split<;>split<;>omega
 unfold b7;rw[aB ⋯,aB ⋯,e]
def Q0:Str:="at"
def Q1:Str:="through"
def rm (p gj q q':V):Option Str:=if p=q then some Q0 else if gj=q/\q'=p then some Q1 else none
theorem Q2 (p gj q q':V):rm p gj q q'=rm q q' p gj:=by
 unfold rm;by_cases h:p=q
 ·rw[aM h,aM h.symm]
 ·rw[aB h,aB (show ¬q=p from λz=>h z.symm)];by_cases ag:gj=q/\q'=p
  ·rw[aM ag,aM ⟨ag.2,ag.1⟩]
  ·rw[aB ag,aB (λz=>ag ⟨z.2,z.1⟩)]
def hI (ct:Int)(cL:List Int)(b6:Int)(cD:List Int)(t:Int):Option Str:=rm (b7 ct cL t) (b7 ct cL (t+1)) (b7 b6 cD t) (b7 b6 cD (t+1))
def i8 (ct:Int)(cL:List Int)(b6:Int)(cD:List Int):Option (Int×Str)->Prop
 | none=>∀t,ct<=t->b6<=t->hI ct cL b6 cD t=none
 | some (t,w)=>ct<=t/\b6<=t/\hI ct cL b6 cD t∣w/\∀t',ct<=t'->b6<=t'->t'<t->hI ct cL b6 cD t'=none
theorem i8.uniq {ct:Int}{b6:Int}{o bQ:Option (Int×Str)} (h:i8 ct cL b6 cD o) (h':i8 ct cL b6 cD bQ):o=bQ:=by
 cases o with
 | none=>
  cases bQ with
  | none=>rfl
  | some x=>
   obtain⟨t,w⟩:=x;obtain⟨aa,ag,aR,_⟩:=h';rw[h t aa ag]at aR;cases aR
 | some x=>
  obtain⟨t,w⟩:=x;obtain⟨aa,ag,aR,b4⟩:=h;cases bQ with
  | none=>
   rw[h' t aa ag]at aR;cases aR
  | some y=>
   obtain⟨t',eo⟩:=y;obtain⟨g1,g2,g3,pW⟩:=h';have e:t=t':=by
    rcases Int.lt_trichotomy t t' with z|z|z
    ·rw[pW t aa ag z]at aR;cases aR
    ·exact z
    ·rw[b4 t' g1 g2 z]at g3;cases g3
   subst e;rw[aR]at g3;cases g3;rfl
theorem i8.comm {ct:Int}{b6:Int}{o:Option (Int×Str)} (h:i8 ct cL b6 cD o):i8 b6 cD ct cL o:=by
 have e:∀t,hI b6 cD ct cL t=hI ct cL b6 cD t:=λt=>Q2 _ _ _ _
 cases o with
 | none=>exactλt aa ag=>by rw[e];exact h t ag aa
 | some x=>
  obtain⟨t,w⟩:=x;obtain⟨aa,ag,aR,b4⟩:=h;exact⟨ag,aa,by rwa[e],λt' g1 g2 g3=>by rw[e];exact b4 t' g2 g1 g3⟩
theorem Q3 {ct:Int}{b6:Int}{e t:Int}(pX:cL≠[]) (n2:cD≠[]) (aa:ct+(cL.length:Int)-1<=e) (ag:b6+(cD.length:Int)-1<=e) (bC:e<=t) (h:hI ct cL b6 cD e=none):hI ct cL b6 cD t=none:=by
 have a1:b7 ct cL t=b7 ct cL e:=wq pX ⋯ aa
 have a2:b7 ct cL (t+1)=b7 ct cL (e+1):=wq pX ⋯ ⋯
 have fY:b7 b6 cD t=b7 b6 cD e:=wq n2 ⋯ ag
 have hJ:b7 b6 cD (t+1)=b7 b6 cD (e+1):=wq n2 ⋯ ⋯
 unfold hI at h ⊢;rwa[a1,a2,fY,hJ]
theorem i8.none_of {ct:Int}{b6:Int}{e:Int}(pX:cL≠[]) (n2:cD≠[]) (aa:ct+(cL.length:Int)-1<=e) (ag:b6+(cD.length:Int)-1<=e) (h:∀t,ct<=t->b6<=t->t<=e->hI ct cL b6 cD t=none):i8 ct cL b6 cD none:=by
 have e2:0<cL.length:=length_pos_iff.mpr pX
 have e3:0<cD.length:=length_pos_iff.mpr n2
 intro t g1 g2;by_cases bC:t<=e
 ·exact h t g1 g2 bC
 ·exact Q3 pX n2 aa ag ⋯ (h e ⋯ ⋯ (wa9 _))
def Q4 (H:ah)(r:V):Option (Int×Str)->Prop
 | none=>r=.bx
 | some (t,w)=>∃p,r=.ref p/\H p∣.tup [.int t,.str w]
end Wy
namespace L2
open PySem PySem.Spec PyProof.Rows
theorem FI {k:Key}(h:(eN P w).is k u=true):RelV (bq k) u:=by
 cases k with
 | inl i=>
  cases u<;>simp_all [eN,nP,Value.isInt,bq,RelV]
 | inr x=>
  cases u<;>simp_all [eN,nP,Value.isStrOf,bq,RelV]
section
variable {X:Cx}{pins:List (Addr×Obj)}{J:St}{H:ah}{s:Shared}{a:Addr}
theorem Inv.Q5 {kvs:List (Key×V)}(I:Inv X pins J H s)(e:H a∣.bO kvs){o:Obj}(aA:s.heap.get? a∣o):Inv X pins J (upd H a (.cc o (.bO kvs))) s:=by
 refine I.re e nofun nofun nofun (λo w z=>?_) ⟨aA,(show de X.prog X.w H s.heap a (.bO kvs) from I.a6 a _ e)⟩;have:=I.base.fE a o w z
 rw[e]at this;cases this
theorem Inv.thawK {kvs:List (Key×V)}{o:Obj}(I:Inv X pins J H s) (e:H a∣.cc o (.bO kvs)) (b5:∀o w,X.c5 a≠some (.cc o w)):Inv X pins J (upd H a (.bO kvs)) s:=
 I.re e nofun nofun nofun b5 (show de X.prog X.w (upd H a (.bO kvs)) s.heap a (.bO kvs) from(show de X.prog X.w H s.heap a (.cc o (.bO kvs)) from I.a6 a _ e).2)
end
def oo (a:Addr)(o:Obj)(kvs:List (Key×V)):gZ:=
 ⟨λi H=>H a∣.cc o (.bO kvs)/\i<kvs.length,λi H x H'=>H'=H/\∃k v,x=bq k/\kvs[i]?∣(k,v),λi H=>H a∣.cc o (.bO kvs)/\kvs.length<=i⟩
theorem pairs_at {es:List DictEntry}{vs:List (Key×Value)} (h:Pairs (eN P w) es vs):∀{i:Nat}{q:Key×Value},vs[i]?∣q->∃e,es[i]?∣e/\(eN P w).is q.1 e.key=true:=by
 induction h with
 | nil=>intro i q e;cases e
 | cons h _ _ bE=>
  intro i q e;cases i with
  | zero=>cases e;exact⟨_,rfl,h⟩
  | succ i=>rw[List.getElem?_cons_succ]at e ⊢;exact bE e
theorem FJ (a it:Addr) (o:Obj) (kvs:List (Key×V)) (es:Array DictEntry) (cC:Nat) (gP:o.data=.dict es cC):Turn P w K cS (oo a o kvs) [it] it (λi h=>h.IsKeyIter it a i es.size cC) where
 mem:=by simp
 obj:=λi h st b ae=>by
  have e:b=it:=by simpa using ae
  subst e;obtain⟨o,e,c,d⟩:=st;exact⟨o,e,λv z=>by rw[d]at z;cases z⟩
 keep:=λi h h' st k=>st.at λo e=>k it (by simp) o e
 item:=by
  intro X df hw c9 ak i pins s J H E I hf st bD;subst df hw c9;obtain⟨ao,aq⟩:=bD;obtain⟨gG,z,hd,vs,rel,bQ,fF,nS,eg,zU,jV,tp,tq,rn⟩:=(show de X.prog X.w H s.heap a (.cc o (.bO kvs)) from I.a6 a _ ao);rw[gG]at eg;cases eg;rw[gP]at jV;cases jV;obtain⟨bF,g7⟩:∃bF,kvs[i]?∣bF:=⟨_,getElem?_eq_getElem aq⟩;obtain⟨q,tr,a8,bK⟩:=Paired.ju rel g7;obtain⟨b8,zX,ro⟩:=pairs_at tq tr;have zV:es[i]?∣b8:=by simpa using zX
  obtain⟨f0,f1,f2,eB,f4,eC⟩:=hf it (by simp);refine Fu st gG gP zV λh' fu jL=>?_;have aO:Inv X pins J H { s with heap:=h' }:=I.turned (t':=s.toks) (λb o ae e=>(jL.2 b ae).trans e) f0 f1 eB f4 eC
  obtain⟨fm,e,c,d⟩:=id fu;exact⟨_,rfl,qY (s:={ s with heap:=h' }) e c d ∅ ⟨bq q.1,H,aO,FI ro,⟨rfl,bF.1,bF.2,by rw[a8],g7⟩,fu,λb ae=>(hf b ae).1⟩⟩
 done:=by
  intro X df hw c9 ak i pins s J H E I hf st bD;subst df hw c9;obtain⟨ao,aq⟩:=bD;obtain⟨gG,z,hd,vs,rel,bQ,fF,nS,eg,zU,jV,tp,tq,rn⟩:=(show de X.prog X.w H s.heap a (.cc o (.bO kvs)) from I.a6 a _ ao);rw[gG]at eg;cases eg;rw[gP]at jV;cases jV;have hsz:=tq.length
  have aD:=Paired.length rel
  obtain⟨f0,f1,f2,eB,f4,eC⟩:=hf it (by simp);exact Fv (I.calm ak) st gG gP (by simp only[Array.length_toList]at hsz;omega) λh' eb=>⟨rfl,I.turned (t':=s.toks) (λb o ae e=>eb b o ae e) f0 f1 eB f4 eC⟩
 self:=λ_ _ _ _ _ st h=>wpAny_pyIter_keyiter st h
def FK (bM:TE):TI:=λJ H R=>bM J H λx H1=>∃a kvs,x=.ref a/\((H1 a∣.bO kvs/\∀o,R (oo a o kvs) (upd H1 a (.cc o (.bO kvs))))\/∃o,H1 a∣.cc o (.bO kvs)/\R (oo a o kvs) H1)
theorem tw {l:Expr}(aD:PE X l cX):PI X cS l (FK cX):=by
 intro pins s J H R I h;refine bz (aD pins s J H _ I h) λv s1 ⟨x,H1,aO,bX,a8⟩=>?_;obtain⟨a,kvs,e,q⟩:=a8;subst e;cases bX;rcases q with⟨ao,q⟩|⟨o,ao,q⟩
 ·obtain⟨z,hd,vs,rel,dd⟩:=y1 aO.a6 ao;obtain⟨o,es,cC,aA,ak,kY,_⟩:=dd;refine zS hd aA ak kY ?_;have bu:=aO.Q5 ao aA
  refine⟨↑s1,[↑s1],_,_,_,rfl,bu.kept (t':=s1.toks) λb o e=>get?_push_of_some _ e,FJ a _ o kvs es cC kY,⟨_,get?_push_size _ rfl,rfl,rfl⟩,λb ae=>?_,q o⟩;have e:b=↑s1:=by simpa using ae
  subst e;exact bu.mH (wa8 _) (bu.a6.fresh (wa8 _))
 ·obtain⟨aA,z,hd,vs,rel,bQ,es,cC,eg,ak,kY,_⟩:=(show de X.prog X.w H1 s1.heap a (.cc o (.bO kvs)) from aO.a6 a _ ao);rw[aA]at eg;cases eg;refine zS hd aA ak kY ?_;refine⟨↑s1,[↑s1],_,_,_,rfl,aO.kept (t':=s1.toks) λb o e=>get?_push_of_some _ e,FJ a _ o kvs es cC kY,⟨_,get?_push_size _ rfl,rfl,rfl⟩,λb ae=>?_,q⟩;have e:b=↑s1:=by simpa using ae
  subst e;exact aO.mH (wa8 _) (aO.a6.fresh (wa8 _))
def Ends.thawK (D:Ends)(a:Addr)(kvs:List (Key×V)):Ends where
 aP:=λJ H=>(∃o,H a∣.cc o (.bO kvs))/\D.aP J (upd H a (.bO kvs))
 ih:=λv H=>(∃o,H a∣.cc o (.bO kvs))/\D.ih v (upd H a (.bO kvs))
 b3:=λJ H=>(∃o,H a∣.cc o (.bO kvs))/\D.b3 J (upd H a (.bO kvs))
 bW:=λJ H=>(∃o,H a∣.cc o (.bO kvs))/\D.bW J (upd H a (.bO kvs))
def zjs (t:cV):cV:=λD J H=>(∃a kvs,H a∣.bO kvs/\t (D.thawK a kvs) J H)\/t D J H
theorem FL {t:cV}(h:PS X st t):PS X st (zjs t):=by
 intro pins s J H D I q;rcases q with⟨a,kvs,e,q⟩|q
 ·have b5:∀o w,X.c5 a≠some (.cc o w):=λo w z=>by
   have:=I.base.fE a o w z
   rw[e]at this;cases this
  refine bz (h pins s J H _ I q) λf s' y=>?_;cases f with
  | next=>obtain⟨a7,H',dt,⟨o,z⟩,d⟩:=y;exact⟨a7,_,dt.thawK z b5,d⟩
  | brk=>obtain⟨a7,H',dt,⟨o,z⟩,d⟩:=y;exact⟨a7,_,dt.thawK z b5,d⟩
  | cont=>obtain⟨a7,H',dt,⟨o,z⟩,d⟩:=y;exact⟨a7,_,dt.thawK z b5,d⟩
  | ret u=>obtain⟨v,a7,H',dt,cf,⟨o,z⟩,d⟩:=y;exact⟨v,a7,_,dt.thawK z b5,cf,d⟩
 ·exact h pins s J H D I q
def zhh (t:TE):TE:=λJ H Q=>(∃a kvs,H a∣.bO kvs/\t J H λv H'=>(∃o,H' a∣.cc o (.bO kvs))/\Q v (upd H' a (.bO kvs)))\/t J H Q
theorem zY {t:TE}(h:PE X e t):PE X e (zhh t):=by
 intro pins s J H Q I q;rcases q with⟨a,kvs,a4,q⟩|q
 ·have b5:∀o w,X.c5 a≠some (.cc o w):=λo w z=>by
   have:=I.base.fE a o w z
   rw[a4]at this;cases this
  refine bz (h pins s J H _ I q) λu s' ⟨v,H',dt,cf,⟨o,z⟩,d⟩=>?_;exact⟨v,_,dt.thawK z b5,cf,d⟩
 ·exact h pins s J H Q I q
theorem zZ {o:Obj}{kvs:List (Key×V)}(h:H a∣.cc o (.bO kvs)):pM (oo a o kvs) H (kvs.map λbF=>bq bF.1):=
 ⟨λi au=>⟨h,by simpa using au⟩,λi x H' au y=>⟨y.1,by
  obtain⟨_,k,v,e,aj⟩:=y;rw[getElem?_map,aj,e];rfl⟩,⟨h,by simp⟩⟩
theorem FN {o:Obj}{kvs:List (Key×V)}{g:fi}(Pv:Nat->St->ah->Prop) (h0:Pv 0 J H) (aD:∀i J H,i<=kvs.length->Pv i J H->H a∣.cc o (.bO kvs))
  (aI:∀i k v J H,kvs[i]?∣(k,v)->Pv i J H->g (bq k) J H λdu aE=>bj { D with aP:=Pv (i+1),bW:=Pv (i+1),b3:=D.aP } du aE) (hd:∀J H,Pv kvs.length J H->D.aP J H):
  ∃W:Nat->Nat->St->ah->Prop,(∃m,W 0 m J H)/\∀i m J H,W i m J H->
   ((oo a o kvs).stop i H/\D.aP J H)\/((oo a o kvs).go i H/\∃N:St->ah->Prop,(∀a7 H',N a7 H'->∃ba,ba<m/\W (i+1) ba a7 H')/\∀x H',(oo a o kvs).gy i H x H'->g x J H' λdu aE=>bj { D with aP:=N,bW:=N,b3:=D.aP } du aE):=by
 refine⟨λi m J H=>m=kvs.length-i/\i<=kvs.length/\Pv i J H,⟨kvs.length,by simp,zero_le _,h0⟩,?_⟩;rintro i m J H ⟨rfl,au,p⟩;by_cases cF:i<kvs.length
 ·refine .inr ⟨⟨aD i J H au p,cF⟩,Pv (i+1),λa7 H' gj=>⟨kvs.length-(i+1),⋯,rfl,cF,gj⟩,λx H' y=>?_⟩;obtain⟨e,k,v,ar,aw⟩:=y;subst e ar;exact aI i k v J _ aw p
 ·have e:i=kvs.length:=⋯
  subst e;exact .inl ⟨⟨aD _ J H (wa8 _) p,wa8 _⟩,hd J H p⟩
theorem Inv.sorted {a e:Nat}{out:Array Value}(I:Inv X pins J H s) (aj:∀b o,s.heap.get? b∣o->h'.get? b∣o) (aN:↑s<=a)
  (hm:IntsAre out.toList ms) (hz:ms.length<=sizeLine) (aA:h'.get? a∣seqObj "list" out e):Inv X pins J (upd H a (.lst (ms.map V.int))) { s with heap:=h',toks:=tk }:=
 I.laid (t':=tk) aj aN (show de X.prog X.w _ h' _ (.lst (ms.map V.int)) from⟨by rwa[length_map],out.toList,e,vM hm,by rw[aA]⟩)
section
variable {prog:Program}{w:World}{A:Around}{E:wvP}{s:Shared}{K:Type} [DecidableEq K]{knd:KeyKind prog w K}{d:Addr}{kvs:List (K×Value)}{cC:Nat}
theorem Q6 {Q:List Value->Shared->Prop}(bN:A.handled=none) (lo:(d==sysModules)=false) (hd:s.heap.DictAt knd d kvs cC) (hn:kvs.length<=sizeLine)
  (h:∀(h':Heap) tk (vs:List Value),(∀b o,s.heap.get? b∣o->h'.get? b∣o)->↑s<h'.objs.size->vs.length=kvs.length->(∀(j:Nat)(v:Value),vs[j]?∣v->∃k x,kvs[j]?∣(k,x)/\knd.is k v=true)->Q vs { s with heap:=h',toks:=tk }):
  wpAny (model prog w) A (collect (.ref d)) Q E s:=by
 have lt:=hd.lt_size
 have cb:(s.heap.push (seqObj "list" #[] 0)).get? ↑s∣(seqObj "list" #[] 0):=get?_push_size _ rfl
 have pe:(s.heap.push (seqObj "list" #[] 0)).DictAt knd d kvs cC:=hd.push _
 unfold collect;refine ax (wpAny_runValue (codeAny_builtin entry_proto_collect' (ax (wpAny_newList (bw ⟨Code.quiet_builtin _ ∅,codeAny_builtin entry_list_iadd' ?_⟩)))));show wpAny (model prog w) A.in1 (Builtin.List.listExtendWith (.ref ↑s) (.ref d) (.ref ↑s)) _ _ _
 have lay:∀{h':Heap}{tk:Nat}{acc:Array Value}{c:Nat},(∀b o,b≠↑s->(s.heap.push (seqObj "list" #[] 0)).get? b∣o->h'.get? b∣o)->h'.get? ↑s=some { cls:=.type "list",dict:=none,data:=.seq acc c,slots:=#[] }->
   ItemsOf (λi v=>∃k x,kvs[i]?∣(k,x)/\knd.is k v=true) acc kvs.length->Q acc.toList { s with heap:=h',toks:=tk }:=λ{h'} {tk} {acc} {c} aj aD kU=>
  h h' tk acc.toList (λb o ae=>aj b o (ne_of_lt (lt_size ae)) (get?_push_of_some _ ae)) (lt_size aD) (by rw[Array.length_toList];exact kU.1) λj v e=>kU.2 j v (by simpa using e)
 have R:=PySem.W.kdl_extend (A:=A) (s:={ s with heap:=s.heap.push (seqObj "list" #[] 0) }) (R:=λr s'=>r=.ok (.ret (.ref ↑s))/\∃acc c,s'.heap.get? ↑s=some { cls:=.type "list",dict:=none,data:=.seq acc c,slots:=#[] }/\Q acc.toList s')
  (PySem.W.kdl_dict lo) bN pe ↑s (ne_of_gt lt) (ne_of_gt lt) (.ref ↑s) 0 cb (λh' tk acc c aj aD kU=>⟨rfl,acc,c,aD,lay aj aD kU⟩) hn
 refine wpAny_mono R (λf s' y=>?_) λe s' y=>by cases y.1
 cases f with
 | done f=>
  obtain⟨e,acc,c,aD,q⟩:=y;cases e;exact ax (wpAny_load aD (bw q))
 | again aY=>
  refine⟨y.1,codeAny_mono y.2 λr s2 z=>?_⟩;obtain⟨e,acc,c,aD,q⟩:=z;subst e;exact ax (wpAny_load aD (bw q))
theorem Q7 (bN:A.handled=none) (lo:(d==sysModules)=false) (hd:s.heap.DictAt knd d kvs cC) (hn:kvs.length<64)
  (rb:∀vs:List Value,vs.length=kvs.length->(∀(j:Nat)(v:Value),vs[j]?∣v->∃k x,kvs[j]?∣(k,x)/\knd.is k v=true)->IntsAre vs ns)
  (h:∀(h':Heap)(tk:Nat)(a e:Nat)(out:Array Value)(ms:List Int),(∀b o,s.heap.get? b∣o->h'.get? b∣o)->↑s<=a->h'.get? a∣seqObj "list" out e->IntsAre out.toList ms->ms.Perm ns->ms.Pairwise (·<=·)->Q (.ref a) { s with heap:=h',toks:=tk }):
  wpAny (model prog w) A (call (.builtin "sorted") [.ref d]) Q E s:=by
 refine Calls.call_function_entry kind_sorted plain_sorted entry_sorted (args_sorted1 (.ref d)) (show wpAny _ _ (Builtin.«sorted» _) _ _ _ from ?_);unfold Builtin.«sorted»;refine ax (m:=checkCount "sorted" 1 1 _) (bw (ax (Q6 bN lo hd (by rw[sizeLine_eq];omega) λaa tk vs aj le aD aJ=>ax (wpAny_newList ?_))));have sA:(aa.push (seqObj "list" vs.toArray 0)).get? aa.objs.size∣seqObj "list" vs.toArray 0:=get?_push_size _ rfl
 have he:∀out:Array Value,∃e,(sortedHeap (aa.push (seqObj "list" vs.toArray 0)) aa.objs.size vs out).get? aa.objs.size∣seqObj "list" out e:=λout=>sortedHeap_at sA
 have kept:∀(out:Array Value) b o,s.heap.get? b∣o->(sortedHeap (aa.push (seqObj "list" vs.toArray 0)) aa.objs.size vs out).get? b∣o:=λout b o ae=>by
  have e2:=lt_size (aj b o ae)
  rw[sortedHeap_old (ne_of_lt e2) (by rw[size_push'];exact Nat.lt_succ_of_lt e2)];exact get?_push_of_some _ (aj b o ae)
 refine ax (wpAny_holding (wpAny_call_entry slot_list_sort ⟨_,sA,rfl⟩ entry_list_sort (list_sort_tree sA (rb vs aD aJ) ⋯ λout ms p1 ew fM=>⟨.none,rfl,bw ⟨_,rfl,?_⟩⟩) (args_list_sort _)));obtain⟨e,he⟩:=he out;exact h _ tk _ e out ms (kept out) (Nat.le_of_lt le) he p1 ew fM
end
theorem FO {P:Program}{w:World}:∀(ks:List Int)(us:List Value),us.length=ks.length->(∀(j:Nat)(v:Value),us[j]?∣v->∃k,ks[j]?∣k/\(eN P w).is (.inl k) v=true)->IntsAre us ks
 | [],[],_,_=>.nil
 | [],_::_,h,_=>by simp at h
 | _::_,[],h,_=>by simp at h
 | k::ks,u::us,h,f=>by
  obtain⟨eG,e,aj⟩:=f 0 u rfl;cases e;obtain⟨t,rfl⟩:=(show ∃t,u=Value.int k t from FI aj);exact .cons k t (FO ks us (by simpa using h) λj v e=>by
   obtain⟨eG,a4,h'⟩:=f (j+1) v (by simpa using e);exact⟨eG,by simpa using a4,h'⟩)
theorem Q8 {kvs:List (Int×V)}{vs:List (Key×Value)} (rel:fh (kvs.map λq=>((Sum.inl q.1:Key),q.2)) vs){k:Key}{x:Value}(h:vs[j]?∣(k,x)):∃n,(kvs.map (·.1))[j]?∣n/\k=.inl n:=by
 obtain⟨q,ao,e,_⟩:=Paired.at2 rel h;rw[getElem?_map]at ao;obtain⟨p,aG,rfl⟩:=map_eq_some_iff.mp ao;exact⟨p.1,by rw[getElem?_map,aG];rfl,e.symm⟩
theorem FP (ak:X.calm=true):g4 X (.builtin "sorted") (λxs H Q=>∃p,∃kvs:List (Int×V),xs=[.ref p]/\jj H p (.bO (kvs.map λq=>((Sum.inl q.1:Key),q.2)))/\kvs.length<64/\
  ∀ms:List Int,ms.Perm (kvs.map (·.1))->ms.Pairwise (·<=·)->∀l,H l=none->Q (.ref l) (upd H l (.lst (ms.map V.int)))):=by
 intro pins s J H xs us Q I r h;obtain⟨p,kvs,rfl,e,aD,q⟩:=h;obtain⟨u,rfl,bf⟩:=vals1 r;cases bf;obtain⟨z,hd,vs,rel,o,es,cC,rest⟩:=lZ I.a6 e;have lv:vs.length=kvs.length:=by rw[<- rel.length,length_map]
 refine Q7 (knd:=eN X.prog X.w) (ns:=kvs.map (·.1)) (I.ok.hd ak) hd ⟨o,es,rest⟩ ⋯ (λws hw aJ=>FO (P:=X.prog) (w:=X.w) _ ws (by rw[hw,lv,length_map]) λj v e=>?_) λh' tk a e out ms aj aN aA aa ag aR=>?_
 ·obtain⟨k,x,aq,ro⟩:=aJ j v e;obtain⟨n,hn,rfl⟩:=Q8 rel aq;exact⟨n,hn,ro⟩
 ·have hm:=ag.length_eq
  rw[length_map]at hm;exact⟨.ref a,_,I.sorted (tk:=tk) aj aN aa (by rw[sizeLine_eq];omega) aA,rfl,q ms ag aR _ (I.a6.fresh aN)⟩
end L2
variable {c aY:List Int}{b1 cell:Int}
namespace Bk
open PySem L2 Wy
def tx (b:Int)(c:List Int):Prop:=c≠[]/\c.length<=100/\0<=b/\b<=200
structure Ent where
 k:Int
 v:V
 b:Int
 c:List Int
def bF (es:List Ent):List (Int×V):=es.map λe=>(e.k,e.v)
def c0 (es:List Ent):List (Key×V):=(bF es).map λq=>((Sum.inl q.1:Key),q.2)
def Q9 (k:Int):Prop:=0<=k/\k<=40
def FQ (H:ah)(e:Ent):Prop:=ef H e.v e.b e.c/\tx e.b e.c/\Q9 e.k
structure hK (H:ah)(es:List Ent):Prop where
 ok:∀e∈es,FQ H e
 nd:(es.map (·.k)).Nodup
def fZ (H H':ah):Prop:=∀b xs,H b∣.tup xs->H' b∣.tup xs
theorem mZ (s:aQ H H'):fZ H H':=λb xs h=>s b _ h
theorem ef.cH {b:Int}(t:fZ H H') (h:ef H v b c):ef H' v b c:=by
 obtain⟨p,q,e,aa,ag⟩:=h;exact⟨p,q,e,t _ _ aa,t _ _ ag⟩
theorem hK.cH {es:List Ent}(h:hK H es) (t:fZ H H'):hK H' es:=⟨λe he=>⟨ef.cH t (h.ok e he).1,(h.ok e he).2⟩,h.nd⟩
theorem len_sub:∀{l m:List Int},l.Nodup->(∀x∈l,x∈m)->l.length<=m.length
 | [],m,_,_=>zero_le _
 | x::l,m,nd,h=>by
  have aq:=h x (by simp)
  have bE:=len_sub (l:=l) (m:=m.erase x) (nodup_cons.mp nd).2 λy bg=>(List.mem_erase_of_ne (show y≠x from λz=>(nodup_cons.mp nd).1 (by rwa[<- z]))).mpr (h y (by simp[bg]))
  have e:=List.length_erase_of_mem aq
  have:0<m.length:=List.length_pos_of_mem aq
  simp only[length_cons];omega
theorem hK.len {es:List Ent}(h:hK H es):es.length<=41:=by
 have:=len_sub (m:=(range 41).map λj:Nat=>(j:Int)) h.nd (λx aq=>by
  obtain⟨e,he,rfl⟩:=mem_map.mp aq;obtain⟨h0,aa⟩:=(h.ok e he).2.2;exact mem_map.mpr ⟨e.k.toNat,mem_range.mpr ⋯,⋯⟩)
 simpa using this
def tA (es:List Ent)(n:Int):List Ent:=es.filter λe=>decide (e.k≠n)
def m1 (es:List Ent)(e:Ent):List Ent:=if (es.any λx=>decide (x.k=e.k))=true then es.map (λx=>if x.k=e.k then e else x) else es++[e]
theorem pY {es:List Ent}{e:Ent}(nd:(es.map (·.k)).Nodup) (he:e∈es):aS (c0 es) (.inl e.k)∣e.v:=by
 induction es with
 | nil=>cases he
 | cons x es bE=>
  by_cases z:x.k=e.k
  ·rcases mem_cons.mp he with rfl|he
   ·exact i1 (p:=((Sum.inl e.k:Key),e.v)) rfl
   ·exact br (mem_map.mpr ⟨e,he,z.symm⟩) (nodup_cons.mp nd).1
  ·rcases mem_cons.mp he with rfl|he
   ·exact br rfl z
   ·exact(iv (p:=((Sum.inl x.k:Key),x.v)) (λy=>z (Sum.inl.inj y))).trans (bE (nodup_cons.mp nd).2 he)
theorem FR {es:List Ent}{e a4:Ent}(nd:(es.map (·.k)).Nodup) (he:e∈es) (jw:a4∈es) (h:a4.k=e.k):a4=e:=by
 induction es with
 | nil=>cases he
 | cons x es bE=>
  obtain⟨aP,cI⟩:=nodup_cons.mp nd;rcases mem_cons.mp he with z|z<;>rcases mem_cons.mp jw with y|y
  ·rw[z,y]
  ·exact br (mem_map.mpr ⟨a4,y,by rw[h,z]⟩) aP
  ·exact br (mem_map.mpr ⟨e,z,by rw[<- h,y]⟩) aP
  ·exact bE cI z y
theorem FT:∀{es:List Ent}{n:Int},(∀e∈es,e.k≠n)->aS (c0 es) (.inl n)=none
 | [],_,_=>rfl
 | x::es,n,h=>(iv (p:=((Sum.inl x.k:Key),x.v)) (λy=>h x (by simp) (Sum.inl.inj y))).trans (FT λe he=>h e (by simp[he]))
theorem rp (es:List Ent):(c0 es).length=es.length:=by simp[c0,bF]
theorem Ra (es:List Ent):(bF es).length=es.length:=by simp[bF]
theorem Rb (es:List Ent):(bF es).map (·.1)=es.map (·.k):=by simp[bF]
theorem Rc (es:List Ent)(n:Int):((c0 es).any λbF=>decide (bF.1=Sum.inl n))=es.any λx=>decide (x.k=n):=by
 unfold c0 bF;rw[map_map,List.any_map];refine congrArg (λf=>List.any es f) (funext λx=>?_);simp[Function.comp]
theorem FU (es:List Ent)(e:Ent):putK (c0 es) (.inl e.k) e.v=c0 (m1 es e):=by
 unfold putK m1;rw[Rc];split
 ·unfold c0 bF;simp only[map_map];refine map_congr_left λx _=>?_;simp only[Function.comp];by_cases z:x.k=e.k
  ·rw[aM (by rw[z]),aM z,z]
  ·rw[aB (λy=>z (Sum.inl.inj y)),aB z]
 ·simp[c0,bF]
theorem hK.put {es:List Ent}{e:Ent}(h:hK H es) (he:FQ H e):hK H (m1 es e):=by
 unfold m1;split
 ·refine⟨λx aq=>?_,?_⟩
  ·obtain⟨y,bg,rfl⟩:=mem_map.mp aq;split
   ·exact he
   ·exact h.ok y bg
  ·have:(es.map λx=>if x.k=e.k then e else x).map (·.k)=es.map (·.k):=by
    rw[map_map];refine map_congr_left λx _=>?_;simp only[Function.comp];split
    ·rename_i z;exact z.symm
    ·rfl
   rw[this];exact h.nd
 ·rename_i hn;refine⟨λx aq=>?_,?_⟩
  ·rcases mem_append.mp aq with z|z
   ·exact h.ok x z
   ·rwa[mem_singleton.mp z]
  ·rw[map_append];refine y7 h.nd λz=>hn ?_;obtain⟨y,bg,ar⟩:=mem_map.mp z;exact any_eq_true.mpr ⟨y,bg,decide_eq_true ar⟩
theorem hK.drop {es:List Ent}(n:Int) (h:hK H es):hK H (tA es n):=
 ⟨λe he=>h.ok e (mem_filter.mp he).1,(List.Sublist.map _ List.filter_sublist).nodup h.nd⟩
def iz (b:Int)(c:List Int)(b1:Int)(aY:List Int):Prop:=∃x,i8 b c b1 aY (some x)
theorem FV {b:Int}{o:Option (Int×Str)} (h:i8 b c b1 aY o):iz b c b1 aY↔o.isSome=true:=by
 constructor
 ·rintro⟨x,aq⟩;rw[h.uniq aq];rfl
 ·intro z;obtain⟨x,rfl⟩:=isSome_iff_exists.mp z;exact⟨x,h⟩
def tD (es:List Ent)(n b:Int)(c:List Int):Option Int->Prop
 | none=>∀e∈es,e.k≠n->¬iz b c e.b e.c
 | some k=>k≠n/\(∃e∈es,e.k=k/\iz b c e.b e.c)/\∀e∈es,e.k≠n->iz b c e.b e.c->k<=e.k
theorem Rd {es:List Ent}{n b:Int}(aG:ms.Perm (es.map (·.k))) (h:∀e∈es,e.k∈ms.take ms.length->e.k≠n->¬iz b c e.b e.c):tD es n b c none:=
 λe he hn=>h e he (by rw[take_length];exact aG.mem_iff.mpr (mem_map.mpr ⟨e,he,rfl⟩)) hn
theorem Rf {es:List Ent}{n b:Int}{e:Ent}(aG:ms.Perm (es.map (·.k))) (aI:ms.Pairwise (·<=·)) (au:ms[i]?∣e.k) (he:e∈es) (hn:e.k≠n) (hm:iz b c e.b e.c) (h:∀e∈es,e.k∈ms.take i->e.k≠n->¬iz b c e.b e.c):tD es n b c (some e.k):=by
 refine⟨hn,⟨e,he,rfl,hm⟩,λa4 jw yp pZ=>?_⟩;have m2:a4.k∈ms:=aG.mem_iff.mpr (mem_map.mpr ⟨a4,jw,rfl⟩)
 obtain⟨j,aZ⟩:=mem_iff_getElem?.mp m2;by_cases z:j<i
 ·exact br pZ (h a4 jw (mem_iff_getElem?.mpr ⟨j,by rwa[List.getElem?_take,aM z]⟩) yp)
 ·rcases lt_or_ge i j with y|y
  ·exact List.pairwise_iff_getElem.mp aI i j (wa4.mp au).1 (wa4.mp aZ).1 y |> λq=>by
    rw[(wa4.mp au).2,(wa4.mp aZ).2]at q;exact q
  ·obtain rfl:i=j:=⋯;have:=wa5 (au.symm.trans aZ)
   omega
theorem FW {es:List Ent}{n b:Int}{k:Int}(au:ms[i]?∣k) (h:∀e∈es,e.k∈ms.take i->e.k≠n->¬iz b c e.b e.c) (ag:∀e∈es,e.k=k->e.k≠n->¬iz b c e.b e.c):∀e∈es,e.k∈ms.take (i+1)->e.k≠n->¬iz b c e.b e.c:=λe he bC hn=>by
 rw[take_add_one,au]at bC;rcases mem_append.mp bC with z|z
 ·exact h e he z hn
 ·exact ag e he (by simpa using z) hn
theorem wt {b:Int}(h:ef H v b c):Den K H v (.tuple [.int b,.tuple (c.map PyData.int)]):=by
 obtain⟨p,q,rfl,aa,ag⟩:=h;exact .tup (bT.of aa) (.cons (.int b) (.cons (s7 (bT.of ag)) .nil))
def wl (d:Addr):List (Str×V):=dG "ways" (.ref d) []
theorem p0 (d:Addr):(wl d).lookup ("ways":Str)∣.ref d:=by unfold wl;rw[zm,aM rfl]
theorem jx (d:Addr){f:Str}(h:f≠"ways"):(wl d).lookup f=none:=by unfold wl;rw[zm,aB h];rfl
structure kl (C:Addr)(H:ah)(p d:Addr)(es:List Ent):Prop where
 ob:∃av,H p∣.ins C av (wl d)
 bj:H d∣.bO (c0 es)
def v6 (k:Addr)(H H':ah):Prop:=∀b o,H b∣o->b≠k->H' b∣o
theorem gr {k:Addr}(s:aQ H H'):v6 k H H':=λb o h _=>s b o h
theorem h3 {k:Addr}{H1:ah}{o:a3}(s:v6 k H H1):v6 k H (upd H1 k o):=λb u h n=>by rw[zf n];exact s b u h n
theorem v6.new {k:Addr}{H1:ah}{l:Addr}{o:a3}(s:v6 k H H1) (nl:H1 l=none):v6 k H (upd H1 l o):=λb u h n=>(bb nl) b u (s b u h n)
theorem v6.cH {k:Addr}(s:v6 k H H') (h:∀xs,H k≠some (.tup xs)):fZ H H':=λb xs e=>s b _ e λz=>h xs (z ▸ e)
theorem kl.same {es:List Ent}(h:kl C H p d es) (s:aQ H H'):kl C H' p d es:=⟨by obtain⟨av,e⟩:=h.ob;exact⟨av,s _ _ e⟩,s _ _ h.bj⟩
structure Row where
 p:Addr
 d:Addr
 e:Addr
 es:List Ent
structure Apart (r s:Row):Prop where
 dd:r.d≠s.d
 aen:r.d≠s.e
 FX:r.e≠s.d
 rq:r.e≠s.e
structure Rg (C:Addr)(H:ah)(r:Row):Prop where
 b3:kl C H r.p r.d r.es
 c2:H r.e∣.bO (c0 r.es)
 b8:hK H r.es
 ne:r.d≠r.e
structure Rows (C:Addr)(H:ah)(rs:List Row):Prop where
 ok:∀r∈rs,Rg C H r
 ap:∀(i j:Nat)(r s:Row),rs[i]?∣r->rs[j]?∣s->i≠j->Apart r s
theorem DY (f:Row->α){rs:List Row}{w:Nat}{r c1:Row}(hw:rs[w]?∣r) (h:f c1=f r):(rs.set w c1).map f=rs.map f:=by
 rw[List.map_set,h];refine List.ext_getElem? λi=>?_;rw[List.getElem?_set];by_cases z:w=i
 ·subst z;rw[aM rfl,getElem?_map,hw];simp[(List.getElem?_eq_some_iff.mp hw).1]
 ·rw[aB z]
theorem FY {b:Addr}{kvs:List (Key×V)} (h:H a∣.tup xs) (g:H b∣.bO kvs):a≠b:=cM h g nofun
theorem made {x:Addr}{km fm o3 rr:a3}(aP:H x=none) (oq:H av=none) (nn:av≠x) (ik:upd (upd H av km) x fm d=none):aQ H (upd (upd (upd (upd H av km) x fm) d o3) x rr)/\d≠x/\H d=none:=by
 have ez:d≠x:=λz=>by rw[z,aH]at ik;cases ik
 have dd:d≠av:=λz=>by rw[zf ez,z,aH]at ik;cases ik
 have hd:H d=none:=by rw[zf ez,zf dd]at ik;exact ik
 refine⟨λb o e=>?_,ez,hd⟩;rwa[zf (cg e aP),zf (cg e hd),zf (cg e aP),zf (cg e oq)]
theorem Rh:hK H []:=⟨λe he=>(by cases he),nodup_nil⟩
theorem Ri (b:Int)(c:List Int)(b1:Int)(aY:List Int):∃o,i8 b c b1 aY o:=by
 by_cases h:∃t,b<=t/\b1<=t/\hI b c b1 aY t≠none
 ·obtain⟨t,aa,ag,aR⟩:=h;have go:∀(n:Nat)(t:Int),b<=t->b1<=t->(t-b).toNat<n->hI b c b1 aY t≠none->∃o,i8 b c b1 aY o:=by
   intro n;induction n with
   | zero=>intro t _ _ hn _;omega
   | succ n bE=>
    intro t aa ag hn aR;by_cases z:∃t',b<=t'/\b1<=t'/\t'<t/\hI b c b1 aY t'≠none
    ·obtain⟨t',g1,g2,g3,pW⟩:=z;exact bE t' g1 g2 ⋯ pW
    ·cases hw:hI b c b1 aY t with
     | none=>exact br hw aR
     | some w=>exact⟨some (t,w),aa,ag,hw,λt' g1 g2 g3=>Classical.byContradiction λpW=>z ⟨t',g1,g2,g3,pW⟩⟩
  exact go _ t aa ag (lt_succ_self _) aR
 ·exact⟨none,λt aa ag=>Classical.byContradiction λg=>h ⟨t,aa,ag,g⟩⟩
theorem Rj {b:Int}(h:¬iz b c b1 aY):i8 b c b1 aY none:=by
 obtain⟨o,aA⟩:=Ri b c b1 aY;cases o with
 | none=>exact aA
 | some x=>exact br ⟨x,aA⟩ h
theorem Rk {b:Int}(h:iz b c b1 aY):iz b1 aY b c:=by
 obtain⟨x,aq⟩:=h;exact⟨x,aq.comm⟩
def iA (es:List Ent):Prop:=∀e∈es,∀a4∈es,e.k≠a4.k->¬iz e.b e.c a4.b a4.c
theorem iA.put {es:List Ent}{n b:Int}(h:iA es) (p:tD es n b c none):iA (m1 es ⟨n,v,b,c⟩):=by
 have mem:∀x∈m1 es ⟨n,v,b,c⟩,x=⟨n,v,b,c⟩\/(x∈es/\x.k≠n):=λx aq=>by
  unfold m1 at aq;split at aq
  ·obtain⟨y,bg,rfl⟩:=mem_map.mp aq;split
   ·exact .inl rfl
   ·rename_i z;exact .inr ⟨bg,z⟩
  ·rename_i hn;rcases mem_append.mp aq with z|z
   ·exact .inr ⟨z,λy=>hn (any_eq_true.mpr ⟨x,z,decide_eq_true y⟩)⟩
   ·exact .inl (mem_singleton.mp z)
 intro e he a4 jw aW hm;rcases mem e he with rfl|⟨eO,di⟩<;>rcases mem a4 jw with rfl|⟨dh,dO⟩
 ·exact aW rfl
 ·exact p a4 dh dO hm
 ·exact p e eO di (Rk hm)
 ·exact h e eO a4 dh aW hm
theorem iA.sub {es aT:List Ent}(h:iA es) (s:∀x∈aT,x∈es):iA aT:=λe he a4 jw aW hm=>h e (s e he) a4 (s a4 jw) aW hm
theorem Rl {b:Int}{t z:Int}(h:¬iz b c b1 aY) (p:b7 b c t=.int z) (q:b7 b1 aY t=.int z):False:=by
 have aa:b<=t:=Int.not_lt.mp λy=>by rw[tv.mpr y]at p;cases p
 have ag:b1<=t:=Int.not_lt.mp λy=>by rw[tv.mpr y]at q;cases q
 have:=Rj h t aa ag
 unfold hI rm at this;rw[p,q,aM rfl]at this;cases this
def bk (es:List Ent)(n:Int):List Ent:=tA es n
theorem kn {es:List Ent}{n:Int}{e:Ent}:e∈bk es n↔e∈es/\e.k≠n:=by simp[bk,tA]
structure k6 (es:List Ent)(t:Int)(kvs:List (Key×V)):Prop where
 p2:∀(z:Int)(v:V),aS kvs (Sum.inl z)∣v->∃e∈es,b7 e.b e.c (t+1)=.int z/\b7 e.b e.c t=v
 to:∀e∈es,∀z:Int,b7 e.b e.c (t+1)=.int z->(aS kvs (Sum.inl z)).isSome=true
 len:kvs.length<=es.length
def m3 (es:List Ent)(cell other t:Int):Prop:=∀e∈es,b7 e.b e.c (t+1)≠.int other/\¬(b7 e.b e.c t=.int other/\b7 e.b e.c (t+1)=.int cell)
theorem Rm {es:List Ent}{t other:Int}{kvs:List (Key×V)} (h:k6 es t kvs) (a:iA es) (nd:(es.map (·.k)).Nodup):(aS kvs (Sum.inl other)=none/\(aS kvs (Sum.inl cell)).getD .bx≠.int other)↔m3 es cell other t:=by
 constructor
 ·rintro⟨aa,ag⟩ e he;refine⟨λz=>?_,λz=>?_⟩
  ·have:=h.to e he other z
   rw[aa]at this;cases this
  ·obtain⟨eu,eP⟩:=z;obtain⟨v,aJ⟩:=isSome_iff_exists.mp (h.to e he cell eP);obtain⟨aw,dh,ew,bK⟩:=h.p2 cell v aJ
   by_cases fy:aw.k=e.k
   ·rw[FR nd he dh fy,eu]at bK;exact ag (by rw[aJ,<- bK];rfl)
   ·exact Rl (a aw dh e he fy) ew eP
 ·intro o;refine⟨?_,λz=>?_⟩
  ·cases aJ:aS kvs (Sum.inl other) with
   | none=>rfl
   | some v=>
    obtain⟨e,he,p,_⟩:=h.p2 other v aJ
    exact br p (o e he).1
  ·cases aJ:aS kvs (Sum.inl cell) with
   | none=>rw[aJ]at z;cases z
   | some v=>
    rw[aJ]at z;obtain⟨e,he,p,q⟩:=h.p2 cell v aJ
    exact(o e he).2 ⟨by rwa[q],p⟩
theorem Rn {t:Int}:k6 [] t []:=⟨λz v h=>(by cases h),λe he=>(by cases he),wa8 _⟩
theorem Ro {es:List Ent}{t:Int}{kvs:List (Key×V)}{e:Ent}(h:k6 es t kvs) (p:b7 e.b e.c (t+1)=.bx):k6 (es++[e]) t kvs:=by
 refine⟨λz v aJ=>?_,λx aq z h4=>?_,by rw[length_append];have:=h.len;omega⟩
 ·obtain⟨x,aq,r⟩:=h.p2 z v aJ
  exact⟨x,mem_append.mpr (.inl aq),r⟩
 ·rcases mem_append.mp aq with y|y
  ·exact h.to x y z h4
  ·rw[mem_singleton.mp y,p]at h4;cases h4
theorem Rp {es:List Ent}{t:Int}{kvs z0:List (Key×V)}{e:Ent}{rt:Int}(h:k6 es t kvs) (p:b7 e.b e.c (t+1)=.int rt) (aJ:∀j,aS z0 j=if j=Sum.inl rt then some (b7 e.b e.c t) else aS kvs j) (aD:z0.length<=kvs.length+1):k6 (es++[e]) t z0:=by
 refine⟨λz v hz=>?_,λx aq z h4=>?_,by rw[length_append];have:=h.len;simp;omega⟩
 ·rw[aJ]at hz;split at hz
  ·rename_i y;cases y;exact⟨e,by simp,p,wa5 hz⟩
  ·obtain⟨x,aq,r⟩:=h.p2 z v hz
   exact⟨x,mem_append.mpr (.inl aq),r⟩
 ·rw[aJ];split
  ·rfl
  ·rename_i y;rcases mem_append.mp aq with w|w
   ·exact h.to x w z h4
   ·rw[mem_singleton.mp w,p]at h4;cases h4;exact br rfl y
def cG (c:List Int):Int:=c.getD (c.length-1) 0
structure k7 (es:List Ent)(cell n:Int):Prop where
 pos:0<=n
 low:∀e∈es,∀t,0<=t->b7 e.b e.c t=.int cell->t<n
 hit:n=0\/∃e∈es,b7 e.b e.c (n-1)=.int cell
theorem k7.uniq {es:List Ent}{n jo:Int}(h:k7 es cell n) (h':k7 es cell jo):n=jo:=by
 have one:∀{n jo:Int},k7 es cell n->k7 es cell jo->¬n<jo:=λ{n jo} h h' z=>by
  rcases h'.hit with y|⟨e,he,p⟩
  ·have:=h.pos;omega
  ·have:=h.low e he (jo-1) (by have:=h.pos;omega) p
   omega
 have:=one h h'
 have:=one h' h
 omega
def ko (es:List Ent)(cell:Int)(v:V):Prop:=(v=.bx/\∃e∈es,cG e.c=cell)\/∃n,v=.int n/\(∀e∈es,cG e.c≠cell)/\k7 es cell n
theorem ko.uniq {es:List Ent}{ep:V}(h:ko es cell v) (h':ko es cell ep):v=ep:=by
 rcases h with⟨aa,e,he,ag⟩|⟨n,aa,ag,aR⟩<;>rcases h' with⟨g1,a4,ge,g2⟩|⟨jo,g1,g2,g3⟩
 ·rw[aa,g1]
 ·exact br ag (g2 e he)
 ·exact br g2 (ag a4 ge)
 ·rw[aa,g1,aR.uniq g3]
def tE (b:Int)(c:List Int)(cell n:Int)(m:Nat):Prop:=(n=0/\∀i,i<m->c[i]?≠some cell)\/∃i,i<m/\c[i]?∣cell/\n=b+(i:Nat)+1/\∀j,i<j->j<m->c[j]?≠some cell
theorem Rq {b:Int}{n x:Int}{m:Nat}(h:tE b c cell n m) (aq:c[m]?∣x):tE b c cell (if x=cell then b+(m:Nat)+1 else n) (m+1):=by
 split
 ·rename_i z;subst z;exact .inr ⟨m,lt_succ_self _,aq,rfl,λj aa ag=>by omega⟩
 ·rename_i z;rcases h with⟨aa,ag⟩|⟨i,aa,ag,aR,b4⟩
  ·refine .inl ⟨aa,λi au y=>?_⟩;rcases Nat.lt_succ_iff_lt_or_eq.mp au with w|w
   ·exact ag i w y
   ·rw[w,aq]at y;exact z (wa5 y)
  ·refine .inr ⟨i,⋯,ag,aR,λj g1 g2 y=>?_⟩;rcases Nat.lt_succ_iff_lt_or_eq.mp g2 with w|w
   ·exact b4 j g1 w y
   ·rw[w,aq]at y;exact z (wa5 y)
theorem Rr {b:Int}{x:Int}(au:c[i]?∣x):b7 b c (b+(i:Nat))=.int x:=by
 obtain⟨aa,ag⟩:=wa4.mp au;have e:idx b c (b+(i:Nat))=(i:Nat):=by
  unfold idx;rw[aB ⋯];omega
 unfold b7;rw[aB ⋯,e,toNat_natCast,getD_eq_getElem?_getD,au];rfl
theorem FZ {b:Int}{t:Int}(ak:c≠[]) (aD:cG c≠cell) (h:b7 b c t=.int cell):∃i:Nat,c[i]?∣cell/\t=b+(i:Nat):=by
 have jy:0<c.length:=length_pos_iff.mpr ak
 have aa:b<=t:=Int.not_lt.mp λy=>by rw[tv.mpr y]at h;cases h
 have h':=h
 unfold b7 at h';rw[aB ⋯]at h';by_cases z:(c.length:Int)-1<t-b
 ·have e:idx b c t=(c.length:Int)-1:=by unfold idx;rw[aM z]
  rw[e,show((c.length:Int)-1).toNat=c.length-1 by omega]at h';exact br (V.int.inj h') aD
 ·have e:idx b c t=t-b:=by unfold idx;rw[aB z]
  rw[e]at h';have au:(t-b).toNat<c.length:=⋯
  refine⟨(t-b).toNat,?_,⋯⟩;rw[getD_eq_getElem?_getD,getElem?_eq_getElem au]at h';rw[getElem?_eq_getElem au];exact congrArg some (V.int.inj h')
theorem Rt:k7 [] cell 0:=⟨wa9 _,λe he=>(by cases he),.inl rfl⟩
theorem Ru {es:List Ent}{n m:Int}{e:Ent}(h:k7 es cell n) (ak:e.c≠[]) (eA:0<=e.b) (aD:cG e.c≠cell) (hm:tE e.b e.c cell m e.c.length):k7 (es++[e]) cell (if m>n then m else n):=by
 have old:∀{x:Int},n<=x->(∀t,0<=t->b7 e.b e.c t=.int cell->t<x)->∀y∈es++[e],∀t,0<=t->b7 y.b y.c t=.int cell->t<x:=λ{x} aa ag y bg t t0 p=>by
  rcases mem_append.mp bg with w|w
  ·have:=h.low y w t t0 p;omega
  ·rw[mem_singleton.mp w]at p;exact ag t t0 p
 have aG:=h.pos
 rcases hm with⟨aa,ag⟩|⟨i,aa,ag,aR,b4⟩
 ·rw[aB ⋯];refine⟨aG,old (wa9 _) (λt t0 p=>?_),h.hit.imp id λ⟨y,bg,r⟩=>⟨y,mem_append.mpr (.inl bg),r⟩⟩;obtain⟨i,au,_⟩:=FZ ak aD p;exact br au (ag i (wa4.mp au).1)
 ·have top:∀t,0<=t->b7 e.b e.c t=.int cell->t<m:=λt t0 p=>by
   obtain⟨j,aZ,iB⟩:=FZ ak aD p;by_cases z:i<j
   ·exact br aZ (b4 j z (wa4.mp aZ).1)
   ·omega
  by_cases z:m>n
  ·rw[aM z];refine⟨⋯,old ⋯ top,.inr ⟨e,by simp,?_⟩⟩;rw[aR,show e.b+(i:Nat)+1-1=e.b+(i:Nat) by omega];exact Rr ag
  ·rw[aB z];exact⟨aG,old (wa9 _) (λt t0 p=>by have:=top t t0 p;omega),h.hit.imp id λ⟨y,bg,r⟩=>⟨y,mem_append.mpr (.inl bg),r⟩⟩
theorem ru {b:Int}{t:Int}(ak:c≠[]) (h:b+(c.length:Int)-1<=t):b7 b c t=.int (cG c):=by
 have jy:0<c.length:=length_pos_iff.mpr ak
 unfold b7;rw[aB ⋯];have e:(idx b c t).toNat=c.length-1:=by
  unfold idx;split<;>omega
 rw[e];rfl
theorem F0 {es:List Ent}{e:Ent}{n:Int}(au:es[i]?∣e):bk (es.take (i+1)) n=if e.k=n then bk (es.take i) n else bk (es.take i) n++[e]:=by
 unfold bk tA;rw[take_add_one,au,filter_append];split
 ·rename_i z;simp[z]
 ·rename_i z;simp[z]
theorem F1 (es:List Ent)(n:Int):bk (es.take es.length) n=bk es n:=by rw[take_length]
def tF (n:Int):V->Bool
 | .int k=>decide (k≠n)
 | _=>true
def z1 (es:List Ent):V->V
 | .int k=>(aS (c0 es) (Sum.inl k)).getD .bx
 | _=>.bx
theorem tG (es:List Ent):((c0 es).map λbF=>bq bF.1)=es.map λe=>V.int e.k:=by
 unfold c0 bF;rw[map_map,map_map];rfl
theorem F2 {es:List Ent}{k:Key}(h:(c0 es)[i]?∣(k,v)):∃e,es[i]?∣e/\k=Sum.inl e.k/\v=e.v:=by
 unfold c0 bF at h;rw[getElem?_map,getElem?_map]at h;cases he:es[i]? with
 | none=>rw[he]at h;cases h
 | some e=>
  rw[he]at h;cases h;exact⟨e,rfl,rfl,rfl⟩
theorem Rv (es:List Ent)(n:Int)(f:V->V)(g:Ent->V)(h:∀e∈es,f (.int e.k)=g e):((((c0 es).map λbF=>bq bF.1).filter (tF n)).map f)=(bk es n).map g:=by
 rw[tG];unfold bk tA;rw[filter_map,map_map];have e:(tF n ∘ λe:Ent=>V.int e.k)=λe:Ent=>decide (e.k≠n):=rfl
 rw[e];exact map_congr_left λx aq=>h x (mem_filter.mp aq).1
theorem rv {aE:ah}{kvs:List (Key×V)} (h:H a∣.bO kvs) (s:v6 a H aE):aQ H (upd aE a (.bO kvs)):=λb o e=>by
 by_cases z:b=a
 ·subst z;rw[h]at e;rw[aH,e]
 ·rw[zf z];exact s b o e z
theorem rx {o:Obj}{es:List Ent}{e:Ent}(hf:H d∣.cc o (.bO (c0 es))) (nd:(es.map (·.k)).Nodup) (he:e∈es):ed H d (.int e.k) (some e.v):=by
 have:ed H d (bq (Sum.inl e.k)) (aS (c0 es) (Sum.inl e.k)):=.inl ⟨_,_,.inr ⟨o,hf⟩,rfl,rfl⟩
 rw[pY nd he]at this;exact this
end Bk
variable {c:Int}
namespace Ly
open PySem L2
section
variable {bt:Type}[DecidableEq bt]
def m4 (kvs:List (bt×V))(k:bt)(d:Int):Int:=match aS kvs k with
 | some (.int q)=>q
 | _=>d
def fe (kvs:List (bt×V))(p:bt×Int):List (bt×V):=if m4 kvs p.1 (-1)<p.2 then putK kvs p.1 (.int p.2) else kvs
structure Nums (kvs:List (bt×V)):Prop where
 nn:∀k v,aS kvs k∣v->∃q:Int,v=.int q/\0<=q
 nd:(kvs.map (·.1)).Nodup
theorem Rw:Nums ([]:List (bt×V)):=⟨λk v h=>(by cases h),nodup_nil⟩
theorem F3 {kvs:List (bt×V)}{k:bt}(h:(aS kvs k).isSome=true):(putK kvs k v).map (·.1)=kvs.map (·.1):=by
 unfold putK;rw[mO,aM h,map_map];refine map_congr_left λp _=>?_;show(if p.1=k then(p.1,v) else p).1=p.1
 split<;>rfl
theorem wu {kvs:List (bt×V)}{k:bt}(hn:(kvs.map (·.1)).Nodup):((putK kvs k v).map (·.1)).Nodup:=by
 cases h:aS kvs k with
 | none=>exact Pd v hn h
 | some x=>rwa[F3 (by rw[h];rfl)]
theorem F4 {kvs:List (bt×V)}{k:bt}{j:bt}(h:j∈(putK kvs k v).map (·.1)):j=k\/j∈kvs.map (·.1):=by
 cases q:aS kvs k with
 | none=>
  rw[Eo v q,map_append]at h;rcases mem_append.mp h with y|y
  ·exact .inr y
  ·exact .inl (by simpa using y)
 | some x=>rw[F3 (by rw[q];rfl)]at h;exact .inr h
theorem Nums.put {kvs:List (bt×V)}{k:bt}(h:Nums kvs) (h0:0<=q):Nums (putK kvs k (.int q)):=by
 refine⟨λj v aJ=>?_,wu h.nd⟩;rw[mP]at aJ;split at aJ
 ·cases aJ;exact⟨q,rfl,h0⟩
 ·exact h.nn j v aJ
theorem Nums.add {kvs:List (bt×V)}{p:bt×Int}(h:Nums kvs) (h0:0<=p.2):Nums (fe kvs p):=by
 unfold fe;split
 ·exact h.put h0
 ·exact h
theorem i9 {kvs:List (bt×V)}{p:bt×V}(nd:(kvs.map (·.1)).Nodup) (aG:p∈kvs):aS kvs p.1∣p.2:=by
 induction kvs with
 | nil=>cases aG
 | cons x r bE=>
  obtain⟨di,dO⟩:=nodup_cons.mp nd;rcases mem_cons.mp aG with rfl|y
  ·exact i1 rfl
  ·have jT:¬x.1=p.1:=λe=>di (mem_map.mpr ⟨p,y,e.symm⟩)
   rw[iv jT];exact bE dO y
theorem Rx {kvs:List (bt×V)}{k:bt}(nd:(kvs.map (·.1)).Nodup) (h:aS kvs k∣v):putK kvs k v=kvs:=by
 unfold putK;rw[mO,h,aM (by rfl)];refine(map_congr_left λp aG=>?_).trans (List.map_id _);show(if p.1=k then(p.1,v) else p)=p
 split
 ·rename_i e;have:=i9 nd aG
  rw[e,h]at this;cases this;rfl
 ·rfl
theorem Ry {kvs:List (bt×V)}{k:bt}(h:Nums kvs) (h0:0<=q):putK kvs k (.int (if m4 kvs k 0>q then m4 kvs k 0 else q))=fe kvs (k,q):=by
 unfold fe m4;cases e:aS kvs k with
 | none=>
  show putK kvs k (.int (if (0:Int)>q then 0 else q))=if (-1:Int)<q then putK kvs k (.int q) else kvs
  rw[aB ⋯,aM ⋯]
 | some v=>
  obtain⟨r,rfl,hF⟩:=h.nn k v e;show putK kvs k (.int (if r>q then r else q))=if r<q then putK kvs k (.int q) else kvs
  by_cases z:r<q
  ·rw[aM z,aB ⋯]
  ·rw[aB z];have aw:(if r>q then r else q)=r:=by split<;>omega
   rw[aw];exact Rx h.nd e
theorem Rz {kvs:List (bt×V)}{p:bt×Int}{j:bt}(h:j∈(fe kvs p).map (·.1)):j=p.1\/j∈kvs.map (·.1):=by
 unfold fe at h;split at h
 ·exact F4 h
 ·exact .inr h
theorem wx:∀{l m:List bt},l.Nodup->(∀x∈l,x∈m)->l.length<=m.length
 | [],_,_,_=>zero_le _
 | a::l,m,nd,h=>by
  obtain⟨di,dO⟩:=nodup_cons.mp nd;have aN:a∈m:=h a mem_cons_self
  have:=wx (m:=m.erase a) dO λx aq=>(List.mem_erase_of_ne (λe=>di (by rwa[<- e]))).mpr (h x (mem_cons_of_mem _ aq))
  rw[List.length_erase_of_mem aN]at this;have:0<m.length:=List.length_pos_of_mem aN
  rw[length_cons];omega
end
def aW (m:Nat)(c:Int):List Key:=[.inl (m:Int),.inl c]
theorem jz {m ba:Nat}{aY:Int}(h:aW m c=aW ba aY):m=ba/\c=aY:=by
 unfold aW at h;injection h with aa ag
 injection ag with ag _
 injection aa with aa
 injection ag with ag
 exact⟨⋯,ag⟩
def p3 (s n:Nat)(kvs:List (List Key×V)):Prop:=∀k∈kvs.map (·.1),∃(m:Nat)(c:Int),k=aW m c/\m<=s/\0<=c/\c<(n:Int)
def ul (s n:Nat):List (List Key):=(range (s+1)).flatMap λm=>(range n).map λc=>aW m (c:Nat)
theorem F5 (s n:Nat):(ul s n).length=(s+1)*n:=by
 unfold ul;generalize s+1=r
 induction r with
 | zero=>simp
 | succ r bE=>rw[range_succ,List.flatMap_append,length_append,bE];simp[Nat.add_mul]
theorem RA {s:Nat} (nd:(kvs.map (·.1)).Nodup) (h:p3 s n kvs):kvs.length<=(s+1)*n:=by
 have:=wx (m:=ul s n) nd λk aj=>by
  obtain⟨m,c,rfl,aa,ag,aR⟩:=h k aj;obtain⟨j,rfl⟩:=eq_ofNat_of_zero_le ag;exact mem_flatMap.mpr ⟨m,mem_range.mpr ⋯,mem_map.mpr ⟨j,mem_range.mpr ⋯,rfl⟩⟩
 rw[length_map,F5]at this;exact this
theorem tH {s:Nat} (nd:(kvs.map (·.1)).Nodup) (h:p3 s n kvs) (aI:s<=100) (hn:n<=100):kvs.length<=10100:=
 wa0 (RA nd h) (mul_le_mul (show s+1<=101 by omega) hn)
theorem RB {s:Nat}{m:Nat}(h:p3 s n kvs) (hm:m<=s) (h0:0<=c) (aa:c<(n:Int)):p3 s n (putK kvs (aW m c) v):=λk aj=>by
 rcases F4 aj with z|z
 ·exact⟨m,c,z,hm,h0,aa⟩
 ·exact h k z
theorem F6 {s:Nat}:p3 s n []:=λk aj=>(by cases aj)
end Ly
variable {cs:L2.St}{nm:String}{ts:List PySem.Addr}{z9:Option PySem.Addr}{ew:PySem.Str}
namespace L2
open PySem PySem.Spec PyProof.Rows
section
variable {prog:Program}{w:World}{K:Type} [DecidableEq K]{knd:HeapKind prog w K}{A:Around}{E:wvP}{s:Shared}
theorem F7 {bt:Type}{f:bt->Int}:∀{l:List bt}{x:bt},(l.map f).Nodup->x∈l->(l.filter λy=>f y==f x).length<=1
 | [],_,_,_=>zero_le _
 | a::l,x,nd,aq=>by
  obtain⟨di,dO⟩:=nodup_cons.mp nd;rw[filter_cons];by_cases e:f a=f x
  ·have none:(l.filter λy=>f y==f x)=[]:=List.filter_eq_nil_iff.mpr λy bg=>by
    intro z;exact di (by rw[e,<- eq_of_beq z];exact mem_map.mpr ⟨y,bg,rfl⟩)
   rw[none];split<;>simp
  ·rw[aB (by simpa using e)];rcases mem_cons.mp aq with rfl|y
   ·exact br rfl e
   ·exact F7 dO y
theorem RC {id:String}{o:Obj}{es cC}{xs:List (K×Addr×Value)}{Q:Array DictEntry->Shared->Prop}(aA:s.heap.get? d∣o) (hd:o.data=.dict es cC) (he:es.toList=xs.map (entryOfKey knd))
  (bC:∀x∈xs,s.TypeIs (.ref x.2.1) "tuple") (bN:(xs.map λx=>knd.hash x.1).Nodup) (h:Q es s):wpAny (model prog w) A (Builtin.Dict.entriesForEmpty id d) Q E s:=by
 unfold Builtin.Dict.entriesForEmpty;refine ax (wpAny_dictEntries aA hd (ax ?_));rw[<- Array.forIn_toList];refine wpAny_forIn_list _ (λrest _ s'=>s'=s/\∀e∈rest,e∈es.toList) _ ?_ ?_ _ _ ⟨rfl,λe z=>z⟩
 ·rintro e rest r s' ⟨rfl,a5⟩;have hm:=a5 e mem_cons_self
  rw[he]at hm;obtain⟨x,aq,rfl⟩:=mem_map.mp hm;have pG:¬(es.filter (·.hash==(entryOfKey knd x).hash)).size>1:=by
   have:=F7 (f:=λy:K×Addr×Value=>knd.hash y.1) bN aq
   have aw:(es.filter (·.hash==(entryOfKey knd x).hash)).toList=(xs.filter λy=>knd.hash y.1==knd.hash x.1).map (entryOfKey knd):=by
    rw[Array.toList_filter,he,filter_map];rfl
   have bV:=congrArg length aw
   rw[Array.length_toList,length_map]at bV;omega
  refine ax (show wpAny _ _ (Builtin.Dict.quietEq (.ref x.2.1)) _ _ _ from ax (wpAny_specialOf (bC x aq) PySem.F.slot_tuple_eq.lookup (bw ?_)));have c3:(some (Value.builtin "tuple.__eq__")==some (Value.builtin "object.__eq__"))=false:=∅
  rw[c3];rw[aM (by rfl),aB pG];exact bw ⟨rfl,λe z=>a5 e (mem_cons_of_mem _ z)⟩
 ·rintro r s' ⟨rfl,_⟩;exact bw h
theorem RD {o:Addr}{xs:List (K×Addr×Value)}{Q:Unit->Shared->Prop}(RE:d≠o) (z2:(o==sysModules)=false) (hd:s.heap.DictOfH knd d []) (aA:s.heap.DictOfH knd o xs)
  (bC:∀x∈xs,s.TypeIs (.ref x.2.1) "tuple") (bN:(xs.map λx=>knd.hash x.1).Nodup) (hsz:xs.length<=sizeLine) (ec:∀h',h'.DictOfH knd d xs->Heap.SameBut d s.heap h'->Q () { s with heap:=h' }):
  wpAny (model prog w) A (Builtin.Dict.mergeDict nm d o) Q E s:=by
 obtain⟨cA,RF,RG,gG,eL,gP,RH,aeo,l9⟩:=id hd;obtain⟨f3,k8,F8,p4,tI,ry,jG,F9,wy⟩:=id aA;have Ga:k8.size=xs.length:=size_of_entries jG
 have z3:RF=#[]:=by
  have:=size_of_entries RH
  exact Array.eq_empty_of_size_eq_zero this
 unfold Builtin.Dict.mergeDict Builtin.Dict.showsAll;rw[aB (by simpa using RE),aB (by rw[z2];exact wa6)];refine ax (bw (ax (wpAny_dictEntries p4 ry ?_)));dsimp only
 cases xs with
 | nil=>
  have h0:k8=#[]:=Array.eq_empty_of_size_eq_zero Ga
  subst h0;rw[aB (by simp)];refine ax (wpAny_dictEpoch p4 ry (ax (wpAny_dictEntries p4 ry (ax ?_))));rw[Std.Legacy.Range.forIn_eq_forIn_range'];show wpAny _ _ (forIn [] PUnit.unit _) _ _ _
  rw[List.forIn_nil];exact bw (bw (ec s.heap hd (Heap.SameBut.refl _ _)))
 | cons x r=>
  have z4:k8[0]?∣entryOfKey knd x:=by rw[entry_at jG 0];rfl
  have pG:(decide (k8.size<=8)&&k8.all λe=>(keyPart e.key).isSome)=false:=by
   have:(k8.all λe=>(keyPart e.key).isSome)=false:=by
    rw[Bool.eq_false_iff];intro z;have:=Array.all_eq_true.mp z 0 (by rw[Ga];simp)
    rw[(Array.getElem?_eq_some_iff.mp z4).2]at this;cases this
   rw[this,Bool.and_false]
  rw[pG];rw[aM (by rfl)];refine ax (wpAny_dictEntries gG gP ?_);subst z3;rw[aM (by rfl)];refine ax (RC p4 ry jG bC bN ?_);have ne:(!k8.isEmpty)=true:=by
   cases hz:k8.isEmpty with
   | false=>rfl
   | true=>
    have:=Array.isEmpty_iff.mp hz
    rw[this]at z4;cases z4
  rw[aM ne];refine ax (wpAny_updateDictKeysTo gG gP (bw (ec _ ⟨_,_,RG+1,get?_update_self _ gG (Obj.isFreed_of_dict (Obj.data_mapDictKeys gP _)),eL.mapDictKeys _,Obj.data_mapDictKeys gP _,jG,λy bg=>knd.keeps (F9 y bg) gG gP (Heap.SameBut.update ..),wy⟩ (Heap.SameBut.update ..))) (by show k8.size<=sizeLine+1;omega))
theorem RI {o:Addr}{xs:List (K×Addr×Value)}(z2:(o==sysModules)=false) (aA:s.heap.DictOfH knd o xs) (bC:∀x∈xs,s.TypeIs (.ref x.2.1) "tuple") (aG:∀x∈xs,knd.is (s.heap.push { cls:=.type "dict",data:=.dict #[] }) x.1 x.2.1)
  (bN:(xs.map λx=>knd.hash x.1).Nodup) (hsz:xs.length<=sizeLine) (h:∀h',h'.DictOfH knd ↑s xs->Heap.SameBut ↑s (s.heap.push { cls:=.type "dict",data:=.dict #[] }) h'->Q (.ref ↑s) { s with heap:=h' }):
  wpAny (model prog w) A (call (.type "dict") [.ref o]) Q E s:=by
 refine callType_codes (Q₁:=λobj d6=>obj=.ref ↑s/\d6={ s with heap:=s.heap.push { cls:=.type "dict",data:=.dict #[] } }) PySem.F.kt_called_dict (PySem.F.kt_typeCall_dict_1 _) PySem.F.entry_dict_init (kt_code_dict_new _ ⟨rfl,rfl⟩) ?_;rintro obj d6 ⟨rfl,rfl⟩;have z5:(s.heap.push { cls:=.type "dict",data:=.dict #[] }).DictOfH knd ↑s []:=Heap.DictOfH.new s.heap
 obtain⟨f3,k8,F8,p4,tI,ry,jG,F9,wy⟩:=id aA;have eg:(s.heap.push { cls:=.type "dict",data:=.dict #[] }).DictOfH knd o xs:=⟨f3,k8,F8,get?_push_of_some _ p4,tI,ry,jG,aG,wy⟩
 have jT:↑s≠o:=λe=>br (lt_size p4) (by rw[e];exact wa7 _)
 refine⟨z5.typeIs,PySem.F.args_dict_init_2 _ _,?_⟩;unfold Builtin.«dict.__init__» Builtin.Dict.selfAndRest;refine ax (ax (wpAny_notOrdered_dict z5.typeIs ?_));refine(show wpAny _ _ (pure (↑s,[Value.ref o])) _ _ _ from bw ?_);show wpAny _ _ (Builtin.Dict.updateFrom _ _ _ _ _) _ _ _
 unfold Builtin.Dict.updateFrom;refine ax (wpAny_typeOf eg.typeIs ?_);rw[aB ∅];refine ax ?_;unfold Builtin.Dict.merge Builtin.Dict.readDirectly;refine ax (ax (wpAny_isInstance eg.typeIs isSubtype_dict_dict ?_));simp only[Bool.not_true,false_eq_true,if_false];refine ax (wpAny_specialOf eg.typeIs PySem.F.slot_dict_iter.lookup (bw ?_));simp only[beq_self_eq_true,if_true];refine ax (bw (RD jT z2 z5 eg (λx aq=>?_) bN hsz λh' pe i4=>?_))
 ·obtain⟨ob,ar,aw⟩:=bC x aq;exact⟨ob,get?_push_of_some _ ar,aw⟩
 ·show wpAny _ _ (Builtin.Dict.addKeywords ↑s []>>=_) _ _ _
  exact ax (bw (bw ⟨rfl,h h' pe i4⟩))
end
def rz:List Key->Int:=λks=>reduceHash (Builtin.Tuple.tupleHashOf (ks.map λk=>match k with|.inl i=>hashInt i|.inr _=>0))
def tJ (k:List Key):Prop:=∀x∈k,∃i:Int,x=.inl i
theorem RJ {k:List Key}(h:tJ k):(tupleKind (eN P w)).hash k=rz k:=by
 show reduceHash (Builtin.Tuple.tupleHashOf (k.map (Dr w)))=_
 unfold rz;congr 2
 refine map_congr_left λx aq=>?_;obtain⟨i,rfl⟩:=h x aq;rfl
theorem RK {xs:List (List Key×Addr×Value)} (r:KT H kvs xs):xs.map (·.1)=kvs.map (·.1):=by
 induction r with
 | nil=>rfl
 | cons h r bE=>rw[map_cons,map_cons,bE,h.1]
def zhm:List V->ah->bo->Prop:=λxs H Q=>∃p kvs,xs=[.ref p]/\H p∣.bc kvs/\(∀k∈kvs.map (·.1),tJ k)/\((kvs.map (·.1)).map rz).Nodup/\∀l,H l=none->Q (.ref l) (upd H l (.bc kvs))
theorem RL:g4 X (.type "dict") zhm:=by
 intro pins s J H xs us Q I r h;obtain⟨p,kvs,rfl,e,z6,hn,q⟩:=h;obtain⟨u,rfl,bf⟩:=vals1 r;cases bf;obtain⟨z,hd,aF,rel,dd⟩:=q5 I.a6 e;have fy:=RK rel
 have key:∀x∈aF,∃t:List V,H x.2.1∣.tup t:=λx aq=>by
  obtain⟨i,au⟩:=getElem?_of_mem aq;obtain⟨bF,_,_,aw,_⟩:=Paired.at2 rel au;exact⟨_,aw⟩
 have lU:(aF.map λx=>(tupleKind (eN X.prog X.w)).hash x.1)=(kvs.map (·.1)).map rz:=by
  rw[<- fy,map_map];refine map_congr_left λx aq=>?_;exact RJ (z6 _ (by rw[<- fy];exact mem_map.mpr ⟨x,aq,rfl⟩))
 obtain⟨_,_,_,_,_,_,_,ro,_⟩:=id dd;refine RI hd dd (λx aq=>?_) (λx aq=>?_) (by rwa[lU]) (by rwa[<- Paired.length rel]) λh' kS aI=>⟨.ref ↑s,_,?_,rfl,q _ (I.a6.fresh (wa8 _))⟩
 ·obtain⟨o,items,n,aa,ag,_⟩:=ro x aq;exact⟨o,aa,ag⟩
 ·obtain⟨o,items,n,aa,ag⟩:=ro x aq;exact⟨o,items,n,get?_push_of_some _ aa,ag⟩
 ·obtain⟨o,es,cC,aa,ag,aR,b4,_,ek⟩:=kS;refine I.laid (t':=s.toks) (λb o ae=>(aI.2 b (ne_of_lt (lt_size ae))).trans (get?_push_of_some _ ae)) (wa8 _) ⟨z,beq_eq_false_iff_ne.mpr (Ne.symm (ne_of_lt I.big)),aF,?_,o,es,cC,aa,ag,aR,b4,ek⟩;refine Paired.fp rel λa b y=>⟨y.1,?_,y.2.2⟩;rw[zf (cg y.2.1 (I.a6.fresh (wa8 _)))];exact y.2.1
section
variable {X:Cx}{K:Frag}
theorem RM (c9:X.K=K):yO X (zvh K):=by subst c9;exact yS
theorem RN (c9:X.K=K):vH X "str.join" (rJoin K):=by subst c9;exact zE
theorem RO {o:Expr}{to:TE}{t:dz}{apos dQ:Pos}{T id:String}{r:V->List V->ah->bo->Prop}(c9:X.K=K) (fJ:PlainAttrs T) (slot:Slot T name id) (lY:typeOf (.builtin id)=pure (.type "method_descriptor")) (hm:vH X id r) (aA:PE X o to) (aN:PA X (e::es) t)
  (aa:autoParam (attributeBase o name X.env (eval o X.env)=eval o X.env) dA._auto_1) (ag:autoParam (((backTo dQ (starEach (e::es) X.env)).all (λx=>!x.1)&&(backToKw dQ (keywordEach [] X.env)).all (λx=>x.1.isSome)&&decide ((e::es).length+([]:List Keyword).length+(if ([]:List Keyword).isEmpty then 0 else 1)<30))=true) dA._auto_1)
  (aR:autoParam ((apos.endLine==dQ.line)=true) dA._auto_1) (b4:autoParam (starEach (e::es) X.env=(false,eval e X.env)::starEach es X.env) dA._auto_1) (ek:autoParam ((backTo dQ (starEach es X.env)).any (·.1)=false) dA._auto_1):PE X (.Call (.Attribute o name apos) (e::es) [] dQ) (tBM K T r to t):=by subst c9;exact hE fJ slot lY hm aA aN aa ag aR b4 ek
end
theorem RP {u v:Nat->V}(Pv:Nat->List V->ah->Prop) (h0:Pv 0 [] H) (aD:∀i aF H,i<=ts.length->Pv i aF H->aK K H a (ts.map V.ref)) (bC:∀i aF H t,ts[i]?∣t->Pv i aF H->bT K H t [u i,v i])
  (aI:∀i aF H,i<ts.length->Pv i aF H->tt (some (u i)::some (v i)::cs) H λb bP=>if b=true then bM (some (u i)::some (v i)::cs) bP λy ck=>aF.length<=sizeLine/\Pv (i+1) (aF++[y]) ck else Pv (i+1) aF bP)
  (hd:∀aF H,Pv ts.length aF H->aF.length<=sizeLine/\F aF H):∃W:Nat->Nat->List V->ah->Prop,(∃m,W 0 m [] H)/\l0 (kM K a) (vo K 2 (zha (hW 0) (zha (hW 1) zwe))) tt bM (none::none::cs) W F:=by
 refine⟨λi m aF H'=>m=ts.length-i/\i<=ts.length/\Pv i aF H',⟨ts.length,by simp,zero_le _,h0⟩,?_⟩;rintro i m aF H' ⟨rfl,au,p⟩;have S:=src_list (aD i aF H' au p)
 by_cases cF:i<ts.length
 ·refine .inr ⟨S.go i (by rwa[length_map]),λiw cO=>Pv (i+1) iw cO,λiw cO gj=>⟨ts.length-(i+1),⋯,rfl,cF,gj⟩,λx cO y=>?_⟩;obtain⟨rfl,aq⟩:=S.gy i x cO (by rwa[length_map]) y;rw[getElem?_map]at aq;obtain⟨t,e,rfl⟩:=map_eq_some_iff.mp aq;refine⟨t,[u i,v i],rfl,bC i aF _ t e p,rfl,u i,[v i],rfl,v i,[],rfl,rfl,⟨by simp,λj z hz=>?_⟩,aI i aF _ cF p⟩;match j,hz with
  | 0,hz=>cases hz
  | 1,hz=>cases hz
  | (j+2),hz=>exact hz
 ·have e:i=ts.length:=⋯
  subst e;exact .inl ⟨by have:=S.stop;rwa [length_map]at this,hd aF H' p⟩
abbrev Db (x:Str):Prop:=(x==("__debug__":Str))=false
abbrev RQ (x:Str):Prop:=x≠"__name__"
abbrev z7 (st:Stmt)(x:Str):Prop:=(bU st).names.lookup x=some .local
abbrev ho (st:Stmt)(x:Str):Prop:=(bU st).names.lookup x=some .globalImplicit
section
variable {P:Program}{w:World}{K:Frag}{mg:Str->Option Value}{base:Heap}{x q:Str}{st:Stmt}{f:Addr}{aU:Array Value}{ps:List Str}
def hL (K:Frag)(x q:Str)(st:Stmt)(f:Addr):Prop:=∃fd,ke K x q st f fd
def rA (K:Frag)(x q:Str)(st:Stmt)(f:Addr)(aU:Array Value):Prop:=∃fd,pQ K x q st f fd aU
def FB (K:Frag)(x q:Str)(st:Stmt)(f:Addr)(ps:List Str):Prop:=∃fd,ke K x q st f fd/\Binds K fd ps []
def Gb (K:Frag)(x q:Str)(st:Stmt)(f:Addr)(aU:Array Value)(ps:List Str):Prop:=∃fd,pQ K x q st f fd aU/\Binds K fd ps []
def jA (P:Program)(w:World)(K:Frag)(mg:Str->Option Value)(base:Heap)(rB:g5)(k:Nat)(f:Addr)(ps:List Str)(sp:d0):Prop:=∃fd:FuncData,Binds K fd ps []/\fw P w K mg base rB k f fd ps sp
theorem zn5 {cA an:Option Addr}{bq:Value}(l:K.lookup f∣⟨c7,cA,.func (fnOf x q (gB st) (e0 st) (bU st) .none bq doc pm an cdv bW),et⟩)
  (c:codeIn K cdv q=true) (k:keepIn K (.ref f)=true):hL K x q st f:=⟨_,OX l c k⟩
theorem hL.c2 (h:hL K x q st f):keepIn K (.ref f)=true:=let⟨_,h⟩:=h;h.c2
theorem rA.c2 (h:rA K x q st f aU):keepIn K (.ref f)=true:=let⟨_,h⟩:=h;h.c2
theorem hL.b (h:hL K x q st f)(b:∀(bq doc pm:Value) (an:Option Addr) (cdv bW:Value) (us:List Value),us.length=ps.length->bindArgs (fnOf x q (gB st) (e0 st) (bU st) .none bq doc pm an cdv bW) ⟨us,[]⟩=pure (ps.zip us)):FB K x q st f ps:=
 let⟨fd,h⟩:=h;⟨fd,h,h.binds b⟩
theorem rA.b (h:rA K x q st f aU)(b:∀(T:Addr) (bq doc pm:Value) (an:Option Addr) (cdv bW:Value) (us:List Value),(us++[]).length=ps.length->∃k:Option (Array Value)->Sem (List (Str×Value)),
   bindArgs (fnOf x q (gB st) (e0 st) (bU st) (.ref T) bq doc pm an cdv bW) ⟨us,[]⟩=(seqItems? (.ref T)>>=k)/\k (some aU)=pure (ps.zip (us++[]))):Gb K x q st f aU ps:=
 let⟨fd,h⟩:=h;⟨fd,h,h.binds b⟩
theorem zrs {cA an:Option Addr}{bq:Value}{T:Addr}{z8:Value}{mF:Array (Option Value)} (l:K.lookup f∣⟨c7,cA,.func (fnOf x q (gB st) (e0 st) (bU st) (.ref T) bq doc pm an cdv bW),et⟩)
  (c:codeIn K cdv q=true) (k:keepIn K (.ref f)=true) (d:K.lookup T∣⟨z8,z9,.seq aU n,mF⟩):rA K x q st f aU:=⟨_,QM l c k d⟩
end
def zsv (K:Frag)(C:Addr)(bj:jU->cV)(hD:Addr->Addr->Option Addr->cV)(bM:cV):cV:=λD J H=>
 ∃kj:jU,bj kj { D with aP:=bM D } J H/\∀a7 cls av H',kj a7 cls av H'->∃gF,cls=.ref gF/\exmOne K (.ref gF) (.ref C)∣true/\∀a0,H' a0=none->hD a0 gF av D a7 H'
section
variable {X:Cx}{x n:Str}{C:Addr}{body Gd:List Stmt}{tf:Stmt}{tg:List Stmt}{np pos pP:Pos}{bj:jU->cV}{hD:Addr->Addr->Option Addr->cV}{bM:cV}
theorem RS {L:Addr}(hst:X.stack=X.env::outer) (hf:X.env.frame∣L) (bD:ft X x) (hm:X.mg x∣.ref C) (hdb:(x==("__debug__":Str))=false)
  (ae:∀pins th kj,tb (mV X pins th) kj->PSs (mV X pins th) body (bj kj)) (bN:∀pins a0 gF av ob,zL gF av ob->PSs (l6 X pins a0 ob) (tf::tg) (hD a0 gF av)) (he:PSs X Gd bM):
  PS X (.Try body [.ExceptHandler (some (.Name x np)) none (tf::tg) pP] Gd [] pos) (zsv X.K C bj hD bM):=by
 rintro pins s J H D I ⟨kj,aa,ag⟩;refine wpAny_Try_except (bz (ae pins _ kj ⟨λnT a7 H' s1 e s2 dt z=>QD hst hf bD hm hdb I.ok dt z (λcls av H' w=>let⟨gF,ar,aw,_⟩:=ag a7 cls av H' w;⟨gF,ar,aw⟩) λa0 gF av aE s5 ot w hn land=>?_⟩ [] s J H { D with aP:=bM D } (Qy I) aa) λf s1 q=>?_)
 ·obtain⟨aep,ar,aw,aR⟩:=ag a7 _ av aE w;cases ar;exact codeAny_handlers_suite (wpAny_noRaise (land _ _ _ _ λob dm mk kO=>wpAny_noRaise (wpAny_mono (bN pins a0 gF av ob mk [] dm a7 aE D kO (aR a0 hn)) (λf dM lV=>hU.QB I.ok lV) λ_ _ z=>z)))
 ·have q:=hU.QA I.ok q
  cases f with
  | next=>
   obtain⟨a7,H',dt,z⟩:=q;exact he pins s1 a7 H' D dt z
  | brk=>exact q
  | cont=>exact q
  | ret u=>exact q
end
def lk:Option NameKind->Bool
 | some .local=>true
 | some .cell=>true
 | _=>false
def Aa:Option NameKind->Bool
 | some .globalImplicit=>true
 | _=>false
abbrev ma (st:Stmt)(x:Str):Prop:=(lk ((bU st).names.lookup x)&&!(x==("__debug__":Str))&&!(x==("__classdict__":Str)))=true
abbrev hp (st:Stmt)(x:Str):Prop:=(Aa ((bU st).names.lookup x)&&!(x==("__debug__":Str))&&!(x==("__name__":Str)))=true
theorem ja {a b c:Bool}(h:(a&&!b&&!c)=true):a=true/\b=false/\c=false:=by
 cases a<;>cases b<;>cases c<;>first|exact⟨rfl,rfl,rfl⟩|cases h
theorem tK {o:Option NameKind}(h:lk o=true):o=some .local\/o=some .cell:=by
 unfold lk at h;split at h
 ·exact .inl rfl
 ·exact .inr rfl
 ·cases h
theorem RT {o:Option NameKind}(h:Aa o=true):o=some .globalImplicit:=by
 unfold Aa at h;split at h
 ·rfl
 ·cases h
section
variable {X:Cx}{st:Stmt}{x:Str}{pos pos' p apos:Pos}{e o:Expr}{es:List Expr}{bM bB:TE}{t:dz}{k k0:Nat}{f C:Addr}{ps:List Str}{sp:d0}{m:Str}{r:List V->ah->bo->Prop}{id T:String}
def tVr (i:Nat):TE:=λJ H Q=>match J[i]? with
 | some (some v)=>Q v H
 | _=>False
set_option tactic.hygienic true in
theorem RU {Q:bo}(h:tVr i J H Q):zxs i J H Q:=by
 unfold tVr at h;split at h
 ·rename_i v e;exact⟨v,e,h⟩
 ·exact h.elim
theorem tL (i:Nat)(h:ma st x)(b9:autoParam (X.N[i]?∣x) dA._auto_1)(ar:autoParam (X.env.scope=bU st) dA._auto_1):PE X (.Name x pos) (tVr i):=by
 obtain⟨a,b,c⟩:=ja h;exactλpins s J H Q I q=>DC b9 (P4 ((tK a).imp id .inl) ar) b c pins s J H Q I (RU q)
theorem RV (i:Nat)(b9:X.N.Nodup)(h:ma st x)(he:PE X e bM)(au:autoParam (X.N[i]?∣x) dA._auto_1)(ar:autoParam (X.env.scope=bU st) dA._auto_1)(aI:autoParam (swapsWith e (some (.Name x pos')) pos.line X.env=pure false) dA._auto_1)(hf:autoParam (X.fn x=true\/X.env.scope.names.lookup x=some .local) dD._auto_1):
  PS X (.Assign [.Name x pos'] e pos) (zxt bM (hW i)):=Nv b9 au (zA (tK (ja h).1) ar) he aI hf
theorem RW (i:Nat){op:Operator}{iS:qU}(b9:X.N.Nodup) (h:ma st x) (he:PE X e bM) (aA:sE X op iS) (au:autoParam (X.N[i]?∣x) dA._auto_1) (ar:autoParam (X.env.scope=bU st) dA._auto_1) (hf:autoParam (X.fn x=true\/X.env.scope.names.lookup x=some .local) dD._auto_1):
  PS X (.AugAssign (.Name x pos') op e pos) (zxy i bM iS):=Nw b9 au (zA (tK (ja h).1) ar) he aA hf
theorem RX (i:Nat)(b9:X.N.Nodup)(h:ma st x)(au:autoParam (X.N[i]?∣x) dA._auto_1)(ar:autoParam (X.env.scope=bU st) dA._auto_1)(hf:autoParam (X.fn x=true\/X.env.scope.names.lookup x=some .local) dD._auto_1):PG X (.Name x pos) (hW i):=hX b9 au (zA (tK (ja h).1) ar) hf
theorem af (aN:PE X e bM)(a5:PA X es t)(h:autoParam (gO e=true) dA._auto_1):PA X (e::es) (zhe bM t):=Oa aN a5 (fl h)
theorem m5 (h:hp st x)(ar:autoParam (X.env.scope=bU st) dA._auto_1):ft X x:=fN (RT (ja h).1) ar
theorem Ab (h:hp st x):x≠"__name__":=λz=>by
 have:=(ja h).2.2
 rw[z]at this;exact br this ∅
theorem Ge (Z:jA X.prog X.w X.K X.mg X.base bI k f ps sp)(a5:da k0 X.A)(g:hp st x)(hm:X.mg x∣.ref f)(aj:keepIn X.K (.ref f)=true)(aN:PA X (e::es) t)(aa:autoParam (k<=k0) dB._auto_1)(ar:autoParam (X.env.scope=bU st) dA._auto_1)(he:autoParam (gO e=true) dA._auto_1)(hpl:autoParam (plainAll es=true) dA._auto_1):
  PE X (.Call (.Name x p) (e::es) [] pos) (zgz sp [] fU t):=
 let⟨_,ae,F⟩:=Z
 yH F (a5.mono aa) (m5 g ar) hm aj ae .nil n6 aN (ja g).2.1 (fl he) (fW hpl)
theorem RY (Z:jA X.prog X.w X.K X.mg X.base bI k f ps sp)(a5:da k0 X.A)(hm:X.mg x∣.ref f)(aj:keepIn X.K (.ref f)=true)(d:Db x)(aN:PA X (e::es) t)(aa:autoParam (k<=k0) dB._auto_1)(bD:autoParam (ft X x) dA._auto_1)(he:autoParam (gO e=true) dA._auto_1)(hpl:autoParam (plainAll es=true) dA._auto_1):
  PE X (.Call (.Name x p) (e::es) [] pos) (zgz sp [] fU t):=
 let⟨_,ae,F⟩:=Z
 yH F (a5.mono aa) bD hm aj ae .nil n6 aN d (fl he) (fW hpl)
theorem RZ (M:h2 X.K C f)(Z:jA X.prog X.w X.K X.mg X.base bI k f ps sp)(a5:da k0 X.A)(g:hp st x)(hm:X.mg x∣.ref C)(aN:PA X (e::es) t)(aa:autoParam (k+1<=k0) dB._auto_1)(ar:autoParam (X.env.scope=bU st) dA._auto_1)(he:autoParam (gO e=true) dA._auto_1)(hpl:autoParam (plainAll es=true) dA._auto_1):
  PE X (.Call (.Name x p) (e::es) [] pos) (zeg C sp [] fU t):=
 let⟨_,ae,F⟩:=Z
 Oe M F (a5.mono aa) (m5 g ar) hm ae .nil n6 aN (ja g).2.1 (fl he) (fW hpl)
theorem R0 (M:h2 X.K C f)(Z:jA X.prog X.w X.K X.mg X.base bI k f ps sp)(a5:da k0 X.A)(g:hp st x)(hm:X.mg x∣.ref C)(aa:autoParam (k+1<=k0) dB._auto_1)(ar:autoParam (X.env.scope=bU st) dA._auto_1):PE X (.Call (.Name x p) [] [] pos) (zeg C sp [] fU zus):=
 let⟨_,ae,F⟩:=Z
 Of M F (a5.mono aa) (m5 g ar) hm ae .nil n6 (ja g).2.1
theorem R1 (ak:g4 X (.builtin id) r)(g:hp st x)(hm:X.mg x=none)(aJ:bootBuiltins x∣.builtin id)(aN:PA X (e::es) t)(ar:autoParam (X.env.scope=bU st) dA._auto_1)(he:autoParam (gO e=true) dA._auto_1)(hpl:autoParam (plainAll es=true) dA._auto_1):PE X (.Call (.Name x p) (e::es) [] pos) (tCB r t):=
 yK ak (m5 g ar) hm aJ aN (Ab g) (ja g).2.1 (fl he) (fW hpl)
theorem R2 (ak:g4 X (.type T) r)(g:hp st x)(hm:X.mg x=none)(aJ:bootBuiltins x∣.type T)(aN:PA X (e::es) t)(ar:autoParam (X.env.scope=bU st) dA._auto_1)(he:autoParam (gO e=true) dA._auto_1)(hpl:autoParam (plainAll es=true) dA._auto_1):PE X (.Call (.Name x p) (e::es) [] pos) (tCB r t):=
 Oi ak (m5 g ar) hm aJ aN (Ab g) (ja g).2.1 (fl he) (fW hpl)
theorem e4 (he:PE X o bB) (c:eQ X.K C) (hm:Meth X.K C m f) (Z:jA X.prog X.w X.K X.mg X.base bI k f ps sp) (a5:da k0 X.A) (aN:PA X (e::es) t) (aa:autoParam (k<=k0) dB._auto_1) (hst:autoParam (gO e=true) dA._auto_1) (hpl:autoParam (plainAll es=true) dA._auto_1)
  (bC:autoParam (eval (.Call (.Attribute o m apos) (e::es) [] pos) X.env=(eval o X.env>>=λdK=>standAt apos.atName>>=λ_=>holding [dK] (getMethod dK m pl)>>=λr=>callWith pos r.1 r.2 (backTo pos (starEach (e::es) X.env)) (backToKw pos (keywordEach [] X.env)))) dA._auto_1):PE X (.Call (.Attribute o m apos) (e::es) [] pos) (zjf C m sp [] fU bB t):=
 let⟨_,ae,F⟩:=Z
 Oc he c hm F (a5.mono aa) ae .nil n6 aN (fl hst) (fW hpl) bC
theorem Gf (he:PE X o bB) (c:eQ X.K C) (hm:Meth X.K C m f) (Z:jA X.prog X.w X.K X.mg X.base bI k f ps sp) (a5:da k0 X.A) (aa:autoParam (k<=k0) dB._auto_1)
  (bC:autoParam (eval (.Call (.Attribute o m apos) [] [] pos) X.env=(eval o X.env>>=λdK=>standAt apos.atName>>=λ_=>holding [dK] (getMethod dK m pl)>>=λr=>callWith pos r.1 r.2 (backTo pos (starEach [] X.env)) (backToKw pos (keywordEach [] X.env)))) dA._auto_1):PE X (.Call (.Attribute o m apos) [] [] pos) (zjf C m sp [] fU bB zus):=
 let⟨_,ae,F⟩:=Z
 Od he c hm F (a5.mono aa) ae .nil n6 bC
theorem ff  (cl:eQ X.K C) (hm:Meth X.K C m f) (Z:jA X.prog X.w X.K X.mg X.base bI j f ps sp) (iR:∀e∈tab,rj X m k ps e) (aZ:autoParam (j<=k) dB._auto_1):∀e∈(C,sp)::tab,rj X m k ps e:=
 let⟨_,ae,F⟩:=Z
 QN cl hm F aZ ae iR
theorem cp {a b:Expr}{bB bj:TE}{r:fT}(aA:d7 X (compareOp op) r) (aN:PE X a bB) (ae:PE X b bj) (hm:autoParam (behindInMarks op b=false) dF._auto_1):ij X (.Compare a [op] [b] pos) (vy (tOp r bB bj)):=NM aA aN ae hm
theorem hq {a b:Expr}{bB bj:TE}{r:fT}(aA:d7 X (compareOp op) r) (aN:PE X a bB) (ae:PE X b bj) (hm:autoParam (behindInMarks op b=false) dF._auto_1):PE X (.Compare a [op] [b] pos) (tOp r bB bj):=NL aA aN ae hm
theorem R3 (g:hp st x) (hm:X.mg x∣u) (cf:RelV v u) (ar:autoParam (X.env.scope=bU st) dA._auto_1):PE X (.Name x pos) (tC v):=yr (m5 g ar) hm cf (ja g).2.1
theorem R4 (g:hp st x) (hm:X.mg x=none) (aJ:bootBuiltins x∣u) (cf:RelV v u) (ar:autoParam (X.env.scope=bU st) dA._auto_1):PE X (.Name x pos) (tC v):=Nm (m5 g ar) hm aJ cf (Ab g) (ja g).2.1
end
theorem tM {g:fi}(Pv:Nat->St->ah->Prop) (h0:Pv 0 J H) (aD:∀i J H,i<=xs.length->Pv i J H->aK K H a xs)
  (aI:∀i x J H (N:St->ah->Prop),xs[i]?∣x->Pv i J H->(∀a7 H',Pv (i+1) a7 H'->N a7 H')->g x J H λdu aE=>bj { D with aP:=N,bW:=N,b3:=D.aP } du aE) (hd:∀J H,Pv xs.length J H->D.aP J H):
  ∃W:Nat->Nat->St->ah->Prop,(∃m,W 0 m J H)/\∀i m J H,W i m J H->
   ((kM K a).stop i H/\D.aP J H)\/((kM K a).go i H/\∃N:St->ah->Prop,(∀a7 H',N a7 H'->∃ba,ba<m/\W (i+1) ba a7 H')/\∀x H',(kM K a).gy i H x H'->g x J H' λdu aE=>bj { D with aP:=N,bW:=N,b3:=D.aP } du aE):=
 qZ Pv h0 aD (λi x J H aq p=>aI i x J H _ aq p λ_ _ z=>z) hd
theorem m6 {g:fi}(Pv:Nat->St->ah->Prop) (h0:Pv 0 J H)
  (aI:∀i J H (N:St->ah->Prop),i<n->Pv i J H->(∀a7 H',Pv (i+1) a7 H'->N a7 H')->g (.int (lo+i)) J H λdu aE=>bj { D with aP:=N,bW:=N,b3:=D.aP } du aE) (hd:∀J H,Pv n J H->D.aP J H):
  ∃W:Nat->Nat->St->ah->Prop,(∃m,W 0 m J H)/\∀i m J H,W i m J H->
   ((j9 lo n).stop i H/\D.aP J H)\/((j9 lo n).go i H/\∃N:St->ah->Prop,(∀a7 H',N a7 H'->∃ba,ba<m/\W (i+1) ba a7 H')/\∀x H',(j9 lo n).gy i H x H'->g x J H' λdu aE=>bj { D with aP:=N,bW:=N,b3:=D.aP } du aE):=
 yz Pv h0 (λi J H au p=>aI i J H _ au p λ_ _ z=>z) hd
theorem Ac {o:Obj}{g:fi}(Pv:Nat->St->ah->Prop) (h0:Pv 0 J H) (aD:∀i J H,i<=kvs.length->Pv i J H->H a∣.cc o (.bc kvs))
  (aI:∀i k v b J H (N:St->ah->Prop),kvs[i]?∣(k,v)->H b∣.tup (k.map bq)->Pv i J H->(∀a7 H',Pv (i+1) a7 H'->N a7 H')->g (.ref b) J H λdu aE=>bj { D with aP:=N,bW:=N,b3:=D.aP } du aE) (hd:∀J H,Pv kvs.length J H->D.aP J H):
  ∃W:Nat->Nat->St->ah->Prop,(∃m,W 0 m J H)/\∀i m J H,W i m J H->
   ((mW a o kvs).stop i H/\D.aP J H)\/((mW a o kvs).go i H/\∃N:St->ah->Prop,(∀a7 H',N a7 H'->∃ba,ba<m/\W (i+1) ba a7 H')/\∀x H',(mW a o kvs).gy i H x H'->g x J H' λdu aE=>bj { D with aP:=N,bW:=N,b3:=D.aP } du aE):=
 QT Pv h0 aD (λi k v b J H aj ae p=>aI i k v b J H _ aj ae p λ_ _ z=>z) hd
abbrev m7 (x q:Str)(st:Stmt)(ps:List Str)(us:List Value):Prop:=∀(bq doc pm:Value)(an:Option Addr)(cdv bW:Value),bindArgs (fnOf x q (gB st) (e0 st) (bU st) .none bq doc pm an cdv bW) ⟨us,[]⟩=pure (ps.zip us)
section
variable {P:List Value->Prop}{us:List Value}
theorem rC (h:P [])(e:us.length=0):P us:=by cases us with|nil=>exact h|cons a t=>cases e
theorem m8 (h:∀a t,t.length=n->P (a::t)) (e:us.length=n+1):P us:=by cases us with|nil=>cases e|cons a t=>exact h a t (Nat.succ.inj e)
theorem a1 (h:∀a,P [a]):us.length=1->P us:=m8 λa _=>rC (P:=λt=>P (a::t)) (h a)
theorem a2 (h:∀a b,P [a,b]):us.length=2->P us:=m8 λa _=>a1 (P:=λt=>P (a::t)) (h a)
theorem fY (h:∀a b c,P [a,b,c]):us.length=3->P us:=m8 λa _=>a2 (P:=λt=>P (a::t)) (h a)
theorem hJ (h:∀a b c d,P [a,b,c,d]):us.length=4->P us:=m8 λa _=>fY (P:=λt=>P (a::t)) (h a)
theorem m9 (h:∀a b c d e,P [a,b,c,d,e]):us.length=5->P us:=m8 λa _=>hJ (P:=λt=>P (a::t)) (h a)
theorem wz (h:∀a b c d e f,P [a,b,c,d,e,f]):us.length=6->P us:=m8 λa _=>m9 (P:=λt=>P (a::t)) (h a)
theorem Gg (h:∀a b c d e f g,P [a,b,c,d,e,f,g]):us.length=7->P us:=m8 λa _=>wz (P:=λt=>P (a::t)) (h a)
theorem Ad (h:∀a b c d e f g i,P [a,b,c,d,e,f,g,i]):us.length=8->P us:=m8 λa _=>Gg (P:=λt=>P (a::t)) (h a)
end
section
variable {K:Frag}{x q:Str}{st:Stmt}{f:Addr}{ps:List Str}(h:hL K x q st f)
include h
theorem hL.f5 (b:∀us,us.length=ps.length->m7 x q st ps us):FB K x q st f ps:=h.b λk d p a c t us e=>b us e k d p a c t
theorem hL.ct {p:Str}(b:autoParam (∀a,m7 x q st [p] [a]) dE._auto_1):FB K x q st f [p]:=h.f5 λ_=>a1 b
theorem hL.b6 {p:Str}(b:autoParam (∀a b,m7 x q st [p,ew] [a,b]) dE._auto_1):FB K x q st f [p,ew]:=h.f5 λ_=>a2 b
theorem hL.g8 {p fM:Str}(b:autoParam (∀a b c,m7 x q st [p,ew,fM] [a,b,c]) dE._auto_1):FB K x q st f [p,ew,fM]:=h.f5 λ_=>fY b
theorem hL.h5 {p fM jB:Str}(b:autoParam (∀a b c d,m7 x q st [p,ew,fM,jB] [a,b,c,d]) dE._auto_1):FB K x q st f [p,ew,fM,jB]:=h.f5 λ_=>hJ b
theorem hL.ou {p fM jB k9:Str}(b:autoParam (∀a b c d e,m7 x q st [p,ew,fM,jB,k9] [a,b,c,d,e]) dE._auto_1):FB K x q st f [p,ew,fM,jB,k9]:=h.f5 λ_=>m9 b
theorem hL.mb {p fM jB k9 ov:Str}(b:autoParam (∀a b c d e f,m7 x q st [p,ew,fM,jB,k9,ov] [a,b,c,d,e,f]) dE._auto_1):FB K x q st f [p,ew,fM,jB,k9,ov]:=h.f5 λ_=>wz b
theorem hL.Gh {p fM jB k9 ov tN:Str}(b:autoParam (∀a b c d e f g,m7 x q st [p,ew,fM,jB,k9,ov,tN] [a,b,c,d,e,f,g]) dE._auto_1):FB K x q st f [p,ew,fM,jB,k9,ov,tN]:=h.f5 λ_=>Gg b
theorem hL.R5 {p fM jB k9 ov tN Gi:Str}(b:autoParam (∀a b c d e f g i,m7 x q st [p,ew,fM,jB,k9,ov,tN,Gi] [a,b,c,d,e,f,g,i]) dE._auto_1):FB K x q st f [p,ew,fM,jB,k9,ov,tN,Gi]:=h.f5 λ_=>Ad b
end
def R6:NameKind->Bool
 | .free=>false
 | _=>true
def Gj:ScopeKind->Bool
 | .function=>true
 | _=>false
def Gk (N P:List Str)(st:Stmt):Bool:=
 Gj (bU st).kind&&(!(bU st).isCoroutine&&(!(bU st).isGenerator&&(decide N.Nodup&&(decide (N.take P.length=P)&&((bU st).names.all (λy=>R6 y.2)&&(P.all (λx=>lk ((bU st).names.lookup x))&&N.all (λx=>lk ((bU st).names.lookup x)&&!(x==("__debug__":Str))&&!(x==("__classdict__":Str)))))))))
abbrev FS (N P:List Str)(st:Stmt):Prop:=Gk N P st=true
theorem FS.sc {P:List Str}(h:FS N P st):n1 N P (bU st)/\∀x∈N,ma st x:=by
 unfold FS Gk at h;simp only[and_eq_true,not_eq_true',decide_eq_true_eq]at h;obtain⟨aa,ag,aR,b4,ek,fx,ze,zg⟩:=h;refine⟨⟨?_,ag,aR,b4,ek,λx aq=>tK (all_eq_true.mp ze x aq),λy bg z=>?_⟩,λx aq=>all_eq_true.mp zg x aq⟩
 ·unfold Gj at aa;split at aa
  ·assumption
  ·cases aa
 ·have k:=all_eq_true.mp fx y bg
  rw[z]at k;cases k
structure fO (k:Nat)(A:Around)(N P:List Str)(st:Stmt):Prop where
 s:FS N P st
 r:da k A
abbrev dy (K:Frag)(mg:Str->Option Value)(x:Str)(f:Addr):Prop:=mg x∣.ref f/\keepIn K (.ref f)=true
abbrev hr (mg:Str->Option Value)(x:Str)(v:Value):Prop:=mg x=none/\bootBuiltins x∣v
section
variable {k0:Nat}{A:Around}{N Y:List Str}{st:Stmt}
theorem fO.lv {x:Str}(R:fO k0 A N Y st) (h:N[i]?∣x):ma st x:=R.s.sc.2 x (mem_of_getElem? h)
theorem fO.nd (R:fO k0 A N Y st):N.Nodup:=R.s.sc.1.nd
variable {X:Cx}{x:Str}{pos pos' p apos:Pos}{e o:Expr}{es:List Expr}{bM bB:TE}{t:dz}{k:Nat}{f C:Addr}{ps:List Str}{sp:d0}{m:Str}{r:List V->ah->bo->Prop}{id T:String}
theorem U (i:Nat)(R:fO k0 A N Y st)(b9:autoParam (N[i]?∣x) dA._auto_1)(aw:autoParam (X.N=N) dA._auto_1)(ar:autoParam (X.env.scope=bU st) dA._auto_1):PE X (.Name x pos) (tVr i):=tL i (R.lv b9) (aw ▸ b9) ar
theorem b0 (i:Nat)(R:fO k0 A N Y st)(he:PE X e bM)(au:autoParam (N[i]?∣x) dA._auto_1)(aw:autoParam (X.N=N) dA._auto_1)(ar:autoParam (X.env.scope=bU st) dA._auto_1)(aI:autoParam (swapsWith e (some (.Name x pos')) pos.line X.env=pure false) dA._auto_1)(hf:autoParam (X.fn x=true\/X.env.scope.names.lookup x=some .local) dD._auto_1):
  PS X (.Assign [.Name x pos'] e pos) (zxt bM (hW i)):=RV i (aw ▸ R.nd) (R.lv au) he (aw ▸ au) ar aI hf
theorem Ae (i:Nat){op:Operator}{iS:qU}(R:fO k0 A N Y st) (he:PE X e bM) (aA:sE X op iS) (au:autoParam (N[i]?∣x) dA._auto_1) (aw:autoParam (X.N=N) dA._auto_1) (ar:autoParam (X.env.scope=bU st) dA._auto_1) (hf:autoParam (X.fn x=true\/X.env.scope.names.lookup x=some .local) dD._auto_1):
  PS X (.AugAssign (.Name x pos') op e pos) (zxy i bM iS):=RW i (aw ▸ R.nd) (R.lv au) he aA (aw ▸ au) ar hf
theorem dn (i:Nat)(R:fO k0 A N Y st)(au:autoParam (N[i]?∣x) dA._auto_1)(aw:autoParam (X.N=N) dA._auto_1)(ar:autoParam (X.env.scope=bU st) dA._auto_1)(hf:autoParam (X.fn x=true\/X.env.scope.names.lookup x=some .local) dD._auto_1):PG X (.Name x pos) (hW i):=RX i (aw ▸ R.nd) (R.lv au) (aw ▸ au) ar hf
theorem cx (Z:jA X.prog X.w X.K X.mg X.base bI k f ps sp)(R:fO k0 X.A N Y st)(hm:dy X.K X.mg x f)(aN:PA X (e::es) t)(aa:autoParam (k<=k0) dB._auto_1)(ar:autoParam (X.env.scope=bU st) dA._auto_1)(he:autoParam (gO e=true) dA._auto_1)(hpl:autoParam (plainAll es=true) dA._auto_1)(g:autoParam (hp st x) dC._auto_1):
  PE X (.Call (.Name x p) (e::es) [] pos) (zgz sp [] fU t):=Ge Z R.r g hm.1 hm.2 aN aa ar he hpl
theorem gR (Z:jA X.prog X.w X.K X.mg X.base bI k f ps sp)(a5:da k0 X.A)(hm:dy X.K X.mg x f)(d:Db x)(aN:PA X (e::es) t)(aa:autoParam (k<=k0) dB._auto_1)(bD:autoParam (ft X x) dA._auto_1)(he:autoParam (gO e=true) dA._auto_1)(hpl:autoParam (plainAll es=true) dA._auto_1):
  PE X (.Call (.Name x p) (e::es) [] pos) (zgz sp [] fU t):=RY Z a5 hm.1 hm.2 d aN aa bD he hpl
theorem p5 (M:h2 X.K C f)(Z:jA X.prog X.w X.K X.mg X.base bI k f ps sp)(R:fO k0 X.A N Y st)(hm:X.mg x∣.ref C)(aN:PA X (e::es) t)(aa:autoParam (k+1<=k0) dB._auto_1)(ar:autoParam (X.env.scope=bU st) dA._auto_1)(he:autoParam (gO e=true) dA._auto_1)(hpl:autoParam (plainAll es=true) dA._auto_1)(g:autoParam (hp st x) dC._auto_1):
  PE X (.Call (.Name x p) (e::es) [] pos) (zeg C sp [] fU t):=RZ M Z R.r g hm aN aa ar he hpl
theorem R7 (M:h2 X.K C f)(Z:jA X.prog X.w X.K X.mg X.base bI k f ps sp)(R:fO k0 X.A N Y st)(hm:X.mg x∣.ref C)(aa:autoParam (k+1<=k0) dB._auto_1)(ar:autoParam (X.env.scope=bU st) dA._auto_1)(g:autoParam (hp st x) dC._auto_1):PE X (.Call (.Name x p) [] [] pos) (zeg C sp [] fU zus):=R0 M Z R.r g hm aa ar
theorem cJ (ak:g4 X (.builtin id) r)(R:fO k0 A N Y st)(hm:hr X.mg x (.builtin id))(aN:PA X (e::es) t)(ar:autoParam (X.env.scope=bU st) dA._auto_1)(he:autoParam (gO e=true) dA._auto_1)(hpl:autoParam (plainAll es=true) dA._auto_1)(g:autoParam (hp st x) dC._auto_1):PE X (.Call (.Name x p) (e::es) [] pos) (tCB r t):=R1 ak g hm.1 hm.2 aN ar he hpl
theorem rD (ak:g4 X (.type T) r)(R:fO k0 A N Y st)(hm:hr X.mg x (.type T))(aN:PA X (e::es) t)(ar:autoParam (X.env.scope=bU st) dA._auto_1)(he:autoParam (gO e=true) dA._auto_1)(hpl:autoParam (plainAll es=true) dA._auto_1)(g:autoParam (hp st x) dC._auto_1):PE X (.Call (.Name x p) (e::es) [] pos) (tCB r t):=R2 ak g hm.1 hm.2 aN ar he hpl
theorem iC (R:fO k0 A N Y st) (hm:X.mg x∣u) (cf:RelV v u) (ar:autoParam (X.env.scope=bU st) dA._auto_1) (g:autoParam (hp st x) dC._auto_1):PE X (.Name x pos) (tC v):=R3 g hm cf ar
theorem nc (R:fO k0 A N Y st) (hm:hr X.mg x u) (cf:RelV v u) (ar:autoParam (X.env.scope=bU st) dA._auto_1) (g:autoParam (hp st x) dC._auto_1):PE X (.Name x pos) (tC v):=R4 g hm.1 hm.2 cf ar
end
theorem R8 {P:List Value->Prop}(h:∀a b c d e f g i j,P [a,b,c,d,e,f,g,i,j]):us.length=9->P us:=m8 λa _=>Ad (P:=λt=>P (a::t)) (h a)
def Hid (p:Prop):Prop:=p
theorem big:(100000:Nat)<=sizeLine:=by rw[sizeLine_eq];decide
theorem cE {k:Nat}(F:FB K x qual st f ps) (S:FS N ps st)
  (ae:∀(cdv:Value)(A:Around)(outer:List Env)(s:Shared)(H:ah)(vs:List V)(Q:bo)(E:bL)(R:fO k (A.deeper (envOfC qual (bU st) ↑s f cdv)) N ps st)(h:sp vs H Q E)(gE:Prop)(u:(∃t,PSs (g6 bI P w K mg base N qual (bU st) f cdv A outer s H E).nox (e0 st) t/\t { aP:=λ_ H'=>Q .bx H',ih:=Q } (start N vs) H)->gE),gE)
  (len:∀vs H Q E,sp vs H Q E->vs.length=ps.length:=by walk_at "l"):jA P w K mg base bI (k+1) f ps sp:=
 let⟨fd,G,B⟩:=F
 ⟨fd,B,G.ok S.sc.1 len λcdv A outer s H vs Q E a5 h=>ae cdv A outer s H vs Q E ⟨S,a5⟩ h _ λz=>z⟩
section
variable {K:Frag}{n q x:Str}{C f:Addr}{st:Stmt}{aT:List Str}
structure dS (K:Frag)(n:Str)(st:Stmt)(f:Addr):Prop where
 a:nsIn K mainGlobals n∣some (.ref f)
 l:hL K n n st f
structure FM (K:Frag)(C:Addr)(n q:Str)(st:Stmt)(f:Addr):Prop where
 a:findIn K (.ref C) n∣some (.ref f)
 i:isFn K (.ref f)=true
 l:hL K n q st f
theorem dS.g {h:Heap}(g:dS K n st f) (X:K.In h) (G:h.Ns mainGlobals mg):dy K mg n f:=⟨mg_of X G g.a,g.l.c2⟩
theorem FM.m (h:FM K C n q st f):Meth K C n f:=⟨h.a,h.i,h.l.c2⟩
theorem FM.o {D:Addr}(h:FM K C n q st f) (o:findIn K (.ref D) n∣some (.ref f)):Meth K D n f:=⟨o,h.i,h.l.c2⟩
structure hM (K:Frag)(n:Str)(C:Addr)(aT:List Str):Prop where
 a:nsIn K mainGlobals n∣some (.ref C)
 c:eQ K C
 k:keepIn K (.ref C)=true
 m:makesIn K C=true
 no:∀x∈aT,findIn K (.ref C) x∣none
theorem zwr:∀x∈([]:List Str),findIn K (.ref C) x∣none:=nofun
theorem zw2 (h:findIn K (.ref C) n∣none)(t:∀x∈aT,findIn K (.ref C) x∣none):∀x∈n::aT,findIn K (.ref C) x∣none:=List.forall_mem_cons.2 ⟨h,t⟩
theorem hM.h (c:hM K n C (x::aT)):eR K C x:=c.no _ (.head _)
theorem hM.t (c:hM K n C (x::aT)):hM K n C aT:=⟨c.a,c.c,c.k,c.m,λ_ h=>c.no _ (.tail _ h)⟩
theorem hM.mk' (c:hM K n C aT){q:Str}(m:FM K C "__init__" q st f):h2 K C f:=⟨c.m,m.a,m.i,c.k⟩
theorem hM.mo (c:hM K n C aT){D:Addr}{q:Str}(m:FM K D "__init__" q st f) (o:findIn K (.ref C) "__init__"∣some (.ref f)):h2 K C f:=⟨c.m,o,m.i,c.k⟩
end
section
variable {β Gl R9 aeq:Sort _}{p:Addr}{n:Int}{c:Bool}{z:Str}
theorem Sa {q:Addr->Prop}:(∃a,V.ref p=.ref a/\q a)=q p:=propext ⟨λ⟨_,e,h⟩=>by cases e;exact h,λh=>⟨_,rfl,h⟩⟩
theorem Sb {q:Addr->β->Prop}:(∃a b,V.ref p=.ref a/\q a b)=∃b,q p b:=propext ⟨λ⟨_,_,e,h⟩=>by cases e;exact⟨_,h⟩,λ⟨_,h⟩=>⟨_,_,rfl,h⟩⟩
theorem Sd {q:Addr->β->Gl->Prop}:(∃a b c,V.ref p=.ref a/\q a b c)=∃b c,q p b c:=propext ⟨λ⟨_,_,_,e,h⟩=>by cases e;exact⟨_,_,h⟩,λ⟨_,_,h⟩=>⟨_,_,_,rfl,h⟩⟩
theorem Se {q:Addr->β->Gl->R9->Prop}:(∃a b c d,V.ref p=.ref a/\q a b c d)=∃b c d,q p b c d:=propext ⟨λ⟨_,_,_,_,e,h⟩=>by cases e;exact⟨_,_,_,h⟩,λ⟨_,_,_,h⟩=>⟨_,_,_,_,rfl,h⟩⟩
theorem Sf {q:Int->Prop}:(∃a,V.int n=.int a/\q a)=q n:=propext ⟨λ⟨_,e,h⟩=>by cases e;exact h,λh=>⟨_,rfl,h⟩⟩
theorem Sg {q:Bool->Prop}:(∃a,V.bl c=.bl a/\q a)=q c:=propext ⟨λ⟨_,e,h⟩=>by cases e;exact h,λh=>⟨_,rfl,h⟩⟩
theorem Sh {q:Str->Prop}:(∃a,V.str z=.str a/\q a)=q z:=propext ⟨λ⟨_,e,h⟩=>by cases e;exact h,λh=>⟨_,rfl,h⟩⟩
theorem Si {q:Int->Prop}:(∃a,[V.int n]=[.int a]/\q a)=q n:=propext ⟨λ⟨_,e,h⟩=>by cases e;exact h,λh=>⟨_,rfl,h⟩⟩
theorem Sj {m:Int}{q:Int->Int->Prop}:(∃a b,[V.int n,V.int m]=[.int a,.int b]/\q a b)=q n m:=propext ⟨λ⟨_,_,e,h⟩=>by cases e;exact h,λh=>⟨_,_,rfl,h⟩⟩
theorem Sk {q:Addr->Prop}:(∃a,[V.ref p]=[.ref a]/\q a)=q p:=propext ⟨λ⟨_,e,h⟩=>by cases e;exact h,λh=>⟨_,rfl,h⟩⟩
theorem Sl {q:Addr->β->Prop}:(∃a b,[V.ref p]=[.ref a]/\q a b)=∃b,q p b:=propext ⟨λ⟨_,_,e,h⟩=>by cases e;exact⟨_,h⟩,λ⟨_,h⟩=>⟨_,_,rfl,h⟩⟩
theorem Sm {q:V->Prop}:(∃a,[v]=[a]/\q a)=q v:=propext ⟨λ⟨_,e,h⟩=>by cases e;exact h,λh=>⟨_,rfl,h⟩⟩
theorem Sn {q:V->β->Prop}:(∃a b,[v]=[a]/\q a b)=∃b,q v b:=propext ⟨λ⟨_,_,e,h⟩=>by cases e;exact⟨_,h⟩,λ⟨_,h⟩=>⟨_,_,rfl,h⟩⟩
end
section
variable {C:Int->Int->Prop}{g:Int->Int->V}{i j:Int}{H:ah}{Q:bo}{K:Frag}{p:Addr}{v:V}{bB:TE}{f:Str}{J:St}
theorem zva:rI C g (.int i) (.int j) H Q=(C i j/\Q (g i j) H):=propext ⟨λ⟨_,_,ar,aw,h⟩=>by cases ar;cases aw;exact h,λh=>⟨_,_,rfl,rfl,h⟩⟩
theorem ztb:lW g (.int i) (.int j) H Q=Q (g i j) H:=propext ⟨λ⟨_,_,ar,aw,h⟩=>by cases ar;cases aw;exact h,λh=>⟨_,_,rfl,rfl,h⟩⟩
theorem zre:zvd K (.ref p) (.int i) H Q=∃xs,aK K H p xs/\∃v,dH xs i∣v/\Q v H:=propext ⟨λ⟨_,xs,_,v,ar,aw,aa,ag,h⟩=>by cases ar;cases aw;exact⟨xs,aa,v,ag,h⟩,λ⟨xs,aa,v,ag,h⟩=>⟨_,xs,_,v,rfl,rfl,aa,ag,h⟩⟩
theorem So:zur K (.ref p) (.int i) H Q=∃xs,bT K H p xs/\∃v,dH xs i∣v/\Q v H:=propext ⟨λ⟨_,xs,_,v,ar,aw,aa,ag,h⟩=>by cases ar;cases aw;exact⟨xs,aa,v,ag,h⟩,λ⟨xs,aa,v,ag,h⟩=>⟨_,xs,_,v,rfl,rfl,aa,ag,h⟩⟩
theorem Sp:yV (.ref p) [v] H Q=∃xs,H p∣.lst xs/\xs.length<sizeLine/\Q .bx (upd H p (.lst (xs++[v]))):=propext ⟨λ⟨_,xs,_,ar,aw,h⟩=>by cases ar;cases aw;exact⟨xs,h⟩,λ⟨xs,h⟩=>⟨_,xs,_,rfl,rfl,h⟩⟩
theorem Sq:yF K bB f=λJ H Q=>bB J H λx H1=>∃a,x=.ref a/\∃C av aT,H1 a∣.ins C av aT/\eQ K C/\eR K C f/\∃v,aT.lookup f∣v/\Q v H1:=by
 funext J H Q
 refine congrArg (bB J H) (funext λx=>funext λH1=>propext ⟨?_,?_⟩)
 ·rintro⟨a,C,av,aT,v,aa,ag,aR,b4,ek,fx⟩;exact⟨a,aa,C,av,aT,ag,aR,b4,v,ek,fx⟩
 ·rintro⟨a,aa,C,av,aT,ag,aR,b4,v,ek,fx⟩;exact⟨a,C,av,aT,v,aa,ag,aR,b4,ek,fx⟩
theorem ztd {i j:Int}:jN (.int i) (.int j)=true:=rfl
theorem ztk {y:Str}:jN (.str x) (.str y)=true:=rfl
theorem zts {x y:Bool}:jN (.bl x) (.bl y)=true:=rfl
theorem zth {j:Int}:jN .bx (.int j)=true:=rfl
theorem Ss {j:Int}:jN (.int j) .bx=true:=rfl
theorem Su {j:Int}:jN (.int j) (.str x)=true:=rfl
theorem Sv:jN .bx (.str x)=true:=rfl
theorem zud:jN (.str x) .bx=true:=rfl
theorem Sw:jN .bx .bx=true:=rfl
theorem Sx {i j:Int}:iu (.int i) (.int j)=(i==j):=rfl
theorem Sy {y:Str}:iu (.str x) (.str y)=(x==y):=rfl
end
end L2
namespace L2
open PySem PySem.Spec
section
variable {K:Frag}{H:ah}{r p:Addr}
theorem dX {f:Str}{aT:List (Str×V)}{P:V->Prop}(h:H r∣.ins C av aT) (c:eQ K C) (n:eR K C f) (l:aT.lookup f∣v) (q:P v):∃C av aT,H r∣.ins C av aT/\eQ K C/\eR K C f/\∃v,List.lookup f aT∣v/\P v:=⟨C,av,aT,h,c,n,v,l,q⟩
theorem g9 {i:Int}{P:V->Prop}(h:aK K H p xs) (e:dH xs i∣v) (q:P v):∃xs,aK K H p xs/\∃v,dH xs i∣v/\P v:=⟨xs,h,v,e,q⟩
theorem dp {i:Int}{P:V->Prop}(h:bT K H p xs) (e:dH xs i∣v) (q:P v):∃xs,bT K H p xs/\∃v,dH xs i∣v/\P v:=⟨xs,h,v,e,q⟩
theorem rE {u w:V}{c y:Value}{b:Bool}{P:Bool->Prop}(e:tj w∣c) (t:gN K H u y) (k:kitOne K y c∣b) (q:P b):∃c,tj w∣c/\∃y,gN K H u y/\∃b,kitOne K y c∣b/\P b:=⟨c,e,y,t,b,k,q⟩
theorem wA {u:V}{c y:Value}{b:Bool}{P:Bool->Prop}(t:gN K H u y) (k:kitOne K y c∣b) (q:P b):∃y,gN K H u y/\∃b,kitOne K y c∣b/\P b:=⟨y,t,b,k,q⟩
theorem ow {u w:V}{d e:PyData}{P:PyData->PyData->Prop}(h:Den K H u d) (g:Den K H w e) (s:SeqAt.shaped d=true) (z:SeqAt.shaped e=true) (q:P d e):∃d,Den K H u d/\∃e,Den K H w e/\SeqAt.shaped d=true/\SeqAt.shaped e=true/\P d e:=⟨d,h,e,g,s,z,q⟩
theorem f6 {f:Str}{aT:List (Str×V)}{P:Prop}(h:H r∣.ins C av aT) (n:aT.lookup f=none) (q:P):∃av aT,H r∣.ins C av aT/\List.lookup f aT=none/\P:=⟨av,aT,h,n,q⟩
end
section
variable {c a b:TT}{t u:cV}{D:Ends}{J:St}{H:ah}{Q:Bool->ah->Prop}
end
end L2
namespace L2
open PySem PySem.Spec PyProof.Rows
end L2
variable {r:Int}
namespace Ly
open PySem L2
section
variable {bt:Type}[DecidableEq bt]
def Top (ps:List (bt×Int))(k:bt)(q:Int):Prop:=(k,q)∈ps/\∀r,(k,r)∈ps->r<=q
theorem Top.uniq {ps:List (bt×Int)}{k:bt}(h:Top ps k q) (h':Top ps k r):q=r:=by
 have a:=h.2 _ h'.1
 have b:=h'.2 _ h.1
 omega
structure jX (ps:List (bt×Int))(kvs:List (bt×V)):Prop where
 nd:(kvs.map (·.1)).Nodup
 to:∀k v,aS kvs k∣v->∃q,v=.int q/\Top ps k q
 no:∀k,aS kvs k=none->∀q,(k,q) ∉ ps
theorem jX.add {ps:List (bt×Int)}{kvs:List (bt×V)}{p:bt×Int}(h:jX ps kvs) (wB:0<=p.2):jX (ps++[p]) (fe kvs p):=by
 obtain⟨k,q⟩:=p;have wB:0<=q:=wB
 unfold fe m4;cases e:aS kvs k with
 | none=>
  show jX _ (if (-1:Int)<q then putK kvs k (.int q) else kvs)
  rw[aM ⋯];refine⟨wu h.nd,λj v aJ=>?_,λj aJ r a5=>?_⟩
  ·rw[mP]at aJ;split at aJ
   ·rename_i z;cases aJ;subst z;refine⟨q,rfl,by simp,λr a5=>?_⟩;rcases mem_append.mp a5 with y|y
    ·exact br y (h.no _ e r)
    ·have:=congrArg Prod.snd (mem_singleton.mp y)
     simp only at this;omega
   ·rename_i z;obtain⟨r,rfl,t1,gC⟩:=h.to j v aJ;refine⟨r,rfl,by simp[t1],λs aI=>?_⟩;rcases mem_append.mp aI with y|y
    ·exact gC s y
    ·exact br (congrArg Prod.fst (mem_singleton.mp y)) z
  ·rw[mP]at aJ;split at aJ
   ·cases aJ
   ·rename_i z;rcases mem_append.mp a5 with y|y
    ·exact h.no j aJ r y
    ·exact z (congrArg Prod.fst (mem_singleton.mp y))
 | some v=>
  obtain⟨r,rfl,t1,gC⟩:=h.to k v e;show jX _ (if r<q then putK kvs k (.int q) else kvs)
  by_cases z:r<q
  ·rw[aM z];refine⟨wu h.nd,λj v aJ=>?_,λj aJ s aI=>?_⟩
   ·rw[mP]at aJ;split at aJ
    ·rename_i y;cases aJ;subst y;refine⟨q,rfl,by simp,λs aI=>?_⟩;rcases mem_append.mp aI with y|y
     ·have:=gC s y
      omega
     ·have:=congrArg Prod.snd (mem_singleton.mp y)
      simp only at this;omega
    ·rename_i y;obtain⟨s,rfl,kk,kX⟩:=h.to j v aJ;refine⟨s,rfl,by simp[kk],λs' aI=>?_⟩;rcases mem_append.mp aI with x|x
     ·exact kX s' x
     ·exact br (congrArg Prod.fst (mem_singleton.mp x)) y
   ·rw[mP]at aJ;split at aJ
    ·cases aJ
    ·rename_i y;rcases mem_append.mp aI with x|x
     ·exact h.no j aJ s x
     ·exact y (congrArg Prod.fst (mem_singleton.mp x))
  ·rw[aB z];refine⟨h.nd,λj v aJ=>?_,λj aJ s aI=>?_⟩
   ·obtain⟨s,rfl,kk,kX⟩:=h.to j v aJ;refine⟨s,rfl,by simp[kk],λs' aI=>?_⟩;rcases mem_append.mp aI with x|x
    ·exact kX s' x
    ·have ar:j=k:=congrArg Prod.fst (mem_singleton.mp x)
     have aw:s'=q:=congrArg Prod.snd (mem_singleton.mp x)
     subst ar;have:=Top.uniq (ps:=ps) (k:=j) ⟨kk,kX⟩ ⟨t1,gC⟩
     omega
   ·rcases mem_append.mp aI with x|x
    ·exact h.no j aJ s x
    ·have ar:j=k:=congrArg Prod.fst (mem_singleton.mp x)
     rw[ar,e]at aJ;cases aJ
theorem Sz:jX ([]:List (bt×Int)) []:=⟨nodup_nil,λk v h=>(by cases h),λk _ q h=>(by cases h)⟩
theorem SA {ps:List (bt×Int)}(h0:∀p∈ps,0<=p.2):jX ps (ps.foldl fe []):=by
 have key:∀(rs gm:List (bt×Int))(kvs:List (bt×V)),jX gm kvs->(∀p∈rs,0<=p.2)->jX (gm++rs) (rs.foldl fe kvs):=by
  intro rs;induction rs with
  | nil=>intro gm kvs h _;rwa[append_nil]
  | cons p r bE=>
   intro gm kvs h aG;have:=bE (gm++[p]) (fe kvs p) (h.add (aG p (by simp))) λx aq=>aG x (by simp[aq])
   rwa [List.append_assoc]at this
 exact key ps [] [] Sz h0
def Af (ps gm:List (bt×Int)):Prop:=∀k q,(k,q)∈ps->∃r,(k,r)∈gm/\q<=r
theorem jX.same {ps gm:List (bt×Int)}{kvs Ag:List (bt×V)} (h:jX ps kvs) (g:jX gm Ag) (d:Af ps gm) (d':Af gm ps){k:bt}(aJ:aS kvs k∣v):aS Ag k∣v:=by
 obtain⟨q,rfl,t1,gC⟩:=h.to k v aJ;obtain⟨r,bX,cB⟩:=d k q t1;cases e:aS Ag k with
 | none=>exact br bX (g.no k e r)
 | some u=>
  obtain⟨s,rfl,kk,kX⟩:=g.to k u e;obtain⟨x,x1,Ah⟩:=d' k s kk;have a1:=gC x x1
  have a2:=kX r bX
  have:s=q:=⋯
  rw[this]
end
end Ly
variable {N:Int}
namespace Sr
section
variable {α:Type}{E:α->α->Prop}{step:Int->α->α}{there:Int->α->Prop}{b q t t':Int}{f f0:α}
structure rF (E:α->α->Prop)(step:Int->α->α)(there:Int->α->Prop):Prop where
 refl:∀a,E a a
 symm:∀{a c},E a c->E c a
 trans:∀{a c d},E a c->E c d->E a d
 wC:∀{a c} t,E a c->E (step t a) (step t c)
 test:∀{a c} t,E a c->there t a->there t c
def mc (step:Int->α->α)(b:Int)(f0:α):Nat->α
 | 0=>f0
 | k+1=>step (b+(k:Nat)) (mc step b f0 k)
def d8 (step:Int->α->α)(b:Int)(f0:α)(t:Int):α:=mc step b f0 (t-b).toNat
theorem wD (h:b<=t):d8 step b f0 (t+1)=step t (d8 step b f0 t):=by
 unfold d8;rw[show(t+1-b).toNat=(t-b).toNat+1 by omega];show step (b+((t-b).toNat:Nat)) _=_
 rw[show b+(((t-b).toNat:Nat):Int)=t by omega]
theorem Gm:d8 step b f0 b=f0:=by
 unfold d8;rw[show(b-b).toNat=0 by omega];rfl
structure At (E:α->α->Prop)(step:Int->α->α)(there:Int->α->Prop)(b q:Int)(f0:α)(t:Int)(f:α):Prop where
 le:b<=t
 eq:E f (d8 step b f0 t)
 no:∀s,b<=s->s<t->¬there s (d8 step b f0 s)
 cU:∀s,b<=s->q<=s->s<t->¬E (d8 step b f0 s) (d8 step b f0 (s+1))
theorem At.start (F:rF E step there):At E step there b q f0 b f0:=⟨wa9 _,by rw[Gm];exact F.refl _,λs aa ag=>by omega,λs aa _ ag=>by omega⟩
theorem At.go (F:rF E step there)(h:At E step there b q f0 t f)(n:¬there t f)(m:¬E (step t f) f):At E step there b q f0 (t+1) (step t f):=by
 have e:E (step t f) (d8 step b f0 (t+1)):=by rw[wD h.le];exact F.wC t h.eq
 refine⟨by have:=h.le;omega,e,λs aa ag=>?_,λs aa aR ag=>?_⟩
 ·by_cases z:s=t
  ·subst z;exactλy=>n (F.test _ (F.symm h.eq) y)
  ·exact h.no s aa ⋯
 ·by_cases z:s=t
  ·subst z;exactλy=>m (F.trans e (F.trans (F.symm y) (F.symm h.eq)))
  ·exact h.cU s aa aR ⋯
theorem gX (F:rF E step there)(ae:b<=t)(he:E f (d8 step b f0 t))(m:E (step t f) f)(st:∀s,t<=s->s<t'->E (step s f) (step t f)):∀n:Nat,t+n<=t'->E f (d8 step b f0 (t+n))
 | 0,_=>by rwa[show t+((0:Nat):Int)=t by omega]
 | n+1,hn=>by
  have bE:=gX F ae he m st n ⋯
  rw[show t+((n+1:Nat):Int)=t+n+1 by omega,wD ⋯];exact F.trans (F.symm m) (F.trans (F.symm (st (t+n) ⋯ ⋯)) (F.wC _ bE))
theorem At.skip (F:rF E step there)(h:At E step there b q f0 t f)(n:¬there t f)(m:E (step t f) f)(l:t<t')(md:t'<=q)(st:∀s,t<=s->s<t'->E (step s f) (step t f))(fX:∀s,t<s->s<t'->¬there s f):At E step there b q f0 t' f:=by
 have ae:=h.le
 have K:∀s,t<=s->s<=t'->E f (d8 step b f0 s):=λs aa ag=>by
  have:=gX F ae h.eq m st (s-t).toNat ⋯
  rw[show t+(((s-t).toNat:Nat):Int)=s by omega]at this;exact this
 refine⟨⋯,K t' ⋯ (wa9 _),λs aa ag=>?_,λs aa aR ag=>by omega⟩;by_cases z:s<t
 ·exact h.no s aa z
 ·by_cases y:s=t
  ·subst y;exactλw=>n (F.test _ (F.symm h.eq) w)
  ·exactλw=>fX s ⋯ ag (F.test _ (F.symm (K s ⋯ ⋯)) w)
structure rG (E:α->α->Prop)(step:Int->α->α)(there:Int->α->Prop)(b q:Int)(f0:α)(t:Int)(f:α):Prop where
 le:b<=t
 kp:q<=t
 eq:E f (d8 step b f0 t)
 iY:E (d8 step b f0 t) (d8 step b f0 (t+1))
 no:∀s,b<=s->s<=t->¬there s (d8 step b f0 s)
 cU:∀s,b<=s->q<=s->s<t->¬E (d8 step b f0 s) (d8 step b f0 (s+1))
theorem At.Ai (F:rF E step there)(h:At E step there b q f0 t f)(n:¬there t f)(m:E (step t f) f)(ao:q<=t):rG E step there b q f0 t f:=by
 refine⟨h.le,ao,h.eq,?_,λs aa ag=>?_,h.cU⟩
 ·rw[wD h.le];exact F.trans (F.symm h.eq) (F.trans (F.symm m) (F.wC t h.eq))
 ·by_cases z:s=t
  ·subst z;exactλy=>n (F.test _ (F.symm h.eq) y)
  ·exact h.no s aa ⋯
end
section
variable {bt:Type}
def rH (N:Int):Option Int->Nat
 | some q=>(N-q).toNat
 | none=>(N+1).toNat
def fD (N:Int)(ks:List bt)(g:bt->Option Int):Nat:=(ks.map λk=>rH N (g k)).sum
theorem Gn {ks:List bt}{g h:bt->Option Int}(up:∀k q,g k∣q->∃r,h k∣r/\q<=r) (bd:∀k r,h k∣r->0<=r/\r<=N):fD N ks h<=fD N ks g:=by
 induction ks with
 | nil=>exact wa8 _
 | cons k ks bE=>
  have one:rH N (h k)<=rH N (g k):=by
   cases e:g k with
   | some q=>
    obtain⟨r,aw,l⟩:=up k q e;rw[aw];show(N-r).toNat<=(N-q).toNat
    omega
   | none=>
    cases aw:h k with
    | none=>exact wa8 _
    | some r=>
     have:=bd k r aw
     show(N-r).toNat<=(N+1).toNat
     omega
  show(map _ (k::ks)).sum<=(map _ (k::ks)).sum
  rw[map_cons,sum_cons,map_cons,sum_cons];exact Nat.add_le_add one bE
theorem SD {ks:List bt}{g h:bt->Option Int}(up:∀k q,g k∣q->∃r,h k∣r/\q<=r) (bd:∀k r,h k∣r->0<=r/\r<=N) (d:∃k∈ks,g k≠h k):fD N ks h<fD N ks g:=by
 obtain⟨k,aj,ne⟩:=d;have key:rH N (h k)<rH N (g k):=by
  cases e:g k with
  | some q=>
   obtain⟨r,aw,l⟩:=up k q e;have:=bd k r aw
   have:q≠r:=λz=>ne (by rw[e,aw,z])
   rw[aw];show(N-r).toNat<(N-q).toNat
   omega
  | none=>
   cases aw:h k with
   | none=>exact br (by rw[e,aw]) ne
   | some r=>
    have:=bd k r aw
    show(N-r).toNat<(N+1).toNat
    omega
 obtain⟨s,t,rfl⟩:=List.append_of_mem aj;have a:=Gn (ks:=s) up bd
 have c:=Gn (ks:=t) up bd
 unfold fD at a c ⊢;rw[map_append,List.sum_append,map_cons,sum_cons,map_append,List.sum_append,map_cons,sum_cons];omega
end
end Sr
namespace Bk
open PySem L2 Wy
def Still (es:List Ent)(t r:Int):Prop:=∀e∈es,∀s,t<=s->s<=r->b7 e.b e.c s=b7 e.b e.c t
theorem Still.cut {es:List Ent}{t s:Int}(h:Still es t r) (aa:s<=r):Still es t s:=λe he x ag aR=>h e he x ag ⋯
def tO (v:V)(t:Int):Prop:=∃n:Int,v=.int n/\n<=t
theorem Gp {es:List Ent}{t s:Int}(f:ko es cell v) (t0:0<=t) (h:Still es t r) (aa:t<=s) (ag:s<=r) (y:tO v s):tO v t:=by
 obtain⟨n,rfl,hn⟩:=y;rcases f with⟨z,_⟩|⟨m,z,_,ok⟩
 ·cases z
 ·cases z;refine⟨n,rfl,?_⟩;by_cases bN:n<=t
  ·exact bN
  ·exfalso
   have p:=ok.pos
   rcases ok.hit with w|⟨x,aq,e⟩
   ·omega
   ·have a:=h x aq (n-1) ⋯ ⋯
    have c:=h x aq n ⋯ ⋯
    have:=ok.low x aq n p (c.trans (a.symm.trans e))
    omega
theorem Gq {es:List Ent}{t:Int}(ak:∀e∈es,e.c≠[]) (h:∀e∈es,e.b+(e.c.length:Int)-1<=t) (r:Int):Still es t r:=λe he s aa _=>by
 rw[ru (ak e he) (by have:=h e he;omega),ru (ak e he) (h e he)]
end Bk
variable {tl:Nat}
namespace L2
open PySem PySem.Spec PyProof.Rows
section
variable {prog:Program}{w:World}{A:Around}{E:wvP}{s:Shared}{d:Addr}
end
section
variable {prog:Program}{w:World}{A:Around}{E:wvP}{s:Shared}
end
theorem Inv.handed {T:Addr}{o:a3}{ch:List Addr}(I:Inv X pins J H s) (hf:∀b∈ch,jq X pins H b) (k:∀b o,b ∉ ch->s.heap.get? b∣o->h'.get? b∣o)
  (cP:↑s<=T) (new:de X.prog X.w (upd H T o) h' T o):Inv X pins J (upd H T o) { s with heap:=h',toks:=t' }:=by
 have hn:H T=none:=I.a6.fresh cP
 have jt:∀{b:Addr}{u:Obj},s.heap.get? b∣u->b≠T:=λe=>ne_of_lt (lt_of_lt_of_le (lt_size e) cP)
 refine I.step (g':=s.gens) (d':=s.drawn) (ch:=ch) (λb ae=>?_) (λb o _ _ ak e _=>k b o ak e) (λb o _ _ ak e _=>⟨o.slots,k b o ak e⟩) (λb o _ e n=>by rwa[zf (jt e)])
  (λb o ak e=>⟨o,k b o ak e⟩) (λb xs e=>by rwa[zf (cg e hn)]) (λb o u e=>by rwa[zf (cg e hn)]) (λb ps e=>⟨#[],by rw[zf (cg e hn),e];simp⟩) (λm hm=>?_) (λb u e=>?_) I.bare
 ·obtain⟨f0,f1,f2,eB,f4,eC⟩:=hf b ae;exact⟨eB,f1,f4,eC⟩
 ·obtain⟨o,es,cC,aA,r⟩:=hm;exact⟨o,es,cC,k _ o (λz=>(hf _ z).2.1 rfl) aA,r⟩
 ·by_cases ae:b=T
  ·subst ae;rw[aH]at e;cases e;exact new
  ·rw[zf ae]at e;refine(I.a6 b u e).gX (λc v ak q=>k c v (λz=>?_) q) (λc q=>by rwa[zf (cg q hn)]) λc xs q=>by rwa[zf (cg q hn)]
   have c4:=(hf c z).1
   rcases ak with y|y
   ·rw[y,e]at c4;cases c4
   ·rw[c4]at y;cases y
open AutoSeq1 (wpAny_loadPart')
section
variable {prog:Program}{w:World}{A:Around}{E:wvP}{s:Shared}
theorem SE {t:Addr}{x:Value}(hit:s.heap.IsTupleIter it t i) (bC:s.heap.IsTuple t items) (aq:items[i]?∣x)
  (ec:∀h',h'.IsTupleIter it t (i+1)->Heap.SameBut it s.heap h'->Q x { s with heap:=h' }):wpAny (model prog w) A (Builtin.SmallTypes.nextOf (.ref it)) Q E s:=by
 obtain⟨o,aA,ak,hd⟩:=id hit;obtain⟨_,kF,_,_,nO⟩:=bC;unfold Builtin.SmallTypes.nextOf;refine ax (wpAny_callSpecial?_slot (name:=Str.ofString "__next__") hit.typeIs F.slot_tuple_iterator_next (wpAny_call_entry F.slot_tuple_iterator_next hit.typeIs F.entry_tuple_iterator_next ?_ (F.args_tuple_iterator_next_1 _)));refine ax (m:=field (.ref it) 0) (wpAny_field aA hd (x:=.ref t) rfl ?_);rw[aB (λz:(Value.ref t==Value.none)=true=>nomatch z)];refine ax (m:=field (.ref it) 1) (wpAny_field aA hd (x:=.int i 0) rfl (ax (m:=seqItems? (.ref t)) (wpAny_seqItems kF nO ?_)));simp only[toNat_natCast,aq];exact ax (wpAny_setField aA hd (by simp) (bw ⟨x,rfl,bw (ec _ ⟨_,get?_update_self _ aA (Obj.isFreed_of_fields (Obj.data_mapFields hd _)),(Obj.cls_mapFields ..).trans ak,by rw[Obj.data_mapFields hd];simp[rawInt]⟩ (Heap.SameBut.update ..))⟩))
theorem Gr {t:Addr}(bN:gL A s.heap) (hit:s.heap.IsTupleIter it t i) (bC:s.heap.IsTuple t items) (aq:items[i]?=none)
  (ix:∀h' e,Heap.ExtBut it s.heap h'->(∃o,h'.get? e∣o/\o.cls=.type "StopIteration")->E (.ref e) { s with heap:=h' }):wpAny (model prog w) A (Builtin.SmallTypes.nextOf (.ref it)) Q E s:=by
 obtain⟨o,aA,ak,hd⟩:=id hit;obtain⟨_,kF,_,_,nO⟩:=bC;unfold Builtin.SmallTypes.nextOf;refine ax (wpAny_callSpecial?_slot (name:=Str.ofString "__next__") hit.typeIs F.slot_tuple_iterator_next (wpAny_call_entry F.slot_tuple_iterator_next hit.typeIs F.entry_tuple_iterator_next ?_ (F.args_tuple_iterator_next_1 _)));refine ax (m:=field (.ref it) 0) (wpAny_field aA hd (x:=.ref t) rfl ?_);rw[aB (λz:(Value.ref t==Value.none)=true=>nomatch z)];refine ax (m:=field (.ref it) 1) (wpAny_field aA hd (x:=.int i 0) rfl (ax (m:=seqItems? (.ref t)) (wpAny_seqItems kF nO ?_)));simp only[toNat_natCast,aq];refine ax (wpAny_rule (ax (wpAny_setField aA hd (by simp) (ut (bN.update (A:=A) aA ak _) λh' e k1 k2=>ix h' e (λb o ae z=>k1 b o ?_) k2))));rwa[get?_update_other _ _ (Ne.symm ae)]
end
def wF (A:Around)(g:Addr)(h:Heap):Prop:=A.handled=none\/∃(C:Addr)(av:Option Addr)(vs:Array Value)(aL:Array (Option Value)),A.handled∣.ref g/\h.get? g∣⟨.ref C,av,.fields vs,aL⟩/\vs[2]?∣Value.none
theorem wF.hd {g:Addr}{h:Heap}(x:wF A g h):gL A h:=by
 rcases x with x|⟨C,av,vs,aL,r⟩
 ·exact .inl x
 ·exact .inr ⟨g,C,av,vs,aL,r⟩
theorem gL.at {h:Heap}(x:gL A h) (it:Addr):∃g,wF A g h/\(g=it\/∃(C:Addr)(o:Obj),h.get? g∣o/\o.cls=.ref C):=by
 rcases x with x|⟨g,C,av,vs,aL,r⟩
 ·exact⟨it,.inl x,.inl rfl⟩
 ·exact⟨g,.inr ⟨C,av,vs,aL,r⟩,.inr ⟨C,_,r.2.1,rfl⟩⟩
theorem SF (it l g:Addr) (jT:l≠it) (items:Array Value):Draws prog w A it [it,l,g] items.size (λi v=>items[i]?∣v) (λi h=>h.IsTupleIter it l i/\h.IsTuple l items/\wF A g h) where
 live:=λ_ _ st=>let⟨o,aA,_⟩:=st.1;⟨o,aA⟩
 frame:=λ_ _ _ st aj=>⟨st.1.at λo e=>aj it (by simp) o e,let⟨o,aA,r⟩:=st.2.1;⟨o,aj l (by simp) o aA,r⟩,st.2.2.imp id λ⟨C,av,vs,aL,aa,ag,aR⟩=>⟨C,av,vs,aL,aa,aj g (by simp) _ ag,aR⟩⟩
 item:=λi s Q E au st ec=>by
  refine SE st.1 st.2.1 (x:=items[i]) (by simp[au]) λh' om i4=>ec _ h' s.toks (by simp[au]) ⟨om,st.2.1.extBut i4.extBut jT,st.2.2.imp id λ⟨C,av,vs,aL,aa,ag,aR⟩=>⟨C,av,vs,aL,aa,i4.extBut g _ (λz=>?_) ag,aR⟩⟩ i4;obtain⟨o,aA,ak,_⟩:=st.1;rw[z,aA]at ag;cases ag;cases ak
 done:=λs Q E st ix=>Gr st.2.2.hd st.1 st.2.1 (by simp) ix
theorem SG {Q:Bool->Shared->Prop}{c:Value}(h:∀b,Q b s):wpAny (model prog w) A (Builtin.SmallTypes.calledThroughType c) Q E s:=by
 unfold Builtin.SmallTypes.calledThroughType;exact ax (wpAny_stack_any λaer=>bw (h _))
set_option tactic.hygienic true in
theorem SH (l:Addr)(items:Array Value)(n:Nat)(Aj:Option Addr)(aL:Array (Option Value)):
  Meets (Builtin.«enumerate.__new__» ⟨[.type "enumerate",.ref l],[]⟩) (λ_ R s=>s.heap.get? l=some { cls:=.type "tuple",dict:=Aj,data:=.seq items n,slots:=aL }/\
   R (.ok (.ret (.ref (s.heap.push { cls:=.type "tuple_iterator",data:=.fields #[.ref l,.int 0 0] }).objs.size)))
    { s with heap:=(s.heap.push { cls:=.type "tuple_iterator",data:=.fields #[.ref l,.int 0 0] }).push { cls:=.type "enumerate",data:=.fields #[.none,.bool false,.ref ↑s,rawInt 0,.none,.none] } }):=
 .of_wp λprog w A R s hz=>by
  obtain⟨aG,g,d,tk,os⟩:=s;obtain⟨aD,a5⟩:=hz;have SI:=sub_enumerate
  have cw:Heap.IsTuple (Shared.heap ⟨aG,g,d,tk,os⟩) l items:=⟨_,aD,rfl,n,rfl⟩
  wp_walk using wpAny_loadPart' aD,SG
  intro b;cases b
  ·wp_walk using wpAny_loadPart' aD,wpAny_pyIter_tuple cw
   exact⟨_,rfl,a5⟩
  ·wp_walk using wpAny_loadPart' aD,wpAny_pyIter_tuple cw
   exact⟨_,rfl,a5⟩
theorem SJ {l:Addr}(cw:s.heap.IsTuple l items)
  (h:∀h',IsEnum h' (↑s+1) ↑s 0 .none->h'.IsTupleIter ↑s l 0->(∀b o,s.heap.get? b∣o->h'.get? b∣o)->Q (.ref (↑s+1)) { s with heap:=h' }):
  wpAny (model prog w) A (call (.type "enumerate") [.ref l]) Q E s:=by
 obtain⟨⟨c,Aj,zJ,aL⟩,aD,ak,n,hd⟩:=cw;obtain rfl:c=.type "tuple":=ak;obtain rfl:zJ=.seq items n:=hd;refine callType_new F.called_enumerate ∅ (F.typeCall_enumerate_1 _) (F.newCall_enumerate_1 _) (λobj=>F.args_object_init_2 obj _) F.entry_enumerate_new (SH l items n Aj aL) ⟨aD,?_⟩;have hz:(s.heap.push { cls:=.type "tuple_iterator",data:=.fields #[.ref l,.int 0 0] }).objs.size=↑s+1:=size_push ..
 show _/\_
 rw[hz];have he:IsEnum ((s.heap.push { cls:=.type "tuple_iterator",data:=.fields #[.ref l,.int 0 0] }).push { cls:=.type "enumerate",data:=.fields #[.none,.bool false,.ref ↑s,rawInt 0,.none,.none] }) (↑s+1) ↑s 0 .none:=by
  have:=get?_push_size (s.heap.push { cls:=.type "tuple_iterator",data:=.fields #[.ref l,.int 0 0] }) (o:={ cls:=.type "enumerate",data:=.fields #[.none,.bool false,.ref ↑s,rawInt 0,.none,.none] }) rfl
  rw[hz]at this;exact this
 exact⟨⟨_,he,rfl⟩,h _ he ⟨_,get?_push_of_some _ (get?_push_size _ rfl),rfl,rfl⟩ λb o x=>get?_push_of_some _ (get?_push_of_some _ x)⟩
def tP (K:Frag)(a:Addr):gZ:=
 ⟨λi H=>∃xs x,bT K H a xs/\xs[i]?∣x,λi H v H'=>∃T x,v=.ref T/\H T=none/\H'=upd H T (.tup [.int (i:Nat),x])/\∀xs,bT K H a xs->xs[i]?∣x,λi H=>∃xs,bT K H a xs/\xs.length<=i⟩
theorem SK {sJ:Pos}(a e it:Addr) (wG:e≠it) (wH:a≠it):
  Turn P w K (.Tuple es tl sJ) (tP K a) [e,it] e (λi h=>(∃old,IsEnum h e it (i:Nat) old)/\h.IsTupleIter it a i) where
 mem:=by simp
 obj:=λi h st c ak=>by
  obtain⟨⟨old,he⟩,km,p1,cL,ar⟩:=st;simp only[mem_cons,not_mem_nil,or_false]at ak;rcases ak with q|q<;>subst q
  ·exact⟨_,he,λv q=>by cases q⟩
  ·exact⟨km,p1,λv q=>by rw[ar]at q;cases q⟩
 keep:=λi h h' st k=>by
  obtain⟨⟨old,he⟩,aa⟩:=st;exact⟨⟨old,k _ (by simp) _ he⟩,aa.at λo q=>k _ (by simp) o q⟩
 item:=by
  intro X df hw c9 ak i pins s J H E I hf st bD;subst df hw c9;obtain⟨xs,x,aN,aq⟩:=bD;obtain⟨aU,cf,p,SM⟩:=I.tuple aN;have p:s.heap.IsTuple a aU.toArray:=p
  obtain⟨u,bZ,gh⟩:=cf.get aq;obtain⟨⟨old,he⟩,aa⟩:=id st;obtain⟨g,wI,tQ⟩:=gL.at (A:=X.A.in1) (I.calm ak) it;have aD:i<aU.toArray.size:=by
   obtain⟨bN,_⟩:=wa4.mp bZ;simpa using bN
  have SN:e ∉ [it,a,g]:=λz=>by
   simp only[mem_cons,not_mem_nil,or_false]at z;rcases z with z|z|z
   ·exact wG z
   ·obtain⟨o,aA,mG,_⟩:=p;rw[<- z,he]at aA;cases aA;exact br (show Value.type "enumerate"=Value.type "tuple" from mG) ∅
   ·rcases tQ with y|⟨C,o,aA,mG⟩
    ·exact wG (z.trans y)
    ·rw[<- z,he]at aA;cases aA;cases mG
  refine wpAny_pyNext_enum_itemD (SF (A:=X.A.in1) it a g wH aU.toArray) he ⟨aa,p,wI⟩ aD wG SN λy h' tk bg aA i4 cP hsz aj=>?_;obtain rfl:y=u:=by
   have:aU.toArray[i]?∣u:=by simpa using bZ
   rw[this]at bg;exact(wa5 bg).symm
  have lt:∀{c:Addr}{o:Obj},s.heap.get? c∣o->↑s≠c:=λe=>ne_of_gt (lt_size e)
  have hn:H ↑s=none:=I.a6.fresh (wa8 _)
  have aO:Inv X pins J (upd H ↑s (.tup [.int (i:Nat),x])) { s with heap:=h',toks:=tk+1 }:=I.handed (t':=tk+1) (ch:=[e,it]) hf (λc o ak q=>aj c o (λz=>ak (by simp[z])) (λz=>ak (by simp[z])) q) (wa8 _)
   ⟨by rw[sizeLine_eq];simp,[.int i tk,y],.cons ⟨tk,rfl⟩ (.cons gh .nil),⟨_,cP,rfl,0,rfl⟩⟩
  refine⟨_,rfl,wpAny_letOwnedTupleGo_enum (s:={ s with heap:=h',toks:=tk+1 }) aA λvT tR lU=>?_⟩;have Gs:∀c∈[e,it],upd H ↑s (.tup [.int (i:Nat),x]) c=none:=λc ak=>by
   obtain⟨o,q⟩:∃o,s.heap.get? c∣o:=by
    obtain⟨_,p1,_⟩:=id aa;simp only[mem_cons,not_mem_nil,or_false]at ak;rcases ak with q|q<;>subst q
    ·exact⟨_,he⟩
    ·exact⟨_,p1⟩
   rw[zf (Ne.symm (lt q))];exact(hf c ak).1
  obtain⟨f0,f1,f2,eB,f4,eC⟩:=hf e (by simp);have bu:Inv X pins J (upd H ↑s (.tup [.int (i:Nat),x])) { s with heap:=vT,toks:=tk+1 }:=aO.turned (t':=tk+1) (λc o ak q=>lU.extBut c o ak q) (Gs e (by simp)) f1 eB f4 eC
  exact⟨.ref ↑s,_,bu,rfl,⟨_,x,rfl,hn,rfl,λaes wJ=>by rwa[I.Nq wJ aN]⟩,⟨⟨_,by simpa using tR⟩,i4.1.extBut lU.extBut wG.symm⟩,Gs⟩
 done:=by
  intro X df hw c9 ak i pins s J H E I hf st bD;subst df hw c9;obtain⟨xs,aN,aet⟩:=bD;obtain⟨aU,cf,p,SM⟩:=I.tuple aN;have p:s.heap.IsTuple a aU.toArray:=p
  have e2:=cf.length
  obtain⟨⟨old,he⟩,aa⟩:=id st;have cP:s.TypeIs (.ref e) "enumerate":=⟨_,he,rfl⟩
  obtain⟨f0,f1,f2,eB,f4,eC⟩:=hf it (by simp);unfold pyNext;refine ax (wpAny_attempt (wpAny_callSpecial?_slot (name:=Str.ofString "__next__") cP F.slot_enumerate_next (wpAny_call_entry F.slot_enumerate_next cP F.entry_enumerate_next ?_ (F.args_enumerate_next_1 _))));refine ax (m:=field (.ref e) 2) (wpAny_field he rfl (x:=.ref it) rfl (ax (Gr (A:=X.A.in1) (I.calm ak) aa p (by simp;omega) λh' x eb aq=>?_)));exact nN aq ⟨rfl,I.turned (t':=s.toks) (λb o ae q=>eb b o ae q) f0 f1 eB f4 eC⟩
 self:=λ_ _ _ _ _ st h=>by
  obtain⟨⟨old,he⟩,_⟩:=st;exact wpAny_pyIter_enum he h
def zsr (K:Frag)(bB:dz):TI:=λJ H R=>bB J H λvs H1=>∃a xs,vs=[.ref a]/\bT K H1 a xs/\R (tP K a) H1
theorem SO {sJ:Pos}{a:Expr}{bB:dz}{p:Pos}(bD:ft X "enumerate") (hm:X.mg "enumerate"=none) (aN:PA X [a] bB) (aI:autoParam (starEach [a] X.env=[(false,eval a X.env)]) dA._auto_1):
  PI X (.Tuple es tl sJ) (.Call (.Name "enumerate" p) [a] [] pos) (zsr X.K bB):=by
 intro pins s J H R I h;refine Call_ (kG I bD hm PyProof.Rows.boot_enumerate (PyProof.Rows.callWith_type1 (bz (aN pos pins s J H _ I h) λus s1 ⟨vs,H1,aO,bX,a8⟩=>?_) (by rw[aI];rfl) rfl));obtain⟨a1,xs,e,aa,q⟩:=a8;subst e;obtain⟨u,rfl,r⟩:=vals1 bX;cases r;obtain⟨aU,cf,pl,hz⟩:=aO.tuple aa;have pl:s1.heap.IsTuple a1 aU.toArray:=pl
 have e2:a1<↑s1:=by obtain⟨_,e,_⟩:=pl;exact lt_size e
 refine SJ pl λh' he au aj=>wpAny_pyIter_enum he ?_;have bu:Inv X pins J H1 { s1 with heap:=h' }:=aO.kept (t':=s1.toks) aj
 refine⟨↑s1+1,[↑s1+1,↑s1],_,_,H1,rfl,bu,SK a1 _ _ (Nat.succ_ne_self _) (ne_of_lt e2),⟨⟨_,he⟩,au⟩,λc ak=>?_,q⟩;have lc:↑s1<=c:=by
  simp only[mem_cons,not_mem_nil,or_false]at ak;rcases ak with q|q<;>rw[q]
  ·exact Nat.le_add_right _ _
  ·exact wa8 _
 exact aO.mH lc (aO.a6.fresh lc)
theorem SP {g:fi}(Pv:Nat->St->ah->Prop) (h0:Pv 0 J H) (aD:∀i J H,Pv i J H->bT K H a xs)
  (aI:∀(i:Nat) x J H T,xs[i]?∣x->Pv i J H->H T=none->g (.ref T) J (upd H T (.tup [.int (i:Nat),x])) λdu aE=>bj { D with aP:=Pv (i+1),bW:=Pv (i+1),b3:=D.aP } du aE) (hd:∀J H,Pv xs.length J H->D.aP J H):
  ∃W:Nat->Nat->St->ah->Prop,(∃m,W 0 m J H)/\∀i m J H,W i m J H->
   ((tP K a).stop i H/\D.aP J H)\/((tP K a).go i H/\∃N:St->ah->Prop,(∀a7 H',N a7 H'->∃ba,ba<m/\W (i+1) ba a7 H')/\∀x H',(tP K a).gy i H x H'->g x J H' λdu aE=>bj { D with aP:=N,bW:=N,b3:=D.aP } du aE):=by
 refine⟨λi m J H=>m=xs.length-i/\i<=xs.length/\Pv i J H,⟨xs.length,by simp,zero_le _,h0⟩,?_⟩;rintro i m J H ⟨rfl,au,p⟩;have a8:=aD i J H p
 by_cases cF:i<xs.length
 ·refine .inr ⟨⟨xs,xs[i],a8,by simp[cF]⟩,Pv (i+1),λa7 H' gj=>⟨xs.length-(i+1),⋯,rfl,cF,gj⟩,λv H' y=>?_⟩;obtain⟨T,x,ar,aw,bV,eI⟩:=y;subst ar bV;exact aI i x J H T (eI xs a8) p aw
 ·have e:i=xs.length:=⋯
  subst e;exact .inl ⟨⟨xs,a8,wa8 _⟩,hd J H p⟩
section
variable {prog:Program}{w:World}{A:Around}{R:Result->Shared->Prop}{I:Addr}{cu wr:List Addr}{n:Nat}{P:Nat->Value->Prop}{St:Nat->Heap->Prop}{d:Value}
theorem SQ (W:Walks prog w A.in1 I cu wr n P St)(dq:Nat->Nat->Bool)(p6:CmpOf prog w A.in1 .Gt P dq)(S:Addr)(jY:S ∉ cu):
  ∀(k j:Nat)(s:Shared)(eU:Value)(c:Nat),n-(j+1)=k->j+1<=n->St (j+1) s.heap->P (argBest dq j) eU->s.heap.get? S=some { cls:=.type "list",dict:=none,data:=.seq #[eU,eU] c,slots:=#[] }->
  (∀v h' tk,P (argBest dq (n-1)) v->(∀b o,b ∉ wr->b≠S->s.heap.get? b∣o->h'.get? b∣o)->R (.ok (.ret v)) { s with heap:=h',toks:=tk })->
  codeAny (model prog w) A (.builtin "max.loop" ⟨[.ref I,.none,.ref S],[("default",d)]⟩) R s:=by
 have nf:S ∉ wr:=λh=>jY (W.sub _ h)
 have jZ:(toString "max"++toString ".loop":String)="max.loop":=by decide
 intro k;induction k with
 | zero=>
  intro j s eU c aj aZ hst ng cb eZ;have m2:j+1=n:=⋯
  refine codeAny_builtin F.entry_max_loop ?_;rw[Around.under_plainId F.plain_max_loop _];refine ax (m:=seqItems? (.ref S)) (wpAny_seqItems cb rfl ?_);refine ax (m:=tryCatch (pyNext (.ref I)) _) (wpAny_tryCatch (W.done s _ _ (m2 ▸ hst) λh' tk c6=>?_));exact ax (m:=updateSeq S (λ_=>#[])) (wpAny_updateSeq (c6 S _ nf cb) rfl (ax (wpAny_letGo (bw (eZ eU _ tk (by rwa[<- m2]) λb o e5 gS e=>(get?_update_other _ _ (Ne.symm gS)).trans (c6 b o e5 e))))))
 | succ k bE=>
  intro j s eU c aj aZ hst ng cb eZ;have cF:j+1<n:=⋯
  refine codeAny_builtin F.entry_max_loop ?_;rw[Around.under_plainId F.plain_max_loop _];refine ax (m:=seqItems? (.ref S)) (wpAny_seqItems cb rfl ?_);refine ax (m:=tryCatch (pyNext (.ref I)) _) (wpAny_tryCatch (W.item (j+1) s _ _ cF hst λv h' tk df nh c6=>?_));have i5:=c6 S _ nf cb
  show wpAny _ A.in1 (tryCatch (holding [v,v] (richCompare .Gt v eU>>=_)) _>>=_) _ _ _
  refine ax (wpAny_tryCatch (wpAny_holding (ax (p6 (j+1) (argBest dq j) v eU _ _ _ df ng ?_))));refine ax (wpAny_holding (wpAny_truthy_bool (ax (wpAny_letGo (bw ?_)))));cases ae:dq (j+1) (argBest dq j) with
  | true=>
   simp only[if_true];refine ax (wpAny_updateSeq i5 rfl (ax (wpAny_letGo ?_)));rw[jZ];refine bw ⟨plainId_quiet F.plain_max_loop _,bE (j+1) _ v _ ⋯ cF (W.frame _ _ _ nh λb p7 o e=>(get?_update_other _ _ (λh:S=b=>jY (by rwa[h]))).trans e) (by simp only[argBest,ae,if_true];exact df) (get?_update_self _ i5 rfl) λep la lb lg lh=>?_⟩;exact eZ ep la lb lg λb o e5 gS e=>lh b o e5 gS ((get?_update_other _ _ (Ne.symm gS)).trans (c6 b o e5 e))
  | false=>
   simp only[false_eq_true,if_false];refine ax (wpAny_letGo ?_);rw[jZ];exact bw ⟨plainId_quiet F.plain_max_loop _,bE (j+1) _ eU c ⋯ cF nh (by simp only[argBest,ae,false_eq_true,if_false];exact ng) i5 λep la lb lg lh=>eZ ep la lb lg λb o e5 gS e=>lh b o e5 gS (c6 b o e5 e)⟩
theorem SR (W:Walks prog w A.in1 I cu wr n P St)(dq:Nat->Nat->Bool)(p6:CmpOf prog w A.in1 .Gt P dq)(S:Addr)(jY:S ∉ cu){c:Nat}(hst:St 0 s.heap) (cb:s.heap.get? S=some { cls:=.type "list",dict:=none,data:=.seq #[] c,slots:=#[] })
  (eZ:∀v h' tk,((n=0/\v=d)\/(0<n/\P (argBest dq (n-1)) v))->(∀b o,b ∉ wr->b≠S->s.heap.get? b∣o->h'.get? b∣o)->R (.ok (.ret v)) { s with heap:=h',toks:=tk }):
  codeAny (model prog w) A (.builtin "max.loop" ⟨[.ref I,.none,.ref S],[("default",d)]⟩) R s:=by
 have nf:S ∉ wr:=λh=>jY (W.sub _ h)
 have jZ:(toString "max"++toString ".loop":String)="max.loop":=by decide
 refine codeAny_builtin F.entry_max_loop ?_;rw[Around.under_plainId F.plain_max_loop _];refine ax (m:=seqItems? (.ref S)) (wpAny_seqItems cb rfl ?_);rcases Nat.eq_zero_or_pos n with hn|hn
 ·refine ax (m:=tryCatch (pyNext (.ref I)) _) (wpAny_tryCatch (W.done s _ _ (hn ▸ hst) λh' tk c6=>?_));exact ax (wpAny_rule (bw (eZ d h' tk (.inl ⟨hn,rfl⟩) λb o e5 gS e=>c6 b o e5 e)))
 ·refine ax (m:=tryCatch (pyNext (.ref I)) _) (wpAny_tryCatch (W.item 0 s _ _ hn hst λv h' tk df nh c6=>?_));have i5:=c6 S _ nf cb
  refine ax (m:=updateSeq S (λ_=>#[v,v])) (wpAny_updateSeq i5 rfl ?_);rw[jZ];refine bw ⟨plainId_quiet F.plain_max_loop _,SQ W dq p6 S jY _ 0 _ v _ rfl hn (W.frame _ _ _ nh λb p7 o e=>(get?_update_other _ _ (λh:S=b=>jY (by rwa[h]))).trans e) df (get?_update_self _ i5 rfl) λep la lb lg lh=>?_⟩;exact eZ ep la lb (.inr ⟨hn,lg⟩) λb o e5 gS e=>lh b o e5 gS ((get?_update_other _ _ (Ne.symm gS)).trans (c6 b o e5 e))
end
section
variable {prog:Program}{w:World}{A:Around}{E:wvP}{s:Shared}
theorem Gu {id:String}{b:Builtin}{args:List Value}(aj:builtinKind id=none) (aG:plainId id=true) (ae:entryFor table id∣b) (aN:argsOk id ⟨args,kw⟩)
  (ak:wpAny (model prog w) A.in1 (b ⟨args,kw⟩) (λfin s'=>match fin with
   | .done f=>(match (Except.ok f:Result) with|.ok (.ret v)=>Q v s'|.ok _=>False|.error e=>E e s')
   | .again aY=>aY.quiet=true/\codeAny (model prog w) A aY (λr s'=>match r with|.ok (.ret v)=>Q v s'|.ok _=>False|.error e=>E e s') s') E s):wpAny (model prog w) A (call (.builtin id) args kw) Q E s:=by
 refine wpAny_call (codeAny_call_builtin aG ae ?_);simp only[checkBuiltinCall,aj];cases SS:Manifest.signature? id with
 | none=>exact bw ak
 | some sig=>
  have ag:Bind.checkArgs id sig ⟨args,kw⟩=pure ():=by simpa only[argsOk,SS] using aN
  simp only[ag];exact bw ak
theorem SU (a d:Value):argsOk "max" ⟨[a],[("default",d)]⟩:=by unfold argsOk;kernel_rfl
theorem SV {l:Addr}{xs:Array (Int×Tok)}{d:Value}(bN:A.handled=none) (aD:s.heap.IsList l (intItems xs))
  (h:∀v h' tk,((xs.size=0/\v=d)\/(0<xs.size/\(intItems xs)[argBest (λi j=>decide (numAt xs i>numAt xs j)) (xs.size-1)]?∣v))->(∀b o,s.heap.get? b∣o->h'.get? b∣o)->Q v { s with heap:=h',toks:=tk }):
  wpAny (model prog w) A (call (.builtin "max") [.ref l] [("default",d)]) Q E s:=by
 have jZ:(toString "max"++toString ".loop":String)="max.loop":=by decide
 refine Gu F.kind_max F.plain_max F.entry_max (SU _ _) ?_;refine ax (m:=Builtin.Builtins.bindParams "max" ["key","default"] 0 ⟨[],[("default",d)]⟩) (wpAny_of_eq (show Builtin.Builtins.bindParams "max" ["key","default"] 0 ⟨[],[("default",d)]⟩=pure [none,some d] from rfl) ?_);refine ax (bw ?_);refine ax (iter_intList aD λhV e st jP Ak=>?_);subst e;refine ax (wpAny_newObj_type ?_);have W:=Walks.list (prog:=prog) (w:=w) (A:=A.in1) bN _ l Ak (intItems xs)
 rw[jZ];refine bw ⟨plainId_quiet F.plain_max_loop _,SR W _ (CmpOf.ints_gt (numAt xs) (λ_ _=>intItems_at)) _ (λhm=>wa7 _ (jP _ hm)) (W.frame _ _ _ st λb _ o e=>get?_push_of_some _ e) (get?_push_size _ rfl) λv h' tk df aj=>?_⟩;refine h v h' tk (by simpa [intItems] using df) (old_kept (l:=l) λb o e5 e=>?_);exact aj b o e5 (ne_of_lt (lt_size e)) (get?_push_of_some _ e)
end
def ni (ns:List Int)(z m:Int):Prop:=(ns=[]/\m=z)\/(m∈ns/\∀a∈ns,a<=m)
theorem ni.uniq {z m ba:Int}(h:ni ns z m) (h':ni ns z ba):m=ba:=by
 rcases h with⟨aa,ag⟩|⟨aa,ag⟩<;>rcases h' with⟨g1,g2⟩|⟨g1,g2⟩
 ·rw[ag,g2]
 ·rw[aa]at g1;cases g1
 ·rw[g1]at aa;cases aa
 ·have:=ag _ g1
  have:=g2 _ aa
  omega
def Gv (K:Frag)(t:dz)(ee:TE):TE:=λJ H Q=>t J H λvs H1=>zhe ee zus J H1 λzs aE=>∃p ns d,vs=[.ref p]/\zs=[.int d]/\aK K aE p (ns.map V.int)/\∀m,ni ns d m->Q (.int m) aE
theorem Gw {d:Expr}{p c2:Pos}{t:dz}{ee:TE}(ak:X.calm=true) (bD:ft X "max") (hm:X.mg "max"=none) (aN:PA X [e] t) (hd:PE X d ee) (aI:autoParam (starEach [e] X.env=[(false,eval e X.env)]) dA._auto_1):
  PE X (.Call (.Name "max" p) [e] [⟨some "default",d,c2⟩] pos) (Gv X.K t ee):=by
 intro pins s J H Q I h;refine wpAny_Call_Name_kw (kG I bD hm PyProof.Rows.Boot.«max» ?_);refine PyProof.Rows.callWith_kw (bz (aN pos pins s J H _ I h) λus s1 ⟨vs,H1,aO,bX,a8⟩=>?_) (by rw[aI];rfl) (by rw[aI];rfl);have aj:=D4 (nm:=some "default") (yJ:=c2) hd (D3 (X:=X))
 refine bz (aj pos pins s1 J H1 _ aO a8) λws s2 bN=>oqq λgE uq=>?_;obtain⟨zs,aE,bu,cB,p,ns,d,ar,aw,ao,q⟩:=bN;refine uq ?_;subst ar aw;obtain⟨u,rfl,bf⟩:=vals1 bX;cases bf;obtain⟨SW,rfl,bp⟩:=vals1 cB;obtain⟨tk,rfl⟩:=bp;obtain⟨aU,c1,pl,hz⟩:=bu.list ao;obtain⟨ps,rfl,rfl⟩:=ints_of c1;have aD:s2.heap.IsList p (intItems ps.toArray):=by
  have:=pl.isList
  simpa [intItems] using this
 refine SV (bu.ok.hd ak) aD λv h' p8 aJ c6=>?_;rcases aJ with⟨h0,rfl⟩|⟨h0,aJ⟩
 ·have cy:ps=[]:=by cases ps with
   | nil=>rfl
   | cons a b=>simp at h0
  exact⟨.int d,aE,bu.kept (t':=p8) c6,⟨tk,rfl⟩,q d (.inl ⟨by rw[cy];rfl,rfl⟩)⟩
 ·obtain⟨t,rfl⟩:=intItems_at aJ;obtain⟨aa,ag⟩:=argBest_gt (numAt ps.toArray) (ps.toArray.size-1);have lt:∀{i:Nat},i<=ps.toArray.size-1->i<(ps.map (·.1)).length:=λ{i} h=>by rw[length_map];simp only[size_toArray]at h h0;omega
  refine⟨.int _,aE,bu.kept (t':=p8) c6,⟨t,rfl⟩,q _ (.inr ⟨?_,λa aN=>?_⟩)⟩
  ·rw[wh];exact getD_mem (lt aa)
  ·obtain⟨j,aZ,rfl⟩:=mem_getD aN;rw[<- wh];exact ag j (by rw[length_map]at aZ;simp only[size_toArray];omega)
section
variable {prog:Program}{w:World}{A:Around}{E:wvP}{s:Shared}
end
end L2
namespace L2
open PySem PySem.Spec PyProof.Rows PySem.W
section
variable {n:Nat}{lt:Nat->Nat->Bool}{cmp:Nat->Nat->(Bool->Shared->Prop)->Shared->Prop}{s:Shared}
abbrev Gx (p:Array Nat)(i:Nat):Nat:=p.getD i 0
def cm (lt:Nat->Nat->Bool)(p:Array Nat)(m:Nat):Prop:=∀i j,i<=j->j<m->lt (Gx p j) (Gx p i)=false
end
section
variable {M:Model}{A:Around}{E:wvP}{J:Type}{s:Shared}
end
section
variable {prog:Program}{w:World}{A:Around}{E:wvP}{bt:SortKind}{it:Array Keyed}{n:Nat}{lt:Nat->Nat->Bool}{s:Shared}{st:SortSt}
end
end L2
namespace L2
section
variable {lt:Nat->Nat->Bool}{u v o:List Nat}{fz f7:Nat}
def SX (lt:Nat->Nat->Bool)(l:List Nat):Prop:=l.Pairwise λx y=>lt y x=false
structure Al (lt:Nat->Nat->Bool)(u v o:List Nat)(fz f7:Nat):Prop where
 pm:o.Perm (u.take fz++v.take f7)
 aeu:SX lt o
 gh:∀x∈o,∀y∈u.drop fz,lt y x=false
 cf:∀x∈o,∀y∈v.drop f7,lt y x=false
end
end L2
variable {aG:Nat->Nat->Prop}
namespace L2
open PySem PySem.Spec PyProof.Rows PySem.W
abbrev setG (st:SortSt)(g:Nat):SortSt:=SortSt.mk' (kindOf st) (arrOf st) (pendingOf st) g (failedOf st)
abbrev aU (it:Array Keyed)(l:List Nat):Array Keyed:=(l.map (kas_item it)).toArray
section
variable {it:Array Keyed}{o l:List Nat}
end
section
variable {prog:Program}{w:World}{A:Around}{E:wvP}{bt:SortKind}{it:Array Keyed}{n:Nat}{lt:Nat->Nat->Bool}{s:Shared}{st:SortSt}
def Gy (lt:Nat->Nat->Bool)(u v:List Nat)(it:Array Keyed)(out:Array Keyed)(fz f7:Nat):Prop:=∃o,out=aU it o/\Al lt u v o fz f7/\fz+1<u.length/\f7<v.length
theorem pq {u v:List Nat}{T:Prop}{G:Option (Array Keyed)×Array Keyed×Nat×Nat×Nat->SortSt->Prop} (k:∀fz f7 mg o g,T->Al lt u v o fz f7->fz+1<u.length->f7<v.length->aG fz f7->G (none,aU it o,fz,f7,mg) (setG st g)):∀c fu,T->(c.1=none/\Gy lt u v it c.2.1 c.2.2.1 c.2.2.2.1/\aG c.2.2.1 c.2.2.2.1/\∃g,fu=setG st g)->G c fu:=by
 rintro⟨r,out,fz,f7,mg⟩ fu bC ⟨rfl,⟨o,rfl,m,aa,ag⟩,h,g,rfl⟩;exact k fz f7 mg o g bC m aa ag h
theorem vW {u v:List Nat}{T:Prop}{G:Option (Array Keyed)×Array Keyed×Nat×Nat×Nat×Nat×Nat->SortSt->Prop} (k:∀fz f7 ac Am o g,T->Al lt u v o fz f7->fz+1<u.length->f7<v.length->aG fz f7->∀mg,G (none,aU it o,fz,f7,mg,ac,Am) (setG st g)):∀c fu,T->(c.1=none/\Gy lt u v it c.2.1 c.2.2.1 c.2.2.2.1/\aG c.2.2.1 c.2.2.2.1/\∃g,fu=setG st g)->G c fu:=by
 rintro⟨r,out,fz,f7,mg,ac,Am⟩ fu bC ⟨rfl,⟨o,rfl,m,aa,ag⟩,h,g,rfl⟩;exact k fz f7 ac Am o g bC m aa ag h mg
end
section
variable {it:Array Keyed}{o l p:List Nat}
end
section
variable {prog:Program}{w:World}{A:Around}{E:wvP}{bt:SortKind}{it:Array Keyed}{n:Nat}{lt:Nat->Nat->Bool}{s:Shared}{st:SortSt}
end
def seg (p:List Nat)(a k:Nat):List Nat:=(p.drop a).take k
section
variable {lt:Nat->Nat->Bool}{p:List Nat}{a na nb k m:Nat}{r:List Nat}
end
section
variable {prog:Program}{w:World}{A:Around}{E:wvP}{bt:SortKind}{it:Array Keyed}{n:Nat}{lt:Nat->Nat->Bool}{s:Shared}
end
section
variable {lt:Nat->Nat->Bool}{f hH:Nat->Nat}{m:Nat}
end
section
variable {M:Model}{A:Around}{E:wvP}{J:Type}{s:Shared}
end
section
variable {lt:Nat->Nat->Bool}{p:Array Nat}{lo u v:Nat}
end
section
variable {prog:Program}{w:World}{A:Around}{E:wvP}{bt:SortKind}{it:Array Keyed}{n:Nat}{lt:Nat->Nat->Bool}{s:Shared}{pend:Array (Nat×Nat×Nat)}{g:Nat}{p:Array Nat}
end
section
variable {prog:Program}{w:World}{A:Around}{E:wvP}{bt:SortKind}{it:Array Keyed}{n:Nat}{lt:Nat->Nat->Bool}{s:Shared}{pend:Array (Nat×Nat×Nat)}{g:Nat}{p:Array Nat}
end
section
variable {lt:Nat->Nat->Bool}{l rJ:List Nat}
end
section
variable {prog:Program}{w:World}{A:Around}{E:wvP}{bt:SortKind}{it:Array Keyed}{n:Nat}{lt:Nat->Nat->Bool}{s:Shared}
end
end L2
namespace Hq
open PySem L2
theorem Gz:∀a:List Int,HT.lexLt a a=false
 | []=>rfl
 | x::a=>by rw[HT.sN,aM rfl];exact Gz a
theorem GA:∀{a b:List Int},HT.lexLt a b=true->HT.lexLt b a=false
 | [],[],h=>by cases h
 | [],_::_,_=>rfl
 | _::_,[],h=>by cases h
 | x::a,y::b,h=>by
  rw[HT.sN]at h ⊢;by_cases e:x=y
  ·rw[aM e]at h;rw[aM e.symm];exact GA h
  ·rw[aB e,decide_eq_true_eq]at h;rw[aB (λz=>e z.symm)];exact decide_eq_false ⋯
theorem An:∀{a b:List Int},HT.lexLt a b=false->HT.lexLt b a=false->a=b
 | [],[],_,_=>rfl
 | [],_::_,h,_=>by cases h
 | _::_,[],_,h=>by cases h
 | x::a,y::b,aa,ag=>by
  rw[HT.sN]at aa ag;by_cases e:x=y
  ·rw[aM e]at aa;rw[aM e.symm]at ag;rw[e,An aa ag]
  ·rw[aB e,decide_eq_false_iff_not]at aa;rw[aB (λz=>e z.symm),decide_eq_false_iff_not]at ag;omega
def iD (a b:List Int):Prop:=HT.lexLt b a=false
theorem iD.refl (a:List Int):iD a a:=Gz a
theorem iD.of {a b:List Int}(h:HT.lexLt a b=true):iD a b:=GA h
theorem iD.trans:∀{a b c:List Int},iD a b->iD b c->iD a c
 | [],_,[],_,_=>rfl
 | [],_,_::_,_,_=>rfl
 | _::_,[],_,h,_=>by cases h
 | _::_,_::_,[],_,h=>by cases h
 | x::a,y::b,z::c,aa,ag=>by
  unfold iD at aa ag ⊢;rw[HT.sN]at aa ag ⊢;by_cases ar:y=x<;>by_cases aw:z=y
  ·rw[aM ar]at aa;rw[aM aw]at ag;rw[aM (aw.trans ar)];exact iD.trans (a:=a) (b:=b) aa ag
  ·rw[aB aw,decide_eq_false_iff_not]at ag;rw[aB ⋯];exact decide_eq_false ⋯
  ·rw[aB ar,decide_eq_false_iff_not]at aa;rw[aB ⋯];exact decide_eq_false ⋯
  ·rw[aB ar,decide_eq_false_iff_not]at aa;rw[aB aw,decide_eq_false_iff_not]at ag;rw[aB ⋯];exact decide_eq_false ⋯
section
variable {α:Type}{k:α->List Int}{ts:List α}
end
end Hq
variable {vs:List PySem.Value}{ks:List (List Int)}
namespace L2
open PySem PySem.Spec PyProof.Rows PySem.W Hq
def tS (h:Heap)(v:Value)(k:List Int):Prop:=∃a o xs m,v=.ref a/\h.get? a∣o/\o.cls=.type "tuple"/\o.data=.seq xs m/\IntsAre xs.toList k
theorem tS.keep {h:Heap}{v:Value}{k:List Int}(t:tS h v k) (e:∀a o,h.get? a∣o->o.cls=.type "tuple"->h'.get? a∣o):tS h' v k:=by
 obtain⟨a,o,xs,m,aa,ag,aR,b4,ek⟩:=t;exact⟨a,o,xs,m,aa,e a o ag aR,aR,b4,ek⟩
section
variable {prog:Program}{w:World}{A:Around}{E:wvP}{s:Shared}
def fZ (h:Heap)(vs:List Value)(ks:List (List Int)):Prop:=Paired (tS h) vs ks
end
theorem Ao:∀{ts:List Addr}{us:List Value},Vals (ts.map V.ref) us->us=ts.map Value.ref
 | [],_,r=>by rw[map_nil]at r;cases r;rfl
 | t::ts,_,r=>by
  rw[map_cons]at r;cases r with
  | cons h q=>rw[map_cons,<- Ao q];cases h;rfl
theorem dV.cH {P:Program}{w:World}{H:ah}{h:Heap}(ok:dV P w H h){k:Addr->List Int}:∀{ts:List Addr},(∀t∈ts,H t∣.tup ((k t).map V.int))->fZ h (ts.map Value.ref) (ts.map k)
 | [],_=>.nil
 | t::ts,e=>.cons (by
   obtain⟨_,aU,r,o,ar,aw,m,bV⟩:=(show de P w H h t (.tup ((k t).map V.int)) from ok t _ (e t mem_cons_self));exact⟨t,o,aU.toArray,m,rfl,ar,aw,bV,intsAre_of r⟩) (dV.cH ok λx aq=>e x (mem_cons_of_mem _ aq))
section
variable {prog:Program}{w:World}{A:Around}{E:wvP}
def tT (I l:Addr)(vs:List Value)(ks:List (List Int))(i:Nat)(h:Heap):Prop:=h.IsListIter I l i/\h.IsList l vs.toArray/\fZ h vs ks
theorem tT.keep {I l:Addr}{h:Heap}(st:tT I l vs ks i h) (ar:∀o,h.get? I∣o->h'.get? I∣o) (aw:∀b o,b≠I->h.get? b∣o->o.cls=.type "list"/\b=l\/o.cls=.type "tuple"->h'.get? b∣o):tT I l vs ks i h':=by
 obtain⟨⟨o,aA,ak,hd⟩,⟨fm,ag,cD,fQ⟩,cP⟩:=st;refine⟨⟨o,ar o aA,ak,hd⟩,⟨fm,aw l fm (λz=>?_) ag (.inl ⟨cD,rfl⟩),cD,fQ⟩,Paired.fp cP λv k t=>t.keep λa u a0 fL=>aw a u (λz=>?_) a0 (.inr fL)⟩
 ·rw[z,aA]at ag;cases ag;rw[ak]at cD;exact br cD ∅
 ·rw[z,aA]at a0;cases a0;rw[ak]at fL;exact br fL ∅
theorem SY (bN:A.handled=none)(bZ:A.in1.units<cLine){I l S:Addr} (og:S≠I) (Ap:S≠l):
  ∀(k j:Nat)(s:Shared)(eU:Value)(c:Nat),vs.length-(j+1)=k->j+1<=vs.length->tT I l vs ks (j+1) s.heap->vs[argBest (λi j=>HT.lexLt (ks.getD i []) (ks.getD j [])) j]?∣eU->s.heap.get? S=some { cls:=.type "list",dict:=none,data:=.seq #[eU,eU] c,slots:=#[] }->
  (∀v h' tk,vs[argBest (λi j=>HT.lexLt (ks.getD i []) (ks.getD j [])) (vs.length-1)]?∣v->(∀b o,b≠I->b≠S->s.heap.get? b∣o->h'.get? b∣o)->R (.ok (.ret v)) { s with heap:=h',toks:=tk })->
  codeAny (model prog w) A (.builtin "min.loop" ⟨[.ref I,.none,.ref S],kw⟩) R s:=by
 have rK:(toString "min"++toString ".loop":String)="min.loop":=by decide
 intro k;induction k with
 | zero=>
  intro j s eU c aj aZ st ae cb eZ;have m2:j+1=vs.length:=⋯
  obtain⟨hit,aD,cP⟩:=st;refine codeAny_builtin PySem.F.entry_min_loop ?_;rw[Around.under_plainId PySem.F.plain_min_loop _];refine ax (m:=seqItems? (.ref S)) (wpAny_seqItems cb rfl (ax (m:=tryCatch (pyNext (.ref I)) _) (wpAny_tryCatch (wpAny_pyNext_list_end (show A.in1.handled=none from bN) hit aD (by simp;omega) λh' he=>?_))));have s2:=he S _ og cb
  refine ax (m:=updateSeq S (λ_=>#[])) ?_;refine wpAny_updateSeq s2 rfl (ax (wpAny_letGo (bw ?_)));exact eZ eU _ s.toks (by rwa[<- m2]) λb o ct b6 e=>(get?_update_other _ _ (Ne.symm b6)).trans (he b o ct e)
 | succ k bE=>
  intro j s eU c aj aZ st ae cb eZ;have cF:j+1<vs.length:=⋯
  obtain⟨hit,aD,cP⟩:=id st;refine codeAny_builtin PySem.F.entry_min_loop ?_;rw[Around.under_plainId PySem.F.plain_min_loop _];refine ax (m:=seqItems? (.ref S)) (wpAny_seqItems cb rfl (ax (m:=tryCatch (pyNext (.ref I)) _) (wpAny_tryCatch (wpAny_pyNext_list_item hit aD (x:=vs[j+1]) (by simp[cF]) λh' om i4=>?_))));have ex:=i4.extBut
  have s2:=ex S _ og cb
  have iU:tT I l vs ks (j+1+1) h':=by
   obtain⟨o,aA,ak,hd⟩:=id hit;obtain⟨fm,ag,cD,fQ⟩:=id aD;refine⟨om,⟨fm,ex l fm (λz=>?_) ag,cD,fQ⟩,Paired.fp cP λv k t=>t.keep λa u a0 fL=>ex a u (λz=>?_) a0⟩
   ·rw[z,aA]at ag;cases ag;rw[ak]at cD;exact br cD ∅
   ·rw[z,aA]at a0;cases a0;rw[ak]at fL;exact br fL ∅
  have get:∀(i:Nat)(v:Value),vs[i]?∣v->tS h' v (ks.getD i []):=λi v e=>by
   obtain⟨k,ar,aw⟩:=Paired.ju iU.2.2 e;have bV:ks.getD i []=k:=by simp[getD,ar]
   rwa[bV]
  obtain⟨a,o,xs,m,aa,ag,aR,b4,ek⟩:=get (j+1) vs[j+1] (by simp[cF]);obtain⟨b,bQ,aF,ba,g1,g2,g3,pW,S0⟩:=get _ eU ae;show wpAny _ A.in1 (tryCatch (holding [vs[j+1],vs[j+1]] (richCompare .Lt vs[j+1] eU>>=_)) _>>=_) _ _ _
  have cmp:∀(Q:wvP)(E:wvP),Q (.bool (HT.lexLt (ks.getD (j+1) []) (ks.getD (argBest (λi j=>HT.lexLt (ks.getD i []) (ks.getD j [])) j) []))) { s with heap:=h' }->wpAny (model prog w) A.in1 (richCompare .Lt vs[j+1] eU) Q E { s with heap:=h' }:=λQ E q=>by
   rw[aa,g1];exact HT.Oy (s:={ s with heap:=h' }) ⟨o,ag,aR,m,b4⟩ ⟨bQ,g2,g3,ba,pW⟩ ek S0 bZ q
  refine ax (wpAny_tryCatch (wpAny_holding (ax (cmp _ _ (ax (wpAny_holding (wpAny_truthy_bool (ax (wpAny_letGo (bw ?_))))))))));cases GB:HT.lexLt (ks.getD (j+1) []) (ks.getD (argBest (λi j=>HT.lexLt (ks.getD i []) (ks.getD j [])) j) []) with
  | true=>
   simp only[if_true];refine ax (m:=updateSeq S (λ_=>#[vs[j+1],vs[j+1]])) ?_;refine wpAny_updateSeq s2 rfl (ax (wpAny_letGo ?_));rw[rK];have up:∀b o,b≠S->h'.get? b∣o->(h'.update S (Obj.mapSeq λ_=>#[vs[j+1],vs[j+1]])).get? b∣o:=λb o ct e=>(get?_update_other _ _ (Ne.symm ct)).trans e
   refine bw ⟨plainId_quiet PySem.F.plain_min_loop _,bE (j+1) _ vs[j+1] _ ⋯ cF (iU.keep (λo e=>up I o (Ne.symm og) e) λb o ct e y=>up b o (λz=>?_) e) ?_ (get?_update_self _ s2 rfl) λv ag tk aJ tU=>eZ v ag tk aJ λb o ct b6 e=>tU b o ct b6 (up b o b6 (ex b o ct e))⟩
   ·rcases y with⟨_,y⟩|y
    ·exact Ap (z.symm.trans y)
    ·rw[z,s2]at e;cases e;exact br (show Value.type "list"=Value.type "tuple" from y) ∅
   ·simp only[argBest,GB,if_true];simp[cF]
  | false=>
   simp only[false_eq_true,if_false];refine ax (wpAny_letGo ?_);rw[rK];refine bw ⟨plainId_quiet PySem.F.plain_min_loop _,bE (j+1) _ eU c ⋯ cF iU ?_ s2 λv ag tk aJ tU=>eZ v ag tk aJ λb o ct b6 e=>tU b o ct b6 (ex b o ct e)⟩;simp only[argBest,GB,false_eq_true,if_false];exact ae
theorem S1 {l:Addr} (bN:A.handled=none) (bZ:A.in1.units<cLine) (aD:s.heap.IsList l vs.toArray) (cP:fZ s.heap vs ks) (hn:0<vs.length)
  (h:∀v h' tk,vs[argBest (λi j=>HT.lexLt (ks.getD i []) (ks.getD j [])) (vs.length-1)]?∣v->(∀b o,s.heap.get? b∣o->h'.get? b∣o)->R (.ok (.ret v)) { s with heap:=h',toks:=tk }):
  codeAny (model prog w) A (.builtin "min.loop" ⟨[.ref ↑s,.none,.ref (s.heap.push { cls:=.type "list_iterator",data:=.fields #[.ref l,.int 0 0] }).objs.size],kw⟩) R { s with heap:=(s.heap.push { cls:=.type "list_iterator",data:=.fields #[.ref l,.int 0 0] }).push { cls:=.type "list",data:=.seq #[] } }:=by
 have rK:(toString "min"++toString ".loop":String)="min.loop":=by decide
 have me:l<↑s:=by obtain⟨_,e,_⟩:=aD;exact lt_size e
 have jk:(s.heap.push { cls:=.type "list_iterator",data:=.fields #[.ref l,.int 0 0] }).objs.size=↑s+1:=size_push ..
 have cb:=get?_push_size (h:=s.heap.push { cls:=.type "list_iterator",data:=.fields #[.ref l,.int 0 0] }) (o:={ cls:=.type "list",data:=.seq #[] }) rfl
 have up:∀b o,s.heap.get? b∣o->((s.heap.push { cls:=.type "list_iterator",data:=.fields #[.ref l,.int 0 0] }).push { cls:=.type "list",data:=.seq #[] }).get? b∣o:=λb o e=>get?_push_of_some _ (get?_push_of_some _ e)
 have rb:=get?_push_of_some { cls:=.type "list",data:=.seq #[] } (get?_push_size (h:=s.heap) (o:={ cls:=.type "list_iterator",data:=.fields #[.ref l,.int 0 0] }) rfl)
 refine codeAny_builtin PySem.F.entry_min_loop ?_;rw[Around.under_plainId PySem.F.plain_min_loop _];rw[jk]at cb ⊢;generalize ((s.heap.push { cls:=.type "list_iterator",data:=.fields #[.ref l,.int 0 0] }).push { cls:=.type "list",data:=.seq #[] })=aa at cb up rb ⊢
 have S2:aa.IsList l vs.toArray:=aD.at λo e=>up l o e
 have aev:fZ aa vs ks:=Paired.fp cP λv k t=>t.keep λa o e _=>up a o e
 have og:↑s+1≠↑s:=Nat.succ_ne_self _
 have Ap:↑s+1≠l:=ne_of_gt (Nat.lt_succ_of_lt me)
 refine ax (m:=seqItems? (.ref (↑s+1))) (wpAny_seqItems cb rfl (ax (m:=tryCatch (pyNext (.ref ↑s)) _) (wpAny_tryCatch (wpAny_pyNext_list_item (i:=0) ⟨_,rb,rfl,rfl⟩ S2 (x:=vs[0]) (by simp[hn]) λh' om i4=>?_))));have ex:=i4.extBut
 have s2:=ex _ _ og cb
 refine ax (m:=updateSeq (↑s+1) (λ_=>#[vs[0],vs[0]])) ?_;refine wpAny_updateSeq s2 rfl ?_;rw[rK];have rL:∀b o,b≠↑s+1->h'.get? b∣o->(h'.update (↑s+1) (Obj.mapSeq λ_=>#[vs[0],vs[0]])).get? b∣o:=λb o ct e=>(get?_update_other _ _ (Ne.symm ct)).trans e
 have keep:∀b o,s.heap.get? b∣o->(h'.update (↑s+1) (Obj.mapSeq λ_=>#[vs[0],vs[0]])).get? b∣o:=λb o e=>rL b o (ne_of_lt (Nat.lt_succ_of_lt (lt_size e))) (ex b o (ne_of_lt (lt_size e)) (up b o e))
 refine bw ⟨plainId_quiet PySem.F.plain_min_loop _,SY (I:=↑s) (l:=l) (vs:=vs) (ks:=ks) bN bZ og Ap _ 0 _ vs[0] _ rfl hn ⟨?_,?_,?_⟩ (by simp[argBest,hn]) (get?_update_self _ s2 rfl) λv ag tk aJ tU=>h v ag tk aJ λb o e=>tU b o (ne_of_lt (lt_size e)) (ne_of_lt (Nat.lt_succ_of_lt (lt_size e))) (keep b o e)⟩
 ·obtain⟨o,aA,ak,hd⟩:=om;exact⟨o,rL _ o (ne_of_lt (lt_succ_self _)) aA,ak,hd⟩
 ·exact aD.at λo e=>keep l o e
 ·exact Paired.fp cP λv k t=>t.keep λa o e _=>keep a o e
theorem S3 {l:Addr}(bN:A.handled=none) (bZ:A.in1.units<cLine) (aD:s.heap.IsList l vs.toArray) (cP:fZ s.heap vs ks) (hn:0<vs.length)
  (h:∀v h' tk,vs[argBest (λi j=>HT.lexLt (ks.getD i []) (ks.getD j [])) (vs.length-1)]?∣v->(∀b o,s.heap.get? b∣o->h'.get? b∣o)->Q v { s with heap:=h',toks:=tk }):
  wpAny (model prog w) A (call (.builtin "min") [.ref l]) Q E s:=by
 have rK:(toString "min"++toString ".loop":String)="min.loop":=by decide
 refine PySem.call_function_tree PySem.F.kind_min PySem.F.plain_min PySem.F.entry_min (PySem.F.args_min1 _) (ax (m:=Builtin.Builtins.bindParams "min" ["key","default"] 0 ⟨[],[]⟩) (wpAny_of_eq (a:=[none,none]) rfl (ax (bw (ax (wpAny_pyIter_list aD ?_))))));refine ax (wpAny_newObj_type ?_);rw[rK];exact bw ⟨plainId_quiet PySem.F.plain_min_loop _,S1 bN bZ aD cP hn h⟩
theorem GC (f:Nat->List Int):∀n,argBest (λi j=>HT.lexLt (f i) (f j)) n<=n/\∀j,j<=n->iD (f (argBest (λi j=>HT.lexLt (f i) (f j)) n)) (f j)
 | 0=>⟨wa8 _,λj h=>by
                    obtain rfl:j=0:=⋯;exact iD.refl _⟩
 | n+1=>by
  obtain⟨aa,ag⟩:=GC f n;simp only[argBest];by_cases c:HT.lexLt (f (n+1)) (f (argBest (λi j=>HT.lexLt (f i) (f j)) n))=true
  ·rw[aM c];refine⟨wa8 _,λj h=>?_⟩;by_cases e:j=n+1
   ·rw[e];exact iD.refl _
   ·exact(iD.of c).trans (ag j ⋯)
  ·rw[aB c];refine⟨⋯,λj h=>?_⟩;by_cases e:j=n+1
   ·rw[e];exact Bool.eq_false_iff.mpr c
   ·exact ag j ⋯
end
theorem GD (ak:X.calm=true) (bZ:X.A.units+1<cLine):g4 X (.builtin "min") (λxs H Q=>∃(p:Addr)(ts:List Addr)(k:Addr->List Int),xs=[.ref p]/\aK X.K H p (ts.map V.ref)/\ts≠[]/\(∀t∈ts,H t∣.tup ((k t).map V.int))/\
  ∀r∈ts,(∀t∈ts,iD (k r) (k t))->Q (.ref r) H):=by
 intro pins s J H xs us Q I r h;obtain⟨p,ts,k,rfl,ao,jT,aj,q⟩:=h;obtain⟨u,rfl,bf⟩:=vals1 r;cases bf;obtain⟨aU,c1,pl,hz⟩:=I.list ao;obtain rfl:=Ao c1;have hn:0<ts.length:=length_pos_iff.mpr jT
 refine S3 (I.ok.hd ak) bZ pl.isList (dV.cH I.a6 aj) (by rwa[length_map]) λv h' tk aJ c6=>?_;obtain⟨ct,b6⟩:=GC (λi=>(ts.map k).getD i []) ((ts.map Value.ref).length-1);rw[getElem?_map]at aJ;obtain⟨t,bC,rfl⟩:=map_eq_some_iff.mp aJ;refine⟨.ref t,H,I.kept (t':=tk) c6,rfl,q t (mem_of_getElem? bC) λx aq=>?_⟩;obtain⟨j,aZ⟩:=getElem?_of_mem aq;have rM:=(wa4.mp aZ).1
 have ar:(ts.map k).getD (argBest (λi j=>HT.lexLt ((ts.map k).getD i []) ((ts.map k).getD j [])) ((ts.map Value.ref).length-1)) []=k t:=by
  rw[getD_eq_getElem?_getD,getElem?_map,bC];rfl
 have aw:(ts.map k).getD j []=k x:=by
  rw[getD_eq_getElem?_getD,getElem?_map,aZ];rfl
 have:=b6 j (by rw[length_map];omega)
 rw[ar,aw]at this;exact this
section
variable {prog:Program}{w:World}{A:Around}{E:wvP}{s:Shared}
end
section
variable {prog:Program}{w:World}{A:Around}{E:wvP}{s:Shared}
end
end L2
namespace L2
open PySem PySem.Spec PyProof.Rows
open AutoSeq1 (wpAny_loadPart')
section
variable {prog:Program}{w:World}{A:Around}{R:Result->Shared->Prop}{I:Addr}{cu wr:List Addr}{n:Nat}{P:Nat->Value->Prop}{St:Nat->Heap->Prop}{d:Value}
theorem S4 (W:Walks prog w A.in1 I cu wr n P St)(dq:Nat->Nat->Bool)(p6:CmpOf prog w A.in1 .Lt P dq)(S:Addr)(jY:S ∉ cu):
  ∀(k j:Nat)(s:Shared)(eU:Value)(c:Nat),n-(j+1)=k->j+1<=n->St (j+1) s.heap->P (argBest dq j) eU->s.heap.get? S=some { cls:=.type "list",dict:=none,data:=.seq #[eU,eU] c,slots:=#[] }->
  (∀v h' tk,P (argBest dq (n-1)) v->(∀b o,b ∉ wr->b≠S->s.heap.get? b∣o->h'.get? b∣o)->R (.ok (.ret v)) { s with heap:=h',toks:=tk })->
  codeAny (model prog w) A (.builtin "min.loop" ⟨[.ref I,.none,.ref S],[("default",d)]⟩) R s:=by
 have nf:S ∉ wr:=λh=>jY (W.sub _ h)
 have jZ:(toString "min"++toString ".loop":String)="min.loop":=by decide
 intro k;induction k with
 | zero=>
  intro j s eU c aj aZ hst ng cb eZ;have m2:j+1=n:=⋯
  refine codeAny_builtin F.entry_min_loop ?_;rw[Around.under_plainId F.plain_min_loop _];refine ax (m:=seqItems? (.ref S)) (wpAny_seqItems cb rfl ?_);refine ax (m:=tryCatch (pyNext (.ref I)) _) (wpAny_tryCatch (W.done s _ _ (m2 ▸ hst) λh' tk c6=>?_));exact ax (m:=updateSeq S (λ_=>#[])) (wpAny_updateSeq (c6 S _ nf cb) rfl (ax (wpAny_letGo (bw (eZ eU _ tk (by rwa[<- m2]) λb o e5 gS e=>(get?_update_other _ _ (Ne.symm gS)).trans (c6 b o e5 e))))))
 | succ k bE=>
  intro j s eU c aj aZ hst ng cb eZ;have cF:j+1<n:=⋯
  refine codeAny_builtin F.entry_min_loop ?_;rw[Around.under_plainId F.plain_min_loop _];refine ax (m:=seqItems? (.ref S)) (wpAny_seqItems cb rfl ?_);refine ax (m:=tryCatch (pyNext (.ref I)) _) (wpAny_tryCatch (W.item (j+1) s _ _ cF hst λv h' tk df nh c6=>?_));have i5:=c6 S _ nf cb
  show wpAny _ A.in1 (tryCatch (holding [v,v] (richCompare .Lt v eU>>=_)) _>>=_) _ _ _
  refine ax (wpAny_tryCatch (wpAny_holding (ax (p6 (j+1) (argBest dq j) v eU _ _ _ df ng ?_))));refine ax (wpAny_holding (wpAny_truthy_bool (ax (wpAny_letGo (bw ?_)))));cases ae:dq (j+1) (argBest dq j) with
  | true=>
   simp only[if_true];refine ax (wpAny_updateSeq i5 rfl (ax (wpAny_letGo ?_)));rw[jZ];refine bw ⟨plainId_quiet F.plain_min_loop _,bE (j+1) _ v _ ⋯ cF (W.frame _ _ _ nh λb p7 o e=>(get?_update_other _ _ (λh:S=b=>jY (by rwa[h]))).trans e) (by simp only[argBest,ae,if_true];exact df) (get?_update_self _ i5 rfl) λep la lb lg lh=>?_⟩;exact eZ ep la lb lg λb o e5 gS e=>lh b o e5 gS ((get?_update_other _ _ (Ne.symm gS)).trans (c6 b o e5 e))
  | false=>
   simp only[false_eq_true,if_false];refine ax (wpAny_letGo ?_);rw[jZ];exact bw ⟨plainId_quiet F.plain_min_loop _,bE (j+1) _ eU c ⋯ cF nh (by simp only[argBest,ae,false_eq_true,if_false];exact ng) i5 λep la lb lg lh=>eZ ep la lb lg λb o e5 gS e=>lh b o e5 gS (c6 b o e5 e)⟩
theorem S5 (W:Walks prog w A.in1 I cu wr n P St)(dq:Nat->Nat->Bool)(p6:CmpOf prog w A.in1 .Lt P dq)(S:Addr)(jY:S ∉ cu){c:Nat}(hst:St 0 s.heap) (cb:s.heap.get? S=some { cls:=.type "list",dict:=none,data:=.seq #[] c,slots:=#[] })
  (eZ:∀v h' tk,((n=0/\v=d)\/(0<n/\P (argBest dq (n-1)) v))->(∀b o,b ∉ wr->b≠S->s.heap.get? b∣o->h'.get? b∣o)->R (.ok (.ret v)) { s with heap:=h',toks:=tk }):
  codeAny (model prog w) A (.builtin "min.loop" ⟨[.ref I,.none,.ref S],[("default",d)]⟩) R s:=by
 have nf:S ∉ wr:=λh=>jY (W.sub _ h)
 have jZ:(toString "min"++toString ".loop":String)="min.loop":=by decide
 refine codeAny_builtin F.entry_min_loop ?_;rw[Around.under_plainId F.plain_min_loop _];refine ax (m:=seqItems? (.ref S)) (wpAny_seqItems cb rfl ?_);rcases Nat.eq_zero_or_pos n with hn|hn
 ·refine ax (m:=tryCatch (pyNext (.ref I)) _) (wpAny_tryCatch (W.done s _ _ (hn ▸ hst) λh' tk c6=>?_));exact ax (wpAny_rule (bw (eZ d h' tk (.inl ⟨hn,rfl⟩) λb o e5 gS e=>c6 b o e5 e)))
 ·refine ax (m:=tryCatch (pyNext (.ref I)) _) (wpAny_tryCatch (W.item 0 s _ _ hn hst λv h' tk df nh c6=>?_));have i5:=c6 S _ nf cb
  refine ax (m:=updateSeq S (λ_=>#[v,v])) (wpAny_updateSeq i5 rfl ?_);rw[jZ];refine bw ⟨plainId_quiet F.plain_min_loop _,S4 W dq p6 S jY _ 0 _ v _ rfl hn (W.frame _ _ _ nh λb p7 o e=>(get?_update_other _ _ (λh:S=b=>jY (by rwa[h]))).trans e) df (get?_update_self _ i5 rfl) λep la lb lg lh=>?_⟩;exact eZ ep la lb (.inr ⟨hn,lg⟩) λb o e5 gS e=>lh b o e5 gS ((get?_update_other _ _ (Ne.symm gS)).trans (c6 b o e5 e))
end
section
variable {prog:Program}{w:World}{A:Around}{E:wvP}{s:Shared}
theorem S6 (a d:Value):argsOk "min" ⟨[a],[("default",d)]⟩:=by unfold argsOk;kernel_rfl
theorem S7 {l:Addr}{xs:Array (Int×Tok)}{d:Value}(bN:A.handled=none) (aD:s.heap.IsList l (intItems xs))
  (h:∀v h' tk,((xs.size=0/\v=d)\/(0<xs.size/\(intItems xs)[argBest (λi j=>decide (numAt xs i<numAt xs j)) (xs.size-1)]?∣v))->(∀b o,s.heap.get? b∣o->h'.get? b∣o)->Q v { s with heap:=h',toks:=tk }):
  wpAny (model prog w) A (call (.builtin "min") [.ref l] [("default",d)]) Q E s:=by
 have jZ:(toString "min"++toString ".loop":String)="min.loop":=by decide
 refine Gu F.kind_min F.plain_min F.entry_min (S6 _ _) ?_;refine ax (m:=Builtin.Builtins.bindParams "min" ["key","default"] 0 ⟨[],[("default",d)]⟩) (wpAny_of_eq (show Builtin.Builtins.bindParams "min" ["key","default"] 0 ⟨[],[("default",d)]⟩=pure [none,some d] from rfl) ?_);refine ax (bw ?_);refine ax (iter_intList aD λhV e st jP Ak=>?_);subst e;refine ax (wpAny_newObj_type ?_);have W:=Walks.list (prog:=prog) (w:=w) (A:=A.in1) bN _ l Ak (intItems xs)
 rw[jZ];refine bw ⟨plainId_quiet F.plain_min_loop _,S5 W _ (CmpOf.ints_lt (numAt xs) (λ_ _=>intItems_at)) _ (λhm=>wa7 _ (jP _ hm)) (W.frame _ _ _ st λb _ o e=>get?_push_of_some _ e) (get?_push_size _ rfl) λv h' tk df aj=>?_⟩;refine h v h' tk (by simpa [intItems] using df) (old_kept (l:=l) λb o e5 e=>?_);exact aj b o e5 (ne_of_lt (lt_size e)) (get?_push_of_some _ e)
end
def S8 (ns:List Int)(z m:Int):Prop:=(ns=[]/\m=z)\/(m∈ns/\∀a∈ns,m<=a)
def zsj (K:Frag)(t:dz)(ee:TE):TE:=λJ H Q=>t J H λvs H1=>zhe ee zus J H1 λzs aE=>∃p ns d,vs=[.ref p]/\zs=[.int d]/\aK K aE p (ns.map V.int)/\∀m,S8 ns d m->Q (.int m) aE
theorem S9 {d:Expr}{p c2:Pos}{t:dz}{ee:TE}(ak:X.calm=true) (bD:ft X "min") (hm:X.mg "min"=none) (aN:PA X [e] t) (hd:PE X d ee) (aI:autoParam (starEach [e] X.env=[(false,eval e X.env)]) dA._auto_1):
  PE X (.Call (.Name "min" p) [e] [⟨some "default",d,c2⟩] pos) (zsj X.K t ee):=by
 intro pins s J H Q I h;refine wpAny_Call_Name_kw (kG I bD hm PyProof.Rows.Boot.«min» (PyProof.Rows.callWith_kw (bz (aN pos pins s J H _ I h) λus s1 ⟨vs,H1,aO,bX,a8⟩=>?_) (by rw[aI];rfl) (by rw[aI];rfl)));refine bz (D4 (nm:=some "default") (yJ:=c2) hd (D3 (X:=X)) pos pins s1 J H1 _ aO a8) λws s2 bN=>oqq λgE uq=>?_;obtain⟨zs,aE,bu,cB,p,ns,d,ar,aw,ao,q⟩:=bN;refine uq ?_;subst ar aw;obtain⟨u,rfl,bf⟩:=vals1 bX;cases bf;obtain⟨SW,rfl,bp⟩:=vals1 cB;obtain⟨ee,rfl⟩:=bp;obtain⟨aU,c1,pl,hz⟩:=bu.list ao;obtain⟨ps,rfl,rfl⟩:=ints_of c1;refine S7 (bu.ok.hd ak) (show s2.heap.IsList p (intItems ps.toArray) by simpa [intItems] using pl.isList) λv h' p8 aJ c6=>?_;rcases aJ with⟨h0,rfl⟩|⟨h0,aJ⟩
 ·have cy:ps=[]:=by cases ps with
   | nil=>rfl
   | cons a b=>simp at h0
  exact⟨.int d,aE,bu.kept (t':=p8) c6,⟨ee,rfl⟩,q _ (.inl ⟨by rw[cy];rfl,rfl⟩)⟩
 ·obtain⟨t,rfl⟩:=intItems_at aJ;obtain⟨aa,ag⟩:=argBest_lt (numAt ps.toArray) (ps.toArray.size-1);have lt:∀{i:Nat},i<=ps.toArray.size-1->i<(ps.map (·.1)).length:=λ{i} h=>by rw[length_map];simp only[size_toArray]at h h0;omega
  refine⟨.int _,aE,bu.kept (t':=p8) c6,⟨t,rfl⟩,q _ (.inr ⟨by rw[wh];exact getD_mem (lt aa),λa aN=>?_⟩)⟩;obtain⟨j,aZ,rfl⟩:=mem_getD aN;rw[<- wh];exact ag j (by rw[length_map]at aZ;simp only[size_toArray];omega)
end L2
variable {zs:List L2.V}
namespace L2
open PySem PySem.Spec PyProof.Rows PySem.W
def ox (L M:List (Addr×Obj))(aT:List Addr)(H:ah)(h:Heap):Prop:=(∀q∈L,h.get? q.1∣q.2/\H q.1=none/\q.1 ∉ aT)/\∀q∈M,H q.1∣.cc q.2 (.own q.1)
section
variable {X:Cx}{pins:List (Addr×Obj)}{J:St}{H:ah}{s:Shared}{L M:List (Addr×Obj)}
theorem Inv.Aq (I:Inv X pins J H s){b:Addr}(aa:b≠X.env.locals) (ag:b ∉ X.aT):b ∉ d4 X.stack:=λz=>(mem_cons.mp (I.pf _ z)).elim aa ag
theorem Inv.GF (I:Inv X pins J H s)(p:ox L M X.aT X.c5 X.bS.heap)(ex:X.ex=[]):ox L M (d4 X.stack) H s.heap:=by
 refine⟨λq ao=>?_,λq ao=>I.base.fE _ _ _ (p.2 q ao)⟩;obtain⟨a,b,c⟩:=p.1 q ao;refine⟨I.base.keep _ _ a b c (by rw[ex];simp),I.base.free _ _ a b (by rw[ex];simp),I.Aq (λz=>?_) c⟩;have aa:=lt_size a
 have ag:=I.ok.above
 rw[z]at aa;exact br (lt_of_lt_of_le aa ag) (wa7 _)
end
structure oy (P:Program)(w:World)(K:Frag)(mg:Str->Option Value)(base:Heap)(c8:g5)(k:Nat)(f:Addr)(fd:FuncData)(ps:List Str)(sp:d0)(L M:List (Addr×Obj)):Prop where
 len:∀vs H Q E,sp vs H Q E->vs.length=ps.length
 run:∀(A:Around)(outer:List Env)(s:Shared)(H:ah)(args:Args)(us:List Value)(vs:List V)(Q:bo)(E:bL),da k A->nZ P w K mg base A outer s H->ox L M (d4 outer) H s.heap->BindsTo s fd args (ps.zip us)->Vals vs us->sp vs H Q E->
  codeAny (model P w) A (.call (.ref f) args) (yG c8 outer P w H s Q E) s
theorem GG {Q:bo}{E:bL}{bJ:Flow}(aa:X.bS=s) (ag:X.c5=H) (aR:X.ex=[]) (b4:X.outer=outer) (ek:X.prog=P) (fx:X.w=w)
  : hU X [] { aP:=λ_ H'=>Q .bx H',ih:=Q } bJ s'->yG c8 outer P w H s Q E (.ok (.ret (match bJ with|.ret v=>v|_=>.none))) s':=by
 subst aa ag b4 ek fx;intro aI;have fin:∀{a7:St}{H':ah}{v:V}{u:Value},Inv X [] a7 H' s'->RelV v u->Q v H'->vC X.outer X.prog X.w X.c5 X.bS Q u s':=λ{a7 H' v u} cq cf q=>⟨v,H',cq.os,cq.bare,aR ▸ cq.base,cq.a6,cf,q⟩
 cases bJ with
 | ret u=>
  obtain⟨v,a7,H',cq,cf,q⟩:=aI;exact fin cq cf q
 | next=>
  obtain⟨a7,H',cq,q⟩:=aI;exact fin (v:=V.bx) (u:=Value.none) cq rfl q
 | brk=>
  obtain⟨_,_,_,q⟩:=aI;exact False.elim q
 | cont=>
  obtain⟨_,_,_,q⟩:=aI;exact False.elim q
section
variable {c8:g5}{P:Program}{w:World}{K:Frag}{mg:Str->Option Value}{base:Heap}{k:Nat}{f:Addr}{name qual:Str}{N ps:List Str}{sp:d0}{L M:List (Addr×Obj)}
theorem Ta {kb bq:Value}{an cA:Option Addr} (lk:K.lookup f∣⟨c7,cA,.func (fnOf name qual params body scope kb bq doc pm an cdv bW),et⟩) (eL:codeIn K cdv qual=true) (S:n1 N ps scope)
  (len:∀vs H Q E,sp vs H Q E->vs.length=ps.length)
  (jO:∀(A:Around)(outer:List Env)(s:Shared)(H:ah)(vs:List V)(Q:bo)(E:bL),da k (A.deeper (envOfC qual scope ↑s f cdv))->ox L M (d4 outer) H s.heap->sp vs H Q E->
   ∃t,PSs (g6 c8 P w K mg base N qual scope f cdv A outer s H E) body t/\t { aP:=λ_ H'=>Q .bx H',ih:=Q } (start N vs) H):
  oy P w K mg base c8 (k+1) f (fnOf name qual params body scope kb bq doc pm an cdv bW) ps sp L M:=by
 refine⟨len,λA outer s H args us vs Q E a5 cy aG ae r fI=>?_⟩;have KX:K.In s.heap:=cy.mod.ig.keeps λb o e=>(cy.bs b o e).1
 refine codeAny_call_function a5.depth (KX _ _ lk) rfl S.co S.gen rfl (codeRec_of KX eL) (ae _ _ _ _ ?_);refine wpAny_newFunctionEnv_cells S.kind (λ⟨n,v⟩ bg=>(S.par n (of_mem_zip bg).1).imp id λq=>⟨q,cellsFrom_some _ _ _ (.inl q)⟩) λenv he s1 x=>?_;subst he;refine⟨(cy.mod.nolimit.keeps λb o e=>(cy.bs b o e).1).keeps x.toInCall.keep,codeAny_func ?_⟩;obtain⟨t,bC,ao⟩:=jO A outer s H vs Q E (a5.deeper _) aG fI;exact wpAny_mono (bC [] s1 (start N vs) H _ (Ea S a5.hd cy (len _ _ _ _ fI) r x) ao) (λbJ s' aI=>GG (X:=g6 c8 P w K mg base N qual scope f cdv A outer s H E) rfl rfl rfl rfl rfl rfl aI) λe s' aI=>aI
theorem ke.Tb (F:ke K name qual st f fd) (S:n1 N ps (bU st)) (len:∀vs H Q E,sp vs H Q E->vs.length=ps.length)
  (jO:∀(cdv:Value)(A:Around)(outer:List Env)(s:Shared)(H:ah)(vs:List V)(Q:bo)(E:bL),da k (A.deeper (envOfC qual (bU st) ↑s f cdv))->ox L M (d4 outer) H s.heap->sp vs H Q E->
   ∃t,PSs (g6 bI P w K mg base N qual (bU st) f cdv A outer s H E).nox (e0 st) t/\t { aP:=λ_ H'=>Q .bx H',ih:=Q } (start N vs) H):oy P w K mg base bI (k+1) f fd ps sp L M:=by
 obtain⟨c7,cA,bq,doc,pm,an,cdv,bW,et,rfl,lk,eL⟩:=F.ex;exact Ta lk eL S len λA outer s H vs Q E a5 aG fI=>(jO cdv A outer s H vs Q E a5 aG fI).imp λt h=>⟨h.1.nox,h.2⟩
def wK (c8:g5)(P:Program)(w:World)(K:Frag)(mg:Str->Option Value)(base:Heap)(N:List Str)(qual:Str)(scope:Scope)(f:Addr)(cd:Value)(cl:List (Str×Addr))(A:Around)(outer:List Env)(s:Shared)(H:ah)(E:bL):Cx where
 prog:=P
 w:=w
 K:=K
 mg:=mg
 base:=base
 A:=A.deeper (envX qual scope ↑s f cd cl)
 N:=N
 bS:=s
 c5:=H
 env:=envX qual scope ↑s f cd cl
 outer:=outer
 stack:=envX qual scope ↑s f cd cl::outer
 ex:=[]
 calm:=true
 fn:=λ_=>false
 dr:=[]
 cQ:=λe s'=>wpAny (model P w) (A.deeper (envX qual scope ↑s f cd cl)) (leaving (envX qual scope ↑s f cd cl) e) (λ_ pC=>c8 outer H s E e pC) (λa4 pC=>c8 outer H s E a4 pC) s'
structure GH (ps fr:List Str)(sc:Scope):Prop where
 kind:sc.kind=.function
 co:sc.isCoroutine=false
 gen:sc.isGenerator=false
 nd:ps.Nodup
 par:∀x∈ps,sc.names.lookup x=some .local
 pJ:∀y∈sc.names,y.2≠.cell
 free:∀y∈sc.names,y.2=.free->y.1∈fr
 Tc:∀y∈fr,sc.names.lookup y=some .free
structure p9 (st:Stmt)(name qual:Str)(f c:Addr)(cl:List (Str×Addr))(fr:List Str)(zs:List V)(fd:FuncData)(L M:List (Addr×Obj)):Prop where
 fn:∃doc pm gI,fd=fnX name qual (gB st) (e0 st) (bU st) cl .none .none doc pm none (.ref c) gI/\(f,fnMade name qual (gB st) (e0 st) (bU st) cl doc pm c gI)∈L
 code:∃co vs t,(c,co)∈M/\co.data=.fields vs/\vs[1]?∣.str qual t
 cells:∀y a,cl.lookup y∣a->∃o v,(a,o)∈L/\o.data=.cell v
 vals:∀(i:Nat) y v,fr[i]?∣y->zs[i]?∣v->∃a u o,cl.lookup y∣a/\(a,o)∈L/\o.data=.cell (some u)/\RelV v u
 inj:∀x y a,cl.lookup x∣a->cl.lookup y∣a->x=y
 len:zs.length=fr.length
theorem GI {y:Str}{u:Value}:∀{ps:List Str}{us:List Value}{i:Nat},ps.Nodup->ps[i]?∣y->us[i]?∣u->(ps.zip us).reverse.lookup y∣u
 | [],_,_,_,h,_=>by simp at h
 | _::_,[],_,_,_,h=>by simp at h
 | p::ps,w::us,0,nd,aa,ag=>by
  simp at aa ag;subst aa ag;rw[List.zip_cons_cons,reverse_cons,List.lookup_append,List.lookup_eq_none_iff.mpr (λq ao=>by
   have h:=(of_mem_zip (List.mem_reverse.mp ao)).1
   have:q.1≠p:=λz=>(nodup_cons.mp nd).1 (z ▸ h)
   simpa using λz=>this z.symm)]
  simp
 | p::ps,w::us,i+1,nd,aa,ag=>by
  rw[List.zip_cons_cons,reverse_cons,List.lookup_append,GI (i:=i) (nodup_cons.mp nd).2 (by simpa using aa) (by simpa using ag)];rfl
theorem Td {c:Addr}{fr:List Str}(C:p9 st name qual f c cl fr zs fd L M) (S:GH ps fr (bU st)) (len:∀vs H Q E,sp vs H Q E->vs.length=ps.length)
  (jO:∀(A:Around)(outer:List Env)(s:Shared)(H:ah)(vs:List V)(Q:bo)(E:bL),da k (A.deeper (envX qual (bU st) ↑s f (.ref c) cl))->sp vs H Q E->
   ∃t,PSs (wK bI P w K mg base (ps++fr) qual (bU st) f (.ref c) cl A outer s H E).nox (e0 st) t/\t { aP:=λ_ H'=>Q .bx H',ih:=Q } ((vs++zs).map some) H):
  oy P w K mg base bI (k+1) f fd ps sp L M:=by
 refine⟨len,λA outer s H args us vs Q E a5 cy aG ae r fI=>?_⟩;obtain⟨doc,pm,gI,rfl,hf⟩:=C.fn;obtain⟨co,Te,Tf,ak,eL,Tg⟩:=C.code;have lv:=len _ _ _ _ fI
 have lim:s.heap.NoLimit:=cy.mod.nolimit.keeps λb o e=>(cy.bs b o e).1
 refine codeAny_call_function a5.depth (aG.1 _ hf).1 rfl S.co S.gen rfl ⟨c,co,Te,Tf,rfl,(cy.a6 _ _ (aG.2 _ ak)).1,eL,Tg⟩ (ae _ _ _ _ ?_);refine wpAny_newFunctionEnv S.pJ (λ⟨n,v⟩ bg=>S.par n (of_mem_zip bg).1) (λh' hn aI=>?_) S.kind;have aj:∀b o,s.heap.get? b∣o->h'.get? b∣o:=λb o e=>(aI.2 b (ne_of_lt (lt_size e))).trans (get?_push_of_some _ e)
 refine⟨lim.keeps aj,codeAny_func ?_⟩;obtain⟨t,bC,ao⟩:=jO A outer s H vs Q E (a5.deeper _) fI;have bC:=bC.nox
 have pD:∀b:Addr,b ∉ (wK bI P w K mg base (ps++fr) qual (bU st) f (.ref c) cl A outer s H E).ex:=λb z=>br (show b∈([]:List Addr) from z) (by simp)
 have cell:∀y a,cl.lookup y∣a->∃o v,h'.get? a∣o/\o.data=.cell v/\H a=none:=λy a e=>by
  obtain⟨o,v,aa,ag⟩:=C.cells y a e;exact⟨o,v,aj _ _ (aG.1 _ aa).1,ag,(aG.1 _ aa).2.1⟩
 have I:Inv (wK bI P w K mg base (ps++fr) qual (bU st) f (.ref c) cl A outer s H E) [] ((vs++zs).map some) H { s with heap:=h',toks:=s.toks+(ps.zip us).length }:=by
  refine⟨⟨cy.mod,S.kind,rfl,rfl,wa8 _,C.inj,λy bg=>?_,λy c z=>(nomatch z),λ_=>a5.hd,Around.frames_deeper cy.frames,.inr ⟨rfl,rfl⟩,λb z=>br z (pD b),cy.bs,cy.jH,λb _ _=>pD b,λb z=>br z (pD b),cy.gY,cy.jI⟩,
   rfl,cy.bare,fq.kept aj,⟨_,hn,λi y v aa ag aR=>?_⟩,λy c h=>?_,cy.a6.fresh (wa8 _),λy c h=>?_,λp aG=>br (show p∈([]:List (Addr×Obj)) from aG) (by simp),cy.a6.kept aj,?_⟩
  ·have bg:(bU st).names.lookup y=some .cell\/(bU st).names.lookup y=some .free:=bg
   rcases bg with bg|bg
   ·exact br rfl (S.pJ _ (PySem.mem_of_lookup bg))
   ·obtain⟨i,au,rfl⟩:=List.getElem_of_mem (S.free _ (PySem.mem_of_lookup bg) rfl);obtain⟨a,_,_,h,_⟩:=C.vals i _ (zs[i]'(by rwa[C.len])) (getElem?_eq_getElem au) (getElem?_eq_getElem _);exact⟨a,h⟩
  ·by_cases au:i<vs.length
   ·have aa:(ps++fr)[i]?∣y:=aa
    rw[getElem?_map,getElem?_append_left au]at ag;rw[getElem?_append_left ⋯]at aa;cases e:vs[i]? with
    | none=>rw[e]at ag;cases ag
    | some a=>
     rw[e]at ag;cases ag;obtain⟨u,bZ,cf⟩:=r.get e;exact⟨u,cf,.inl ⟨S.par y (mem_of_getElem? aa),GI S.nd aa bZ⟩⟩
   ·have aa:(ps++fr)[i]?∣y:=aa
    rw[getElem?_map,getElem?_append_right ⋯]at ag;rw[getElem?_append_right ⋯]at aa;rw[lv]at ag;cases e:zs[i-ps.length]? with
    | none=>rw[e]at ag;cases ag
    | some a=>
     rw[e]at ag;cases ag;obtain⟨ca,u,o,a8,bK,dZ,mI⟩:=C.vals _ y _ aa e;exact⟨u,mI,.inr ⟨.inr (S.Tc y (mem_of_getElem? aa)),ca,a8,o,aj _ _ (aG.1 _ bK).1,dZ⟩⟩
  ·obtain⟨o,v,aa,ag,_⟩:=cell y c h;exact⟨v,o,aa,ag⟩
  ·obtain⟨o,v,_,_,aa⟩:=cell y c h;exact aa
  ·show _=(ps++fr).length
   rw[length_map,length_append,length_append,lv,C.len]
 exact wpAny_mono (bC [] _ _ H _ I ao) (λbJ s' aI=>GG (X:=wK bI P w K mg base (ps++fr) qual (bU st) f (.ref c) cl A outer s H E) rfl rfl rfl rfl rfl rfl aI) λe s' aI=>aI
end
section
variable {X:Cx}{k:Nat}{f:Addr}{fd:FuncData}{ps:List Str}{sp:d0}{L M:List (Addr×Obj)}{x:Str}{p pos:Pos}{e:Expr}{es:List Expr}{t:dz}
theorem GJ {Q:bo}{vs:List V}(F:oy X.prog X.w X.K X.mg X.base bI k f fd ps sp L M) (a5:da k X.A) (ae:us.length=ps.length->BindsTo s fd ⟨us,[]⟩ (ps.zip us))
  (I:Inv X pins J H s) (aG:ox L M (d4 X.stack) H s.heap) (r:Vals vs us) (h:sp vs H Q fU):wpAny (model X.prog X.w) X.A (call (.ref f) us) (fR X pins J Q) X.cQ s:=by
 have aD:us.length=ps.length:=by rw[<- r.length];exact F.len _ _ _ _ h
 refine wpAny_call (codeAny_mono (F.run X.A X.stack s H ⟨us,[]⟩ us vs Q fU a5 I.sL aG (ae aD) r h) λr s' ao=>?_);cases r with
 | error e=>exact False.elim ao
 | ok bJ=>
  cases bJ with
  | ret u=>exact I.after ao
  | next=>exact False.elim ao
  | brk=>exact False.elim ao
  | cont=>exact False.elim ao
def zjl (i:Nat)(f:Addr)(sp:d0)(t:dz):TE:=λJ H Q=>J[i]?∣some (.ref f)/\t J H λvs H1=>sp vs H1 Q fU
theorem GK (i:Nat)(F:oy X.prog X.w X.K X.mg X.base bI k f fd ps sp L M){k0:Nat}(a5:da k0 X.A) (ae:∀(s:Shared)(us:List Value),us.length=ps.length->BindsTo s fd ⟨us,[]⟩ (ps.zip us))
  (aG:ox L M X.aT X.c5 X.bS.heap) (aA:∃o,(f,o)∈L/\∃c7 cA fd aL,o=⟨c7,cA,.func fd,aL⟩) (h:ma st x) (aN:PA X (e::es) t) (aa:autoParam (k<=k0) dB._auto_1) (ex:autoParam (X.ex=[]) dA._auto_1) (b9:autoParam (X.N[i]?∣x) dA._auto_1) (ar:autoParam (X.env.scope=bU st) dA._auto_1)
  (he:autoParam (gO e=true) dA._auto_1) (hpl:autoParam (plainAll es=true) dA._auto_1):PE X (.Call (.Name x p) (e::es) [] pos) (zjl i f sp t):=by
 intro pins s J H Q I ao;obtain⟨o,Th,c7,cA,qa,aL,rfl⟩:=aA;have fa:∀{J H s},Inv X pins J H s->FnAt f s.heap:=λcq=>⟨c7,cA,qa,aL,((cq.GF aG ex).1 _ Th).1⟩
 have cK:=tL (X:=X) (pos:=p) i h b9 ar pins s J H (λv H'=>v=.ref f/\H'=H) I (by unfold tVr;rw[ao.1];exact⟨rfl,rfl⟩)
 refine wpAny_Call_Name_kw (bz cK λu s1 ⟨v,H',aO,r,ar,aw⟩=>?_);subst ar aw;obtain rfl:u=.ref f:=r;refine callWith_F (fa aO) (bz (aN pos pins s1 J H' _ aO ao.2) λus s2 ⟨vs,H1,bu,cB,q⟩=>⟨fa bu,?_⟩) (fl he) (fW hpl);exact GJ F (a5.mono aa) (ae _ _) bu (bu.GF aG ex) cB q
end
section
variable {st:Stmt}{name qual:Str}{f c:Addr}{cl:List (Str×Addr)}{fr ps:List Str}{zs:List V}{fd:FuncData}{L M:List (Addr×Obj)}
theorem Ti (C:p9 st name qual f c cl fr zs fd L M)(h:∀(us:List Value) (doc pm gI:Value),us.length=ps.length->bindArgs (fnX name qual (gB st) (e0 st) (bU st) cl .none .none doc pm none (.ref c) gI) ⟨us,[]⟩=pure (ps.zip us))(s:Shared)(us:List Value)(aD:us.length=ps.length):BindsTo s fd ⟨us,[]⟩ (ps.zip us):=by
 obtain⟨doc,pm,gI,rfl,_⟩:=C.fn;exact .of_eq (h us doc pm gI aD)
theorem Tj (C:p9 st name qual f c cl fr zs fd L M):∃o,(f,o)∈L/\∃c7 cA fd aL,o=(⟨c7,cA,.func fd,aL⟩:Obj):=by
 obtain⟨doc,pm,gI,_,h⟩:=C.fn;exact⟨_,h,_,_,_,_,rfl⟩
end
def rN (s:Stmt):Pos:=Stmt.pos s
def GL (qual:Str)(co:Obj):Prop:=∃vs t,co.data=.fields vs/\vs[1]?∣.str qual t
def gJ (pos:Pos)(qual:Str)(P:Addr)(H:ah):Prop:=
 ∃bj,H P∣.eY bj/\TriplesOk bj.toList/\(codeAmong pos bj.toList=none\/∃c co,codeAmong pos bj.toList∣.ref c/\H c∣.cc co (.own c)/\GL qual co)
def tV (P:Addr)(H H':ah):Prop:=∀b o,b≠P->H b∣o->H' b∣o
theorem gJ.same {P:Addr}(t:gJ pos qual P H) (s:aQ H H'):gJ pos qual P H':=
 let⟨bj,a,b,c⟩:=t
 ⟨bj,s _ _ a,b,c.imp id λ⟨c,co,x,y,z⟩=>⟨c,co,x,s _ _ y,z⟩⟩
def nj (mg:Str->Option Value)(base:Heap):Prop:=∃bm ob,mg "__builtins__"∣.ref bm/\bm≠builtinsNs/\base.get? bm∣ob/\ob.cls=.type "module"/\ob.dict∣builtinsNs/\ob.data=.plain
theorem Tn {a b:Int}{t u:Tok}{c:Value}(l:List Value) (h:TriplesOk l):TriplesOk (l++[.int a t,.int b u,c]):=by
 fun_induction TriplesOk l with
 | case1=>trivial
 | case2 _ _ _ _ _ rest bE=>exact bE h
 | case3=>exact h.elim
section
variable {X:Cx}{pins:List (Addr×Obj)}{J:St}{H:ah}{s:Shared}{name qual:Str}{params:Arguments}{body:List Stmt}{scope:Scope}{f9:Pos}{c P:Addr}{cl:List (Str×Addr)}
theorem made (I:Inv X pins J H s) (bj:gJ f9 qual P H) (eL:X.env.code=.ref c) (C:CodeHd X.base c P) (kR:nj X.mg X.base) (eD:closureFor scope X.env=pure cl)
  (h:∀f c co doc pm gI H1 s1,Inv X (pins++[(f,fnMade name qual params body scope cl doc pm c gI)]) J H1 s1->tV P H H1->gJ f9 qual P H1->H1 f=none->H1 c∣.cc co (.own c)->GL qual co->Q (.ref f) s1):
  wpAny (model X.prog X.w) X.A (makeFunction name qual params (.stmts body) scope X.env [] [] [] f9 f9.line) Q X.cQ s:=by
 obtain⟨bj,df,bC,ak⟩:=bj;have tW:s.heap.get? P∣tabObj bj:=I.a6 _ _ df
 obtain⟨bm,ob,ct,b6,g8,h5,ou,mb⟩:=kR;have wL:s.heap.Ns mainGlobals X.mg:=I.mod.glob.keeps I.b3
 have tX:=I.b3 _ _ g8
 have To:mainGlobals≠P:=λq=>by
  obtain⟨o,es,cC,e,hd,_⟩:=wL;rw[q,tW]at e;cases e;cases hd
 have Tp:bm≠P:=λq=>by rw[q,tW]at tX;cases tX;cases h5
 have Tq:bm≠mainGlobals:=λq=>by
  obtain⟨o,es,cC,e,hd,_⟩:=wL;rw[q,e]at tX;cases tX;rw[hd]at mb;cases mb
 have GN:s.heap.BuiltinsAt X.mg P:=⟨bm,ob,ct,b6,Tq,Tp,tX,h5,ou,mb⟩
 have GO:=C.keeps I.b3
 have Ps:=lt_size tW
 have fin:∀{H1:ah}{h':Heap}{tk:Nat}{gT:Obj},Inv X pins J H1 { s with heap:=h'.push gT,toks:=tk }->↑s<=h'.objs.size->H1 h'.objs.size=none->(∀v,gT.data≠.cell v)->gT.isFreed=false->Inv X (pins++[(h'.objs.size,gT)]) J H1 { s with heap:=h'.push gT,toks:=tk }:=λ{H1 h' tk gT} aO z n d fQ=>
  aO.sz λq ao=>(mem_append.mp ao).elim (λz=>aO.pin q (mem_append_right _ z)) λy=>by
   obtain rfl:=mem_singleton.mp y;exact⟨get?_push_size _ fQ,n,ne_of_gt (lt_of_lt_of_le I.lt z),I.ve z,d⟩
 rcases ak with hn|⟨aY,co,hf,tI,ok⟩
 ·refine makeFunction_K (mg:=X.mg) eD I.ok.glob wL eL GO tW bC hn To GN λaY gI doc h' tk aq tm cF Tr kq=>?_;obtain⟨cD,co,vs,t,aw,mG,hd,aJ⟩:=Tr;cases aw;have Ar:H aY=none:=I.a6.fresh tm
  have Ts:aY≠P:=λz=>by rw[z,df]at Ar;cases Ar
  generalize wM:fnMade name qual params body scope cl doc ((X.mg "__name__").getD .none) aY gI=gT
  have ex:∀b o,b≠P->s.heap.get? b∣o->(h'.push gT).get? b∣o:=λb o n e=>get?_push_of_some _ (aq b o n e)
  have GP:upd (upd H P (.eY (bj++#[rawInt f9.line,rawInt f9.col,.ref aY]))) aY (.cc co (.own aY)) P∣.eY (bj++#[rawInt f9.line,rawInt f9.col,.ref aY]):=by rw[zf (Ne.symm Ts),aH]
  have bar:tV P H (upd (upd H P (.eY (bj++#[rawInt f9.line,rawInt f9.col,.ref aY]))) aY (.cc co (.own aY))):=λb o ae e=>by rwa[zf (cg e Ar),zf ae]
  have tY:∀{b:Addr}{o:a3},H b∣o->(∀t,o≠.eY t)->b≠P:=λe n z=>by rw[z,df]at e;cases e;exact n _ rfl
  have As:∀{b:Addr},H b=none->b≠P:=λe z=>by rw[z,df]at e;cases e
  have un:fq X.aT [] H (upd (upd H P (.eY (bj++#[rawInt f9.line,rawInt f9.col,.ref aY]))) aY (.cc co (.own aY))) s.heap (h'.push gT):=
   ⟨λb o e n _ _=>ex b o (As n) e,λb o e n _ _=>⟨o.slots,ex b o (As n) e⟩,λb o e n _=>by rwa[zf (ne_of_lt (lt_of_lt_of_le (lt_size e) tm)),zf (As n)],
    λb o e _=>by
     by_cases ae:b=P
     ·exact⟨_,ae ▸ get?_push_of_some _ kq⟩
     ·exact⟨o,ex b o ae e⟩,
    λb xs e=>bar b _ (tY e λ_ z=>nomatch z) e,λb o u e=>bar b _ (tY e λ_ z=>nomatch z) e,λb ps e=>by
     by_cases ae:b=P
     ·subst ae;rw[df]at e;cases e;exact⟨_,GP⟩
     ·exact⟨#[],by rw[Array.append_empty];exact bar b _ ae e⟩⟩
  have a6:dV X.prog X.w (upd (upd H P (.eY (bj++#[rawInt f9.line,rawInt f9.col,.ref aY]))) aY (.cc co (.own aY))) (h'.push gT):=λb o e=>by
   by_cases ae:b=aY
   ·subst ae;rw[aH]at e;cases e;exact⟨get?_push_of_some _ mG,co,get?_push_of_some _ mG⟩
   ·rw[zf ae]at e;by_cases lj:b=P
    ·subst lj;rw[aH]at e;cases e;exact get?_push_of_some _ kq
    ·rw[zf lj]at e;exact(I.a6 b o e).gX (λd u hd a4=>ex d u (hd.elim (λz=>z ▸ lj) λz=>tY z λ_ y=>nomatch y) a4) (λd a4=>bar d _ (tY a4 λ_ y=>nomatch y) a4) λd xs a4=>bar d _ (tY a4 λ_ y=>nomatch y) a4
  have zs:↑s<=h'.objs.size:=wa0 tm (Nat.le_of_lt cF)
  have b5:(upd (upd H P (.eY (bj++#[rawInt f9.line,rawInt f9.col,.ref aY]))) aY (.cc co (.own aY))) h'.objs.size=none:=by
   rw[zf (ne_of_gt cF),zf (ne_of_gt (lt_of_lt_of_le Ps zs))];exact I.a6.fresh zs
  have aO:=fin (I.un (t':=tk) un a6) zs b5 (by subst wM;intro v z;cases z) (by subst wM;rfl)
  rw[<- wM]at aO;rw[<- wM];refine h _ aY co doc _ gI _ _ aO bar ⟨_,GP,?_,.inr ⟨aY,co,?_,aH,vs,t,hd,aJ⟩⟩ b5 aH ⟨vs,t,hd,aJ⟩
  ·rw[Array.toList_append];exact Tn _ bC
  ·rw[Array.toList_append];exact codeAmong_snoc _ bC hn
 ·refine makeFunction_hit (mg:=X.mg) eD I.ok.glob wL eL GO tW bC hf GN λgI doc h' tk aj hsz=>?_;have b5:H h'.objs.size=none:=I.a6.fresh hsz
  exact h _ aY co doc _ gI _ _ (fin (I.kept (t':=tk) λb u e=>get?_push_of_some _ (aj b u e)) hsz b5 (λv z=>nomatch z) rfl) (λ_ _ _ e=>e) ⟨bj,df,bC,.inr ⟨aY,co,hf,tI,ok⟩⟩ b5 tI ok
end
def Tt (i:Nat)(P:Addr)(f9:Pos)(qual:Str)(rO:List Nat)(sp:Addr->List V->d0)(bB:dz):cV:=λD J H=>gJ f9 qual P H/\∃zs:List V,rO.map (λj=>J[j]?)=zs.map (λz=>some (some z))/\
 ∀f H1,tV P H H1->gJ f9 qual P H1->H1 f=none->bB (J.set i (some (.ref f))) H1 λvs aE=>aQ H1 aE/\sp f zs vs aE D.ih fU
section
variable {X:Cx}{name qual:Str}{params:Arguments}{body:List Stmt}{scope:Scope}{f9 p pos Tu:Pos}{c P fa:Addr}{cl:List (Str×Addr)}{fr:List Str}{rO:List Nat}{k k0:Nat}{ps:List Str}{sp:Addr->List V->d0}{x:Str}{e:Expr}{es:List Expr}{bB:dz}
theorem Tv (i:Nat)(b9:X.N.Nodup)(eL:X.env.code=.ref c)(C:CodeHd X.base c P)(kR:nj X.mg X.base)(eD:closureFor scope X.env=pure cl)(jQ:∀(m:Nat) y,fr[m]?∣y->∃j,rO[m]?∣j/\X.N[j]?∣y/\X.env.scope.names.lookup y=some .cell/\cl.lookup y=X.env.cells.lookup y)(Tw:rO.length=fr.length)(i2:∀q∈cl,X.env.cells.lookup q.1∣q.2)(pg:∀y,X.fn y=true)(F:∀f c zs fd L M,p9 (.FunctionDef name params body [] none [] scope none name f9) name qual f c cl fr zs fd L M->∃qa,Binds X.K qa ps []/\oy X.prog X.w X.K X.mg X.base bI k fa qa ps (sp f zs) L M)(a5:da k0 X.A)(g:ft X x)(hm:X.mg x∣.ref fa)(aj:keepIn X.K (.ref fa)=true)(hdb:(x==("__debug__":Str))=false)(Tx:PA X (e::es) bB)(aa:autoParam (k<=k0) dB._auto_1)(au:autoParam (X.N[i]?∣name) dA._auto_1)(aD:autoParam (X.env.scope.names.lookup name=some .local) dA._auto_1)(z3:autoParam (params.defaults=[]) dA._auto_1)(Tz:autoParam (params.kw_defaults=[]) dA._auto_1)(aN:autoParam (annTrees params none X.env=[]) dA._auto_1)(TA:autoParam (qualnameIn X.env name name=qual) dA._auto_1)(he:autoParam (gO e=true) dA._auto_1)(hpl:autoParam (plainAll es=true) dA._auto_1):
  PSs X [.FunctionDef name params body [] none [] scope none name f9,.Return (some (.Call (.Name x p) (e::es) [] pos)) Tu] (Tt i P f9 qual rO sp bB):=by
 intro pins s J H D I ao;obtain⟨bj,zs,hz,ao⟩:=ao;refine wpAny_execs_cons (nestDef_K z3 Tz aN ?_);rw[TA];refine made I bj eL C kR eD λf c co doc pm gI H1 s1 aO bar TB b5 pX TC=>?_;refine vi aO b9 au (.inl aD) (v:=.ref f) rfl (λs2 bu=>?_) (.inr aD);refine wpAny_execs_cons (wpAny_Return_some (wpAny_Call_Name_kw (nV bu g hm ?_ hdb)));refine callWith_K (h₀:=X.base) I.ok.mod.ig aj (bz (Tx pos _ s2 _ H1 _ bu (ao f H1 bar TB b5)) λus s3 ⟨vs,aE,cW,r,mf,q⟩=>⟨cW.d5,?_⟩) (fl he) (fW hpl);have Au:∀{y:Str}{a:Addr},cl.lookup y∣a->X.env.cells.lookup y∣a:=λh=>i2 _ (PySem.mem_of_lookup h)
 have mh:zs.length=rO.length:=by
  have:=congrArg length hz
  rw[length_map,length_map]at this;exact this.symm
 have GQ:∀{y:Str}{a:Addr}{o:Obj},cl.lookup y∣a->s3.heap.get? a∣o->(a,o)∈(f,fnMade name qual params body scope cl doc pm c gI)::cl.filterMap (λq=>(s3.heap.get? q.2).map λo=>(q.2,o)):=λaa ag=>
  mem_cons_of_mem _ (mem_filterMap.mpr ⟨_,PySem.mem_of_lookup aa,by rw[ag];rfl⟩)
 have TF:p9 (.FunctionDef name params body [] none [] scope none name f9) name qual f c cl fr zs (fnX name qual params body scope cl .none .none doc pm none (.ref c) gI) ((f,fnMade name qual params body scope cl doc pm c gI)::cl.filterMap (λq=>(s3.heap.get? q.2).map λo=>(q.2,o))) [(c,co)]:=by
  obtain⟨vs,t,cL,cD⟩:=TC;refine⟨⟨doc,pm,gI,rfl,mem_cons_self⟩,⟨co,vs,t,mem_singleton.mpr rfl,cL,cD⟩,λy a e=>?_,λm y v ar aw=>?_,λy kr a ar aw=>I.ok.inj y kr a (Au ar) (Au aw),by rw[mh,Tw]⟩
  ·obtain⟨v,o,aa,ag⟩:=cW.cell y a (Au e);exact⟨o,v,GQ e aa,ag⟩
  ·obtain⟨j,oz,Av,wN,Aw⟩:=jQ m y ar;have aJ:J[j]?∣some v:=by
    have:=congrArg (λl=>l[m]?) hz
    simp only[getElem?_map,oz,aw,map_some]at this;exact wa5 this
   have TG:i≠j:=λz=>by
    subst z;rw[au]at Av;cases Av;rw[aD]at wN;cases wN
   obtain⟨rP,_,me⟩:=cW.loc;obtain⟨u,gh,lk⟩:=me j y v Av (by rwa[List.getElem?_set_ne TG]) (.inr (.inl wN));rcases lk with⟨aj,_⟩|⟨_,a,aN,o,aA,hd⟩
   ·have aj:X.env.scope.names.lookup y=some .local:=aj
    rw[wN]at aj;cases aj
   ·exact⟨a,u,o,Aw.trans aN,GQ (Aw.trans aN) aA,hd,gh⟩
 have dr:ox ((f,fnMade name qual params body scope cl doc pm c gI)::cl.filterMap (λq=>(s3.heap.get? q.2).map λo=>(q.2,o))) [(c,co)] (d4 X.stack) aE s3.heap:=by
  refine⟨λq ao=>?_,λq ao=>?_⟩
  ·rcases mem_cons.mp ao with rfl|ao
   ·obtain⟨a1,a2,fY,hJ,_⟩:=cW.pin (f,fnMade name qual params body scope cl doc pm c gI) (mem_append_right _ (mem_append_right _ (mem_singleton.mpr rfl)));exact⟨a1,a2,cW.Aq fY hJ⟩
   ·obtain⟨⟨y,a⟩,eO,dh⟩:=mem_filterMap.mp ao;cases aA:s3.heap.get? a with
    | none=>rw[show(s3.heap.get? (y,a).2)=none from aA]at dh;cases dh
    | some o=>
     rw[show(s3.heap.get? (y,a).2)=some o from aA]at dh;cases dh;have aD:=i2 _ eO
     refine⟨aA,cW.hB _ _ aD,cW.Aq (cW.lQ _ _ aD) λae=>?_⟩;obtain⟨_,ob,a8,_⟩:=I.ok.gY.mem ae;exact br (lt_of_lt_of_le (lt_size a8) (I.ok.nR _ _ (pg _) aD)) (wa7 _)
  ·obtain rfl:=mem_singleton.mp ao;exact mf _ _ pX
 obtain⟨qa,ae,qb⟩:=F f c zs _ _ _ TF;refine bz (GJ qb (a5.mono aa) (λaD=>by have:=ae s3 us cW.d5 (by rwa[append_nil]);rw[append_nil]at this;exact this) cW dr r q) λu s4 ⟨v,bP,iV,cf,mI⟩=>⟨v,_,bP,iV.sG,cf,mI⟩
end
structure Ax (T:Addr)(H:ah):Prop where
 tab:H T∣(.eY #[])
 rest:∀b,b≠T->H b=none\/∃o xs,H b∣.cc o (.lst xs)
theorem TH {iP:Str->Option Value}{k:Nat}{fa c T:Addr}(KX:K.In s.heap) (bD:s.heap.Ns mainGlobals mg) (ae:s.heap.Ns builtinsNs iP) (qc:∀x:Str,x≠"__name__"->iP x=bootBuiltins x) (TJ:s.heap.NoLimit) (TK:s.gens=#[])
  (aN:s.heap.get? a=some { cls:=.type "list",data:=.seq vs.toArray }) (au:IntsAre vs ns) (aD:ns.length<=sizeLine) (a5:da k callerA) (cP:s.heap.get? T∣(tabObj #[])) (C:CodeHd s.heap c T) (jt:K.lookup T=none) (kR:nj mg s.heap)
  (F:∀base:Heap,K.In base->base.Ns mainGlobals mg->nj mg base->fw P w K mg base bI k fa fd [x] sp) (TL:∀(s:Shared)(u:Value),BindsTo s fd ⟨[u],[]⟩ [(x,u)])
  (fI:∀H:ah,Ax T H->aK K H a (ns.map V.int)->sp [.ref a] H (λv _=>v=.bl true) λ_ _ _=>False):
  codeAny (model P w) callerA (.call (.ref fa) ⟨[.ref a],[]⟩) (λr s'=>r=.ok (.ret (.bool true))/\OldK s.heap s'.heap/\s'.os=s.os/\AllBare s'.gens) s:=by
 have TM:a≠T:=λz=>by rw[z,cP]at aN;cases aN
 have core:∀H:ah,Ax T H->aK K H a (ns.map V.int)->dV P w H s.heap->(∀b,H b≠none->(b=a/\K.lookup a=none)\/b=T)->
   codeAny (model P w) callerA (.call (.ref fa) ⟨[.ref a],[]⟩) (λr s'=>r=.ok (.ret (.bool true))/\OldK s.heap s'.heap/\s'.os=s.os/\AllBare s'.gens) s:=by
  intro H qd cb a6 hA;have un:∀{b:Addr}{o:Obj},s.heap.get? b∣o->(∀v n,o.data≠.seq v n)->(∀v,o.data≠.fields v)->(mE s.heap H).get? b∣o:=λ{b o} e di dO=>Dt e (by
   by_cases q:H b=none
   ·exact q
   ·rcases hA b q with⟨z,_⟩|z
    ·rw[z,aN]at e;cases e;exact br rfl (di _ _)
    ·rw[z,cP]at e;cases e;exact br rfl (dO _))
  have kQ:∀{b:Addr}{m:Str->Option Value},s.heap.Ns b m->(mE s.heap H).Ns b m:=λ{b m} ⟨o,es,cC,e,d,r⟩=>⟨o,es,cC,un e (λv n z=>by rw[d]at z;cases z) (λv z=>by rw[d]at z;cases z),d,r⟩
  have ha:K.In (mE s.heap H):=λb o e=>Dt (KX b o e) (by
   by_cases q:H b=none
   ·exact q
   ·rcases hA b q with⟨z,y⟩|z
    ·rw[z,y]at e;cases e
    ·rw[z,jt]at e;cases e)
  have bm:nj mg (mE s.heap H):=let⟨bm,ob,ct,b6,g8,h5,ou,mb⟩:=kR;⟨bm,ob,ct,b6,un g8 (λv n z=>by rw[mb]at z;cases z) (λv z=>by rw[mb]at z;cases z),h5,ou,mb⟩
  have cy:nZ P w K mg (mE s.heap H) callerA [] s H:=⟨rfl,⟨ha,kQ bD,⟨iP,kQ ae,qc⟩,TJ.elim λTN z=>⟨TN,kQ z.1,z.2⟩⟩,λb o e=>Ng e,Nat.le_of_eq (Nf _ _),trivial,λb z=>(nomatch (show b∈([]:List Addr) from z)),a6,AllBare.of_eq TK⟩
  refine codeAny_mono ((F _ ha (kQ bD) bm).run callerA [] s H _ [.ref a] [.ref a] _ _ a5 cy (TL s _) (.cons rfl .nil) (fI H qd cb)) λr s' h=>?_;cases r with
  | error e=>exact False.elim h
  | ok bJ=>
   cases bJ with
   | next=>exact False.elim h
   | brk=>exact False.elim h
   | cont=>exact False.elim h
   | ret u=>
    obtain⟨v,H',os,bare,kk,GR,c1,q⟩:=h;obtain rfl:v=.bl true:=q;obtain rfl:u=Value.bool true:=c1;obtain⟨more,hm⟩:=kk.hy T #[] qd.tab;have tZ:s'.heap.get? T=some { cls:=.none,data:=.fields (#[]++more) }:=GR _ _ hm
    have keep:∀b o,b≠T->s.heap.get? b∣o->s'.heap.get? b∣o:=λb o n e=>by
     rcases qd.rest b n with z|⟨ob,xs,z⟩
     ·exact kk.keep b o e z (λy=>nomatch (show b∈([]:List Addr) from y)) (λy=>nomatch y)
     ·have eu:s.heap.get? b∣ob:=(a6 b _ z).1
      have eP:s'.heap.get? b∣ob:=(GR b _ (kk.fE b ob _ z)).1
      rw[e]at eu;cases eu;exact eP
    refine⟨rfl,⟨λb o e=>?_,λb o e=>?_⟩,os,bare⟩
    ·by_cases ae:b=T
     ·subst ae;rw[cP]at e;cases e;exact .inr (.inl ⟨(C.tab cP).isCodeTable,rfl,#[],more,rfl,tZ⟩)
     ·exact .inl (keep b o ae e)
    ·by_cases ae:b=T
     ·exact⟨_,ae ▸ tZ⟩
     ·exact⟨o,keep b o ae e⟩
 cases aj:K.lookup a with
 | some o=>
  have e:=KX a o aj
  rw[aN]at e;cases e;refine core (upd (λ_=>none) T (.eY #[])) ⟨aH,λb n=>.inl (zf n)⟩ (.inr ⟨_,vs.toArray,_,aj,rfl,rfl,rfl,by rwa[size_toArray,au.length],by simpa using vM au⟩) (λb u z=>?_) λb z=>.inr ?_
  ·by_cases ae:b=T
   ·subst ae;rw[aH]at z;cases z;exact cP
   ·rw[zf ae]at z;cases z
  ·by_cases ae:b=T
   ·exact ae
   ·exact br (zf ae) z
 | none=>
  have a0:upd (upd (λ_=>none) T (.eY #[])) a (.cc { cls:=.type "list",data:=.seq vs.toArray } (.lst (ns.map V.int))) a∣.cc { cls:=.type "list",data:=.seq vs.toArray } (.lst (ns.map V.int)):=aH
  refine core _ ⟨by rw[zf (Ne.symm TM),aH],λb n=>?_⟩ (.inl (.inr ⟨_,a0⟩)) (λb u z=>?_) λb z=>?_
  ·by_cases ae:b=a
   ·subst ae;exact .inr ⟨_,_,a0⟩
   ·exact .inl (by rw[zf ae,zf n])
  ·by_cases ae:b=a
   ·subst ae;rw[a0]at z;cases z;exact⟨aN,by rwa[length_map],vs,_,vM au,aN⟩
   ·rw[zf ae]at z;by_cases lj:b=T
    ·subst lj;rw[aH]at z;cases z;exact cP
    ·rw[zf lj]at z;cases z
  ·by_cases ae:b=a
   ·exact .inl ⟨ae,aj⟩
   ·by_cases lj:b=T
    ·exact .inr lj
    ·exact br (by rw[zf ae,zf lj]) z
theorem TO {l:OpenLaw}{k:Nat}{q:Program}{d:DefRec}{K:Params->Frag}{sp:World->d0}{T:Addr}(hn:l.most∣n) (nY:n<=sizeLine) (sZ:d.params.defaults=[]) (a5:da k callerA)
  (Ay:∀(w:World)(h:Heap),oh w h->(K w.params).In h/\h.get? T∣(tabObj #[])) (jt:∀w:World,(K w.params).lookup T=none)
  (F:∀(w:World)(mg:Str->Option Value)(fa:Addr)(h:Heap),(K w.params).In h->h.Ns mainGlobals mg->mg d.name∣.ref fa->
   ∃fd:FuncData,(∃c,codeHdIn (K w.params) c T=true)/\(∀(s:Shared)(u:Value),BindsTo s fd ⟨[u],[]⟩ [(x,u)])/\∀base:Heap,(K w.params).In base->base.Ns mainGlobals mg->nj mg base->fw l.prog w (K w.params) mg base bI k fa fd [x] (sp w))
  (fI:∀(w:World)(H:ah)(a:Addr)(ns:List Int),ns.length<=n->(∀i∈ns,kV i)->Ax T H->aK (K w.params) H a (ns.map V.int)->sp w [.ref a] H (λv _=>v=.bl true) λ_ _ _=>False):
  WalkO q loose rg oh l.row.toRowW d [] (λf vs=>PySem.call f vs):=by
 refine P6 hn sZ λw bS s mg iP fa o pm cd doc a vs ns G Y aA hd eL hmg zB hints hlen TP bD=>?_;obtain⟨KX,cP⟩:=Ay w _ Y;obtain⟨fd,⟨c,ak⟩,ae,hl⟩:=F w mg fa _ KX G.T.g hmg;exact TH KX G.T.g G.T.b G.T.builtins G.T.nolimit bD zB hints (wa0 hlen nY) a5 cP (codeHd_of_K KX ak) (jt w) G.T.bmain hl ae λH qd cb=>fI w H a ns hlen TP qd cb
inductive oA (K:Frag)(x q:Str)(st:Stmt)(f:Addr)(aU:Array Value)(c T:Addr):Prop
 | mk (c7:Value) (cA:Option Addr) (bq doc pm:Value) (an:Option Addr) (bW:Value) (et:Array (Option Value)) (mi:Addr) (i6:Obj) (n:Nat) (_:K.lookup f∣⟨c7,cA,.func (fnOf x q (gB st) (e0 st) (bU st) (.ref mi) bq doc pm an (.ref c) bW),et⟩) (_:codeIn K (.ref c) q=true) (_:K.lookup mi∣i6) (_:i6.data=.seq aU n) (_:keepIn K (.ref f)=true) (_:codeHdIn K c T=true)
def aew (K:Frag)(x q:Str)(st:Stmt)(f:Addr)(c T:Addr)(ps:List Str):Prop:=∃fd,Binds K fd ps []/\codeHdIn K c T=true/\∃(c7:Value)(cA:Option Addr)(kb bq doc pm:Value)(an:Option Addr)(bW:Value)(et:Array (Option Value)),
 fd=fnOf x q (gB st) (e0 st) (bU st) kb bq doc pm an (.ref c) bW/\K.lookup f∣⟨c7,cA,.func fd,et⟩/\codeIn K (.ref c) q=true
section
variable {K:Frag}{x q:Str}{st:Stmt}{f c T:Addr}{aU:Array Value}{ps:List Str}
theorem zny {cA an:Option Addr}{mF:Array (Option Value)}{bq z8:Value}{mi:Addr}(l:K.lookup f∣⟨c7,cA,.func (fnOf x q (gB st) (e0 st) (bU st) (.ref mi) bq doc pm an (.ref c) bW),et⟩) (ll:codeIn K (.ref c) q=true) (k:keepIn K (.ref f)=true)
  (d:K.lookup mi∣⟨z8,z9,.seq aU n,mF⟩) (h:codeHdIn K c T=true):oA K x q st f aU c T:=⟨c7,cA,bq,doc,pm,an,bW,et,mi,_,n,l,ll,d,rfl,k,h⟩
theorem oA.c2 (h:oA K x q st f aU c T):keepIn K (.ref f)=true:=by cases h;assumption
theorem oA.ch (h:oA K x q st f aU c T):∃c,codeHdIn K c T=true:=by cases h;exact⟨c,by assumption⟩
end
def wO (P:Program)(w:World)(K:Frag)(mg:Str->Option Value)(base:Heap)(rB:g5)(k:Nat)(f:Addr)(ps:List Str)(sp:d0):Prop:=∃fd:FuncData,Binds K fd ps []/\(∃t,Binds K fd ps [.int 0 t])/\fw P w K mg base rB k f fd ps sp
theorem wO.zn {rB:g5}{k:Nat}(h:wO P w K mg base rB k f ps sp):jA P w K mg base rB k f ps sp:=
 let⟨fd,b,_,F⟩:=h
 ⟨fd,b,F⟩
theorem TQ {k k0:Nat}{N Y:List Str}{t:dz}{p:Pos}(Z:wO X.prog X.w X.K X.mg X.base bI k f ps sp) (R:fO k0 X.A N Y st) (hm:dy X.K X.mg x f) (aN:PA X (e::es) t) (aa:autoParam (k<=k0) dB._auto_1) (ar:autoParam (X.env.scope=bU st) dA._auto_1) (he:autoParam (gO e=true) dA._auto_1) (hpl:autoParam (plainAll es=true) dA._auto_1) (g:autoParam (hp st x) dC._auto_1):
  PE X (.Call (.Name x p) (e::es) [] pos) (zgz sp [.int 0] fU t):=
 let⟨_,_,⟨_,ae⟩,F⟩:=Z
 yH F (R.r.mono aa) (m5 g ar) hm.1 hm.2 ae (.cons ⟨_,rfl⟩ .nil) n6 aN (ja g).2.1 (fl he) (fW hpl)
def GS (K:Frag)(x q:Str)(st:Stmt)(f:Addr)(c T:Addr)(ps:List Str):Prop:=∃fd,(Binds K fd ps []/\∃t,Binds K fd ps [.int 0 t])/\codeHdIn K c T=true/\∃(c7:Value)(cA:Option Addr)(kb bq doc pm:Value)(an:Option Addr)(bW:Value)(et:Array (Option Value)),
 fd=fnOf x q (gB st) (e0 st) (bU st) kb bq doc pm an (.ref c) bW/\K.lookup f∣⟨c7,cA,.func fd,et⟩/\codeIn K (.ref c) q=true
theorem oA.bd {q:Str}{c T:Addr}{t:Tok}(h:oA K x q st f #[.int 0 t] c T)
  (b:∀(ds us:List Value),ds=[]\/ds=[.int 0 t]->(us++ds).length=ps.length->∀(T:Addr)(bq doc pm:Value)(an:Option Addr)(cdv bW:Value),∃k:Option (Array Value)->Sem (List (Str×Value)),bindArgs (fnOf x q (gB st) (e0 st) (bU st) (.ref T) bq doc pm an cdv bW) ⟨us,[]⟩=(seqItems? (.ref T)>>=k)/\k (some #[.int 0 t])=pure (ps.zip (us++ds))):GS K x q st f c T ps:=by
 obtain⟨c7,cA,bq,doc,pm,an,bW,et,mi,i6,n,l,ll,cP,hd,k,h⟩:=h;have f:∀ds,ds=[]\/ds=[.int 0 t]->Binds K (fnOf x q (gB st) (e0 st) (bU st) (.ref mi) bq doc pm an (.ref c) bW) ps ds:=λds e s us KX aD=>by
  obtain⟨k,aa,ag⟩:=b ds us e aD mi bq doc pm an (.ref c) bW;exact .of_defaults (k:=k) rfl (KX _ _ cP) hd aa ag
 exact⟨_,⟨f _ (.inl rfl),t,f _ (.inr rfl)⟩,h,c7,cA,.ref mi,bq,doc,pm,an,bW,et,rfl,l,ll⟩
theorem TR {v:Value}(h:(us++[v]).length=9):us.length=8:=by rw[length_append]at h;exact Nat.succ.inj h
end L2
variable {mN:PySem.Str->Option PySem.Value}
namespace L2
open PySem PySem.Spec PyProof.Rows
section
variable {prog:Program}{w:World}{K:Type} [DecidableEq K]{knd:HeapKind prog w K}{A:Around}{E:wvP}{s:Shared}
theorem TS {b:Addr}{hs h6:List (K×Addr×Value)}{Q:Bool->Shared->Prop}(f:K×Addr×Value->Bool) (aN:(a==sysModules)=false) (ae:(b==sysModules)=false) (bZ:knd.room A) (rQ:s.heap.DictOfH knd a hs) (db:s.heap.DictOfH knd b h6)
  (hits:∀x∈hs,((∀(j:Nat)(p:Addr×Value),h6[j]?≠some (x.1,p))/\f x=false)\/((∃(j:Nat)(p:Addr×Value),h6[j]?∣(x.1,p))/\∀(j:Nat)(p:Addr×Value),h6[j]?∣(x.1,p)->SeqAt.EqAt A s x.2.2 p.2 (f x))) (h:Q (decide (hs.length=h6.length)&&hs.all f) s):
  wpAny (model prog w) A (Builtin.Dict.samePairs nm a b) Q E s:=by
 obtain⟨aex,es,cC,wQ,_,wR,wH,GU,_⟩:=rQ;obtain⟨ob,fF,nS,q9,_,hdb,wU,GV,nb⟩:=db;have Az:es.size=hs.length:=size_of_entries wH
 have GW:fF.size=h6.length:=size_of_entries wU
 unfold Builtin.Dict.samePairs Builtin.Dict.showsAll;rw[aB (show ¬(a==sysModules)=true by rw[aN];exact wa6),aB (show ¬(b==sysModules)=true by rw[ae];exact wa6)];refine ax (bw (ax (bw (ax (wpAny_dictEntries wQ wR ?_)))));dsimp only
 refine ax (wpAny_dictEntries q9 hdb ?_);by_cases hsz:es.size=fF.size
 case neg=>
  rw[aM (by simpa using hsz)];rw[decide_eq_false (by rwa[<- Az,<- GW]),Bool.false_and]at h;exact ax (wpAny_rule (bw h))
 rw[decide_eq_true (by rwa[<- Az,<- GW]),Bool.true_and]at h;have no:∀{y:K×Addr×Value},y∈hs->f y=false->Q false s:=λ{y} hm e=>by
  have:hs.all f=false:=by rw[List.all_eq_false];exact⟨y,hm,by rw[e];exact wa6⟩
  rw[this]at h;exact h
 rw[aB (by rw[hsz];simp)];refine ax (wpAny_dictEpoch wQ wR (ax ?_));rw[Std.Legacy.Range.forIn_eq_forIn_range'];simp only[Std.Legacy.Range.size,Nat.sub_zero,Nat.add_sub_cancel,Nat.div_one];refine wpAny_forIn_list _ (λrest q s'=>s'=s/\q=(none,())/\∃i,rest=List.range' i (es.size-i)/\i<=es.size/\∀y∈hs.take i,f y=true) _ ?_ ?_ _ _ ⟨rfl,rfl,0,by simp,zero_le _,by simp⟩
 ·rintro x rest q s' ⟨rfl,rfl,i,a5,au,al⟩;have cF:i<es.size:=(lt_or_ge i es.size).elim id λh=>by rw[Nat.sub_eq_zero_of_le h]at a5;cases a5
  obtain⟨rfl,yN⟩:x=i/\rest=List.range' (i+1) (es.size-(i+1)):=by
   rw[show es.size-i=(es.size-(i+1))+1 by omega,List.range'_succ]at a5;injection a5 with aa ag
   exact⟨aa,ag⟩
  refine ax (wpAny_dictEntries wQ wR ?_);obtain⟨y,bg⟩:∃y,hs[x]?∣y:=⟨_,getElem?_eq_getElem ⋯⟩;rw[show es[x]?∣entryOfKey knd y by rw[entry_at wH x,bg];rfl];have hm:y∈hs:=mem_of_getElem? bg
  show wpAny _ _ (holding [(entryOfKey knd y).key,(entryOfKey knd y).val] _>>=_) _ _ _
  rcases hits y hm with⟨ms,yT⟩|⟨⟨t2,wB,wV⟩,eqs⟩
  ·refine ax (wpAny_holding (ax (wpAny_dictFind_heap bZ (GU y hm) q9 hdb wU GV nb (λ_=>bw ?_) λj p aZ=>br aZ (ms j p))));show wpAny _ _ (if (!false)=true then _ else _) _ _ _
   rw[aM ∅];exact bw (bw (no hm yT))
  ·refine ax (wpAny_holding (ax (wpAny_dictFind_heap bZ (GU y hm) q9 hdb wU GV nb (λhn=>br wV (hn t2 wB)) λj p aZ=>?_)));refine ax (wpAny_dictEntries q9 hdb ?_);rw[show fF[j]?∣entryOfKey knd (y.1,p) by rw[entry_at wU j,aZ];rfl];refine wpAny_holding (eqs j p aZ prog w _ _ ?_);show wpAny _ _ (if (!(f y))=true then _ else _) _ _ _
   cases e:f y with
   | false=>
    rw[aM ∅];exact bw (bw (no hm e))
   | true=>
    rw[aB ∅];refine ax (wpAny_dictEpoch wQ wR ?_);rw[aB (by simp)];refine bw ⟨rfl,rfl,x+1,yN,cF,λz hz=>?_⟩;rw[take_add_one,bg]at hz;rcases mem_append.mp hz with hz|hz
    ·exact al z hz
    ·obtain rfl:=mem_singleton.mp hz;exact e
 ·rintro q s' ⟨rfl,rfl,i,a5,au,al⟩;have ei:i=es.size:=by
   rcases lt_or_ge i es.size with z|z
   ·rw[show es.size-i=(es.size-(i+1))+1 by omega,List.range'_succ]at a5;cases a5
   ·omega
  rw[ei,Az,take_length]at al;rw[all_eq_true.mpr al]at h;exact bw h
end
theorem GX [DecidableEq bt]{kvs:List (bt×V)}{k:bt}(h:aS kvs k=none):∀p∈kvs,p.1≠k:=by
 induction kvs with
 | nil=>intro p aG;cases aG
 | cons q r bE=>
  intro p aG e;by_cases z:q.1=k
  ·rw[i1 z]at h;cases h
  ·rw[iv z]at h;rcases mem_cons.mp aG with rfl|aG
   ·exact z e
   ·exact bE h p aG e
def GY (lp ha:List (List Key×V)):Prop:=lp.length=ha.length/\∀p∈lp,aS ha p.1∣p.2
def zwf (neg:Bool):fT:=λx y H Q=>∃a b lp ha,x=.ref a/\y=.ref b/\H a∣.bc lp/\H b∣.bc ha/\(∀p∈lp,∃i,p.2=.int i)/\(∀p∈ha,∃i,p.2=.int i)/\∀r:Bool,(r=true↔GY lp ha)->Q (.bl (if neg then !r else r)) H
open Classical in
theorem TU (I:Inv X pins J H s) (bZ:X.A.units+64+1<cLine){lp ha:List (List Key×V)}{hs h6:List (List Key×Addr×Value)}{b:Addr}{knd:HeapKind X.prog X.w (List Key)} (ki:KT H lp hs) (kT:KT H ha h6)
  (db:s.heap.DictOfH knd b h6) (fz:∀p∈lp,∃i,p.2=.int i) (f7:∀p∈ha,∃i,p.2=.int i):
  ∃f:List Key×Addr×Value->Bool,(hs.all f=true↔∀p∈lp,aS ha p.1∣p.2)/\∀x∈hs,((∀(j:Nat)(p:Addr×Value),h6[j]?≠some (x.1,p))/\f x=false)\/((∃(j:Nat)(p:Addr×Value),h6[j]?∣(x.1,p))/\∀(j:Nat)(p:Addr×Value),h6[j]?∣(x.1,p)->SeqAt.EqAt X.A.in1 s x.2.2 p.2 (f x)):=by
 refine⟨λx=>decide (∃i t,x.2.2=.int i t/\aS ha x.1∣.int i),?_,λx aq=>?_⟩
 ·rw[all_eq_true];constructor
  ·intro h p aG;obtain⟨i,au⟩:=getElem?_of_mem aG;obtain⟨x,aq,ar,_,bV⟩:=Paired.ju ki au;obtain⟨n,t,aa,ag⟩:=of_decide_eq_true (h x (mem_of_getElem? aq));obtain⟨m,em⟩:=fz p aG;rw[em]at bV ⊢;obtain⟨t',eI⟩:=bV;rw[aa]at eI;cases eI;rwa[ar]
  ·intro h x aq;obtain⟨i,au⟩:=getElem?_of_mem aq;obtain⟨p,aG,ar,_,bV⟩:=Paired.at2 ki au;have hm:=mem_of_getElem? aG
   obtain⟨m,em⟩:=fz p hm;have aJ:=h p hm
   rw[em]at bV aJ;obtain⟨t',eI⟩:=bV;exact decide_eq_true ⟨m,t',eI,by rwa[<- ar]⟩
 ·obtain⟨i,au⟩:=getElem?_of_mem aq;obtain⟨p,aG,ar,_,bV⟩:=Paired.at2 ki au;obtain⟨m,em⟩:=fz p (mem_of_getElem? aG);rw[em]at bV;obtain⟨t1,eI⟩:=bV;cases aJ:aS ha x.1 with
  | none=>
   refine .inl ⟨λj q ao=>?_,decide_eq_false λ⟨_,_,_,z⟩=>by rw[aJ]at z;cases z⟩;obtain⟨y,bg,f1,_,_⟩:=Paired.at2 kT ao;have f1:y.1=x.1:=f1
   have:=GX aJ y (mem_of_getElem? bg)
   exact this f1
  | some v=>
   obtain⟨t2,wV⟩:=Ft aJ;obtain⟨n,b8⟩:=f7 _ (mem_of_getElem? wV);have b8:v=.int n:=b8
   subst b8;obtain⟨⟨a8,bK⟩,ao,f1,_,eB⟩:=Paired.ju kT wV;have f1:x.1=a8:=f1
   subst f1;obtain⟨gC,f4⟩:=eB;refine .inr ⟨⟨t2,bK,ao⟩,λj r a5=>?_⟩;obtain⟨_,_,_,_,_,_,_,_,nd⟩:=db;have iB:j=t2:=by
    have a1:(h6.map (·.1))[j]?∣x.1:=by rw[getElem?_map,a5];rfl
    have a2:(h6.map (·.1))[t2]?∣x.1:=by rw[getElem?_map,ao];rfl
    exact(List.getElem?_inj (wa4.mp a1).1 nd).mp (a1.trans a2.symm)
   subst iB;rw[ao]at a5;cases a5;have f4:bK.2=.int n gC:=f4
   rw[f4];have k:=PySem.W.keq_at (A:=X.A) (s:=s) (Reads.int (h:=s.heap) m t1) (Reads.int (h:=s.heap) n gC) rfl rfl bZ
   have ot:decide (∃i t,Value.int m t1=Value.int i t/\↥n=↥i)=PyData.eqv (.int m) (.int n):=by
    by_cases z:m=n
    ·subst z;rw[decide_eq_true ⟨m,t1,rfl,rfl⟩];exact(beq_self_eq_true m).symm
    ·rw[decide_eq_false λ⟨i,t,a1,a2⟩=>by cases a1;cases a2;exact z rfl];exact(beq_eq_false_iff_ne.mpr z).symm
   rw[eI];show SeqAt.EqAt X.A.in1 s (Value.int m t1) (Value.int n gC) (decide (∃i t,x.2.2=Value.int i t/\aS ha x.1=↥i))
   rwa[show decide (∃i t,x.2.2=Value.int i t/\aS ha x.1=↥i)=decide (∃i t,Value.int m t1=Value.int i t/\↥n=↥i) by rw[eI,aJ],ot]
section
variable {X:Cx}(bZ:X.A.units+64+1<cLine)
include bZ
theorem TV:d7 X (compareOp .NotEq) (zwf true):=by
 intro pins s J H x y v u Q I bf bp h;obtain⟨a,b,lp,ha,rfl,rfl,a0,eb,fz,f7,q⟩:=h;cases bf;cases bp;obtain⟨_,aN,hs,ki,rQ⟩:=q5 I.a6 a0;obtain⟨_,ae,h6,kT,db⟩:=q5 I.a6 eb;obtain⟨f,f1,f2⟩:=TU I bZ ki kT db fz f7;refine wpAny_richCompare_same_room (op:=.NotEq) rQ.typeIs db.typeIs PySem.F.slot_dict_ne (wpAny_call_entry PySem.F.slot_dict_ne rQ.typeIs PySem.F.entry_dict_ne ?_ (PySem.F.args_dict_ne_2 _ _)) ⋯;show wpAny _ _ (Builtin.Dict.dictSlotArgs "__ne__" ⟨[.ref a,.ref b],[]⟩>>=_) _ _ s
 unfold Builtin.Dict.dictSlotArgs;refine ax (ax (wpAny_notOrdered_dict rQ.typeIs (show wpAny _ _ (pure (Value.ref a,Value.ref b)) _ _ s from bw (ax (wpAny_isInstance (T:="dict") db.typeIs PySem.F.sub_dict_dict ?_)))));simp only[Bool.not_true,false_eq_true,if_false];refine ax (bw (ax (bw (ax (TS f aN ae (tupleKind_room_in1 ⋯) rQ db f2 (bw ⟨_,rfl,λx=>(nomatch x),?_⟩))))));refine ej I (q (decide (hs.length=h6.length)&&hs.all f) ?_) (by cases (decide (hs.length=h6.length)&&hs.all f)<;>rfl);rw[and_eq_true,f1,decide_eq_true_iff,<- Paired.length ki,<- Paired.length kT];exact Iff.rfl
end
def GZ (t:TE):TE:=λJ H Q=>∃a kvs,H a∣.bc kvs/\t J H λv H'=>(∃o,H' a∣.cc o (.bc kvs))/\Q v (upd H' a (.bc kvs))
theorem TX {t:TE}(h:PE X e t):PE X e (GZ t):=by
 intro pins s J H Q I ⟨a,kvs,a4,q⟩;refine bz (h pins s J H _ I q) λu s' ⟨v,H',dt,cf,⟨o,z⟩,d⟩=>⟨v,_,dt.pU z (λo w y=>?_),cf,d⟩;have:=I.base.fE a o w y
 rw[a4]at this;cases this
theorem TY {o:Obj}(Pv:Nat->List V->ah->Prop) (h0:Pv 0 [] H) (aD:∀i aF H,i<=kvs.length->Pv i aF H->H a∣.cc o (.bc kvs))
  (aI:∀i k v b aF H,kvs[i]?∣(k,v)->H b∣.tup (k.map bq)->Pv i aF H->tt (some (.ref b)::cs) H λr bP=>if r=true then bM (some (.ref b)::cs) bP λy ck=>aF.length<=sizeLine/\Pv (i+1) (aF++[y]) ck else Pv (i+1) aF bP)
  (hd:∀aF H,Pv kvs.length aF H->aF.length<=sizeLine/\F aF H):∃W:Nat->Nat->List V->ah->Prop,(∃m,W 0 m [] H)/\l0 (mW a o kvs) (hW 0) tt bM (none::cs) W F:=by
 refine⟨λi m aF H=>m=kvs.length-i/\i<=kvs.length/\Pv i aF H,⟨_,rfl,zero_le _,h0⟩,λi m aF H ⟨hm,au,p⟩=>?_⟩;subst hm;by_cases cF:i<kvs.length
 ·refine .inr ⟨⟨aD i aF H au p,cF⟩,Pv (i+1),λiw H' h=>⟨kvs.length-(i+1),⋯,rfl,cF,h⟩,λy H' sX=>?_⟩;obtain⟨e,b,k,v,ar,aw,bV⟩:=sX;subst e ar;exact⟨v3,aI i k v b aF _ aw bV p⟩
 ·obtain rfl:i=kvs.length:=⋯;exact .inl ⟨⟨aD _ aF H (wa8 _) p,wa8 _⟩,(hd aF H p).1,(hd aF H p).2⟩
section
variable {prog:Program}{w:World}{A:Around}{E:wvP}{s:Shared}
open AutoSeq1 (wpAny_loadPart') in
theorem TZ {I l:Addr}(bN:A.handled=none) (hit:s.heap.IsRevIter I l ((items.size:Int)-1)) (aD:s.heap.IsList l items) (jT:l≠I) (hn:items.size<=sizeLine)
  (ec:∀s' acc,Moved [I] (λa b=>b=a) s s'->ItemsOf (λi v=>items[items.size-1-i]?∣v) acc items.size->Q (.ref ↑s') { s' with heap:=s'.heap.push { cls:=.type "tuple",data:=.seq acc } }):wpAny (model prog w) A (call (.type "tuple") [.ref I]) Q E s:=by
 refine callType_codes (Q₁:=λobj d6=>d6.TypeIs obj "tuple"/\Q obj d6) F.called_tuple (F.typeCall_tuple_1 _) F.entry_object_init (codeAny_of_tree ?_) λobj d6 fC=>⟨fC.1,F.args_object_init_2 obj _,object_init_meets F.called_tuple.init.lookup F.called_tuple.made ∅ prog w A.in1 _ d6 ⟨fC.1,rfl,fC.2⟩⟩;show wpAny _ A.in1.in1 (do checkBuiltinCall "tuple.__new__" ⟨[.type "tuple",.ref I],[]⟩;again (.builtin "tuple.__new__" ⟨[.type "tuple",.ref I],[]⟩)) _ _ s
 refine ax (wpAny_of_eq (F.newCall_tuple_1 _) (bw ⟨plainId_quiet F.plain_tuple_new _,codeAny_builtin F.entry_tuple_new ?_⟩));rw[Around.under_plainId F.plain_tuple_new _];have SI:=sub_tuple_self
 have aey:=init_tuple_lookup
 have aez:=madeHere_tuple
 have T1:=hit.typeIs
 wp_walk using wpAny_typeOf T1,PY (A:=A.in1.in1) (show A.in1.in1.handled=none from bN) hit aD jT hn
 intro s' acc hm kU;show wpAny _ _ (Builtin.Tuple.tupleExact acc.toList.toArray>>=λv=>ret v) _ _ _
 unfold Builtin.Tuple.tupleExact;refine ax (wpAny_newObj_type (bw ?_) (by show acc.toList.toArray.size<=sizeLine;simp only[Array.toArray_toList];rwa[kU.1]));rw[show acc.toList.toArray=acc by simp];exact⟨⟨_,get?_push_size _ rfl,rfl⟩,ec s' acc hm kU⟩
end
section
variable {X:Cx}
def G0 (K:Frag)(bM:TE):TE:=λJ H Q=>bM J H λy H1=>∃l xs,y=.ref l/\aK K H1 l xs/\∀p,H1 p=none->Q (.ref p) (upd H1 p (.tup xs.reverse))
theorem T2 {np p1 qe:Pos}(ak:X.calm=true) (bD:ft X "reversed") (hm:X.mg "reversed"=none) (tQ:ft X "tuple") (T3:X.mg "tuple"=none) (he:PE X e bM)
  (aI:autoParam (starEach [.Call (.Name "reversed" np) [e] [] p1] X.env=[(false,eval (.Call (.Name "reversed" np) [e] [] p1) X.env)]) dA._auto_1) (t4:autoParam (starEach [e] X.env=[(false,eval e X.env)]) dA._auto_1):
  PE X (.Call (.Name "tuple" qe) [.Call (.Name "reversed" np) [e] [] p1] [] pos) (G0 X.K bM):=by
 intro pins s J H Q I h;refine Call_ (kG I tQ T3 PyProof.Rows.Boot.«tuple» (PyProof.Rows.callWith_type1 ?_ aI rfl));rw[aI];refine Calls.spliced_cons (Call_ (kG I bD hm PyProof.Rows.Boot.«reversed» (PyProof.Rows.callWith_type1 ?_ t4 rfl)));rw[t4];refine Calls.spliced_cons (bz (he pins s J H _ I h) λzh s2 ⟨y,aE,bu,bp,bK⟩=>Calls.spliced_nil ?_);obtain⟨l,xs,rfl,ao,q⟩:=bK;cases bp;obtain⟨aU,cf,pl,hz⟩:=bu.list ao;obtain⟨o,kF,_⟩:=id pl.isList;refine call_reversed_list pl.isList (Calls.spliced_nil ?_);have mh:aU.toArray.size<=sizeLine:=by rwa[size_toArray,<- cf.length]
 refine TZ (bu.ok.hd ak) ⟨_,get?_push_size _ rfl,rfl,rfl⟩ (pl.isList.at λo e=>get?_push_of_some _ e) (ne_of_lt (lt_size kF)) mh λs' acc T4 kU=>?_;obtain⟨hsz,T5⟩:=P2 kU;have a0:acc.toList=aU.reverse:=by
  refine List.ext_getElem? λj=>?_;rw[Array.getElem?_toList];by_cases aZ:j<aU.length
  ·cases e:acc[j]? with
   | none=>exact br (Array.getElem?_eq_none_iff.mp e) (by rw[hsz,size_toArray];omega)
   | some v=>
    have:=T5 j v e
    rw[List.getElem?_reverse aZ];simpa using this.symm
  ·rw[Array.getElem?_eq_none (by rw[hsz,size_toArray];omega),List.getElem?_eq_none (by rw[length_reverse];omega)]
 obtain⟨T6,mg,T7,mo,mt⟩:=T4;obtain⟨bN,T8,dd,tt,f3⟩:=s';obtain rfl:f3=s2.os:=mo;obtain rfl:T8=s2.gens:=mg;obtain rfl:dd=s2.drawn:=T7;have up:∀b ob,s2.heap.get? b∣ob->bN.get? b∣ob:=λb ob e=>T6 b ob (λz=>by
  have cF:=lt_size e
  rw[mem_singleton.mp z]at cF;exact wa7 _ cF) (get?_push_of_some _ e)
 have cW:Inv X pins J aE { s2 with heap:=bN,toks:=tt }:=bu.kept up
 exact⟨.ref bN.objs.size,_,cW.laid (o:=.tup xs.reverse) (t':=tt) (λb u e=>get?_push_of_some _ e) (wa8 _) ⟨by rwa[length_reverse],aU.reverse,cf.reverse,⟨_,get?_push_size _ rfl,rfl,0,by rw[<- a0]⟩⟩,rfl,q _ (cW.a6.fresh (wa8 _))⟩
theorem T9 {l:Addr}{Q:Option Value->Shared->Prop}(bN:gL A s.heap) (hit:s.heap.IsRevIter it l (-1)) (ec:∀h',Heap.ExtBut it s.heap h'->Q none { s with heap:=h' }):wpAny (model prog w) A (pyNext (.ref it)) Q E s:=by
 obtain⟨o,aA,ak,hd⟩:=id hit;unfold pyNext;refine ax (wpAny_attempt (wpAny_callSpecial?_slot (name:=Str.ofString "__next__") hit.typeIs F.slot_lri_next (wpAny_call_entry F.slot_lri_next hit.typeIs F.entry_lri_next ?_ (F.args_lri_next_1 _))));unfold Builtin.«list_reverseiterator.__next__»;refine ax (wpAny_of_eq (a:=(Value.ref it,[])) rfl (ax (wpAny_field aA hd (x:=rawInt (-1)) rfl ?_)));show wpAny _ _ (if (-1:Int)<0 then _ else _) _ _ s
 rw[aM ∅];refine ax (wpAny_rule ?_);refine ax ?_;refine ut bN λh' e k1 k2=>?_;exact nN k2 (ec h' λb o _ z=>k1 b o z)
def t5 (K:Frag)(a:Addr)(n:Nat):gZ:=
 ⟨λi H=>i<n/\∃xs,aK K H a xs/\xs.length=n,λi H x H'=>H'=H/\∀xs,aK K H a xs->xs[n-1-i]?∣x,λi H=>i=n⟩
theorem Ua (a it:Addr) (n:Nat):Turn P w K cS (t5 K a n) [it] it (λi h=>h.IsRevIter it a ((n:Int)-1-(i:Nat))) where
 mem:=mem_singleton.mpr rfl
 obj:=λi h st b ae=>by
  obtain rfl:=mem_singleton.mp ae;obtain⟨o,e,c,d⟩:=st;exact⟨o,e,λv z=>by rw[d]at z;cases z⟩
 keep:=λi h h' st k=>st.at λo e=>k it (mem_singleton.mpr rfl) o e
 item:=by
  intro X df hw c9 ak i pins s J H E I hf st ⟨au,xs,ao,hn⟩;subst df hw c9 hn;obtain⟨aU,cf,p,hz⟩:=I.list ao;have aq:xs[xs.length-1-i]?∣(xs[xs.length-1-i]'⋯):=getElem?_eq_getElem ⋯
  obtain⟨u,bZ,gh⟩:=cf.get aq;obtain⟨f0,f1,f2,eB,f4,eC⟩:=hf it (mem_singleton.mpr rfl);rw[show(xs.length:Int)-1-(i:Nat)=((xs.length-1-i:Nat):Int) by omega]at st;refine wpAny_pyNext_rev_item st p.isList (x:=u) (by simpa using bZ) λh' fu jL=>?_;have aO:Inv X pins J H { s with heap:=h' }:=I.turned (t':=s.toks) (λb o ae e=>(jL.2 b ae).trans e) f0 f1 eB f4 eC
  obtain⟨o,e,c,d⟩:=id fu;rw[show((xs.length-1-i:Nat):Int)-1=(xs.length:Int)-1-((i+1:Nat):Int) by omega]at fu;exact⟨u,rfl,qY (s:={ s with heap:=h' }) e c d ∅ ⟨_,H,aO,gh,⟨rfl,λaF bg=>by rwa[I.DE bg ao]⟩,fu,λb ae=>(hf b ae).1⟩⟩
 done:=by
  intro X df hw c9 ak i pins s J H E I hf st au;subst df hw c9;obtain rfl:i=n:=au;obtain⟨f0,f1,f2,eB,f4,eC⟩:=hf it (mem_singleton.mpr rfl);rw[show(i:Int)-1-(i:Nat)=-1 by omega]at st;exact T9 (I.calm ak) st λh' eb=>⟨rfl,I.turned (t':=s.toks) (λb o ae e=>eb b o ae e) f0 f1 eB f4 eC⟩
 self:=λ_ _ _ _ _ st h=>wpAny_pyIter_revIter st h
def zut (K:Frag)(cX:TE):TI:=λJ H R=>cX J H λx H1=>∃a xs,x=.ref a/\aK K H1 a xs/\R (t5 K a xs.length) H1
theorem Ub {l:Expr}{np p1:Pos}(bD:ft X "reversed") (hm:X.mg "reversed"=none) (aD:PE X l cX) (t4:autoParam (starEach [l] X.env=[(false,eval l X.env)]) dA._auto_1):PI X cS (.Call (.Name "reversed" np) [l] [] p1) (zut X.K cX):=by
 intro pins s J H R I h;refine Call_ (kG I bD hm PyProof.Rows.Boot.«reversed» (PyProof.Rows.callWith_type1 ?_ t4 rfl));rw[t4];refine Calls.spliced_cons (bz (aD pins s J H _ I h) λzh s2 ⟨y,aE,bu,bp,bK⟩=>Calls.spliced_nil ?_);obtain⟨a,xs,rfl,ao,q⟩:=bK;cases bp;obtain⟨aU,cf,pl,hz⟩:=bu.list ao;refine call_reversed_list pl.isList ?_;have hit:(s2.heap.push (revObj a ((aU.toArray.size:Int)-1))).IsRevIter ↑s2 a ((aU.toArray.size:Int)-1):=⟨_,get?_push_size _ rfl,rfl,rfl⟩
 refine wpAny_pyIter_revIter hit ?_;refine⟨↑s2,[↑s2],_,_,aE,rfl,bu.kept (t':=s2.toks) λb o e=>get?_push_of_some _ e,Ua a _ xs.length,?_,λb ae=>?_,q⟩
 ·rw[cf.length,show(aU.length:Int)-1-((0:Nat):Int)=(aU.toArray.size:Int)-1 by rw[size_toArray];omega];exact hit
 ·obtain rfl:=mem_singleton.mp ae;exact bu.mH (wa8 _) (bu.a6.fresh (wa8 _))
theorem Uc {g:fi}(Pv:Nat->St->ah->Prop) (h0:Pv 0 J H) (aD:∀i J H,i<=xs.length->Pv i J H->aK K H a xs)
  (aI:∀i x J H (N:St->ah->Prop),i<xs.length->xs[xs.length-1-i]?∣x->Pv i J H->(∀a7 H',Pv (i+1) a7 H'->N a7 H')->g x J H λdu aE=>bj { D with aP:=N,bW:=N,b3:=D.aP } du aE) (hd:∀J H,Pv xs.length J H->D.aP J H):
  ∃W:Nat->Nat->St->ah->Prop,(∃m,W 0 m J H)/\∀i m J H,W i m J H->
   ((t5 K a xs.length).stop i H/\D.aP J H)\/((t5 K a xs.length).go i H/\∃N:St->ah->Prop,(∀a7 H',N a7 H'->∃ba,ba<m/\W (i+1) ba a7 H')/\∀x H',(t5 K a xs.length).gy i H x H'->g x J H' λdu aE=>bj { D with aP:=N,bW:=N,b3:=D.aP } du aE):=by
 refine⟨λi m J H=>i<=xs.length/\m=xs.length-i/\Pv i J H,⟨_,zero_le _,rfl,h0⟩,λi m J H ⟨au,hm,p⟩=>?_⟩;by_cases e:i=xs.length
 ·subst e;exact .inl ⟨rfl,hd J H p⟩
 ·refine .inr ⟨⟨⋯,xs,aD i J H au p,rfl⟩,Pv (i+1),λa7 H' q=>⟨xs.length-(i+1),⋯,⋯,rfl,q⟩,λx H' ⟨ar,aw⟩=>?_⟩;subst ar;exact aI i x J H' _ ⋯ (aw xs (aD i J H' au p)) p λ_ _ z=>z
end
section
variable {prog:Program}{w:World}{A:Around}{E:wvP}{h:Heap}{g:Array GenState}{d:Drawn}{t:Nat}{os:OsState}
variable {nm q:Str}{C N:Addr}{bs bm wW:List Value}{hdct:Bool}{sn:List Str}{sub:List Value}{ab:Bool}{col:Option Bool}{dd:Option Addr}{k0 k1 k2 k3 k5:Option Value}{B newId G1:String}
theorem Ud (F:ExcBaseFacts B newId G1 wW)(T:OwnTail h wW bm){rest:List Value}{qf:Addr}{l3:Obj}{Q:PySem.Fin->Shared->Prop}
  (gR:h.get? C∣excClassObj nm q C N bs bm hdct sn sub ab col dd k0 k1 k2 k3 k5 newId) (hn:h.Ns N mN) (au:mN "__init__"∣.ref qf) (qg:h.get? qf∣l3) (AA:l3.cls=.type "function") (hz:rest.length<=sizeLine)
  (ao:∀h' e,h.objs.size<=e->Heap.MadeExcOf h h' e (.ref C) rest->wpAny (model prog w) A (call (.ref qf) (.ref e::rest)) (λr s'=>r=.none/\Q (.done (.ret (.ref e))) s') E ⟨h',g,d,t,os⟩):
  wpAny (model prog w) A (Builtin.«type.__call__» ⟨.ref C::rest,[]⟩) Q E ⟨h,g,d,t,os⟩:=by
 repeat (first|with_reducible refine wpAny_loadPart_at gR ?_|with_reducible refine wpAny_madeBy_exc gR ?_|wp_step)
 refine codeAny_call_builtin_code (Code.quiet_builtin _ F.quiet) (wpAny_check_new_subT F T gR (codeAny_exc_new_subT F T gR ?_ hz));show wpAny _ _ _ _ _ _
 have up:∀b o,h.get? b∣o->((h.push { cls:=.type "tuple",data:=.seq rest.toArray }).push { cls:=.ref C,data:=.fields #[.ref h.objs.size,.none,.none,.none,.bool false,.none] }).get? b∣o:=λb o e=>get?_push_of_some _ (get?_push_of_some _ e)
 have G2:=up _ _ gR
 have Ue:=up _ _ qg
 have wX:=hn.keeps up
 have iE:=T.keeps up
 have ce:((h.push { cls:=.type "tuple",data:=.seq rest.toArray }).push { cls:=.ref C,data:=.fields #[.ref h.objs.size,.none,.none,.none,.bool false,.none] }).get? (h.objs.size+1)=some { cls:=.ref C,data:=.fields #[.ref h.objs.size,.none,.none,.none,.bool false,.none] }:=by heap_get
 have Ug:(Value.ref C::bm).contains (.ref C)=true:=by simp
 unfold isInstance;repeat (first|with_reducible refine wpAny_loadPart_at ce ?_|(with_reducible refine wpAny_isSubtype_exc G2 ?_;rw[Ug])|wp_step)
 show wpAny _ _ (typeLookup (.ref C) _) _ _ _
 refine wpAny_typeLookup_tail G2 wX iE F.mroIs F.init.lookup ?_;rw[au];refine wpAny_holding (ax ?_);unfold bindSpecial;refine ax (wpAny_typeOf (T:="function") ⟨_,Ue,AA⟩ ?_);rw[aM ∅];refine bw (ax (wpAny_mono (ao _ (h.objs.size+1) (le_succ _) ⟨up,Heap.get?_none_of_le (le_succ _),h.objs.size,ce,Heap.get?_none_of_le (wa8 _),get?_push_of_some _ (Heap.get?_push_at rfl rfl)⟩) (λr s' a5=>?_) λ_ _ x=>x));obtain⟨rfl,ec⟩:=a5;wp_walk
 exact ec
theorem Uh (F:ExcBaseFacts B newId G1 wW)(T:OwnTail h wW bm){rest:List Value}{qf:Addr}{l3:Obj}
  (gR:h.get? C∣excClassObj nm q C N bs bm hdct sn sub ab col dd k0 k1 k2 k3 k5 newId) (hn:h.Ns N mN) (au:mN "__init__"∣.ref qf) (qg:h.get? qf∣l3) (AA:l3.cls=.type "function") (hz:rest.length<=sizeLine)
  (ao:∀h' e,h.objs.size<=e->Heap.MadeExcOf h h' e (.ref C) rest->wpAny (model prog w) (A.under (.builtin "type.__call__" ⟨.ref C::rest,[]⟩)) (call (.ref qf) (.ref e::rest)) (λr s'=>r=.none/\Q (.ref e) s') E ⟨h',g,d,t,os⟩):
  wpAny (model prog w) A (call (.ref C) rest) Q E ⟨h,g,d,t,os⟩:=by
 have f1:=tc_lookup
 have f2:=tc_bind (.ref C)
 have Fs:(⟨h,g,d,t,os⟩:Shared).TypeIs (.ref C) "type":=⟨_,gR,rfl⟩
 refine wpAny_call (codeAny_of_tree ?_);show wpAny _ _ (callAny (.ref C) _) _ _ _
 repeat (any_goals (first|assumption|with_reducible refine wpAny_loadPart_at gR ?_|wp_step))
 exact⟨rfl,codeAny_call_builtin_at (Code.quiet_builtin _ ∅) entry_typeCall (wpAny_check_type_call_sub gR (Ud F T gR hn au qg AA hz λh' e he hm=>ao h' e he hm))⟩
end
section
open PySem.W
variable {prog:Program}{w:World}{A:Around}{E:wvP}{s:Shared}{K:Frag}{x C:Addr}
def AB:Value->Bool
 | .ref _=>true
 | _=>false
def qh (l:List Value):Bool:=l.dropWhile AB==ri
theorem Ui (self:Value):refuseLoop self "__setattr__" ri=pure ():=by kernel_rfl
theorem G3 {P:List Value->Prop}(h0:P ri) (aa:∀c r,P r->P (.ref c::r)):∀{l:List Value},qh l=true->P l:=by
 intro l;induction l with
 | nil=>intro e;cases e
 | cons v r bE=>
  intro e;by_cases aJ:AB v=true
  ·cases v with
   | ref c=>exact aa c r (bE e)
   | _=>cases aJ
  ·have z:(v::r).dropWhile AB=ri:=beq_iff_eq.mp e
   rw[List.dropWhile_cons_of_neg aJ]at z;rwa[z]
theorem Uj (self:Value):∀{l:List Value},qh l=true->refuseLoop self "__setattr__" l=pure ():=G3 (P:=λl=>refuseLoop self "__setattr__" l=pure ()) (Ui self) λc r h=>by rwa[refuseLoop_ref]
theorem Uk:∀{l:List Value},qh l=true->l.contains (.type "object")=true:=G3 (P:=λl=>l.contains (.type "object")=true) rfl λc r h=>by rw[List.contains_cons,h,Bool.or_true]
theorem Ul {v:Value}{Q:Unit->Shared->Prop}{aT:Array Value} (X:K.In s.heap) (I:InstAt s.heap x ⟨.ref C,none,.fields aT,aL⟩ C none) (aI:findIn K (.ref C) "__setattr__"∣some (.builtin "object.__setattr__")) (aG:(clsIn K C).any (λcd=>qh cd.mro)=true) (bC:findIn K (.ref C) name∣none) (bN:(clsIn K C).any (·.hasDict)=true)
  (h:∀h' tk,h'.get? x∣⟨.ref C,some ↑s,.fields aT,aL⟩->h'.Ns1 ↑s (λy=>if y=name then some v else none)->(∀b o,b≠x->s.heap.get? b∣o->h'.get? b∣o)->Q () { s with heap:=h',toks:=tk }):
  wpAny (model prog w) A (setAttr (.ref x) name v) Q E s:=by
 refine set_plain X I aI ?_;have t6:=PySem.F.store_object
 obtain⟨cd,ak,aA⟩:=any_some aG;obtain⟨Um,hT,Un⟩:=any_some bN;obtain rfl:cd=Um:=wa5 (ak.symm.trans hT);have ne:cd.mro.isEmpty=false:=by cases q:cd.mro with|nil=>rw[q]at aA;cases aA|cons _ _=>rfl
 have s1:Looks (model prog w) s.heap (isInstance (.ref x) (.type "object")) true:=I.type.andThen (looks_mroIn X (by unfold mroIn;rw[ak,Option.bind_some,aB (by rw[ne];decide),Uk aA]))
 refine codeAny_call_builtin t6.slot.plain t6.entry (@check_slot (model prog w) _ _ { s with toks:=s.toks+1 } "object.__setattr__" "object" "__setattr__" (.ref x) [.str name s.toks,v] [] _ t6.kind t6.split s1 (t6.args (.ref x) (.str name s.toks) v) ?_);have hm:Looks (model prog w) s.heap (mroOf (.ref C)) cd.mro:=(looks_clsIn X ak).andThen .now
 rw[osa_eq,refuse_eq];refine ax (ax (I.type.here (s:={ s with toks:=s.toks+1 }) (ax (hm.here (s:={ s with toks:=s.toks+1 }) ?_))));rw[Uj _ aA];refine bw (ax (I.type.here (s:={ s with toks:=s.toks+1 }) (ax ((looks_findIn X bC).here (s:={ s with toks:=s.toks+1 }) (ax (bw ?_))))));obtain⟨aq,eD,wy,_⟩:=id I;have G4:x≠↑s:=ne_of_lt (lt_size aq)
 refine ax (bw (ax (ax (wpAny_loadPart aq (ax ((looks_clsIn X ak).here (s:={ s with toks:=s.toks+1 }) ?_))))));rw[Un];have G5:(s.heap.push { cls:=.type "dict",data:=.dict #[] }).get? x∣⟨.ref C,none,.fields aT,aL⟩:=get?_push_of_some _ aq
 refine ax (m:=alloc { cls:=.type "dict",data:=.dict #[] }) (wpAny_alloc (ax (wpAny_update G5 (bw ?_))));have FX:((s.heap.push { cls:=.type "dict",data:=.dict #[] }).update x λo=>{ cls:=o.cls,dict:=some ↑s,data:=o.data,slots:=o.slots }).get? ↑s=some { cls:=.type "dict",data:=.dict #[] }:=(Heap.get?_update_ne _ _ _ _ G4.symm).trans (Heap.get?_push_at rfl rfl)
 have nd:((s.heap.push { cls:=.type "dict",data:=.dict #[] }).update x λo=>{ cls:=o.cls,dict:=some ↑s,data:=o.data,slots:=o.slots }).Ns ↑s (λ_=>none):=⟨_,#[],_,FX,rfl,λe he=>br he (by simp),λ_=>rfl⟩
 show wpAny _ _ (Builtin.ObjectAttr.storeInDict ↑s (.str name s.toks) name v) _ _ _
 unfold Builtin.ObjectAttr.storeInDict Builtin.ObjectAttr.newKeyGuard;refine ax (bw (ax (wpAny_nsSet1 (Heap.Ns1.of_empty nd) λh' di ct=>?_)));obtain⟨NU,NV,NW,cL,cD,qi⟩:=di.count (Within.cons name v Within.nil);refine ax (wpAny_lookBehind cL (by rw[cD];exact pastItsLine_dict (wa0 qi (by rw[length_cons,length_nil,sizeLine_eq];omega))) ?_);refine bw (h h' _ ((ct.2 x G4).trans (get?_update_self _ G5 rfl)) di λb o Uo e=>?_);exact(ct.2 b (ne_of_lt (lt_size e))).trans ((Heap.get?_update_ne _ _ _ _ Uo).trans (get?_push_of_some _ e))
end
def j0 (x C:Addr)(d:Option Addr)(aT:Array Value)(aL:Array (Option Value)):Heap->Prop:=λh=>h.get? x∣⟨.ref C,d,.fields aT,aL⟩
theorem G6 {h:Heap}{x:Addr}{d:Option Addr}{aT:Array Value} (e:h.get? x∣⟨.ref C,d,.fields aT,aL⟩):de P w H h x (.ext (j0 x C d aT aL)):=
 ⟨e,⟨_,e⟩,λaa ag ar k=>k _ ar⟩
structure Up (K:Frag)(C:Addr):Prop where
 yD:findIn K (.ref C) "__setattr__"∣some (.builtin "object.__setattr__")
 mro:(clsIn K C).any (λcd=>qh cd.mro)=true
 dict:(clsIn K C).any (·.hasDict)=true
def zsi (K:Frag)(bB fv:TE)(f:Str):cV:=λD J H=>fv J H λv H1=>bB J H1 λx aE=>∃a C aT aL,x=.ref a/\aE a∣.ext (j0 a C none aT aL)/\Up K C/\findIn K (.ref C) f∣none/\
 ∀av,aE av=none->av≠a->D.aP J (upd (upd aE av (.nQ (dG f v []))) a (.ext (j0 a C (some av) aT aL)))
theorem Ur {o value:Expr}{f:Str}{bB fv:TE}(aN:PE X o bB) (aJ:PE X value fv) (aI:swapsWith value (some (.Attribute o f pos')) pos.line X.env=pure false):PS X (.Assign [.Attribute o f pos'] value pos) (zsi X.K bB fv f):=by
 intro pins s J H D I h;refine plainObj_wpAny_Assign_Attribute (bz (aJ pins s J H _ I h) λu s1 ⟨y,H1,aO,bp,q⟩=>bz (aN pins s1 J H1 _ aO q) λdK s2 bN=>oqq λgE uq=>?_) aI;obtain⟨x,aE,bu,bf,a,C,aT,aL,ex,a0,c,b5,bK⟩:=bN;refine uq ?_;subst ex;cases (show dK=Value.ref a from bf);obtain⟨ga,_,_⟩:=(show de X.prog X.w aE s2.heap a (.ext (j0 a C none aT aL)) from bu.a6 a _ a0);have ga:s2.heap.get? a∣⟨.ref C,none,.fields aT,aL⟩:=ga
 have Us:=lt_size ga
 have nd:aE ↑s2=none:=bu.a6.fresh (wa8 _)
 have Ut:↑s2≠a:=ne_of_gt Us
 refine Ul bu.d5 ⟨ga,rfl,rfl,trivial⟩ c.yD c.mro b5 c.dict λh' tk ar aw bV=>⟨J,_,?_,bK _ nd Ut⟩;have na:∀{b:Addr}{u:a3},aE b∣u->b≠↑s2:=λe=>cg e nd
 refine bu.step (g':=s2.gens) (d':=s2.drawn) (ch:=[]) nofun (λb o _ _ _ e n=>bV b o (λz=>by rw[z,a0]at n;cases n) e) (λb o _ _ _ e n=>⟨o.slots,bV b o (λz=>by rw[z,a0]at n;cases n) e⟩) (λb o _ e n=>?_) (λb o _ e=>?_) (λb xs e=>?_) (λb bQ u e=>?_) (λb ps e=>⟨#[],?_⟩) (λm hm=>?_) (λb u e=>?_) bu.bare
 ·rwa[zf (λz=>by rw[z,a0]at n;cases n),zf (ne_of_lt (lt_size e))]
 ·by_cases z:b=a
  ·rw[z];exact⟨_,ar⟩
  ·exact⟨o,bV b o z e⟩
 ·rwa[zf (cM e a0 (λz=>by cases z)),zf (na e)]
 ·rwa[zf (cM e a0 (λz=>by cases z)),zf (na e)]
 ·rw[zf (cM e a0 (λz=>by cases z)),zf (na e),e];simp
 ·obtain⟨o,es,cC,aA,r⟩:=hm;exact⟨o,es,cC,bV _ o (λz=>by have:=bu.free;rw[z,a0]at this;cases this) aA,r⟩
 ·by_cases z:b=a
  ·subst z;rw[aH]at e;cases e;exact G6 ar
  ·rw[zf z]at e;by_cases eP:b=↑s2
   ·subst eP;rw[aH]at e;cases e;refine⟨_,aw,λg=>?_⟩;rw[zm];by_cases wY:g=f
    ·rwa[aM wY,aM wY]
    ·rw[aB wY,aB wY];trivial
   ·rw[zf eP]at e;refine(bu.a6 b u e).gX (λc v ak q=>bV c v (λy=>?_) q) (λc q=>?_) λc xs q=>?_
    ·rcases ak with kr|kr
     ·exact z (kr.symm.trans y)
     ·rw[y,a0]at kr;cases kr
    ·rwa[zf (cM q a0 (λz=>by cases z)),zf (na q)]
    ·rwa[zf (cM q a0 (λz=>by cases z)),zf (na q)]
def del (H:ah)(a:Addr):ah:=λb=>if b=a then none else H b
theorem mj {b:Addr}(h:b≠a):del H a b=H b:=aB h
theorem wZ:del H a a=none:=aM rfl
theorem Uu {b:Addr}{o:a3}(h:del H a b∣o):b≠a/\H b∣o:=by
 by_cases e:b=a
 ·rw[e,wZ]at h;cases h
 ·rw[mj e]at h;exact⟨e,h⟩
theorem Uv {h:Heap}{mD:Heap->Prop}(ok:dV P w H h) (a0:H a∣.ext mD):dV P w (del H a) h:=λb u e=>by
 obtain⟨ne,e⟩:=Uu e;exact(ok b u e).gX (λ_ _ _ q=>q) (λc q=>by rwa[mj (λz=>by rw[z,a0]at q;cases q)]) λc xs q=>by rwa[mj (λz=>by rw[z,a0]at q;cases q)]
structure G7 (X:Cx)(gq:jU):Prop where
 raise:∀(pins:List (Addr×Obj))(J:St)(H:ah)(s:Shared)(e C av:Addr)(aT:Array Value)(aL:Array (Option Value)),Inv X pins J H s->H e∣.ext (j0 e C (some av) aT aL)->aT[1]?∣Value.none->aT[2]?∣Value.none->X.bS.heap.get? e=none->
  gq J (.ref C) (some av) (del H e)->X.cQ (.ref e) s
section
variable {P:Program}{w:World}{K:Frag}{mg:Str->Option Value}{base:Heap}{N:List Str}{qual:Str}{scope:Scope}{f:Addr}{cd:Value}{A:Around}{outer:List Env}{bS:Shared}{c5:ah}{E:bL}
theorem Uw:G7 (g6 (i7 P w) P w K mg base N qual scope f cd A outer bS c5 E) (λ_=>E) where
 raise:=λpins J H s e C av aT aL I a0 f1 f2 new ix=>by
  have hst:(g6 (i7 P w) P w K mg base N qual scope f cd A outer bS c5 E).stack=envOfC qual scope ↑bS f cd::outer:=rfl
  have tc:=I.vf
  have oi:=I.stack
  rw[hst]at tc oi;have he:s.heap.get? e∣⟨.ref C,some av,.fields aT,aL⟩:=(show de P w H s.heap e (.ext (j0 e C (some av) aT aL)) from I.a6 e _ a0).1
  have l5:∀b o,bS.heap.get? b∣o->b ∉ d4 outer->b ∉ e::d4 (envOfC qual scope ↑bS f cd::outer):=λb o q n z=>by
   rcases mem_cons.mp z with z|z
   ·rw[z,show bS.heap.get? e=none from new]at q;cases q
   ·rcases mem_cons.mp (show b∈↑bS::d4 outer from z) with z|z
    ·exact br (lt_size q) (by rw[z];exact wa7 _)
    ·exact n z
  have hn:(hideAll s.heap (e::d4 (envOfC qual scope ↑bS f cd::outer))).get? e=none:=PySem.W.hideAll_none _ mem_cons_self
  have zG:s.heap.FunFrames (hideAll s.heap (e::d4 (envOfC qual scope ↑bS f cd::outer))) (envOfC qual scope ↑bS f cd::outer):=
   PySem.W.funFrames_hide oi λenv he a aN=>mem_cons_of_mem _ (mem_filterMap.mpr ⟨env,he,aN⟩)
  show wpAny (model P w) (A.deeper (envOfC qual scope ↑bS f cd)) (leaving (envOfC qual scope ↑bS f cd) (.ref e)) _ _ _
  refine Fj (s:=s) (B:=hideAll s.heap (e::d4 (envOfC qual scope ↑bS f cd::outer))) (env:=envOfC qual scope ↑bS f cd) (outer:=outer) (L:=↑bS) I.ok.frames rfl (λb o q=>PySem.W.of_hideAll _ q) hn zG he f2 f1 λag bJ up=>?_;refine⟨e,.ref C,some av,del H e,_,rfl,I.os,I.bare,bJ,Fn (Uv I.a6 a0) (λb ae=>?_),⟨λb o q n b5=>hideAll_get _ (I.base.keep b o q n b5 (λz=>nomatch z)) (l5 b o q b5),λb o q n=>?_,λb o q b5=>?_,λb xs q=>?_,λb o u q=>?_,λb ps q=>?_⟩,λb o ae q=>?_,ix⟩
  ·rcases mem_cons.mp ae with z|z
   ·rw[z];exact wZ
   ·by_cases y:b=e
    ·rw[y];exact wZ
    ·rw[mj y];exact tc b z
  ·by_cases y:b=e
   ·rw[y];exact wZ
   ·rw[mj y];exact I.base.free b o q n (λz=>nomatch z)
  ·obtain⟨bQ,q'⟩:=I.base.there b o q (λz=>nomatch z);exact⟨bQ,hideAll_get _ q' (l5 b o q b5)⟩
  ·have z:=I.base.cH b xs q
   rwa[mj (cM z a0 (λy=>by cases y))]
  ·have z:=I.base.fE b o u q
   rwa[mj (cM z a0 (λy=>by cases y))]
  ·obtain⟨more,z⟩:=I.base.hy b ps q;exact⟨more,by rwa[mj (cM z a0 (λy=>by cases y))]⟩
  ·obtain⟨_,bQ,q',b5⟩:=I.ok.gY.mem ae;obtain rfl:o=bQ:=wa5 ((show bS.heap.get? b=some o from q).symm.trans q');obtain⟨nM,z⟩:=I.base.slot b o q (I.ok.jI b ae) ae (λz=>nomatch z);exact up b { o with slots:=nM } z b5
end
section
open PySem.W
variable {M:Model}{A:Around}{E:wvP}{s:Shared}{env:Env}
variable {nm q:Str}{C N:Addr}{bs bm:List Value}{hdct:Bool}{sn:List Str}{sub:List Value}{ab:Bool}{col:Option Bool}{dd:Option Addr}{k0 k1 k2 k3 k5:Option Value}{newId:String}
theorem Ux {x:Sem Value}{Q:Flow->Shared->Prop}(ae:bm.contains (.type "BaseException")=true) (bN:A.handled=none)
  (h:wpAny M A x (λv d6=>∃e av t,v=.ref e/\d6.heap.get? C∣excClassObj nm q C N bs bm hdct sn sub ab col dd k0 k1 k2 k3 k5 newId/\d6.heap.get? e∣⟨.ref C,some av,.fields #[.ref t,.none,.none,.none,.bool false,.none],#[]⟩/\E (.ref e) d6) E s):
  wpAny M A (raiseStmt env (some x) none) Q E s:=by
 have Uy:(Value.ref C::bm).contains (.type "BaseException")=true:=by rw[List.contains_cons,ae,Bool.or_true]
 unfold raiseStmt;refine ax (wpAny_mono h (λv d6 fC=>?_) λ_ _ x=>x);obtain⟨e,av,t,rfl,gR,ce,ix⟩:=fC;obtain⟨aG,g,d,tk,os⟩:=d6;repeat (first|with_reducible refine wpAny_loadPart_at ce ?_|with_reducible refine wpAny_loadPart_at gR ?_|(with_reducible refine wpAny_isSubtype_exc gR ?_;rw[Uy])|wp_step)
 exact wpAny_raiseNew_none bN ix
def AD (K:Frag)(C f:Addr):Bool:=wb K C (some (.ref f))
end
section
open PySem.W
set_option tactic.hygienic true in
theorem Uz {h:Heap}{N:Addr}{m:Str->Option Value}{n:Str}{v:Value}(X:K.In h) (G:h.Ns N m) (e:nsIn K N n∣some v):m n∣v:=by
 obtain⟨o,es,cC,aA,hd,_,hf⟩:=G;unfold nsIn at e;split at e
 ·rename_i c d aeA dO aL lk;have z:=X _ _ lk
  rw[aA]at z;cases z;cases hd;split at e
  ·rename_i b8 zX;cases e;rw[<- hf];unfold nsFind findBy;rw[<- Array.find?_toList,zX];rfl
  ·split at e<;>cases e
 ·cases e
variable {X:Cx}{gq:jU}{k:Nat}{f C:Addr}{fd:FuncData}{ps:List Str}{sp:d0}{d1:List V}{ds:List Value}{x:Str}{pos:Pos}{e:Expr}{es:List Expr}{t:dz}
def G8 (gq:jU)(C:Addr)(sp:d0)(d1:List V)(t:dz):cV:=λD J H=>t J H λvs H1=>vs.length<=sizeLine/\∀a aT aL,H1 a=none->
 sp (.ref a::(vs++d1)) (upd H1 a (.ext (j0 a C none aT aL))) (λv aE=>v=.bx/\∃av,aE a∣.ext (j0 a C (some av) aT aL)/\gq J (.ref C) (some av) (del aE a)) fU
set_option tactic.hygienic true in
theorem UA {np dQ:Pos}(aq:G7 X gq) (ak:X.calm=true) (bD:ft X x) (hm:X.mg x∣.ref C) (er:AD X.K C f=true) (pg:isFn X.K (.ref f)=true) (F:fw X.prog X.w X.K X.mg X.base (i7 X.prog X.w) k f fd ps sp) (a5:da (k+1) X.A) (ae:Binds X.K fd ps ds) (hd:Vals d1 ds) (aN:PA X (e::es) t)
  (hdb:autoParam ((x==("__debug__":Str))=false) dB._auto_1) (he:autoParam (starEach (e::es) X.env=(false,eval e X.env)::starEach es X.env) dA._auto_1) (hpl:autoParam ((backTo dQ (starEach es X.env)).any (·.1)=false) dA._auto_1):
  PS X (.Raise (some (.Call (.Name x np) (e::es) [] dQ)) none pos) (G8 gq C sp d1 t):=by
 intro pins s J H D I h;obtain⟨dd,cd,k0,k1,k2,k3,k5,aA,bC,a6,zK⟩:=Fp er;have T:=tail_of_in I.ok.mod.ig bC
 have pl:(backTo dQ (starEach (e::es) X.env)).any (·.1)=false:=by rw[he];show(false||(backTo dQ (starEach es X.env)).any (·.1))=false;rw[hpl];rfl
 rw[arm_exec_Raise];refine ax (wpAny_standAt (Ux (C:=C) (nm:=cd.name) (q:=cd.qualname) (N:=cd.ns) (bs:=cd.bases) (bm:=cd.mro.tail) (hdct:=cd.hasDict) (sn:=cd.slotNames) (sub:=cd.subclasses) (ab:=cd.abstract) (col:=cd.collection) (dd:=dd) (k0:=k0) (k1:=k1) (k2:=k2) (k3:=k3) (k5:=k5) (newId:="ValueError.__new__") (T.hasType PySem.F.excBase_ValueError.hasBase) (I.ok.hd ak) ?_));refine ax (wpAny_mono (wpAny_Call_ofName (nV I bD hm ?_ hdb)) (λv iT q6=>ax (wpAny_standAt (bw q6))) λ_ _ x=>x);have aG:=aN dQ pins s J H _ I h
 rw[he]at aG;unfold callWith;rw[pl,he];refine ax (wpAny_holding (Calls.evalArgs_plain (wpAny_mono aG (λus s1 z=>ax (wpAny_standAt ?_)) λ_ _ z=>z)));obtain⟨vs,H1,aO,cf,hz,hw⟩:=z;have gR:s1.heap.get? C=_:=aO.d5 _ _ aA
 have hn:s1.heap.Ns cd.ns (X.base.nsMap cd.ns):=(Heap.Ns.of_isNs (isNs_of_in I.ok.mod.ig a6)).keeps aO.b3
 obtain⟨oB,g1,gg,t1,UB⟩:=s1;refine ax (wpAny_keeperOf_exc gR ?_);obtain⟨l3,UC,qg⟩:∃l3,X.K.lookup f∣l3/\l3.cls=.type "function":=map_eq_some_iff.mp (beq_iff_eq.mp pg);refine ax (m:=call (.ref C) us) (Uh PySem.F.excBase_ValueError (T.keeps aO.b3) gR hn (Uz I.ok.mod.ig (Heap.Ns.of_isNs (isNs_of_in I.ok.mod.ig a6)) zK) (aO.d5 _ _ UC) qg (by rwa[<- cf.length]) λh' a0 hle mk=>?_);obtain⟨tt,UD,_,_⟩:=mk.there;have UE:H1 a0=none:=aO.a6.fresh hle
 have bu:Inv X pins J (upd H1 a0 (.ext (j0 a0 C none #[.ref tt,.none,.none,.none,.bool false,.none] #[]))) ⟨h',g1,gg,t1,UB⟩:=aO.laid (t':=t1) (λb u e=>mk.keeps b u e) hle (G6 UD)
 have ao:=hw a0 #[.ref tt,.none,.none,.none,.bool false,.none] #[] UE
 have cB:Vals (V.ref a0::(vs++d1)) (Value.ref a0::(us++ds)):=.cons rfl (cf.append hd)
 have aD:(Value.ref a0::us++ds).length=ps.length:=by
  have e:=cB.length
  rw[F.len _ _ _ _ ao]at e;exact e.symm
 refine wpAny_call (codeAny_mono (F.run _ X.stack _ _ ⟨Value.ref a0::us,[]⟩ (Value.ref a0::(us++ds)) _ _ fU (a5.make C us []) (bu.sL.make C us []) (ae _ (Value.ref a0::us) bu.d5 aD) cB ao) λr s' eS=>?_);cases r with
 | error e=>
  obtain⟨_,_,_,_,_,_,_,_,_,_,_,_,z⟩:=eS;exact z.elim
 | ok bJ=>cases bJ with
  | ret u=>
   obtain⟨v,H',cW,UG,ev,av,G9,UH⟩:=bu.after eS;subst ev;refine⟨UG,ax (wpAny_holding (wpAny_point (bw ⟨a0,av,tt,rfl,cW.d5 _ _ aA,(show de X.prog X.w H' s'.heap a0 _ from cW.a6 a0 _ G9).1,?_⟩)))⟩;exact aq.raise pins J H' s' a0 C av _ _ cW G9 rfl rfl (Heap.get?_none_of_le (wa0 aO.jk hle)) UH
  | next=>exact eS.elim
  | brk=>exact eS.elim
  | cont=>exact eS.elim
end
section
open PySem.W
variable {X:Cx}{a0 C d:Addr}{ob:Obj}
end
def AE (K:Frag):fT:=λx y H Q=>∃(r p:Addr)(ts:List Addr)(d:Addr->PyData),x=.ref r/\y=.ref p/\aK K H p (ts.map V.ref)/\(∀t,t=r\/t∈ts->Den K H (.ref t) (d t)/\SeqAt.shaped (d t)=true)/\Q (.bl (ts.any λt=>(d t).eqv (d r))) H
theorem UI (bZ:X.A.units+64+1<cLine):d7 X (compareOp .In) (AE X.K):=by
 intro pins s J H x y v u Q I bf bp h;obtain⟨r,p,ts,d,rfl,rfl,ao,hd,q⟩:=h;cases bf;cases bp;obtain⟨aU,c1,pl,hz⟩:=I.list ao;obtain rfl:=Ao c1;refine SeqAt.in_listAt (λu=>match u with|.ref t=>(d t).eqv (d r)|_=>false) pl.isList (λw hw=>?_) ⟨.bl _,H,I,rfl,?_⟩
 ·obtain⟨t,bC,rfl⟩:=mem_map.mp (show w∈ts.map Value.ref by simpa using hw);obtain⟨aa,ag⟩:=hd t (.inr bC);obtain⟨g1,g2⟩:=hd r (.inl rfl);by_cases same:t=r
  ·subst same;rw[show(match (Value.ref t) with|.ref x=>(d x).eqv (d t)|_=>false)=true from l4 _ (SeqAt.canLay_of_shaped ag)];exact .same _
  ·refine .of_refs same λprog w E Q ao=>?_;obtain⟨as,ki⟩:=aa.reads I (u:=.ref t) rfl;obtain⟨bs,kT⟩:=g1.reads I (u:=.ref r) rfl;exact eq_dataH ki kT ag g2 (by show X.A.units+1+64<cLine;omega) ao
 ·rwa[show((ts.map Value.ref).toArray.any λu=>match u with|.ref t=>(d t).eqv (d r)|_=>false)=ts.any λt=>(d t).eqv (d r) by simp[Function.comp_def]]
theorem UJ (c9:X.K=K) (bZ:X.A.units+64+1<cLine):d7 X (compareOp .In) (AE K):=by subst c9;exact UI bZ
end L2
namespace L2
open PySem PySem.Spec PyProof.Rows PySem.W Hq
open PySem.SeqAt PySem.MeetsSeq
open PySem.AutoSeq1 (wpAny_loadPart')
end L2
namespace L2
open PySem PySem.Spec PyProof.Rows
theorem Ha {as:List α}{u g:α->V}(S:pM cq H (as.map u)) (p:α->Bool) (zo:∀x∈as,∀Q:Bool->ah->Prop,Q (p x) H->tt (some (u x)::cs) H Q)
  (zp:∀x∈as,p x=true->∀Q:bo,Q (g x) H->bM (some (u x)::cs) H Q) (hn:as.length<=sizeLine) (hl:F ((as.filter p).map g) H):∃W:Nat->Nat->List V->ah->Prop,(∃m,W 0 m [] H)/\l0 cq (hW 0) tt bM (none::cs) W F:=by
 refine⟨λi m aF H'=>m=as.length-i/\i<=as.length/\H'=H/\aF=((as.take i).filter p).map g,⟨as.length,by simp,zero_le _,rfl,by simp⟩,?_⟩;rintro i m aF H' ⟨rfl,au,rfl,rfl⟩;have hlen:(((as.take i).filter p).map g).length<=sizeLine:=by
  rw[length_map];refine wa0 (length_filter_le _ _) ?_;rw[length_take];omega
 by_cases cF:i<as.length
 ·refine .inr ⟨S.go i (by rwa[length_map]),λiw cO=>cO=H'/\iw=((as.take (i+1)).filter p).map g,λiw cO h=>⟨as.length-(i+1),⋯,rfl,cF,h.1,h.2⟩,λx cO y=>?_⟩;obtain⟨rfl,aq⟩:=S.gy i x cO (by rwa[length_map]) y;rw[getElem?_map]at aq;obtain⟨a,aN,rfl⟩:=map_eq_some_iff.mp aq;have pB:as.take (i+1)=as.take i++[a]:=by
   rw[take_add_one,aN];rfl
  refine⟨v3,zo a (mem_of_getElem? aN) _ ?_⟩;rw[pB,filter_append,map_append];cases aG:p a with
  | true=>
   rw[aM rfl];refine zp a (mem_of_getElem? aN) aG _ ⟨hlen,rfl,?_⟩;simp[aG]
  | false=>
   rw[aB ∅];refine⟨rfl,?_⟩;simp[aG]
 ·have e:i=as.length:=⋯
  subst e;have st:=S.stop
  rw[length_map]at st;refine .inl ⟨st,hlen,?_⟩;rwa[take_length]
end L2
variable {n least:Int}{e bA:PySem.Addr}{x y:Nat×Int}{u:L2.a3}{w:Nat}{s:PySem.Str}{op:Int->Int->Bool}{f:Nat->Int->Int->List (List L2.Key×Int)}{st:List Int}{es:List Bk.Ent}{bj:Array PySem.Value}{R:Int->Nat->Int->Int->List (List L2.Key×Int)}{p:List L2.Key×Int}{ps:List (List L2.Key×Int)}{rs:List (Nat×Int)}{b2:List (List L2.Key×L2.V)}{qy:PySem.FuncData}
namespace Pf
open PySem L2
abbrev q00:List Str:=["self","floor","cell","other"]
abbrev q01:List Str:=["_law_lines","_law_kind","_law_full","_law_ways_here","_law_number","_law_stops","_law_time","_law_layer"]
abbrev q02:List Str:=["_law_lines","_law_mover","_law_ways_here","_law_stops","_law_begin","_law_tiers_here","_law_nodes_here"]
abbrev q03:List Str:=["self","sign"]
abbrev q04:List Str:=["self","number"]
abbrev q05:List Str:=["self","cell"]
abbrev q06:List Str:=["_law_lines","_law_mover","_law_ways_here","_law_stops","_law_begin","_law_layer","_law_last"]
abbrev q07:List Str:=["_law_ways_here","_law_mover","_law_stops","_law_layer","_law_time","_law_least"]
abbrev q08:List Str:=["floor","carrier","book","number","begin","start","charge","stops","least"]
abbrev q09:List Str:=["_law_lines","_law_mover","_law_ways_here","_law_asked","_law_found"]
abbrev q10:List Str:=["_law_ways_here","_law_number","_law_cell","_law_other","_law_time"]
abbrev q11:List Str:=["_law_lines","_law_kind","_law_cell","_law_other"]
abbrev q12:List Str:=["self","floor","carrier","book","number","stops"]
abbrev q13:List Str:=["floor","carrier","book","number","begin","start","charge","stops","least","goal","free","there"]
abbrev q14:List Str:=["_law_lines","_law_kind","_law_full","_law_cell","_law_charge"]
abbrev q15:List Str:=["_law_lines","_law_cell"]
abbrev q16:List Str:=["_law_script","_law_k"]
abbrev q17:List Str:=["_law_ways_here","_law_number","_law_cell","_law_last"]
abbrev q18:List Str:=["_law_script","_law_first","_law_lines","_law_number"]
abbrev q19:List Str:=["_law_ways_here","_law_number"]
abbrev q20:List Str:=["spread","begin","layer","there"]
abbrev q21:List Str:=["self","number","time","end"]
abbrev q22:List Str:=["_law_kind","_law_sign_here"]
abbrev q23:List Str:=["self","time","layer","node","charge"]
abbrev q24:List Str:=["_law_stops","_law_many","_law_cell"]
abbrev q25:List Str:=["way","time"]
abbrev q26:List Str:=["_law_script"]
abbrev q27:List Str:=["self"]
abbrev q28:List Str:=["comings","cell","other"]
abbrev q29:List Str:=["stops","start","charge"]
abbrev q30:List Str:=["self","comings","node","charge"]
abbrev q31:List Str:=["self","moment","layer"]
abbrev q32:List Str:=["thing","least","most"]
abbrev q33:List Str:=["self","sign","charge"]
abbrev q34:List Str:=["spread","marks","time","node"]
abbrev q35:List Str:=["goal","free","least"]
abbrev q36:List Str:=["self","node","cell"]
abbrev q37:List Str:=["self","path","left"]
abbrev q38:List Str:=["_law_stops","_law_cells"]
abbrev q39:List Str:=["way","time","end"]
abbrev q40:List Str:=["_law_lines","_law_kind"]
abbrev q41:List Str:=["self","number","time"]
abbrev q42:List Str:=["self","number","cell"]
abbrev q43:List Str:=["_law_way","_law_time"]
abbrev q44:List Str:=["self","floor","cell"]
abbrev q45:List Str:=["self","number","way"]
abbrev q46:List Str:=["stops","many","cell"]
abbrev q47:List Str:=["self","time","layer"]
abbrev q48:List Str:=["one","other","time"]
abbrev q49:List Str:=["self","other"]
abbrev q50:List Str:=["self","lines"]
abbrev q51:List Str:=["line","wide"]
abbrev q52:List Str:=["self","full"]
abbrev q53:List Str:=["kind","full"]
abbrev q54:List Str:=["free","time"]
def top (i:Nat):Stmt:=PySem.Challenge.pw_floorways_k19_whole_found.main.body.getD i (.Pass ⟨0,0,0,0⟩)
abbrev AF:Stmt:=inClass (top 7) 0
abbrev AG:Stmt:=top 9
abbrev AH:Stmt:=top 10
abbrev w0:Stmt:=top 19
abbrev w1:Stmt:=top 20
abbrev AI:Stmt:=inClass (top 21) 0
abbrev AJ:Stmt:=inClass (top 21) 1
abbrev AK:Stmt:=inClass (top 21) 2
abbrev AL:Stmt:=inClass (top 21) 3
abbrev AM:Stmt:=inClass (top 21) 4
abbrev w2:Stmt:=inClass (top 21) 7
abbrev AN:Stmt:=inClass (top 26) 0
abbrev Hb:Stmt:=inClass (top 26) 1
abbrev AO:Stmt:=inClass (top 26) 2
abbrev AP:Stmt:=inClass (top 26) 3
abbrev AQ:Stmt:=inClass (top 26) 4
abbrev Hc:Stmt:=inClass (top 26) 5
abbrev rR:Stmt:=inClass (top 26) 6
abbrev AR:Stmt:=inClass (top 26) 7
abbrev AS:Stmt:=inClass (top 26) 8
abbrev Hd:Stmt:=inClass (top 27) 0
abbrev He:Stmt:=inClass (top 28) 0
abbrev AU:Stmt:=inClass (top 28) 1
abbrev AV:Stmt:=inClass (top 28) 2
abbrev AW:Stmt:=inClass (top 28) 3
abbrev Hf:Stmt:=inClass (top 29) 0
abbrev AX:Stmt:=inClass (top 29) 1
abbrev AY:Stmt:=inClass (top 29) 2
abbrev AZ:Stmt:=top 30
abbrev A0:Stmt:=top 32
abbrev A1:Stmt:=top 33
abbrev A2:Stmt:=top 34
abbrev w3:Stmt:=top 35
abbrev A3:Stmt:=top 36
abbrev w4:Stmt:=top 37
abbrev A4:Stmt:=inClass (top 39) 0
abbrev w5:Stmt:=inClass (top 39) 1
abbrev A5:Stmt:=inClass (top 39) 3
abbrev A6:Stmt:=inClass (top 39) 4
abbrev A7:Stmt:=inClass (top 39) 8
abbrev t7:Stmt:=inClass (top 39) 9
abbrev A8:Stmt:=inClass (top 39) 10
abbrev t8:Stmt:=inClass (top 39) 11
abbrev w6:Stmt:=inClass (top 39) 12
abbrev w7:Stmt:=inClass (top 39) 13
abbrev A9:Stmt:=top 40
abbrev w8:Stmt:=top 41
abbrev Ba:Stmt:=top 43
abbrev Bb:Stmt:=top 44
abbrev Bc:Stmt:=inClass (top 45) 0
abbrev Bd:Stmt:=inClass (top 45) 1
abbrev w9:Stmt:=inClass (top 45) 2
abbrev Be:Stmt:=inClass (top 45) 3
abbrev xa:Stmt:=inClass (top 45) 4
abbrev Bf:Stmt:=inClass (top 45) 5
abbrev Bg:Stmt:=inClass (top 47) 0
abbrev Bh:Stmt:=inClass (top 48) 0
abbrev nk:Stmt:=top 49
abbrev Bi:Stmt:=top 50
abbrev xb:Stmt:=top 51
abbrev t9:Stmt:=top 52
abbrev Bj:Stmt:=top 54
abbrev Bl:Stmt:=top 55
abbrev ua:Stmt:=top 56
abbrev Bm:Stmt:=top 57
abbrev Bn:Stmt:=top 58
abbrev Bo:Stmt:=top 59
abbrev Bp:Stmt:=top 60
abbrev Bq:Stmt:=top 61
abbrev Br:Stmt:=top 62
abbrev Bs:Stmt:=top 63
abbrev qj:Stmt:=top 64
abbrev xc:Stmt:=top 65
abbrev Bt:Stmt:=top 66
abbrev Bu:Stmt:=top 67
abbrev xd:Stmt:=top 68
abbrev xe:Stmt:=top 69
abbrev ub:Stmt:=top 70
abbrev Bv:Stmt:=top 71
abbrev Bw:Stmt:=top 72
abbrev xf:Stmt:=top 73
abbrev xg:Stmt:=top 74
abbrev qk:Stmt:=top 75
abbrev j1:Stmt:=(e0 nk).getD 2 (.Pass ⟨0,0,0,0⟩)
abbrev dJ:=Nat->Addr
structure uc where
 ai:dJ
 nq:Program
 nr:World
 az:Frag
 cj:Str->Option Value
 ql:Heap
 xh:Addr
 h7:Addr
abbrev cv (ad:uc):=jA ad.nq ad.nr ad.az ad.cj ad.ql
def Txt (ad:uc):Prop:=∀i:Nat,([hr ad.cj "len" (.builtin "len"),
 hr ad.cj "range" (.type "range"),
 hr ad.cj "isinstance" (.builtin "isinstance"),
 hr ad.cj "all" (.builtin "all"),
 hr ad.cj "int" (.type "int"),
 hr ad.cj "bool" (.type "bool"),
 hr ad.cj "str" (.type "str"),
 hr ad.cj "list" (.type "list"),
 hr ad.cj "tuple" (.type "tuple"),
 hr ad.cj "dict" (.type "dict"),
 hr ad.cj "min" (.builtin "min"),
 hr ad.cj "max" (.builtin "max"),
 hr ad.cj "sorted" (.builtin "sorted"),
 hr ad.cj "enumerate" (.type "enumerate"),
 hr ad.cj "divmod" (.builtin "divmod"),
 hr ad.cj "reversed" (.type "reversed"),
 ∃u,ad.cj "WALL"∣u/\RelV (V.str (!"#")) u,
 ∃u,ad.cj "CHARGER"∣u/\RelV (V.str (!"+")) u,
 ∃u,ad.cj "ROUGH"∣u/\RelV (V.str (!"~")) u,
 ∃u,ad.cj "LANE"∣u/\RelV (V.str (!"|")) u,
 ∃u,ad.cj "SIGNS"∣u/\RelV (V.str (!".#+~|")) u,
 ∃u,ad.cj "MOST_ROWS"∣u/\RelV (V.int 10) u,
 ∃u,ad.cj "MOST_SIGNS"∣u/\RelV (V.int 10) u,
 ∃u,ad.cj "KINDS"∣u/\RelV (.ref (ad.ai 95)) u,
 ∃u,ad.cj "MOST_FULL"∣u/\RelV (V.int 60) u,
 ∃u,ad.cj "COMMON_SIGNS"∣u/\RelV (.ref (ad.ai 96)) u,
 dy ad.az ad.cj "is_whole" (ad.ai 1),
 dy ad.az ad.cj "is_among" (ad.ai 2),
 dy ad.az ad.cj "check_row" (ad.ai 3),
 dy ad.az ad.cj "check_floor" (ad.ai 4),
 Meth ad.az (ad.ai 83) "has" (ad.ai 6),
 Meth ad.az (ad.ai 83) "sign" (ad.ai 7),
 Meth ad.az (ad.ai 83) "column" (ad.ai 8),
 Meth ad.az (ad.ai 83) "row" (ad.ai 9),
 Meth ad.az (ad.ai 83) "beside" (ad.ai 10),
 Meth ad.az (ad.ai 87) "may_stand" (ad.ai 13),
 Meth ad.az (ad.ai 87) "gain" (ad.ai 14),
 Meth ad.az (ad.ai 87) "fare" (ad.ai 15),
 Meth ad.az (ad.ai 87) "steps" (ad.ai 17),
 Meth ad.az (ad.ai 87) "stayed" (ad.ai 18),
 Meth ad.az (ad.ai 87) "fare_if_standing" (ad.ai 19),
 Meth ad.az (ad.ai 85) "may_stand" (ad.ai 22),
 Meth ad.az (ad.ai 85) "gain" (ad.ai 23),
 Meth ad.az (ad.ai 85) "fare" (ad.ai 24),
 Meth ad.az (ad.ai 86) "gain" (ad.ai 26),
 Meth ad.az (ad.ai 86) "fare" (ad.ai 27),
 dy ad.az ad.cj "carrier_of" (ad.ai 28),
 dy ad.az ad.cj "last_time" (ad.ai 29),
 dy ad.az ad.cj "index_at" (ad.ai 30),
 dy ad.az ad.cj "place_at" (ad.ai 31),
 dy ad.az ad.cj "stays_till" (ad.ai 32),
 dy ad.az ad.cj "meeting_word" (ad.ai 33),
 dy ad.az ad.cj "first_meeting" (ad.ai 34),
 Meth ad.az (ad.ai 90) "put" (ad.ai 36),
 Meth ad.az (ad.ai 90) "way" (ad.ai 37),
 Meth ad.az (ad.ai 90) "numbers" (ad.ai 38),
 Meth ad.az (ad.ai 90) "comings" (ad.ai 39),
 Meth ad.az (ad.ai 90) "quiet" (ad.ai 40),
 Meth ad.az (ad.ai 90) "free_from" (ad.ai 41),
 Meth ad.az (ad.ai 90) "still_till" (ad.ai 42),
 Meth ad.az (ad.ai 90) "ways_beside" (ad.ai 43),
 Meth ad.az (ad.ai 90) "check_number" (ad.ai 44),
 dy ad.az ad.cj "is_clear" (ad.ai 45),
 dy ad.az ad.cj "left_from" (ad.ai 46),
 dy ad.az ad.cj "stops_met" (ad.ai 47),
 dy ad.az ad.cj "first_layer" (ad.ai 48),
 Meth ad.az (ad.ai 91) "layer_behind" (ad.ai 50),
 Meth ad.az (ad.ai 91) "node_ahead" (ad.ai 51),
 Meth ad.az (ad.ai 91) "reached" (ad.ai 52),
 Meth ad.az (ad.ai 91) "steps_from" (ad.ai 53),
 Meth ad.az (ad.ai 91) "node_at" (ad.ai 54),
 dy ad.az ad.cj "sought" (ad.ai 57),
 dy ad.az ad.cj "is_free" (ad.ai 58),
 dy ad.az ad.cj "searched" (ad.ai 59),
 dy ad.az ad.cj "traced" (ad.ai 60),
 dy ad.az ad.cj "_law_cell_at" (ad.ai 61),
 dy ad.az ad.cj "_law_mixed" (ad.ai 62),
 dy ad.az ad.cj "_law_floor" (ad.ai 63),
 dy ad.az ad.cj "_law_sign" (ad.ai 64),
 dy ad.az ad.cj "_law_beside" (ad.ai 65),
 dy ad.az ad.cj "_law_stands" (ad.ai 66),
 dy ad.az ad.cj "_law_cost" (ad.ai 67),
 dy ad.az ad.cj "_law_stayed" (ad.ai 68),
 dy ad.az ad.cj "_law_place" (ad.ai 69),
 dy ad.az ad.cj "_law_open" (ad.ai 70),
 dy ad.az ad.cj "_law_ways" (ad.ai 71),
 dy ad.az ad.cj "_law_stand_cells" (ad.ai 72),
 dy ad.az ad.cj "_law_met" (ad.ai 73),
 dy ad.az ad.cj "_law_next" (ad.ai 74),
 dy ad.az ad.cj "_law_tiers" (ad.ai 75),
 dy ad.az ad.cj "_law_free" (ad.ai 76),
 dy ad.az ad.cj "_law_quiet" (ad.ai 77),
 dy ad.az ad.cj "_law_there" (ad.ai 78),
 dy ad.az ad.cj "_law_nodes" (ad.ai 79),
 dy ad.az ad.cj "_law_led" (ad.ai 80),
 dy ad.az ad.cj "_law_right" (ad.ai 81),
 ad.cj "Floor"∣.ref (ad.ai 83),
 eQ ad.az (ad.ai 83),
 eR ad.az (ad.ai 83) "wide",
 eR ad.az (ad.ai 83) "high",
 eR ad.az (ad.ai 83) "lines",
 eR ad.az (ad.ai 83) "signs",
 h2 ad.az (ad.ai 83) (ad.ai 5),
 ad.cj "Cart"∣.ref (ad.ai 84),
 eQ ad.az (ad.ai 84),
 eR ad.az (ad.ai 84) "full",
 h2 ad.az (ad.ai 84) (ad.ai 11),
 ad.cj "Crawler"∣.ref (ad.ai 85),
 eQ ad.az (ad.ai 85),
 eR ad.az (ad.ai 85) "full",
 h2 ad.az (ad.ai 85) (ad.ai 11),
 ad.cj "Runner"∣.ref (ad.ai 86),
 eQ ad.az (ad.ai 86),
 eR ad.az (ad.ai 86) "full",
 h2 ad.az (ad.ai 86) (ad.ai 11),
 eQ ad.az (ad.ai 87),
 eR ad.az (ad.ai 87) "full",
 ad.cj "Found"∣.ref (ad.ai 88),
 eQ ad.az (ad.ai 88),
 eR ad.az (ad.ai 88) "path",
 eR ad.az (ad.ai 88) "left",
 h2 ad.az (ad.ai 88) (ad.ai 55),
 ad.cj "Shut"∣.ref (ad.ai 89),
 eQ ad.az (ad.ai 89),
 eR ad.az (ad.ai 89) "moment",
 eR ad.az (ad.ai 89) "layer",
 h2 ad.az (ad.ai 89) (ad.ai 56),
 ad.cj "Book"∣.ref (ad.ai 90),
 eQ ad.az (ad.ai 90),
 eR ad.az (ad.ai 90) "ways",
 h2 ad.az (ad.ai 90) (ad.ai 35),
 ad.cj "Spread"∣.ref (ad.ai 91),
 eQ ad.az (ad.ai 91),
 eR ad.az (ad.ai 91) "floor",
 eR ad.az (ad.ai 91) "mover",
 eR ad.az (ad.ai 91) "booked",
 eR ad.az (ad.ai 91) "number",
 eR ad.az (ad.ai 91) "stops",
 eR ad.az (ad.ai 91) "known",
 h2 ad.az (ad.ai 91) (ad.ai 49),
 Meth ad.az (ad.ai 84) "may_stand" (ad.ai 13),
 Meth ad.az (ad.ai 84) "gain" (ad.ai 14),
 Meth ad.az (ad.ai 84) "fare" (ad.ai 15),
 Meth ad.az (ad.ai 84) "steps" (ad.ai 17),
 Meth ad.az (ad.ai 84) "stayed" (ad.ai 18),
 Meth ad.az (ad.ai 84) "fare_if_standing" (ad.ai 19),
 Meth ad.az (ad.ai 85) "steps" (ad.ai 17),
 Meth ad.az (ad.ai 85) "stayed" (ad.ai 18),
 Meth ad.az (ad.ai 85) "fare_if_standing" (ad.ai 19),
 Meth ad.az (ad.ai 86) "may_stand" (ad.ai 13),
 Meth ad.az (ad.ai 86) "steps" (ad.ai 17),
 Meth ad.az (ad.ai 86) "stayed" (ad.ai 18),
 Meth ad.az (ad.ai 86) "fare_if_standing" (ad.ai 19),
 ad.cj "NoCarrier"∣.ref (ad.ai 92),
 Fq ad.az (ad.ai 92),
 ad.cj "Meets"∣.ref (ad.ai 94),
 exmOne ad.az (.ref (ad.ai 94)) (.ref (ad.ai 94))∣true,
 specialIn ad.az (.builtin "object.__class__") "__get__"∣some (.builtin "getset_descriptor.__get__"),
 takesIn ad.az (.builtin "object.__class__")∣true,
 AD ad.az (ad.ai 94) (ad.ai 0)=true,
 isFn ad.az (.ref (ad.ai 0))=true,
 findIn ad.az (.ref (ad.ai 94)) "__setattr__"∣some (.builtin "object.__setattr__"),
 (clsIn ad.az (ad.ai 94)).any (λcd=>qh cd.mro)=true,
 (clsIn ad.az (ad.ai 94)).any (·.hasDict)=true,
 findIn ad.az (.ref (ad.ai 94)) "other"∣none,
 findIn ad.az (.ref (ad.ai 88)) "__class__"∣some (.builtin "object.__class__"),
 mroIn ad.az (ad.ai 88) (.type "object")∣true,
 kitOne ad.az (.ref (ad.ai 88)) (.ref (ad.ai 88))∣true,
 kitOne ad.az (.ref (ad.ai 88)) (.ref (ad.ai 89))∣false,
 findIn ad.az (.ref (ad.ai 89)) "__class__"∣some (.builtin "object.__class__"),
 mroIn ad.az (ad.ai 89) (.type "object")∣true,
 kitOne ad.az (.ref (ad.ai 89)) (.ref (ad.ai 88))∣false,
 kitOne ad.az (.ref (ad.ai 89)) (.ref (ad.ai 89))∣true,
 ∀H,bT ad.az H (ad.ai 95) [V.str (!"cart"),V.str (!"crawler"),V.str (!"runner")],
 ∀H,bT ad.az H (ad.ai 96) [V.str (!"."),V.str (!"+"),V.str (!"|")],
 FB ad.az "__init__" "Meets.__init__" AF (ad.ai 0) q49,
 FB ad.az "is_whole" "is_whole" AG (ad.ai 1) ["thing"],
 FB ad.az "is_among" "is_among" AH (ad.ai 2) q32,
 FB ad.az "check_row" "check_row" w0 (ad.ai 3) q51,
 FB ad.az "check_floor" "check_floor" w1 (ad.ai 4) ["lines"],
 FB ad.az "__init__" "Floor.__init__" AI (ad.ai 5) q50,
 FB ad.az "has" "Floor.has" AJ (ad.ai 6) q05,
 FB ad.az "sign" "Floor.sign" AK (ad.ai 7) q05,
 FB ad.az "column" "Floor.column" AL (ad.ai 8) q05,
 FB ad.az "row" "Floor.row" AM (ad.ai 9) q05,
 FB ad.az "beside" "Floor.beside" w2 (ad.ai 10) q05,
 FB ad.az "__init__" "Carrier.__init__" AN (ad.ai 11) q52,
 FB ad.az "kind" "Carrier.kind" Hb (ad.ai 12) q27,
 FB ad.az "may_stand" "Carrier.may_stand" AO (ad.ai 13) q03,
 FB ad.az "gain" "Carrier.gain" AP (ad.ai 14) q03,
 FB ad.az "fare" "Carrier.fare" AQ (ad.ai 15) q00,
 FB ad.az "cost" "Carrier.cost" Hc (ad.ai 16) q00,
 FB ad.az "steps" "Carrier.steps" rR (ad.ai 17) q44,
 FB ad.az "stayed" "Carrier.stayed" AR (ad.ai 18) q33,
 FB ad.az "fare_if_standing" "Carrier.fare_if_standing" AS (ad.ai 19) q00,
 FB ad.az "kind" "Cart.kind" Hd (ad.ai 20) q27,
 FB ad.az "kind" "Crawler.kind" He (ad.ai 21) q27,
 FB ad.az "may_stand" "Crawler.may_stand" AU (ad.ai 22) q03,
 FB ad.az "gain" "Crawler.gain" AV (ad.ai 23) q03,
 FB ad.az "fare" "Crawler.fare" AW (ad.ai 24) q00,
 FB ad.az "kind" "Runner.kind" Hf (ad.ai 25) q27,
 FB ad.az "gain" "Runner.gain" AX (ad.ai 26) q03,
 FB ad.az "fare" "Runner.fare" AY (ad.ai 27) q00,
 ∃aU,Gb ad.az "carrier_of" "carrier_of" AZ (ad.ai 28) aU q53,
 FB ad.az "last_time" "last_time" A0 (ad.ai 29) ["way"],
 FB ad.az "index_at" "index_at" A1 (ad.ai 30) q25,
 FB ad.az "place_at" "place_at" A2 (ad.ai 31) q25,
 FB ad.az "stays_till" "stays_till" w3 (ad.ai 32) q39,
 FB ad.az "meeting_word" "meeting_word" A3 (ad.ai 33) q48,
 FB ad.az "first_meeting" "first_meeting" w4 (ad.ai 34) ["one","other"],
 FB ad.az "__init__" "Book.__init__" A4 (ad.ai 35) q27,
 FB ad.az "put" "Book.put" w5 (ad.ai 36) q45,
 FB ad.az "way" "Book.way" A5 (ad.ai 37) q04,
 FB ad.az "numbers" "Book.numbers" A6 (ad.ai 38) q27,
 FB ad.az "comings" "Book.comings" A7 (ad.ai 39) q41,
 FB ad.az "quiet" "Book.quiet" t7 (ad.ai 40) q04,
 FB ad.az "free_from" "Book.free_from" A8 (ad.ai 41) q42,
 FB ad.az "still_till" "Book.still_till" t8 (ad.ai 42) q21,
 FB ad.az "ways_beside" "Book.ways_beside" w6 (ad.ai 43) q04,
 FB ad.az "check_number" "Book.check_number" w7 (ad.ai 44) q04,
 FB ad.az "is_clear" "is_clear" A9 (ad.ai 45) q28,
 FB ad.az "left_from" "left_from" w8 (ad.ai 46) ["way","cell"],
 FB ad.az "stops_met" "stops_met" Ba (ad.ai 47) q46,
 FB ad.az "first_layer" "first_layer" Bb (ad.ai 48) q29,
 FB ad.az "__init__" "Spread.__init__" Bc (ad.ai 49) q12,
 FB ad.az "layer_behind" "Spread.layer_behind" Bd (ad.ai 50) q47,
 FB ad.az "node_ahead" "Spread.node_ahead" w9 (ad.ai 51) q23,
 FB ad.az "reached" "Spread.reached" Be (ad.ai 52) q30,
 FB ad.az "steps_from" "Spread.steps_from" xa (ad.ai 53) ["self","node"],
 FB ad.az "node_at" "Spread.node_at" Bf (ad.ai 54) q36,
 FB ad.az "__init__" "Found.__init__" Bg (ad.ai 55) q37,
 FB ad.az "__init__" "Shut.__init__" Bh (ad.ai 56) q31,
 GS ad.az "sought" "sought" nk (ad.ai 57) ad.xh ad.h7 q08,
 nj ad.cj ad.ql,
 ad.az.In ad.ql,
 FB ad.az "is_free" "is_free" Bi (ad.ai 58) q54,
 FB ad.az "searched" "searched" xb (ad.ai 59) q20,
 FB ad.az "traced" "traced" t9 (ad.ai 60) q34,
 FB ad.az "_law_cell_at" "_law_cell_at" Bj (ad.ai 61) q16,
 FB ad.az "_law_mixed" "_law_mixed" Bl (ad.ai 62) q16,
 FB ad.az "_law_floor" "_law_floor" ua (ad.ai 63) q26,
 FB ad.az "_law_sign" "_law_sign" Bm (ad.ai 64) q15,
 FB ad.az "_law_beside" "_law_beside" Bn (ad.ai 65) q15,
 FB ad.az "_law_stands" "_law_stands" Bo (ad.ai 66) q22,
 FB ad.az "_law_cost" "_law_cost" Bp (ad.ai 67) q11,
 FB ad.az "_law_stayed" "_law_stayed" Bq (ad.ai 68) q14,
 FB ad.az "_law_place" "_law_place" Br (ad.ai 69) q43,
 FB ad.az "_law_open" "_law_open" Bs (ad.ai 70) q10,
 FB ad.az "_law_ways" "_law_ways" qj (ad.ai 71) q18,
 FB ad.az "_law_stand_cells" "_law_stand_cells" xc (ad.ai 72) q40,
 FB ad.az "_law_met" "_law_met" Bt (ad.ai 73) q24,
 FB ad.az "_law_next" "_law_next" Bu (ad.ai 74) q01,
 FB ad.az "_law_tiers" "_law_tiers" xd (ad.ai 75) q06,
 FB ad.az "_law_free" "_law_free" xe (ad.ai 76) q17,
 FB ad.az "_law_quiet" "_law_quiet" ub (ad.ai 77) q19,
 FB ad.az "_law_there" "_law_there" Bv (ad.ai 78) q07,
 FB ad.az "_law_nodes" "_law_nodes" Bw (ad.ai 79) q38,
 FB ad.az "_law_led" "_law_led" xf (ad.ai 80) q02,
 FB ad.az "_law_right" "_law_right" xg (ad.ai 81) q09]:List Prop).getD i True
theorem aC {p:Prop}{l:List Prop}(h:p) (t:∀i:Nat,l.getD i True):∀i:Nat,(p::l).getD i True:=λi=>Nat.casesOn i h t
open Bk
def ud:V->Bool
 | .int _=>true
 | _=>false
def xi:V->Bool
 | .int _=>true
 | .bl _=>true
 | _=>false
def Bx:V->Bool
 | .bl _=>true
 | _=>false
def By (K:Frag)(H:ah)(x:V):Prop:=∃n,gN K H x (.type n)
theorem UK {x:V}{n:String}(h:gN K H x (.type n)):kitOne K (.type n) (.type "int")∣xi x:=by
 cases h<;>rfl
theorem UL {x:V}{n:String}(h:gN K H x (.type n)):kitOne K (.type n) (.type "bool")∣Bx x:=by
 cases h<;>rfl
inductive UM (K:Frag)(vs:List V)(H:ah)(Q:bo)(E:bL):Prop
 | mk (x:_) (_:vs=[x]) (_:By K H x) (_:Q (.bl (ud x)) H)
theorem zj {t u:cV}(M:St->ah->Prop) (aa:∀aP:St->ah->Prop,(∀a7 H',M a7 H'->aP a7 H')->t { D with aP:=aP } J H) (ag:∀gE:St->ah->Prop,(∀a7 H',u D a7 H'->gE a7 H')->∀a7 H',M a7 H'->gE a7 H'):yt t u D J H:=aa (u D) (ag (u D) λ_ _ z=>z)
theorem oqq (h:∀gE:Prop,(G->gE)->gE):G:=h G id
def ku:V->Int->Int->Bool
 | .int i,lo,au=>decide (lo<=i)&&decide (i<=au)
 | _,_,_=>false
inductive UN (K:Frag)(vs:List V)(H:ah)(Q:bo)(E:bL):Prop
 | mk (x lo au:_) (_:vs=[x,.int lo,.int au]) (_:By K H x) (_:Q (.bl (ku x lo au)) H)
open Fl
def h8 (w h:Nat)(l:Addr)(sg:List Nat):List (Str×V):=dG "signs" (.str (txt sg)) (dG "lines" (.ref l) (dG "high" (.int (h:Int)) (dG "wide" (.int (w:Int)) [])))
theorem ue (w h:Nat)(l:Addr)(sg:List Nat):(h8 w h l sg).lookup ("wide":Str)∣.int (w:Int):=by
 unfold h8;rw[zm,aB ∅,zm,aB ∅,zm,aB ∅,zm,aM rfl]
theorem Bz (w h:Nat)(l:Addr)(sg:List Nat):(h8 w h l sg).lookup ("signs":Str)∣.str (txt sg):=by
 unfold h8;rw[zm,aM rfl]
theorem BA (w h:Nat)(l:Addr)(sg:List Nat){m:Str}(aa:¬m="signs") (ag:¬m="lines") (aR:¬m="high") (b4:¬m="wide"):(h8 w h l sg).lookup m=none:=by
 unfold h8;rw[zm,aB aa,zm,aB ag,zm,aB aR,zm,aB b4];rfl
def hb (H:ah)(l:Addr)(w h:Nat)(sg:List Nat):Prop:=H l∣.lst ((linesOf w h sg).map V.str)
structure iF (C:Addr)(H:ah)(p:Addr)(w h:Nat)(sg:List Nat):Prop where
 ob:∃av l,H p∣.ins C av (h8 w h l sg)/\hb H l w h sg
theorem iF.same {p:Addr}{h:Nat}(F:iF C H p w h sg) (s:aQ H H'):iF C H' p w h sg:=by
 obtain⟨av,l,aa,ag⟩:=F.ob;exact⟨⟨av,l,s _ _ aa,s _ _ ag⟩⟩
theorem UO {c:Nat}(h:mX c):c∈(!".#+~|").cps.toList:=by
 have e:(!".#+~|").cps.toList=[46,35,43,126,124]:=∅
 rw[e];rcases h with z|z|z|z|z<;>simp[z]
def Hg:V->V
 | .str z=>.bl (decide (z.cps.getD 0 0∈(!".#+~|").cps.toList))
 | _=>.bl false
def BB:V->V
 | .str z=>.bl (decide (z=Str.ofString "#"))
 | _=>.bl false
theorem Hh (c:Nat):((⟨#[c]⟩:Str)=Str.ofString "#")↔c=35:=by
 have e:(!"#").cps=#[35]:=∅
 constructor
 ·intro h;have:=congrArg Str.cps h
  rw[e]at this;simpa using this
 ·intro h;subst h;exact v7 (by rw[e])
theorem Hi (dj:0<=c) (cL:c<sg.length):dH (txt sg).cps.toList c∣at_ sg c:=by
 obtain⟨j,rfl⟩:=eq_ofNat_of_zero_le dj;have aZ:j<sg.length:=⋯
 refine gk ?_;rw[pV];unfold at_;simp[aZ]
def BC (sg:List Nat):V->Bool
 | .int i=>!decide (at_ sg i=35)
 | _=>false
inductive UP (vs:List V)(H:ah)(Q:bo)(E:bL):Prop
 | mk (x:Str) (n:Nat) (_:vs=[.str x,.int (n:Int)]) (_:x.length=n) (_:n<=10) (_:(∀c∈x.cps.toList,mX c)) (_:∀H',aQ H H'->Q .bx H')
inductive UQ (vs:List V)(H:ah)(Q:bo)(E:bL):Prop
 | mk (l:Addr) (w h:Nat) (sg:List Nat) (_:vs=[.ref l]) (_:hb H l w h sg) (_:Good w h sg) (_:∀H',aQ H H'->Q .bx H')
inductive UR (C:Addr)(vs:List V)(H:ah)(Q:bo)(E:bL):Prop
 | mk (p av l:Addr) (w h:Nat) (sg:List Nat) (_:vs=[.ref p,.ref l]) (_:H p∣.ins C av []) (_:hb H l w h sg) (_:Good w h sg) (_:∀H' uf e3,H e3=none->H' p∣.ins C uf (h8 w h e3 sg)->hb H' e3 w h sg->(∀b o,H b∣o->b≠p->H' b∣o)->Q .bx H')
inductive US (K:Frag)(C:Addr)(vs:List V)(H:ah)(Q:bo)(E:bL):Prop
 | mk (p:Addr) (w h:Nat) (sg:List Nat) (x:V) (_:vs=[.ref p,x]) (_:iF C H p w h sg) (_:Good w h sg) (_:By K H x) (_:Q (.bl (tu sg x)) H)
inductive Hj (C:Addr)(vs:List V)(H:ah)(Q:bo)(E:bL):Prop
 | mk (p:Addr) (w h:Nat) (sg:List Nat) (c:Int) (_:vs=[.ref p,.int c]) (_:iF C H p w h sg) (_:Good w h sg) (_:0<=c) (_:c<sg.length) (_:Q (dw (at_ sg c)) H)
inductive UT (C:Addr)(vs:List V)(H:ah)(Q:bo)(E:bL):Prop
 | mk (p:Addr) (w h:Nat) (sg:List Nat) (c:Int) (_:vs=[.ref p,.int c]) (_:iF C H p w h sg) (_:Good w h sg) (_:Q (.int (c%w)) H)
inductive UU (C:Addr)(vs:List V)(H:ah)(Q:bo)(E:bL):Prop
 | mk (p:Addr) (w h:Nat) (sg:List Nat) (c:Int) (_:vs=[.ref p,.int c]) (_:iF C H p w h sg) (_:Good w h sg) (_:Q (.int (c/w)) H)
def Gives (H:ah)(Q:bo)(xs:List Int):Prop:=∀r H',H r=none->aQ H H'->H' r∣.lst (xs.map V.int)->Q (.ref r) H'
inductive UW (C:Addr)(vs:List V)(H:ah)(Q:bo)(E:bL):Prop
 | mk (p:Addr) (w h:Nat) (sg:List Nat) (c:Int) (_:vs=[.ref p,.int c]) (_:iF C H p w h sg) (_:Good w h sg) (_:Gives H Q (dc w sg c))
inductive UX (vs:List V)(H:ah)(Q:bo)(E:bL):Prop
 | mk (l:Addr) (w h:Nat) (sg:List Nat) (c:Int) (_:vs=[.ref l,.int c]) (_:hb H l w h sg) (_:Good w h sg) (_:0<=c) (_:c<sg.length) (_:Q (dw (at_ sg c)) H)
theorem UY {h:Nat}(g:Good w h sg):(cellsOf sg).length<=100:=by
 have:=jv g
 unfold cellsOf places;refine wa0 (length_filter_le _ _) ?_;rw[length_map,List.length_range];omega
def j2:List Str:=["cart","crawler","runner","carrier"]
def eJ (ad:dJ):Nat->Addr
 | 0=>(ad 84)
 | 1=>(ad 85)
 | 2=>(ad 86)
 | _=>(ad 87)
def kv (ad:dJ)(H:ah)(p:Addr)(i:Nat)(n:Int):Prop:=∃av,H p∣.ins (eJ ad i) av (dG "full" (.int n) [])
theorem kv.same {ad:dJ}{p:Addr}(s:aQ H H') (h:kv ad H p i n):kv ad H' p i n:=let⟨av,e⟩:=h;⟨av,s _ _ e⟩
def common (c:Nat):Bool:=decide (c=46\/c=43\/c=124)
def dT (i c:Nat):Bool:=common c||(decide (i=1)&&decide (c=126))
def gs (i c:Nat):Int:=if c=43 then(match i with|1=>1|2=>3|_=>2) else 0
def ml (i w:Nat)(sg:List Nat)(cell other:Int):Option Int:=match i with
 | 1=>some (if at_ sg other=126 then 3 else 1)
 | 2=>if cell/w=other/w then some 1 else if at_ sg cell=124\/at_ sg other=124 then some 2 else none
 | _=>some 1
def oC:Option Int->V
 | some i=>.int i
 | none=>.bx
def costOf (i w:Nat)(sg:List Nat)(cell other:Int):Option Int:=if dT i (at_ sg cell)&&dT i (at_ sg other) then ml i w sg cell other else none
def lq (i w:Nat)(sg:List Nat)(cell other:Int):Option Int:=if dT i (at_ sg other) then ml i w sg cell other else none
def pairsOf (f:Int->Option Int)(os:List Int):List (Int×Int):=os.filterMap λo=>(f o).map λk=>(o,k)
def oD (i w:Nat)(sg:List Nat)(cell:Int):List (Int×Int):=pairsOf (costOf i w sg cell) (dc w sg cell)
def ug (H:ah)(t:Addr)(p:Int×Int):Prop:=H t∣.tup [.int p.1,.int p.2]
def UZ (H:ah)(r:Addr)(ps:List (Int×Int)):Prop:=∃ts:List Addr,H r∣.lst (ts.map V.ref)/\Paired (ug H) ts ps
def en (sg:List Nat)(c:Int):Prop:=0<=c/\c<sg.length
inductive Hk (ad:dJ)(vs:List V)(H:ah)(Q:bo)(E:bL):Prop
 | mk (p av:Addr) (n:Int) (i:Nat) (_:vs=[.ref p,.int n]) (_:H p∣.ins (eJ ad i) av []) (_:Q .bx (upd H p (.ins (eJ ad i) av (dG "full" (.int n) []))))
inductive kx (i:Nat)(vs:List V)(H:ah)(Q:bo)(E:bL):Prop
 | mk (x c:_) (_:vs=[x,dw c]) (_:Q (.bl (dT i c)) H)
inductive nt (i:Nat)(vs:List V)(H:ah)(Q:bo)(E:bL):Prop
 | mk (x c:_) (_:vs=[x,dw c]) (_:Q (.int (gs i c)) H)
inductive nu (C:Addr)(i:Nat)(vs:List V)(H:ah)(Q:bo)(E:bL):Prop
 | mk (x:V) (bJ:Addr) (w h:Nat) (sg:List Nat) (cell other:Int) (_:vs=[x,.ref bJ,.int cell,.int other]) (_:iF C H bJ w h sg) (_:Good w h sg) (_:en sg cell) (_:en sg other) (_:∀H',aQ H H'->Q (oC (ml i w sg cell other)) H')
inductive Hl (ad:dJ)(vs:List V)(H:ah)(Q:bo)(E:bL):Prop
 | mk (p bJ:Addr) (i:Nat) (n:Int) (w h:Nat) (sg:List Nat) (cell other:Int) (_:vs=[.ref p,.ref bJ,.int cell,.int other]) (_:kv ad H p i n) (_:i<=3) (_:iF (ad 83) H bJ w h sg) (_:Good w h sg) (_:en sg cell) (_:en sg other) (_:∀H',aQ H H'->Q (oC (costOf i w sg cell other)) H')
inductive Hm (ad:dJ)(vs:List V)(H:ah)(Q:bo)(E:bL):Prop
 | mk (p bJ:Addr) (i:Nat) (n:Int) (w h:Nat) (sg:List Nat) (cell:Int) (_:vs=[.ref p,.ref bJ,.int cell]) (_:kv ad H p i n) (_:i<=3) (_:iF (ad 83) H bJ w h sg) (_:Good w h sg) (_:en sg cell) (_:∀r H',H r=none->aQ H H'->UZ H' r (oD i w sg cell)->Q (.ref r) H')
inductive Hn (ad:dJ)(vs:List V)(H:ah)(Q:bo)(E:bL):Prop
 | mk (p:Addr) (i:Nat) (n:Int) (c:Nat) (k:Int) (_:vs=[.ref p,dw c,.int k]) (_:kv ad H p i n) (_:i<=3) (_:Q (.int (min (k+gs i c) n)) H)
inductive U0 (ad:dJ)(vs:List V)(H:ah)(Q:bo)(E:bL):Prop
 | mk (i:Nat) (x:Str) (n:Int) (_:vs=[.str x,.int n]) (_:i<3) (_:j2[i]?∣x) (_:1<=n) (_:n<=60) (_:∀p H',aQ H H'->H p=none->kv ad H' p i n->Q (.ref p) H')
inductive U1 (vs:List V)(H:ah)(Q:bo)(E:bL):Prop
 | mk (i c:Nat) (x:Str) (_:vs=[.str x,dw c]) (_:j2[i]?∣x) (_:Q (.bl (dT i c)) H)
theorem Ho {ad:uc}(T:Txt ad):∀i,eQ ad.az (eJ ad.ai i)
 | 0=>(T 104)
 | 1=>(T 108)
 | 2=>(T 112)
 | (_+3)=>(T 115)
theorem Hp {ad:uc}(T:Txt ad):∀i,eR ad.az (eJ ad.ai i) "full"
 | 0=>(T 105)
 | 1=>(T 109)
 | 2=>(T 113)
 | (_+3)=>(T 116)
theorem U2 (n:Int):(dG "full" (V.int n) []).lookup ("full":Str)∣.int n:=by rw[zm,aM rfl]
theorem rS (n:Int){m:Str}(h:¬m="full"):(dG "full" (V.int n) []).lookup m=none:=by rw[zm,aB h];rfl
theorem qm {c k:Nat}(aI:s.cps=#[k]):(dw c=V.str s)↔c=k:=by
 constructor
 ·intro h;have aa:(⟨#[c]⟩:Str)=s:=V.str.inj h
  have ag:=congrArg Str.cps aa
  rw[aI]at ag;simpa using ag
 ·intro h;subst h;exact congrArg V.str (v7 (by rw[aI]))
theorem nv {c:Nat}:(dw c=V.str (!"~"))↔c=126:=qm ∅
theorem nx {c:Nat}:(dw c=V.str (!"+"))↔c=43:=qm ∅
theorem uh {c:Nat}:(dw c=V.str (!"|"))↔c=124:=qm ∅
theorem Hr {c:Nat}:(dw c=V.str (!"."))↔c=46:=qm ∅
theorem BD {c k:Nat}(aI:s.cps=#[k]):iu (V.str s) (dw c)=decide (c=k):=by
 have e:iu (V.str s) (dw c)=(s==(⟨#[c]⟩:Str)):=rfl
 rw[e,Bool.eq_iff_iff,beq_iff_eq,decide_eq_true_iff];constructor
 ·intro h;exact(qm aI).mp (congrArg V.str h.symm)
 ·intro h;exact(V.str.inj ((qm aI).mpr h)).symm
theorem Hs {c:Nat}:kc (dw c) [V.str (!"."),V.str (!"+"),V.str (!"|")]=common c:=by
 simp only[kc,any_cons,any_nil,Bool.or_false,common];rw[BD (k:=46) ∅,BD (k:=43) ∅,BD (k:=124) ∅,decide_or,decide_or]
theorem qn {h:Nat}(g:Good w h sg){o:Int}(aA:o∈dc w sg c):en sg o:=by
 unfold dc at aA;have h:=(mem_filter.mp aA).2
 unfold gH at h;simp only[and_eq_true,decide_eq_true_eq]at h;exact⟨h.1.1,h.1.2⟩
theorem rT:(dc w sg c).length<=4:=by
 unfold dc;refine wa0 (length_filter_le _ _) ?_;unfold kZ;split<;>split<;>simp
def pE (f:Int->Option Int)(H:ah)(t:Addr)(o:Int):Prop:=H t∣.tup [.int o,oC (f o)]
def ui (H:ah):V->Bool
 | .ref t=>(match H t with
  | some (.tup [_,y])=>!decide (y=.bx)
  | _=>false)
 | _=>false
theorem Ht {f:Int->Option Int}{H:ah}:∀{ts:List Addr}{os:List Int},Paired (pE f H) ts os->∃us:List Addr,(ts.map V.ref).filter (ui H)=us.map V.ref/\Paired (ug H) us (pairsOf f os)
 | _,_,.nil=>⟨[],rfl,.nil⟩
 | _,_,.cons (a:=t) (b:=o) (l₁:=ts) (l₂:=os) h r=>by
  obtain⟨us,e,q⟩:=Ht r;have h:H t∣.tup [.int o,oC (f o)]:=h
  rw[map_cons,filter_cons];cases z:f o with
  | none=>
   rw[aB (by simp[ui,h,z,oC]),e];refine⟨us,rfl,?_⟩;unfold pairsOf at q ⊢;rwa[filterMap_cons,z]
  | some k=>
   rw[aM (by simp[ui,h,z,oC]),e];refine⟨t::us,rfl,?_⟩;unfold pairsOf at q ⊢;rw[filterMap_cons,z];exact .cons (by rw[z]at h;exact h) q
def BE:List Str:=["cart","crawler","runner"]
theorem U3 {x:Str}:kc (.str x) [V.str (!"cart"),V.str (!"crawler"),V.str (!"runner")]=decide (x∈BE):=by
 have e:∀a:Str,(a==x)=decide (x=a):=λa=>by
  rw[Bool.eq_iff_iff,beq_iff_eq,decide_eq_true_iff];exact eq_comm
 simp only[kc,Sx,Sy,any_cons,any_nil,Bool.or_false,BE,mem_cons,not_mem_nil,or_false];rw[e,e,e,decide_or,decide_or]
theorem qo {h:Nat}{l:Addr}{m:Str}(a:¬m="signs") (b:¬m="lines") (c:¬m="high") (d:¬m="wide"):(h8 w h l sg).lookup m=none:=BA _ _ _ _ a b c d
theorem BF {ad:dJ}{sp:d0}:∀i,i<=3->(eJ ad i,sp)∈[((ad 84),sp),((ad 85),sp),((ad 86),sp),((ad 87),sp)]
 | 0,_=>by simp[eJ]
 | 1,_=>by simp[eJ]
 | 2,_=>by simp[eJ]
 | 3,_=>by simp[eJ]
 | (_+4),h=>by omega
theorem U4 {ad:dJ}:∀i,i<=3->∃j,(eJ ad i,kx j)∈[((ad 84),kx 0),((ad 85),kx 1),((ad 86),kx 0),((ad 87),kx 0)]/\∀c,dT j c=dT i c
 | 0,_=>⟨0,by simp[eJ],λ_=>rfl⟩
 | 1,_=>⟨1,by simp[eJ],λ_=>rfl⟩
 | 2,_=>⟨0,by simp[eJ],λ_=>rfl⟩
 | 3,_=>⟨0,by simp[eJ],λ_=>rfl⟩
 | (_+4),h=>by omega
theorem U5 {ad:dJ}:∀i,i<=3->∃j,(eJ ad i,nt j)∈[((ad 84),nt 0),((ad 85),nt 1),((ad 86),nt 2),((ad 87),nt 0)]/\∀c,gs j c=gs i c
 | 0,_=>⟨0,by simp[eJ],λ_=>rfl⟩
 | 1,_=>⟨1,by simp[eJ],λ_=>rfl⟩
 | 2,_=>⟨2,by simp[eJ],λ_=>rfl⟩
 | 3,_=>⟨0,by simp[eJ],λ_=>rfl⟩
 | (_+4),h=>by omega
theorem U6 {ad:dJ}{C:Addr}:∀i,i<=3->∃j,(eJ ad i,nu C j)∈[((ad 84),nu C 0),((ad 85),nu C 1),((ad 86),nu C 2),((ad 87),nu C 0)]/\∀w sg a b,ml j w sg a b=ml i w sg a b
 | 0,_=>⟨0,by simp[eJ],λ_ _ _ _=>rfl⟩
 | 1,_=>⟨1,by simp[eJ],λ_ _ _ _=>rfl⟩
 | 2,_=>⟨2,by simp[eJ],λ_ _ _ _=>rfl⟩
 | 3,_=>⟨0,by simp[eJ],λ_ _ _ _=>rfl⟩
 | (_+4),h=>by omega
theorem U7 {R:α->β->Prop}{ts:List α}{os:List β}(p:Paired R ts os){t:α}(bC:t∈ts):∃o,R t o:=by
 induction p with
 | nil=>cases bC
 | cons h r bE=>rcases mem_cons.mp bC with rfl|z;exact⟨_,h⟩;exact bE z
theorem U8 {c:Nat}:c∈(!".+|").cps.toList↔common c=true:=by
 have e:(!".+|").cps.toList=[46,43,124]:=∅
 rw[e];simp[common]
theorem BG:∀(i:Nat)(x:Str),j2[i]?∣x->(x=Str.ofString "crawler"↔i=1)/\(x=Str.ofString "runner"↔i=2)/\i<=3
 | 0,_,h=>by cases h;decide +kernel
 | 1,_,h=>by cases h;decide +kernel
 | 2,_,h=>by cases h;decide +kernel
 | 3,_,h=>by cases h;decide +kernel
 | (i+4),_,h=>by simp[j2]at h
theorem Hu {K:Frag}{H:ah}:∀{us:List Addr}{ps:List (Int×Int)},Paired (ug H) us ps->kh K H (us.map V.ref) (ps.map λp=>.tuple [.int p.1,.int p.2])
 | _,_,.nil=>.nil
 | _,_,.cons h r=>.cons (.tup (bT.of h) (.cons (.int _) (.cons (.int _) .nil))) (Hu r)
theorem U9 (ps:List (Int×Int)):SeqAt.shaped (.list (ps.map λp=>.tuple [.int p.1,.int p.2]))=true:=by
 have a:∀ps:List (Int×Int),PyData.canLayAll0 (ps.map λp=>.tuple [.int p.1,.int p.2])=true:=by
  intro ps;induction ps with
  | nil=>rfl
  | cons x r bE=>simp[PyData.canLayAll0,PyData.canLay0,bE]
 have b:∀ps:List (Int×Int),PyData.depthAll (ps.map λp=>.tuple [.int p.1,.int p.2])<=1:=by
  intro ps;induction ps with
  | nil=>simp[PyData.depthAll]
  | cons x r bE=>simp[PyData.depthAll,PyData.depth];omega
 have b1:=b ps
 simp[SeqAt.shaped,PyData.canLay0,PyData.depth,a ps];omega
theorem Va {o:Int}(h:dT i (at_ sg c)=true):costOf i w sg c o=lq i w sg c o:=by
 unfold costOf lq;rw[h,Bool.true_and]
theorem Hv {f:Int->Option Int}{os:List Int}:(pairsOf f os).length<=os.length:=List.length_filterMap_le _ _
theorem Hw {n:Nat}(Pv:Nat->List V->ah->Prop) (h0:Pv 0 [] H)
  (aI:∀i aF H,i<n->Pv i aF H->tt (some (.int (0+(i:Int)))::cs) H λb bP=>if b=true then bM (some (.int (0+(i:Int)))::cs) bP λy ck=>aF.length<=sizeLine/\Pv (i+1) (aF++[y]) ck else Pv (i+1) aF bP)
  (hd:∀aF H,Pv n aF H->aF.length<=sizeLine/\F aF H):∃W:Nat->Nat->List V->ah->Prop,(∃m,W 0 m [] H)/\l0 (j9 0 n) (hW 0) tt bM (none::cs) W F:=
 E2 (x:=λi=>.int (0+(i:Int))) Pv h0 (λi aF H au _=>⟨au,λy H' e=>⟨e.1,e.2⟩⟩) (λ_ _ _=>wa8 _) aI hd
open Wy
inductive Vb (vs:List V)(H:ah)(Q:bo)(E:bL):Prop
 | mk (v b cs:_) (_:vs=[v]) (_:ef H v b cs) (_:Q (.int (b+(cs.length:Int)-1)) H)
inductive Vc (vs:List V)(H:ah)(Q:bo)(E:bL):Prop
 | mk (v b cs t:_) (_:vs=[v,.int t]) (_:ef H v b cs) (_:Q (.int (idx b cs t)) H)
inductive Hx (vs:List V)(H:ah)(Q:bo)(E:bL):Prop
 | mk (v b cs t:_) (_:vs=[v,.int t]) (_:ef H v b cs) (_:cs≠[]) (_:Q (b7 b cs t) H)
inductive Vd (K:Frag)(vs:List V)(H:ah)(Q:bo)(E:bL):Prop
 | mk (a:Addr) (ns:List Int) (k:Int) (_:vs=[.ref a,.int k]) (_:aK K H a (ns.map V.int)) (_:(∀i∈ns,kV i)) (_:0<=k) (_:∀r:Int,kV r->Q (.int r) H)
def BH:Option Str->V
 | some w=>.str w
 | none=>.bx
inductive Ve (vs:List V)(H:ah)(Q:bo)(E:bL):Prop
 | mk (v b c ep b1 aY t:_) (_:vs=[v,ep,.int t]) (_:ef H v b c) (_:ef H ep b1 aY) (_:c≠[]) (_:aY≠[]) (_:Q (BH (hI b c b1 aY t)) H)
theorem rV {x y:V}(aq:x=.bx\/∃z,x=.int z) (bg:y=.bx\/∃z,y=.int z):jN x y=true:=by
 rcases aq with rfl|⟨z,rfl⟩<;>rcases bg with rfl|⟨w,rfl⟩<;>rfl
open Bk
def Good (b:Int)(c:List Int):Prop:=c≠[]/\c.length<=1000/\0<=b/\b<=10^15
inductive Vf (vs:List V)(H:ah)(Q:bo)(E:bL):Prop
 | mk (v b c ep b1 aY:_) (_:vs=[v,ep]) (_:ef H v b c) (_:ef H ep b1 aY) (_:Good b c) (_:Good b1 aY) (_:∀r H' o,aQ H H'->Q4 H' r o->i8 b c b1 aY o->Q r H')
inductive Vg (ad:dJ)(vs:List V)(H:ah)(Q:bo)(E:bL):Prop
 | mk (x:Addr) (k:Int) (aT:Array Value) (aL:Array (Option Value)) (_:vs=[.ref x,.int k]) (_:H x∣.ext (j0 x (ad 94) none aT aL)) (_:∀av,H av=none->av≠x->Q .bx (upd (upd H av (.nQ (dG "other" (.int k) []))) x (.ext (j0 x (ad 94) (some av) aT aL))))
inductive Vh (ad:dJ)(vs:List V)(H:ah)(Q:bo)(E:bL):Prop
 | mk (p av:Addr) (_:vs=[.ref p]) (_:H p∣.ins (ad 90) av []) (_:∀d,H d=none->Q .bx (upd (upd H d (.bO [])) p (.ins (ad 90) av (wl d))))
inductive Vi (ad:dJ)(vs:List V)(H:ah)(Q:bo)(E:bL):Prop
 | mk (p d:Addr) (es:List Ent) (n:Int) (_:vs=[.ref p,.int n]) (_:kl (ad 90) H p d es) (_:((∃e∈es,e.k=n)->Q .bx H)) (_:((∀e∈es,e.k≠n)->E (.ref (ad 92)) none H))
inductive Vj (ad:dJ)(vs:List V)(H:ah)(Q:bo)(E:bL):Prop
 | mk (p d:Addr) (es:List Ent) (_:vs=[.ref p]) (_:kl (ad 90) H p d es) (_:es.length<64) (_:∀(l:Addr)(ms:List Int),H l=none->ms.Perm (es.map (·.k))->ms.Pairwise (·<=·)->Q (.ref l) (upd H l (.lst (ms.map V.int))))
inductive Vk (ad:dJ)(vs:List V)(H:ah)(Q:bo)(E:bL):Prop
 | mk (p d:Addr) (es:List Ent) (n:Int) (v:V) (b:Int) (c:List Int) (_:vs=[.ref p,.int n,v]) (_:kl (ad 90) H p d es) (_:hK H es) (_:ef H v b c) (_:tx b c) (_:∀H',aQ H H'->(tD es n b c none->Q .bx (upd H' d (.bO (c0 (m1 es ⟨n,v,b,c⟩)))))/\∀k x,tD es n b c (some k)->H' x∣.nQ (dG "other" (.int k) [])->E (.ref (ad 94)) (some x) H')
theorem uj {c:List Int}(h:c≠[]):dH (c.map V.int) (-1)∣.int (cG c):=by
 have jy:0<c.length:=length_pos_iff.mpr h
 unfold dH js;rw[aB ∅,aM (by rw[length_map];omega)];show(c.map V.int)[((-1:Int)+((c.map V.int).length:Int)).toNat]?=_
 rw[length_map,show(-1+(c.length:Int)).toNat=c.length-1 by omega,getElem?_map,getElem?_eq_getElem ⋯];unfold cG;rw[getD_eq_getElem?_getD,getElem?_eq_getElem ⋯];rfl
theorem Vl {other t:Int}:m3 (bk (es.take 0) n) cell other t:=λe he=>by rw[take_zero]at he;cases he
theorem Vm:∀e∈es.take 0,cG e.c≠cell:=λe he=>by rw[take_zero]at he;cases he
theorem Vn:k7 (es.take 0) cell 0:=by rw[take_zero];exact Rt
def gU (C:Addr)(H:ah)(p d:Addr)(es:List Ent):Prop:=kl C H p d es/\hK H es
theorem gU.same {p:Addr}(h:gU C H p d es) (s:aQ H H'):gU C H' p d es:=⟨h.1.same s,h.2.cH (mZ s)⟩
def ky (H:ah)(e:Addr)(es:List Ent):Prop:=H e∣.bO (c0 es)/\hK H es
theorem ky.same (h:ky H e es) (s:aQ H H'):ky H' e es:=⟨s _ _ h.1,h.2.cH (mZ s)⟩
inductive Vo (ad:dJ)(vs:List V)(H:ah)(Q:bo)(E:bL):Prop
 | mk (p d:Addr) (es:List Ent) (n:Int) (_:vs=[.ref p,.int n]) (_:gU (ad 90) H p d es) (_:∀l H',H l=none->aQ H H'->H' l∣.lst ((bk es n).map (·.v))->Q (.ref l) H')
inductive Vp (ad:dJ)(vs:List V)(H:ah)(Q:bo)(E:bL):Prop
 | mk (p d:Addr) (es:List Ent) (n t:Int) (_:vs=[.ref p,.int n,.int t]) (_:gU (ad 90) H p d es) (_:∀l kvs H',H l=none->aQ H H'->H' l∣.bO kvs->k6 (bk es n) t kvs->Q (.ref l) H')
inductive Vq (vs:List V)(H:ah)(Q:bo)(E:bL):Prop
 | mk (l:Addr) (kvs:List (Key×V)) (cell other:Int) (_:vs=[.ref l,.int cell,.int other]) (_:H l∣.bO kvs) (_:(∀(z:Int) v,aS kvs (.inl z)∣v->v=.bx\/∃i,v=.int i)) (_:∀b:Bool,(b=true↔(aS kvs (.inl other)=none/\(aS kvs (.inl cell)).getD .bx≠.int other))->Q (.bl b) H)
def e6 (e:Ent):Int:=e.b+(e.c.length:Int)-1
inductive Vr (ad:dJ)(vs:List V)(H:ah)(Q:bo)(E:bL):Prop
 | mk (p d:Addr) (es:List Ent) (n:Int) (_:vs=[.ref p,.int n]) (_:gU (ad 90) H p d es) (_:∀H' m,aQ H H'->ni ((bk es n).map e6) 0 m->Q (.int m) H')
inductive Vs (vs:List V)(H:ah)(Q:bo)(E:bL):Prop
 | mk (v:V) (b:Int) (c:List Int) (cell:Int) (_:vs=[v,.int cell]) (_:ef H v b c) (_:∀H' n,aQ H H'->tE b c cell n c.length->Q (.int n) H')
inductive Vt (ad:dJ)(vs:List V)(H:ah)(Q:bo)(E:bL):Prop
 | mk (p d:Addr) (es:List Ent) (n cell:Int) (_:vs=[.ref p,.int n,.int cell]) (_:gU (ad 90) H p d es) (_:∀H' v,aQ H H'->ko (bk es n) cell v->Q v H')
structure kz (C:Addr)(H:ah)(p d e:Addr)(es:List Ent):Prop where
 b3:kl C H p d es
 c2:H e∣.bO (c0 es)
 b8:hK H es
 ap:iA es
 ne:d≠e
theorem kz.same {p:Addr}(h:kz C H p d e es) (s:aQ H H'):kz C H' p d e es:=⟨h.b3.same s,s _ _ h.c2,h.b8.cH (mZ s),h.ap,h.ne⟩
def BI (d e:Addr)(H H':ah):Prop:=∀b o,H b∣o->b≠d->b≠e->H' b∣o
theorem Vu {o bQ:a3}:BI d e H (upd (upd H d o) e bQ):=λb u h di dO=>by rwa[zf dO,zf di]
theorem BI.cH {k1 k2:List (Key×V)} (s:BI d e H H') (hd:H d∣.bO k1) (he:H e∣.bO k2):fZ H H':=λb xs h=>s _ _ h (FY h hd) (FY h he)
theorem kz.set {p:Addr}{fF:List Ent}(t:kz C H p d e es) (b8:hK H fF) (ap:iA fF):kz C (upd (upd H d (.bO (c0 fF))) e (.bO (c0 fF))) p d e fF:=by
 obtain⟨av,aA⟩:=t.b3.ob;exact⟨⟨⟨av,by rwa[zf (cM aA t.c2 nofun),zf (cM aA t.b3.bj nofun)]⟩,by rw[zf t.ne,aH]⟩,aH,b8.cH ((Vu (H:=H)).cH t.b3.bj t.c2),ap,t.ne⟩
inductive Vv (vs:List V)(H:ah)(Q:bo)(E:bL):Prop
 | mk (d:Addr) (es:List Ent) (n:Int) (_:vs=[.ref d,.int n]) (_:ky H d es) (_:∀H' m,aQ H H'->ni ((bk es n).map e6) 0 m->Q (.int m) H')
theorem Vw:iA []:=λe he=>by cases he
theorem Vx {p:Addr}(b:kl C H p d []) (n:H e=none):kz C (upd H e (.bO [])) p d e []:=⟨b.same (bb n),aH,Rh,Vw,cg b.bj n⟩
def met (xs:List Int)(m:Nat)(c:Int):Nat:=m+((xs.drop m).takeWhile λx=>decide (x=c)).length
inductive Vy (K:Frag)(vs:List V)(H:ah)(Q:bo)(E:bL):Prop
 | mk (a:Addr) (xs:List Int) (m:Nat) (c:Int) (_:vs=[.ref a,.int (m:Int),.int c]) (_:aK K H a (xs.map V.int)) (_:m<=xs.length) (_:xs.length<=100) (_:Q (.int (met xs m c:Nat)) H)
inductive Vz (K:Frag)(vs:List V)(H:ah)(Q:bo)(E:bL):Prop
 | mk (a:Addr) (xs:List Int) (m:Nat) (c:Int) (_:vs=[.ref a,.int (m:Int),.int c]) (_:aK K H a (xs.map V.int)) (_:m<=xs.length) (_:xs.length<=100) (_:∀H',aQ H H'->Q (.int (met xs m c:Nat)) H')
inductive VA (K:Frag)(vs:List V)(H:ah)(Q:bo)(E:bL):Prop
 | mk (a:Addr) (xs:List Int) (st ch:Int) (_:vs=[.ref a,.int st,.int ch]) (_:aK K H a (xs.map V.int)) (_:xs.length<=100) (_:∀p H',aQ H H'->H p=none->H' p∣.bc [([.inl (met xs 0 st:Nat),.inl st],.int ch)]->Q (.ref p) H')
theorem Hy {xs:List Int}{n:Nat}(h:xs[n]?∣c):met xs n c=met xs (n+1) c:=by
 have aD:=(wa4.mp h).1
 have e:xs.drop n=c::xs.drop (n+1):=by
  rw[List.drop_eq_getElem_cons aD];have:=(wa4.mp h).2
  rw[this]
 unfold met;rw[e,List.takeWhile_cons,aM (by simp),length_cons];omega
theorem Hz {xs:List Int}{n:Nat}{x:Int}(h:xs[n]?∣x) (aq:x≠c):met xs n c=n:=by
 have aD:=(wa4.mp h).1
 have e:xs.drop n=x::xs.drop (n+1):=by
  rw[List.drop_eq_getElem_cons aD];have:=(wa4.mp h).2
  rw[this]
 unfold met;rw[e,List.takeWhile_cons,aB (by simp[aq]),length_nil];rfl
theorem HA {xs:List Int}{n:Nat}(h:xs.length<=n):met xs n c=n:=by
 unfold met;rw[List.drop_eq_nil_of_le h];rfl
theorem HB {c:Nat}:c∈(!"+.|").cps.toList↔common c=true:=by
 have ar:(!"+.|").cps.toList=[43,46,124]:=∅
 have aw:(!".+|").cps.toList=[46,43,124]:=∅
 rw[<- U8,ar,aw];simp only[mem_cons];exact or_left_comm
open Ly
structure ht where
 bJ:Addr
 cU:Addr
 b3:Addr
 n:Int
 aL:Addr
 bA:Addr
def jb (S:ht):List (Str×V):=dG "known" (.ref S.bA) (dG "stops" (.ref S.aL) (dG "number" (.int S.n) (dG "booked" (.ref S.b3) (dG "mover" (.ref S.cU) (dG "floor" (.ref S.bJ) [])))))
theorem BJ (S:ht):(jb S).lookup ("known":Str)∣.ref S.bA:=by unfold jb;rw[zm,aM rfl]
theorem VB (S:ht):(jb S).lookup ("stops":Str)∣.ref S.aL:=by unfold jb;rw[zm,aB ∅,zm,aM rfl]
theorem xj (S:ht):(jb S).lookup ("number":Str)∣.int S.n:=by unfold jb;rw[zm,aB ∅,zm,aB ∅,zm,aM rfl]
theorem xk (S:ht):(jb S).lookup ("booked":Str)∣.ref S.b3:=by unfold jb;rw[zm,aB ∅,zm,aB ∅,zm,aB ∅,zm,aM rfl]
theorem HC (S:ht):(jb S).lookup ("mover":Str)∣.ref S.cU:=by unfold jb;rw[zm,aB ∅,zm,aB ∅,zm,aB ∅,zm,aB ∅,zm,aM rfl]
theorem BK (S:ht):(jb S).lookup ("floor":Str)∣.ref S.bJ:=by unfold jb;rw[zm,aB ∅,zm,aB ∅,zm,aB ∅,zm,aB ∅,zm,aB ∅,zm,aM rfl]
theorem qp (S:ht){m:Str}(h:∀x∈(["known","stops","number","booked","mover","floor"]:List Str),¬m=x):(jb S).lookup m=none:=by
 unfold jb;rw[zm,aB (h _ (by simp)),zm,aB (h _ (by simp)),zm,aB (h _ (by simp)),zm,aB (h _ (by simp)),zm,aB (h _ (by simp)),zm,aB (h _ (by simp))];rfl
def BL (ad:dJ)(H:ah)(p:Addr)(S:ht):Prop:=∃av,H p∣.ins (ad 91) av (jb S)
def hc (i w:Nat)(sg:List Nat)(st:List Int)(m:Nat)(c:Int):List (List Key×Int):=(oD i w sg c).map λo=>(aW (met st m o.1) o.1,o.2)
def jc (H:ah)(t:Addr)(p:List Key×Int):Prop:=∃b,H t∣.tup [.ref b,.int p.2]/\H b∣.tup (p.1.map bq)
def lu (H:ah)(r:Addr)(ps:List (List Key×Int)):Prop:=∃ts:List Addr,H r∣.lst (ts.map V.ref)/\Paired (jc H) ts ps
theorem jc.cH {t:Addr}(s:fZ H H') (h:jc H t p):jc H' t p:=let⟨b,aa,ag⟩:=h;⟨b,s _ _ aa,s _ _ ag⟩
def e7 (H:ah)(bA:Addr)(i w:Nat)(sg:List Nat)(st:List Int):Prop:=∃kvs,H bA∣.bc kvs/\(kvs.map (·.1)).Nodup/\p3 st.length sg.length kvs/\∀m c v,aS kvs (aW m c)∣v->∃l,v=.ref l/\lu H l (hc i w sg st m c)
theorem lu.keep {l:Addr} (s:fZ H H') (aD:∀xs,H l∣.lst xs->H' l∣.lst xs) (h:lu H l ps):lu H' l ps:=let⟨ts,aa,ag⟩:=h;⟨ts,aD _ aa,Paired.fp ag λ_ _ z=>z.cH s⟩
theorem e7.same (s:aQ H H') (h:e7 H bA i w sg st):e7 H' bA i w sg st:=
 let⟨kvs,aa,ag,aR,b4⟩:=h
 ⟨kvs,s _ _ aa,ag,aR,λm c v aJ=>let⟨l,e,q⟩:=b4 m c v aJ;⟨l,e,q.keep (mZ s) λ_ z=>s _ _ z⟩⟩
def oE (H:ah)(bA z:Addr):Prop:=∀kvs k l,H bA∣.bc kvs->aS kvs k∣.ref l->l≠z
theorem e7.but {z:Addr}(h:e7 H bA i w sg st) (hn:oE H bA z) (hz:H z∣.lst xs) (s:v6 z H H'):e7 H' bA i w sg st:=by
 obtain⟨kvs,aa,ag,aR,b4⟩:=h;refine⟨kvs,s _ _ aa (cM aa hz nofun),ag,aR,λm c v aJ=>?_⟩;obtain⟨l,rfl,q⟩:=b4 m c v aJ;exact⟨l,rfl,q.keep (s.cH (λaF y=>by rw[hz]at y;cases y)) λ_ y=>s _ _ y (hn kvs _ l aa aJ)⟩
theorem e7.no {z:Addr}(h:e7 H bA i w sg st) (BM:H z=none) (s:aQ H H'):oE H' bA z:=by
 obtain⟨kvs,aa,ag,aR,b4⟩:=h;intro bF k l e aJ;rw[s _ _ aa]at e;cases e;obtain⟨m,c,rfl,_⟩:=aR k (pI aJ);obtain⟨rJ,e,ts,q,_⟩:=b4 m c _ aJ;cases e;exact cg q BM
structure e8 (ad:dJ)(K:Frag)(H:ah)(p:Addr)(S:ht)(i:Nat)(n:Int)(w h:Nat)(sg:List Nat)(st:List Int):Prop where
 sp:BL ad H p S
 rW:kv ad H S.cU i n
 eV:i<=3
 qq:iF (ad 83) H S.bJ w h sg
 g:Fl.Good w h sg
 xl:aK K H S.aL (st.map V.int)
 dI:st.length<=100
 hg:e7 H S.bA i w sg st
section
variable {ad:dJ}{K:Frag}{H H':ah}{p:Addr}{S:ht}{i:Nat}{n:Int}{w h:Nat}{sg:List Nat}{st:List Int}
theorem e8.same (o:e8 ad K H p S i n w h sg st)(s:aQ H H'):e8 ad K H' p S i n w h sg st:=
 ⟨let⟨av,e⟩:=o.sp;⟨av,s _ _ e⟩,o.rW.same s,o.eV,o.qq.same s,o.g,s.seq o.xl,o.dI,o.hg.same s⟩
structure Tab (u:a3):Prop where
 i:∀C av aT,.ins C av aT≠u
 l:∀xs,.lst xs≠u
 f:∀o xs,.cc o (.lst xs)≠u
 t:∀xs,.tup xs≠u
theorem xm:Tab (.bc kvs):=⟨λ_ _ _ z=>(nomatch z),λ_ z=>(nomatch z),λ_ _ z=>(nomatch z),λ_ z=>(nomatch z)⟩
theorem HD {o:Obj}:Tab (.cc o (.bc kvs)):=⟨λ_ _ _ z=>(nomatch z),λ_ z=>(nomatch z),λ_ _ z=>(by cases z),λ_ z=>(nomatch z)⟩
theorem xn {k:Addr}(h:aK K H a xs) (aj:H k∣u) (bZ:Tab u) (s:v6 k H H'):aK K H' a xs:=by
 rcases h with(h|⟨o,h⟩)|h
 ·exact .inl (.inl (s _ _ h (cM h aj (bZ.l _))))
 ·exact .inl (.inr ⟨o,s _ _ h (cM h aj (bZ.f _ _))⟩)
 ·exact .inr h
theorem e8.dq {k:Addr}(o:e8 ad K H p S i n w h sg st) (aj:H k∣u) (bZ:Tab u) (s:v6 k H H') (bA:e7 H' S.bA i w sg st):e8 ad K H' p S i n w h sg st:=by
 obtain⟨av,e⟩:=o.sp;obtain⟨h9,aw⟩:=o.rW;obtain⟨lx,l,bV,eI⟩:=o.qq.ob;exact⟨⟨av,s _ _ e (cM e aj (bZ.i _ _ _))⟩,⟨h9,s _ _ aw (cM aw aj (bZ.i _ _ _))⟩,o.eV,⟨⟨lx,l,s _ _ bV (cM bV aj (bZ.i _ _ _)),s _ _ eI (cM eI aj (bZ.l _))⟩⟩,o.g,xn o.xl aj bZ s,o.dI,bA⟩
theorem e8.b (o:e8 ad K H p S i n w h sg st)(s:v6 S.bA H H')(bA:e7 H' S.bA i w sg st):e8 ad K H' p S i n w h sg st:=
 let⟨_,e,_⟩:=o.hg
 o.dq e xm s bA
theorem e8.BN {k:Addr}(o:e8 ad K H p S i n w h sg st) (aj:H k∣u) (bZ:Tab u) (ne:S.bA≠k) (s:v6 k H H'):e8 ad K H' p S i n w h sg st:=by
 obtain⟨bF,aa,ag,aR,b4⟩:=id o.hg;refine o.dq aj bZ s ⟨bF,s _ _ aa ne,ag,aR,λm c v aJ=>?_⟩;obtain⟨l,rfl,q⟩:=b4 m c v aJ;exact⟨l,rfl,q.keep (s.cH (λaF y=>by rw[aj]at y;exact bZ.t _ (wa5 y).symm)) λ_ y=>s _ _ y (cM y aj (bZ.l _))⟩
theorem e8.other {k:Addr} (o:e8 ad K H p S i n w h sg st) (aj:H k∣.bc kvs) (ne:S.bA≠k) (s:v6 k H H'):e8 ad K H' p S i n w h sg st:=o.BN aj xm ne s
end
def eE (kvs:List (Key×V))(cell other:Int):Bool:=(aS kvs (.inl other)).isNone&&!decide ((aS kvs (.inl cell)).getD .bx=.int other)
theorem HE {kvs:List (Key×V)}{other:Int}:eE kvs cell other=true↔(aS kvs (.inl other)=none/\(aS kvs (.inl cell)).getD .bx≠.int other):=by
 unfold eE;rw[and_eq_true,Option.isNone_iff_eq_none,not_eq_true',decide_eq_false_iff_not]
def cz (es:List Ent)(t cell other:Int):Bool:=es.all λe=>!decide (b7 e.b e.c (t+1)=.int other)&&!(decide (b7 e.b e.c t=.int other)&&decide (b7 e.b e.c (t+1)=.int cell))
theorem qr {t other:Int}:cz es t cell other=true↔m3 es cell other t:=by
 unfold cz m3;rw[all_eq_true];refine forall_congr' λe=>forall_congr' λ_=>?_;rw[and_eq_true,not_eq_true',not_eq_true',decide_eq_false_iff_not,Bool.and_eq_false_iff,decide_eq_false_iff_not,decide_eq_false_iff_not,Classical.not_and_iff_not_or_not]
theorem HF {t other:Int}{kvs:List (Key×V)} (h:k6 es t kvs) (a:iA es) (nd:(es.map (·.k)).Nodup):eE kvs cell other=cz es t cell other:=
 Bool.eq_iff_iff.mpr (HE.trans ((Rm h a nd).trans qr.symm))
def cellK:List Key->Int
 | [_,.inl c]=>c
 | _=>0
def oF (op:Int->Int->Bool)(c q:Int)(p:List Key×Int):Option (List Key×Int):=if p.2<=q/\op c (cellK p.1)=true then some (p.1,q-p.2) else none
def reachOf (op:Int->Int->Bool)(i w:Nat)(sg:List Nat)(st:List Int)(n:Int)(m:Nat)(c q:Int):List (List Key×Int):=
 (if op c c=true then [(aW (met st m c) c,min (q+gs i (at_ sg c)) n)] else [])++(hc i w sg st m c).filterMap (oF op c q)
def jC (i w:Nat)(sg:List Nat)(n c o q:Int):Int:=if o=c then min n (q+gs i (at_ sg c)) else match lq i w sg c o with
 | none=>-1
 | some k=>q-k
def hN (op:Int->Int->Bool)(i w:Nat)(sg:List Nat)(st:List Int)(n:Int)(m:Nat)(c q o:Int):Option (List Key×Int):=if op c o=true/\0<=jC i w sg n c o q then some (aW (met st m o) o,jC i w sg n c o q) else none
def zu (op:Int->Int->Bool)(i w:Nat)(sg:List Nat)(st:List Int)(n:Int)(m:Nat)(c q:Int):List (List Key×Int):=([c]++dc w sg c).filterMap (hN op i w sg st n m c q)
theorem BO (i c:Nat):0<=gs i c:=by
 unfold gs;split
 ·split<;>decide
 ·decide
theorem VC {o:Int}(cZ:1<=w) (h:o∈dc w sg c):o≠c:=by
 have aa:=(mem_filter.mp h).1
 unfold kZ at aa;simp only[mem_append,mem_cons,not_mem_nil,or_false]at aa;rcases aa with((rfl|aa)|aa)|rfl
 ·omega
 ·split at aa
  ·have:o=c-1:=by simpa using aa
   omega
  ·cases aa
 ·split at aa
  ·have:o=c+1:=by simpa using aa
   omega
  ·cases aa
 ·omega
theorem VD {f g:α->Option β}{l:List α}(h:∀x∈l,f x=g x):l.filterMap f=l.filterMap g:=by
 induction l with
 | nil=>rfl
 | cons a r bE=>rw[filterMap_cons,filterMap_cons,h a (by simp),bE λx aq=>h x (by simp[aq])]
theorem BP {f:α->Option β}{e:α}(h:f e=none):[e].filterMap f=[]:=by simp[h]
theorem HG {f:α->Option β}{e:α}{y:β}(h:f e∣y):[e].filterMap f=[y]:=by simp[h]
theorem HH {h:Nat}{m:Nat}(g:Fl.Good w h sg) (aI:dT i (at_ sg c)=true) (c4:0<=n) (d9:0<=q):reachOf op i w sg st n m c q=zu op i w sg st n m c q:=by
 unfold reachOf zu;rw[List.filterMap_append];have uk:=BO i (at_ sg c)
 congr 1
 ·rw[filterMap_cons,List.filterMap_nil];unfold hN jC;rw[aM rfl];by_cases z:op c c=true
  ·rw[aM z,aM ⟨z,⋯⟩,Int.min_comm]
  ·rw[aB z,aB (λy=>z y.1)]
 ·unfold hc oD pairsOf;rw[List.filterMap_map,List.filterMap_filterMap];refine VD λo aA=>?_;have ne:=VC g.cZ aA
  unfold hN jC;rw[aB ne,Va aI];cases lq i w sg c o with
  | none=>exact(aB (λy=>br (show(0:Int)<=-1 from y.2) ∅)).symm
  | some k=>
   show(if k<=q/\op c o=true then _ else none)=if op c o=true/\0<=q-k then some (aW (met st m o) o,q-k) else none
   by_cases z:k<=q/\op c o=true
   ·rw[aM z,aM ⟨z.2,⋯⟩]
   ·rw[aB z,aB (λy=>z ⟨⋯,y.1⟩)]
def ly (f:Nat->Int->Int->List (List Key×Int)):List Key×V->List (List Key×Int)
 | ([.inl m,.inl c],.int q)=>f m.toNat c q
 | _=>[]
def spread (f:Nat->Int->Int->List (List Key×Int))(b2:List (List Key×V)):List (List Key×V):=(b2.flatMap (ly f)).foldl fe []
structure dk (st:List Int)(sg:List Nat)(b2:List (List Key×V)):Prop where
 nd:(b2.map (·.1)).Nodup
 ok:∀x∈b2,∃(m:Nat)(c q:Int),x=(aW m c,.int q)/\m<=st.length/\en sg c/\0<=q
theorem HI {m:Nat}(h:b2[j]?∣(aW m c,.int q)):spread f (b2.take (j+1))=(f m c q).foldl fe (spread f (b2.take j)):=by
 unfold spread;rw[take_add_one,h,List.flatMap_append,List.foldl_append];show((ly f (aW m c,.int q))++[]).foldl fe _=_
 rw[append_nil];rfl
def Rows (st:List Int)(sg:List Nat)(ps:List (List Key×Int)):Prop:=∀x∈ps,0<=x.2/\∃(m:Nat)(c:Int),x.1=aW m c/\m<=st.length/\en sg c
structure lz (st:List Int)(sg:List Nat)(kvs:List (List Key×V)):Prop where
 gb:Nums kvs
 xo:p3 st.length sg.length kvs
theorem lz.add {x:List Key×Int}(t:lz st sg kvs) (h:0<=x.2/\∃(m:Nat)(c:Int),x.1=aW m c/\m<=st.length/\en sg c):lz st sg (fe kvs x):=by
 obtain⟨h0,m,c,e,hm,ak⟩:=h;refine⟨t.gb.add h0,λk aj=>?_⟩;rcases Rz aj with z|z
 ·exact⟨m,c,z.trans e,hm,ak.1,ak.2⟩
 ·exact t.xo k z
theorem lz.fold {st:List Int}{sg:List Nat}:∀{ps:List (List Key×Int)}{kvs:List (List Key×V)},lz st sg kvs->Rows st sg ps->lz st sg (ps.foldl fe kvs)
 | [],_,t,_=>t
 | x::r,kvs,t,h=>lz.fold (ps:=r) (kvs:=fe kvs x) (t.add (h x (by simp))) λy bg=>h y (by simp[bg])
theorem VE:lz st sg []:=⟨Rw,F6⟩
theorem qs {xs:List Int}{m:Nat}(h:m<=xs.length):met xs m c<=xs.length:=by
 unfold met;have aa:=(List.takeWhile_sublist (p:=λx=>decide (x=c)) (l:=xs.drop m)).length_le
 rw[length_drop]at aa;omega
theorem BQ {h:Nat}{m:Nat}(g:Fl.Good w h sg) (hm:m<=st.length):∀x∈hc i w sg st m c,∃(ba:Nat)(o:Int),x.1=aW ba o/\ba<=st.length/\en sg o/\o∈dc w sg c:=by
 intro x aq;obtain⟨⟨o,k⟩,aA,rfl⟩:=mem_map.mp aq;obtain⟨bQ,eg,e⟩:=mem_filterMap.mp aA;cases hf:costOf i w sg c bQ with
 | none=>rw[hf]at e;cases e
 | some eG=>
  rw[hf]at e;cases e;exact⟨_,_,rfl,qs hm,qn g eg,eg⟩
theorem xp {h:Nat}{m:Nat}(g:Fl.Good w h sg) (hm:m<=st.length) (ak:en sg c) (c4:0<=n) (d9:0<=q):Rows st sg (reachOf op i w sg st n m c q):=by
 intro x aq;have uk:=BO i (at_ sg c)
 rcases mem_append.mp aq with y|y
 ·split at y
  ·have e:x=_:=mem_singleton.mp y
   subst e;exact⟨by show 0<=min (q+gs i (at_ sg c)) n;omega,_,c,rfl,qs hm,ak⟩
  ·cases y
 ·obtain⟨z,hz,e⟩:=mem_filterMap.mp y;unfold oF at e;split at e
  ·rename_i ao;cases e;obtain⟨ba,o,ar,aw,bV,_⟩:=BQ g hm z hz;exact⟨by show 0<=q-z.2;omega,ba,o,ar,aw,bV⟩
  ·cases e
theorem lz.bh  (t:lz st sg kvs):dk st sg kvs:=by
 refine⟨t.gb.nd,λx aq=>?_⟩;obtain⟨q,ao,d9⟩:=t.gb.nn x.1 x.2 (i9 t.gb.nd aq);obtain⟨m,c,e,hm,dj,cL⟩:=t.xo x.1 (mem_map.mpr ⟨x,aq,rfl⟩);exact⟨m,c,q,Prod.ext e ao,hm,⟨dj,cL⟩,d9⟩
theorem ny  (l:dk st sg b2) (h:∀m c q,m<=st.length->en sg c->0<=q->Rows st sg (f m c q)):lz st sg (spread f b2):=by
 unfold spread;refine VE.fold λx aq=>?_;obtain⟨y,bg,aq⟩:=mem_flatMap.mp aq;obtain⟨m,c,q,rfl,hm,ak,d9⟩:=l.ok y bg;exact h m c q hm ak d9 x aq
theorem dk.take  (l:dk st sg b2) (j:Nat):dk st sg (b2.take j):=
 ⟨by rw[List.map_take];exact l.nd.sublist (List.take_sublist _ _),λx aq=>l.ok x (List.mem_of_mem_take aq)⟩
theorem VF (h:m4 kvs p.1 (-1)<p.2):fe kvs p=putK kvs p.1 (.int p.2):=aM h
theorem VG (h:¬m4 kvs p.1 (-1)<p.2):fe kvs p=kvs:=aB h
theorem HJ {k:List Key}{d:Int}(h:Nums kvs):(aS kvs k).getD (.int d)=.int (m4 kvs k d):=by
 unfold m4;cases e:aS kvs k with
 | none=>rfl
 | some v=>
  obtain⟨q,rfl,_⟩:=h.nn k v e;rfl
def jd (i:Nat)(sg:List Nat):List Int:=(places sg).filter λc=>dT i (at_ sg c)
inductive VH (ad:dJ)(vs:List V)(H:ah)(Q:bo)(E:bL):Prop
 | mk (p av bJ cU b3 aL:Addr) (n:Int) (_:vs=[.ref p,.ref bJ,.ref cU,.ref b3,.int n,.ref aL]) (_:H p∣.ins (ad 91) av []) (_:∀bA H',H bA=none->BL ad H' p ⟨bJ,cU,b3,n,aL,bA⟩->H' bA∣.bc []->(∀b o,H b∣o->b≠p->H' b∣o)->Q .bx H')
inductive VI (ad:dJ)(K:Frag)(vs:List V)(H:ah)(Q:bo)(E:bL):Prop
 | mk (p b:Addr) (S:ht) (m:Nat) (dj c:Int) (st:List Int) (_:vs=[.ref p,.ref b,.int c]) (_:BL ad H p S) (_:H b∣.tup ((aW m dj).map bq)) (_:aK K H S.aL (st.map V.int)) (_:m<=st.length) (_:st.length<=100) (_:∀r,H r=none->Q (.ref r) (upd H r (.tup ((aW (met st m c) c).map bq))))
inductive VJ (ad:dJ)(K:Frag)(vs:List V)(H:ah)(Q:bo)(E:bL):Prop
 | mk (p b:Addr) (S:ht) (i:Nat) (n:Int) (w h:Nat) (sg:List Nat) (st:List Int) (m:Nat) (c:Int) (_:vs=[.ref p,.ref b]) (_:e8 ad K H p S i n w h sg st) (_:H b∣.tup ((aW m c).map bq)) (_:m<=st.length) (_:en sg c) (_:∀r H',v6 S.bA H H'->e7 H' S.bA i w sg st->(∀z,oE H S.bA z->H z≠none->oE H' S.bA z/\r≠z)->lu H' r (hc i w sg st m c)->Q (.ref r) H')
inductive VK (ad:dJ)(K:Frag)(vs:List V)(H:ah)(Q:bo)(E:bL):Prop
 | mk (p b eK:Addr) (S:ht) (i:Nat) (n:Int) (w h:Nat) (sg:List Nat) (st:List Int) (m:Nat) (c q:Int) (kvs:List (Key×V)) (_:vs=[.ref p,.ref eK,.ref b,.int q]) (_:e8 ad K H p S i n w h sg st) (_:H b∣.tup ((aW m c).map bq)) (_:m<=st.length) (_:en sg c) (_:H eK∣.bO kvs) (_:(∀(z:Int) v,aS kvs (.inl z)∣v->v=.bx\/∃i,v=.int i)) (_:∀r H',v6 S.bA H H'->e7 H' S.bA i w sg st->H r=none->lu H' r (reachOf (eE kvs) i w sg st n m c q)->Q (.ref r) H')
inductive VL (ad:dJ)(K:Frag)(vs:List V)(H:ah)(Q:bo)(E:bL):Prop
 | mk (p bh d:Addr) (S:ht) (i:Nat) (n t:Int) (w h:Nat) (sg:List Nat) (st:List Int) (es:List Ent) (b2:List (List Key×V)) (_:vs=[.ref p,.int t,.ref bh]) (_:e8 ad K H p S i n w h sg st) (_:gU (ad 90) H S.b3 d es) (_:iA es) (_:0<=n) (_:H bh∣.bc b2) (_:dk st sg b2) (_:bh≠S.bA) (_:∀r H',v6 S.bA H H'->e7 H' S.bA i w sg st->H r=none->H' r∣.bc (spread (reachOf (cz (bk es S.n) t) i w sg st n) b2)->Q (.ref r) H')
inductive VM (K:Frag)(vs:List V)(H:ah)(Q:bo)(E:bL):Prop
 | mk (a:Addr) (ns:List Int) (k:Int) (_:vs=[.ref a,.int k]) (_:aK K H a (ns.map V.int)) (_:(∀i∈ns,kV i)) (_:0<=k) (_:k<=100) (_:∀r:Int,0<=r->r<2147483647->Q (.int r) H)
inductive VN (K:Frag)(vs:List V)(H:ah)(Q:bo)(E:bL):Prop
 | mk (a:Addr) (ns:List Int) (_:vs=[.ref a]) (_:aK K H a (ns.map V.int)) (_:(∀i∈ns,kV i)) (_:∀l H' w h sg,H l=none->aQ H H'->hb H' l w h sg->Fl.Good w h sg->46∈sg->sg.length<=9->Q (.ref l) H')
inductive VO (vs:List V)(H:ah)(Q:bo)(E:bL):Prop
 | mk (l:Addr) (w h:Nat) (sg:List Nat) (c:Int) (_:vs=[.ref l,.int c]) (_:hb H l w h sg) (_:Fl.Good w h sg) (_:en sg c) (_:Gives H Q (dc w sg c))
inductive VP (vs:List V)(H:ah)(Q:bo)(E:bL):Prop
 | mk (x:Str) (i:Nat) (l:Addr) (w h:Nat) (sg:List Nat) (cell other:Int) (_:vs=[.ref l,.str x,.int cell,.int other]) (_:j2[i]?∣x) (_:hb H l w h sg) (_:Fl.Good w h sg) (_:en sg cell) (_:en sg other) (_:∀H',aQ H H'->Q (oC (lq i w sg cell other)) H')
inductive VQ (vs:List V)(H:ah)(Q:bo)(E:bL):Prop
 | mk (x:Str) (i:Nat) (l:Addr) (w h:Nat) (sg:List Nat) (n cell q:Int) (_:vs=[.ref l,.str x,.int n,.int cell,.int q]) (_:j2[i]?∣x) (_:i<3) (_:hb H l w h sg) (_:Fl.Good w h sg) (_:en sg cell) (_:∀H',aQ H H'->Q (.int (min n (q+gs i (at_ sg cell)))) H')
inductive VR (vs:List V)(H:ah)(Q:bo)(E:bL):Prop
 | mk (e:Addr) (es:List Ent) (num cell other t:Int) (_:vs=[.ref e,.int num,.int cell,.int other,.int t]) (_:ky H e es) (_:∀H',aQ H H'->Q (.bl (cz (bk es num) t cell other)) H')
inductive VS (ad:dJ)(K:Frag)(vs:List V)(H:ah)(Q:bo)(E:bL):Prop
 | mk (a l:Addr) (ns:List Int) (f num:Int) (w h:Nat) (sg:List Nat) (_:vs=[.ref a,.int f,.ref l,.int num]) (_:aK K H a (ns.map V.int)) (_:(∀i∈ns,kV i)) (_:0<=f) (_:f<=50) (_:hb H l w h sg) (_:Fl.Good w h sg) (_:∀r p d e es H',aQ H H'->H' r∣.tup [.ref p,.ref e]->kz (ad 90) H' p d e es->Q (.ref r) H')
inductive VT (vs:List V)(H:ah)(Q:bo)(E:bL):Prop
 | mk (x:Str) (i:Nat) (l:Addr) (w h:Nat) (sg:List Nat) (_:vs=[.ref l,.str x]) (_:j2[i]?∣x) (_:hb H l w h sg) (_:Fl.Good w h sg) (_:Gives H Q (jd i sg))
inductive VU (K:Frag)(vs:List V)(H:ah)(Q:bo)(E:bL):Prop
 | mk (x:Str) (i:Nat) (l e aL bh:Addr) (n num t:Int) (w h:Nat) (sg:List Nat) (st:List Int) (es:List Ent) (b2:List (List Key×V)) (_:vs=[.ref l,.str x,.int n,.ref e,.int num,.ref aL,.int t,.ref bh]) (_:j2[i]?∣x) (_:i<3) (_:hb H l w h sg) (_:Fl.Good w h sg) (_:ky H e es) (_:aK K H aL (st.map V.int)) (_:st.length<=100) (_:0<=n) (_:H bh∣.bc b2) (_:dk st sg b2) (_:∀r H',aQ H H'->H r=none->H' r∣.bc (spread (zu (cz (bk es num) t) i w sg st n) b2)->Q (.ref r) H')
theorem rX {c:Nat}:(dw c=V.str (!"#"))↔c=35:=qm ∅
theorem HK {c:Nat}(h:c=35):dT i c=false:=by
 subst h;unfold dT common;simp
theorem VV {m:Nat}:tJ (aW m c):=λx aq=>by
 rcases mem_cons.mp aq with rfl|y
 ·exact⟨_,rfl⟩
 ·rw[mem_singleton.mp y];exact⟨_,rfl⟩
theorem HL {α β:Type}{f:α->β}:∀{m:List α}{x y:α},(m.map f).Nodup->x∈m->y∈m->f x=f y->x=y
 | a::m,x,y,nd,aq,bg,e=>by
  obtain⟨di,dO⟩:=nodup_cons.mp nd;rcases mem_cons.mp aq with ar|aa<;>rcases mem_cons.mp bg with aw|ag
  ·rw[ar,aw]
  ·exact br (by rw[<- ar,e];exact mem_map.mpr ⟨y,ag,rfl⟩) di
  ·exact br (by rw[<- aw,<- e];exact mem_map.mpr ⟨x,aa,rfl⟩) di
  ·exact HL dO aa ag e
theorem HM {α β:Type}{f:α->β}{m:List α}(hm:(m.map f).Nodup):∀{l:List α},l.Nodup->(∀x∈l,x∈m)->(l.map f).Nodup
 | [],_,_=>nodup_nil
 | a::l,nd,h=>by
  obtain⟨di,dO⟩:=nodup_cons.mp nd;refine nodup_cons.mpr ⟨λz=>?_,HM hm dO λx aq=>h x (mem_cons_of_mem _ aq)⟩;obtain⟨b,ae,e⟩:=mem_map.mp z;rw[HL hm (h b (mem_cons_of_mem _ ae)) (h a mem_cons_self) e]at ae;exact di ae
theorem dk.hash  (l:dk st sg b2) (aa:st.length<=4) (ag:sg.length<=9):(∀k∈b2.map (·.1),tJ k)/\((b2.map (·.1)).map rz).Nodup:=by
 refine⟨λk aj=>?_,HM (m:=ul 4 9) ∅ l.nd λk aj=>?_⟩
 ·obtain⟨x,aq,rfl⟩:=mem_map.mp aj;obtain⟨m,c,q,rfl,_⟩:=l.ok x aq;exact VV
 ·obtain⟨x,aq,rfl⟩:=mem_map.mp aj;obtain⟨m,c,q,rfl,hm,ak,_⟩:=l.ok x aq;obtain⟨j,rfl⟩:=eq_ofNat_of_zero_le ak.1;have:=ak.2
  exact mem_flatMap.mpr ⟨m,mem_range.mpr ⋯,mem_map.mpr ⟨j,mem_range.mpr ⋯,rfl⟩⟩
theorem VW (h:c∈jd i sg):en sg c/\dT i (at_ sg c)=true:=by
 obtain⟨aa,ag⟩:=mem_filter.mp h;exact⟨wj.mp aa,ag⟩
theorem VX (h:46∈sg):jd i sg≠[]:=by
 obtain⟨j,aZ⟩:=mem_iff_getElem?.mp h;have aeB:=(wa4.mp aZ).1
 intro z;have hm:((j:Nat):Int)∈jd i sg:=mem_filter.mpr ⟨wj.mpr ⟨⋯,⋯⟩,by
  unfold at_;rw[toNat_natCast,getD_eq_getElem?_getD,aZ];rfl⟩
 rw[z]at hm;cases hm
theorem VY:(jd i sg).length<=sg.length:=by
 unfold jd places;refine wa0 (length_filter_le _ _) ?_;rw[length_map,List.length_range];exact wa8 _
def lA:List (Int×Int):=[(-1,0),(0,-1),(0,1),(1,0)]
def hO (w h:Nat)(sg:List Nat)(c:Int)(d:Int×Int):List Int:=if (0<=c/w+d.1/\c/w+d.1<h)/\(0<=c%w+d.2/\c%w+d.2<w)/\at_ sg (c+d.1*w+d.2)≠35 then [c+d.1*w+d.2] else []
theorem cell_in {h:Nat}(hF:0<=r) (bX:r<h) (d9:0<=q) (a8:q<w):0<=(w:Int)*r+q/\(w:Int)*r+q<((w*h:Nat):Int):=by
 have a:=Int.mul_nonneg (show(0:Int)<=w by omega) hF
 have b:=Int.mul_le_mul_of_nonneg_left (show r+1<=(h:Int) by omega) (show(0:Int)<=w by omega)
 rw[Int.mul_add,Int.mul_one]at b;have e:((w*h:Nat):Int)=(w:Int)*h:=by simp
 omega
theorem HN {h:Nat}{ez ac:Int}(cZ:1<=w) (aa:0<=c/w+ez/\c/w+ez<h) (ag:0<=c%w+ac/\c%w+ac<w):0<=c+ez*w+ac/\c+ez*w+ac<((w*h:Nat):Int):=by
 have z:=cell_in aa.1 aa.2 ag.1 ag.2
 have e:=Int.mul_ediv_add_emod c w
 rw[Int.mul_add,Int.mul_comm (w:Int) ez]at z;omega
theorem HO {w h:Nat}{sg:List Nat}{c:Int}:∀l:List (Int×Int),(l.flatMap (hO w h sg c)).length<=l.length
 | []=>zero_le _
 | d::l=>by
  have:=HO (w:=w) (h:=h) (sg:=sg) (c:=c) l
  have one:(hO w h sg c d).length<=1:=by unfold hO;split<;>simp
  rw[flatMap_cons,length_append,length_cons];omega
theorem VZ {h:Nat}(g:Fl.Good w h sg) (ak:en sg c):lA.flatMap (hO w h sg c)=dc w sg c:=by
 have cZ:=g.cZ
 have len:=g.len
 have d9:=emod_nonneg c (show(w:Int)≠0 by omega)
 have a8:=emod_lt_of_pos c (show(0:Int)<w by omega)
 have rl:=Int.mul_ediv_add_emod c w
 have wo:0<=c/w:=Int.ediv_nonneg ak.1 ⋯
 have gg:c/w<h:=Int.ediv_lt_of_lt_mul ⋯ (by have:=ak.2;rw[len,Nat.mul_comm]at this;simpa using this)
 have hit:∀(ez ac:Int),(0<=c/w+ez/\c/w+ez<h)->(0<=c%w+ac/\c%w+ac<w)->hO w h sg c (ez,ac)=[c+ez*w+ac].filter (gH sg):=λez ac a b=>by
  obtain⟨oG,iX⟩:=HN cZ a b;rw[<- len]at iX;unfold hO;rw[filter_cons,filter_nil];unfold gH;rw[decide_eq_true oG,decide_eq_true iX];by_cases z:at_ sg (c+ez*w+ac)=35
  ·rw[aB (λy=>y.2.2 z),aB (by rw[decide_eq_true z];decide)]
  ·rw[aM ⟨a,b,z⟩,aM (by rw[decide_eq_false z];decide)]
 have miss:∀(ez ac:Int),¬((0<=c/w+ez/\c/w+ez<h)/\(0<=c%w+ac/\c%w+ac<w))->hO w h sg c (ez,ac)=[]:=λez ac a=>aB λy=>a ⟨y.1,y.2.1⟩
 have V0:(w:Int)*h=((sg.length:Nat):Int):=by rw[len];simp
 have up:hO w h sg c (-1,0)=[c-w].filter (gH sg):=by
  by_cases z:0<=c/w+-1
  ·rw[hit (-1) 0 ⟨z,⋯⟩ ⟨⋯,⋯⟩,show c+-1*(w:Int)+0=c-w by omega]
  ·rw[miss (-1) 0 (λy=>z y.1.1),filter_cons,filter_nil,aB];have e:c/(w:Int)=0:=⋯
   rw[e,Int.mul_zero]at rl;unfold gH;rw[decide_eq_false (show ¬0<=c-(w:Int) by omega)];simp
 have down:hO w h sg c (1,0)=[c+w].filter (gH sg):=by
  by_cases z:c/w+1<h
  ·rw[hit 1 0 ⟨⋯,z⟩ ⟨⋯,⋯⟩,show c+1*(w:Int)+0=c+w by omega]
  ·rw[miss 1 0 (λy=>z y.1.2),filter_cons,filter_nil,aB];have e:(h:Int)=c/w+1:=⋯
   rw[e,Int.mul_add,Int.mul_one]at V0;unfold gH;rw[decide_eq_false (show ¬c+(w:Int)<(sg.length:Nat) by omega)];simp
 have left:hO w h sg c (0,-1)=(if c%w>0 then [c-1] else []).filter (gH sg):=by
  by_cases z:c%w>0
  ·rw[aM z,hit 0 (-1) ⟨⋯,⋯⟩ ⟨⋯,⋯⟩,show c+0*(w:Int)+-1=c-1 by omega]
  ·rw[aB z,miss 0 (-1) (λy=>z ⋯),filter_nil]
 have right:hO w h sg c (0,1)=(if c%w<(w:Int)-1 then [c+1] else []).filter (gH sg):=by
  by_cases z:c%w<(w:Int)-1
  ·rw[aM z,hit 0 1 ⟨⋯,⋯⟩ ⟨⋯,⋯⟩,show c+0*(w:Int)+1=c+1 by omega]
  ·rw[aB z,miss 0 1 (λy=>z ⋯),filter_nil]
 unfold dc kZ lA;rw[filter_append,filter_append,filter_append,<- up,<- left,<- right,<- down];simp[flatMap_cons]
inductive V1 (vs:List V)(H:ah)(Q:bo)(E:bL):Prop
 | mk (v:V) (t:Int) (_:vs=[v,.int t]) (_:(v=.bx\/∃n:Int,v=.int n)) (_:∀b:Bool,(b=true↔tO v t)->Q (.bl b) H)
inductive V2 (vs:List V)(H:ah)(Q:bo)(E:bL):Prop
 | mk (v:V) (b:Int) (c:List Int) (t e:Int) (_:vs=[v,.int t,.int e]) (_:ef H v b c) (_:Good b c) (_:0<=t) (_:t<=e) (_:e<=10^16) (_:∀r:Int,t<=r->r<=e->(∀s,t<=s->s<=r->b7 b c s=b7 b c t)->Q (.int r) H)
inductive V3 (ad:dJ)(vs:List V)(H:ah)(Q:bo)(E:bL):Prop
 | mk (p d:Addr) (es:List Ent) (n t e:Int) (_:vs=[.ref p,.int n,.int t,.int e]) (_:gU (ad 90) H p d es) (_:0<=t) (_:t<=e) (_:e<=10^16) (_:∀H' r,aQ H H'->t<=r->r<=e->Still (bk es n) t r->Q (.int r) H')
structure rY (es:List Ent)(cell f i:Int):Prop where
 pos:0<=f
 le:f<=i
 low:∀e∈es,∀t,0<=t->t<i->b7 e.b e.c t=.int cell->t<f
 hit:f=0\/∃e∈es,b7 e.b e.c (f-1)=.int cell
structure qt (es fF:List Ent)(cell f i:Int):Prop where
 pos:0<=f
 le:f<=i+1
 low:∀e∈es,∀t,0<=t->t<i->b7 e.b e.c t=.int cell->t<f
 lB:∀e∈fF,b7 e.b e.c i=.int cell->i<f
 hit:f=0\/∃e∈es,b7 e.b e.c (f-1)=.int cell
theorem V4:rY es cell 0 0:=⟨wa9 _,wa9 _,λe _ t aa ag=>by omega,.inl rfl⟩
theorem V5 {f i:Int}(h:rY es cell f i):qt es [] cell f i:=⟨h.pos,by have:=h.le;omega,h.low,λe he=>(by cases he),h.hit⟩
theorem V6 {fF:List Ent}{e:Ent}{f i:Int}(h:qt es fF cell f i) (p:b7 e.b e.c i≠.int cell):qt es (fF++[e]) cell f i:=⟨h.pos,h.le,h.low,λx aq q=>by
 rcases mem_append.mp aq with y|y
 ·exact h.lB x y q
 ·rw[mem_singleton.mp y]at q;exact br q p,h.hit⟩
theorem V7 {fF:List Ent}{e:Ent}{f i:Int}(h:qt es fF cell f i) (oG:0<=i) (he:e∈es) (p:b7 e.b e.c i=.int cell):qt es (fF++[e]) cell (i+1) i:=⟨⋯,wa9 _,λx aq t t0 t1 _=>by omega,λx aq q=>by omega,.inr ⟨e,he,by rwa[show i+1-1=i by omega]⟩⟩
theorem V8 {f i:Int}(h:qt es es cell f i):rY es cell f (i+1):=⟨h.pos,h.le,λe he t t0 t1 q=>by
 by_cases z:t=i
 ·rw[z]at q ⊢;exact h.lB e he q
 ·exact h.low e he t t0 ⋯ q,h.hit⟩
theorem V9 {f l:Int}(h:rY es cell f (l+1)) (um:0<=l) (ak:∀e∈es,e.c≠[]) (aD:∀e∈es,e6 e<=l):ko es cell (if f>l then .bx else .int f):=by
 have BR:∀e∈es,∀t,l<=t->b7 e.b e.c t=.int (cG e.c):=λe he t bC=>ru (ak e he) (by have:=aD e he;unfold e6 at this;omega)
 have le:=h.le
 split
 ·refine .inl ⟨rfl,?_⟩;rcases h.hit with z|⟨e,he,q⟩
  ·omega
  ·rw[BR e he (f-1) ⋯]at q;exact⟨e,he,V.int.inj q⟩
 ·have ne:∀e∈es,cG e.c≠cell:=λe he z=>by
   have:=h.low e he l um ⋯ (by rw[BR e he l (wa9 _),z])
   omega
  refine .inr ⟨f,rfl,ne,h.pos,λe he t t0 q=>?_,h.hit⟩;by_cases z:t<l+1
  ·exact h.low e he t t0 z q
  ·rw[BR e he t ⋯]at q;exact br (V.int.inj q) (ne e he)
inductive Wa (vs:List V)(H:ah)(Q:bo)(E:bL):Prop
 | mk (d:Addr) (es:List Ent) (n cell l:Int) (_:vs=[.ref d,.int n,.int cell,.int l]) (_:ky H d es) (_:0<=l) (_:l<=10^10) (_:(∀e∈bk es n,e6 e<=l)) (_:∀H' v,aQ H H'->ko (bk es n) cell v->Q v H')
def gu (es:List Ent)(st:List Int)(b2:List (List Key×V))(t least:Int):Prop:=∃(q:Int)(v:V),aS b2 (aW st.length (cG st))∣.int q/\least<=q/\ko es (cG st) v/\tO v t
def rZ (H:ah)(cU:Addr)(x:Str)(n num:Int):Prop:=H cU∣.tup [.str x,.int n,.int num]
inductive Wb (K:Frag)(vs:List V)(H:ah)(Q:bo)(E:bL):Prop
 | mk (e cU aL bh:Addr) (es:List Ent) (x:Str) (n num:Int) (st:List Int) (sg:List Nat) (b2:List (List Key×V)) (t least:Int) (_:vs=[.ref e,.ref cU,.ref aL,.ref bh,.int t,.int least]) (_:ky H e es) (_:rZ H cU x n num) (_:aK K H aL (st.map V.int)) (_:st≠[]) (_:st.length<=100) (_:H bh∣.bc b2) (_:dk st sg b2) (_:∀H' b,aQ H H'->(b=true↔gu (bk es num) st b2 t least)->Q (.bl b) H')
theorem lC {h:Nat}(g:Fl.Good w h sg):∀(m:Nat)(c q:Int),m<=st.length->en sg c->0<=q->Rows st sg (zu op i w sg st n m c q):=λm c q hm ak d9 z hz=>by
 obtain⟨o,aA,ar⟩:=mem_filterMap.mp hz;unfold hN at ar;split at ar
 ·rename_i bD;cases ar;refine⟨bD.2,_,o,rfl,qs hm,?_⟩;rcases mem_append.mp aA with y|y
  ·rwa[mem_singleton.mp y]
  ·exact qn g y
 ·cases ar
abbrev e9 (es:List Ent)(i w:Nat)(sg:List Nat)(st:List Int)(n:Int):Int->List (List Key×V)->List (List Key×V):=λt f=>spread (zu (cz es t) i w sg st n) f
structure oH (H:ah)(st:List Int)(sg:List Nat)(T:Nat->List (List Key×V))(ts:List Addr):Prop where
 at':∀(j:Nat)(t:Addr),ts[j]?∣t->H t∣.bc (T j)
 ok:∀j,j<ts.length->dk st sg (T j)
theorem oH.step {T:Nat->List (List Key×V)}{p r:Addr}{vs Wc:List V}(h:oH H st sg T ts) (aG:H p∣.lst vs) (s:aQ H H') (a5:H' r∣.bc (T ts.length)) (ok:dk st sg (T ts.length)):oH (upd H' p (.lst Wc)) st sg T (ts++[r]):=by
 have ne:∀t bF,H' t∣.bc bF->t≠p:=λt bF q z=>by rw[z,s _ _ aG]at q;cases q
 refine⟨λj t aZ=>?_,λj aZ=>?_⟩
 ·rcases lt_or_ge j ts.length with z|z
  ·rw[getElem?_append_left z]at aZ;have:=s _ _ (h.at' j t aZ)
   rwa[zf (ne t _ this)]
  ·have aD:=(wa4.mp aZ).1
   rw[length_append]at aD;obtain rfl:j=ts.length:=by have:([r]:List Addr).length=1:=rfl;omega
   rw[getElem?_append_right (wa8 _),Nat.sub_self]at aZ;cases aZ;rwa[zf (ne r _ a5)]
 ·rw[length_append]at aZ;have:([r]:List Addr).length=1:=rfl
  by_cases z:j=ts.length
  ·rwa[z]
  ·exact h.ok j ⋯
inductive Wd (K:Frag)(vs:List V)(H:ah)(Q:bo)(E:bL):Prop
 | mk (x:Str) (i:Nat) (l cU e aL bh:Addr) (n num b cX:Int) (w h:Nat) (sg:List Nat) (st:List Int) (es:List Ent) (b2:List (List Key×V)) (_:vs=[.ref l,.ref cU,.ref e,.ref aL,.int b,.ref bh,.int cX]) (_:j2[i]?∣x) (_:i<3) (_:hb H l w h sg) (_:Fl.Good w h sg) (_:rZ H cU x n num) (_:ky H e es) (_:aK K H aL (st.map V.int)) (_:st.length<=100) (_:0<=n) (_:0<=b) (_:b<=cX) (_:cX<=10^6) (_:H bh∣.bc b2) (_:dk st sg b2) (_:∀r H' (ts:List Addr),aQ H H'->H r=none->H' r∣.lst (ts.map V.ref)->ts.length=(cX-b).toNat+1->oH H' st sg (Sr.mc (e9 (bk es num) i w sg st n) b b2) ts->Q (.ref r) H')
inductive We (ad:dJ)(vs:List V)(H:ah)(Q:bo)(E:bL):Prop
 | mk (x av bh:Addr) (k:Int) (st:List Int) (sg:List Nat) (b2:List (List Key×V)) (_:vs=[.ref x,.int k,.ref bh]) (_:H x∣.ins (ad 89) av []) (_:H bh∣.bc b2) (_:dk st sg b2) (_:(∀k∈b2.map (·.1),tJ k)) (_:((b2.map (·.1)).map rz).Nodup) (_:∀r H',H r=none->H' x∣.ins (ad 89) av [("moment",.int k),("layer",.ref r)]->H' r∣.bc b2->(∀b,b≠x->b≠r->H' b=H b)->Q .bx H')
theorem mm {l:List (List Key×V)}{k:List Key}(h:aS l k∣v):(k,v)∈l:=by
 unfold aS at h;cases e:l.find? λbF=>decide (bF.1=k) with
 | none=>rw[e]at h;cases h
 | some x=>
  rw[e]at h;have aa:=List.mem_of_find?_eq_some e
  have ag:=List.find?_some e
  have aR:x.1=k:=of_decide_eq_true ag
  have b4:x.2=v:=wa5 h
  rwa[<- aR,<- b4]
theorem HP {e2 e3:List (List Key×V)} (nd:(e2.map (·.1)).Nodup) (h:∀k,aS e2 k=aS e3 k):Af (e2.flatMap (ly f)) (e3.flatMap (ly f)):=λk q aj=>by
 obtain⟨x,aq,aj⟩:=mem_flatMap.mp aj;have:=i9 nd aq
 rw[h]at this;exact⟨q,mem_flatMap.mpr ⟨_,mm this,aj⟩,wa9 _⟩
theorem qu {l:List (List Key×V)} (lo:dk st sg l) (h:∀m c q,m<=st.length->en sg c->0<=q->Rows st sg (f m c q)):jX (l.flatMap (ly f)) (spread f l):=by
 refine SA λx aq=>?_;obtain⟨y,bg,aq⟩:=mem_flatMap.mp aq;obtain⟨m,c,q,rfl,hm,ak,d9⟩:=lo.ok y bg;exact(h m c q hm ak d9 x aq).1
theorem Wf {e2 e3:List (List Key×V)} (km:dk st sg e2) (fm:dk st sg e3) (h:∀k,aS e2 k=aS e3 k) (ir:∀m c q,m<=st.length->en sg c->0<=q->Rows st sg (f m c q)) (k:List Key):aS (spread f e2) k=aS (spread f e3) k:=by
 have eO:=qu km ir
 have dh:=qu fm ir
 have gg:=HP (f:=f) km.nd h
 have fQ:=HP (f:=f) fm.nd λk=>(h k).symm
 cases e:aS (spread f e2) k with
 | some v=>exact(eO.same dh gg fQ e).symm
 | none=>
  cases aw:aS (spread f e3) k with
  | none=>rfl
  | some v=>
   have:=dh.same eO fQ gg aw
   rw[e]at this;cases this
theorem HQ {t s:Int}(h:Still es t r) (aa:t<=s) (ag:s<r):cz es s=cz es t:=by
 funext a c
 rw[Bool.eq_iff_iff,qr,qr];unfold m3;exact forall_congr' λe=>forall_congr' λhe=>by rw[h e he s aa ⋯,h e he (s+1) ⋯ ⋯,h e he (t+1) ⋯ ⋯]
theorem Wg (p:α->Bool) (l:List α):(l.drop (l.takeWhile p).length).takeWhile p=[]:=by
 induction l with
 | nil=>rfl
 | cons a t bE=>
  by_cases h:p a=true
  ·rwa[List.takeWhile_cons_of_pos h,length_cons,List.drop_succ_cons]
  ·rw[List.takeWhile_cons_of_neg h];exact List.takeWhile_cons_of_neg h
theorem Wh (st:List Int)(m:Nat)(c:Int):met st (met st m c) c=met st m c:=by
 unfold met;rw[<- List.drop_drop,Wg];rfl
def Rest (es:List Ent)(st:List Int)(n t:Int)(f:List (List Key×V)):Prop:=∀(m:Nat)(c q:Int),aS f (aW m c)∣.int q->met st m c=m/\q<=n/\∀e∈es,b7 e.b e.c t≠.int c
theorem grow {h:Nat}{t:Int}{f:List (List Key×V)} (g:Fl.Good w h sg) (c4:0<=n) (lo:dk st sg f) (re:Rest es st n t f) (aI:Still es t (t+1)){m:Nat}(aJ:aS f (aW m c)∣.int q):
  ∃r,aS (e9 es i w sg st n t f) (aW m c)∣.int r/\q<=r:=by
 obtain⟨ar,aw,bV⟩:=re m c q aJ;have fP:=qu (f:=zu (cz es t) i w sg st n) lo (lC g)
 have hm:=mm aJ
 obtain⟨ba,aY,q',ex,_,_,d9⟩:=lo.ok _ hm;obtain⟨eI,ot⟩:=Prod.ext_iff.mp ex;obtain⟨rfl,rfl⟩:=jz eI;cases ot;have op:cz es t c c=true:=qr.mpr λe he=>by
  have a:=aI e he (t+1) ⋯ (wa9 _)
  have:=bV e he
  exact⟨by rwa[a],λz=>this z.1⟩
 have uk:=BO i (at_ sg c)
 have HS:(aW m c,min n (q+gs i (at_ sg c)))∈f.flatMap (ly (zu (cz es t) i w sg st n)):=by
  refine mem_flatMap.mpr ⟨_,hm,?_⟩;show _∈zu (cz es t) i w sg st n ((m:Int)).toNat c q
  rw[toNat_natCast];refine mem_filterMap.mpr ⟨c,by simp,?_⟩;have l:jC i w sg n c c q=min n (q+gs i (at_ sg c)):=aM rfl
  unfold hN;rw[aM ⟨op,by rw[l];omega⟩,l,ar]
 cases ev:aS (e9 es i w sg st n t f) (aW m c) with
 | none=>exact br HS (fP.no _ ev _)
 | some v=>
  obtain⟨r,rfl,_,hP⟩:=fP.to _ _ ev;exact⟨r,rfl,by have:=hP _ HS;omega⟩
theorem HV {h:Nat}{t:Int}{f:List (List Key×V)} (g:Fl.Good w h sg) (lo:dk st sg f) (le:∀k q,aS f k∣.int q->q<=n) (Wi:∀c o k,lq i w sg c o∣k->0<=k):Rest es st n (t+1) (e9 es i w sg st n t f):=by
 intro m c q aJ;have fP:=qu (f:=zu (cz es t) i w sg st n) lo (lC g)
 obtain⟨r,e,hP,_⟩:=fP.to _ _ aJ;cases e;obtain⟨x,aq,aj⟩:=mem_flatMap.mp hP;obtain⟨ba,aY,q',rfl,_,_,d9⟩:=lo.ok _ aq;have ao:=le _ _ (i9 lo.nd aq)
 have aj:(aW m c,q)∈zu (cz es t) i w sg st n ((ba:Int)).toNat aY q':=aj
 rw[toNat_natCast]at aj;obtain⟨o,aA,nz⟩:=mem_filterMap.mp aj;unfold hN at nz;split at nz
 ·rename_i bD;obtain⟨ar,aw⟩:=Prod.ext_iff.mp (wa5 nz);obtain⟨bV,eI⟩:=jz ar;subst eI;refine⟨by rw[<- bV,Wh],?_,λe he=>((qr.mp bD.1) e he).1⟩;have aw:jC i w sg n aY o q'=q:=aw
  rw[<- aw];unfold jC;split
  ·omega
  ·split
   ·rename_i z;have h0:=bD.2
    unfold jC at h0;rw[aB ‹_›,z]at h0;omega
   ·rename_i k z;have:=Wi _ _ _ z
    omega
 ·cases nz
theorem HW:∀c o k,lq i w sg c o∣k->0<=k:=λc o k h=>by
 unfold lq at h;split at h
 ·unfold ml at h;repeat' (split at h)
  all_goals first
   | (cases h;done)
   | (have:=wa5 h;omega)
 ·cases h
def oI (f:List (List Key×V))(k:List Key):Option Int:=match aS f k with
 | some (.int q)=>some q
 | _=>none
set_option tactic.hygienic true in
theorem oJ {f:List (List Key×V)}{k:List Key}:oI f k=some q↔aS f k∣.int q:=by
 unfold oI;split
 ·rename_i r e;rw[e];exact⟨λz=>by cases z;rfl,λz=>by cases z;rfl⟩
 ·rename_i z;exact⟨λy=>(by cases y),λy=>br y (z q)⟩
theorem lD {f:List (List Key×V)} (lo:dk st sg f){k:List Key}(h:aS f k∣v):∃(m:Nat)(c q:Int),k=aW m c/\v=.int q/\0<=q/\k∈ul st.length sg.length:=by
 obtain⟨m,c,q,ex,hm,ak,d9⟩:=lo.ok _ (mm h);obtain⟨ar,aw⟩:=Prod.ext_iff.mp ex;have ar:k=aW m c:=ar
 refine⟨m,c,q,ar,aw,d9,?_⟩;rw[ar];refine mem_flatMap.mpr ⟨m,mem_range.mpr ⋯,mem_map.mpr ⟨c.toNat,mem_range.mpr (by have:=ak.1;have:=ak.2;omega),?_⟩⟩;rw[Int.toNat_of_nonneg ak.1]
theorem Wj {h:Nat}{t:Int}{f:List (List Key×V)} (g:Fl.Good w h sg) (c4:0<=n) (lo:dk st sg f) (re:Rest es st n t f) (aI:Still es t (t+1)) (d:¬∀k,aS f k=aS (e9 es i w sg st n t f) k):
  Sr.fD n (ul st.length sg.length) (oI (e9 es i w sg st n t f))<Sr.fD n (ul st.length sg.length) (oI f):=by
 have lB:dk st sg (e9 es i w sg st n t f):=(ny lo (lC g)).bh
 have le:∀k q,aS f k∣.int q->q<=n:=λk q aJ=>by
  obtain⟨m,c,r,rfl,e,_⟩:=lD lo aJ;exact(re m c q aJ).2.1
 have uo:=HV (es:=es) (t:=t) (st:=st) (n:=n) g lo le (HW (i:=i) (w:=w) (sg:=sg))
 refine Sr.SD (λk q aj=>?_) (λk r aj=>?_) ?_
 ·have aJ:=oJ.mp aj
  obtain⟨m,c,r,rfl,e,_⟩:=lD lo aJ;obtain⟨r,aa,ag⟩:=grow (i:=i) g c4 lo re aI aJ;exact⟨r,oJ.mpr aa,ag⟩
 ·have aJ:=oJ.mp aj
  obtain⟨m,c,q,rfl,e,d9,_⟩:=lD lB aJ;cases e;exact⟨d9,(uo m c r aJ).2.1⟩
 ·obtain⟨k,aj⟩:=Classical.not_forall.mp d;refine⟨k,?_,λz=>aj ?_⟩
  ·cases e:aS f k with
   | some v=>obtain⟨_,_,_,_,_,_,hm⟩:=lD lo e;exact hm
   | none=>
    cases aw:aS (e9 es i w sg st n t f) k with
    | some v=>obtain⟨_,_,_,_,_,_,hm⟩:=lD lB aw;exact hm
    | none=>exact br (e.trans aw.symm) aj
  ·cases e:aS f k with
   | some v=>
    obtain⟨_,_,q,_,rfl,_⟩:=lD lo e;rw[oJ.mpr e]at z;exact(oJ.mp z.symm).symm
   | none=>
    cases aw:aS (e9 es i w sg st n t f) k with
    | none=>rfl
    | some v=>
     obtain⟨_,_,q,_,rfl,_⟩:=lD lB aw;rw[oJ.mpr aw]at z;rw[oJ.mp z]at e;cases e
abbrev gV (st:List Int)(sg:List Nat):={f:List (List Key×V) // dk st sg f}
abbrev Alike (a c:gV st sg):Prop:=∀k,aS a.1 k=aS c.1 k
def stepT (es:List Ent)(i:Nat){h:Nat}(st:List Int) (n:Int) (g:Fl.Good w h sg) (t:Int) (f:gV st sg):gV st sg:=⟨e9 es i w sg st n t f.1,(ny f.2 (lC g)).bh⟩
theorem qv {h:Nat}(g:Fl.Good w h sg):Sr.rF Alike (stepT es i st n g) (λt (f:gV st sg)=>gu es st f.1 t least) where
 refl:=λ_ _=>rfl
 symm:=λh k=>(h k).symm
 trans:=λh h' k=>(h k).trans (h' k)
 wC:=λ{a c} t h k=>Wf a.2 c.2 h (lC g) k
 test:=λt h=>λ⟨q,v,aa,ag⟩=>⟨q,v,by rwa[<- h],ag⟩
theorem HX {es:List Ent}{i w h:Nat}{sg:List Nat}{st:List Int}{n b:Int}(g:Fl.Good w h sg) (f0:gV st sg):∀k,(Sr.mc (stepT es i st n g) b f0 k).1=Sr.mc (e9 es i w sg st n) b f0.1 k
 | 0=>rfl
 | k+1=>by
  show e9 es i w sg st n (b+(k:Nat)) (Sr.mc (stepT es i st n g) b f0 k).1=e9 es i w sg st n (b+(k:Nat)) _
  rw[HX g f0 k]
def j3 (i:Nat)(sg:List Nat)(f:List (List Key×V)):Prop:=∀(m:Nat)(c q:Int),(aW m c,V.int q)∈f->dT i (at_ sg c)=true
theorem Wk {h:Nat}{f:List (List Key×V)} (g:Fl.Good w h sg) (c4:0<=n) (lo:dk st sg f) (s:j3 i sg f):spread (reachOf op i w sg st n) f=spread (zu op i w sg st n) f:=by
 unfold spread;congr 1
 have:∀l:List (List Key×V),(∀x∈l,x∈f)->l.flatMap (ly (reachOf op i w sg st n))=l.flatMap (ly (zu op i w sg st n)):=by
  intro l;induction l with
  | nil=>intro _;rfl
  | cons x r bE=>
   intro aD;rw[flatMap_cons,flatMap_cons,bE λy bg=>aD y (by simp[bg])];congr 1
   have aq:=aD x (by simp)
   obtain⟨m,c,q,rfl,hm,ak,d9⟩:=lo.ok x aq;exact HH g (s m c q aq) c4 d9
 exact this f λ_ h=>h
theorem HY {h:Nat}{f:List (List Key×V)} (g:Fl.Good w h sg) (lo:dk st sg f) (s:j3 i sg f):j3 i sg (spread (zu op i w sg st n) f):=λm c q hm=>by
 have fP:=qu (f:=zu op i w sg st n) lo (lC g)
 obtain⟨r,e,hP,_⟩:=fP.to _ _ (i9 fP.nd hm);obtain⟨x,aq,aj⟩:=mem_flatMap.mp hP;obtain⟨ba,aY,q',rfl,_,_,d9⟩:=lo.ok _ aq;have aj:(aW m c,r)∈zu op i w sg st n ((ba:Int)).toNat aY q':=aj
 obtain⟨o,aA,nz⟩:=mem_filterMap.mp aj;unfold hN at nz;split at nz
 ·rename_i bD;obtain⟨ar,_⟩:=Prod.ext_iff.mp (wa5 nz);obtain⟨_,eI⟩:=jz ar;subst eI;by_cases z:o=aY
  ·rw[z];exact s ba aY q' aq
  ·have h0:=bD.2
   unfold jC at h0;rw[aB z]at h0;unfold lq at h0;split at h0
   ·rename_i y;split at y
    ·assumption
    ·omega
   ·rename_i y;split at y
    ·assumption
    ·cases y
 ·cases nz
inductive Wl (ad:dJ)(vs:List V)(H:ah)(Q:bo)(E:bL):Prop
 | mk (x av:Addr) (v:V) (k:Int) (_:vs=[.ref x,v,.int k]) (_:H x∣.ins (ad 88) av []) (_:Q .bx (upd H x (.ins (ad 88) av [("path",v),("left",.int k)])))
theorem Wm {h:Nat}(g:Fl.Good w h sg){o:Int}(ak:en sg c) (hn:at_ sg c≠35) (aA:o∈dc w sg c):c∈dc w sg o:=by
 have io:=qn g aA
 rw[FG g ak.1 ak.2]at aA;rw[FG g io.1 io.2];unfold wm at aA ⊢;obtain⟨aa,ag⟩:=mem_filter.mp aA;refine mem_filter.mpr ⟨wk.mpr ?_,?_⟩
 ·unfold gH;rw[decide_eq_true ak.1,decide_eq_true ak.2,decide_eq_false hn];rfl
 ·rw[decide_eq_true_eq]at ag ⊢;have e:∀a b:Int,(a-b)*(a-b)=(b-a)*(b-a):=λa b=>by rw[show a-b=-(b-a) by omega,Int.neg_mul_neg]
  rwa[e,e (c%w)]
abbrev cT:=List (List Key×V)
abbrev ia (es:List Ent)(i w:Nat)(sg:List Nat)(st:List Int)(n:Int):Int->cT->cT:=λt f=>spread (reachOf (cz es t) i w sg st n) f
structure iG (sp:Int->cT->cT)(F:Int->cT)(T:Int)(ms:List (Int×cT)):Prop where
 top:∀t f,ms[0]?∣(t,f)->t<=T/\(∀s,t<=s->s<T->∀k,aS (sp s f) k=aS f k)/\∀s,t<=s->s<=T->∀k,aS (F s) k=aS f k
 xq:∀(i:Nat) t f t' hH,ms[i]?∣(t,f)->ms[i+1]?∣(t',hH)->t'<t/\f=sp (t-1) hH/\(∀s,t'<=s->s<t-1->∀k,aS (sp s hH) k=aS hH k)/\∀s,t'<=s->s<t->∀k,aS (F s) k=aS hH k
section
variable {sp:Int->cT->cT}{F:Int->cT}{b T gv t t':Int}{f hH:cT}{ms:List (Int×cT)}{k eG:List Key}{q q':Int}{i:Nat}
theorem iG.start (hl:∀k,aS (F b) k=aS f k):iG sp F b [(b,f)]:=⟨λt f e=>by cases e;exact⟨wa9 _,λs aa ag=>by omega,λs aa ag=>by rwa[show s=b by omega]⟩,λi t f t' hH _ e=>by cases e⟩
theorem iG.go (h:iG sp F T ((t,f)::ms))(hl:∀k,aS (F (T+1)) k=aS (sp T f) k):iG sp F (T+1) ((T+1,sp T f)::(t,f)::ms):=by
 obtain⟨aa,ag,aR⟩:=h.top t f rfl;refine⟨λt f e=>by cases e;exact⟨wa9 _,λs aa ag=>by omega,λs aa ag=>by rwa[show s=T+1 by omega]⟩,λi u g nU g' e a4=>?_⟩;cases i with
 | zero=>
  cases e;cases a4;exact⟨⋯,by rw[show T+1-1=T by omega],λs a b=>ag s a ⋯,λs a b=>aR s a ⋯⟩
 | succ i=>exact h.xq i u g nU g' e a4
theorem iG.skip (h:iG sp F T ((t,f)::ms))(l:T<=gv)(st:∀s,T<=s->s<gv->∀k,aS (sp s f) k=aS f k)(hl:∀s,T<=s->s<=gv->∀k,aS (F s) k=aS f k):iG sp F gv ((t,f)::ms):=by
 obtain⟨aa,ag,aR⟩:=h.top t f rfl;refine⟨λu g e=>?_,h.xq⟩;cases e;refine⟨⋯,λs a b=>?_,λs a b=>?_⟩
 ·by_cases z:s<T
  ·exact ag s a z
  ·exact st s ⋯ b
 ·by_cases z:s<T
  ·exact aR s a ⋯
  ·exact hl s ⋯ b
structure oK (sp:Int->cT->cT)(F:Int->cT)(t:Int)(f:cT)(T:Int)(k:List Key)(q:Int):Prop where
 le:t<=T
 now:T=t->aS f k∣.int q
 Wn:t<T->aS (sp (T-1) f) k∣.int q
 gX:∀s,t<=s->s<T-1->∀k,aS (sp s f) k=aS f k
 ur:∀s,t<=s->s<T->∀k,aS (F s) k=aS f k
theorem oK.back (h:oK sp F t f T k q)(l:t<T)(v:aS f eG∣.int q'):oK sp F t f (T-1) eG q':=
 ⟨⋯,λ_=>v,λz=>by rwa[h.gX (T-1-1) ⋯ ⋯],λs a b=>h.gX s a ⋯,λs a b=>h.ur s a ⋯⟩
theorem iG.first (h:iG sp F T ms)(e:ms[0]?∣(t,f))(v:aS f k∣.int q):oK sp F t f T k q:=by
 obtain⟨aa,ag,aR⟩:=h.top t f e;exact⟨aa,λ_=>v,λz=>by rwa[ag (T-1) ⋯ ⋯],λs a b=>ag s a ⋯,λs a b=>aR s a ⋯⟩
theorem iG.next (h:iG sp F T ms)(e:ms[i]?∣(t,f))(a4:ms[i+1]?∣(t',hH))(v:aS f k∣.int q):oK sp F t' hH t k q:=by
 obtain⟨aa,ag,aR,b4⟩:=h.xq i t f t' hH e a4;exact⟨⋯,λz=>by omega,λz=>by rwa[<- ag],aR,b4⟩
end
def BS (R:Nat->Int->Int->List (List Key×Int))(f:cT)(k:List Key)(q:Int)(x:Nat×Int):Prop:=∃q',aS f (aW x.1 x.2)∣.int q'/\(k,q)∈R x.1 x.2 q'
def lE (R:Nat->Int->Int->List (List Key×Int))(f:cT)(k:List Key)(q:Int)(x:Nat×Int):Prop:=BS R f k q x/\∀y,BS R f k q y->Hq.iD [(x.1:Int),x.2] [(y.1:Int),y.2]
theorem lE.same {R:Nat->Int->Int->List (List Key×Int)}{f hH:cT}{k:List Key}(h:lE R f k q x) (e:∀k,aS hH k=aS f k):lE R hH k q x:=
 ⟨let⟨a,b,c⟩:=h.1;⟨a,by rwa[e],c⟩,λy ⟨a,b,c⟩=>h.2 y ⟨a,by rwa[<- e],c⟩⟩
structure ib (R:Int->Nat->Int->Int->List (List Key×Int))(F:Int->cT)(T:Int)(k:Nat×Int)(rs:List (Nat×Int)):Prop where
 hd:rs[0]?∣k
 st:∀(j:Nat) x y,rs[j]?∣y->rs[j+1]?∣x->∃q,aS (F (T-j)) (aW y.1 y.2)∣.int q/\lE (R (T-j-1)) (F (T-j-1)) (aW y.1 y.2) q x
theorem ib.one {F:Int->cT}{T:Int}{k:Nat×Int}:ib R F T k [k]:=⟨rfl,λj x y _ e=>by cases e⟩
theorem ib.snoc {F:Int->cT}{T gE:Int}{k:Nat×Int} (h:ib R F T k rs) (jD:rs.getLast?∣y) (HZ:(rs.length:Int)=T-gE+1) (v:aS (F gE) (aW y.1 y.2)∣.int q) (l:lE (R (gE-1)) (F (gE-1)) (aW y.1 y.2) q x):ib R F T k (rs++[x]):=by
 have ln:0<rs.length:=(wa4.mp h.hd).1
 refine⟨by rw[getElem?_append_left ln];exact h.hd,λj a b e a4=>?_⟩;have rM:=(wa4.mp a4).1
 rw[length_append,List.length_singleton]at rM;rw[getElem?_append_left ⋯]at e;by_cases z:j+1<rs.length
 ·rw[getElem?_append_left z]at a4;exact h.st j a b e a4
 ·have iB:j=rs.length-1:=⋯
  rw[getElem?_append_right ⋯,show j+1-rs.length=0 by omega]at a4;cases a4;rw[List.getLast?_eq_getElem?,<- iB,e]at jD;cases jD;rw[show T-(j:Int)=gE by omega];exact⟨q,v,l⟩
theorem gU.dq {k:Addr}{p:Addr}(h:gU C H p d es) (aj:H k∣.eY bj) (s:v6 k H H'):gU C H' p d es:=by
 obtain⟨⟨⟨av,e⟩,t⟩,b8⟩:=h;exact⟨⟨⟨av,s _ _ e (cM e aj nofun)⟩,s _ _ t (cM t aj nofun)⟩,b8.cH (s.cH (λxs z=>by rw[aj]at z;cases z))⟩
theorem Wo:Tab (.eY bj):=⟨λ_ _ _ z=>(nomatch z),λ_ z=>(nomatch z),λ_ _ z=>(nomatch z),λ_ z=>(nomatch z)⟩
theorem gJ.b {k bj:Addr}{bF:cT}(h:gJ pos qual bj H) (aj:H k∣.bc bF) (s:v6 k H H'):gJ pos qual bj H':=by
 obtain⟨t,a,b,c⟩:=h;refine⟨t,s _ _ a (cM a aj nofun),b,c.imp id λ⟨x,co,ar,aw,bV⟩=>⟨x,co,ar,s _ _ aw (cM aw aj nofun),bV⟩⟩
theorem gU.b {k:Addr}{p:Addr}{bF:cT}(h:gU C H p d es) (aj:H k∣.bc bF) (s:v6 k H H'):gU C H' p d es:=by
 obtain⟨⟨⟨av,e⟩,bj⟩,b8⟩:=h;exact⟨⟨⟨av,s _ _ e (cM e aj nofun)⟩,s _ _ bj (cM bj aj nofun)⟩,b8.cH (s.cH (λxs z=>by rw[aj]at z;cases z))⟩
theorem e7.ints {z:Addr}{cs:List Int}(h:e7 H bA i w sg st) (hz:H z∣.lst (cs.map V.int)) (ak:cs≠[]):oE H bA z:=by
 obtain⟨kvs,aa,ag,aR,b4⟩:=h;intro bF k l e aJ y;rw[aa]at e;cases e;obtain⟨m,c,rfl,_⟩:=aR k (pI aJ);obtain⟨rJ,e,ts,q,_⟩:=b4 m c _ aJ;cases e;rw[y,hz]at q;injection q with q
 injection q with q
 cases cs with
 | nil=>exact ak rfl
 | cons a r=>
  cases ts with
  | nil=>cases q
  | cons t ts=>cases (List.cons.inj q).1
theorem iG.len {sp:Int->cT->cT}{F:Int->cT}{T b:Int}{ms:List (Int×cT)} (h:iG sp F T ms) (ae:∀x∈ms,b<=x.1):(ms.length:Int)<=T-b+1\/ms=[]:=by
 have low:∀(i:Nat) t f,ms[i]?∣(t,f)->t+i<=T:=by
  intro i;induction i with
  | zero=>intro t f e;have:=(h.top t f e).1;omega
  | succ i bE=>
   intro t f e;have au:i<ms.length:=by have:=(wa4.mp e).1;omega
   have a4:ms[i]?∣((ms[i]'au).1,(ms[i]'au).2):=getElem?_eq_getElem au
   have:=(h.xq i _ _ t f a4 e).1
   have:=bE _ _ a4
   omega
 cases ms with
 | nil=>exact .inr rfl
 | cons x r=>
  have au:r.length<(x::r).length:=by rw[length_cons];omega
  have e:(x::r)[r.length]?∣(((x::r)[r.length]'au).1,((x::r)[r.length]'au).2):=getElem?_eq_getElem au
  have:=low _ _ _ e
  have:=ae _ (List.getElem_mem au)
  rw[length_cons];exact .inl ⋯
theorem Paired.snoc {R:α->β->Prop}{l:List α}{m:List β}{a:α}{b:β}(p:Paired R l m) (h:R a b):Paired R (l++[a]) (m++[b]):=by
 induction p with
 | nil=>exact .cons h .nil
 | cons k r bE=>exact .cons k bE
def oL (H:ah)(bA a:Addr)(x:Int×cT):Prop:=∃bh,H a∣.tup [.int x.1,.ref bh]/\H bh∣.bc x.2/\bh≠bA
theorem oL.b {z:Addr}{x:Int×cT}(h:oL H bA a x) (s:v6 z H H') (BM:∀bh,H bh∣.bc x.2->bh≠bA->bh≠z) (fX:∀xs,H z≠some (.tup xs)):oL H' bA a x:=
 let⟨bh,aa,ag,aR⟩:=h
 ⟨bh,s _ _ aa (λy=>fX _ (y ▸ aa)),s _ _ ag (BM bh ag aR),aR⟩
theorem Wq {h:Nat}(g:Fl.Good w h sg){m ba:Nat}{aY q':Int}(hm:ba<=st.length) (ak:en sg aY) (aI:dT i (at_ sg aY)=true) (aj:(aW m c,q)∈reachOf op i w sg st n ba aY q'):aY∈dc w sg c\/aY=c:=by
 rcases mem_append.mp aj with y|y
 ·split at y
  ·obtain⟨ar,_⟩:=Prod.ext_iff.mp (mem_singleton.mp y);exact .inr (jz ar).2.symm
  ·cases y
 ·obtain⟨z,hz,e⟩:=mem_filterMap.mp y;unfold oF at e;split at e
  ·obtain⟨ar,_⟩:=Prod.ext_iff.mp (wa5 e);obtain⟨dh,o,aw,_,_,bV⟩:=BQ g hm z hz;have ar:z.1=aW m c:=ar
   rw[aw]at ar;obtain⟨_,rfl⟩:=jz ar;exact .inl (Wm g ak (λz=>by rw[HK z]at aI;cases aI) bV)
  ·cases e
theorem Wr {f:cT}(lo:dk st sg f){m:Nat}(aj:(aW m c,q)∈f.flatMap (ly (reachOf op i w sg st n))):
  ∃(j ba:Nat)(aY q':Int),f[j]?∣(aW ba aY,.int q')/\(aW m c,q)∈reachOf op i w sg st n ba aY q':=by
 obtain⟨x,aq,aj⟩:=mem_flatMap.mp aj;obtain⟨ba,aY,q',rfl,hm,ak,d9⟩:=lo.ok x aq;obtain⟨j,aZ⟩:=getElem?_of_mem aq;have aj:(aW m c,q)∈reachOf op i w sg st n ((ba:Int)).toNat aY q':=aj
 rw[toNat_natCast]at aj;exact⟨j,ba,aY,q',aZ,aj⟩
theorem jc.one {t:Addr}{x y:List Key×Int}(h:jc H t x) (h':jc H t y):x=y:=by
 obtain⟨b,aa,ag⟩:=h;obtain⟨b1,aR,b4⟩:=h';rw[aa]at aR;injection aR with aR
 injection aR with aR
 injection aR with ar aw
 injection ar with ar
 injection aw with aw _
 injection aw with aw
 rw[<- ar,ag]at b4;injection b4 with b4
 injection b4 with b4
 exact Prod.ext (Ep b4) aw
def mn (x:List Key×Int):PyData:=.tuple [.tuple (x.1.map λk=>match k with|.inl i=>.int i|.inr s=>.str s),.int x.2]
open Classical in
theorem pick {p1:Addr}{x1:List Key×Int} (aa:jc H p1 x1) (aG:Paired (jc H) ts ps) (k1:∃(m:Nat)(c:Int),x1.1=aW m c) (ks:∀x∈ps,∃(m:Nat)(c:Int),x.1=aW m c):
  ∃d:Addr->PyData,(∀t,t=p1\/t∈ts->Den K H (.ref t) (d t)/\SeqAt.shaped (d t)=true)/\((ts.any λt=>(d t).eqv (d p1))=true↔x1∈ps):=by
 let g:Addr->List Key×Int:=λt=>if h:∃x,jc H t x then choose h else([],0)
 have uu:∀{t x},jc H t x->g t=x:=λ{t x} h=>by
  show(if h:∃x,jc H t x then choose h else([],0))=x
  rw[dif_pos ⟨x,h⟩];exact(choose_spec (⟨x,h⟩:∃x,jc H t x)).one h
 have one:∀{t x},jc H t x->(∃(m:Nat)(c:Int),x.1=aW m c)->Den K H (.ref t) (mn (g t))/\SeqAt.shaped (mn (g t))=true:=λ{t x} h ⟨m,c,e⟩=>by
  rw[uu h];obtain⟨b,aa,ag⟩:=h;obtain⟨k,q⟩:=x;have e:k=aW m c:=e
  subst e;exact⟨.tup (bT.of aa) (.cons (.tup (bT.of ag) (.cons (.int _) (.cons (.int _) .nil))) (.cons (.int _) .nil)),rfl⟩
 have eq:∀{x y:List Key×Int},(∃(m:Nat)(c:Int),x.1=aW m c)->(∃(m:Nat)(c:Int),y.1=aW m c)->((mn x).eqv (mn y)=true↔x=y):=λ{x y} ⟨m,c,e⟩ ⟨ba,aY,a4⟩=>by
  obtain⟨k,q⟩:=x;obtain⟨eG,q'⟩:=y;have e:k=aW m c:=e
  have a4:eG=aW ba aY:=a4
  subst e a4;simp only[mn,aW,map_cons,map_nil,PyData.eqv,PyData.eqvAll,and_eq_true,beq_iff_eq,and_true,Prod.mk.injEq,List.cons.injEq,Sum.inl.injEq]
 refine⟨λt=>mn (g t),λt bC=>?_,?_⟩
 ·rcases bC with rfl|bC
  ·exact one aa k1
  ·obtain⟨j,aZ⟩:=getElem?_of_mem bC;obtain⟨x,aq,hn⟩:=Paired.ju aG aZ;exact one hn (ks x (mem_of_getElem? aq))
 ·rw[any_eq_true];constructor
  ·rintro⟨t,bC,e⟩;obtain⟨j,aZ⟩:=getElem?_of_mem bC;obtain⟨x,aq,hn⟩:=Paired.ju aG aZ;have hm:=mem_of_getElem? aq
   have e:(mn (g t)).eqv (mn (g p1))=true:=e
   rw[uu hn,uu aa]at e;rwa[<- (eq (ks x hm) k1).mp e]
  ·intro hm;obtain⟨j,aZ⟩:=getElem?_of_mem hm;obtain⟨t,bC,hn⟩:=Paired.at2 aG aZ;exact⟨t,mem_of_getElem? bC,by show(mn (g t)).eqv (mn (g p1))=true;rw[uu hn,uu aa];exact(eq k1 k1).mpr rfl⟩
inductive Ws (ad:dJ)(K:Frag)(vs:List V)(H:ah)(Q:bo)(E:bL):Prop
 | mk (p bh d nd:Addr) (S:ht) (i:Nat) (n t:Int) (w h:Nat) (sg:List Nat) (st:List Int) (es:List Ent) (b2:cT) (m:Nat) (c q:Int) (_:vs=[.ref p,.int t,.ref bh,.ref nd,.int q]) (_:e8 ad K H p S i n w h sg st) (_:gU (ad 90) H S.b3 d es) (_:iA es) (_:0<=n) (_:H bh∣.bc b2) (_:dk st sg b2) (_:bh≠S.bA) (_:j3 i sg b2) (_:H nd∣.tup ((aW m c).map bq)) (_:en sg c) (_:(aW m c,q)∈b2.flatMap (ly (reachOf (cz (bk es S.n) t) i w sg st n))) (_:∀r H' (ba:Nat) (aY q':Int),v6 S.bA H H'->e7 H' S.bA i w sg st->H' r∣.tup ((aW ba aY).map bq)->aS b2 (aW ba aY)∣.int q'->lE (reachOf (cz (bk es S.n) t) i w sg st n) b2 (aW m c) q (ba,aY)->Q (.ref r) H')
theorem xr {xs:List α}{v:α}(h:xs[xs.length-1]?∣v):dH xs (-1)∣v:=by
 have l:=(wa4.mp h).1
 have e:js xs.length (-1)∣(xs.length-1):=by
  unfold js;rw[aB ∅,aM ⋯];exact congrArg some ⋯
 unfold dH;rwa[e]
inductive Wt (ad:dJ)(K:Frag)(vs:List V)(H:ah)(Q:bo)(E:bL):Prop
 | mk (p mk nd d:Addr) (S:ht) (i:Nat) (n T b:Int) (w h:Nat) (sg:List Nat) (st:List Int) (es:List Ent) (m:Nat) (c q:Int) (as:List Addr) (ms:List (Int×cT)) (F:Int->cT) (_:vs=[.ref p,.ref mk,.int T,.ref nd]) (_:e8 ad K H p S i n w h sg st) (_:gU (ad 90) H S.b3 d es) (_:iA es) (_:0<=n) (_:H mk∣.lst (as.map V.ref)) (_:Paired (oL H S.bA) as ms.reverse) (_:(∀x∈ms,dk st sg x.2/\j3 i sg x.2/\b<=x.1)) (_:iG (ia (bk es S.n) i w sg st n) F T ms) (_:(∃f,ms.getLast?∣(b,f))) (_:(∃t f,ms[0]?∣(t,f)/\aS f (aW m c)∣.int q)) (_:H nd∣.tup ((aW m c).map bq)) (_:T<=b+100000) (_:∀r H' (rs:List (Nat×Int)),v6 S.bA H H'->e7 H' S.bA i w sg st->H r=none->H' r∣.tup ((rs.map (·.2)).reverse.map V.int)->(rs.length:Int)=T-b+1->ib (λu=>reachOf (cz (bk es S.n) u) i w sg st n) F T (m,c) rs->Q (.ref r) H')
theorem Wu {a c:cT}(pT:dk st sg a) (lc:dk st sg c):GY a c↔∀k,aS a k=aS c k:=by
 constructor
 ·rintro⟨aD,h⟩ k;cases e:aS a k with
  | some v=>exact(h _ (mm e)).symm
  | none=>
   cases aw:aS c k with
   | none=>rfl
   | some v=>
    have aW:k ∉ a.map (·.1):=λz=>by
     obtain⟨x,aq,bV⟩:=mem_map.mp z;exact GX e x aq bV
    have:=wx (m:=c.map (·.1)) (nodup_cons.mpr ⟨aW,pT.nd⟩) λx aq=>by
     rcases mem_cons.mp aq with rfl|aq
     ·exact pI aw
     ·obtain⟨y,bg,rfl⟩:=mem_map.mp aq;exact pI (h y bg)
    rw[length_cons,length_map,length_map]at this;omega
 ·intro h;have sub:∀{x y:cT},dk st sg x->(∀k,aS x k=aS y k)->x.length<=y.length:=λ{x y} xt h=>by
   have:=wx (m:=y.map (·.1)) xt.nd λk aj=>by
    obtain⟨z,hz,rfl⟩:=mem_map.mp aj;have e:=i9 xt.nd hz
    rw[h]at e;exact pI e
   rw[length_map,length_map]at this;exact this
  have aa:=sub pT h
  have ag:=sub lc λk=>(h k).symm
  exact⟨⋯,λp aG=>by rw[<- h];exact i9 pT.nd aG⟩
def mq (st:List Int)(sg:List Nat)(n:Int):Nat:=(st.length+1)*sg.length*(n+1).toNat
abbrev qw (st:List Int)(sg:List Nat)(n:Int)(f:cT):Nat:=Sr.fD n (ul st.length sg.length) (oI f)
theorem Wv {f:cT}(lo:dk st sg f):qw st sg n f<=mq st sg n:=by
 unfold mq;rw[<- F5];show Sr.fD n (ul st.length sg.length) (oI f)<=(ul st.length sg.length).length*(n+1).toNat
 generalize ul st.length sg.length=ks
 induction ks with
 | nil=>exact zero_le _
 | cons k ks bE=>
  have one:Sr.rH n (oI f k)<=(n+1).toNat:=by
   cases e:oI f k with
   | none=>exact wa8 _
   | some q=>
    obtain⟨_,_,r,_,aw,hF,_⟩:=lD lo (oJ.mp e);cases aw;show(n-q).toNat<=_
    omega
  rw[length_cons,Nat.succ_mul];unfold Sr.fD at bE ⊢;rw[map_cons,sum_cons];omega
structure Sc (es:List Ent)(i:Nat){w h:Nat}{sg:List Nat}(st:List Int) (n:Int) (cR:Fl.Good w h sg) (b q least:Int) (f0:gV st sg) (t:Int) (f:cT) (ms:List (Int×cT)) (m:Nat):Prop where
 lo:dk st sg f
 eT:j3 i sg f
 le:∀k q,aS f k∣.int q->q<=n
 at':Sr.At Alike (stepT es i st n cR) (λt (f:gV st sg)=>gu es st f.1 t least) b q f0 t ⟨f,lo⟩
 seg:iG (ia es i w sg st n) (λu=>(Sr.d8 (stepT es i st n cR) b f0 u).1) t ms
 hd:∃t1 r,ms=(t1,f)::r
 all:∀x∈ms,dk st sg x.2/\j3 i sg x.2/\b<=x.1
 last:∃g,ms.getLast?∣(b,g)
 bd:(t<=q/\m=(q+1-t).toNat+mq st sg n+1)\/(q<t/\Rest es st n t f/\t+qw st sg n f<=q+1+mq st sg n/\m=qw st sg n f)
section
variable {es:List Ent}{i:Nat}{w h:Nat}{sg:List Nat}{st:List Int}{n:Int}{cR:Fl.Good w h sg}{b q least:Int}{f0:gV st sg}{t:Int}{f:cT}{ms:List (Int×cT)}{m:Nat}
theorem Sc.start (eT:j3 i sg f0.1)(le:∀k q,aS f0.1 k∣.int q->q<=n)(uv:b<=q):Sc es i st n cR b q least f0 b f0.1 [(b,f0.1)] ((q+1-b).toNat+mq st sg n+1):=
 ⟨f0.2,eT,le,Sr.At.start (qv cR),.start (λk=>by show aS (Sr.d8 (stepT es i st n cR) b f0 b).1 k=_;rw[Sr.Gm]),⟨b,[],rfl⟩,λx aq=>by rw[mem_singleton.mp aq];exact⟨f0.2,eT,wa9 _⟩,⟨f0.1,rfl⟩,.inl ⟨uv,rfl⟩⟩
theorem Sc.top (s:Sc es i st n cR b q least f0 t f ms m)(uv:b<=q):b<=t/\t<=q+1+mq st sg n:=⟨s.at'.le,by rcases s.bd with⟨z,_⟩|⟨_,_,z,_⟩<;>omega⟩
theorem Sc.eq (s:Sc es i st n cR b q least f0 t f ms m)(c4:0<=n)(u:Int):ia es i w sg st n u f=e9 es i w sg st n u f:=Wk cR c4 s.lo s.eT
theorem Sc.go (s:Sc es i st n cR b q least f0 t f ms m)(c4:0<=n)(kp:∀u,q<=u->Still es u (u+1))(no:¬gu es st f t least)(d:¬∀k,aS (ia es i w sg st n t f) k=aS f k):
  ∃ba,ba<m/\Sc es i st n cR b q least f0 (t+1) (ia es i w sg st n t f) ((t+1,ia es i w sg st n t f)::ms) ba:=by
 have e:=s.eq c4 t
 have lB:dk st sg (e9 es i w sg st n t f):=(ny s.lo (lC cR)).bh
 have uo:=HV (es:=es) (t:=t) (st:=st) (n:=n) cR s.lo s.le (HW (i:=i) (w:=w) (sg:=sg))
 have H0:j3 i sg (e9 es i w sg st n t f):=HY cR s.lo s.eT
 have bm:=Wv (n:=n) lB
 rw[e]at d;have ok:∀ba,((t+1<=q/\ba=(q+1-(t+1)).toNat+mq st sg n+1)\/(q<t+1/\Rest es st n (t+1) (e9 es i w sg st n t f)/\t+1+qw st sg n (e9 es i w sg st n t f)<=q+1+mq st sg n/\ba=qw st sg n (e9 es i w sg st n t f)))->Sc es i st n cR b q least f0 (t+1) (ia es i w sg st n t f) ((t+1,ia es i w sg st n t f)::ms) ba:=λba bd=>by
  obtain⟨t1,r,rfl⟩:=s.hd;have at2:=s.at'.go (qv cR) no d
  have H2:=s.seg.go λk=>by rw[e];exact(at2.eq k).symm
  rw[e]at H2 ⊢;refine⟨lB,H0,λk x aJ=>?_,at2,H2,⟨_,_,rfl⟩,λx aq=>?_,?_,bd⟩
  ·obtain⟨rP,c,y,rfl,el,_⟩:=lD lB aJ;exact(uo rP c x aJ).2.1
  ·rcases mem_cons.mp aq with rfl|aq
   ·exact⟨lB,H0,by have:=s.at'.le;show b<=t+1;omega⟩
   ·exact s.all x aq
  ·obtain⟨g,bD⟩:=s.last;exact⟨g,by rw[List.getLast?_cons,bD];rfl⟩
 rcases s.bd with⟨z,rfl⟩|⟨z,re,eP,rfl⟩
 ·by_cases y:t+1<=q
  ·exact⟨_,⋯,ok _ (.inl ⟨y,rfl⟩)⟩
  ·exact⟨_,⋯,ok _ (.inr ⟨⋯,uo,⋯,rfl⟩)⟩
 ·have:=Wj (i:=i) cR c4 s.lo re (kp t ⋯) λy=>d λk=>(y k).symm
  exact⟨_,this,ok _ (.inr ⟨⋯,uo,by have:qw st sg n (e9 es i w sg st n t f)<qw st sg n f:=this;omega,rfl⟩)⟩
theorem Sc.skip (s:Sc es i st n cR b q least f0 t f ms m) (c4:0<=n) (eA:0<=b) (gw:ko es (cG st) v) (no:¬gu es st f t least) (d:∀k,aS (ia es i w sg st n t f) k=aS f k) (uw:t<q) (bX:t<=r) (cB:r<=q) (aL:Still es t r):∃ba,ba<m/\Sc es i st n cR b q least f0 (max (t+1) r) f ms ba:=by
 have dq:=s.at'.le
 have e:=s.eq c4
 have op:∀u,t<=u->u<max (t+1) r->ia es i w sg st n u f=ia es i w sg st n t f:=λu aa ag=>by
  by_cases z:u=t
  ·rw[z]
  ·show spread (reachOf (cz es u) i w sg st n) f=spread (reachOf (cz es t) i w sg st n) f
   rw[HQ aL aa ⋯]
 have eO:Alike (stepT es i st n cR t ⟨f,s.lo⟩) ⟨f,s.lo⟩:=λk=>by
  show aS (e9 es i w sg st n t f) k=_
  rw[<- e];exact d k
 have dh:∀u,t<=u->u<max (t+1) r->Alike (stepT es i st n cR u ⟨f,s.lo⟩) (stepT es i st n cR t ⟨f,s.lo⟩):=λu aa ag k=>by
  show aS (e9 es i w sg st n u f) k=aS (e9 es i w sg st n t f) k
  rw[<- e,<- e,op u aa ag]
 refine⟨(q+1-max (t+1) r).toNat+mq st sg n+1,?_,s.lo,s.eT,s.le,?_,?_,s.hd,s.all,s.last,.inl ⟨⋯,rfl⟩⟩
 ·rcases s.bd with⟨z,rfl⟩|⟨z,_⟩<;>omega
 ·refine s.at'.skip (qv cR) no eO ⋯ ⋯ dh λu aa ag y=>no ?_;obtain⟨x,ep,a1,a2,fY,hJ⟩:=y;exact⟨x,ep,a1,a2,fY,Gp fY ⋯ aL ⋯ ⋯ hJ⟩
 ·obtain⟨t1,rs,rfl⟩:=s.hd;refine s.seg.skip ⋯ (λu aa ag k=>by rw[op u aa ag];exact d k) λu aa ag k=>?_;have:=Sr.gX (qv (least:=least) cR) dq s.at'.eq eO dh (u-t).toNat ⋯ k
  rw[show t+(((u-t).toNat:Nat):Int)=u by omega]at this;exact this.symm
theorem Sc.Ai (s:Sc es i st n cR b q least f0 t f ms m)(c4:0<=n)(no:¬gu es st f t least)(d:∀k,aS (ia es i w sg st n t f) k=aS f k)(uw:q<=t):Sr.rG Alike (stepT es i st n cR) (λt (f:gV st sg)=>gu es st f.1 t least) b q f0 t ⟨f,s.lo⟩:=
 s.at'.Ai (qv cR) no (λk=>by show aS (e9 es i w sg st n t f) k=_;rw[<- s.eq c4];exact d k) uw
theorem Sc.found (s:Sc es i st n cR b q least f0 t f ms m)(y:gu es st f t least):gu es st (Sr.d8 (stepT es i st n cR) b f0 t).1 t least:=(qv (least:=least) (es:=es) (i:=i) (n:=n) cR).test t (c:=Sr.d8 (stepT es i st n cR) b f0 t) s.at'.eq y
end
def oM (st:List Int)(f:cT)(v:V)(t least:Int):Prop:=∃q:Int,aS f (aW st.length (cG st))∣.int q/\least<=q/\tO v t
theorem H3 {f:cT}{t:Int}(gw:ko es (cG st) v):gu es st f t least↔oM st f v t least:=
 ⟨λ⟨q,u,aa,ag,aR,b4⟩=>⟨q,aa,ag,by rwa[<- aR.uniq gw]⟩,λ⟨q,aa,ag,aR⟩=>⟨q,v,aa,ag,gw,aR⟩⟩
inductive H4 (zs:List V)(vs:List V)(H:ah)(Q:bo)(E:bL):Prop
 | mk (t:Int) (bh g:Addr) (v:V) (least:Int) (st:List Int) (sg:List Nat) (f:cT) (_:vs=[.int t,.ref bh]) (_:zs=[.ref g,v,.int least]) (_:H bh∣.bc f) (_:dk st sg f) (_:H g∣.tup ((aW st.length (cG st)).map bq)) (_:(v=.bx\/∃n:Int,v=.int n)) (_:(oM st f v t least->Q (.ref g) H)) (_:(¬oM st f v t least->Q .bx H))
theorem BU {vs:List V}{Q:bo}{E:bL}(h:∃(t:Int)(bh g:Addr)(v:V)(least:Int)(st:List Int)(sg:List Nat)(f:cT),vs=[.int t,.ref bh]/\zs=[.ref g,v,.int least]/\H bh∣.bc f/\dk st sg f/\H g∣.tup ((aW st.length (cG st)).map bq)/\(v=.bx\/∃n:Int,v=.int n)/\∀gW,((gW=.ref g/\oM st f v t least)\/(gW=.bx/\¬oM st f v t least))->Q gW H):H4 zs vs H Q E:=by
 obtain⟨t,bh,g,v,least,st,sg,f,a1,a2,fY,hJ,m9,wz,k⟩:=h;exact⟨t,bh,g,v,least,st,sg,f,a1,a2,fY,hJ,m9,wz,λy=>k _ (.inl ⟨rfl,y⟩),λy=>k _ (.inr ⟨rfl,y⟩)⟩
theorem e7.marks {z:Addr}{as:List Addr}{ms:List (Int×cT)} (h:e7 H bA i w sg st) (hz:H z∣.lst (as.map V.ref)) (pm:Paired (oL H bA) as ms) (ne:ms≠[]):oE H bA z:=by
 obtain⟨kvs,aa,ag,aR,b4⟩:=h;intro bF k l e aJ y;rw[aa]at e;cases e;obtain⟨m,c,rfl,_⟩:=aR k (pI aJ);obtain⟨rJ,e,ts,q,dr⟩:=b4 m c _ aJ;cases e;rw[y,hz]at q;injection q with q
 injection q with q
 generalize hc i w sg st m c=no at dr
 cases pm with
 | nil=>exact ne rfl
 | cons hm _=>
  cases dr with
  | nil=>cases q
  | cons hn _=>
   injection q with a8 _
   injection a8 with a8
   subst a8;obtain⟨bh,eO,_⟩:=hm;obtain⟨b,dh,_⟩:=hn;rw[eO]at dh;cases dh
def Ww (iH:ah)(p fa mk gc:Addr)(S:ht)(i:Nat){h:Nat}(st:List Int) (es:List Ent) (n:Int) (cR:Fl.Good w h sg) (b q least:Int) (v:V) (f0:gV st sg) (m:Nat) (J:St) (H:ah):Prop:=
 ∃(t:Int)(bh:Addr)(f:cT)(as:List Addr)(ms:List (Int×cT))(gW:V)(jE:Option V),Sc (bk es S.n) i st n cR b q least f0 t f ms m/\v6 S.bA iH H/\e7 H S.bA i w sg st/\H bh∣.bc f/\bh≠S.bA/\H mk∣.lst (as.map V.ref)/\Paired (oL H S.bA) as ms.reverse/\((gW=.ref gc/\oM st f v t least)\/(gW=.bx/\¬oM st f v t least))/\
  J=[some (.ref p),some (.int b),some (.ref bh),some (.ref fa),some (.int q),some (.int t),some (.ref mk),some gW,jE]
def H5 (ad:dJ)(H:ah)(r:Addr)(es:List Ent)(i w:Nat)(sg:List Nat)(st:List Int)(n b:Int)(F:Int->cT)(T:Int):Prop:=∃(av pp ll:Addr)(k:Int)(rs:List (Nat×Int)),H r∣.ins (ad 88) av [("path",.ref pp),("left",.int k)]/\H pp∣.tup [.int b,.ref ll]/\H ll∣.tup ((rs.map (·.2)).reverse.map V.int)/\(rs.length:Int)=T-b+1/\ib (λu=>reachOf (cz es u) i w sg st n) F T (st.length,cG st) rs/\aS (F T) (aW st.length (cG st))∣.int k
def Wx (ad:dJ)(iH H:ah)(r:Addr)(T:Int)(f:cT):Prop:=∃(av cB:Addr),H r∣.ins (ad 89) av [("moment",.int T),("layer",.ref cB)]/\H cB∣.bc f/\iH cB=none
def BV (ad:dJ)(iH H:ah)(r:Addr)(es:List Ent)(i:Nat){w h:Nat}{sg:List Nat}(st:List Int) (n:Int) (g:Fl.Good w h sg) (b q least:Int) (f0:gV st sg):Prop:=
 (∃T,H5 ad H r es i w sg st n b (λu=>(Sr.d8 (stepT es i st n g) b f0 u).1) T/\b<=T/\T<=100000/\gu es st (Sr.d8 (stepT es i st n g) b f0 T).1 T least/\∀u,b<=u->u<T->¬gu es st (Sr.d8 (stepT es i st n g) b f0 u).1 u least)\/
 ∃(T:Int)(f:gV st sg),Wx ad iH H r T f.1/\T<=100000/\Sr.rG Alike (stepT es i st n g) (λt (f:gV st sg)=>gu es st f.1 t least) b q f0 T f
inductive Wz (ad:dJ)(K:Frag)(fa:Addr)(zs:List V)(vs:List V)(H:ah)(Q:bo)(E:bL):Prop
 | mk (p bh d gc:Addr) (S:ht) (i:Nat) (n b least m0:Int) (w h:Nat) (sg:List Nat) (st:List Int) (es:List Ent) (f0:cT) (v:V) (cR:Fl.Good w h sg) (lo:dk st sg f0) (_:vs=[.ref p,.int b,.ref bh,.ref fa]) (_:zs=[.ref gc,v,.int least]) (_:e8 ad K H p S i n w h sg st) (_:gU (ad 90) H S.b3 d es) (_:iA es) (_:0<=n) (_:n<=20) (_:H bh∣.bc f0) (_:bh≠S.bA) (_:j3 i sg f0) (_:(∀k q,aS f0 k∣.int q->q<=n)) (_:H gc∣.tup ((aW st.length (cG st)).map bq)) (_:ko (bk es S.n) (cG st) v) (_:0<=b) (_:b<=1000) (_:ni ((bk es S.n).map e6) 0 m0) (_:m0<=1000) (_:st.length<=4) (_:sg.length<=9) (_:∀r H',v6 S.bA H H'->e7 H' S.bA i w sg st->H r=none->BV ad H H' r (bk es S.n) i st n cR b (max b m0) least ⟨f0,lo⟩->Q (.ref r) H')
inductive H6 (ad:dJ)(K:Frag)(bj:Addr)(vs:List V)(H:ah)(Q:bo)(E:bL):Prop
 | mk (bJ cU b3 aL d:Addr) (i:Nat) (n num b start ch least m0:Int) (w h:Nat) (sg:List Nat) (st:List Int) (es:List Ent) (cR:Fl.Good w h sg) (f0:gV st sg) (_:vs=[.ref bJ,.ref cU,.ref b3,.int num,.int b,.int start,.int ch,.ref aL,.int least]) (_:f0.1=[(aW (met st 0 start) start,.int ch)]) (_:kv ad H cU i n) (_:i<=3) (_:iF (ad 83) H bJ w h sg) (_:aK K H aL (st.map V.int)) (_:st≠[]) (_:st.length<=4) (_:sg.length<=9) (_:gU (ad 90) H b3 d es) (_:iA es) (_:0<=n) (_:n<=20) (_:ch<=n) (_:dT i (at_ sg start)=true) (_:0<=b) (_:b<=1000) (_:ni ((bk es num).map e6) 0 m0) (_:m0<=1000) (_:gJ (rN j1) "sought.<locals>.there" bj H) (_:∀r H',tV bj H H'->gJ (rN j1) "sought.<locals>.there" bj H'->H r=none->BV ad H H' r (bk es num) i st n cR b (max b m0) least f0->Q (.ref r) H')
def hQ (k:Nat)(vs:List V):St:=vs.foldr (λv r=>some v::r) (replicate k none)
theorem zwk {k:Nat}{r:List V}:hQ k (v::r)=some v::hQ k r:=rfl
theorem WA {k:Nat}:hQ k []=replicate k none:=rfl
theorem H7:∀xs:List Int,∃m,ni xs 0 m
 | []=>⟨0,.inl ⟨rfl,rfl⟩⟩
 | x::r=>by
  obtain⟨m,h⟩:=H7 r;rcases h with⟨rfl,_⟩|⟨aa,ag⟩
  ·exact⟨x,.inr ⟨by simp,λa aN=>by rw[mem_singleton.mp aN];exact wa9 _⟩⟩
  ·by_cases z:x<=m
   ·exact⟨m,.inr ⟨mem_cons_of_mem _ aa,λa aN=>(mem_cons.mp aN).elim (λe=>by rwa[e]) (ag a)⟩⟩
   ·exact⟨x,.inr ⟨by simp,λa aN=>(mem_cons.mp aN).elim (λe=>by rw[e];exact wa9 _) λe=>by have:=ag a e;omega⟩⟩
theorem H8 {h:Nat}{b T gv:Int}{cR:Fl.Good w h sg}{f0 F:gV st sg}(eA:0<=b) (kp:∀u r,q<=u->Still es u r) (lF:Sr.rG Alike (stepT es i st n cR) (λt (f:gV st sg)=>gu es st f.1 t least) b q f0 T F) (ae:b<=gv):¬gu es st (Sr.d8 (stepT es i st n cR) b f0 gv).1 gv least:=λy=>by
 have qb:=qv (es:=es) (i:=i) (st:=st) (n:=n) (least:=least) cR
 by_cases z:gv<=T
 ·exact lF.no gv ae z y
 ·have bj:=lF.le
  have k:=Sr.gX qb (t':=gv) bj (qb.refl _) (by rw[<- Sr.wD (step:=stepT es i st n cR) (f0:=f0) bj];exact qb.symm lF.iY) (λs aa ag k=>by
   show aS (e9 es i w sg st n s _) k=aS (e9 es i w sg st n T _) k
   show aS (spread (zu (cz es s) i w sg st n) _) k=aS (spread (zu (cz es T) i w sg st n) _) k
   rw[HQ (kp T (s+1) lF.kp) aa ⋯]) (gv-T).toNat ⋯
  rw[show T+(((gv-T).toNat:Nat):Int)=gv by omega]at k;obtain⟨x,v,fo,kr,H9,WB⟩:=qb.test gv (qb.symm k) y;exact lF.no T bj (wa9 _) ⟨x,v,fo,kr,H9,Gp H9 ⋯ (kp T gv lF.kp) ⋯ (wa9 _) WB⟩
theorem ux (m:Nat)(p:Int->Prop)(h0:(0:Int)<m)(h:∀n:Nat,n<m->p n)(c:Int):p (c%m):=by
 obtain⟨n,e⟩:=eq_ofNat_of_zero_le (emod_nonneg c (Int.ne_of_gt h0));have l:=emod_lt_of_pos c h0
 rw[e]at l ⊢;exact h n (Int.ofNat_lt.mp l)
theorem Ia:∀c:Int,c%3=0\/c%3=1\/c%3=2:=ux 3 (λx=>x=0\/x=1\/x=2) ∅ ∅
theorem WC:∀c:Int,c%4=0\/c%4=1\/c%4=2\/c%4=3:=ux 4 (λx=>x=0\/x=1\/x=2\/x=3) ∅ ∅
theorem md5:∀c:Int,c%5=0\/c%5=1\/c%5=2\/c%5=3\/c%5=4:=ux 5 (λx=>x=0\/x=1\/x=2\/x=3\/x=4) ∅ ∅
theorem Ib:∀c:Int,c%6=0\/c%6=1\/c%6=2\/c%6=3\/c%6=4\/c%6=5:=ux 6 (λx=>x=0\/x=1\/x=2\/x=3\/x=4\/x=5) ∅ ∅
theorem WD:∀c:Int,c%10=0\/c%10=1\/c%10=2\/c%10=3\/c%10=4\/c%10=5\/c%10=6\/c%10=7\/c%10=8\/c%10=9:=ux 10 (λx=>x=0\/x=1\/x=2\/x=3\/x=4\/x=5\/x=6\/x=7\/x=8\/x=9) ∅ ∅
inductive WE (ad:dJ)(vs:List V)(H:ah)(Q:bo)(E:bL):Prop
 | mk (p d:Addr) (es:List Ent) (n:Int) (_:vs=[.ref p,.int n]) (_:kl (ad 90) H p d es) (_:(es.map (·.k)).Nodup) (_:(∀e∈es,e.k=n->Q e.v H)) (_:((∀e∈es,e.k≠n)->E (.ref (ad 92)) none H))
def oN (st:List Int):Nat->List Int->List (Nat×Int)
 | _,[]=>[]
 | m,c::cs=>(met st m c,c)::oN st (met st m c) cs
def lG (H:ah)(a:Addr)(x:Nat×Int):Prop:=H a∣.tup ((aW x.1 x.2).map bq)
inductive WG (K:Frag)(vs:List V)(H:ah)(Q:bo)(E:bL):Prop
 | mk (aL cl:Addr) (st cs:List Int) (_:vs=[.ref aL,.ref cl]) (_:aK K H aL (st.map V.int)) (_:st.length<=100) (_:aK K H cl (cs.map V.int)) (_:cs≠[]) (_:cs.length<=10^6) (_:∀r H' (as:List Addr),aQ H H'->H r=none->H' r∣.lst (as.map V.ref)->Paired (lG H') as (oN st 0 cs)->Q (.ref r) H')
inductive WH (K:Frag)(vs:List V)(H:ah)(Q:bo)(E:bL):Prop
 | mk (x:Str) (i:Nat) (l cU e aL cX nl:Addr) (n num b:Int) (w h:Nat) (sg:List Nat) (st:List Int) (es:List Ent) (TT:Nat->cT) (ts as:List Addr) (ns:List (Nat×Int)) (_:vs=[.ref l,.ref cU,.ref e,.ref aL,.int b,.ref cX,.ref nl]) (_:j2[i]?∣x) (_:i<3) (_:hb H l w h sg) (_:Fl.Good w h sg) (_:rZ H cU x n num) (_:ky H e es) (_:aK K H aL (st.map V.int)) (_:st.length<=100) (_:0<=n) (_:H cX∣.lst (ts.map V.ref)) (_:ts.length=ns.length) (_:oH H st sg TT ts) (_:H nl∣.lst (as.map V.ref)) (_:Paired (lG H) as ns) (_:ns.length<=10^6) (_:(∀(p:Nat) x y,ns[p]?∣x->ns[p+1]?∣y->∃q,aS (TT (p+1)) (aW y.1 y.2)∣.int q/\lE (zu (cz (bk es num) (b+p)) i w sg st n) (TT p) (aW y.1 y.2) q x)) (_:∀H',aQ H H'->Q (.bl true) H')
inductive WI (ad:dJ)(K:Frag)(vs:List V)(H:ah)(Q:bo)(E:bL):Prop
 | mk (x:Str) (i:Nat) (l cU e fg aL r:Addr) (n num b start ch least TE:Int) (w h:Nat) (sg:List Nat) (st:List Int) (es:List Ent) (cR:Fl.Good w h sg) (f0:gV st sg) (_:vs=[.ref l,.ref cU,.ref e,.ref fg,.ref r]) (_:j2[i]?∣x) (_:i<3) (_:hb H l w h sg) (_:rZ H cU x n num) (_:ky H e es) (_:H fg∣.tup [.ref aL,.int b,.int start,.int ch,.int least]) (_:aK K H aL (st.map V.int)) (_:st≠[]) (_:st.length<=100) (_:0<=n) (_:0<=b) (_:f0.1=[(aW (met st 0 start) start,.int ch)]) (_:dT i (at_ sg start)=true) (_:H5 ad H r (bk es num) i w sg st n b (λu=>(Sr.d8 (stepT (bk es num) i st n cR) b f0 u).1) TE) (_:b<=TE) (_:TE<=100000) (_:gu (bk es num) st (Sr.d8 (stepT (bk es num) i st n cR) b f0 TE).1 TE least) (_:(∀u,b<=u->u<TE->¬gu (bk es num) st (Sr.d8 (stepT (bk es num) i st n cR) b f0 u).1 u least)) (_:∀H',aQ H H'->Q (.bl true) H')
theorem WJ {bh:Addr}{f3:Obj}{f g:cT}(sB:v6 bh H H') (hf:H' bh∣.cc f3 (.bc f)) (dY:H bh∣.bc f) (aN:H a∣.bc g):jj H' a (.bc g):=by
 by_cases z:a=bh
 ·subst z;rw[dY]at aN;cases aN;exact .inr ⟨f3,hf⟩
 ·exact .inl (sB _ _ aN z)
theorem WK {a8 bK:Int}{m:Nat}{k:List Key}(aa:(k,a8)∈zu op i w sg st n m c q) (ag:(k,bK)∈zu op i w sg st n m c q):a8=bK:=by
 have f:∀{z:Int},(k,z)∈zu op i w sg st n m c q->∃o,k=aW (met st m o) o/\z=jC i w sg n c o q:=λ{z} h=>by
  obtain⟨o,_,e⟩:=mem_filterMap.mp h;unfold hN at e;split at e
  ·cases e;exact⟨o,rfl,rfl⟩
  ·cases e
 obtain⟨o,ar,rfl⟩:=f aa;obtain⟨bQ,aw,rfl⟩:=f ag;rw[(jz (ar.symm.trans aw)).2]
theorem Ic {m:Nat}(hm:m<=st.length) (ak:en sg c) (d9:0<=q):dk st sg [(aW m c,.int q)]:=⟨nodup_cons.mpr ⟨not_mem_nil,nodup_nil⟩,λx aq=>⟨m,c,q,mem_singleton.mp aq,hm,ak,d9⟩⟩
theorem WL {h:Nat}{t q':Int}{m:Nat}{k:List Key}(g:Fl.Good w h sg) (lo:dk st sg [(aW m c,.int q)]):aS (spread (zu (cz es t) i w sg st n) [(aW m c,.int q)]) k∣.int q'↔(k,q')∈zu (cz es t) i w sg st n m c q:=by
 have fP:=qu lo (lC (op:=cz es t) (i:=i) (n:=n) g)
 have e:[(aW m c,V.int q)].flatMap (ly (zu (cz es t) i w sg st n))=zu (cz es t) i w sg st n m c q:=by
  rw[flatMap_cons,List.flatMap_nil,append_nil];show zu (cz es t) i w sg st n ((m:Int)).toNat c q=_
  rw[toNat_natCast]
 rw[e]at fP;constructor
 ·intro aJ;obtain⟨bK,aw,hP,_⟩:=fP.to _ _ aJ;cases aw;exact hP
 ·intro aj;cases ev:aS (spread (zu (cz es t) i w sg st n) [(aW m c,.int q)]) k with
  | none=>exact br aj (fP.no _ ev _)
  | some v=>
   obtain⟨bK,rfl,hP,_⟩:=fP.to _ _ ev;rw[WK aj hP]
def BW (H:ah)(a:Addr):List Int:=match H a with
 | some (.tup [.int a,.int b])=>[a,b]
 | _=>[]
theorem BX (h:lG H a y):BW H a=[(y.1:Int),y.2]:=by
 unfold BW;rw[show H a=_ from h];rfl
theorem WM {bs:List Addr}{zs:List (Nat×Int)} (h:Paired (lG H) bs zs):Paired (ug H) bs (zs.map λy=>((y.1:Int),y.2)):=by
 induction h with
 | nil=>exact .nil
 | cons h _ bE=>exact .cons h bE
theorem WN {h:Nat}{f:cT}{k:List Key}(g:Fl.Good w h sg) (c4:0<=n) (lo:dk st sg f) (eT:j3 i sg f) (l:lE (reachOf op i w sg st n) f k q x):lE (zu op i w sg st n) f k q x:=by
 have e:∀{y:Nat×Int}{q':Int},aS f (aW y.1 y.2)∣.int q'->reachOf op i w sg st n y.1 y.2 q'=zu op i w sg st n y.1 y.2 q':=λ{y q'} aJ=>by
  have hm:=mm aJ
  obtain⟨m,c,z,ar,_,_,rt⟩:=lo.ok _ hm;injection ar with _ aw
  injection aw with aw
  exact HH g (eT _ _ _ hm) c4 (by rwa[aw])
 obtain⟨⟨a,b,c⟩,r⟩:=l;exact⟨⟨a,b,by rwa[<- e b]⟩,λy ⟨a,b,c⟩=>r y ⟨a,b,by rwa[e b]⟩⟩
theorem WO {q':Int}{m:Nat}(h:(aW y.1 y.2,q)∈zu op i w sg st n m c q'):y.1=met st m y.2:=by
 obtain⟨o,_,e⟩:=mem_filterMap.mp h;unfold hN at e;split at e
 ·injection e with e
  injection e with e _
  obtain⟨ar,aw⟩:=jz e;rw[<- ar,<- aw]
 ·cases e
theorem WQ:∀(ns:List (Nat×Int))(m:Nat),(∀x,ns[0]?∣x->x.1=met st m x.2)->(∀(p:Nat) x y,ns[p]?∣x->ns[p+1]?∣y->y.1=met st x.1 y.2)->oN st m (ns.map (·.2))=ns:=by
 intro ns;induction ns with
 | nil=>intro m _ _;rfl
 | cons x r bE=>
  intro m h0 aa;have e:=h0 x rfl
  show(met st m x.2,x.2)::oN st (met st m x.2) (r.map (·.2))=_
  rw[<- e,bE x.1 (λy bg=>aa 0 x y rfl bg) λp a b aN ae=>aa (p+1) a b aN ae]
structure WR (es:List Ent)(i w:Nat)(sg:List Nat)(st:List Int)(n b start k:Int)(TT:Nat->cT)(ns:List (Nat×Int)):Prop where
 pos:0<ns.length
 WS:oN st 0 (ns.map (·.2))=ns
 fst:∀x,ns[0]?∣x->x.2=start
 lst:ns[ns.length-1]?∣(st.length,cG st)
 ins:∀(p:Nat) x,ns[p]?∣x->∃q,aS (TT p) (aW x.1 x.2)∣.int q
 WT:aS (TT (ns.length-1)) (aW st.length (cG st))∣.int k
 led:∀(p:Nat) x y,ns[p]?∣x->ns[p+1]?∣y->∃q,aS (TT (p+1)) (aW y.1 y.2)∣.int q/\lE (zu (cz es (b+p)) i w sg st n) (TT p) (aW y.1 y.2) q x
theorem WU {h:Nat}{b start k T ch:Int}{TT:Nat->cT}{F:Int->cT} (g:Fl.Good w h sg) (c4:0<=n) (oO:b<=T) (hl:∀p:Nat,F (b+p)=TT p) (lo:∀p,dk st sg (TT p)) (eT:∀p,j3 i sg (TT p)) (cy:TT 0=[(aW (met st 0 start) start,.int ch)])
  (ln:(rs.length:Int)=T-b+1) (tk:ib (λu=>reachOf (cz es u) i w sg st n) F T (st.length,cG st) rs) (aj:aS (F T) (aW st.length (cG st))∣.int k):WR es i w sg st n b start k TT rs.reverse:=by
 have lr:rs.reverse.length=rs.length:=length_reverse
 have pos:0<rs.length:=⋯
 have cf:∀{p:Nat}{x},rs.reverse[p]?∣x->p<rs.length/\rs[rs.length-1-p]?∣x:=λ{p x} e=>by
  have l:=(wa4.mp e).1
  rw[lr]at l;rw[List.getElem?_reverse l]at e;exact⟨l,e⟩
 have led:∀(p:Nat) x y,rs.reverse[p]?∣x->rs.reverse[p+1]?∣y->∃q,aS (TT (p+1)) (aW y.1 y.2)∣.int q/\lE (zu (cz es (b+p)) i w sg st n) (TT p) (aW y.1 y.2) q x:=λp x y ex el=>by
  obtain⟨e2,ar⟩:=cf ex;obtain⟨e3,aw⟩:=cf el;rw[show rs.length-1-p=rs.length-1-(p+1)+1 by omega]at ar;obtain⟨q,aa,ag⟩:=tk.st _ x y aw ar;rw[show T-((rs.length-1-(p+1):Nat):Int)=b+((p+1:Nat):Int) by omega,hl]at aa;rw[show T-((rs.length-1-(p+1):Nat):Int)-1=b+(p:Int) by omega,hl]at ag;exact⟨q,aa,WN g c4 (lo p) (eT p) ag⟩
 have uy:T=b+((rs.length-1:Nat):Int):=⋯
 have last:rs.reverse[rs.length-1]?∣(st.length,cG st):=by
  rw[List.getElem?_reverse ⋯,show rs.length-1-(rs.length-1)=0 by omega];exact tk.hd
 have c6:aS (TT (rs.length-1)) (aW st.length (cG st))∣.int k:=by rwa[<- hl,<- uy]
 have ins:∀(p:Nat) x,rs.reverse[p]?∣x->∃q,aS (TT p) (aW x.1 x.2)∣.int q:=λp x ex=>by
  obtain⟨l,_⟩:=cf ex;by_cases z:p+1<rs.length
  ·have el:=getElem?_eq_getElem (l:=rs.reverse) (i:=p+1) ⋯
   obtain⟨q,_,⟨q',aa,_⟩,_⟩:=led p x _ ex el;exact⟨q',aa⟩
  ·rw[show p=rs.length-1 by omega,last]at ex;cases ex;rw[show p=rs.length-1 by omega];exact⟨k,c6⟩
 have first:∀x,rs.reverse[0]?∣x->x=(met st 0 start,start):=λx ex=>by
  obtain⟨q,aJ⟩:=ins 0 x ex;rw[cy]at aJ;have:=mm aJ
  obtain⟨ar,_⟩:=Prod.ext_iff.mp (mem_singleton.mp this);obtain⟨aw,bV⟩:=jz ar;exact Prod.ext aw bV
 refine⟨⋯,WQ _ 0 (λx ex=>by rw[first x ex]) (λp x y ex el=>?_),λx ex=>by rw[first x ex],by rwa[lr],ins,by rwa[lr],led⟩;obtain⟨_,_,⟨_,_,h⟩,_⟩:=led p x y ex el;exact WO h
theorem r0 (b:Int)(c:List Int):SeqAt.shaped (.tuple [.int b,.tuple (c.map PyData.int)])=true:=by
 simp[SeqAt.shaped,PyData.canLay0,PyData.canLayAll0,PyData.depth,PyData.depthAll,s8 c,s9 c]
theorem WV (b:Int)(c:List Int):SeqAt.shaped (.list [.tuple [.int b,.tuple (c.map PyData.int)],.tuple [.int b,.tuple (c.map PyData.int)]])=true:=by
 simp[SeqAt.shaped,PyData.canLay0,PyData.canLayAll0,PyData.depth,PyData.depthAll,s8 c,s9 c]
theorem gJ.l {k bj:Addr}(h:gJ pos qual bj H) (aj:H k∣.lst xs) (s:v6 k H H'):gJ pos qual bj H':=by
 obtain⟨t,a,b,c⟩:=h;refine⟨t,s _ _ a (cM a aj nofun),b,c.imp id ?_⟩;rintro⟨c,co,ar,aw,bV⟩;exact⟨c,co,ar,s _ _ aw (cM aw aj nofun),bV⟩
theorem WW {a b l:List Int}(aa:a.Perm l) (ag:b.Perm l) (s1:a.Pairwise (·<=·)) (s2:b.Pairwise (·<=·)):a=b:=(aa.trans ag.symm).eq_of_pairwise (λ_ _ _ _ x y=>Int.le_antisymm x y) s1 s2
def r1 (es:List Ent)(i:Nat){h:Nat}(st:List Int) (n:Int) (g:Fl.Good w h sg) (b least:Int) (f0:gV st sg) (cs:List Int):Prop:=∃(T:Int)(rs:List (Nat×Int)),cs=(rs.map (·.2)).reverse/\(rs.length:Int)=T-b+1/\ib (λu=>reachOf (cz es u) i w sg st n) (λu=>(Sr.d8 (stepT es i st n g) b f0 u).1) T (st.length,cG st) rs/\b<=T/\gu es st (Sr.d8 (stepT es i st n g) b f0 T).1 T least/\∀u,b<=u->u<T->¬gu es st (Sr.d8 (stepT es i st n g) b f0 u).1 u least
theorem ib.uniq {F:Int->cT}{T:Int}{k:Nat×Int}{qx:List (Nat×Int)} (h:ib R F T k rs) (h':ib R F T k qx) (e:rs.length=qx.length):rs=qx:=by
 refine List.ext_getElem? λj=>?_;induction j with
 | zero=>rw[h.hd,h'.hd]
 | succ j bE=>
  by_cases l:j+1<rs.length
  ·have ar:=getElem?_eq_getElem (l:=rs) (i:=j+1) l
   have aw:=getElem?_eq_getElem (l:=qx) (i:=j+1) ⋯
   have bV:=getElem?_eq_getElem (l:=rs) (i:=j) ⋯
   obtain⟨q,v,e2,e3⟩:=h.st j _ _ bV ar;obtain⟨q',ep,WX,WY⟩:=h'.st j _ _ (bE.symm.trans bV) aw;rw[v]at ep;cases ep;have z:=Hq.An (WY _ e2) (e3 _ WX)
   injection z with eu eP
   injection eP with eP _
   rw[ar,aw,Prod.ext (Int.ofNat_inj.mp eu) eP]
  ·rw[List.getElem?_eq_none ⋯,List.getElem?_eq_none ⋯]
theorem r1.one {h:Nat}{b:Int}{g:Fl.Good w h sg}{f0:gV st sg}{cs Ie:List Int}(x:r1 es i st n g b least f0 cs) (y:r1 es i st n g b least f0 Ie):cs=Ie:=by
 obtain⟨T,rs,rfl,l,tk,oO,hD,no⟩:=x;obtain⟨gv,qx,rfl,rJ,p8,BY,BZ,WZ⟩:=y;have e:T=gv:=by
  rcases Int.lt_trichotomy T gv with z|z|z
  ·exact br hD (WZ T oO z)
  ·exact z
  ·exact br BZ (no gv BY z)
 subst e;rw[tk.uniq p8 ⋯]
inductive xu (K:Frag)(bj:Addr)(vs:List V)(H:ah)(Q:bo)(E:bL):Prop
 | mk (a:Addr) (ns:List Int) (_:vs=[.ref a]) (_:aK K H a (ns.map V.int)) (_:ns.length<=63) (_:(∀i∈ns,kV i)) (_:gJ (rN j1) "sought.<locals>.there" bj H) (_:∀H',Q (.bl true) H')
set_option hygiene false
local macro_rules|`(tactic|left)=>`(tactic|refine oqq λUq uq=>?_)
local macro_rules|`(tactic|nofun)=>`(tactic|refine a9 _ _ ?_)
local macro_rules|`(tactic|right)=>`(tactic|refine uq ?_)
local macro_rules|`(tactic| walk_at "h")=>`(tactic| (have aeC:Hid _:=HR.N9;have HU:Hid _:=HR.units;have hA:=HR.hd;have hz:=big))
local macro_rules|`(tactic| and_intros)=>`(tactic| (intro cdv A outer s H vs Q E R h Uq uq;have HR:=R.r;walk_at "h";have ND:=R.nd))
local macro_rules|`(tactic| rfl')=>`(tactic| try dsimp only[g6,Cx.nox,Cx.wish])
set_option hygiene true
theorem Ig:Db "Meets":=∅
theorem W0:Db "NoCarrier":=∅
theorem W2:Db "SIGNS":=∅
theorem W3:Db "WALL":=∅
theorem W4:Db "_law_mixed":=∅
theorem W5:Db "_law_sign":=∅
theorem W6:Db "last_time":=∅
theorem y2:Db "len":=∅
theorem Ih:RQ "len":=∅
theorem W7:Db "stays_till":=∅
theorem W8:ma j1 "time":=∅
theorem Ii:ma j1 "layer":=∅
theorem W9:z7 rR "pairs":=∅
theorem Xa:z7 qj "_law_cells":=∅
theorem Ij:ma xb "there":=∅
theorem Xb:z7 qk "_law_stops":=∅
theorem Xc:ho w7 "NoCarrier":=∅
theorem Xd:ho w5 "Meets":=∅
theorem Xe:ho t7 "max":=∅
theorem Xf:ho t8 "min":=∅
theorem Ik:ho ua "range":=∅
theorem Xg:ho xe "range":=∅
theorem Xh:ho xf "range":=∅
theorem Xi:ho ub "max":=∅
theorem Xj:ho xg "range":=∅
theorem Xk:ho xc "range":=∅
theorem Xl:ho xd "range":=∅
theorem Xm:ho qj "Meets":=∅
theorem B0:ho qj "range":=∅
theorem Xn:ho w4 "range":=∅
theorem Il:ho qk "range":=∅
theorem Xo:ho w8 "enumerate":=∅
theorem Im:hp nk "searched":=∅
theorem Xp:ho w3 "range":=∅
theorem Xq:hp j1 "is_free":=∅
theorem Io:ho t9 "reversed":=∅
theorem Xr:ho t9 "tuple":=∅
theorem Ip:FS q49 q49 AF:=∅
theorem Xs:FS ["thing"] ["thing"] AG:=∅
theorem Xt:FS q51 q51 w0:=∅
theorem Xu:FS q05 q05 AK:=∅
theorem Xv:FS q05 q05 AL:=∅
theorem Xw:FS q05 q05 AM:=∅
theorem Xx:FS q52 q52 AN:=∅
theorem Xy:FS q03 q03 AO:=∅
theorem Xz:FS q03 q03 AP:=∅
theorem XA:FS q00 q00 AQ:=∅
theorem XB:FS q03 q03 AU:=∅
theorem XC:FS q03 q03 AV:=∅
theorem XD:FS q03 q03 AX:=∅
theorem XE:FS ["way"] ["way"] A0:=∅
theorem XF:FS q25 q25 A1:=∅
theorem XG:FS q27 q27 A4:=∅
theorem XH:FS q27 q27 A6:=∅
theorem XI:FS q04 q04 w6:=∅
theorem XJ:FS q28 q28 A9:=∅
theorem XK:FS ["way","cell","left","index","place"] ["way","cell"] w8:=∅
theorem XM:FS ["stops","many","cell","met"] q46 Ba:=∅
theorem XN:FS q12 q12 Bc:=∅
theorem XO:FS q37 q37 Bg:=∅
theorem XP:FS q31 q31 Bh:=∅
theorem XQ:FS q54 q54 Bi:=∅
theorem XR:FS q16 q16 Bj:=∅
theorem XS:FS q15 q15 Bm:=∅
theorem XT:FS q22 q22 Bo:=∅
theorem XU:FS ["_law_way","_law_time","_law_begin","_law_cells"] q43 Br:=∅
theorem XW:FS ["_law_stops","_law_many","_law_cell","_law_stop"] q24 Bt:=∅
theorem XX:FS q19 q19 ub:=∅
theorem XY:FS q32 q32 AH:=∅
theorem XZ:FS q33 q33 AR:=∅
theorem X0:FS q00 q00 AW:=∅
theorem X1:FS q00 q00 AY:=∅
theorem X2:FS q25 q25 A2:=∅
theorem X3:FS q04 q04 t7:=∅
theorem X4:FS ["self","number","cell","free","way"] q42 A8:=∅
theorem Iq:FS q04 q04 w7:=∅
theorem X5:FS q29 q29 Bb:=∅
theorem X6:FS q36 q36 Bf:=∅
theorem X7:GH ["time","layer"] q35 (bU j1):=⟨rfl,rfl,rfl,∅,∅,∅,∅,∅⟩
theorem X8:FS ["_law_script","_law_k","_law_number"] q16 Bl:=∅
theorem X9:FS ["_law_lines","_law_cell","_law_wide","_law_row","_law_column","_law_found","_law_down","_law_across","_law_other"] q15 Bn:=∅
theorem Ya:FS q11 q11 Bp:=∅
theorem Yb:FS ["_law_lines","_law_kind","_law_full","_law_cell","_law_charge","_law_gain"] q14 Bq:=∅
theorem Yc:FS ["_law_ways_here","_law_number","_law_cell","_law_other","_law_time","_law_one","_law_ahead","_law_behind"] q10 Bs:=∅
theorem Yd:FS ["_law_lines","_law_kind","_law_found","_law_cell"] q40 xc:=∅
theorem Ye:FS ["_law_ways_here","_law_number","_law_cell","_law_last","_law_found","_law_time","_law_one"] q17 xe:=∅
theorem Yf:FS ["lines","line"] ["lines"] w1:=∅
theorem Yg:FS q05 q05 AJ:=∅
theorem Yh:FS q00 q00 AS:=∅
theorem Ir:FS q53 q53 AZ:=∅
theorem Yi:FS ["way","time","end","place","later"] q39 w3:=∅
theorem Yj:FS ["one","other","time","place","far"] q48 A3:=∅
theorem It:FS q04 q04 A5:=∅
theorem Yk:FS ["self","number","time","places","way","later"] q41 A7:=∅
theorem Yl:FS ["_law_script","_law_number","_law_wide","_law_high","_law_signs","_law_k","_law_draw"] q26 ua:=∅
theorem Ym:FS ["_law_lines","_law_kind","_law_full","_law_ways_here","_law_number","_law_stops","_law_time","_law_layer","_law_found","_law_node","_law_many","_law_cell","_law_other","_law_left","_law_cost_here","_law_later"] q01 Bu:=∅
theorem Yn:FS ["_law_ways_here","_law_mover","_law_stops","_law_layer","_law_time","_law_least","_law_free_here","_law_end"] q07 Bv:=∅
theorem Yo:FS ["_law_stops","_law_cells","_law_many","_law_found","_law_cell"] q38 Bw:=∅
theorem Yp:FS q50 q50 AI:=∅
theorem Yq:FS ["self","cell","near"] q05 w2:=∅
theorem Yr:FS ["one","other","begin","end","time","word"] ["one","other"] w4:=∅
theorem Ys:FS q21 q21 t8:=∅
theorem Yt:FS ["_law_lines","_law_mover","_law_ways_here","_law_stops","_law_begin","_law_layer","_law_last","_law_found","_law_time"] q06 xd:=∅
theorem Yu:FS ["_law_lines","_law_mover","_law_ways_here","_law_stops","_law_begin","_law_tiers_here","_law_nodes_here","_law_place_here","_law_good","_law_node","_law_one","_law_later","_law_end"] q02 xf:=∅
theorem Yv:FS ["self","floor","cell","pairs"] q44 rR:=∅
theorem Iu:FS ["self","number","way","other"] q45 w5:=∅
theorem Yw:FS ["_law_lines","_law_mover","_law_ways_here","_law_asked","_law_found","_law_stops","_law_begin","_law_start","_law_charge","_law_least","_law_cells","_law_first","_law_tiers_here","_law_nodes_here","_law_place_here","_law_is_there"] q09 xg:=∅
theorem Yx:FS ["self","node","steps"] ["self","node"] xa:=∅
theorem Yy:FS ["_law_script","_law_first","_law_lines","_law_number","_law_cells","_law_book","_law_ways_here","_law_k","_law_draw","_law_walk","_law_step","_law_some","_law_one","_law_way"] q18 qj:=∅
theorem Yz:FS ["self","comings","node","charge","cell","pairs","other","cost"] q30 Be:=∅
theorem YA:FS ["self","time","layer","comings","behind","node","other","charge"] q47 Bd:=∅
theorem YB:FS ["self","time","layer","node","charge","comings","near"] q23 w9:=∅
theorem YC:FS ["spread","marks","time","node","charge","cells","first","layer"] q34 t9:=∅
theorem Iv:FS ["spread","begin","layer","there","quiet","time","marks","node","behind"] q20 xb:=∅
theorem Iw:FS q13 q08 nk:=∅
theorem Iy:FS ["_law_script","_law_lines","_law_draw","_law_mover","_law_book","_law_ways_here","_law_stands_here","_law_stops","_law_begin","_law_start","_law_charge","_law_least","_law_floor_here","_law_carrier","_law_handed","_law_asked","_law_paths","_law_turn","_law_own","_law_found"] q26 qk:=∅
seal PA PE PS PSs PI PG
section
variable {ad:uc}(T:Txt ad)
include T
local macro_rules|`(tactic|ext)=>do let f:=λs:String=>(s.splitOn " ").toArray.map λs=>Lean.mkIdent s.toName;let x:=f "zju P9 DK zsa vo zha zwe Ek rJoin zke zsu vP EM zsg zvx QK zvv zez zxy ipI zvr zdv y3 zsh G8 zsi zsr Gv zjs zhh FK Ends.thawK zsv EE zdm Fx zlt zhl zhm tVr zsj GZ G0 zut zwf zjl AE zwk WA zez Sq yt zjh zif noW zxt tOp tUn zxs tC lW rI rU vy zxq zsm zxw zsb hW tCB zhe zus zsp zuf zsk zvy tOr zwu tB tIf zfe zgz tBM zwl D1 zec zsy tSl zku DF zvh rIn zvd zur Eg rEq rNe ztd ztk zts zth Ss Su Sv zud Sw yV zuo zjf zeg y3 zwo zsw zsx zse mR zxf zsc zwi cxK cxA zya PU L2.start map_cons map_nil length_cons length_nil List.replicate_succ List.replicate_zero List.cons_append List.nil_append append_nil Nat.reduceAdd Nat.reduceSub List.set_cons_zero List.set_cons_succ List.getElem?_cons_zero List.getElem?_cons_succ Option.getD_some getD_none Option.some.injEq V.int.injEq V.ref.injEq V.bl.injEq V.str.injEq V.ty.injEq exists_eq_left' exists_eq_left exists_and_left and_assoc List.cons.injEq and_true true_and decide_eq_true_eq not_eq_true' decide_eq_false_iff_not false_eq_true if_false if_true reduceIte Bool.not_true Bool.not_false beq_self_eq_true";let y:=f "Sa Sb Sd Se Sf Sg Sh zva ztb zre So Si Sj Sk Sl Sm Sn Sp";`(tactic|simp only[$[$x:term],*,$[↓$y:term],*])
theorem YD:cv ad (i7 ad.nq ad.nr) 1 (ad.ai 0) q49 (Vg ad.ai):=by
 obtain⟨fd,F,B⟩:=(T 175);refine⟨fd,B,?_⟩;refine F.we Ip.sc.1 ?_ (λcdv A outer s H vs Q E HR h=>oqq λUq uq=>?_);walk_at "l"
 have R:fO _ _ _ _ _:=⟨Ip,HR⟩
 have ND:=R.nd
 walk_at "h"
 obtain⟨x,k,aT,aL,rfl,aq,ao⟩:=h;refine uq ⟨_,(aX (Ur (U 0 R) (U 1 R) rfl)),?_⟩;rfl';ext;exact⟨_,_,_,aq,⟨(T 161),(T 162),(T 163)⟩,(T 164),λav di dO=>ao av di dO⟩
theorem Iz:cv ad bI 1 (ad.ai 1) ["thing"] (UM ad.az):=by
 refine cE (T 176) Xs ?_;and_intros;obtain⟨x,rfl,ty,ao⟩:=h;refine uq ⟨_,(aX (bY (lT (cJ mU R (T 2) (af (U 0 R) (af (nc (v:=.ty "int") R (T 4) rfl) ay))) (kI (Nn (cJ mU R (T 2) (af (U 0 R) (af (nc (v:=.ty "bool") R (T 5) rfl) ay)))))))),?_⟩;rfl';obtain⟨n,ty⟩:=ty;have ar:=UK ty
 have aw:=UL ty
 ext;refine⟨_,ty,_,ar,?_⟩;cases ae:xi x with
 | true=>
  rw[aM rfl];refine⟨_,ty,_,aw,?_⟩;cases x<;>simp_all [ud,Bx,xi]
 | false=>
  rw[aB (by decide)];cases x<;>simp_all [ud,Bx,xi]
theorem YE:cv ad bI 1 (ad.ai 3) q51 (UP):=by
 refine cE (T 178) Xt ?_;and_intros;obtain⟨x,n,rfl,hn,EX,ok,ao⟩:=h;obtain⟨aeD,YF,YG⟩:=(T 20);refine uq ⟨_,(aV (cN (eF.pt (jm (jn (fS (cJ mU R (T 2) (af (U 0 R) (af (nc (v:=.ty "str") R (T 6) rfl) ay))))) (kH (cp hC (cJ kd R (T 0) (af (U 0 R) ay)) (U 1 R)))))
 pj
 zx)
 (aX (cN (jn (fS (cJ E6 R (T 3) (af (kg (gD.of (hG:=bU w0) (tn:=["sign"]) (cn:=[]) (dR:=[]) rfl rfl ∅ ∅ ∅ ∅ rfl) (cY rfl)  (E3 (U 0 R))
 (λ_ _ _ _ _=>(hX (i:=0) (show(["sign"]:List Str).Nodup by decide +kernel) rfl (Or.inl rfl))) (λ_ _ _ _ _=>od) (λ_ _ _ _ _=>(hq E5 (cK 0) (yr (v:=V.str (!".#+~|")) (by rfl) YF YG (hd:=W2))))) ay))))
 pj
 zx))),?_⟩
 rfl';ext;refine⟨_,.str _,true,rfl,?_⟩;rw[aB (by decide)];refine⟨⋯,?_⟩;rw[aB ⋯];refine pN E4 (λ_=>true) Hg (λy bg Q h=>h) (λy bg _ Q h=>?_) (by rw[length_map,E9];omega) ?_
 ·left;obtain⟨c,ak,rfl⟩:=mem_map.mp bg;right;ext;exact⟨c,rfl,h⟩
 ·intro D e1;have el:((x.cps.toList.map dw).filter λ_=>true).map Hg=(x.cps.toList.map λc=>decide (c∈(!".#+~|").cps.toList)).map V.bl:=by
   rw[List.filter_eq_self.mpr (λ_ _=>rfl),map_map,map_map];rfl
  rw[el];refine⟨hA,_,aK.of aH,?_⟩;have aw:(x.cps.toList.map λc=>decide (c∈(!".#+~|").cps.toList)).all id=true:=by
   rw[all_map,all_eq_true];intro c ak;exact decide_eq_true (UO (ok c ak))
  rw[aw,aB (by decide)];exact ao _ (bb e1)
theorem r2:cv ad bI 1 (ad.ai 7) q05 (Hj (ad.ai 83)):=by
 refine cE (T 182) Xu ?_;and_intros;obtain⟨p,w,h,sg,c,rfl,eW,g,dj,cL,ao⟩:=h;refine uq ⟨_,(aX (bY (bR yR (dN (U 0 R) (by rfl)) (U 1 R) (λ_ _=>rfl)))),?_⟩;rfl';left;obtain⟨av,l,aa,ag⟩:=eW.ob;have ic:=jv g
 right;ext;exact(dX aa (T 97) (T 101) (Bz _ _ _ _) ⟨_,rfl,by rw[rk];omega,_,Hi dj cL,ao⟩)
theorem IA:cv ad bI 1 (ad.ai 8) q05 (UT (ad.ai 83)):=by
 refine cE (T 183) Xv ?_;and_intros;obtain⟨p,w,h,sg,c,rfl,eW,g,ao⟩:=h;refine uq ⟨_,(aX (bY (bG fH (U 1 R) (dN (U 0 R) (by rfl))))),?_⟩;rfl';left;obtain⟨av,l,aa,ag⟩:=eW.ob;have cZ:=g.cZ
 right;ext;exact(dX aa (T 97) (T 98) (ue _ _ _ _) ⟨_,rfl,⋯,ao⟩)
theorem IB:cv ad bI 1 (ad.ai 9) q05 (UU (ad.ai 83)):=by
 refine cE (T 184) Xw ?_;and_intros;obtain⟨p,w,h,sg,c,rfl,eW,g,ao⟩:=h;refine uq ⟨_,(aX (bY (bG ip (U 1 R) (dN (U 0 R) (by rfl))))),?_⟩;rfl';left;obtain⟨av,l,aa,ag⟩:=eW.ob;have cZ:=g.cZ
 have ey:=g.ey
 right;ext;exact(dX aa (T 97) (T 98) (ue _ _ _ _) ⟨_,rfl,⟨⋯,⋯⟩,ao⟩)
theorem B1:cv ad bI 1 (ad.ai 11) q52 (Hk ad.ai):=by
 refine cE (T 186) Xx ?_;and_intros;obtain⟨p,av,n,i,rfl,aG,ao⟩:=h;refine uq ⟨_,(aX (iq (U 0 R) (U 1 R) rfl)),?_⟩;rfl';ext;exact⟨_,_,_,aG,Ho T i,Hp T i,by simp,ao⟩
theorem r3:cv ad bI 1 (ad.ai 13) q03 (kx 0):=by
 refine cE (T 188) Xy ?_;and_intros;obtain⟨x,c,rfl,ao⟩:=h;obtain⟨YH,B2,B3⟩:=(T 25);refine uq ⟨_,(aX (bY (hq vJ (U 1 R) (iC (v:=.ref (ad.ai 96)) R B2 B3)))),?_⟩;rfl';ext;refine⟨_,.inr ((T 174) H),rfl,rfl,?_⟩;rw[Hs];have e:dT 0 c=common c:=by simp[dT]
 rwa[<- e]
theorem IC:cv ad bI 1 (ad.ai 14) q03 (nt 0):=by
 refine cE (T 189) Xz ?_;and_intros;obtain⟨x,c,rfl,ao⟩:=h;obtain⟨ID,uz,uA⟩:=(T 17);refine uq ⟨_,(aX (bY (sD (cp eH (U 1 R) (iC (v:=V.str (!"+")) R uz uA)) zc zc))),?_⟩;rfl';ext;refine⟨rfl,?_⟩;unfold gs at ao;by_cases e:c=43
 ·rw[aM (nx.mpr e)];rw[aM e]at ao;exact ao
 ·rw[aB (λz=>e (nx.mp z))];rw[aB e]at ao;exact ao
theorem IE:cv ad bI 1 (ad.ai 15) q00 (nu (ad.ai 83) 0):=by
 refine cE (T 190) XA ?_;and_intros;obtain⟨x,bJ,w,h,sg,cell,other,rfl,eW,g,je,iI,ao⟩:=h;refine uq ⟨_,(aX (bY zc)),?_⟩;rfl';ext;exact ao _ (aQ.refl _)
theorem IF:cv ad bI 1 (ad.ai 22) q03 (kx 1):=by
 refine cE (T 197) XB ?_;and_intros;obtain⟨x,c,rfl,ao⟩:=h;obtain⟨YI,B4,B5⟩:=(T 18);obtain⟨YH,B2,B3⟩:=(T 25);refine uq ⟨_,(aX (bY (ys (hq eH (U 1 R) (iC (v:=V.str (!"~")) R B4 B5)) (kI (hq vJ (U 1 R) (iC (v:=.ref (ad.ai 96)) R B2 B3)))))),?_⟩;rfl';ext;refine⟨rfl,?_⟩;by_cases e:c=126
 ·rw[aM (nv.mpr e)];have aw:dT 1 c=true:=by simp[dT,e]
  rwa[<- aw]
 ·rw[aB (λz=>e (nv.mp z))];refine⟨_,.inr ((T 174) H),rfl,rfl,?_⟩;rw[Hs];have aw:dT 1 c=common c:=by simp[dT,e]
  rwa[<- aw]
theorem YJ:cv ad bI 1 (ad.ai 23) q03 (nt 1):=by
 refine cE (T 198) XC ?_;and_intros;obtain⟨x,c,rfl,ao⟩:=h;obtain⟨ID,uz,uA⟩:=(T 17);refine uq ⟨_,(aX (bY (sD (cp eH (U 1 R) (iC (v:=V.str (!"+")) R uz uA)) zc zc))),?_⟩;rfl';ext;refine⟨rfl,?_⟩;unfold gs at ao;by_cases e:c=43
 ·rw[aM (nx.mpr e)];rw[aM e]at ao;exact ao
 ·rw[aB (λz=>e (nx.mp z))];rw[aB e]at ao;exact ao
theorem YK:cv ad bI 1 (ad.ai 26) q03 (nt 2):=by
 refine cE (T 201) XD ?_;and_intros;obtain⟨x,c,rfl,ao⟩:=h;obtain⟨ID,uz,uA⟩:=(T 17);refine uq ⟨_,(aX (bY (sD (cp eH (U 1 R) (iC (v:=V.str (!"+")) R uz uA)) zc zc))),?_⟩;rfl';ext;refine⟨rfl,?_⟩;unfold gs at ao;by_cases e:c=43
 ·rw[aM (nx.mpr e)];rw[aM e]at ao;exact ao
 ·rw[aB (λz=>e (nx.mp z))];rw[aB e]at ao;exact ao
theorem xv:cv ad bI 1 (ad.ai 29) ["way"] (Vb):=by
 refine cE (T 204) XE ?_;and_intros;obtain⟨v,b,cs,rfl,hw,ao⟩:=h;refine uq ⟨_,(aX (bY (bG hZ (bG dW (bR dv (U 0 R) zc (λ_ _=>rfl)) (cJ zr R (T 0) (af (bR dv (U 0 R) zc (λ_ _=>rfl)) ay))) zc))),?_⟩;rfl';left;obtain⟨p,q,rfl,aa,ag⟩:=hw;right;ext;exact(dp (bT.of aa) rfl (dp (bT.of aa) rfl ⟨_,rfl,_,.inr (bT.of ag),_,rfl,by rwa[length_map]⟩))
theorem YL:cv ad bI 1 (ad.ai 30) q25 (Vc):=by
 refine cE (T 205) XF ?_;and_intros;obtain⟨v,b,cs,t,rfl,hw,ao⟩:=h;refine uq ⟨_,(aX (bY (cJ (pz rfl) R (T 10) (af (bG hZ (U 1 R) (bR dv (U 0 R) zc (λ_ _=>rfl))) (af (bG hZ (cJ zr R (T 0) (af (bR dv (U 0 R) zc (λ_ _=>rfl)) ay)) zc) ay))))),?_⟩;rfl';left;obtain⟨p,q,rfl,aa,ag⟩:=hw;right;ext;exact(dp (bT.of aa) rfl ⟨_,rfl,dp (bT.of aa) rfl ⟨_,rfl,_,.inr (bT.of ag),by rwa[length_map]⟩⟩)
theorem YM:cv ad bI 1 (ad.ai 35) q27 (Vh ad.ai):=by
 refine cE (T 210) XG ?_;and_intros;obtain⟨p,av,rfl,aG,ao⟩:=h;refine uq ⟨_,(aX (iq (U 0 R) y4 rfl)),?_⟩;rfl';ext;exactλd nd=>⟨_,_,_,(bb nd) _ _ aG,(T 128),(T 129),by show 0<1000;decide,ao d nd⟩
theorem IG:cv ad bI 1 (ad.ai 38) q27 (Vj ad.ai):=by
 refine cE (T 213) XH ?_;and_intros;obtain⟨p,d,es,rfl,ae,aD,ao⟩:=h;refine uq ⟨_,(aX (bY (cJ (FP rfl) R (T 12) (af (dN (U 0 R) (by rfl)) ay)))),?_⟩;rfl';left;obtain⟨⟨av,aa⟩,ag⟩:=id ae;right;ext;exact(dX aa (T 128) (T 129) (p0 d) ⟨d,rfl,bF es,.inl ag,by rwa[Ra],λms aG aI l nl=>ao l ms nl (by rw[Rb]at aG;exact aG) aI⟩)
theorem xw:cv ad bI 1 (ad.ai 43) q04 (Vo ad.ai):=by
 refine cE (T 218) XI ?_;and_intros;obtain⟨p,d,es,n,rfl,ae,ao⟩:=h;refine uq ⟨_,(aX (bY (zY (kg (gD.of (hG:=bU w6) (tn:=["other"]) (cn:=q04) (dR:=[0,1]) rfl rfl ∅ ∅ ∅ ∅ rfl) (cY rfl)  (tw (dN (U 0 R) (by rfl)))
 (
 λ_ _ _ _ _=>(hX (i:=0) (show(["other","self","number"]:List Str).Nodup by decide +kernel) rfl (Or.inl rfl))) (λ_ _ _ _ _=>(pK (cp hC (cK 0) (cK 2)))) (λ_ _ _ _ _=>(gn (dx HU) (Qe (K:=ad.az) rfl (cK 1) (by rfl)) (cK 0) (λ_ _=>rfl))))))),?_⟩
 rfl';left;obtain⟨⟨⟨av,aa⟩,ag⟩,b8⟩:=id ae;have fX:∀xs,H d≠some (.tup xs):=λxs z=>by rw[ag]at z;cases z
 have jD:=b8.len
 right;ext;refine .inl ⟨d,c0 es,ag,dX aa (T 128) (T 129) (p0 d) ⟨d,rfl,c0 es,.inl ⟨ag,λo=>pN (zZ aH) (tF n) (z1 es) (λy bg iQ bN=>?_) (λy bg hn iQ bN=>?_) (by rw[length_map,rp];omega) (λD fb=>?_)⟩⟩⟩
 ·left;rw[tG]at bg;obtain⟨e,he,rfl⟩:=mem_map.mp bg;right;ext;rwa[show(!decide (e.k=n))=tF n (V.int e.k) by simp[tF]]
 ·left;rw[tG]at bg;obtain⟨e,he,rfl⟩:=mem_map.mp bg;right;ext;rw[show z1 es (.int e.k)=e.v by show(aS (c0 es) (Sum.inl e.k)).getD .bx=_;rw[pY b8.nd he];rfl]at bN;exact(dX (by rwa[zf (cM aa ag nofun)]) (T 128) (T 129) (p0 d) ⟨d,rfl,e.v,rx aH b8.nd he,bN⟩)
 ·have r4:D≠d:=λz=>by rw[z,aH]at fb;cases fb
  have YN:H D=none:=by rw[zf r4]at fb;exact fb
  rw[Rv es n (z1 es) (·.v) (λe he=>by show(aS (c0 es) (Sum.inl e.k)).getD .bx=_;rw[pY b8.nd he];rfl)];refine⟨⟨o,by rw[zf r4.symm,aH]⟩,ao D _ YN (rv ag ((h3 (gr (aQ.refl _))).new fb)) (by rw[zf r4,aH])⟩
theorem IH:cv ad bI 1 (ad.ai 45) q28 (Vq):=by
 refine cE (T 220) XJ ?_;and_intros;obtain⟨l,kvs,cell,other,rfl,aD,aJ,ao⟩:=h;refine uq ⟨_,(aX (bY (lT (DD (vO (dx HU) (U 2 R) (U 0 R)) (by with_unfolding_all rfl)) (kI (hq (pO HU) (EF (dx HU) (U 0 R) (U 1 R) ⟨rfl,rfl,rfl,rfl⟩) (U 2 R)))))),?_⟩;rfl';have kA:∀z:Int,ed H l (.int z) (aS kvs (.inl z)):=λz=>ed.k (k:=.inl z) aD
 ext;refine⟨_,kA other,?_⟩;cases aa:aS kvs (.inl other) with
 | some x=>
  rw[aB (by simp)];exact ao false (by rw[aa];simp)
 | none=>
  rw[aM (by rfl)];refine⟨.inl ⟨_,.inl aD⟩,_,kA cell,?_⟩;have YO:(aS kvs (.inl cell)).getD .bx=.bx\/∃i,(aS kvs (.inl cell)).getD .bx=.int i:=by
   cases ag:aS kvs (.inl cell) with
   | none=>exact .inl rfl
   | some v=>exact aJ cell v ag
  rcases YO with e|⟨i,e⟩<;>rw[e]
  ·refine⟨_,.bx,_,.int other,rfl,rfl,?_⟩;exact ao true (by rw[aa,e];simp)
  ·refine⟨_,.int i,_,.int other,rfl,rfl,?_⟩;have:(!PyData.eqv (.int i) (.int other))=decide (i≠other):=by show(!(i==other))=_;by_cases z:i=other<;>simp[z]
   rw[this];exact ao _ (by rw[aa,e];simp)
theorem YP:cv ad bI 1 (ad.ai 46) ["way","cell"] (Vs):=by
 refine cE (T 221) XK ?_;and_intros;obtain⟨v,b,c,cell,rfl,hw,ao⟩:=h;refine uq ⟨_,(aV (b0 2 R zc)
 (aV (fc PassesOwn.never (cY rfl) (SO (fN Xo) (T 13).1 (af (bR dv (U 0 R) zc (λ_ _=>rfl)) ay) (dI rfl)) (kK (n:=2) (cY rfl) (fG (dn 3 R) (fG (dn 4 R) kJ)))
 (aX (cN (cp eH (U 4 R) (U 1 R))
 (aX (b0 2 R (bG dW (bG dW (bR dv (U 0 R) zc (λ_ _=>rfl)) (U 3 R)) zc)))
 zx)))
 (
 aX (bY (U 2 R))))),?_⟩
 rfl';left;obtain⟨q,w,rfl,aa,ag⟩:=id hw;right;ext;refine(dp (bT.of aa) rfl ⟨w,rfl,_,bT.of ag,SP (xs:=c.map V.int) (λi J H'=>∃(k:Int)(x y:Option V),aQ H H'/\tE b c cell k i/\J=[⇑q,↥cell,↥k,x,y]) ⟨0,none,none,aQ.refl _,.inl ⟨rfl,λi au=>br au (Nat.not_lt_zero i)⟩,rfl⟩ (λi J H' ⟨_,_,_,s,_⟩=>bT.of (s _ _ ag)) ?_ ?_⟩)
 ·rintro i x J H' gv aq bH jt;left;obtain⟨k,x0,jW,s,aD,rfl⟩:=bH;rw[getElem?_map]at aq;obtain⟨z,hz,rfl⟩:=map_eq_some_iff.mp aq;have st:=Rq aD hz
  have s':=s.trans (bb (o:=a3.tup [V.int (i:Nat),V.int z]) jt)
  right;ext;refine⟨_,bT.of aH,rfl,_,_,rfl,_,_,rfl,rfl,rfl,?_⟩;split
  ·rename_i y;rw[aM (V.int.inj y)]at st;exact(dp (bT.of (s' _ _ aa)) rfl ⟨b,rfl,_,rfl,s',_,st,rfl,_,rfl⟩)
  ·rename_i y;rw[aB (λw=>y (by rw[w]))]at st;exact⟨s',_,st,rfl,_,rfl⟩
 ·rintro J H' bH;left;obtain⟨k,x0,jW,s,aD,rfl⟩:=bH;rw[length_map]at aD;right;ext;exact ao _ k s aD
theorem II:cv ad bI 1 (ad.ai 47) q46 (Vy ad.az):=by
 refine cE (T 222) XM ?_;and_intros;obtain⟨a,xs,m,c,rfl,cb,hm,aq,ao⟩:=h;refine uq ⟨_,(aV (b0 3 R (U 1 R))
 (aV (yv PassesOwn.never (eF.pt (jl (cp nX (U 3 R) (cJ zr R (T 0) (af (U 0 R) ay))) (jK (cp eH (bR zy (U 0 R) (U 3 R) (λ_ _=>rfl)) (U 2 R)))))
 (aX (Ae 3 R zc DI)))
 (
 aX (bY (U 3 R))))),?_⟩
 rfl';ext;refine⟨λk J H'=>∃j:Nat,k=xs.length-j/\j<=xs.length/\met xs j c=met xs m c/\H'=H/\J=[⇑a,↥(m:Int),↥c,↥(j:Int)],⟨_,m,rfl,hm,rfl,rfl,rfl⟩,?_⟩;rintro k J H' bH;left;obtain⟨j,rfl,aZ,e,rfl,rfl⟩:=bH;right;ext;refine⟨_,.inl cb,?_⟩;rw[length_map];by_cases h:(j:Int)<(xs.length:Int)
 ·rw[aM h];obtain⟨x,B6⟩:∃x,xs[j]?∣x:=⟨_,getElem?_eq_getElem ⋯⟩;refine⟨_,cb,V.int x,gk (by rw[getElem?_map,B6];rfl),rfl,?_⟩;by_cases ak:x=c
  ·subst ak;rw[aM rfl];refine⟨λa7 H1=>H1=H'/\a7=[⇑a,↥(m:Int),↥x,some (V.int ((j:Int)+1))],λa7 H1 ⟨ar,aw⟩=>⟨xs.length-(j+1),⋯,j+1,rfl,⋯,(Hy B6).symm.trans e,ar,aw⟩,rfl,rfl⟩
  ·rw[aB (λz=>ak (V.int.inj z))];rw[<- e,Hz B6 ak]at ao;exact ao
 ·rw[aB h];rw[<- e,HA ⋯]at ao;exact ao
theorem YQ:cv ad bI 1 (ad.ai 49) q12 (VH ad.ai):=by
 refine cE (T 224) XN ?_;and_intros;obtain⟨p,av,bJ,cU,b3,aL,n,rfl,aG,ao⟩:=h;refine uq ⟨_,(aV (iq (U 0 R) (U 1 R) rfl)
 (aV (iq (U 0 R) (U 2 R) rfl)
 (aV (iq (U 0 R) (U 3 R) rfl)
 (aV (iq (U 0 R) (U 4 R) rfl)
 (aV (iq (U 0 R) (U 5 R) rfl)
 (
 aX (iq (U 0 R) y5 rfl))))))),?_⟩
 rfl';ext;refine⟨_,_,_,aG,(T 132),(T 133),by show 0<1000;decide,_,_,_,aH,(T 132),(T 134),by show 1<1000;decide,_,_,_,aH,(T 132),(T 135),by show 2<1000;decide,_,_,_,aH,(T 132),(T 136),by show 3<1000;decide,_,_,_,aH,(T 132),(T 137),by show 4<1000;decide,λbA nn=>?_⟩;have np:bA≠p:=λz=>by rw[z,aH]at nn;cases nn
 refine⟨_,_,_,by rw[zf np.symm,aH],(T 132),(T 138),by show 5<1000;decide,?_⟩;rw[zf np,zf np,zf np,zf np,zf np]at nn;refine ao bA _ nn ⟨av,aH⟩ (by rw[zf np,aH]) λb o ae nb=>?_;rwa[zf nb,zf (cg ae nn),zf nb,zf nb,zf nb,zf nb,zf nb]
theorem YR:cv ad bI 1 (ad.ai 55) q37 (Wl ad.ai):=by
 refine cE (T 230) XO ?_;and_intros;obtain⟨x,av,v,k,rfl,aq,ao⟩:=h;refine uq ⟨_,(aV (iq (U 0 R) (U 1 R) rfl)
 (
 aX (iq (U 0 R) (U 2 R) rfl))),?_⟩
 rfl';ext;refine⟨_,_,_,aq,(T 118),(T 119),by decide,_,_,_,aH,(T 118),(T 120),by show(dG _ _ []).length<1000;exact(by decide:(1:Nat)<1000),?_⟩;rwa[Nb]
theorem YS:cv ad bI 1 (ad.ai 56) q31 (We ad.ai):=by
 refine cE (T 231) XP ?_;and_intros;obtain⟨x,av,bh,k,st,sg,b2,rfl,aq,dY,lo,z6,bN,ao⟩:=h;refine uq ⟨_,(aV (iq (U 0 R) (U 1 R) rfl)
 (
 aX (iq (U 0 R) (rD RL R (T 9) (af (U 2 R) ay)) rfl))),?_⟩
 rfl';have YT:bh≠x:=λz=>by rw[z,aq]at dY;cases dY
 ext;refine⟨_,_,_,aq,(T 123),(T 124),by decide,b2,by rwa[zf YT],z6,bN,λr cI=>?_⟩;have bf:r≠x:=λz=>by rw[z,aH]at cI;cases cI
 have YU:H r=none:=by rw[zf bf]at cI;exact cI
 exact⟨_,_,_,by rw[zf (Ne.symm bf),aH],(T 123),(T 125),(by show(dG _ _ []).length<1000;exact(by decide:(1:Nat)<1000)),ao r _ YU aH (by rw[zf bf,aH]) λb ct b6=>by rw[zf ct,zf b6,zf ct]⟩
theorem YV:cv ad bI 1 (ad.ai 58) q54 (V1):=by
 refine cE (T 235) XQ ?_;and_intros;obtain⟨v,t,rfl,aA,ao⟩:=h;refine uq ⟨_,(aX (bY (lT (hq q0 (U 0 R) hi) (kI (hq pw (U 0 R) (U 1 R)))))),?_⟩;rfl';ext;split
 ·rename_i z;rcases aA with rfl|⟨n,rfl⟩
  ·exact br rfl z
  ·exact⟨n,rfl,ao _ (by rw[decide_eq_true_eq];exact⟨λy=>⟨n,rfl,y⟩,λ⟨m,e,y⟩=>by cases e;exact y⟩)⟩
 ·rename_i z;obtain rfl:=Classical.not_not.mp z;exact ao _ ⟨λy=>(by cases y),λ⟨m,e,_⟩=>(by cases e)⟩
theorem YW:cv ad bI 1 (ad.ai 61) q16 (Vd ad.az):=by
 refine cE (T 238) XR ?_;and_intros;obtain⟨a,ns,k,rfl,cb,ae,h0,ao⟩:=h;refine uq ⟨_,(aV (cN (cp nX (U 1 R) (cJ zr R (T 0) (af (U 0 R) ay)))
 (aX (bY (bR zy (U 0 R) (U 1 R) (λ_ _=>rfl))))
 zx)
 (
 aX (bY zc))),?_⟩
 rfl';ext;refine⟨_,.inl cb,?_⟩;split
 ·rename_i h;rw[length_map]at h;exact⟨_,cb,_,zC h0 h,ao _ (ae _ (getD_in ⋯))⟩
 ·exact ao 0 P5
theorem nA:cv ad bI 1 (ad.ai 64) q15 (UX):=by
 refine cE (T 241) XS ?_;and_intros;obtain⟨l,w,h,sg,c,rfl,cw,g,dj,cL,ao⟩:=h;refine uq ⟨_,(aX (bY (bR yR (bR zy (U 0 R) (bG ip (U 1 R) (cJ kd R (T 0) (af (bR zy (U 0 R) zc (λ_ _=>rfl)) ay))) (λ_ _=>rfl)) (bG fH (U 1 R) (cJ kd R (T 0) (af (bR zy (U 0 R) zc (λ_ _=>rfl)) ay))) (λ_ _=>rfl)))),?_⟩;rfl';left;have cZ:=g.cZ
 have ey:=g.ey
 have h0:=g.h0
 obtain⟨oz,wo,d9,a8,e⟩:=QY g dj cL;have cy:dH ((linesOf w h sg).map V.str) 0∣V.str (gQ w sg 0):=gk (j:=0) (by rw[getElem?_map,l8 ⋯];rfl)
 have fA:=l7 g (show 0<h by omega)
 have YX:=l7 g oz
 have fL:dH ((linesOf w h sg).map V.str) (c/w)∣V.str (gQ w sg (c/w).toNat):=by
  obtain⟨j,aZ⟩:=eq_ofNat_of_zero_le wo;rw[aZ]at oz ⊢;exact gk (by rw[getElem?_map,l8 (by simpa using oz)];rfl)
 have er:dH (gQ w sg (c/w).toNat).cps.toList (c%w)∣at_ sg c:=by
  obtain⟨r,a5⟩:=eq_ofNat_of_zero_le d9;rw[a5]at e ⊢;exact gk (by simpa using e)
 right;ext;refine⟨_,aK.of cw,_,cy,_,rfl,by rw[fA];omega,?_⟩;rw[fA];refine⟨⟨⋯,⋯⟩,_,aK.of cw,_,fL,_,aK.of cw,_,cy,_,rfl,by rw[fA];omega,?_⟩;rw[fA];exact⟨⋯,_,rfl,by rw[YX];omega,_,er,ao⟩
theorem IJ:cv ad bI 1 (ad.ai 66) q22 (U1):=by
 refine cE (T 243) XT ?_;and_intros;obtain⟨i,c,x,rfl,au,ao⟩:=h;refine uq ⟨_,(aX (bY (ys (hq E5 (U 1 R) eh) (kI (lT (hq eH (U 1 R) eh) (kI (hq eH (U 0 R) eh))))))),?_⟩;rfl';left;obtain⟨k1,k2,k3⟩:=BG i x au;right;ext;refine⟨c,rfl,?_⟩;by_cases e:common c=true
 ·rw[aM (HB.mpr e)];have aw:dT i c=true:=by simp[dT,e]
  rwa[<- aw]
 ·rw[aB (λz=>e (HB.mp z))];rw[not_eq_true]at e;refine⟨rfl,?_⟩;by_cases bV:c=126
  ·rw[aM (nv.mpr bV)];have aw:decide (x=Str.ofString "crawler")=dT i c:=by
    simp only[dT,e,Bool.false_or,decide_eq_true bV,Bool.and_true];exact decide_eq_decide.mpr k1
   rwa[aw]
  ·rw[aB (λz=>bV (nv.mp z))];have aw:dT i c=false:=by simp[dT,e,bV]
   rwa[<- aw]
theorem B7:cv ad bI 1 (ad.ai 69) q43 (Hx):=by
 refine cE (T 246) XU ?_;and_intros;obtain⟨v,b,cs,t,rfl,hw,ak,ao⟩:=h;refine uq ⟨_,(aV (qW (U 0 R) (kK (n:=2) (cY rfl) (fG (dn 2 R) (fG (dn 3 R) kJ))))
 (aV (cN (cp nX (U 1 R) (U 2 R))
 (aX (bY hi))
 zx)
 (
 aX (bY (bR dv (U 3 R) (cJ (pz rfl) R (T 10) (af (bG hZ (U 1 R) (U 2 R)) (af (bG hZ (cJ zr R (T 0) (af (U 3 R) ay)) zc) ay))) (λ_ _=>rfl)))))),?_⟩
 rfl';left;obtain⟨p,q,rfl,aa,ag⟩:=id hw;right;ext;refine⟨_,bT.of aa,rfl,_,_,rfl,_,_,rfl,rfl,_,rfl,?_⟩;unfold b7 at ao;split
 ·rename_i z;rw[aM z]at ao;exact ao
 ·rename_i z;rw[aB z]at ao;obtain⟨oG,iX⟩:=FH (b:=b) (cs:=cs) (t:=t) ⋯ ak;refine⟨_,rfl,_,rfl,_,.inr (bT.of ag),_,rfl,_,bT.of ag,_,?_,ao⟩;rw[length_map];exact zC oG iX
theorem xx:cv ad bI 1 (ad.ai 73) q24 (Vz ad.az):=by
 refine cE (T 250) XW ?_;and_intros;obtain⟨a,xs,m,c,rfl,cb,hm,aq,ao⟩:=h;refine uq ⟨_,(aV (fc PassesOwn.never (cY rfl) (il (yP yS (U 0 R) (vG (U 1 R)) Ee)) (dn 3 R)
 (aV (cN (cp hC (U 3 R) (U 2 R))
 (aX Nr)
 zx)
 (aX (b0 1 R (bG dW (U 1 R) zc)))))
 (
 aX (bY (U 1 R)))),?_⟩
 rfl';ext;refine⟨_,cb,λp aG=>⟨⟨_,aK.of aH⟩,?_⟩⟩;have fL:jr (xs.map V.int) (some (m:Int)) none=(xs.drop m).map V.int:=by
  have:=Qc (cs:=xs) (i:=(m:Int)) ⋯
  rw[this,toNat_natCast]
 rw[fL];refine qZ (K:=ad.az) (a:=p) (xs:=(xs.drop m).map V.int) (λi J H'=>∃x,met xs (m+i) c=met xs m c/\H'=upd H p (a3.lst ((xs.drop m).map V.int))/\J=[⇑a,some (V.int ((m+i:Nat):Int)),↥c,x]) ⟨none,rfl,rfl,rfl⟩ (λi J H' _ ⟨_,_,e,_⟩=>by rw[e];exact aK.of aH) ?_ ?_
 ·rintro i y J H' au bH;left;obtain⟨x,e,rfl,rfl⟩:=bH;rw[getElem?_map]at au;obtain⟨o,aA,rfl⟩:=map_eq_some_iff.mp au;rw[List.getElem?_drop]at aA;right;ext;by_cases ak:o=c
  ·subst ak;rw[aB (λz=>z rfl)];exact⟨(Hy aA).symm.trans e,⋯,_,rfl⟩
  ·rw[aM (by simpa using ak)];rw[<- e,Hz aA ak]at ao;exact ao _ (bb aG)
 ·rintro J H' bH;left;obtain⟨x,e,rfl,rfl⟩:=bH;rw[length_map,length_drop]at e;right;ext;rw[<- e,HA ⋯]at ao;rw[length_map,length_drop];exact ao _ (bb aG)
theorem YY:cv ad bI 1 (ad.ai 77) q19 (Vv):=by
 refine cE (T 254) XX ?_;and_intros;obtain⟨d,es,n,rfl,aj,ao⟩:=h;refine uq ⟨_,(aX (bY (Gw rfl (fN Xi) (T 11).1 (af (zY (kg (gD.of (hG:=bU ub) (tn:=["_law_one"]) (cn:=q19) (dR:=[0,1]) rfl rfl ∅ ∅ ∅ ∅ rfl) (cY rfl)  (tw (U 0 R))
 (
 λ_ _ _ _ _=>(hX (i:=0) (show(["_law_one","_law_ways_here","_law_number"]:List Str).Nodup by decide +kernel) rfl (Or.inl rfl))) (λ_ _ _ _ _=>(pK (cp hC (cK 0) (cK 2)))) (λ_ _ _ _ _=>(bG hZ (bG dW (bR (wa (K:=ad.az) rfl) (gn (dx HU) (cK 1) (cK 0) (λ_ _=>rfl)) zc (λ_ _=>rfl)) (yK (Ff (K:=ad.az) rfl) (by rfl) (T 0).1 PyProof.Rows.Boot.«len» (af (bR (wa (K:=ad.az) rfl) (gn (dx HU) (cK 1) (cK 0) (λ_ _=>rfl)) zc (λ_ _=>rfl)) ay) (hn:=Ih) (hdb:=y2) (he:=fl rfl) (hpl:=fW rfl))) zc)))) ay) zc (dI rfl)))),?_⟩
 rfl';obtain⟨ag,b8⟩:=id aj;have jD:=b8.len
 have fX:∀xs,H d≠some (.tup xs):=λxs z=>by rw[ag]at z;cases z
 ext;refine .inl ⟨d,c0 es,ag,c0 es,.inl ⟨ag,λo=>?_⟩⟩;have S:pM (oo d o (c0 es)) (upd H d (.cc o (.bO (c0 es)))) (es.map λe=>V.int e.k):=by
  have:=zZ (a:=d) (o:=o) (kvs:=c0 es) (H:=upd H d (.cc o (.bO (c0 es)))) aH
  rw[tG]at this;exact this
 have IK:v6 d H (upd H d (.cc o (.bO (c0 es)))):=h3 (gr (aQ.refl _))
 refine Ha (g:=λe=>.int (e6 e)) S (λe=>decide (e.k≠n)) (λe he iQ bN=>?_) (λe he _ iQ bN=>?_) ⋯ (λD fb=>?_)
 ·ext;rwa[show(!decide (e.k=n))=decide (e.k≠n) by simp]
 ·left;obtain⟨q,w,ev,aR,b4⟩:=ef.cH (IK.cH fX) (b8.ok e he).1;have kA:=rx (H:=upd H d (.cc o (.bO (c0 es)))) aH b8.nd he
  rw[ev]at kA;right;ext;exact⟨_,kA,q,rfl,dp (bT.of aR) rfl ⟨_,kA,q,rfl,dp (bT.of aR) rfl ⟨w,rfl,_,.inr (bT.of b4),_,rfl,by rwa[length_map]⟩⟩⟩
 ·have r4:D≠d:=λz=>by rw[z,aH]at fb;cases fb
  refine⟨⟨o,by rw[zf r4.symm,aH]⟩,(bk es n).map e6,aK.of (by rw[zf r4,aH,map_map];rfl),λm hm=>ao _ _ (rv ag (IK.new fb)) hm⟩
theorem xy:cv ad bI 2 (ad.ai 2) q32 (UN ad.az):=by
 refine cE (T 177) XY ?_;and_intros;obtain⟨x,lo,au,rfl,ty,ao⟩:=h;refine uq ⟨_,(aX (bY (lT (cx (Iz T) R (T 26) (af (U 0 R) ay)) (kI (NN pw pw (U 1 R) (U 0 R) (U 2 R)))))),?_⟩;rfl';ext;refine⟨x,rfl,ty,?_⟩;ext;cases x<;>simp_all [ud,ku]
 split<;>simp_all
theorem xA:cv ad bI 2 (ad.ai 18) q33 (Hn ad.ai):=by
 refine cE (T 193) XZ ?_;and_intros;obtain⟨p,i,n,c,k,rfl,ak,au,ao⟩:=h;refine uq ⟨_,(aX (bY (cJ (pz rfl) R (T 10) (af (bG dW (U 2 R) (pS (k:=1) (U 0 R) (ff (T 104) (T 141) (IC T) (ff (T 108) (T 42) (YJ T) (ff (T 112) (T 44) (YK T) (ff (T 115) (T 36) (IC T) pR)))) (HR.mono (by decide)) (af (U 1 R) ay) (hst:=fl rfl) (hpl:=fW rfl))) (af (dN (U 0 R) (by rfl)) ay))))),?_⟩;rfl';left;obtain⟨ka,aG⟩:=id ak;obtain⟨j,aZ,iB⟩:=U5 (ad:=ad.ai) i au;have B8:(dG "full" (V.int n) []).lookup ("gain":Str)=none:=rS n ∅
 right;ext;refine⟨p,ka,_,(eJ ad.ai i,nt j),aZ,rfl,aG,B8,_,c,rfl,_,rfl,_,_,_,aG,Ho T i,Hp T i,_,U2 n,_,rfl,?_⟩;rw[iB];have e:(if n<k+gs i c then n else k+gs i c)=min (k+gs i c) n:=by split<;>omega
 rwa[e]
theorem YZ:cv ad bI 2 (ad.ai 24) q00 (nu (ad.ai 83) 1):=by
 refine cE (T 199) X0 ?_;and_intros;obtain⟨x,bJ,w,h,sg,cell,other,rfl,eW,g,je,iI,ao⟩:=h;obtain⟨YI,B4,B5⟩:=(T 18);refine uq ⟨_,(aX (bY (sD (cp eH (e4 (U 1 R) (T 97) (T 31) (r2 T) HR (af (U 3 R) ay)) (iC (v:=V.str (!"~")) R B4 B5)) zc zc))),?_⟩;rfl';left;obtain⟨av,l,aa,ag⟩:=id eW.ob;right;ext;refine(f6 aa (qo ∅ ∅ ∅ ∅) ⟨bJ,w,h,sg,other,rfl,eW,g,iI.1,iI.2,rfl,?_⟩);simp only[ml]at ao;by_cases e:at_ sg other=126
 ·rw[aM (nv.mpr e)];rw[aM e]at ao;exact ao _ (aQ.refl _)
 ·rw[aB (λz=>e (nv.mp z))];rw[aB e]at ao;exact ao _ (aQ.refl _)
theorem Y0:cv ad bI 2 (ad.ai 27) q00 (nu (ad.ai 83) 2):=by
 refine cE (T 202) X1 ?_;and_intros;obtain⟨x,bJ,w,h,sg,cell,other,rfl,eW,g,je,iI,ao⟩:=h;obtain⟨aeE,Y1,Y2⟩:=(T 19);refine uq ⟨_,(aV (cN (cp eH (e4 (U 1 R) (T 97) (T 33) (IB T) HR (af (U 2 R) ay)) (e4 (U 1 R) (T 97) (T 33) (IB T) HR (af (U 3 R) ay)))
 (aX (bY zc))
 zx)
 (aV (cN (cp vJ (iC (v:=V.str (!"|")) R Y1 Y2) (fj (af (e4 (U 1 R) (T 97) (T 31) (r2 T) HR (af (U 2 R) ay)) (af (e4 (U 1 R) (T 97) (T 31) (r2 T) HR (af (U 3 R) ay)) ay))))
 (aX (bY zc))
 zx)
 (
 aX (bY hi)))),?_⟩
 rfl';left;obtain⟨av,l,aa,ag⟩:=id eW.ob;have cI:(h8 w h l sg).lookup ("row":Str)=none:=qo ∅ ∅ ∅ ∅
 have ns:(h8 w h l sg).lookup ("sign":Str)=none:=qo ∅ ∅ ∅ ∅
 right;ext;refine⟨_,_,aa,cI,bJ,w,h,sg,cell,rfl,eW,g,_,_,aa,cI,bJ,w,h,sg,other,rfl,eW,g,rfl,?_⟩;simp only[ml]at ao;by_cases e:cell/(w:Int)=other/(w:Int)
 ·rw[aM (congrArg V.int e)];rw[aM e]at ao;exact ao _ (aQ.refl _)
 ·rw[aB (λz=>e (V.int.inj z))];rw[aB e]at ao;refine⟨_,_,aa,ns,bJ,w,h,sg,cell,rfl,eW,g,je.1,je.2,_,_,aa,ns,bJ,w,h,sg,other,rfl,eW,g,iI.1,iI.2,?_⟩;show 2<=sizeLine/\_
  refine⟨⋯,λp aG=>⟨_,.inr (bT.of aH),rfl,rfl,?_⟩⟩;have aw:kc (V.str (!"|")) [dw (at_ sg cell),dw (at_ sg other)]=decide (at_ sg cell=124\/at_ sg other=124):=by
   have q:∀c:Nat,iu (dw c) (V.str (!"|"))=decide (c=124):=λc=>by
    have e:iu (dw c) (V.str (!"|"))=((⟨#[c]⟩:Str)==Str.ofString "|"):=rfl
    rw[e,Bool.eq_iff_iff,beq_iff_eq,decide_eq_true_iff];exact⟨λz=>uh.mp (congrArg V.str z),λz=>V.str.inj (uh.mpr z)⟩
   simp only[kc,any_cons,any_nil,Bool.or_false];rw[q,q,decide_or]
  rw[aw];by_cases bV:at_ sg cell=124\/at_ sg other=124
  ·rw[aM (decide_eq_true bV)];rw[aM bV]at ao;exact ao _ (bb aG)
  ·rw[aB (λz=>bV (of_decide_eq_true z))];rw[aB bV]at ao;exact ao _ (bb aG)
theorem oP:cv ad bI 2 (ad.ai 31) q25 (Hx):=by
 refine cE (T 206) X2 ?_;and_intros;obtain⟨v,b,cs,t,rfl,hw,ak,ao⟩:=h;refine uq ⟨_,(aV (cN (cp nX (U 1 R) (bR dv (U 0 R) zc (λ_ _=>rfl)))
 (aX (bY hi))
 zx)
 (
 aX (bY (bR dv (bR dv (U 0 R) zc (λ_ _=>rfl)) (cx (YL T) R (T 48) (af (U 0 R) (af (U 1 R) ay))) (λ_ _=>rfl))))),?_⟩
 rfl';left;obtain⟨p,q,rfl,aa,ag⟩:=id hw;right;ext;refine(dp (bT.of aa) rfl ⟨_,rfl,?_⟩);unfold b7 at ao;split
 ·rename_i h;rw[aM h]at ao;exact ao
 ·rename_i h;rw[aB h]at ao;obtain⟨oG,iX⟩:=FH (b:=b) (cs:=cs) (t:=t) ⋯ ak;exact(dp (bT.of aa) rfl ⟨_,b,cs,t,rfl,hw,_,rfl,_,_,rfl,bT.of ag,_,zC oG iX,ao⟩)
theorem Y3:cv ad bI 2 (ad.ai 40) q04 (Vr ad.ai):=by
 refine cE (T 215) X3 ?_;and_intros;obtain⟨p,d,es,n,rfl,ae,ao⟩:=h;refine uq ⟨_,(aX (bY (Gw rfl (fN Xe) (T 11).1 (af (kg (gD.of (hG:=bU t7) (tn:=["way"]) (cn:=[]) (dR:=[]) rfl rfl ∅ ∅ ∅ ∅ rfl) (cY rfl)  (il (e4 (U 0 R) (T 128) (T 60) (xw T) HR (af (U 1 R) ay)))
 (
 λ_ _ _ _ _=>(hX (i:=0) (show(["way"]:List Str).Nodup by decide +kernel) rfl (Or.inl rfl))) (λ_ _ _ _ _=>od) (λ_ _ _ _ _=>(gR (xv T) HR (T 47) W6 (af (cK 0) ay)))) ay) zc (dI rfl)))),?_⟩
 rfl';left;obtain⟨⟨⟨av,aa⟩,ag⟩,b8⟩:=id ae;have fX:∀xs,H d≠some (.tup xs):=λxs z=>by rw[ag]at z;cases z
 have jD:=b8.len
 right;ext;refine(f6 aa (jx d ∅) ⟨p,d,es,n,rfl,ae,λl H1 nl s1 aD=>⟨l,rfl,⟨_,aK.of aD⟩,Ha (as:=bk es n) (u:=(·.v)) (g:=λe=>.int (e6 e)) (src_list (aK.of aD)) (λ_=>true) (λy bg iQ bN=>bN) (λe he _ iQ bN=>?_) (by have:=(b8.drop n).len;unfold bk;omega) λD fb=>?_⟩⟩)
 ·have hm:=(kn.mp he).1
  ext;exact⟨_,e.b,e.c,rfl,(b8.ok e hm).1.same s1,bN⟩
 ·rw[List.filter_eq_self.mpr (λ_ _=>rfl)];refine⟨(bk es n).map e6,aK.of (by rw[aH,map_map];rfl),λm hm=>ao _ m (s1.trans (bb fb)) hm⟩
theorem Y4:cv ad bI 2 (ad.ai 41) q42 (Vt ad.ai):=by
 refine cE (T 216) X4 ?_;and_intros;obtain⟨p,d,es,n,cell,rfl,ae,ao⟩:=h;refine uq ⟨_,(aV (b0 3 R zc)
 (aV (fc PassesOwn.never (cY rfl) (il (e4 (U 0 R) (T 128) (T 60) (xw T) HR (af (U 1 R) ay))) (dn 4 R)
 (aV (cN (cp eH (bR dv (bR dv (U 4 R) zc (λ_ _=>rfl)) (hY h1 zc) (λ_ _=>rfl)) (U 2 R))
 (aX (bY hi))
 zx)
 (aX (b0 3 R (cJ (q2 rfl) R (T 11) (af (U 3 R) (af (cx (YP T) R (T 63) (af (U 4 R) (af (U 2 R) ay))) ay)))))))
 (
 aX (bY (U 3 R))))),?_⟩
 rfl';left;obtain⟨⟨⟨av,aa⟩,ag⟩,b8⟩:=id ae;have fX:∀xs,H d≠some (.tup xs):=λxs z=>by rw[ag]at z;cases z
 right;ext;refine(f6 aa (jx d ∅) ⟨p,d,es,n,rfl,ae,λl H1 nl s1 aD=>⟨l,rfl,⟨_,aK.of aD⟩,qZ (xs:=(bk es n).map (·.v)) (λi J H'=>∃(k:Int)(x:Option V),aQ H1 H'/\k7 ((bk es n).take i) cell k/\(∀e∈(bk es n).take i,cG e.c≠cell)/\J=[⇑p,↥n,↥cell,↥k,x]) ⟨0,none,aQ.refl _,Vn,Vm,rfl⟩ ?_ ?_ ?_⟩⟩)
 ·rintro i J H' _ ⟨k,x,s,gT,uB,rfl⟩;exact aK.of (s _ _ aD)
 ·rintro i x J H' aq bH;left;obtain⟨k,x0,s,gT,uB,rfl⟩:=bH;rw[getElem?_map]at aq;obtain⟨e,he,rfl⟩:=map_eq_some_iff.mp aq;have IL:=mem_of_getElem? he
  have hm:=(kn.mp IL).1
  obtain⟨cn,_,eA,_⟩:=(b8.ok e hm).2.1;have iJ:=(b8.ok e hm).1.same (s1.trans s)
  obtain⟨q,w,ev,aR,b4⟩:=id iJ;have tk:(bk es n).take (i+1)=(bk es n).take i++[e]:=by rw[take_add_one,he];rfl
  right;rw[tk];ext;refine⟨q,ev,dp (bT.of aR) rfl ⟨w,rfl,dp (bT.of b4) (uj cn) ⟨rfl,?_⟩⟩⟩;split
  ·rename_i z;exact ao _ _ (s1.trans s) (.inl ⟨rfl,e,IL,V.int.inj z⟩)
  ·rename_i z;have fs:cG e.c≠cell:=λy=>z (by rw[y])
   refine⟨e.v,e.b,e.c,cell,rfl,iJ,λaE m s2 cw=>⟨m,rfl,s.trans s2,_,Ru gT cn eA fs cw,λy bg=>?_,rfl,_,rfl⟩⟩;rcases mem_append.mp bg with B9|B9
   ·exact uB y B9
   ·rwa[mem_singleton.mp B9]
 ·rintro J H' bH;left;obtain⟨k,x0,s,gT,uB,rfl⟩:=bH;rw[length_map,take_length]at gT uB;right;ext;exact ao _ _ (s1.trans s) (.inr ⟨k,rfl,uB,gT⟩)
theorem Y5:cv ad (i7 ad.nq ad.nr) 2 (ad.ai 44) q04 (Vi ad.ai):=by
 obtain⟨fd,F,B⟩:=(T 219);refine⟨fd,B,?_⟩;refine F.we Iq.sc.1 ?_ (λcdv A outer s H vs Q E HR h=>oqq λUq uq=>?_);walk_at "l"
 have R:fO _ _ _ _ _:=⟨Iq,HR⟩
 have ND:=R.nd
 walk_at "h"
 obtain⟨p,d,es,n,rfl,ae,ao,he⟩:=h;refine uq ⟨_,(aX (cN (eF.pt (jm (jn (fS (cx (Iz T) R (T 26) (af (U 1 R) ay)))) (kH (vl (vO (dx HU) (U 1 R) (dN (U 0 R) (by rfl))) (by with_unfolding_all rfl)))))
 (aX (Qv Fo rfl (fN Xc) (T 153) (T 154) (af eh ay) (hdb:=W0) (he:=fl rfl) (hpl:=fW rfl)))
 zx)),?_⟩
 rfl';left;obtain⟨⟨av,aa⟩,ag⟩:=id ae;right;ext;refine⟨_,rfl,⟨_,.int n⟩,_,rfl,?_⟩;rw[aB (by simp[ud])];refine(dX aa (T 128) (T 129) (p0 d) ⟨d,rfl,_,ed.k (k:=.inl n) ag,?_⟩);by_cases z:∃e∈es,e.k=n
 ·cases q:aS (c0 es) (.inl n) with
  | none=>exact br (mem_map.mpr ⟨_,mem_map.mpr ⟨_,mem_map.mpr ⟨z.choose,z.choose_spec.1,rfl⟩,rfl⟩,by rw[z.choose_spec.2]⟩) (EH q)
  | some v=>
   rw[aB (by simp)];exact ao z
 ·have fs:∀e∈es,e.k≠n:=λe he y=>z ⟨e,he,y⟩
  rw[FT fs,aM (by rfl)];exact⟨⋯,he fs⟩
theorem Y6:cv ad bI 2 (ad.ai 48) q29 (VA ad.az):=by
 refine cE (T 223) X5 ?_;and_intros;obtain⟨a,xs,st,ch,rfl,cb,aq,ao⟩:=h;refine uq ⟨_,(aX (bY (zR (dx HU) (fj (af (cx (II T) R (T 64) (af (U 0 R) (af zc (af (U 1 R) ay)))) (af (U 1 R) ay))) (U 2 R)))),?_⟩;rfl';ext;intro p aG;refine⟨a,xs,0,st,rfl,aQ.seq (bb aG) cb,zero_le _,aq,⋯,λt bC=>?_⟩;have Y7:p≠t:=λz=>by rw[<- z,aH]at bC;cases bC
 refine⟨by rw[zf Y7,aH],[.inl (met xs 0 st:Nat),.inl st],aH,ao p _ (λb o e=>?_) aG aH⟩;rw[zf (cg e aG)];exact(bb bC) _ _ ((bb aG) _ _ e)
theorem IM:cv ad bI 2 (ad.ai 54) q36 (VI ad.ai ad.az):=by
 refine cE (T 229) X6 ?_;and_intros;obtain⟨p,b,S,m,dj,c,st,rfl,aI,ae,cb,hm,aD,ao⟩:=h;refine uq ⟨_,(aX (bY (fj (af (cx (II T) R (T 64) (af (dN (U 0 R) (by rfl)) (af (bR dv (U 1 R) zc (λ_ _=>rfl)) (af (U 2 R) ay)))) (af (U 2 R) ay))))),?_⟩;rfl';obtain⟨av,aa⟩:=id aI;ext;exact(dX aa (T 132) (T 137) (VB S) (dp (bT.of ae) rfl ⟨S.aL,st,m,c,rfl,cb,hm,aD,⋯,λr cI=>ao r cI⟩))
theorem Y8 {f c:Addr}{L M:List (Addr×Obj)} (C:p9 j1 "there" "sought.<locals>.there" f c cl q35 zs qy L M):oy ad.nq ad.nr ad.az ad.cj ad.ql bI 2 f qy ["time","layer"] (H4 zs) L M:=by
 refine Td C X7 ?_ (λA outer s H vs Q E HR h=>oqq λUq uq=>?_);walk_at "l"
 walk_at "h"
 obtain⟨t,bh,g,v,least,st,sg,iK,rfl,rfl,dY,lo,bD,aA,bg,hn⟩:=h;refine uq ⟨_,(aV (cN (eF.pt (jl (vl (Ew (dx HU) (cK 2) (tL 1 Ii)) (by with_unfolding_all rfl)) (jl (cp vx (gn (dx HU) (tL 1 Ii) (cK 2) (λ_ _=>rfl)) (cK 4)) (jK (fS (Ge (YV T) HR Xq (T 72).1 (T 72).2 (af (cK 3) (af (tL 0 W8) ay))))))))
 (aX (bY (cK 2)))
 zx)
 (
 aX (bY hi))),?_⟩
 ext;refine⟨_,ed.t dY bD,?_⟩;cases ev:aS iK (aW st.length (cG st)) with
 | none=>
  rw[aB (by simp)];exact hn λ⟨q,aa,_⟩=>by rw[ev]at aa;cases aa
 | some u=>
  left;obtain⟨_,_,q,_,rfl,_⟩:=lD lo ev;right;rw[aM (by simp)];refine⟨_,by rw[<- ev];exact ed.t dY bD,q,rfl,?_⟩;have one:∀{r:Int},aS iK (aW st.length (cG st))∣.int r->r=q:=λh=>by rw[ev]at h;cases h;rfl
  split
  ·rename_i md;refine⟨v,t,rfl,aA,λb ae=>⟨b,rfl,?_⟩⟩;split
   ·rename_i z;exact bg ⟨q,ev,md,ae.mp z⟩
   ·rename_i z;exact hn λ⟨r,_,_,aR⟩=>z (ae.mpr aR)
  ·rename_i md;exact hn λ⟨r,aa,ag,_⟩=>md (by rwa[<- one aa])
theorem nB:cv ad bI 2 (ad.ai 62) q16 (VM ad.az):=by
 refine cE (T 239) X8 ?_;and_intros;obtain⟨a,ns,k,rfl,cb,ae,k0,k1,ao⟩:=h;refine uq ⟨_,(aV (b0 2 R (bG fH (bG dW (bG dW (bG v9 (cx (YW T) R (T 75) (af (U 0 R) (af (U 1 R) ay))) zc) (bG v9 zc (U 1 R))) zc) zc))
 (
 aX (bY (bG fH (bG v9 (U 2 R) (bG dW (U 2 R) (bG v9 zc (U 1 R)))) zc)))),?_⟩
 rfl';ext;exact⟨a,ns,k,rfl,cb,ae,k0,λc aeF=>⟨c,rfl,pv.ok (.inr ⟨by decide,by decide⟩),pv.ok (.inl ⟨by decide,by decide⟩),by decide,pv.ok (.inl ⟨by decide,by decide⟩),pv.ok (.inl ⟨⋯,⋯⟩),by decide,ao _ (emod_nonneg _ (by decide)) (Int.lt_trans (emod_lt_of_pos _ (by decide)) (by decide))⟩⟩
theorem IP:cv ad bI 2 (ad.ai 65) q15 (VO):=by
 refine cE (T 242) X9 ?_;and_intros;obtain⟨l,w,h,sg,c,rfl,cw,g,ak,ao⟩:=h;refine uq ⟨_,(aV (b0 2 R (cJ kd R (T 0) (af (bR zy (U 0 R) zc (λ_ _=>rfl)) ay)))
 (aV (qW (cJ NP R (T 14) (af (U 1 R) (af (U 2 R) ay))) (kK (n:=2) (cY rfl) (fG (dn 3 R) (fG (dn 4 R) kJ))))
 (aV (b0 5 R (ww ay))
 (aV (fc PassesOwn.never (cY rfl) (il (ww (af (fj (af (hY h1 zc) (af zc ay))) (af (fj (af zc (af (hY h1 zc) ay))) (af (fj (af zc (af zc ay))) (af (fj (af zc (af zc ay))) ay)))))) (kK (n:=2) (cY rfl) (fG (dn 6 R) (fG (dn 7 R) kJ)))
 (aX (cN (eF.pt (jl (DW pw nX zc (bG dW (U 3 R) (U 6 R)) (cJ zr R (T 0) (af (U 0 R) ay))) (jK (DW pw nX zc (bG dW (U 4 R) (U 7 R)) (U 2 R)))))
 (aV (b0 8 R (bG dW (bG dW (U 1 R) (bG mL (U 6 R) (U 2 R))) (U 7 R)))
 (aX (cN (cp hC (cx (nA T) R (T 78) (af (U 0 R) (af (U 8 R) ay))) eh)
 (aX (hj (hE wa1 wa2 wa3 i0 (U 5 R) (af (U 8 R) ay))))
 zx)))
 zx)))
 (
 aX (bY (U 5 R))))))),?_⟩
 rfl';have cZ:=g.cZ
 have ey:=g.ey
 have h0:=g.h0
 have aa:=g.aa
 have len:=g.len
 have ic:=jv g
 have cy:dH ((Fl.linesOf w h sg).map V.str) 0∣V.str (gQ w sg 0):=gk (j:=0) (by rw[getElem?_map,l8 ⋯];rfl)
 have fA:=l7 g (show 0<h by omega)
 refine zj (λJ H'=>H'=H/\J=[⇑l,↥c,↥(w:Int),none,none,none,none,none,none]) (λaP aj=>?_) ?_
 ·ext;refine⟨_,aK.of cw,_,cy,_,rfl,by rw[fA];omega,?_⟩;rw[fA];exact aj _ _ ⟨rfl,rfl⟩
 rintro cm a9 J H1 ⟨rfl,rfl⟩;nofun;refine zj (λJ H'=>aQ H1 H'/\J=[⇑l,↥c,↥(w:Int),↥(c/w),↥(c%w),none,none,none,none]) (λaP aj=>?_) ?_
 ·ext;exact⟨⟨⋯,⋯⟩,λt fX=>⟨_,bT.of aH,rfl,_,_,rfl,_,_,rfl,rfl,aj _ _ ⟨bb fX,rfl⟩⟩⟩
 rintro cm a9 J aE ⟨s2,rfl⟩;nofun;refine zj (λJ H'=>∃p,H1 p=none/\aQ H1 H'/\H' p∣.lst []/\J=[⇑l,↥c,↥(w:Int),↥(c/w),↥(c%w),⇑p,none,none,none]) (λaP aj=>?_) ?_
 ·ext;exact⟨⋯,λp np=>aj _ _ ⟨p,s2.free np,s2.trans (bb np),aH,rfl⟩⟩
 rintro cm a9 J bP ⟨p,np,s3,IQ,rfl⟩;nofun;refine zj (λJ H'=>∃x y z,aQ H1 H'/\H' p∣.lst ((dc w sg c).map V.int)/\J=[⇑l,↥c,↥(w:Int),↥(c/w),↥(c%w),⇑p,x,y,z]) (λaP aj=>?_) ?_
 ·ext;refine⟨⋯,λt1 di=>⟨⋯,λgC dO=>⟨⋯,λt3 ik=>⟨⋯,λqz Y9=>⟨⋯,λq c3=>⟨⟨_,aK.of aH⟩,?_⟩⟩⟩⟩⟩⟩;have IS:=bb (o:=a3.tup [V.int (-1),V.int 0]) di
  have IT:=bb (o:=a3.tup [V.int 0,V.int (-1)]) dO
  have Ca:=bb (o:=a3.tup [V.int 0,V.int 1]) ik
  have xB:=bb (o:=a3.tup [V.int 1,V.int 0]) Y9
  have xC:=bb (o:=a3.lst [V.ref t1,V.ref gC,V.ref t3,V.ref qz]) c3
  have IU:=IT.trans (Ca.trans (xB.trans xC))
  have iE:=IU _ _ (aH (H:=bP) (a:=t1) (o:=a3.tup [V.int (-1),V.int 0]))
  have lH:=(Ca.trans (xB.trans xC)) _ _ (aH (a:=gC) (o:=a3.tup [V.int 0,V.int (-1)]))
  have lI:=(xB.trans xC) _ _ (aH (a:=t3) (o:=a3.tup [V.int 0,V.int 1]))
  have lJ:=xC _ _ (aH (a:=qz) (o:=a3.tup [V.int 1,V.int 0]))
  have Za:q≠p:=λz=>by rw[z,(IS.trans (IT.trans (Ca.trans xB))) _ _ IQ]at c3;cases c3
  have IV:=IS.trans IU
  refine tM (K:=ad.az) (a:=q) (xs:=[V.ref t1,V.ref gC,V.ref t3,V.ref qz]) (λj J H'=>H' q∣.lst [V.ref t1,V.ref gC,V.ref t3,V.ref qz]/\∃x y z,aQ H1 H'/\H' t1∣.tup [V.int (-1),V.int 0]/\H' gC∣.tup [V.int 0,V.int (-1)]/\H' t3∣.tup [V.int 0,V.int 1]/\H' qz∣.tup [V.int 1,V.int 0]/\H' p∣.lst (((lA.take j).flatMap (hO w h sg c)).map V.int)/\J=[⇑l,↥c,↥(w:Int),↥(c/w),↥(c%w),⇑p,x,y,z]) ⟨aH,none,none,none,s3.trans IV,iE,lH,lI,lJ,IV _ _ IQ,rfl⟩ (λj J H' _ h=>aK.of h.1) ?_ ?_
  ·rintro j v J H' N aJ bH b9;left;obtain⟨eS,x,y,z,s4,iE,lH,lI,lJ,iL,rfl⟩:=bH;obtain⟨t,ez,ac,rfl,bC,hd⟩:∃t ez ac,v=V.ref t/\H' t∣.tup [.int ez,.int ac]/\lA[j]?∣(ez,ac):=by
    clear b9 iL;match j,aJ with
    | 0,aJ=>cases aJ;exact⟨t1,-1,0,rfl,iE,rfl⟩
    | 1,aJ=>cases aJ;exact⟨gC,0,-1,rfl,lH,rfl⟩
    | 2,aJ=>cases aJ;exact⟨t3,0,1,rfl,lI,rfl⟩
    | 3,aJ=>cases aJ;exact⟨qz,1,0,rfl,lJ,rfl⟩
    | (j+4),aJ=>cases aJ
   have tk:(lA.take (j+1)).flatMap (hO w h sg c)=(lA.take j).flatMap (hO w h sg c)++hO w h sg c (ez,ac):=by
    rw[take_add_one,hd,List.flatMap_append];simp[flatMap_cons]
   right;ext;refine⟨_,bT.of bC,rfl,_,_,rfl,_,_,rfl,rfl,ez,rfl,?_⟩;have skip:hO w h sg c (ez,ac)=[]->H' p∣.lst (((lA.take (j+1)).flatMap (hO w h sg c)).map V.int):=λz=>by rwa[tk,z,append_nil]
   by_cases a1:0<=c/(w:Int)+ez
   ·rw[aM a1];refine⟨_,.inl (aK.of (s4 _ _ cw)),?_⟩;rw[length_map,mY];by_cases a2:c/(w:Int)+ez<h
    ·rw[aM a2];refine⟨ac,rfl,?_⟩;by_cases fY:0<=c%(w:Int)+ac
     ·rw[aM fY];by_cases hJ:c%(w:Int)+ac<w
      ·rw[aM hJ];obtain⟨oG,iX⟩:=HN cZ ⟨a1,a2⟩ ⟨fY,hJ⟩;rw[<- len]at iX;refine⟨ez,rfl,.inr ⟨⋯,⋯⟩,ac,rfl,l,w,h,sg,_,rfl,s4 _ _ cw,g,oG,iX,rfl,?_⟩;by_cases m9:at_ sg (c+ez*w+ac)=35
       ·rw[aB (λz=>z (rX.mpr m9))];exact b9 _ _ ⟨eS,_,_,_,s4,iE,lH,lI,lJ,skip (aB λz=>z.2.2 m9),rfl⟩
       ·rw[aM (λz=>m9 (rX.mp z))];have ln:=HO (w:=w) (h:=h) (sg:=sg) (c:=c) (lA.take j)
        have Zb:(lA.take j).length<=4:=by rw[length_take];exact Nat.min_le_right _ _
        refine⟨.inl ⟨rfl,_,aK.of iL⟩,_,iL,by rw[length_map];omega,b9 _ _ ⟨by rwa[zf Za],_,_,_,kW s4 np,by rwa[zf (cM iE iL nofun)],by rwa[zf (cM lH iL nofun)],by rwa[zf (cM lI iL nofun)],by rwa[zf (cM lJ iL nofun)],?_,rfl⟩⟩;rw[aH,tk,show hO w h sg c (ez,ac)=[c+ez*w+ac] from aM ⟨⟨a1,a2⟩,⟨fY,hJ⟩,m9⟩,map_append];rfl
      ·rw[aB hJ];exact b9 _ _ ⟨eS,_,_,_,s4,iE,lH,lI,lJ,skip (aB λz=>hJ z.2.1.2),rfl⟩
     ·rw[aB fY];exact b9 _ _ ⟨eS,_,_,_,s4,iE,lH,lI,lJ,skip (aB λz=>fY z.2.1.1),rfl⟩
    ·rw[aB a2];exact b9 _ _ ⟨eS,_,_,_,s4,iE,lH,lI,lJ,skip (aB λz=>a2 z.1.2),rfl⟩
   ·rw[aB a1];exact b9 _ _ ⟨eS,_,_,_,s4,iE,lH,lI,lJ,skip (aB λz=>a1 z.1.1),rfl⟩
  ·rintro J H' ⟨eS,x,y,z,s4,iE,lH,lI,lJ,iL,rfl⟩;rw[show lA.take ([V.ref t1,V.ref gC,V.ref t3,V.ref qz]:List V).length=lA from rfl,VZ g ak]at iL;exact aj _ _ ⟨x,y,z,s4,iL,rfl⟩
 rintro cm a9 J ck ⟨x,y,z,s4,Cb,rfl⟩;nofun;ext;exact ao p ck np s4 Cb
theorem Zc:cv ad bI 2 (ad.ai 67) q11 (VP):=by
 refine cE (T 244) Ya ?_;and_intros;obtain⟨x,i,l,w,h,sg,cell,other,rfl,au,cw,g,je,iI,ao⟩:=h;refine uq ⟨_,(aV (cN (jn (fS (cx (IJ T) R (T 80) (af (U 1 R) (af (cx (nA T) R (T 78) (af (U 0 R) (af (U 3 R) ay))) ay)))))
 (aX (bY hi))
 zx)
 (aV (cN (eF.pt (jl (cp eH (U 1 R) eh) (jK (cp eH (cx (nA T) R (T 78) (af (U 0 R) (af (U 3 R) ay))) eh))))
 (aX (bY zc))
 zx)
 (aV (cN (eF.pt (jl (cp eH (U 1 R) eh) (jK (cp hC (bG ip (U 2 R) (cJ kd R (T 0) (af (bR zy (U 0 R) zc (λ_ _=>rfl)) ay))) (bG ip (U 3 R) (cJ kd R (T 0) (af (bR zy (U 0 R) zc (λ_ _=>rfl)) ay)))))))
 (aV (cN (cp Ei eh (ww (af (cx (nA T) R (T 78) (af (U 0 R) (af (U 2 R) ay))) (af (cx (nA T) R (T 78) (af (U 0 R) (af (U 3 R) ay))) ay))))
 (aX (bY hi))
 zx)
 (aX (bY zc)))
 zx)
 (
 aX (bY zc))))),?_⟩
 rfl';left;obtain⟨k1,k2,k3⟩:=BG i x au;have cZ:=g.cZ
 have ey:=g.ey
 have h0:=g.h0
 have cy:dH ((Fl.linesOf w h sg).map V.str) 0∣V.str (gQ w sg 0):=gk (j:=0) (by rw[getElem?_map,l8 ⋯];rfl)
 have fA:=l7 g (show 0<h by omega)
 have fK:=ao H (aQ.refl _)
 right;ext;refine⟨l,w,h,sg,other,rfl,cw,g,iI.1,iI.2,i,_,x,rfl,au,_,rfl,?_⟩;unfold lq at fK ao;cases aI:dT i (at_ sg other) with
 | false=>
  rw[aM rfl];rw[aI]at fK;exact fK
 | true=>
  rw[aB (by decide)];simp only[aI,if_true]at fK ao;by_cases cL:i=1
  ·subst cL;rw[aM (k1.mpr rfl)];refine⟨l,w,h,sg,other,rfl,cw,g,iI.1,iI.2,rfl,?_⟩;simp only[ml]at fK;by_cases e:at_ sg other=126
   ·rw[aM (nv.mpr e)];rw[aM e]at fK;exact fK
   ·rw[aB (λz=>e (nv.mp z)),aB (λz=>br (k2.mp z) (by decide))];rw[aB e]at fK;exact fK
  ·rw[aB (λz=>cL (k1.mp z))];by_cases cD:i=2
   ·subst cD;rw[aM (k2.mpr rfl)];simp only[ml]at fK ao;refine⟨_,aK.of cw,_,cy,_,rfl,by rw[fA];omega,?_⟩;rw[fA];refine⟨⟨⋯,⋯⟩,_,aK.of cw,_,cy,_,rfl,by rw[fA];omega,?_⟩;rw[fA];refine⟨⟨⋯,⋯⟩,?_⟩;by_cases e:cell/(w:Int)=other/(w:Int)
    ·rw[aB (λz=>z e)];rw[aM e]at fK;exact fK
    ·rw[aM e];rw[aB e]at ao;refine⟨l,w,h,sg,cell,rfl,cw,g,je.1,je.2,l,w,h,sg,other,rfl,cw,g,iI.1,iI.2,⋯,λp np=>⟨_,.inl (aK.of aH),rfl,rfl,?_⟩⟩;have aw:kc (V.str (!"|")) [dw (at_ sg cell),dw (at_ sg other)]=decide (at_ sg cell=124\/at_ sg other=124):=by
      have q:∀c:Nat,iu (dw c) (V.str (!"|"))=decide (c=124):=λc=>by
       have e:iu (dw c) (V.str (!"|"))=((⟨#[c]⟩:Str)==Str.ofString "|"):=rfl
       rw[e,Bool.eq_iff_iff,beq_iff_eq,decide_eq_true_iff];exact⟨λz=>uh.mp (congrArg V.str z),λz=>V.str.inj (uh.mpr z)⟩
      simp only[kc,any_cons,any_nil,Bool.or_false];rw[q,q,decide_or]
     rw[aw];have aG:=ao _ (bb (o:=a3.lst [dw (at_ sg cell),dw (at_ sg other)]) np)
     by_cases bV:at_ sg cell=124\/at_ sg other=124
     ·rw[aB (by rw[decide_eq_true bV];decide)];rw[aM bV]at aG;exact aG
     ·rw[aM (decide_eq_false bV)];rw[aB bV]at aG;exact aG
   ·rw[aB (λz=>cD (k2.mp z))];rcases (show i=0\/i=3 by omega) with z|z<;>(rw[z]at fK;exact fK)
theorem Zd:cv ad bI 2 (ad.ai 68) q14 (VQ):=by
 refine cE (T 245) Yb ?_;and_intros;obtain⟨x,i,l,w,h,sg,n,cell,q,rfl,au,eV,cw,g,je,ao⟩:=h;refine uq ⟨_,(aV (b0 5 R (gn (dx HU) (O6 (vR eh zc (vR eh zc (vR eh zc EA))) rfl rfl nofun (by decide)) (U 1 R) (λ_ _=>rfl)))
 (aV (cN (cp eH (cx (nA T) R (T 78) (af (U 0 R) (af (U 3 R) ay))) eh)
 (aX (b0 4 R (bG dW (U 4 R) (U 5 R))))
 zx)
 (
 aX (bY (cJ (pz rfl) R (T 10) (af (U 2 R) (af (U 4 R) ay))))))),?_⟩
 rfl';left;obtain⟨k1,k2,k3⟩:=BG i x au;right;ext;intro p np;refine⟨aH,[(.inr (!"cart"),.int 2),(.inr (!"crawler"),.int 1),(.inr (!"runner"),.int 3)],rfl,by decide,?_⟩;have em:q8 [] [((.inr (!"cart"):Key),V.int 2),(.inr (!"crawler"),.int 1),(.inr (!"runner"),.int 3)]=[(.inr (!"cart"),.int 2),(.inr (!"crawler"),.int 1),(.inr (!"runner"),.int 3)]:=∅
 rw[em];left;have S:aQ H (upd (upd H p (a3.bO [])) p (a3.bO [((.inr (!"cart"):Key),V.int 2),(.inr (!"crawler"),.int 1),(.inr (!"runner"),.int 3)])):=kW (bb np) np
 have Ze:∃k:Int,aS [((.inr (!"cart"):Key),V.int 2),(.inr (!"crawler"),.int 1),(.inr (!"runner"),.int 3)] (.inr x)∣.int k/\∀c,gs i c=if c=43 then k else 0:=by
  match i,au,eV with
  | 0,au,_=>cases au;exact⟨2,∅,λ_=>rfl⟩
  | 1,au,_=>cases au;exact⟨1,∅,λ_=>rfl⟩
  | 2,au,_=>cases au;exact⟨3,∅,λ_=>rfl⟩
  | (i+3),_,eV=>omega
 obtain⟨k,aj,bD⟩:=Ze;right;refine⟨.int k,by rw[<- aj];exact ed.k (k:=.inr x) aH,l,w,h,sg,cell,rfl,S _ _ cw,g,je.1,je.2,rfl,?_⟩;have z:=ao _ S
 rw[bD]at z;by_cases e:at_ sg cell=43
 ·rw[aM (nx.mpr e)];rw[aM e]at z;refine⟨k,rfl,?_⟩;rwa[show(if q+k<n then q+k else n)=min n (q+k) by split<;>omega]
 ·rw[aB (λy=>e (nx.mp y))];rw[aB e,Int.add_zero]at z;rwa[show(if q<n then q else n)=min n q by split<;>omega]
theorem Zf:cv ad bI 2 (ad.ai 70) q10 (VR):=by
 refine cE (T 247) Yc ?_;and_intros;obtain⟨e,es,num,cell,other,t,rfl,aj,ao⟩:=h;refine uq ⟨_,(aV (FL (fc PassesOwn.never (cY rfl) (tw (U 0 R)) (dn 5 R)
 (aX (cN (cp hC (U 5 R) (U 1 R))
 (aV (b0 6 R (cx (B7 T) R (T 83) (af (gn (dx HU) (U 0 R) (U 5 R) (λ_ _=>rfl)) (af (U 4 R) ay))))
 (aV (b0 7 R (cx (B7 T) R (T 83) (af (gn (dx HU) (U 0 R) (U 5 R) (λ_ _=>rfl)) (af (bG dW (U 4 R) zc) ay))))
 (aX (cN (eF.pt (jm (cp eH (U 7 R) (U 3 R)) (kH (eF.pt (jl (cp eH (U 6 R) (U 3 R)) (jK (cp eH (U 7 R) (U 2 R))))))))
 (aX (bY jJ))
 zx))))
 zx))))
 (
 aX (bY jJ))),?_⟩
 rfl';obtain⟨ag,b8⟩:=id aj;have jD:=b8.len
 have fX:∀xs,H e≠some (.tup xs):=λxs z=>by rw[ag]at z;cases z
 ext;refine .inl ⟨e,c0 es,ag,c0 es,.inl ⟨ag,λo=>FN (λi J H'=>∃x y z,v6 e H H'/\H' e∣.cc o (.bO (c0 es))/\J=[⇑e,↥num,↥cell,↥other,↥t,x,y,z]/\m3 (bk (es.take i) num) cell other t) ⟨none,none,none,h3 (gr (aQ.refl _)),aH,rfl,Vl⟩ (λi J H' _ ⟨_,_,_,_,hf,_⟩=>hf) ?_ ?_⟩⟩
 ·rintro i k ep J H' au bH;left;obtain⟨x,y,z,sB,hf,rfl,hn⟩:=bH;obtain⟨a4,he,rfl,rfl⟩:=F2 au;have hm:=mem_of_getElem? he
  have hP:=sB.cH fX
  have dq:=F0 (n:=num) he
  right;ext;refine⟨rfl,?_⟩;by_cases q:a4.k=num
  ·rw[aB (by simp[bq,q])];rw[aM q]at dq;exact⟨sB,hf,by rwa[dq]⟩
  ·rw[aM (λy=>by cases y;exact q rfl)];rw[aB q]at dq;have iJ:=ef.cH hP (b8.ok a4 hm).1
   have cn:=(b8.ok a4 hm).2.1.1
   have hit:m3 (bk es num) cell other t->b7 a4.b a4.c (t+1)≠.int other/\¬(b7 a4.b a4.c t=.int other/\b7 a4.b a4.c (t+1)=.int cell):=λz=>z a4 (kn.mpr ⟨hm,q⟩)
   have bad:¬m3 (bk es num) cell other t->(∃o,H' e∣a3.cc o (a3.bO (c0 es)))/\Q (V.bl false) (upd H' e (a3.bO (c0 es))):=λz=>by
    have ar:=ao _ (rv ag sB)
    rw[Bool.eq_false_iff.mpr (λy=>z (qr.mp y))]at ar;exact⟨⟨o,hf⟩,ar⟩
   have more:b7 a4.b a4.c (t+1)≠.int other/\¬(b7 a4.b a4.c t=.int other/\b7 a4.b a4.c (t+1)=.int cell)->v6 e H H'/\H' e∣a3.cc o (a3.bO (c0 es))/\m3 (bk (es.take (i+1)) num) cell other t:=λz=>⟨sB,hf,by
    rw[dq];intro aw jV;rcases mem_append.mp jV with y|y
    ·exact hn aw y
    ·rwa[mem_singleton.mp y]⟩
   have sc:∀(u z:Int),jN (b7 a4.b a4.c u) (.int z)=true:=λu z=>rV (k4 _ _ _) (.inr ⟨z,rfl⟩)
   refine⟨a4.v,rx hf b8.nd hm,a4.v,a4.b,a4.c,t,rfl,iJ,cn,a4.v,rx hf b8.nd hm,a4.v,a4.b,a4.c,t+1,rfl,iJ,cn,sc _ _,?_⟩;by_cases cL:b7 a4.b a4.c (t+1)=.int other
   ·rw[aM cL];exact bad λz=>(hit z).1 cL
   ·rw[aB cL];refine⟨sc _ _,?_⟩;by_cases cD:b7 a4.b a4.c t=.int other
    ·rw[aM cD];refine⟨sc _ _,?_⟩;by_cases qi:b7 a4.b a4.c (t+1)=.int cell
     ·rw[aM qi];exact bad λz=>(hit z).2 ⟨cD,qi⟩
     ·rw[aB qi];exact more ⟨cL,λz=>qi z.2⟩
    ·rw[aB cD];exact more ⟨cL,λz=>cD z.1⟩
 ·rintro J H' bH;left;obtain⟨x,y,z,sB,hf,rfl,hn⟩:=bH;rw[rp,F1]at hn;have ar:=ao _ (rv ag sB)
  rw[qr.mpr hn]at ar;right;exact⟨⟨o,hf⟩,ar⟩
theorem Zg:cv ad bI 2 (ad.ai 72) q40 (VT):=by
 refine cE (T 249) Yd ?_;and_intros;obtain⟨x,i,l,w,h,sg,rfl,au,cw,g,ao⟩:=h;refine uq ⟨_,(aV (b0 2 R (ww ay))
 (aV (fc PassesOwn.never (cY rfl) (kN (fN Xk) (T 1).1 (af (bG mL (cJ zr R (T 0) (af (U 0 R) ay)) (cJ kd R (T 0) (af (bR zy (U 0 R) zc (λ_ _=>rfl)) ay))) ay) (dI rfl)) (dn 3 R)
 (aX (cN (eF.pt (jl (cp hC (cx (nA T) R (T 78) (af (U 0 R) (af (U 3 R) ay))) eh) (jK (fS (cx (IJ T) R (T 80) (af (U 1 R) (af (cx (nA T) R (T 78) (af (U 0 R) (af (U 3 R) ay))) ay)))))))
 (aX (hj (hE wa1 wa2 wa3 i0 (U 2 R) (af (U 3 R) ay))))
 zx)))
 (
 aX (bY (U 2 R))))),?_⟩
 rfl';have cZ:=g.cZ
 have ey:=g.ey
 have h0:=g.h0
 have aa:=g.aa
 have len:=g.len
 have ic:=jv g
 have cy:dH ((Fl.linesOf w h sg).map V.str) 0∣V.str (gQ w sg 0):=gk (j:=0) (by rw[getElem?_map,l8 ⋯];rfl)
 have fA:=l7 g (show 0<h by omega)
 have em:((h:Int)*(w:Int))=((sg.length:Nat):Int):=by rw[len,Nat.mul_comm];simp
 ext;refine⟨⋯,λp np=>⟨_,.inl (aK.of ((bb np) _ _ cw)),_,aK.of ((bb np) _ _ cw),_,cy,_,rfl,by rw[fA];omega,?_⟩⟩;rw[fA,length_map,mY];refine⟨.inl ⟨⋯,⋯⟩,by rw[em];omega,by rw[em];omega,?_⟩;rw[em,toNat_natCast];refine yz (λj J H'=>∃oQ,aQ H H'/\H' p∣.lst ((((range j).map λi=>((i:Nat):Int)).filter λc=>dT i (at_ sg c)).map V.int)/\J=[⇑l,some (V.str x),⇑p,oQ]) ⟨none,bb np,aH,rfl⟩ ?_ ?_
 ·rintro j J H' aZ bH;left;obtain⟨oQ,s1,oB,rfl⟩:=bH;have es:((range (j+1)).map λi=>((i:Nat):Int)).filter (λc=>dT i (at_ sg c))=((range j).map λi=>((i:Nat):Int)).filter (λc=>dT i (at_ sg c))++(if dT i (at_ sg (j:Int)) then [(j:Int)] else []):=by
   rw[range_succ,map_append,filter_append,map_cons,map_nil,filter_cons,filter_nil]
  have ln:(((range j).map λi=>((i:Nat):Int)).filter λc=>dT i (at_ sg c)).length<=j:=wa0 (length_filter_le _ _) (by simp)
  right;rw[Int.zero_add];ext;refine⟨l,w,h,sg,(j:Int),rfl,s1 _ _ cw,g,⋯,⋯,rfl,?_⟩;have no:dT i (at_ sg (j:Int))=false->H' p∣.lst ((((range (j+1)).map λi=>((i:Nat):Int)).filter λc=>dT i (at_ sg c)).map V.int):=λz=>by rw[es,z];simpa using oB
  by_cases a:at_ sg (j:Int)=35
  ·rw[aB (λz=>z (rX.mpr a))];exact⟨s1,no (HK a),_,rfl⟩
  ·rw[aM (λz=>a (rX.mp z))];refine⟨l,w,h,sg,(j:Int),rfl,s1 _ _ cw,g,⋯,⋯,i,_,x,rfl,au,_,rfl,?_⟩;cases b:dT i (at_ sg (j:Int)) with
   | false=>
    rw[aB (by decide)];exact⟨s1,no b,_,rfl⟩
   | true=>
    rw[aM rfl];refine⟨.inl ⟨rfl,_,aK.of oB⟩,_,oB,by rw[length_map];omega,kW s1 np,?_,_,rfl⟩;rw[aH,es,b,aM rfl,map_append];rfl
 ·rintro J H' bH;left;obtain⟨oQ,s1,oB,rfl⟩:=bH;right;ext;exact ao p H' np s1 oB
theorem Zh:cv ad bI 2 (ad.ai 76) q17 (Wa):=by
 refine cE (T 253) Ye ?_;and_intros;obtain⟨d,es,n,cell,l,rfl,aj,um,e2,aD,ao⟩:=h;refine uq ⟨_,(aV (b0 4 R zc)
 (aV (fc PassesOwn.never (cY rfl) (kN (fN Xg) (T 1).1 (af (bG dW (U 3 R) zc) ay) (dI rfl)) (dn 5 R)
 (aX (FL (fc PassesOwn.never (cY rfl) (tw (U 0 R)) (dn 6 R)
 (aX (cN (eF.pt (jl (cp hC (U 6 R) (U 1 R)) (jK (cp eH (cx (B7 T) R (T 83) (af (gn (dx HU) (U 0 R) (U 6 R) (λ_ _=>rfl)) (af (U 5 R) ay))) (U 2 R)))))
 (aX (b0 4 R (bG dW (U 5 R) zc)))
 zx))))))
 (aV (cN (cp vw (U 4 R) (U 3 R))
 (aX (bY hi))
 zx)
 (
 aX (bY (U 4 R)))))),?_⟩
 rfl';obtain⟨ag,b8⟩:=id aj;have fX:∀xs,H d≠some (.tup xs):=λxs z=>by rw[ag]at z;cases z
 refine zj (λJ H'=>H'=H/\J=[⇑d,↥n,↥cell,↥l,some (V.int 0),none,none]) (λaP aj=>?_) ?_
 ·ext;exact aj _ _ ⟨rfl,rfl⟩
 rintro cm a9 J H ⟨rfl,rfl⟩;nofun;refine zj (λJ H'=>∃f x y,aQ H H'/\J=[⇑d,↥n,↥cell,↥l,↥f,x,y]/\rY (bk es n) cell f (l+1)) (λaP aj=>?_) ?_
 ·ext;refine⟨⋯,⋯,m6 (λi J H'=>∃f x y,aQ H H'/\J=[⇑d,↥n,↥cell,↥l,↥f,x,y]/\rY (bk es n) cell f (i:Int)) ⟨0,none,none,aQ.refl _,rfl,V4⟩ ?_ ?_⟩
  ·rintro i J H1 N au bH b9;left;obtain⟨f,x,y,s1,rfl,fr⟩:=bH;have aR:=s1 _ _ ag
   have Zi:∀xs,H1 d≠some (.tup xs):=λxs z=>by rw[aR]at z;cases z
   right;ext;refine .inl ⟨d,c0 es,aR,c0 es,.inl ⟨aR,λo=>FN (λj J H'=>∃f y,v6 d H1 H'/\H' d∣.cc o (.bO (c0 es))/\J=[⇑d,↥n,↥cell,↥l,↥f,some (V.int (0+(i:Int))),y]/\qt (bk es n) (bk (es.take j) n) cell f (0+(i:Int))) ⟨f,y,h3 (gr (aQ.refl _)),aH,rfl,?_⟩ (λj J H' _ ⟨_,_,_,hf,_⟩=>hf) ?_ ?_⟩⟩
   ·rw[Int.zero_add];exact V5 fr
   ·rintro j k ep J H' aZ bH;left;obtain⟨f,y,sB,hf,rfl,pH⟩:=bH;obtain⟨a4,he,rfl,rfl⟩:=F2 aZ;have hm:=mem_of_getElem? he
    have hP:=sB.cH Zi
    have dq:=F0 (n:=n) he
    right;ext;refine⟨rfl,?_⟩;by_cases q:a4.k=n
    ·rw[aB (by simp[bq,q])];rw[aM q]at dq;exact⟨sB,hf,by rwa[dq]⟩
    ·rw[aM (λy=>by cases y;exact q rfl)];rw[aB q]at dq;have iJ:=ef.cH hP ((b8.ok a4 hm).1.same s1)
     refine⟨a4.v,rx hf b8.nd hm,a4.v,a4.b,a4.c,0+(i:Int),rfl,iJ,(b8.ok a4 hm).2.1.1,rV (k4 _ _ _) (.inr ⟨cell,rfl⟩),?_⟩;split
     ·rename_i w;exact⟨sB,hf,by rw[dq];exact V7 pH ⋯ (kn.mpr ⟨hm,q⟩) w⟩
     ·rename_i w;exact⟨sB,hf,by rw[dq];exact V6 pH w⟩
   ·rintro J H' bH;left;obtain⟨f,y,sB,hf,rfl,pH⟩:=bH;rw[rp,F1,Int.zero_add]at pH;right;exact⟨⟨o,hf⟩,b9 _ _ ⟨f,_,y,s1.trans (rv aR sB),rfl,V8 pH⟩⟩
  ·rintro J H1 ⟨f,x,y,s1,rfl,fr⟩;exact aj _ _ ⟨f,x,y,s1,rfl,by rw[show(((l+1).toNat:Nat):Int)=l+1 by omega]at fr;exact fr⟩
 rintro cm a9 J H1 ⟨f,x,y,s1,rfl,fr⟩;nofun;ext;have z:=ao _ _ s1 (V9 fr um (λe he=>(b8.ok e (kn.mp he).1).2.1.1) aD)
 split
 ·rename_i w;rw[aM w]at z;exact z
 ·rename_i w;rw[aB w]at z;exact z
theorem Zj:cv ad bI 3 (ad.ai 4) ["lines"] (UQ):=by
 refine cE (T 179) Yf ?_;and_intros;obtain⟨l,w,h,sg,rfl,cw,g,ao⟩:=h;obtain⟨Zk,Cc,Cd⟩:=(T 16);obtain⟨aeG,Zl,Zm⟩:=(T 21);obtain⟨aeH,Zn,Zo⟩:=(T 22);refine uq ⟨_,(aV (cN (eF.pt (jm (jn (fS (cJ mU R (T 2) (af (U 0 R) (af (nc (v:=.ty "list") R (T 7) rfl) ay))))) (kH (jn (fS (cx (xy T) R (T 27) (af (cJ zr R (T 0) (af (U 0 R) ay)) (af zc (af (iC (v:=V.int 10) R Zl Zm) ay)))))))))
 pj
 zx)
 (aV (cN (eF.pt (jm (jn (fS (cJ mU R (T 2) (af (bR zy (U 0 R) zc (λ_ _=>rfl)) (af (nc (v:=.ty "str") R (T 6) rfl) ay))))) (kH (jn (fS (cx (xy T) R (T 27) (af (cJ kd R (T 0) (af (bR zy (U 0 R) zc (λ_ _=>rfl)) ay)) (af zc (af (iC (v:=V.int 10) R Zn Zo) ay)))))))))
 pj
 zx)
 (aV (fc PassesOwn.never (cY rfl) (il (U 0 R)) (dn 1 R)
 (aX (hj (cx (YE T) R (T 28) (af (U 1 R) (af (cJ kd R (T 0) (af (bR zy (U 0 R) zc (λ_ _=>rfl)) ay)) ay))))))
 (aX (cN (fS (cJ E6 R (T 3) (af (kg (gD.of (hG:=bU w1) (tn:=["sign"]) (cn:=[]) (dR:=[]) rfl rfl ∅ ∅ ∅ ∅ rfl) (cY rfl)  (E3 (hE PySem.F.plainAttrs_str PySem.F.slot_str_join PySem.F.type_str_join zE eh (af (U 0 R) ay)))
 (λ_ _ _ _ _=>(hX (i:=0) (show(["sign"]:List Str).Nodup by decide +kernel) rfl (Or.inl rfl))) (λ_ _ _ _ _=>od) (λ_ _ _ _ _=>(hq eH (cK 0) (yr (v:=V.str (!"#")) (by rfl) Cc Cd (hd:=W3))))) ay)))
 pj
 zx))))),?_⟩
 rfl';have cZ:=g.cZ
 have ey:=g.ey
 have h0:=g.h0
 have aa:=g.aa
 have ic:=jv g
 have cy:dH ((linesOf w h sg).map V.str) 0∣V.str (gQ w sg 0):=gk (j:=0) (by rw[getElem?_map,l8 ⋯];rfl)
 have fA:=l7 g (show 0<h by omega)
 refine zj (λJ H'=>H'=H/\J=[⇑l,none]) (λaP aj=>?_) ?_
 ·ext;refine(wA (b:=true) (.lst cw) rfl ?_);rw[aB (by decide)];refine⟨_,.inl (aK.of cw),_,_,_,rfl,⟨_,.int _⟩,_,rfl,?_⟩;rw[length_map,mY];have a0:ku (.int (h:Int)) 1 10=true:=by simp only[ku,and_eq_true,decide_eq_true_eq];omega
  rw[a0,aB (by decide)];exact aj _ _ ⟨rfl,rfl⟩
 rintro cm a9 J H1 ⟨rfl,rfl⟩;nofun;refine zj (λJ H'=>H'=H1/\J=[⇑l,none]) (λaP aj=>?_) ?_
 ·ext;refine⟨_,aK.of cw,_,cy,_,.str _,true,rfl,?_⟩;rw[aB (by decide)];refine⟨_,aK.of cw,_,cy,_,rfl,by rw[fA];omega,_,_,_,rfl,⟨_,.int _⟩,_,rfl,?_⟩;rw[fA];have a0:ku (.int (w:Int)) 1 10=true:=by simp only[ku,and_eq_true,decide_eq_true_eq];omega
  rw[a0,aB (by decide)];exact aj _ _ ⟨rfl,rfl⟩
 rintro cm a9 J aE ⟨rfl,rfl⟩;nofun;refine zj (λJ H'=>∃y,aQ aE H'/\J=[⇑l,y]) (λaP aj=>?_) ?_
 ·ext;refine⟨⟨_,aK.of cw⟩,qZ (K:=ad.az) (a:=l) (xs:=(linesOf w h sg).map V.str) (λi J H'=>∃y,aQ aE H'/\J=[⇑l,y]) ⟨none,aQ.refl _,rfl⟩ (λi J H' _ ⟨_,mf,_⟩=>aK.of (mf _ _ cw)) ?_ ?_⟩
  ·rintro i y J H' au bH;left;obtain⟨jW,mf,rfl⟩:=bH;rw[getElem?_map]at au;obtain⟨z,tR,rfl⟩:=map_eq_some_iff.mp au;have IW:i<h:=by
    have:=(wa4.mp tR).1
    rwa [mY]at this
   rw[l8 IW]at tR;cases tR;right;ext;refine⟨_,aK.of (mf _ _ cw),_,cy,_,rfl,by rw[fA];omega,?_⟩;rw[fA];exact⟨_,w,rfl,l7 g IW,ey,QV g,λbP s3=>⟨mf.trans s3,_,rfl⟩⟩
  ·rintro J H' ⟨y,mf,rfl⟩;exact aj _ _ ⟨y,mf,rfl⟩
 rintro cm a9 J bP ⟨y,s3,rfl⟩;nofun;ext;refine⟨rfl,_,aK.of (s3 _ _ cw),FF g,?_⟩;rw[FE g];refine pN E4 (λ_=>true) BB (λy bg Q h=>h) (λy bg _ Q bN=>?_) (by rw[length_map,E9,rk];omega) ?_
 ·left;obtain⟨c,ak,rfl⟩:=mem_map.mp bg;right;ext;refine⟨rfl,?_⟩;have e:BB (dw c)=V.bl (decide (dw c=V.str (!"#"))):=by
   show V.bl _=V.bl _
   congr 1
   exact decide_eq_decide.mpr ⟨λz=>congrArg V.str z,λz=>V.str.inj z⟩
  rw[e]at bN;exact bN
 ·intro D e1;have el:(((txt sg).cps.toList.map dw).filter λ_=>true).map BB=(sg.map λc=>decide ((⟨#[c]⟩:Str)=Str.ofString "#")).map V.bl:=by
   rw[List.filter_eq_self.mpr (λ_ _=>rfl),map_map,map_map,pV];rfl
  rw[el];refine⟨hA,_,aK.of aH,?_⟩;have aw:(sg.map λc=>decide ((⟨#[c]⟩:Str)=Str.ofString "#")).all id=false:=by
   left;obtain⟨c,ak,jT⟩:=g.cell;right;rw[all_map,List.all_eq_false];exact⟨c,ak,by
    show ¬(decide _=true)
    rwa[decide_eq_true_eq,Hh]⟩
  rw[aw,aB (by decide)];exact ao _ (s3.trans (bb e1))
theorem Zp:cv ad bI 3 (ad.ai 6) q05 (US ad.az (ad.ai 83)):=by
 refine cE (T 181) Yg ?_;and_intros;obtain⟨p,w,h,sg,x,rfl,eW,g,ty,ao⟩:=h;obtain⟨Zk,Cc,Cd⟩:=(T 16);refine uq ⟨_,(aX (bY (lT (cx (xy T) R (T 27) (af (U 1 R) (af zc (af (bG hZ (cJ kd R (T 0) (af (dN (U 0 R) (by rfl)) ay)) zc) ay)))) (kI (hq hC (bR yR (dN (U 0 R) (by rfl)) (U 1 R) (λ_ _=>rfl)) (iC (v:=V.str (!"#")) R Cc Cd)))))),?_⟩;rfl';left;obtain⟨av,l,aa,ag⟩:=eW.ob;have ic:=jv g
 right;ext;refine(dX aa (T 97) (T 101) (Bz _ _ _ _) ⟨_,rfl,by rw[rk];omega,x,_,_,rfl,ty,_,rfl,?_⟩);rw[rk];cases x with
 | int i=>
  by_cases au:0<=i/\i<sg.length
  ·have a0:ku (.int i) 0 ((sg.length:Int)-1)=true:=by
    simp only[ku,and_eq_true,decide_eq_true_eq];omega
   rw[a0,aM rfl];refine(dX aa (T 97) (T 101) (Bz _ _ _ _) ⟨_,rfl,_,rfl,by rw[rk];omega,_,Hi au.1 au.2,?_⟩);have e:tu sg (.int i)=!decide ((⟨#[at_ sg i]⟩:Str)=Str.ofString "#"):=by
    show gH sg i=_
    unfold gH;rw[decide_eq_true au.1,decide_eq_true au.2];simp only[Bool.true_and];congr 1
    exact decide_eq_decide.mpr (Hh _).symm
   rw[e]at ao;exact ao
  ·have a0:ku (.int i) 0 ((sg.length:Int)-1)=false:=by
    rw[<- not_eq_true];simp only[ku,and_eq_true,decide_eq_true_eq];omega
   rw[a0,aB (by decide)];have e:tu sg (.int i)=false:=by
    rw[<- not_eq_true];show ¬(gH sg i=true)
    unfold gH;simp only[and_eq_true,decide_eq_true_eq];intro z;exact au ⟨z.1.1,z.1.2⟩
   rw[e]at ao;exact ao
 | _=>
  rwa[show ku _ 0 ((sg.length:Int)-1)=false from rfl,aB (by decide)]
theorem xD:cv ad bI 3 (ad.ai 19) q00 (Hl ad.ai):=by
 refine cE (T 194) Yh ?_;and_intros;obtain⟨p,bJ,i,n,w,h,sg,cell,other,rfl,ak,au,eW,g,je,iI,ao⟩:=h;refine uq ⟨_,(aV (cN (eF.pt (jl (fS (pS (k:=1) (U 0 R) (ff (T 104) (T 140) (r3 T) (ff (T 108) (T 41) (IF T) (ff (T 112) (T 149) (r3 T) (ff (T 115) (T 35) (r3 T) pR)))) (HR.mono (by decide)) (af (e4 (U 1 R) (T 97) (T 31) (r2 T) HR (af (U 2 R) ay)) ay) (hst:=fl rfl) (hpl:=fW rfl))) (jK (fS (pS (k:=1) (U 0 R) (ff (T 104) (T 140) (r3 T) (ff (T 108) (T 41) (IF T) (ff (T 112) (T 149) (r3 T) (ff (T 115) (T 35) (r3 T) pR)))) (HR.mono (by decide)) (af (e4 (U 1 R) (T 97) (T 31) (r2 T) HR (af (U 3 R) ay)) ay) (hst:=fl rfl) (hpl:=fW rfl))))))
 (aX (bY (pS (k:=2) (U 0 R) (ff (T 104) (T 142) (IE T) (ff (T 108) (T 43) (YZ T) (ff (T 112) (T 45) (Y0 T) (ff (T 115) (T 37) (IE T) pR)))) (HR.mono (by decide)) (af (U 1 R) (af (U 2 R) (af (U 3 R) ay))) (hst:=fl rfl) (hpl:=fW rfl))))
 zx)
 (
 aX (bY hi))),?_⟩
 rfl';obtain⟨av,l,aa,ag⟩:=id eW.ob;obtain⟨ka,aG⟩:=id ak;have ns:(h8 w h l sg).lookup ("sign":Str)=none:=qo ∅ ∅ ∅ ∅
 obtain⟨j,aZ,iB⟩:=U4 (ad:=ad.ai) i au;obtain⟨k,aj,fy⟩:=U6 (ad:=ad.ai) (C:=(ad.ai 83)) i au;have nm:(dG "full" (V.int n) []).lookup ("may_stand":Str)=none:=rS n ∅
 have b5:(dG "full" (V.int n) []).lookup ("fare":Str)=none:=rS n ∅
 have may:∀(o:Int)(iQ:bo),en sg o->iQ (.bl (dT i (at_ sg o))) H->∃a av aT e,e∈[((ad.ai 84),kx 0),((ad.ai 85),kx 1),((ad.ai 86),kx 0),((ad.ai 87),kx 0)]/\p=a/\H a∣a3.ins e.fst av aT/\List.lookup ("may_stand":Str) aT=none/\
   ∃x IX,H bJ∣a3.ins (ad.ai 83) x IX/\List.lookup ("sign":Str) IX=none/\Hj (ad.ai 83) [V.ref bJ,V.int o] H (λx H1=>e.snd [V.ref p,x] H1 iQ fU) fU:=λo iQ aA q=>
  ⟨p,ka,_,(eJ ad.ai i,kx j),aZ,rfl,aG,nm,_,_,aa,ns,bJ,w,h,sg,o,rfl,eW,g,aA.1,aA.2,_,_,rfl,by rwa[iB]⟩
 unfold costOf at ao;ext;refine may cell _ je ⟨_,rfl,?_⟩;by_cases ar:dT i (at_ sg cell)=true
 ·rw[aM ar];refine may other _ iI ⟨_,rfl,?_⟩;by_cases aw:dT i (at_ sg other)=true
  ·rw[aM aw];simp only[ar,aw,Bool.and_self,if_true]at ao;refine⟨p,ka,_,(eJ ad.ai i,nu (ad.ai 83) k),aj,rfl,aG,b5,.ref p,bJ,w,h,sg,cell,other,rfl,eW,g,je,iI,?_⟩;rwa[fy]
  ·rw[aB aw];rw[not_eq_true]at aw;rw[aw,Bool.and_false,aB (by decide)]at ao;exact ao _ (aQ.refl _)
 ·rw[aB ar];rw[not_eq_true]at ar;rw[ar,Bool.false_and,aB (by decide)]at ao;exact ao _ (aQ.refl _)
theorem Zq:cv ad bI 3 (ad.ai 28) q53 (U0 ad.ai):=by
 obtain⟨aU,fd,F,B⟩:=(T 203);refine⟨fd,B,?_⟩;refine F.ok Ir.sc.1 ?_ (λcdv A outer s H vs Q E HR h=>oqq λUq uq=>?_);walk_at "l"
 have R:fO _ _ _ _ _:=⟨Ir,HR⟩
 have ND:=R.nd
 walk_at "h"
 obtain⟨i,x,n,rfl,eV,au,c4,di,ao⟩:=h;obtain⟨aeI,Zr,Zs⟩:=(T 23);obtain⟨aeJ,Zt,Zu⟩:=(T 24);refine uq ⟨_,(aV (cN (eF.pt (jm (jn (fS (cJ mU R (T 2) (af (U 0 R) (af (nc (v:=.ty "str") R (T 6) rfl) ay))))) (kH (cp Ei (U 0 R) (iC (v:=.ref (ad.ai 95)) R Zr Zs)))))
 pj
 zx)
 (aV (cN (jn (fS (cx (xy T) R (T 27) (af (U 1 R) (af zc (af (iC (v:=V.int 60) R Zt Zu) ay))))))
 pj
 zx)
 (aV (cN (cp eH (U 0 R) eh)
 (aX (bY (p5 (T 106) (B1 T) R (T 103) (af (U 1 R) ay))))
 zx)
 (aV (cN (cp eH (U 0 R) eh)
 (aX (bY (p5 (T 110) (B1 T) R (T 107) (af (U 1 R) ay))))
 zx)
 (
 aX (bY (p5 (T 114) (B1 T) R (T 111) (af (U 1 R) ay)))))))),?_⟩
 rfl';ext;have aq:x∈BE:=by
  match i,au,eV with
  | 0,au,_=>cases au;decide +kernel
  | 1,au,_=>cases au;decide +kernel
  | 2,au,_=>cases au;decide +kernel
  | (i+3),au,eV=>omega
 refine⟨_,.str x,_,rfl,?_⟩;rw[aB (by decide)];refine⟨_,.inr ((T 173) H),rfl,rfl,?_⟩;rw[U3,decide_eq_true aq,aB (by decide)];refine⟨.int n,1,60,rfl,⟨_,.int n⟩,true,by simp[ku,c4,di],?_⟩;rw[aB (by decide)];have mk:∀(p av:Addr),H p=none->H av=none->av≠p->Hk ad.ai [V.ref p,V.int n] (upd (upd H av (a3.own p)) p (a3.ins (eJ ad.ai i) av [])) (λv aE=>v=V.bx/\Q (V.ref p) aE) fU:=λp av np nd nn=>
  ⟨p,av,n,i,rfl,aH,rfl,ao p _ (λb o e=>by rwa[zf (cg e np),zf (cg e np),zf (cg e nd)]) np ⟨av,aH⟩⟩
 match i,au,eV,mk with
 | 0,au,_,mk=>cases au;rwa[aM rfl]
 | 1,au,_,mk=>cases au;rwa[aB ∅,aM rfl]
 | 2,au,_,mk=>cases au;rwa[aB ∅,aB ∅]
 | (i+3),au,eV,mk=>omega
theorem Zv:cv ad bI 3 (ad.ai 32) q39 (V2):=by
 refine cE (T 207) Yi ?_;and_intros;obtain⟨v,b,c,t,e,rfl,hw,g,t0,bM,ar,ao⟩:=h;refine uq ⟨_,(aV (cN (cp nX (U 1 R) (bR dv (U 0 R) zc (λ_ _=>rfl)))
 (aX (bY (cJ (pz rfl) R (T 10) (af (bG hZ (bR dv (U 0 R) zc (λ_ _=>rfl)) zc) (af (U 2 R) ay)))))
 zx)
 (aV (b0 3 R (cx (oP T) R (T 49) (af (U 0 R) (af (U 1 R) ay))))
 (aV (fc PassesOwn.never (cY rfl) (yx (fN Xp) (T 1).1 (af (bG dW (U 1 R) zc) (af (bG dW (cJ (pz rfl) R (T 10) (af (cx (xv T) R (T 47) (af (U 0 R) ay)) (af (U 2 R) ay))) zc) ay)) (iU rfl rfl) (dI rfl)) (dn 4 R)
 (aX (cN (cp hC (cx (oP T) R (T 49) (af (U 0 R) (af (U 4 R) ay))) (U 3 R))
 (aX (bY (bG hZ (U 4 R) zc)))
 zx)))
 (
 aX (bY (U 2 R)))))),?_⟩
 rfl';left;obtain⟨p,q,rfl,aa,ag⟩:=id hw;obtain⟨ak,aD,eA,ct⟩:=g;have jy:0<c.length:=length_pos_iff.mpr ak
 right;ext;refine(dp (bT.of aa) rfl ⟨_,rfl,?_⟩);split
 ·rename_i z;refine(dp (bT.of aa) rfl ⟨_,rfl,ao _ (by split<;>omega) (by split<;>omega) λs s1 s2=>?_⟩);rw[tv.mpr (by split at s2<;>omega),tv.mpr z]
 ·rename_i z;refine⟨_,b,c,t,rfl,hw,ak,_,b,c,rfl,hw,_,rfl,⋯,⋯,by split<;>omega,by split<;>omega,m6 (λi J H'=>∃x,H'=H/\J=[⇑p,↥t,↥e,some (b7 b c t),x]/\∀j:Nat,j<i->b7 b c (t+1+(j:Int))=b7 b c t) ⟨none,rfl,rfl,λj aZ=>br aZ (Nat.not_lt_zero j)⟩ ?_ ?_⟩
  ·rintro i J H' N au bH b9;left;obtain⟨x,rfl,rfl,hn⟩:=bH;right;ext;refine⟨_,b,c,t+1+(i:Int),rfl,hw,ak,rV (k4 _ _ _) (k4 _ _ _),?_⟩;split
   ·refine ao _ ⋯ (by split at au<;>omega) λs s1 s2=>?_;by_cases w:s=t
    ·rw[w]
    ·have:=hn (s-t-1).toNat ⋯
     rwa [show t+1+(((s-t-1).toNat:Nat):Int)=s by omega]at this
   ·rename_i y;refine b9 _ _ ⟨_,rfl,rfl,λj aZ=>?_⟩;by_cases w:j=i
    ·rw[w];exact Classical.not_not.mp y
    ·exact hn j ⋯
  ·rintro J H' bH;left;obtain⟨x,rfl,rfl,hn⟩:=bH;right;ext;refine ao e bM (wa9 _) λs s1 s2=>?_;have near:∀s,t<=s->s<=e->s<=b+(c.length:Int)-1->b7 b c s=b7 b c t:=λs s1 s2 s3=>by
    by_cases y:s=t
    ·rw[y]
    ·have:=hn (s-t-1).toNat (by split<;>omega)
     rwa [show t+1+(((s-t-1).toNat:Nat):Int)=s by omega]at this
   by_cases y:s<=b+(c.length:Int)-1
   ·exact near s s1 s2 y
   ·rw[ru ak (show b+(c.length:Int)-1<=s by omega)];by_cases w:t<=b+(c.length:Int)-1
    ·rw[<- near (b+(c.length:Int)-1) w ⋯ (wa9 _),ru ak (wa9 _)]
    ·rw[ru ak ⋯]
theorem Zw:cv ad bI 3 (ad.ai 33) q48 (Ve):=by
 refine cE (T 208) Yj ?_;and_intros;obtain⟨v,b,c,ep,b1,aY,t,rfl,hw,r5,ak,hT,ao⟩:=h;refine uq ⟨_,(aV (b0 3 R (cx (oP T) R (T 49) (af (U 0 R) (af (U 2 R) ay))))
 (aV (b0 4 R (cx (oP T) R (T 49) (af (U 1 R) (af (U 2 R) ay))))
 (aV (cN (cp eH (U 3 R) (U 4 R))
 (aX (bY eh))
 zx)
 (aV (cN (eF.pt (jl (cp eH (cx (oP T) R (T 49) (af (U 0 R) (af (bG dW (U 2 R) zc) ay))) (U 4 R)) (jK (cp eH (cx (oP T) R (T 49) (af (U 1 R) (af (bG dW (U 2 R) zc) ay))) (U 3 R)))))
 (aX (bY eh))
 zx)
 (
 aX (bY hi)))))),?_⟩
 rfl';have km:=k4 b c t
 have fm:=k4 b1 aY t
 have o3:=k4 b c (t+1)
 have rr:=k4 b1 aY (t+1)
 unfold hI rm at ao;ext;refine⟨v,b,c,t,rfl,hw,ak,ep,b1,aY,t,rfl,r5,hT,rV km fm,?_⟩;by_cases h:b7 b c t=b7 b1 aY t
 ·rw[aM h]at ao ⊢;exact ao
 ·rw[aB h]at ao ⊢;refine⟨v,b,c,t+1,rfl,hw,ak,rV o3 fm,?_⟩;by_cases ag:b7 b c (t+1)=b7 b1 aY t
  ·rw[aM ag];refine⟨ep,b1,aY,t+1,rfl,r5,hT,rV rr km,?_⟩;by_cases aR:b7 b1 aY (t+1)=b7 b c t
   ·rw[aM ⟨ag,aR⟩]at ao;rwa[aM aR]
   ·rw[aB (λz=>aR z.2)]at ao;rwa[aB aR]
  ·rw[aB (λz=>ag z.1)]at ao;rwa[aB ag]
theorem Zx:cv ad (i7 ad.nq ad.nr) 3 (ad.ai 37) q04 (WE ad.ai):=by
 obtain⟨fd,F,B⟩:=(T 212);refine⟨fd,B,?_⟩;refine F.we It.sc.1 ?_ (λcdv A outer s H vs Q E HR h=>oqq λUq uq=>?_);walk_at "l"
 have R:fO _ _ _ _ _:=⟨It,HR⟩
 have ND:=R.nd
 walk_at "h"
 obtain⟨p,d,es,n,rfl,ae,nd,ao,he⟩:=h;obtain⟨aeK,Zy,Zz⟩:=Y5 T;refine uq ⟨_,(aV (hj (zI (U 0 R) (T 128) (T 61) Zz (HR.mono (by decide)) Zy .nil ⟨Fo.pass⟩ (af (U 1 R) ay) (hst:=fl rfl) (hpl:=fW rfl)))
 (
 aX (bY (gn (dx HU) (dN (U 0 R) (by rfl)) (U 1 R) (λ_ _=>rfl))))),?_⟩
 rfl';left;obtain⟨⟨av,aa⟩,ag⟩:=id ae;right;ext;exact(f6 aa (jx d ∅) ⟨p,d,es,n,rfl,ae,λ⟨e,he,fy⟩=>(dX aa (T 128) (T 129) (p0 d) ⟨d,rfl,e.v,by rw[<- pY nd he,<- fy];exact ed.k (k:=.inl e.k) ag,ao e he fy⟩),he⟩)
theorem IY:cv ad bI 3 (ad.ai 39) q41 (Vp ad.ai):=by
 refine cE (T 214) Yk ?_;and_intros;obtain⟨p,d,es,n,t,rfl,ae,ao⟩:=h;refine uq ⟨_,(aV (b0 3 R y4)
 (aV (fc PassesOwn.never (cY rfl) (il (e4 (U 0 R) (T 128) (T 60) (xw T) HR (af (U 1 R) ay))) (dn 4 R)
 (aV (b0 5 R (cx (oP T) R (T 49) (af (U 4 R) (af (bG dW (U 2 R) zc) ay))))
 (aX (cN (cp q0 (U 5 R) hi)
 (aX (q7 (dx HU) (U 3 R) (U 5 R) (cx (oP T) R (T 49) (af (U 4 R) (af (U 2 R) ay))) rfl))
 zx))))
 (
 aX (bY (U 3 R))))),?_⟩
 rfl';left;obtain⟨⟨⟨av,aa⟩,ag⟩,b8⟩:=id ae;have fX:∀xs,H d≠some (.tup xs):=λxs z=>by rw[ag]at z;cases z
 right;ext;intro q c3;have s1:=bb (o:=a3.bO []) c3
 have rl:q≠d:=(cg ag c3).symm
 refine(f6 (s1 _ _ aa) (jx d ∅) ⟨p,d,es,n,rfl,ae.same s1,λl H1 nl s2 aD=>⟨l,rfl,⟨_,aK.of aD⟩,qZ (xs:=(bk es n).map (·.v)) (λi J H'=>∃(x y:Option V)(kvs:List (Key×V)),v6 q H1 H'/\H' q∣.bO kvs/\k6 ((bk es n).take i) t kvs/\J=[⇑p,↥n,↥t,⇑q,x,y]) ⟨none,none,[],gr (aQ.refl _),s2 _ _ aH,Rn,rfl⟩ ?_ ?_ ?_⟩⟩)
 ·rintro i J H' _ ⟨x,y,kvs,sB,eS,ak,rfl⟩;exact aK.of (sB _ _ aD (cM aD (s2 _ _ aH) nofun))
 ·rintro i x J H' aq bH;left;obtain⟨x0,jW,kvs,sB,eS,ak,rfl⟩:=bH;rw[getElem?_map]at aq;obtain⟨e,he,rfl⟩:=map_eq_some_iff.mp aq;have hm:=(kn.mp (mem_of_getElem? he)).1
  have iJ:=ef.cH (sB.cH (λxs z=>by rw[s2 _ _ aH]at z;cases z)) ((b8.ok e hm).1.same (s1.trans s2))
  have cn:=(b8.ok e hm).2.1.1
  have tk:(bk es n).take (i+1)=(bk es n).take i++[e]:=by rw[take_add_one,he];rfl
  have qA:kvs.length<=50:=by
   have a1:=ak.len
   have a2:=(b8.drop n).len
   rw[length_take]at a1;unfold bk at a1;omega
  right;rw[tk];ext;refine⟨e.v,e.b,e.c,t+1,rfl,iJ,cn,?_⟩;rcases k4 e.b e.c (t+1) with z|⟨rt,z⟩
  ·rw[z,aB (by simp)];exact⟨sB,_,_,kvs,eS,Ro ak z,rfl,rfl⟩
  ·rw[z,aM (by simp)];exact⟨e.v,e.b,e.c,t,rfl,iJ,cn,_,kf.k (k:=.inl rt) eS ⋯,h3 sB,_,_,_,aH,Rp ak z (λj=>mP _ _ _ _) (by unfold putK;split<;>simp),rfl,rfl⟩
 ·rintro J H' bH;left;obtain⟨x,y,kvs,sB,eS,ak,rfl⟩:=bH;rw[length_map,take_length]at ak;right;ext;exact ao q kvs H' c3 (λb o dP=>sB _ _ ((s1.trans s2) b o dP) (cg dP c3)) eS ak
theorem ZA:cv ad bI 3 (ad.ai 63) q26 (VN ad.az):=by
 refine cE (T 240) Yl ?_;and_intros;obtain⟨a,ns,rfl,cb,ae,ao⟩:=h;refine uq ⟨_,(aV (b0 1 R (cx (nB T) R (T 76) (af (U 0 R) (af zc ay))))
 (aV (b0 2 R (bR zy (ww (af zc (af zc (af zc (af zc (af zc (af zc ay))))))) (bG fH (U 1 R) zc) (λ_ _=>rfl)))
 (aV (b0 3 R (bR zy (ww (af zc (af zc (af zc (af zc (af zc (af zc ay))))))) (bG fH (U 1 R) zc) (λ_ _=>rfl)))
 (aV (cN (cp eH (bG fH (bG ip (U 1 R) zc) zc) zc)
 (aV (b0 2 R zc)
 (aX (b0 3 R zc)))
 zx)
 (aV (b0 4 R (ww ay))
 (aV (fc PassesOwn.never (cY rfl) (kN (fN Ik) (T 1).1 (af (bG mL (U 2 R) (U 3 R)) ay) (dI rfl)) (dn 5 R)
 (aV (b0 6 R (bG fH (bG mL (bG ip (cx (nB T) R (T 76) (af (U 0 R) (af zc ay))) (bG dW (U 5 R) zc)) zc) zc))
 (aX (hj (hE wa1 wa2 wa3 i0 (U 4 R) (af (bR zy (ww (af eh (af eh (af eh (af eh (af eh (af eh (af eh (af eh (af eh (af eh ay))))))))))) (bG fH (U 6 R) zc) (λ_ _=>rfl)) ay))))))
 (aV (qW eh (Nu (U 4 R) (bG fH (bG ip (U 1 R) zc) (bG mL (U 2 R) (U 3 R))) set_list))
 (aX (bY (kg (gD.of (hG:=bU ua) (tn:=["_law_row"]) (cn:=["_law_signs","_law_wide"]) (dR:=[4,2]) rfl rfl ∅ ∅ ∅ ∅ rfl) (cY rfl)  (kN (fN Ik) (T 1).1 (af (U 3 R) ay) (dI rfl))
 (
 λ_ _ _ _ _=>(hX (i:=0) (show(["_law_row","_law_signs","_law_wide"]:List Str).Nodup by decide +kernel) rfl (Or.inl rfl))) (λ_ _ _ _ _=>od) (λ_ _ _ _ _=>(RO (K:=ad.az) rfl PySem.F.plainAttrs_str PySem.F.slot_str_join PySem.F.type_str_join (RN (K:=ad.az) rfl) eh (af (yP (RM (K:=ad.az) rfl) (cK 1) (vG (bG mL (cK 0) (cK 2))) (vG (bG dW (bG mL (cK 0) (cK 2)) (cK 2)))) ay))))))))))))),?_⟩
 rfl';have fx:=Ib
 have tab:∀d:Int,∃c:Nat,mX c/\dH [V.str (!"."),V.str (!"."),V.str (!"+"),V.str (!"."),V.str (!"~"),V.str (!"|"),V.str (!"#"),V.str (!"."),V.str (!"+"),V.str (!".")] (d%10)∣dw c:=λd=>by
  have ek:=WD d
  have ZC:V.str (!".")=dw 46:=(Hr.mpr rfl).symm
  have ZD:V.str (!"+")=dw 43:=(nx.mpr rfl).symm
  have ZE:V.str (!"~")=dw 126:=(nv.mpr rfl).symm
  have ZF:V.str (!"|")=dw 124:=(uh.mpr rfl).symm
  have ZG:V.str (!"#")=dw 35:=(rX.mpr rfl).symm
  rw[ZC,ZD,ZE,ZF,ZG];unfold mX;rcases ek with z|z|z|z|z|z|z|z|z|z<;>rw[z]
  ·exact⟨46,by decide,rfl⟩
  ·exact⟨46,by decide,rfl⟩
  ·exact⟨43,by decide,rfl⟩
  ·exact⟨46,by decide,rfl⟩
  ·exact⟨126,by decide,rfl⟩
  ·exact⟨124,by decide,rfl⟩
  ·exact⟨35,by decide,rfl⟩
  ·exact⟨46,by decide,rfl⟩
  ·exact⟨43,by decide,rfl⟩
  ·exact⟨46,by decide,rfl⟩
 refine zj (λJ H'=>∃c:Int,0<=c/\H'=H/\J=[⇑a,↥c,none,none,none,none,none]) (λaP aj=>?_) ?_
 ·ext;exact⟨a,ns,_,rfl,cb,ae,by decide,by decide,λr hF bX=>aj _ _ ⟨r,hF,rfl,rfl⟩⟩
 rintro cm a9 J H1 ⟨c,dj,rfl,rfl⟩;nofun;refine zj (λJ H'=>∃w:Nat,((c%6=0/\w=2)\/(c%6=1/\w=3)\/(c%6=2/\w=2)\/(c%6=3/\w=1)\/(c%6=4/\w=3)\/(c%6=5/\w=2))/\aQ H1 H'/\J=[⇑a,↥c,↥(w:Int),none,none,none,none]) (λaP aj=>?_) ?_
 ·ext;refine⟨⋯,λp np=>⟨by decide,_,aK.of aH,?_⟩⟩;rcases fx c with z|z|z|z|z|z<;>rw[z]
  ·exact⟨_,rfl,aj _ _ ⟨2,⋯,bb np,rfl⟩⟩
  ·exact⟨_,rfl,aj _ _ ⟨3,⋯,bb np,rfl⟩⟩
  ·exact⟨_,rfl,aj _ _ ⟨2,⋯,bb np,rfl⟩⟩
  ·exact⟨_,rfl,aj _ _ ⟨1,⋯,bb np,rfl⟩⟩
  ·exact⟨_,rfl,aj _ _ ⟨3,⋯,bb np,rfl⟩⟩
  ·exact⟨_,rfl,aj _ _ ⟨2,⋯,bb np,rfl⟩⟩
 rintro cm a9 J aE ⟨ey,aeL,s2,rfl⟩;nofun;refine zj (λJ H'=>∃w h:Nat,((w=2/\h=2)\/(w=3/\h=2)\/(w=2/\h=3)\/(w=1/\h=4)\/(w=3/\h=1))/\aQ H1 H'/\J=[⇑a,↥c,↥(w:Int),↥(h:Int),none,none,none]) (λaP aj=>?_) ?_
 ·ext;refine⟨⋯,λp np=>⟨by decide,_,aK.of aH,?_⟩⟩;have S:=s2.trans (bb (o:=a3.lst [V.int 2,V.int 2,V.int 3,V.int 4,V.int 1,V.int 2]) np)
  rcases fx c with z|z|z|z|z|z<;>rw[z]
  ·exact⟨_,rfl,aj _ _ ⟨ey,2,⋯,S,rfl⟩⟩
  ·exact⟨_,rfl,aj _ _ ⟨ey,2,⋯,S,rfl⟩⟩
  ·exact⟨_,rfl,aj _ _ ⟨ey,3,⋯,S,rfl⟩⟩
  ·exact⟨_,rfl,aj _ _ ⟨ey,4,⋯,S,rfl⟩⟩
  ·exact⟨_,rfl,aj _ _ ⟨ey,1,⋯,S,rfl⟩⟩
  ·exact⟨_,rfl,aj _ _ ⟨ey,2,⋯,S,rfl⟩⟩
 rintro cm a9 J bP ⟨lS,ag,ZH,s3,rfl⟩;nofun;refine zj (λJ H'=>∃w h:Nat,1<=w/\w<=3/\1<=h/\h<=4/\w*h<=9/\aQ H1 H'/\J=[⇑a,↥c,↥(w:Int),↥(h:Int),none,none,none]) (λaP aj=>?_) ?_
 ·ext;refine⟨⟨by decide,by decide⟩,by decide,?_⟩;split
  ·exact aj _ _ ⟨3,3,by decide,by decide,by decide,by decide,by decide,s3,rfl⟩
  ·rcases ZH with⟨rfl,rfl⟩|⟨rfl,rfl⟩|⟨rfl,rfl⟩|⟨rfl,rfl⟩|⟨rfl,rfl⟩<;>exact aj _ _ ⟨_,_,by decide,by decide,by decide,by decide,by decide,s3,rfl⟩
 rintro cm a9 J ck ⟨w,h,cZ,qX,h0,b4,aeM,s4,rfl⟩;nofun;have aeN:1<=w*h:=mul_le_mul cZ h0
 have em:((w:Int)*(h:Int))=((w*h:Nat):Int):=by simp
 refine zj (λJ H'=>∃q,H1 q=none/\aQ H1 H'/\H' q∣.lst []/\J=[⇑a,↥c,↥(w:Int),↥(h:Int),⇑q,none,none]) (λaP aj=>?_) ?_
 ·ext;exact⟨⋯,λq c3=>aj _ _ ⟨q,s4.free c3,s4.trans (bb c3),aH,rfl⟩⟩
 rintro cm a9 J dg ⟨q,c3,s5,ZI,rfl⟩;nofun;refine zj (λJ H'=>∃(sg:List Nat)(x y:Option V),sg.length=w*h/\(∀c∈sg,mX c)/\aQ H1 H'/\H' q∣.lst (sg.map dw)/\J=[⇑a,↥c,↥(w:Int),↥(h:Int),⇑q,x,y]) (λaP aj=>?_) ?_
 ·ext;refine⟨.inl ⟨⋯,⋯⟩,by rw[em];omega,by rw[em];omega,m6 (λi J H'=>∃(sg:List Nat)(x y:Option V),sg.length=i/\(∀c∈sg,mX c)/\aQ H1 H'/\H' q∣.lst (sg.map dw)/\J=[⇑a,↥c,↥(w:Int),↥(h:Int),⇑q,x,y]) ⟨[],none,none,rfl,by simp,s5,ZI,rfl⟩ ?_ ?_⟩
  ·rintro i J H' N au bH b9;left;obtain⟨sg,x,y,oR,ok,dm,qB,rfl⟩:=bH;have jR:i<w*h:=by rw[em]at au;omega
   right;ext;refine⟨a,ns,_,rfl,dm.seq cb,ae,by decide,by decide,λr hF bX=>⟨r,rfl,⟨⋯,⋯⟩,.inr ⟨by decide,by decide⟩,by decide,.inl ⟨rfl,_,aK.of qB⟩,⋯,λp np=>⟨by decide,_,aK.of aH,?_⟩⟩⟩;left;obtain⟨k,ZJ,fy⟩:=tab (r/(0+(i:Int)+1)*16807%998244353);have aeO:q≠p:=cg qB np
   right;refine⟨_,fy,_,(bb np) _ _ qB,by rw[length_map];omega,b9 _ _ ⟨sg++[k],_,_,by simp[oR],?_,kW (dm.trans (bb np)) c3,by rw[aH,map_append];rfl,rfl⟩⟩;intro c ak;rcases mem_append.mp ak with y|y
   ·exact ok c y
   ·rwa[mem_singleton.mp y]
  ·rintro J H' ⟨sg,x,y,oR,ok,dm,qB,rfl⟩;exact aj _ _ ⟨sg,x,y,by rw[oR,em,toNat_natCast],ok,dm,qB,rfl⟩
 rintro cm a9 J gM ⟨r6,x,y,oR,ZK,dm,qB,rfl⟩;nofun;refine zj (λJ H'=>∃(sg:List Nat),sg.length=w*h/\(∀c∈sg,mX c)/\46∈sg/\aQ H1 H'/\H' q∣.lst (sg.map dw)/\J=[⇑a,↥c,↥(w:Int),↥(h:Int),⇑q,x,y]) (λaP aj=>?_) ?_
 ·ext;have ar:=emod_nonneg (c/54) (show((w*h:Nat):Int)≠0 by omega)
  have aw:=emod_lt_of_pos (c/54) (show(0:Int)<((w*h:Nat):Int) by omega)
  obtain⟨j,aZ⟩:=eq_ofNat_of_zero_le ar;rw[aZ]at aw;refine⟨⟨by decide,by decide⟩,.inl ⟨⋯,⋯⟩,by rw[em];omega,_,qB,j,?_,aj _ _ ⟨r6.set j 46,by simp[oR],λc ak=>?_,?_,kW dm c3,?_,rfl⟩⟩
  ·rw[em,aZ,length_map,oR];unfold js;rw[aM ⋯,aM ⋯];simp
  ·rcases List.mem_or_eq_of_mem_set ak with z|z
   ·exact ZK c z
   ·exact .inl z
  ·exact List.mem_set ⋯ _
  ·rw[aH,List.map_set,Hr.mpr rfl]
 rintro cm a9 J gi ⟨sg,oR,ok,r7,dM,ZL,rfl⟩;nofun;have g:Fl.Good w h sg:=⟨cZ,⋯,h0,⋯,oR,ok,46,r7,by decide⟩
 ext;refine⟨⋯,⋯,?_⟩;rw[toNat_natCast];refine Hw (λi aF H'=>aQ gi H'/\aF=((Fl.linesOf w h sg).take i).map V.str) ⟨aQ.refl _,rfl⟩ ?_ ?_
 ·rintro i aF H' au ⟨fk,rfl⟩;ext;have fL:jr (sg.map dw) (some ((0+(i:Int))*(w:Int))) (some ((0+(i:Int))*(w:Int)+(w:Int)))=(((sg.drop (w*i)).take w).map λc=>(⟨#[c]⟩:Str)).map V.str:=by
   have iX:((0+(i:Int))*(w:Int))=((w*i:Nat):Int):=by rw[Int.zero_add,Int.mul_comm];simp
   have li:=FA (w:=w) au
   rw[iX,show((w*i:Nat):Int)+(w:Int)=((w*i+w:Nat):Int) by simp];unfold jr;rw[HT.Ed,HT.Ed,length_map,Nat.min_eq_left ⋯,Nat.min_eq_left ⋯,Nat.add_sub_cancel_left,map_map,<- List.map_drop,<- List.map_take];rfl
  have iB:Txt.join (!"") (((sg.drop (w*i)).take w).map λc=>(⟨#[c]⟩:Str))=gQ w sg i:=by
   refine v7 ?_;rw[FD,map_map];unfold gQ;rw[pV];generalize (sg.drop (w*i)).take w=l
   induction l with
   | nil=>rfl
   | cons x r bE=>rw[map_cons,List.flatten_cons,bE];rfl
  have es:((((sg.drop (w*i)).take w).map λc=>(⟨#[c]⟩:Str)).map (·.length)).sum+(((sg.drop (w*i)).take w).map λc=>(⟨#[c]⟩:Str)).length*(!"").length<=16777216:=by
   have cy:(!"").length=0:=∅
   rw[cy,Nat.mul_zero,Nat.add_zero,map_map];have:∀l:List Nat,(l.map ((λx:Str=>x.length) ∘ λc=>(⟨#[c]⟩:Str))).sum=l.length:=by
    intro l;induction l with
    | nil=>rfl
    | cons x r bE=>rw[map_cons,sum_cons,bE,length_cons];show 1+r.length=_;omega
   rw[this,length_take];omega
  refine⟨rfl,.inr ⟨⋯,⋯⟩,.inr ⟨⋯,⋯⟩,_,aK.of (fk _ _ ZL),λp np=>⟨((sg.drop (w*i)).take w).map λc=>(⟨#[c]⟩:Str),by rw[fL];exact aK.of aH,es,by rw[length_map,length_take,mY];omega,fk.trans (bb np),?_⟩⟩;rw[iB,take_add_one,l8 au,map_append];rfl
 ·rintro aF H' ⟨fk,rfl⟩;have e:(Fl.linesOf w h sg).take h=Fl.linesOf w h sg:=List.take_of_length_le (by rw[mY];exact wa8 _)
  rw[e];refine⟨by rw[length_map,mY];omega,λD e1=>ao D _ w h sg (dM.free (fk.free e1)) (dM.trans (fk.trans (bb e1))) aH g r7 ⋯⟩
theorem IZ:cv ad bI 3 (ad.ai 74) q01 (VU ad.az):=by
 refine cE (T 251) Ym ?_;and_intros;obtain⟨x,i,l,e,aL,bh,n,num,t,w,h,sg,st,es,b2,rfl,au,eV,cw,g,aj,cb,I0,c4,dY,lo,ao⟩:=h;refine uq ⟨_,(aV (b0 8 R y5)
 (aV (zW (fc PassesOwn.never (cY rfl) (wg (U 7 R)) (dn 9 R)
 (aV (qW (U 9 R) (kK (n:=2) (cY rfl) (fG (dn 10 R) (fG (dn 11 R) kJ))))
 (aX (fc PassesOwn.never (cY rfl) (il (bG yW (ww (af (U 11 R) ay)) (cx (IP T) R (T 79) (af (U 0 R) (af (U 11 R) ay))))) (dn 12 R)
 (aV (cN (jn (fS (cx (Zf T) R (T 84) (af (U 3 R) (af (U 4 R) (af (U 11 R) (af (U 12 R) (af (U 6 R) ay))))))))
 (aX DG)
 zx)
 (aV (cN (cp eH (U 12 R) (U 11 R))
 (aX (b0 13 R (cx (Zd T) R (T 82) (af (U 0 R) (af (U 1 R) (af (U 2 R) (af (U 11 R) (af (gn (dx HU) (U 7 R) (U 9 R) (λ_ _=>rfl)) ay))))))))
 (aV (b0 14 R (cx (Zc T) R (T 81) (af (U 0 R) (af (U 1 R) (af (U 11 R) (af (U 12 R) ay))))))
 (aX (b0 13 R (sD (cp DV (U 14 R) hi) (hY h1 zc) (bG hZ (gn (dx HU) (U 7 R) (U 9 R) (λ_ _=>rfl)) (U 14 R)))))))
 (aV (b0 15 R (fj (af (cx (xx T) R (T 87) (af (U 5 R) (af (U 10 R) (af (U 12 R) ay)))) (af (U 12 R) ay))))
 (aX (cN (cp vx (U 13 R) zc)
 (aX (q7 (dx HU) (U 8 R) (U 15 R) (cJ (q2 rfl) R (T 11) (af (U 13 R) (af (EG (dx HU) (U 8 R) (U 15 R) zc ⟨rfl,rfl,rfl,rfl⟩) ay))) rfl))
 zx))))))))))
 (
 aX (bY (U 8 R))))),?_⟩
 rfl';obtain⟨uC,b8⟩:=id aj;have ic:=jv g
 have cZ:=g.cZ
 refine zj (λJ H'=>∃r,H r=none/\aQ H H'/\H' r∣.bc []/\J=[⇑l,some (V.str x),↥n,⇑e,↥num,⇑aL,↥t,⇑bh,⇑r,none,none,none,none,none,none,none]) (λaP aj=>?_) ?_
 ·ext;exactλr cI=>aj _ _ ⟨r,cI,bb cI,aH,rfl⟩
 rintro cm a9 J H1 ⟨r,cI,s1,ZM,rfl⟩;nofun;have uD:bh≠r:=cg dY cI
 have I1:=s1 _ _ dY
 have rws:∀(m:Nat)(c q:Int),m<=st.length->en sg c->0<=q->Rows st sg (zu (cz (bk es num) t) i w sg st n m c q):=λm c q hm ak d9 z hz=>by
  obtain⟨o,aA,ar⟩:=mem_filterMap.mp hz;unfold hN at ar;split at ar
  ·rename_i bD;cases ar;refine⟨bD.2,_,o,rfl,qs hm,?_⟩;rcases mem_append.mp aA with y|y
   ·rwa[mem_singleton.mp y]
   ·exact qn g y
  ·cases ar
 refine zj (λJ H'=>∃eX d2 d3 ea fB gx gK,aQ H H'/\H' r∣.bc (spread (zu (cz (bk es num) t) i w sg st n) b2)/\J=[⇑l,some (V.str x),↥n,⇑e,↥num,⇑aL,↥t,⇑bh,⇑r,eX,d2,d3,ea,fB,gx,gK]) (λaP aj=>?_) ?_
 ·ext;refine⟨bh,b2,I1,b2,I1,λf3=>Ac (λj J H'=>H' bh∣.cc f3 (.bc b2)/\∃eX d2 d3 ea fB gx gK,v6 bh H H'/\H' r∣.bc (spread (zu (cz (bk es num) t) i w sg st n) (b2.take j))/\J=[⇑l,some (V.str x),↥n,⇑e,↥num,⇑aL,↥t,⇑bh,⇑r,eX,d2,d3,ea,fB,gx,gK]) ⟨aH,none,none,none,none,none,none,none,h3 (gr s1),by rwa[zf uD.symm],rfl⟩ (λj J H' _ h=>h.1) ?_ ?_⟩
  ·rintro j k v b J H' ZN g7 ae bH Ce;left;obtain⟨hf,eX,d2,d3,ea,fB,gx,gK,sB,j4,rfl⟩:=bH;have j5:=mem_of_getElem? g7
   obtain⟨m,c,q,qC,hm,ak,d9⟩:=lo.ok _ j5;cases qC;have ne1:∀{a:Addr}{v:a3},H a∣v->(∀kvs,v≠.bc kvs)->a≠bh:=λaa ag=>cM aa dY (ag _)
   have ZO:hb H' l w h sg:=sB _ _ cw (ne1 cw nofun)
   have tab:=ny (f:=zu (cz (bk es num) t) i w sg st n) (lo.take j) rws
   have aeP:=rT (w:=w) (sg:=sg) (c:=c)
   right;ext;refine⟨_,bT.of ae,rfl,_,_,rfl,_,_,rfl,rfl,⋯,λa8 jF=>⟨l,w,h,sg,c,rfl,(bb jF) _ _ ZO,g,ak,λbK aE Cf s2 Cg=>?_⟩⟩;have tr:=s2 _ _ (aH (H:=H') (a:=a8) (o:=.lst [V.int c]))
   refine⟨bK,rfl,_,tr,_,Cg,by rw[length_map];simp only[length_cons,length_nil];omega,λdZ qD=>?_⟩;have s3:aQ H' (upd aE dZ (.lst ([V.int c]++(dc w sg c).map V.int))):=((bb jF).trans s2).trans (bb qD)
   have r8:[V.int c]++(dc w sg c).map V.int=([c]++dc w sg c).map V.int:=rfl
   rw[r8]at s3 ⊢;have ZP:dZ≠r:=λz=>by rw[z,((bb jF).trans s2) _ _ j4]at qD;cases qD
   have ZQ:v6 bh H (upd aE dZ (.lst (([c]++dc w sg c).map V.int))):=λb1 bQ aa ag=>s3 _ _ (sB _ _ aa ag)
   refine⟨⟨_,aK.of aH⟩,tM (K:=ad.az) (a:=dZ) (xs:=([c]++dc w sg c).map V.int) (λjf J cO=>cO dZ∣.lst (([c]++dc w sg c).map V.int)/\∃ea fB gx gK,v6 bh H cO/\cO bh∣.cc f3 (.bc b2)/\cO b∣.tup ((aW m c).map bq)/\cO r∣.bc (((([c]++dc w sg c).take jf).filterMap (hN (cz (bk es num) t) i w sg st n m c q)).foldl fe (spread (zu (cz (bk es num) t) i w sg st n) (b2.take j)))/\J=[⇑l,some (V.str x),↥n,⇑e,↥num,⇑aL,↥t,⇑bh,⇑r,⇑b,↥(m:Int),↥c,ea,fB,gx,gK]) ⟨aH,ea,fB,gx,gK,ZQ,s3 _ _ hf,s3 _ _ ae,s3 _ _ j4,rfl⟩ (λjf J cO _ h=>aK.of h.1) ?_ ?_⟩
   ·rintro jf v J cO N iW bH b9;left;obtain⟨r9,ea,fB,gx,gK,eM,sa,sb,jg,rfl⟩:=bH;rw[getElem?_map]at iW;obtain⟨o,aA,rfl⟩:=map_eq_some_iff.mp iW;have ZR:=mem_of_getElem? aA
    have ZS:en sg o:=by
     rcases mem_append.mp ZR with y|y
     ·rwa[mem_singleton.mp y]
     ·exact qn g y
    have tk:([c]++dc w sg c).take (jf+1)=([c]++dc w sg c).take jf++[o]:=by rw[take_add_one,aA];rfl
    have Ci:∀{ck:ah},aQ cO ck->v6 bh H ck:=λs b1 bQ aa ag=>s _ _ (eM _ _ aa ag)
    have skip:hN (cz (bk es num) t) i w sg st n m c q o=none->((([c]++dc w sg c).take (jf+1)).filterMap (hN (cz (bk es num) t) i w sg st n m c q)).foldl fe (spread (zu (cz (bk es num) t) i w sg st n) (b2.take j))=((([c]++dc w sg c).take jf).filterMap (hN (cz (bk es num) t) i w sg st n m c q)).foldl fe (spread (zu (cz (bk es num) t) i w sg st n) (b2.take j)):=λz=>by rw[tk,List.filterMap_append,BP z,append_nil]
    have ZT:ky cO e es:=⟨eM _ _ uC (ne1 uC nofun),b8.cH (eM.cH (λxs z=>by rw[dY]at z;cases z))⟩
    right;refine zj (λJ ck=>aQ cO ck/\cz (bk es num) t c o=true/\J=[⇑l,some (V.str x),↥n,⇑e,↥num,⇑aL,↥t,⇑bh,⇑r,⇑b,↥(m:Int),↥c,↥o,fB,gx,gK]) (λaP aj=>?_) ?_
    ·ext;refine⟨e,es,num,c,o,t,rfl,ZT,λck s4=>⟨_,rfl,?_⟩⟩;cases sO:cz (bk es num) t c o with
     | false=>
      rw[aM rfl];exact b9 _ _ ⟨s4 _ _ r9,_,_,_,_,Ci s4,s4 _ _ sa,s4 _ _ sb,(s4 _ _ jg).trans (congrArg (λz=>some (a3.bc z)) (skip (aB (λz=>by rw[sO]at z;exact br z.1 (by decide)))).symm),rfl⟩
     | true=>
      rw[aB (by decide)];exact aj _ _ ⟨s4,sO,rfl⟩
    rintro cm a9 J ck ⟨s4,ZU,rfl⟩;nofun;have kA:∀{dg:ah},aQ cO dg->ed dg bh (.ref b) (some (.int q)):=λs5=>.inr ⟨b2,aW m c,b,.inr ⟨f3,s5 _ _ sa⟩,rfl,s5 _ _ sb,(i9 lo.nd j5).symm⟩
    have I2:∀{dg:ah},aQ cO dg->hb dg l w h sg:=λs5=>s5 _ _ (eM _ _ cw (ne1 cw nofun))
    refine zj (λJ dg=>∃gx,aQ cO dg/\J=[⇑l,some (V.str x),↥n,⇑e,↥num,⇑aL,↥t,⇑bh,⇑r,⇑b,↥(m:Int),↥c,↥o,↥(jC i w sg n c o q),gx,gK]) (λaP aj=>?_) ?_
    ·ext;unfold jC at aj;by_cases z:o=c
     ·rw[aM (by rw[z])];refine⟨_,kA s4,x,i,l,w,h,sg,n,c,q,rfl,au,eV,I2 s4,g,ak,λdg s5=>?_⟩;rw[aM z]at aj;exact aj _ _ ⟨_,s4.trans s5,rfl⟩
     ·rw[aB (λy=>z y)];rw[aB z]at aj;refine⟨x,i,l,w,h,sg,c,o,rfl,au,I2 s4,g,ak,ZS,λdg s5=>?_⟩;have Cj:=s4.trans s5
      cases hz:lq i w sg c o with
      | none=>
       rw[hz]at aj;show if V.bx=V.bx then _ else _
       rw[aM rfl];exact aj _ _ ⟨_,Cj,rfl⟩
      | some k=>
       rw[hz]at aj;show if V.int k=V.bx then _ else _
       rw[aB (by simp)];exact⟨_,kA Cj,q,rfl,k,rfl,aj _ _ ⟨_,Cj,rfl⟩⟩
    rintro cm a9 J dg ⟨ZV,s5,rfl⟩;nofun;have ZW:aK ad.az dg aL (st.map V.int):=s5.seq (xn cb dY xm eM)
    refine zj (λJ gM=>∃tt,aQ cO gM/\gM tt∣.tup ((aW (met st m o) o).map bq)/\J=[⇑l,some (V.str x),↥n,⇑e,↥num,⇑aL,↥t,⇑bh,⇑r,⇑b,↥(m:Int),↥c,↥o,↥(jC i w sg n c o q),ZV,⇑tt]) (λaP aj=>?_) ?_
    ·ext;exact⟨aL,st,m,o,rfl,ZW,hm,I0,λgM dm=>⟨⋯,λtt fX=>aj _ _ ⟨tt,(s5.trans dm).trans (bb fX),aH,rfl⟩⟩⟩
    rintro cm a9 J gM ⟨tt,dm,I3,rfl⟩;nofun;have xE:=dm _ _ jg
    have oS:=tab.fold (ps:=(([c]++dc w sg c).take jf).filterMap (hN (cz (bk es num) t) i w sg st n m c q)) λz hz=>rws m c q hm ak d9 z (by
     obtain⟨bQ,eg,a4⟩:=mem_filterMap.mp hz;exact mem_filterMap.mpr ⟨bQ,List.mem_of_mem_take eg,a4⟩)
    have cX:=tH oS.gb.nd oS.xo I0 ic.2
    ext;split
    ·rename_i mh;have hR:((([c]++dc w sg c).take (jf+1)).filterMap (hN (cz (bk es num) t) i w sg st n m c q)).foldl fe (spread (zu (cz (bk es num) t) i w sg st n) (b2.take j))=fe (((([c]++dc w sg c).take jf).filterMap (hN (cz (bk es num) t) i w sg st n m c q)).foldl fe (spread (zu (cz (bk es num) t) i w sg st n) (b2.take j))) (aW (met st m o) o,jC i w sg n c o q):=by
      rw[tk,List.filterMap_append,HG (f:=hN (cz (bk es num) t) i w sg st n m c q) (aM ⟨ZU,mh⟩),List.foldl_append];rfl
     refine⟨.inr ⟨_,.inl xE⟩,_,ed.t xE I3,_,HJ oS.gb,_,kf.t xE I3 ⋯,b9 _ _ ⟨by rw[zf ZP];exact dm _ _ r9,_,_,_,_,λb1 bQ aa ag=>by rw[zf (cg aa cI)];exact Ci dm _ _ aa ag,by rw[zf uD];exact dm _ _ sa,by rw[zf (cM (dm _ _ sb) xE nofun)];exact dm _ _ sb,?_,rfl⟩⟩;rw[aH];refine(congrArg (λz=>some (a3.bc z)) ?_);exact(Ry oS.gb mh).trans hR.symm
    ·rename_i mh;exact b9 _ _ ⟨dm _ _ r9,_,_,_,_,Ci dm,dm _ _ sa,dm _ _ sb,(dm _ _ jg).trans (congrArg (λz=>some (a3.bc z)) (skip (aB (λz=>mh z.2))).symm),rfl⟩
   ·rintro J cO ⟨r9,ea,fB,gx,gK,eM,sa,sb,jg,rfl⟩;rw[length_map,take_length]at jg;exact Ce _ _ ⟨sa,_,_,_,_,_,_,_,eM,jg.trans (congrArg (λz=>some (a3.bc z)) (HI g7).symm),rfl⟩
  ·rintro J H' bH;left;obtain⟨hf,eX,d2,d3,ea,fB,gx,gK,sB,j4,rfl⟩:=bH;rw[take_length]at j4;right;refine⟨⟨f3,hf⟩,aj _ _ ⟨eX,d2,d3,ea,fB,gx,gK,λb1 bQ dP=>?_,by rwa[zf uD.symm],rfl⟩⟩;by_cases z:b1=bh
   ·rw[z]at dP ⊢;rw[dY]at dP;cases dP;exact aH
   ·rw[zf z];exact sB _ _ dP z
 rintro cm a9 J aE ⟨eX,d2,d3,ea,fB,gx,gK,s2,qE,rfl⟩;nofun;ext;exact ao r aE s2 cI qE
theorem ZX:cv ad bI 3 (ad.ai 78) q07 (Wb ad.az):=by
 refine cE (T 255) Yn ?_;and_intros;obtain⟨e,cU,aL,bh,es,x,n,num,st,sg,b2,t,least,rfl,aj,hm,cb,sn,s1,dY,lo,ao⟩:=h;refine uq ⟨_,(aV (b0 6 R (cx (Zh T) R (T 90) (af (U 0 R) (af (bR dv (U 1 R) zc (λ_ _=>rfl)) (af (bR zy (U 2 R) (hY h1 zc) (λ_ _=>rfl)) (af (cx (YY T) R (T 91) (af (U 0 R) (af (bR dv (U 1 R) zc (λ_ _=>rfl)) ay))) ay))))))
 (aV (b0 7 R (fj (af (cJ zr R (T 0) (af (U 2 R) ay)) (af (bR zy (U 2 R) (hY h1 zc) (λ_ _=>rfl)) ay))))
 (
 aX (bY (lT (DD (Ew (dx HU) (U 7 R) (U 3 R)) (by with_unfolding_all rfl)) (lT (hq vx (gn (dx HU) (U 3 R) (U 7 R) (λ_ _=>rfl)) (U 5 R)) (lT (hq q0 (U 6 R) hi) (kI (hq pw (U 6 R) (U 4 R)))))))))),?_⟩
 rfl';have b8:=aj.2
 have ty:∀z∈bk es num,0<=e6 z/\e6 z<=299:=λz hz=>by
  obtain⟨_,⟨cL,cD,qi,aeQ⟩,_⟩:=b8.ok z (kn.mp hz).1;have:=length_pos_iff.mpr cL
  unfold e6;omega
 have ei:=uj sn
 ext;refine(dp (bT.of hm) rfl ⟨_,cb,_,ei,dp (bT.of hm) rfl ⟨e,es,num,rfl,aj,λH1 m s1 fP=>?_⟩⟩);have iP:0<=m/\m<=299/\∀z∈bk es num,e6 z<=m:=by
  rcases fP with⟨h0,rfl⟩|⟨h0,aa⟩
  ·refine⟨wa9 _,by decide,λz hz=>?_⟩;have:=mem_map.mpr ⟨z,hz,(rfl:e6 z=e6 z)⟩
   rw[h0]at this;cases this
  ·left;obtain⟨z,hz,rfl⟩:=mem_map.mp h0;right;exact⟨(ty z hz).1,(ty z hz).2,λy bg=>aa _ (mem_map.mpr ⟨y,bg,rfl⟩)⟩
 refine⟨e,es,num,cG st,m,rfl,⟨s1 _ _ aj.1,b8.cH (mZ s1)⟩,iP.1,⋯,iP.2.2,λaE v s2 gw=>?_⟩;have s3:=s1.trans s2
 refine⟨_,.inl (s3.seq cb),_,s3.seq cb,_,ei,by rw[sizeLine_eq];decide,λp np=>?_⟩;have s4:=s3.trans (bb (o:=a3.tup ((aW st.length (cG st)).map bq)) np)
 have fy:(a3.tup [V.int ((st.map V.int).length:Int),V.int (cG st)])=a3.tup ((aW st.length (cG st)).map bq):=by rw[length_map];rfl
 rw[fy];refine⟨_,ed.t (s4 _ _ dY) aH,?_⟩;have no:∀{b:Bool},b=false->(gu (bk es num) st b2 t least->False)->Q (.bl false) (upd aE p (a3.tup ((aW st.length (cG st)).map bq))):=λ_ h=>ao _ _ s4 ⟨λy=>(by cases y),λy=>(h y).elim⟩
 cases ev:aS b2 (aW st.length (cG st)) with
 | none=>
  rw[aB (by simp)];exact no rfl λ⟨q,w,aa,_⟩=>by rw[ev]at aa;cases aa
 | some u=>
  rw[aM (by simp)];left;obtain⟨y,bg,ar⟩:=mem_map.mp (pI ev);obtain⟨rP,c,q,ex,_⟩:=lo.ok _ bg;obtain rfl:u=.int q:=by
   have:=i9 lo.nd bg
   rw[ar,ev,ex]at this;exact wa5 this
  right;refine⟨_,by rw[<- ev];exact ed.t (s4 _ _ dY) aH,q,rfl,?_⟩;have one:∀{r:Int}{w:V},aS b2 (aW st.length (cG st))∣.int r->r=q:=λh=>by rw[ev]at h;cases h;rfl
  split
  ·rename_i md;split
   ·rename_i nn;rcases gw with⟨rfl,_⟩|⟨k,rfl,f1,f2⟩
    ·exact br rfl nn
    ·refine⟨k,rfl,ao _ _ s4 ?_⟩;rw[decide_eq_true_eq];refine⟨λy=>⟨q,.int k,ev,md,.inr ⟨k,rfl,f1,f2⟩,k,rfl,y⟩,λ⟨r,w,aa,ag,aR,eG,a4,y⟩=>?_⟩;have:=aR.uniq (.inr ⟨k,rfl,f1,f2⟩:ko (bk es num) (cG st) (.int k))
     rw[this]at a4;cases a4;exact y
   ·rename_i nn;obtain rfl:=Classical.not_not.mp nn;exact no rfl λ⟨r,w,aa,ag,aR,eG,a4,y⟩=>by
     have:=aR.uniq gw
     rw[this]at a4;cases a4
  ·rename_i md;exact no rfl λ⟨r,w,aa,ag,_⟩=>md (by rwa[<- one (w:=w) aa])
theorem ZY:cv ad bI 3 (ad.ai 79) q38 (WG ad.az):=by
 refine cE (T 256) Yo ?_;and_intros;obtain⟨aL,cl,st,cs,rfl,cb,s1,i3,cn,cL,ao⟩:=h;refine uq ⟨_,(aV (b0 2 R (cx (xx T) R (T 87) (af (U 0 R) (af zc (af (bR zy (U 1 R) zc (λ_ _=>rfl)) ay)))))
 (aV (b0 3 R (ww (af (fj (af (U 2 R) (af (bR zy (U 1 R) zc (λ_ _=>rfl)) ay))) ay)))
 (aV (fc PassesOwn.never (cY rfl) (il (yP yS (U 1 R) (vG zc) Ee)) (dn 4 R)
 (aV (b0 2 R (cx (xx T) R (T 87) (af (U 0 R) (af (U 2 R) (af (U 4 R) ay)))))
 (aX (hj (hE wa1 wa2 wa3 i0 (U 3 R) (af (fj (af (U 2 R) (af (U 4 R) ay))) ay))))))
 (
 aX (bY (U 3 R)))))),?_⟩
 rfl';left;obtain⟨dj,bW,rfl⟩:∃dj bW,cs=dj::bW:=by
  cases cs with
  | nil=>exact br rfl cn
  | cons a r=>exact⟨a,r,rfl⟩
 have rC:dH ((dj::bW).map V.int) 0=↥dj:=by
  unfold dH js;rw[aM (by decide),aM (by rw[length_map,length_cons];omega)];rfl
 right;ext;refine⟨_,i3,V.int dj,rC,aL,st,0,dj,rfl,cb,zero_le _,s1,λH1 jh=>⟨_,jh.seq i3,V.int dj,rC,by rw[sizeLine_eq];decide,λp np=>⟨by rw[sizeLine_eq];decide,λf b5=>?_⟩⟩⟩;have s2:=jh.trans (bb (o:=a3.tup [V.int (met st 0 dj:Nat),V.int dj]) np)
 have s3:=s2.trans (bb (o:=a3.lst [V.ref p]) b5)
 refine⟨_,s3.seq i3,λq c3=>⟨⟨_,aK.of aH⟩,?_⟩⟩;have s4:=s3.trans (bb (o:=a3.lst (jr ((dj::bW).map V.int) (some 1) none)) c3)
 have hR:upd (upd (upd H1 p (a3.tup [V.int (met st 0 dj:Nat),V.int dj])) f (a3.lst [V.ref p])) q (a3.lst (jr ((dj::bW).map V.int) (some 1) none)) f∣a3.lst [V.ref p]:=by
  rw[zf (cg aH c3),aH]
 have fL:jr ((dj::bW).map V.int) (some 1) none=bW.map V.int:=by
  unfold jr;rw[map_cons,show HT.gA (V.int dj::bW.map V.int).length 0 (some 1)=1 by unfold HT.gA;simp];exact List.take_of_length_le (by unfold HT.gA;simp)
 have Ck:H f=none:=s2.free b5
 have ZZ:q≠f:=λz=>by rw[z,aH]at c3;cases c3
 generalize I4:upd (upd (upd H1 p (a3.tup [V.int (met st 0 dj:Nat),V.int dj])) f (a3.lst [V.ref p])) q (a3.lst (jr ((dj::bW).map V.int) (some 1) none))=ck at s4 hR ⊢
 have r9:ck q∣.lst (bW.map V.int):=by rw[<- I4,aH,fL]
 have Cb:ck p∣.tup [V.int (met st 0 dj:Nat),V.int dj]:=by rw[<- I4];exact(bb c3) _ _ ((bb b5) _ _ aH)
 refine tM (K:=ad.az) (a:=q) (xs:=bW.map V.int) (λj J H'=>v6 f ck H'/\∃(m:Nat)(as:List Addr)(pre:List (Nat×Int))(x:Option V),H' f∣.lst (as.map V.ref)/\Paired (lG H') as pre/\pre.length=j+1/\oN st 0 (dj::bW)=pre++oN st m (bW.drop j)/\m<=st.length/\J=[⇑aL,⇑cl,↥(m:Nat),⇑f,x]) ⟨gr (aQ.refl _),met st 0 dj,[p],[(met st 0 dj,dj)],none,hR,.cons Cb .nil,rfl,rfl,qs (zero_le _),rfl⟩ (λj J H' _ h=>aK.of (h.1 _ _ r9 ZZ)) ?_ ?_
 ·rintro j x J H' N aq bH b9;left;obtain⟨sB,m,as,pre,sd,hf,pp,jy,b8,hm,rfl⟩:=bH;rw[getElem?_map]at aq;obtain⟨c,ak,rfl⟩:=map_eq_some_iff.mp aq;have aZ:=(wa4.mp ak).1
  have Cm:aQ H H':=λb o ae=>sB _ _ (s4 _ _ ae) (cg ae Ck)
  right;ext;refine⟨aL,st,m,c,rfl,Cm.seq cb,hm,s1,λdg s5=>⟨.inl ⟨rfl,_,aK.of (s5 _ _ hf)⟩,by rw[sizeLine_eq];decide,λt fX=>⟨_,(bb fX) _ _ (s5 _ _ hf),?_,?_⟩⟩⟩
  ·rw[length_map,Paired.length pp,jy];have:=sizeLine_eq
   have:bW.length+1<=10^6:=cL
   omega
  ·have Z0:f≠t:=λz=>by rw[<- z,s5 _ _ hf]at fX;cases fX
   have c2:v6 f H' (upd (upd dg t (a3.tup [V.int (met st m c:Nat),V.int c])) f (a3.lst (as.map V.ref++[V.ref t]))):=λb o ae nb=>by
    rw[zf nb];exact(bb fX) _ _ (s5 _ _ ae)
   refine b9 _ _ ⟨λb o ae nb=>c2 _ _ (sB _ _ ae nb) nb,met st m c,as++[t],pre++[(met st m c,c)],_,by rw[aH,map_append];rfl,?_,by rw[length_append,jy];rfl,?_,qs hm,rfl⟩
   ·refine Paired.snoc (Paired.fp pp λa y bg=>c2 _ _ bg λz=>by have bg:H' a=some _:=bg;rw[z,hf]at bg;cases bg) ?_;show upd (upd dg t _) f _ t=_
    rw[zf Z0.symm,aH];rfl
   ·rw[b8,List.append_assoc,List.drop_eq_getElem_cons aZ,(wa4.mp ak).2];rfl
 ·rintro J H' bH;left;obtain⟨sB,m,as,pre,sd,hf,pp,jy,b8,hm,rfl⟩:=bH;right;ext;rw[length_map,List.drop_length]at b8;have b8:oN st 0 (dj::bW)=pre:=by rw[b8];exact append_nil _
  refine ao f H' as (λb o ae=>sB _ _ (s4 _ _ ae) (cg ae Ck)) Ck hf (by rwa[b8])
theorem Z1:cv ad bI 4 (ad.ai 5) q50 (UR (ad.ai 83)):=by
 refine cE (T 180) Yp ?_;and_intros;obtain⟨p,av,l,w,h,sg,rfl,aG,cw,g,ao⟩:=h;refine uq ⟨_,(aV (hj (cx (Zj T) R (T 29) (af (U 1 R) ay)))
 (aV (iq (U 0 R) (cJ kd R (T 0) (af (bR zy (U 1 R) zc (λ_ _=>rfl)) ay)) rfl)
 (aV (iq (U 0 R) (cJ zr R (T 0) (af (U 1 R) ay)) rfl)
 (aV (iq (U 0 R) (rD vK R (T 7) (af (U 1 R) ay)) rfl)
 (
 aX (iq (U 0 R) (hE PySem.F.plainAttrs_str PySem.F.slot_str_join PySem.F.type_str_join zE eh (af (U 1 R) ay)) rfl)))))),?_⟩
 rfl';have cZ:=g.cZ
 have h0:=g.h0
 have ic:=jv g
 have cy:dH ((linesOf w h sg).map V.str) 0∣V.str (gQ w sg 0):=gk (j:=0) (by rw[getElem?_map,l8 ⋯];rfl)
 have fA:=l7 g (show 0<h by omega)
 have ey:=g.ey
 have se:l≠p:=cM cw aG nofun
 ext;refine⟨l,w,h,sg,rfl,cw,g,λH1 s1=>?_⟩;have mr:=s1 _ _ cw
 have oB:=s1 _ _ aG
 try dsimp only
 refine⟨_,aK.of mr,_,cy,_,rfl,by rw[fA];omega,_,_,_,oB,(T 97),(T 98),by show 0<1000;decide,?_⟩;rw[fA];refine⟨_,.inl (aK.of (by rwa[zf se])),_,_,_,aH,(T 97),(T 99),by show 1<1000;decide,?_⟩;rw[length_map,mY];refine⟨_,.inl (aK.of (by rwa[zf se,zf se])),λe3 dO=>?_⟩;have qe:e3≠p:=λz=>by rw[z,aH]at dO;cases dO
 have Cn:H1 e3=none:=by rw[zf qe,zf qe]at dO;exact dO
 have xF:l≠e3:=cg mr Cn
 refine⟨_,_,_,by rw[zf qe.symm,aH],(T 97),(T 100),by show 2<1000;decide,rfl,_,aK.of (by rwa[zf se,zf xF,zf se,zf se]),FF g,_,_,_,aH,(T 97),(T 101),by show 3<1000;decide,?_⟩;rw[FE g];refine ao _ av e3 (s1.free Cn) aH ?_ λb o ae nb=>?_
 ·unfold hb;rw[zf qe,zf qe,aH]
 ·have I5:=s1 _ _ ae
  rwa[zf nb,zf nb,zf (cg I5 Cn),zf nb,zf nb]
theorem I6:cv ad bI 4 (ad.ai 10) q05 (UW (ad.ai 83)):=by
 refine cE (T 185) Yq ?_;and_intros;obtain⟨p,w,h,sg,c,rfl,eW,g,ao⟩:=h;refine uq ⟨_,(aV (b0 2 R (ww (af (bG hZ (U 1 R) (dN (U 0 R) (by rfl))) ay)))
 (aV (cN (cp vw (e4 (U 0 R) (T 97) (T 32) (IA T) HR (af (U 1 R) ay)) zc)
 (aX (hj (hE wa1 wa2 wa3 i0 (U 2 R) (af (bG hZ (U 1 R) zc) ay))))
 zx)
 (aV (cN (cp nX (e4 (U 0 R) (T 97) (T 32) (IA T) HR (af (U 1 R) ay)) (bG hZ (dN (U 0 R) (by rfl)) zc))
 (aX (hj (hE wa1 wa2 wa3 i0 (U 2 R) (af (bG dW (U 1 R) zc) ay))))
 zx)
 (aV (hj (hE wa1 wa2 wa3 i0 (U 2 R) (af (bG dW (U 1 R) (dN (U 0 R) (by rfl))) ay)))
 (aX (bY (kg (gD.of (hG:=bU w2) (tn:=["place"]) (cn:=q27) (dR:=[0]) rfl rfl ∅ ∅ ∅ ∅ rfl) (cY rfl)  (il (U 2 R))
 (
 λ_ _ _ _ _=>(hX (i:=0) (show(["place","self"]:List Str).Nodup by decide +kernel) rfl (Or.inl rfl))) (λ_ _ _ _ _=>(pK (fS (e4 (cK 1) (T 97) (T 30) (Zp T) HR (af (cK 0) ay))))) (λ_ _ _ _ _=>(cK 0))))))))),?_⟩
 rfl';left;obtain⟨av,l,aa,ag⟩:=eW.ob;have cZ:=g.cZ
 have ey:=g.ey
 have I7:(h8 w h l sg).lookup ("column":Str)=none:=BA _ _ _ _ ∅ ∅ ∅ ∅
 have Z2:(h8 w h l sg).lookup ("has":Str)=none:=BA _ _ _ _ ∅ ∅ ∅ ∅
 right;refine zj (λJ H'=>∃n,H n=none/\aQ H H'/\H' n∣.lst ([c-(w:Int)].map V.int)/\J=[⇑p,↥c,⇑n]) (λaP aj=>?_) ?_
 ·ext;exact(dX aa (T 97) (T 98) (ue _ _ _ _) ⟨_,rfl,⋯,λn nn=>aj _ _ ⟨n,nn,bb nn,aH,rfl⟩⟩)
 rintro cm a9 J H1 ⟨n,nn,s1,hn,rfl⟩;nofun;refine zj (λJ H'=>aQ H H'/\H' n∣.lst (([c-(w:Int)]++(if c%w>0 then [c-1] else [])).map V.int)/\J=[⇑p,↥c,⇑n]) (λaP aj=>?_) ?_
 ·ext;refine⟨_,_,s1 _ _ aa,I7,p,w,h,sg,c,rfl,eW.same s1,g,_,rfl,?_⟩;split
  ·rename_i ak;refine⟨.inl ⟨rfl,_,aK.of hn⟩,_,hn,by simp only[map_cons,map_nil,length_cons,length_nil];omega,aj _ _ ⟨kW s1 nn,?_,rfl⟩⟩;rw[aH,aM ak];rfl
  ·rename_i ak;refine aj _ _ ⟨s1,?_,rfl⟩;rw[hn,aB ak];rfl
 rintro cm a9 J aE ⟨s2,nY,rfl⟩;nofun;refine zj (λJ H'=>aQ H H'/\H' n∣.lst (([c-(w:Int)]++(if c%w>0 then [c-1] else [])++(if c%w<(w:Int)-1 then [c+1] else [])).map V.int)/\J=[⇑p,↥c,⇑n]) (λaP aj=>?_) ?_
 ·ext;refine⟨_,_,s2 _ _ aa,I7,p,w,h,sg,c,rfl,eW.same s2,g,dX (s2 _ _ aa) (T 97) (T 98) (ue _ _ _ _) ⟨_,rfl,_,rfl,?_⟩⟩;split
  ·rename_i ak;refine⟨.inl ⟨rfl,_,aK.of nY⟩,_,nY,?_,aj _ _ ⟨kW s2 nn,?_,rfl⟩⟩
   ·rw[length_map,length_append];split<;>simp only[length_cons,length_nil]<;>omega
   ·rw[aH,aM ak];simp only[map_append,map_cons,map_nil]
  ·rename_i ak;refine aj _ _ ⟨s2,?_,rfl⟩;rw[nY,aB ak,append_nil]
 rintro cm a9 J bP ⟨s3,I8,rfl⟩;nofun;refine zj (λJ H'=>aQ H H'/\H' n∣.lst ((kZ w c).map V.int)/\J=[⇑p,↥c,⇑n]) (λaP aj=>?_) ?_
 ·ext;refine⟨.inl ⟨rfl,_,aK.of I8⟩,dX (s3 _ _ aa) (T 97) (T 98) (ue _ _ _ _) ⟨_,rfl,_,I8,?_,aj _ _ ⟨kW s3 nn,?_,rfl⟩⟩⟩
  ·rw[length_map,length_append,length_append];split<;>split<;>simp only[length_cons,length_nil]<;>omega
  ·rw[aH];unfold kZ;simp only[map_append,map_cons,map_nil]
 rintro cm a9 J ck ⟨s4,I9,rfl⟩;nofun;have Z3:=eW.same s4
 ext;refine⟨⟨_,aK.of I9⟩,pN (src_list (aK.of I9)) (tu sg) (λv=>v) (λy bg Q bN=>?_) (λy bg _ Q bN=>?_) ?_ ?_⟩
 ·left;obtain⟨z,_,rfl⟩:=mem_map.mp bg;right;ext;exact⟨_,_,s4 _ _ aa,Z2,p,w,h,sg,_,rfl,Z3,g,⟨_,.int _⟩,_,rfl,bN⟩
 ·ext;exact bN
 ·unfold kZ;rw[length_map,length_append,length_append,length_append];split<;>split<;>simp only[length_cons,length_nil]<;>omega
 ·intro D e1;have e:((((kZ w c).map V.int).filter (tu sg)).map λv=>v)=(dc w sg c).map V.int:=by
   rw[map_id',dc,filter_map];rfl
  rw[e];exact ao D _ (s4.free e1) (s4.trans (bb e1)) aH
theorem Z4:cv ad bI 4 (ad.ai 34) ["one","other"] (Vf):=by
 refine cE (T 209) Yr ?_;and_intros;obtain⟨v,b,c,ep,b1,aY,rfl,hw,r5,g,g',ao⟩:=h;refine uq ⟨_,(aV (b0 2 R (cJ (q2 rfl) R (T 11) (af (bR dv (U 0 R) zc (λ_ _=>rfl)) (af (bR dv (U 1 R) zc (λ_ _=>rfl)) ay))))
 (aV (b0 3 R (cJ (q2 rfl) R (T 11) (af (cx (xv T) R (T 47) (af (U 0 R) ay)) (af (cx (xv T) R (T 47) (af (U 1 R) ay)) ay))))
 (aV (fc PassesOwn.never (cY rfl) (yx (fN Xn) (T 1).1 (af (U 2 R) (af (bG dW (U 3 R) zc) ay)) (iU rfl rfl) (dI rfl)) (dn 4 R)
 (aV (b0 5 R (cx (Zw T) R (T 51) (af (U 0 R) (af (U 1 R) (af (U 4 R) ay)))))
 (aX (cN (cp q0 (U 5 R) hi)
 (aX (bY (fj (af (U 4 R) (af (U 5 R) ay)))))
 zx))))
 (
 aX (bY hi))))),?_⟩
 rfl';left;obtain⟨p,q,rfl,aa,ag⟩:=id hw;obtain⟨gj,q',rfl,Z5,vT⟩:=id r5;obtain⟨ak,aD,eA,ct⟩:=g;obtain⟨hT,vh,aeR,aeS⟩:=g';have jy:0<c.length:=length_pos_iff.mpr ak
 have aeT:0<aY.length:=length_pos_iff.mpr hT
 right;ext;refine(dp (bT.of aa) rfl (dp (bT.of Z5) rfl ⟨_,rfl,_,rfl,_,b,c,rfl,hw,_,b1,aY,rfl,r5,_,rfl,_,rfl,?_⟩));left;obtain⟨B,kR⟩:∃B,B=(if b1>b then b1 else b):=⟨_,rfl⟩;obtain⟨e,he⟩:∃e,e=(if b1+(aY.length:Int)-1>b+(c.length:Int)-1 then b1+(aY.length:Int)-1 else b+(c.length:Int)-1):=⟨_,rfl⟩;right;rw[<- kR,<- he];left;have Ja:b<=B/\b1<=B/\B<=10^15/\(B=b\/B=b1):=by rw[kR];split<;>exact⟨⋯,⋯,⋯,by simp⟩
 have ar:b+(c.length:Int)-1<=e/\b1+(aY.length:Int)-1<=e/\e<=10^15+1000:=by rw[he];split<;>exact⟨⋯,⋯,⋯⟩
 obtain⟨Ja,aeU,aeV,Jb⟩:=Ja;have Jc:∀{t:Int},b<=t->b1<=t->B<=t:=λh h'=>Jb.elim (λz=>by rwa[z]) λz=>by rwa[z]
 obtain⟨Z6,Z7,aeW⟩:=ar;clear Jb kR he;right;refine⟨⋯,⋯,⋯,⋯,yz (λi J H'=>∃x y,H'=H/\J=[⇑p,⇑gj,↥B,↥e,x,y]/\∀j:Nat,j<i->hI b c b1 aY (B+(j:Int))=none) ⟨none,none,rfl,rfl,λj aZ=>br aZ (Nat.not_lt_zero j)⟩ ?_ ?_⟩
 ·rintro i J H' au bH;left;obtain⟨x,y,rfl,rfl,hn⟩:=bH;right;ext;refine⟨_,b,c,_,b1,aY,B+(i:Int),rfl,hw,r5,ak,hT,?_⟩;try dsimp only
  cases hm:hI b c b1 aY (B+(i:Int)) with
  | none=>
   rw[aB (by simp[BH])];refine⟨rfl,λj aZ=>?_⟩;rcases Nat.lt_succ_iff_lt_or_eq.mp aZ with z|z
   ·exact hn j z
   ·rwa[z]
  | some w=>
   rw[aM (by simp[BH])];refine⟨⋯,λr cI=>ao _ _ (some (B+(i:Int),w)) (bb cI) ⟨r,rfl,aH⟩ ⟨⋯,⋯,hm,λt' g1 g2 g3=>?_⟩⟩;have dq:=Jc g1 g2
   have:=hn (t'-B).toNat ⋯
   rw[show B+((t'-B).toNat:Int)=t' by omega]at this;exact this
 ·rintro J H' bH;left;obtain⟨x,y,rfl,rfl,hn⟩:=bH;right;ext;refine ao _ _ none (aQ.refl _) rfl (i8.none_of ak hT (e:=e) Z6 Z7 λt' g1 g2 g3=>?_);have dq:=Jc g1 g2
  have:=hn (t'-B).toNat ⋯
  rw[show B+((t'-B).toNat:Int)=t' by omega]at this;exact this
theorem Z8:cv ad bI 4 (ad.ai 42) q21 (V3 ad.ai):=by
 refine cE (T 217) Ys ?_;and_intros;obtain⟨p,d,es,n,t,e,rfl,ae,t0,bM,ar,ao⟩:=h;refine uq ⟨_,(aX (bY (S9 rfl (fN Xf) (T 10).1 (af (kg (gD.of (hG:=bU t8) (tn:=["way"]) (cn:=["time","end"]) (dR:=[2,3]) rfl rfl ∅ ∅ ∅ ∅ rfl) (cY rfl)  (il (e4 (U 0 R) (T 128) (T 60) (xw T) HR (af (U 1 R) ay)))
 (
 λ_ _ _ _ _=>(hX (i:=0) (show(q39:List Str).Nodup by decide +kernel) rfl (Or.inl rfl))) (λ_ _ _ _ _=>od) (λ_ _ _ _ _=>(gR (Zv T) HR (T 50) W7 (af (cK 0) (af (cK 1) (af (cK 2) ay)))))) ay) (U 3 R) (dI rfl)))),?_⟩
 rfl';left;obtain⟨⟨⟨av,aa⟩,ag⟩,b8⟩:=id ae;have jD:(bk es n).length<=41:=(b8.drop n).len
 have jk:=sizeLine_eq
 right;ext;refine(f6 aa (jx d ∅) ⟨p,d,es,n,rfl,ae,λl H1 nl s1 aD=>⟨l,rfl,⟨_,aK.of aD⟩,?_⟩⟩);have S:=src_list (K:=ad.az) (aK.of aD)
 refine E2 (n:=(bk es n).length) (x:=λi=>(((bk es n).map (·.v))[i]?).getD .bx) (λi aF H'=>H'=H1/\∃rs:List Int,aF=rs.map V.int/\rs.length=i/\(∀r∈rs,t<=r/\r<=e)/\∀(j:Nat)(x:Ent),j<i->(bk es n)[j]?∣x->∃r∈rs,∀s,t<=s->s<=r->b7 x.b x.c s=b7 x.b x.c t) ⟨rfl,[],rfl,rfl,λr a5=>(by cases a5),λj x aZ=>br aZ (Nat.not_lt_zero j)⟩ (λi aF H' au ⟨ar,_⟩=>?_) (λaF H' ⟨ar,_⟩=>?_) (λi aF H' au ⟨ar,rs,aw,bV,eI,ot⟩=>?_) (λaF H' ⟨ar,rs,aw,bV,eI,ot⟩=>?_)
 ·subst ar;refine⟨S.go i (by rwa[length_map]),λy cO sX=>?_⟩;obtain⟨eu,eP⟩:=S.gy i y cO (by rwa[length_map]) sX;exact⟨eu,by rw[eP];rfl⟩
 ·subst ar;have:=S.stop
  rw[length_map]at this;exact this
 ·subst ar aw;obtain⟨x,aq⟩:∃x,(bk es n)[i]?∣x:=⟨_,getElem?_eq_getElem au⟩;have hm:=(kn.mp (mem_of_getElem? aq)).1
  have ev:(((bk es n).map (·.v))[i]?).getD V.bx=x.v:=by rw[getElem?_map,aq];rfl
  rw[ev];left;obtain⟨ey,lS,_⟩:=b8.ok x hm;right;ext;refine⟨_,x.b,x.c,t,e,rfl,ey.same s1,⟨lS.1,by have:=lS.2.1;omega,lS.2.2.1,by have:=lS.2.2.2;omega⟩,t0,bM,ar,λr bX cB mM=>⟨by rw[length_map];omega,rfl,rs++[r],by rw[map_append];rfl,by rw[length_append,bV];rfl,λy bg=>?_,λj z aZ hz=>?_⟩⟩
  ·rcases mem_append.mp bg with w|w
   ·exact eI y w
   ·rw[mem_singleton.mp w];exact⟨bX,cB⟩
  ·by_cases q:j=i
   ·subst q;rw[aq]at hz;cases hz;exact⟨r,by simp,mM⟩
   ·left;obtain⟨y,fo,kr⟩:=ot j z ⋯ hz;right;exact⟨y,mem_append_left _ fo,kr⟩
 ·subst ar aw;refine⟨by rw[length_map];omega,λD fb=>⟨rs,aK.of aH,λm hm=>?_⟩⟩;have ge:∀x∈bk es n,∃r∈rs,∀s,t<=s->s<=r->b7 x.b x.c s=b7 x.b x.c t:=λx aq=>by
   obtain⟨j,aZ⟩:=mem_iff_getElem?.mp aq;exact ot j x (wa4.mp aZ).1 aZ
  rcases hm with⟨h0,rfl⟩|⟨hm,le⟩
  ·refine ao _ _ (s1.trans (bb fb)) bM (wa9 _) λx aq=>?_;obtain⟨r,a5,_⟩:=ge x aq;rw[h0]at a5;cases a5
  ·obtain⟨eO,dh⟩:=eI m hm;refine ao _ m (s1.trans (bb fb)) eO dh λx aq s s2 s3=>?_;obtain⟨r,a5,h⟩:=ge x aq;exact h s s2 (by have:=le r a5;omega)
theorem Z9:cv ad bI 4 (ad.ai 75) q06 (Wd ad.az):=by
 refine cE (T 252) Yt ?_;and_intros;obtain⟨x,i,l,cU,e,aL,bh,n,num,b,cX,w,h,sg,st,es,b2,rfl,au,eV,cw,g,hm,aj,cb,s1,c4,eA,dq,t1,dY,lo,ao⟩:=h;refine uq ⟨_,(aV (b0 7 R (ww (af (U 5 R) ay)))
 (aV (fc PassesOwn.never (cY rfl) (yx (fN Xl) (T 1).1 (af (U 4 R) (af (U 6 R) ay)) (iU rfl rfl) (dI rfl)) (dn 8 R)
 (aX (hj (hE wa1 wa2 wa3 i0 (U 7 R) (af (cx (IZ T) R (T 88) (af (U 0 R) (af (bR dv (U 1 R) zc (λ_ _=>rfl)) (af (bR dv (U 1 R) zc (λ_ _=>rfl)) (af (U 2 R) (af (bR dv (U 1 R) zc (λ_ _=>rfl)) (af (U 3 R) (af (U 8 R) (af (bR zy (U 7 R) (hY h1 zc) (λ_ _=>rfl)) ay))))))))) ay)))))
 (
 aX (bY (U 7 R))))),?_⟩
 rfl';ext;refine⟨by rw[sizeLine_eq];decide,λp np=>⟨⋯,⋯,⋯,⋯,m6 (λj J H'=>∃x ts,aQ H H'/\H' p∣.lst (ts.map V.ref)/\ts.length=j+1/\oH H' st sg (Sr.mc (e9 (bk es num) i w sg st n) b b2) ts/\J=[⇑l,⇑cU,⇑e,⇑aL,↥b,⇑bh,↥cX,⇑p,x]) ⟨none,[bh],bb np,aH,rfl,⟨λj t aZ=>?_,λj aZ=>?_⟩,rfl⟩ ?_ ?_⟩⟩
 ·obtain⟨rfl,rfl⟩:j=0/\t=bh:=by
   match j,aZ with
   | 0,aZ=>cases aZ;exact⟨rfl,rfl⟩
   | j+1,aZ=>cases aZ
  exact(bb np) _ _ dY
 ·obtain rfl:j=0:=by have:([bh]:List Addr).length=1:=rfl;omega
  exact lo
 ·rintro j J H1 N aZ bH b9;left;obtain⟨sf,ts,mu,aG,aD,cP,rfl⟩:=bH;right;ext;left;obtain⟨uE,bB,rfl⟩:∃uE bB,ts=uE++[bB]:=by
   rcases List.eq_nil_or_concat ts with z|⟨a,c,z⟩
   ·rw[z]at aD;cases aD
   ·exact⟨a,c,by rw[z,List.concat_eq_append]⟩
  have um:uE.length=j:=by rw[length_append]at aD;exact Nat.succ.inj aD
  have aaa:=cP.at' j bB (by rw[<- um,getElem?_append_right (wa8 _),Nat.sub_self];rfl)
  have rM:=cP.ok j ⋯
  have jk:=sizeLine_eq
  right;refine⟨.inl ⟨rfl,_,aK.of aG⟩,dp (bT.of (mu _ _ hm)) rfl (dp (bT.of (mu _ _ hm)) rfl (dp (bT.of (mu _ _ hm)) rfl ⟨_,aK.of aG,_,by rw[map_append];exact OB _ _,x,i,l,e,aL,bB,n,num,b+(j:Int),w,h,sg,st,es,_,rfl,au,eV,mu _ _ cw,g,⟨mu _ _ aj.1,aj.2.cH (mZ mu)⟩,mu.seq cb,s1,c4,aaa,rM,λr aE s2 cI a5=>⟨_,s2 _ _ aG,by rw[length_map];omega,b9 _ _ ⟨_,uE++[bB]++[r],?_,by rw[aH,map_append (l₁:=uE++[bB])];rfl,by rw[length_append,aD];rfl,cP.step aG s2 (by rwa[aD]) (by rw[aD];exact(ny rM (lC g)).bh),rfl⟩⟩⟩))⟩;exact kW (mu.trans s2) np
 ·rintro J H1 bH;left;obtain⟨sf,ts,mu,aG,aD,cP,rfl⟩:=bH;right;ext;exact ao p H1 ts mu np aG ⋯ cP
theorem aab:cv ad bI 4 (ad.ai 80) q02 (WH ad.az):=by
 refine cE (T 257) Yu ?_;and_intros;obtain⟨x,i,l,cU,e,aL,cX,nl,n,num,b,w,h,sg,st,es,TT,ts,as,ns,rfl,au,eV,cw,g,hm,c6,cb,s1,c4,kB,aD,cP,lK,dr,di,path,ao⟩:=h;refine uq ⟨_,(aV (fc PassesOwn.never (cY rfl) (kN (fN Xh) (T 1).1 (af (bG hZ (cJ zr R (T 0) (af (U 6 R) ay)) zc) ay) (dI rfl)) (dn 7 R)
 (aV (b0 8 R (ww ay))
 (aV (zW (fc PassesOwn.never (cY rfl) (wg (bR zy (U 5 R) (U 7 R) (λ_ _=>rfl))) (dn 9 R)
 (aV (b0 10 R (zR (dx HU) (U 9 R) (gn (dx HU) (bR zy (U 5 R) (U 7 R) (λ_ _=>rfl)) (U 9 R) (λ_ _=>rfl))))
 (aV (b0 11 R (cx (IZ T) R (T 88) (af (U 0 R) (af (bR dv (U 1 R) zc (λ_ _=>rfl)) (af (bR dv (U 1 R) zc (λ_ _=>rfl)) (af (U 2 R) (af (bR dv (U 1 R) zc (λ_ _=>rfl)) (af (U 3 R) (af (bG dW (U 4 R) (U 7 R)) (af (U 10 R) ay))))))))))
 (aV (b0 12 R (bR zy (U 6 R) (bG dW (U 7 R) zc) (λ_ _=>rfl)))
 (aX (cN (cp eH (EF (dx HU) (U 11 R) (U 12 R) ⟨rfl,rfl,rfl,rfl⟩) (gn (dx HU) (bR zy (U 5 R) (bG dW (U 7 R) zc) (λ_ _=>rfl)) (U 12 R) (λ_ _=>rfl)))
 (aX (hj (hE wa1 wa2 wa3 i0 (U 8 R) (af (U 9 R) ay))))
 zx)))))))
 (aX (cN (eF.pt (jm (cp (v8 HU) (U 8 R) (ww ay)) (kH (cp (pO HU) (bR zy (U 6 R) (U 7 R) (λ_ _=>rfl)) (cJ (GD rfl (dx HU)) R (T 10) (af (U 8 R) ay))))))
 (aX (bY jJ))
 zx)))))
 (
 aX (bY jJ))),?_⟩
 rfl';obtain⟨uC,b8⟩:=id c6;have ic:=jv g
 have xG:as.length=ns.length:=Paired.length dr
 have uF:∀j,j<ns.length->∃t,ts[j]?∣t/\H t∣.bc (TT j)/\dk st sg (TT j):=λj aZ=>⟨_,getElem?_eq_getElem ⋯,cP.at' j _ (getElem?_eq_getElem ⋯),cP.ok j ⋯⟩
 have xH:∀j,j<ns.length->∃a x,as[j]?∣a/\ns[j]?∣x/\lG H a x:=λj aZ=>by
  left;obtain⟨a,aN,hn⟩:=Paired.at2 dr (getElem?_eq_getElem aZ);right;exact⟨a,_,aN,getElem?_eq_getElem aZ,hn⟩
 ext;refine⟨_,.inl (aK.of lK),⋯,by rw[length_map];omega,m6 (λj J H'=>∃g0 jE eX d2 d3 ea,aQ H H'/\J=[⇑l,⇑cU,⇑e,⇑aL,↥b,⇑cX,⇑nl,g0,jE,eX,d2,d3,ea]) ⟨none,none,none,none,none,none,aQ.refl _,rfl⟩ ?_ ?_⟩
 ·rintro j J H1 N aZ bH b9;left;obtain⟨g0,jE,eX,d2,d3,ea,uG,rfl⟩:=bH;rw[length_map,xG]at aZ;have aZ:j+1<ns.length:=⋯
  obtain⟨t0,aac,sh,lo⟩:=uF j ⋯;obtain⟨t1,aad,aae,lo1⟩:=uF (j+1) aZ;obtain⟨rC,jW,aaf,aag,aah⟩:=xH j ⋯;obtain⟨a1,fo,aai,aaj,wX⟩:=xH (j+1) aZ;obtain⟨q,v1,least⟩:=path j jW fo aag aaj;right;refine zj (λJ H'=>∃gl,H1 gl=none/\aQ H1 H'/\H' gl∣.lst []/\J=[⇑l,⇑cU,⇑e,⇑aL,↥b,⇑cX,⇑nl,↥j,⇑gl,eX,d2,d3,ea]) (λaP aj=>?_) ?_
  ·ext;rw[show(0:Int)+(j:Int)=j by omega];exact⟨⋯,λp np=>aj _ _ ⟨p,np,bb np,aH,rfl⟩⟩
  rintro cm a9 J aE ⟨gl,Co,ji,aak,rfl⟩;nofun;refine zj (λJ H'=>∃(bs:List Addr)(zs:List (Nat×Int))(eX d2 d3 ea:Option V),v6 gl aE H'/\H' gl∣.lst (bs.map V.ref)/\Paired (lG H') bs zs/\(∀y,y∈zs↔BS (zu (cz (bk es num) (b+j)) i w sg st n) (TT j) (aW fo.1 fo.2) q y)/\J=[⇑l,⇑cU,⇑e,⇑aL,↥b,⇑cX,⇑nl,↥j,⇑gl,eX,d2,d3,ea]) (λaP aj=>?_) ?_
  ·ext;have Cp:=uG.trans ji
   have gc:t0≠gl:=cg (uG _ _ sh) Co
   have Cq:=Cp _ _ sh
   have cut:∀{a:Addr}{v:a3},H a∣v->(∀bF,v≠.bc bF)->a≠t0:=λaa ag=>cM aa sh (ag _)
   have me:=tH lo.nd (λk aj=>by
    left;obtain⟨x,aq,rfl⟩:=mem_map.mp aj;obtain⟨m,c,q,rfl,hm,ak,_⟩:=lo.ok x aq;right;exact⟨m,c,rfl,hm,ak.1,ak.2⟩) s1 ic.2
   have xI:dH (ts.map V.ref) (j:Int)=⇑t0:=gk (by rw[getElem?_map,aac];rfl)
   have ju:dH (ts.map V.ref) ((j:Int)+1)=⇑t1:=by
    rw[show(j:Int)+1=((j+1:Nat):Int) by omega];exact gk (by rw[getElem?_map,aad];rfl)
   have at2:dH (as.map V.ref) ((j:Int)+1)=⇑a1:=by
    rw[show(j:Int)+1=((j+1:Nat):Int) by omega];exact gk (by rw[getElem?_map,aai];rfl)
   refine⟨t0,TT j,Cq,g9 (aK.of (Cp _ _ kB)) xI ⟨t0,rfl,TT j,Cq,λf3=>Ac (λk J H'=>H' t0∣.cc f3 (.bc (TT j))/\∃(bs:List Addr)(zs:List (Nat×Int))(eX d2 d3 ea:Option V),(∀a u,aE a∣u->a≠t0->a≠gl->H' a∣u)/\H' gl∣.lst (bs.map V.ref)/\Paired (lG H') bs zs/\bs.length<=k/\(∀y,y∈zs↔∃(eG:Nat)(gd:Int),eG<k/\(TT j)[eG]?∣(aW y.1 y.2,.int gd)/\(aW fo.1 fo.2,q)∈zu (cz (bk es num) (b+j)) i w sg st n y.1 y.2 gd)/\J=[⇑l,⇑cU,⇑e,⇑aL,↥b,⇑cX,⇑nl,↥j,⇑gl,eX,d2,d3,ea]) ⟨aH,[],[],eX,d2,d3,ea,λa u aa ag _=>by rwa[zf ag],by rwa[zf gc.symm],.nil,wa8 _,λy=>⟨λh=>(by cases h),λ⟨_,_,h,_⟩=>by omega⟩,rfl⟩ (λk J H' _ h=>h.1) ?_ ?_⟩⟩
   ·rintro k tl v f5 J H' aeX g7 ae bH Jd;left;obtain⟨hf,bs,zs,eX,d2,d3,ea,c2,bD,h4,zQ,mem,rfl⟩:=bH;have j5:=mem_of_getElem? g7
    obtain⟨m,c,gd,qC,pZ,ak,d9⟩:=lo.ok _ j5;cases qC;have xJ:∀{a:Addr}{u:a3},H a∣u->a≠t0->H' a∣u:=λ{a u} aa ag=>c2 _ _ (Cp _ _ aa) ag (cg (uG _ _ aa) Co)
    right;ext;intro p np;have s5:aQ H' (upd (upd H' p (a3.bc [])) p (a3.bc [(aW m c,V.int gd)])):=λa u h=>by rwa[zf (cg h np),zf (cg h np)]
    have xK:=bb (o:=a3.bc []) np
    have eT:v6 t0 H H':=λa u aa ag=>xJ aa ag
    have uH:v6 t0 H (upd (upd H' p (a3.bc [])) p (a3.bc [(aW m c,V.int gd)])):=λa u aa ag=>s5 _ _ (xJ aa ag)
    have Cr:=uH _ _ hm (cut hm nofun)
    have Cs:=Ic pZ ak d9
    refine(g9 (aK.of (xK _ _ (xJ kB (cut kB nofun)))) xI ⟨t0,rfl,V.int gd,.inr ⟨TT j,aW m c,f5,.inr ⟨f3,xK _ _ hf⟩,rfl,xK _ _ ae,(i9 lo.nd j5).symm⟩,aH,aW m c,xK _ _ ae,dp (v:=V.str x) (bT.of Cr) rfl (dp (v:=V.int n) (bT.of Cr) rfl (dp (v:=V.int num) (bT.of Cr) rfl ⟨x,i,l,e,aL,p,n,num,b+j,w,h,sg,st,es,[(aW m c,.int gd)],rfl,au,eV,uH _ _ cw (cut cw nofun),g,⟨uH _ _ uC (cut uC nofun),b8.cH (uH.cH (λxs z=>by rw[sh]at z;cases z))⟩,xn cb sh xm uH,s1,c4,aH,Cs,λr gM dm cI a5=>?_⟩))⟩);have mv:aQ H' gM:=s5.trans dm
    have xM:v6 t0 H gM:=λa u aa ag=>mv _ _ (xJ aa ag)
    have Je:=xM _ _ wX (cut wX nofun)
    refine(g9 (v:=V.ref a1) (aK.of (xM _ _ lK (cut lK nofun))) at2 ⟨r,rfl,.inr ⟨_,.inl a5⟩,_,.inr ⟨_,aW fo.1 fo.2,a1,.inl a5,rfl,Je,rfl⟩,g9 (v:=V.ref t1) (aK.of (xM _ _ kB (cut kB nofun))) ju ⟨t1,rfl,.int q,.inr ⟨TT (j+1),aW fo.1 fo.2,a1,WJ xM (mv _ _ hf) sh aae,rfl,Je,v1.symm⟩,?_⟩⟩);have dI:=λq'=>WL (es:=bk es num) (i:=i) (n:=n) (t:=b+j) (k:=aW fo.1 fo.2) (q':=q') g Cs
    have ol:=(ny Cs (lC (op:=cz (bk es num) (b+j)) (i:=i) (n:=n) g)).bh
    have xN:=mv _ _ bD
    have Jf:∀y,(∃(eG:Nat)(gd:Int),eG<k+1/\(TT j)[eG]?∣(aW y.1 y.2,.int gd)/\(aW fo.1 fo.2,q)∈zu (cz (bk es num) (b+j)) i w sg st n y.1 y.2 gd)↔y∈zs\/y=(m,c)/\(aW fo.1 fo.2,q)∈zu (cz (bk es num) (b+j)) i w sg st n m c gd:=λy=>by
     constructor
     ·rintro⟨eG,Ct,lk,ar,bX⟩;by_cases z:eG=k
      ·rw[z,g7]at ar;injection ar with ar
       injection ar with ar aw
       injection aw with aw
       obtain⟨bV,eI⟩:=jz ar;rw[<- bV,<- eI,<- aw]at bX;exact .inr ⟨Prod.ext bV.symm eI.symm,bX⟩
      ·exact .inl ((mem y).mpr ⟨eG,Ct,⋯,ar,bX⟩)
     ·rintro(aa|⟨rfl,aa⟩)
      ·left;obtain⟨eG,Ct,lk,ar,bX⟩:=(mem y).mp aa;right;exact⟨eG,Ct,⋯,ar,bX⟩
      ·exact⟨k,gd,⋯,g7,aa⟩
    have Jg:=Paired.fp h4 λa y (h:lG H' a y)=>mv _ _ h
    have Jh:∀{a:Addr}{y:Nat×Int},gM a∣.tup ((aW y.1 y.2).map bq)->a≠gl:=λaa z=>by rw[z,xN]at aa;cases aa
    generalize r8:aS (spread (zu (cz (bk es num) (b+j)) i w sg st n) [(aW m c,V.int gd)]) (aW fo.1 fo.2)=o at dI ⊢
    refine⟨by cases o with|none=>rfl|some v=>obtain⟨_,_,_,_,rfl,_⟩:=lD ol r8;rfl,?_⟩;split
    ·rename_i z;have hit:=(dI q).mp (by cases o with|none=>cases z|some v=>exact congrArg some z)
     refine⟨.inl ⟨rfl,_,aK.of xN⟩,_,xN,by rw[length_map];have:=(wa4.mp g7).1;omega,Jd _ _ ⟨by rw[zf gc];exact mv _ _ hf,bs++[f5],zs++[(m,c)],_,_,_,_,λa u aa ag aR=>by rw[zf aR];exact mv _ _ (c2 _ _ aa ag aR),by rw[aH,map_append];rfl,?_,by rw[length_append];show _+1<=_;omega,λy=>?_,rfl⟩⟩
     ·exact Paired.snoc (Paired.fp Jg λa y h=>by show upd gM gl _ a=_;rwa[zf (Jh h)]) (by show upd gM gl _ f5=_;rw[zf (Jh (y:=(m,c)) (mv _ _ ae))];exact mv _ _ ae)
     ·rw[Jf,mem_append,mem_singleton];exact⟨λh=>h.imp id λh=>⟨h,hit⟩,λh=>h.imp id λh=>h.1⟩
    ·rename_i z;refine Jd _ _ ⟨mv _ _ hf,bs,zs,_,_,_,_,λa u aa ag aR=>mv _ _ (c2 _ _ aa ag aR),xN,Jg,⋯,λy=>?_,rfl⟩;rw[Jf];exact⟨.inl,λh=>h.elim id λh=>br (by rw[(dI q).mpr h.2];rfl) z⟩
   ·rintro J H' bH;left;obtain⟨hf,bs,zs,eX,d2,d3,ea,c2,bD,h4,zQ,mem,rfl⟩:=bH;have gt:gl≠t0:=gc.symm
    right;refine⟨⟨f3,hf⟩,aj _ _ ⟨bs,zs,eX,d2,d3,ea,?_,by rwa[zf gt],Paired.fp h4 λa y h=>?_,λy=>?_,rfl⟩⟩
    ·intro a u aa ag;by_cases z:a=t0
     ·rwa[z,aH,<- Cq,<- z]
     ·rw[zf z];exact c2 _ _ aa z ag
    ·show upd H' t0 _ a=_
     rwa[zf (λz=>by rw[<- z,show H' a=_ from h]at hf;cases hf)]
    ·rw[mem];constructor
     ·rintro bH;left;obtain⟨eG,gd,_,aa,ag⟩:=bH;right;exact⟨gd,i9 lo.nd (mem_of_getElem? aa),ag⟩
     ·rintro bH;left;obtain⟨gd,aa,ag⟩:=bH;obtain⟨eG,c6⟩:=getElem?_of_mem (mm aa);right;exact⟨eG,gd,(wa4.mp c6).1,c6,ag⟩
  rintro cm a9 J bP ⟨bs,zs,eX,d2,d3,ea,lL,Ji,h4,mem,rfl⟩;nofun;have Cu:aQ H bP:=λa u h=>lL _ _ ((uG.trans ji) _ _ h) (cg (uG _ _ h) Co)
  have Cv:jW∈zs:=(mem _).mpr least.1
  have lx:∀{H':ah},aQ bP H'->kh ad.az H' (bs.map V.ref) ((zs.map λy=>((y.1:Int),y.2)).map λp=>.tuple [.int p.1,.int p.2]):=λ{H'} s=>Hu (WM (Paired.fp h4 λ_ _ h=>s _ _ h))
  ext;refine⟨⋯,λp np=>?_⟩;have s4:=bb (o:=a3.lst []) np
  refine(ow (.lst (aK.of (s4 _ _ Ji)) (lx s4)) (.lst (aK.of aH) .nil) (U9 _) rfl ?_);rw[aB (by cases zs with|nil=>cases Cv|cons a r=>exactλz=>by cases z)];refine(g9 (v:=V.ref rC) (aK.of (s4 _ _ (Cu _ _ lK))) (gk (by rw[getElem?_map,aaf];rfl)) ⟨bs,aK.of (s4 _ _ Ji),(λz=>by subst z;cases h4;cases Cv),BW (upd bP p (a3.lst [])),λt bC=>?_,λr a5 le=>?_⟩)
  ·left;obtain⟨aal,jR⟩:=getElem?_of_mem bC;obtain⟨y,_,bg⟩:=Paired.ju h4 jR;right;rw[BX (s4 _ _ bg)];exact s4 _ _ bg
  ·left;obtain⟨aal,jR⟩:=getElem?_of_mem a5;obtain⟨y,el,bg⟩:=Paired.ju h4 jR;obtain⟨vz,aam⟩:=getElem?_of_mem Cv;obtain⟨t,aan,bC⟩:=Paired.at2 h4 aam;have e2:=le t (mem_of_getElem? aan)
   rw[BX (s4 _ _ bg),BX (s4 _ _ bC)]at e2;have e3:=least.2 y ((mem _).mp (mem_of_getElem? el))
   have e:=Hq.An e3 e2
   injection e with ar aw
   injection aw with aw _
   have aao:=s4 _ _ (Cu _ _ aah)
   have j4:=s4 _ _ bg
   right;refine(ow (s7 (ns:=[(jW.1:Int),jW.2]) (bT.of aao)) (s7 (ns:=[(jW.1:Int),jW.2]) (bT.of (by rwa[show [(jW.1:Int),jW.2]=[(y.1:Int),y.2] by rw[ar,aw]]))) (rh _) (rh _) ?_);rw[aB (by rw[l4 _ (SeqAt.canLay_of_shaped (rh _))];decide)];exact b9 _ _ ⟨_,_,_,_,_,_,Cu.trans s4,rfl⟩
 ·rintro J H' bH;left;obtain⟨g0,jE,eX,d2,d3,ea,Cm,rfl⟩:=bH;right;ext;exact ao _ Cm
theorem xO:cv ad bI 5 (ad.ai 17) q44 (Hm ad.ai):=by
 refine cE (T 192) Yv ?_;and_intros;obtain⟨p,bJ,i,n,w,h,sg,cell,rfl,ak,au,eW,g,je,ao⟩:=h;refine uq ⟨_,(aV (zl (i:=3) (gD.of (hG:=bU rR) (tn:=["other"]) (cn:=["floor","cell","self"]) (dR:=[1,2,0]) rfl rfl ∅ ∅ ∅ ∅ rfl) (cY rfl) ND rfl W9 (il (e4 (U 1 R) (T 97) (T 34) (I6 T) HR (af (U 2 R) ay)))
 (λ_ _ _ _ _=>(hX (i:=0) (show(["other","floor","cell","self"]:List Str).Nodup by decide +kernel) rfl (Or.inl rfl))) (λ_ _ _ _ _=>od) (λ_ _ _ _ _=>(fj (af (cK 0) (af (pS (k:=3) (cK 3) (ff (T 104) (T 145) (xD T) (ff (T 108) (T 148) (xD T) (ff (T 112) (T 152) (xD T) (ff (T 115) (T 40) (xD T) pR)))) (HR.mono (by decide)) (af (cK 1) (af (cK 2) (af (cK 0) ay))) (hst:=fl rfl) (hpl:=fW rfl)) ay)))) (hsw:=by rfl))
 (aX (bY (kg (gD.of (hG:=bU rR) (tn:=["pair"]) (cn:=[]) (dR:=[]) rfl rfl ∅ ∅ ∅ ∅ rfl) (cY rfl)  (il (U 3 R))
 (
 λ_ _ _ _ _=>(hX (i:=0) (show(["pair"]:List Str).Nodup by decide +kernel) rfl (Or.inl rfl))) (λ_ _ _ _ _=>(pK (cp q0 (bR (wa (K:=ad.az) rfl) (cK 0) zc (λ_ _=>rfl)) hi))) (λ_ _ _ _ _=>(cK 0)))))),?_⟩
 rfl';left;obtain⟨av,l,aa,ag⟩:=id eW.ob;obtain⟨ka,aG⟩:=id ak;have nb:(h8 w h l sg).lookup ("beside":Str)=none:=qo ∅ ∅ ∅ ∅
 have b5:(dG "full" (V.int n) []).lookup ("fare_if_standing":Str)=none:=rS n ∅
 have bl:=rT (w:=w) (sg:=sg) (c:=cell)
 right;ext;refine(f6 aa nb ⟨bJ,w,h,sg,cell,rfl,eW,g,λr H1 a5 s1 aR=>⟨r,rfl,⟨_,aK.of aR⟩,Qi (K:=ad.az) (a:=r) (xs:=(dc w sg cell).map V.int) (λj aF H'=>aQ H1 H'/\∃ts:List Addr,aF=ts.map V.ref/\Paired (pE (costOf i w sg cell) H') ts ((dc w sg cell).take j)) ⟨aQ.refl _,[],rfl,.nil⟩ ?_ ?_ ?_⟩⟩)
 ·rintro j aF H' _ ⟨s2,_⟩;exact aK.of (s2 _ _ aR)
 ·rintro j x aF H' aq bH;left;obtain⟨s2,ts,rfl,pr⟩:=bH;rw[getElem?_map]at aq;obtain⟨o,aA,rfl⟩:=map_eq_some_iff.mp aq;have hm:o∈dc w sg cell:=mem_of_getElem? aA
  have lt:ts.length<=4:=by
   have:=Paired.length pr
   rw[length_take]at this;omega
  right;ext;refine⟨p,ka,_,(eJ ad.ai i,Hl ad.ai),BF i au,rfl,s2 _ _ (s1 _ _ aG),b5,p,bJ,i,n,w,h,sg,cell,o,rfl,⟨ka,s2 _ _ (s1 _ _ aG)⟩,au,eW.same (s1.trans s2),g,je,qn g hm,λbP s3=>⟨⋯,λt bC=>⟨by simp;omega,(s2.trans s3).trans (bb bC),ts++[t],by simp,?_⟩⟩⟩;rw[take_add_one,aA];exact Paired.snoc (Paired.fp pr λ_ _ z=>(bb bC) _ _ (s3 _ _ z)) aH
 ·rintro aF H' bH;left;obtain⟨s2,ts,rfl,pr⟩:=bH;rw[length_map,take_length]at pr;have lt:ts.length<=4:=by
   have:=Paired.length pr
   omega
  right;refine⟨by simp;omega,λq eS=>⟨⟨_,aK.of aH⟩,pN (src_list (aK.of aH)) (ui (upd H' q (a3.lst (ts.map V.ref)))) (λv=>v) (λy bg Q h=>?_) (λy bg _ Q h=>?_) (by simp;omega) (λD e1=>?_)⟩⟩
  ·left;obtain⟨t,bC,rfl⟩:=mem_map.mp bg;obtain⟨o,e⟩:=U7 pr bC;have e:upd H' q (a3.lst (ts.map V.ref)) t∣.tup [.int o,oC (costOf i w sg cell o)]:=(bb eS) _ _ e
   right;ext;refine(dp (bT.of e) rfl ?_);simp only[ui,e]at h;exact h
  ·ext;exact h
  ·left;obtain⟨us,ar,aw⟩:=Ht (Paired.fp pr λ_ _ z=>(bb (o:=a3.lst (ts.map V.ref)) eS) _ _ z);right;rw[map_id',ar];exact ao D _ ((s1.trans s2).free ((bb eS).free e1)) ((s1.trans s2).trans ((bb eS).trans (bb e1))) ⟨us,aH,Paired.fp aw λ_ _ z=>(bb e1) _ _ z⟩
theorem aap:cv ad (i7 ad.nq ad.nr) 5 (ad.ai 36) q45 (Vk ad.ai):=by
 obtain⟨fd,F,B⟩:=(T 211);refine⟨fd,B,?_⟩;refine F.we Iu.sc.1 ?_ (λcdv A outer s H vs Q E HR h=>oqq λUq uq=>?_);walk_at "l"
 have R:fO _ _ _ _ _:=⟨Iu,HR⟩
 have ND:=R.nd
 walk_at "h"
 obtain⟨p,d,es,n,v,b,c,rfl,ae,b8,hw,ty,ao⟩:=h;obtain⟨aeY,aaq,aar⟩:=YD T;refine uq ⟨_,(aV (fc PassesOwn.leaving (cY rfl) (il (Gf (U 0 R) (T 128) (T 55) (IG T) HR)) (dn 3 R)
 (aX (cN (eF.pt (jl (cp hC (U 3 R) (U 1 R)) (jK (cp q0 (cx (Z4 T) R (T 52) (af (U 2 R) (af (gn (dx HU) (dN (U 0 R) (by rfl)) (U 3 R) (λ_ _=>rfl)) ay))) hi))))
 (aX (UA Uw rfl (fN Xd) (T 155) (T 159) (T 160) aar (HR.mono (by decide)) aaq .nil (af (U 3 R) ay) (hdb:=Ig) (he:=fl rfl) (hpl:=fW rfl)))
 zx)))
 (
 aX (q7 (dx HU) (dN (U 0 R) (by rfl)) (U 1 R) (U 2 R) rfl))),?_⟩
 rfl';left;obtain⟨⟨av,aa⟩,ag⟩:=id ae;have jD:=b8.len
 have good:∀{b:Int}{c:List Int},tx b c->Good b c:=λh=>⟨h.1,by have:=h.2.1;omega,h.2.2.1,by have:=h.2.2.2;omega⟩
 right;ext;refine(f6 aa (jx d ∅) ⟨p,d,es,rfl,ae,⋯,λl ms nl aG aI=>⟨l,rfl,⟨_,aK.of aH⟩,qZ (xs:=ms.map V.int) (λi J H'=>∃x,aQ (upd H l (.lst (ms.map V.int))) H'/\J=[⇑p,↥n,some v,x]/\∀e∈es,e.k∈ms.take i->e.k≠n->¬iz b c e.b e.c) ⟨none,aQ.refl _,rfl,λe _ h=>by simp at h⟩ ?_ ?_ ?_⟩⟩)
 ·rintro i J H' au ⟨x,s1,rfl,hn⟩;exact aK.of (s1 _ _ aH)
 ·rintro i x J H' au bH;left;obtain⟨x0,s1,rfl,hn⟩:=bH;obtain⟨k,aj,rfl⟩:∃k,ms[i]?∣k/\V.int k=x:=by rw[getElem?_map]at au;exact map_eq_some_iff.mp au
  obtain⟨e,he,fy⟩:=mem_map.mp (aG.mem_iff.mp (mem_iff_getElem?.mpr ⟨i,aj⟩));subst fy;have s2:aQ H H':=(bb nl).trans s1
  obtain⟨aas,bM,_⟩:=b8.ok e he;right;ext;by_cases z:e.k=n
  ·rw[aB (by simp[z])];exact⟨s1,FW aj hn λa4 _ fo kr=>br (fo.trans z) kr⟩
  ·rw[aM z];refine(dX (s2 _ _ aa) (T 128) (T 129) (p0 d) ⟨d,rfl,e.v,by rw[<- pY b8.nd he];exact ed.k (k:=.inl e.k) (s2 _ _ ag),v,b,c,e.v,e.b,e.c,rfl,hw.same s2,aas.same s2,good ty,good bM,λr aE o s3 a5 hf=>?_⟩);have s4:=s2.trans s3
   show(if ¬r=V.bx then _ else _)
   have uq:∀a4∈es,a4.k=e.k->a4=e:=λa4 jw y=>FR b8.nd he jw y
   cases o with
   | none=>
    rw[aB (by simp[show r=V.bx from a5])];refine⟨s1.trans s3,FW aj hn λa4 jw y _ hm=>?_⟩;rw[uq a4 jw y]at hm;exact br ((FV hf).mp hm) (by simp)
   | some w=>
    left;obtain⟨t,w⟩:=w;obtain⟨c1,rfl,j4⟩:=a5;right;rw[aM (by simp)];have PI:=Rf aG aI aj he z ((FV hf).mpr rfl) hn
    refine⟨by show 1<=sizeLine;omega,λa aT aL na=>⟨a,e.k,aT,aL,rfl,aH,λav di dO=>⟨rfl,av,aH,?_⟩⟩⟩;have sY:aQ H (del (upd (upd (upd aE a (a3.ext (j0 a (ad.ai 94) none aT aL))) av (a3.nQ (dG "other" (V.int e.k) []))) a (a3.ext (j0 a (ad.ai 94) (some av) aT aL))) a):=λb1 bQ dP=>by
     have a8:=s4 _ _ dP
     have xP:b1≠a:=cg a8 na
     have hu:b1≠av:=λy=>by rw[<- y,zf xP,a8]at di;cases di
     rwa[mj xP,zf xP,zf hu,zf xP]
    exact(ao _ sY).2 e.k av PI (by rw[mj dO,zf dO];exact aH)
 ·rintro J H' bH;left;obtain⟨x,s1,rfl,hn⟩:=bH;have s2:aQ H H':=(bb nl).trans s1
  rw[length_map]at hn;right;ext;refine(dX (s2 _ _ aa) (T 128) (T 129) (p0 d) ⟨d,rfl,_,kf.k (k:=.inl n) (s2 _ _ ag) (by rw[rp];omega),?_⟩);rw[FU es ⟨n,v,b,c⟩];exact(ao H' s2).1 (Rd aG hn)
theorem aat:cv ad bI 5 (ad.ai 81) q09 (WI ad.ai ad.az):=by
 refine cE (T 258) Yw ?_;and_intros;obtain⟨x,i,l,cU,e,fg,aL,r,n,num,b,start,ch,least,TE,w,h,sg,st,es,cR,f0,rfl,au,eV,cw,hm,c6,Cw,cb,sn,s1,c4,eA,hR,hst,gT,oO,iE,hD,no,ao⟩:=h;refine uq ⟨_,(aV (qW (U 3 R) (kK (n:=5) (cY rfl) (fG (dn 5 R) (fG (dn 6 R) (fG (dn 7 R) (fG (dn 8 R) (fG (dn 9 R) kJ)))))))
 (aV (cN (eF.pt (jm (jn (fS (cJ mU R (T 2) (af (dN (U 4 R) (by rfl)) (af (nc (v:=.ty "tuple") R (T 8) rfl) ay))))) (jm (cp hC (cJ zr R (T 0) (af (dN (U 4 R) (by rfl)) ay)) zc) (kH (jn (fS (cJ mU R (T 2) (af (bR dv (dN (U 4 R) (by rfl)) zc (λ_ _=>rfl)) (af (nc (v:=.ty "tuple") R (T 8) rfl) ay)))))))))
 (aX (bY jJ))
 zx)
 (aV (b0 10 R (rD vK R (T 7) (af (bR dv (dN (U 4 R) (by rfl)) zc (λ_ _=>rfl)) ay)))
 (aV (cN (eF.pt (jm (cp hC (bR dv (dN (U 4 R) (by rfl)) zc (λ_ _=>rfl)) (U 6 R)) (jm (cp (v8 HU) (U 10 R) (ww ay)) (jm (cp hC (bR zy (U 10 R) zc (λ_ _=>rfl)) (U 7 R)) (kH (fS (cJ mU R (T 2) (af (dN (U 4 R) (by rfl)) (af (nc (v:=.ty "bool") R (T 5) rfl) ay)))))))))
 (aX (bY jJ))
 zx)
 (aV (b0 11 R (zR (dx HU) (fj (af (cx (xx T) R (T 87) (af (U 5 R) (af zc (af (U 7 R) ay)))) (af (U 7 R) ay))) (U 8 R)))
 (aV (b0 12 R (cx (Z9 T) R (T 89) (af (U 0 R) (af (U 1 R) (af (U 2 R) (af (U 5 R) (af (U 6 R) (af (U 11 R) (af (bG hZ (bG dW (U 6 R) (cJ zr R (T 0) (af (U 10 R) ay))) zc) ay)))))))))
 (aV (b0 13 R (cx (ZY T) R (T 93) (af (U 5 R) (af (U 10 R) ay))))
 (aV (cN (cp (pO HU) (bR zy (U 13 R) (hY h1 zc) (λ_ _=>rfl)) (fj (af (cJ zr R (T 0) (af (U 5 R) ay)) (af (bR zy (U 5 R) (hY h1 zc) (λ_ _=>rfl)) ay))))
 (aX (bY jJ))
 zx)
 (aV (fc PassesOwn.never (cY rfl) (kN (fN Xj) (T 1).1 (af (cJ zr R (T 0) (af (U 10 R) ay)) ay) (dI rfl)) (dn 14 R)
 (aV (b0 15 R (cx (ZX T) R (T 92) (af (U 2 R) (af (U 1 R) (af (U 5 R) (af (bR zy (U 12 R) (U 14 R) (λ_ _=>rfl)) (af (bG dW (U 6 R) (U 14 R)) (af (U 9 R) ay))))))))
 (aX (cN (eF.pt (jm (vl (vO (dx HU) (bR zy (U 13 R) (U 14 R) (λ_ _=>rfl)) (bR zy (U 12 R) (U 14 R) (λ_ _=>rfl))) (by with_unfolding_all rfl)) (kH (cp hC (U 15 R) (hq eH (U 14 R) (bG hZ (cJ zr R (T 0) (af (U 10 R) ay)) zc))))))
 (aX (bY jJ))
 zx))))
 (aV (cN (cp hC (dN (U 4 R) (by rfl)) (gn (dx HU) (bR zy (U 12 R) (hY h1 zc) (λ_ _=>rfl)) (bR zy (U 13 R) (hY h1 zc) (λ_ _=>rfl)) (λ_ _=>rfl)))
 (aX (bY jJ))
 zx)
 (
 aX (bY (cx (aab T) R (T 94) (af (U 0 R) (af (U 1 R) (af (U 2 R) (af (U 5 R) (af (U 6 R) (af (U 12 R) (af (U 13 R) ay)))))))))))))))))))),?_⟩
 rfl';left;obtain⟨av,pp,ll,qA,rs,a5,uI,ph,Jj,tk,Jk⟩:=gT;have tZ:∀k,(Sr.mc (stepT (bk es num) i st n cR) b f0 k).1=Sr.mc (e9 (bk es num) i w sg st n) b f0.1 k:=HX cR f0
 generalize uy:Sr.mc (e9 (bk es num) i w sg st n) b f0.1=TT at tZ
 have hl:∀p:Nat,(Sr.d8 (stepT (bk es num) i st n cR) b f0 (b+p)).1=TT p:=λp=>by
  unfold Sr.d8;rw[show(b+(p:Int)-b).toNat=p by omega];exact tZ p
 have Cy:∀p,dk st sg (TT p):=λp=>by rw[<- hl];exact(Sr.d8 (stepT (bk es num) i st n cR) b f0 (b+p)).2
 have cy:TT 0=[(aW (met st 0 start) start,.int ch)]:=by rw[<- uy,<- hR];rfl
 have eT:∀p,j3 i sg (TT p):=λp=>by
  induction p with
  | zero=>
   rw[cy];intro m c q hm;obtain⟨ar,_⟩:=Prod.ext_iff.mp (mem_singleton.mp hm);rwa[(jz ar).2]
  | succ p bE=>
   have:=HY (op:=cz (bk es num) (b+p)) (n:=n) cR (Cy p) bE
   rw[<- uy]at this ⊢;exact this
 have P:=WU cR c4 oO hl Cy eT cy Jj tk Jk
 have lr:rs.reverse.length=rs.length:=length_reverse
 have aau:∀p:Nat,b+(p:Int)=TE↔p=rs.length-1:=λp=>by omega
 rw[show(rs.map (·.2)).reverse=rs.reverse.map (·.2) by rw[List.map_reverse]]at ph;generalize rs.reverse=ns at P ph lr
 rw[<- lr]at Jj aau;have np:=P.pos
 clear tk Jk lr rs;have jy:([("path",V.ref pp),("left",V.int qA)]:List (Str×V)).lookup ("path":Str)=⇑pp:=rfl
 have me:([("path",V.ref pp),("left",V.int qA)]:List (Str×V)).lookup ("left":Str)=↥qA:=rfl
 right;refine zj (λJ H'=>H'=H/\J=[⇑l,⇑cU,⇑e,⇑fg,⇑r,⇑aL,↥b,↥start,↥ch,↥least,none,none,none,none,none,none]) (λaP aj=>?_) ?_
 ·ext;exact⟨_,bT.of Cw,rfl,_,_,rfl,_,_,rfl,_,_,rfl,_,_,rfl,_,_,rfl,rfl,aj _ _ ⟨rfl,rfl⟩⟩
 rintro cm a9 J iH ⟨rfl,rfl⟩;nofun;refine zj (λJ H'=>H'=iH/\J=[⇑l,⇑cU,⇑e,⇑fg,⇑r,⇑aL,↥b,↥start,↥ch,↥least,none,none,none,none,none,none]) (λaP aj=>?_) ?_
 ·ext;refine(dX a5 (T 118) (T 119) jy (wA (b:=true) (.tup uI) rfl ?_));rw[aB (by decide)];refine(dX a5 (T 118) (T 119) jy ⟨pp,rfl,_,.inr (bT.of uI),?_⟩);rw[aB (λz=>z rfl)];refine(dX a5 (T 118) (T 119) jy ⟨pp,rfl,dp (bT.of uI) rfl (wA (b:=true) (.tup ph) rfl ?_)⟩);rw[aB (by decide)];exact aj _ _ ⟨rfl,rfl⟩
 rintro cm a9 J H1 ⟨rfl,rfl⟩;nofun;refine zj (λJ H'=>∃cl,aQ H1 H'/\H' cl∣.lst ((ns.map (·.2)).map V.int)/\J=[⇑l,⇑cU,⇑e,⇑fg,⇑r,⇑aL,↥b,↥start,↥ch,↥least,⇑cl,none,none,none,none,none]) (λaP aj=>?_) ?_
 ·ext;exact(dX a5 (T 118) (T 119) jy ⟨pp,rfl,dp (bT.of uI) rfl ⟨ll,rfl,_,.inr (bT.of ph),λcl qF=>aj _ _ ⟨cl,bb qF,aH,rfl⟩⟩⟩)
 rintro cm a9 J aE ⟨cl,s2,eD,rfl⟩;nofun;have xI:dH ((ns.map (·.2)).map V.int) 0=↥start:=by
  have cy:=getElem?_eq_getElem (l:=ns) (i:=0) np
  have ar:=P.fst _ cy
  exact gk (j:=0) (by rw[getElem?_map,getElem?_map,cy];exact congrArg (λz=>↥z) ar)
 refine zj (λJ H'=>aQ aE H'/\J=[⇑l,⇑cU,⇑e,⇑fg,⇑r,⇑aL,↥b,↥start,↥ch,↥least,⇑cl,none,none,none,none,none]) (λaP aj=>?_) ?_
 ·ext;refine(dX (s2 _ _ a5) (T 118) (T 119) jy ⟨pp,rfl,dp (v:=V.int b) (bT.of (s2 _ _ uI)) rfl ⟨rfl,?_⟩⟩);rw[aB (λz=>z rfl)];refine⟨⋯,λp nC=>?_⟩;have sp:=bb (o:=a3.lst []) nC
  refine(ow (s6 (aK.of (sp _ _ eD))) (.lst (aK.of aH) .nil) (shaped_ints _) rfl ?_);rw[aB (by cases ns with|nil=>exact br np (by decide)|cons a r=>exactλz=>by cases z)];refine(g9 (v:=V.int start) (aK.of (sp _ _ eD)) xI ⟨rfl,?_⟩);rw[aB (λz=>z rfl)];refine(dX (sp _ _ (s2 _ _ a5)) (T 118) (T 120) me (wA (b:=false) (.int qA) rfl ?_));rw[aB (by decide)];exact aj _ _ ⟨sp,rfl⟩
 rintro cm a9 J bP ⟨s3,rfl⟩;nofun;refine zj (λJ H'=>∃gw,aQ bP H'/\H' gw∣.bc f0.1/\J=[⇑l,⇑cU,⇑e,⇑fg,⇑r,⇑aL,↥b,↥start,↥ch,↥least,⇑cl,⇑gw,none,none,none,none]) (λaP aj=>?_) ?_
 ·ext;intro p nC;refine⟨aL,st,0,start,rfl,((s2.trans s3).trans (bb nC)).seq cb,zero_le _,s1,λH' s'=>⟨by rw[sizeLine_eq];decide,λp1 di=>?_⟩⟩;have iL:=s' _ _ (aH (H:=bP) (a:=p) (o:=a3.bc []))
  have ne1:p≠p1:=cg iL di
  refine⟨by rwa[zf ne1],aW (met st 0 start) start,aH,aj _ _ ⟨p,λa u h=>?_,by rw[aH,hR],rfl⟩⟩;rw[zf (cg h nC)];exact(bb di) _ _ (s' _ _ ((bb nC) _ _ h))
 rintro cm a9 J ck ⟨gw,s4,aav,rfl⟩;nofun;have si:=(s2.trans s3).trans s4
 refine zj (λJ H'=>∃(cX:Addr)(ts:List Addr),aQ ck H'/\H' cX∣.lst (ts.map V.ref)/\ts.length=ns.length/\oH H' st sg TT ts/\J=[⇑l,⇑cU,⇑e,⇑fg,⇑r,⇑aL,↥b,↥start,↥ch,↥least,⇑cl,⇑gw,⇑cX,none,none,none]) (λaP aj=>?_) ?_
 ·ext;refine⟨_,.inl (aK.of ((s3.trans s4) _ _ eD)),x,i,l,cU,e,aL,gw,n,num,b,_,w,h,sg,st,es,f0.1,rfl,au,eV,si _ _ cw,cR,si _ _ hm,c6.same si,si.seq cb,s1,c4,eA,by rw[length_map,length_map];omega,by rw[length_map,length_map];omega,aav,f0.2,λcX H' ts s _ kB aD cP=>aj _ _ ⟨cX,ts,s,kB,by rw[aD,length_map,length_map];omega,by rwa[<- uy],rfl⟩⟩
 rintro cm a9 J dg ⟨cX,ts,s5,kB,qG,Cz,rfl⟩;nofun;refine zj (λJ H'=>∃(nl:Addr)(as:List Addr),aQ dg H'/\H' nl∣.lst (as.map V.ref)/\Paired (lG H') as ns/\J=[⇑l,⇑cU,⇑e,⇑fg,⇑r,⇑aL,↥b,↥start,↥ch,↥least,⇑cl,⇑gw,⇑cX,⇑nl,none,none]) (λaP aj=>?_) ?_
 ·ext;exact⟨aL,cl,st,ns.map (·.2),rfl,(si.trans s5).seq cb,s1,aK.of (((s3.trans s4).trans s5) _ _ eD),λz=>by have:=congrArg length z;rw[length_map]at this;have:ns.length=0:=this;omega,by rw[length_map];omega,λnl H' as s _ lK dr=>aj _ _ ⟨nl,as,s,lK,by rw[P.WS]at dr;exact dr,rfl⟩⟩
 rintro cm a9 J gM ⟨nl,as,dm,lK,dr,rfl⟩;nofun;left;have xQ:=(si.trans s5).trans dm
 have xG:as.length=ns.length:=Paired.length dr
 obtain⟨CA,Jl,xR⟩:=Paired.at2 dr P.lst;have xR:gM CA∣.tup [V.int (st.length:Int),V.int (cG st)]:=xR
 have uF:∀j,j<ns.length->∃t,ts[j]?∣t/\dg t∣.bc (TT j):=λj aZ=>⟨_,getElem?_eq_getElem ⋯,Cz.at' j _ (getElem?_eq_getElem ⋯)⟩
 have xH:∀j,j<ns.length->∃a x,as[j]?∣a/\ns[j]?∣x/\lG gM a x:=λj aZ=>by
  left;obtain⟨a,aN,hn⟩:=Paired.at2 dr (getElem?_eq_getElem aZ);right;exact⟨a,_,aN,getElem?_eq_getElem aZ,hn⟩
 right;refine zj (λJ H'=>aQ gM H'/\J=[⇑l,⇑cU,⇑e,⇑fg,⇑r,⇑aL,↥b,↥start,↥ch,↥least,⇑cl,⇑gw,⇑cX,⇑nl,none,none]) (λaP aj=>?_) ?_
 ·ext;refine(g9 (v:=V.ref CA) (aK.of lK) (xr (by rw[length_map,getElem?_map,xG,Jl];rfl)) ⟨_,.inl (xQ.seq cb),_,xQ.seq cb,_,uj sn,by rw[sizeLine_eq];decide,λp nC=>?_⟩);rw[length_map];have sp:=bb (o:=a3.tup [V.int (st.length:Int),V.int (cG st)]) nC
  refine(ow (s7 (ns:=[(st.length:Int),cG st]) (bT.of (sp _ _ xR))) (s7 (ns:=[(st.length:Int),cG st]) (bT.of aH)) (rh _) (rh _) ?_);rw[aB (by rw[l4 _ (SeqAt.canLay_of_shaped (rh _))];decide)];exact aj _ _ ⟨sp,rfl⟩
 rintro cm a9 J gi ⟨dM,rfl⟩;nofun;refine zj (λJ H'=>∃gx gK,aQ gi H'/\J=[⇑l,⇑cU,⇑e,⇑fg,⇑r,⇑aL,↥b,↥start,↥ch,↥least,⇑cl,⇑gw,⇑cX,⇑nl,gx,gK]) (λaP aj=>?_) ?_
 ·ext;refine⟨_,.inl (aK.of ((((s3.trans s4).trans s5).trans (dm.trans dM)) _ _ eD)),⋯,by rw[length_map,length_map];omega,m6 (λj J H'=>∃gx gK,aQ gi H'/\J=[⇑l,⇑cU,⇑e,⇑fg,⇑r,⇑aL,↥b,↥start,↥ch,↥least,⇑cl,⇑gw,⇑cX,⇑nl,gx,gK]) ⟨none,none,aQ.refl _,rfl⟩ ?_ λJ H' ⟨gx,gK,s,e⟩=>aj _ _ ⟨gx,gK,s,e⟩⟩;rintro j J H' N aZ bH b9;left;obtain⟨gx,gK,s,rfl⟩:=bH;have aZ:j<ns.length:=by rw[length_map,length_map]at aZ;omega
  have mw:=(xQ.trans dM).trans s
  have oT:=(dm.trans dM).trans s
  have sj:=dM.trans s
  obtain⟨xS,Jm,Jn⟩:=uF j aZ;obtain⟨aaw,aax,aay,aaz,aaA⟩:=xH j aZ;right;ext;rw[show(0:Int)+(j:Int)=j by omega];refine(g9 (v:=V.ref xS) (aK.of (oT _ _ kB)) (gk (by rw[getElem?_map,Jm];rfl)) ⟨e,cU,aL,xS,es,x,n,num,st,sg,TT j,b+j,least,rfl,c6.same mw,mw _ _ hm,mw.seq cb,sn,s1,oT _ _ Jn,Cy j,λmT f5 fk qc=>?_⟩);have eb:f5=decide ((j:Int)=(ns.length:Int)-1):=by
   rw[Bool.eq_iff_iff,qc,decide_eq_true_eq,<- hl j];constructor
   ·intro y;by_cases z:b+(j:Int)<TE
    ·exact br y (no _ ⋯ z)
    ·omega
   ·intro z;rwa[show b+(j:Int)=TE by omega]
  have CB:=oT.trans fk
  have Jo:=sj.trans fk
  refine(g9 (v:=V.ref aaw) (aK.of (Jo _ _ lK)) (gk (by rw[getElem?_map,aay];rfl)) (g9 (v:=V.ref xS) (aK.of (CB _ _ kB)) (gk (by rw[getElem?_map,Jm];rfl)) ⟨xS,rfl,_,ed.t (CB _ _ Jn) (Jo _ _ aaA),?_⟩));rw[aB (by obtain⟨q,aJ⟩:=P.ins j aax aaz;rw[aJ];exactλz=>by cases z)];refine⟨_,.inl (aK.of ((((s3.trans s4).trans s5).trans CB) _ _ eD)),rfl,?_⟩;rw[length_map,length_map,<- eb,aB (λz=>z rfl)];exact b9 _ _ ⟨_,_,s.trans fk,rfl⟩
 rintro cm a9 J mT ⟨gx,gK,fk,rfl⟩;nofun;left;have mw:=(xQ.trans dM).trans fk
 have oT:=(dm.trans dM).trans fk
 have sj:=dM.trans fk
 obtain⟨Jp,aaB,aaC⟩:=uF (ns.length-1) ⋯;have aaD:oH mT st sg TT ts:=⟨λj t h=>oT _ _ (Cz.at' j t h),Cz.ok⟩
 right;ext;refine(dX (mw _ _ a5) (T 118) (T 120) me (g9 (v:=V.ref Jp) (aK.of (oT _ _ kB)) (xr (by rw[length_map,getElem?_map,qG,aaB];rfl)) (g9 (v:=V.ref CA) (aK.of (sj _ _ lK)) (xr (by rw[length_map,getElem?_map,xG,Jl];rfl)) ⟨Jp,rfl,.int qA,by rw[<- P.WT];exact ed.t (oT _ _ aaC) (sj _ _ xR),rfl,?_⟩)));rw[aB (λz=>z rfl)];exact⟨x,i,l,cU,e,aL,cX,nl,n,num,b,w,h,sg,st,es,TT,ts,as,ns,rfl,au,eV,mw _ _ cw,cR,mw _ _ hm,c6.same mw,mw.seq cb,s1,c4,oT _ _ kB,qG,aaD,sj _ _ lK,Paired.fp dr λ_ _ h=>sj _ _ h,⋯,P.led,λH' s=>ao _ (mw.trans s)⟩
theorem aaE:cv ad bI 6 (ad.ai 53) ["self","node"] (VJ ad.ai ad.az):=by
 refine cE (T 228) Yx ?_;and_intros;obtain⟨p,b,S,i,n,w,h,sg,st,m,c,rfl,o,ae,hm,ak,ao⟩:=h;refine uq ⟨_,(aV (cN (vl (vO (dx HU) (U 1 R) (dN (U 0 R) (by rfl))) (by with_unfolding_all rfl))
 (aV (b0 2 R (pS (k:=5) (dN (U 0 R) (by rfl)) (ff (T 104) (T 143) (xO T) (ff (T 108) (T 146) (xO T) (ff (T 112) (T 150) (xO T) (ff (T 115) (T 38) (xO T) pR)))) (HR.mono (by decide)) (af (dN (U 0 R) (by rfl)) (af (bR dv (U 1 R) zc (λ_ _=>rfl)) ay)) (hst:=fl rfl) (hpl:=fW rfl)))
 (aX (q7 (dx HU) (dN (U 0 R) (by rfl)) (U 1 R) (kg (gD.of (hG:=bU xa) (tn:=["other","cost"]) (cn:=["node","self"]) (dR:=[1,0]) rfl rfl ∅ ∅ ∅ ∅ rfl) (cY rfl)  (il (U 2 R))
 (λ_ _ _ _ _=>(QO rfl (cY rfl) (show(["other","cost","node","self"]:List Str).Nodup by decide +kernel) (Or.inl rfl) (Or.inl rfl) rfl rfl)) (λ_ _ _ _ _=>od) (λ_ _ _ _ _=>(fj (af (e4 (cK 3) (T 132) (T 70) (IM T) HR (af (cK 2) (af (cK 0) ay))) (af (cK 1) ay))))) rfl)))
 zx)
 (
 aX (bY (gn (dx HU) (dN (U 0 R) (by rfl)) (U 1 R) (λ_ _=>rfl))))),?_⟩
 rfl';left;obtain⟨av,aa⟩:=id o.sp;obtain⟨h9,ag⟩:=id o.rW;obtain⟨kvs,k1,k2,k3,td⟩:=id o.hg;have ic:=jv o.g
 have dI:=o.dI
 have qA:=tH k2 k3 o.dI ic.2
 have kA:∀{H':ah}{bF:List (List Key×V)},H' S.bA∣.bc bF->H' b∣.tup ((aW m c).map bq)->ed H' S.bA (.ref b) (aS bF (aW m c)):=λar aw=>ed.t ar aw
 right;refine zj (λJ H'=>∃(x:Option V)(bF:List (List Key×V))(l:Addr),v6 S.bA H H'/\e7 H' S.bA i w sg st/\(∀z,oE H S.bA z->H z≠none->oE H' S.bA z/\l≠z)/\lu H' l (hc i w sg st m c)/\H' S.bA∣.bc bF/\aS bF (aW m c)∣.ref l/\J=[⇑p,⇑b,x]) (λaP aj=>?_) ?_
 ·ext;refine(dX aa (T 132) (T 138) (BJ S) ⟨_,rfl,_,kA k1 ae,?_⟩);cases aJ:aS kvs (aW m c) with
  | some v=>
   rw[aB (by simp)];obtain⟨l,rfl,q⟩:=td m c v aJ;exact aj _ _ ⟨none,kvs,l,gr (aQ.refl _),o.hg,λz hz _=>⟨hz,hz kvs _ l k1 aJ⟩,q,k1,aJ,rfl⟩
  | none=>
   rw[aM (by rfl)];have l5:(dG "full" (V.int n) []).lookup ("steps":Str)=none:=rS n ∅
   refine(dX aa (T 132) (T 134) (HC S) ⟨S.cU,h9,_,(eJ ad.ai i,Hm ad.ai),BF i o.eV,rfl,ag,l5,dX aa (T 132) (T 133) (BK S) (dp (bT.of ae) rfl ⟨S.cU,S.bJ,i,n,w,h,sg,c,rfl,o.rW,o.eV,o.qq,o.g,ak,λhF H1 aeZ s1 pl=>?_⟩)⟩);left;obtain⟨ts,Jq,pr⟩:=pl;have qG:=Paired.length pr
   have lst:=Hv (f:=costOf i w sg c) (os:=dc w sg c)
   have ae0:=rT (w:=w) (sg:=sg) (c:=c)
   have Zb:ts.length<=4:=by unfold oD at qG;omega
   have uk:∀j,j<ts.length->∃t e,ts[j]?∣t/\(oD i w sg c)[j]?∣e/\ug H1 t e:=λj aZ=>by
    left;obtain⟨e,ar,aw⟩:=Paired.ju pr (getElem?_eq_getElem aZ);right;exact⟨_,e,getElem?_eq_getElem aZ,ar,aw⟩
   right;refine⟨hF,rfl,⟨_,aK.of Jq⟩,RP (K:=ad.az) (a:=hF) (ts:=ts) (u:=λj=>.int ((oD i w sg c).getD j (0,0)).1) (v:=λj=>.int ((oD i w sg c).getD j (0,0)).2) (λj aF H'=>aQ H1 H'/\∃us:List Addr,aF=us.map V.ref/\Paired (jc H') us ((hc i w sg st m c).take j)) ⟨aQ.refl _,[],rfl,.nil⟩ (λj aF H' _ ⟨s2,_⟩=>aK.of (s2 _ _ Jq)) (λj aF H' t bC ⟨s2,_⟩=>?_) (λj aF H' aZ ⟨s2,us,e,pu⟩=>?_) (λaF H' ⟨s2,us,e,pu⟩=>?_)⟩
   ·left;obtain⟨t',a4,ar,aw,bV⟩:=uk j (wa4.mp bC).1;rw[bC]at ar;cases ar;right;refine bT.of ?_;rw[getD_eq_getElem?_getD,aw];exact s2 _ _ bV
   ·left;obtain⟨t',a4,ar,aw,bV⟩:=uk j aZ;right;rw[getD_eq_getElem?_getD,aw];subst e;have fm:=(o.same s1).same s2
    obtain⟨lx,aR⟩:=id fm.sp;have aaF:us.length<=4:=by
     have:=Paired.length pu
     rw[length_take]at this;omega
    ext;refine(f6 aR (qp S ∅) ⟨p,b,S,m,c,a4.1,st,rfl,fm.sp,s2 _ _ (s1 _ _ ae),fm.xl,hm,dI,λu gb=>⟨⋯,λv gW=>⟨by rw[length_map];omega,s2.trans ((bb gb).trans (bb gW)),us++[v],by simp,?_⟩⟩⟩);have fy:(hc i w sg st m c).take (j+1)=(hc i w sg st m c).take j++[(aW (met st m a4.1) a4.1,a4.2)]:=by
     rw[take_add_one];unfold hc;rw[getElem?_map,aw];rfl
    rw[fy];exact Paired.snoc (Paired.fp pu λ_ _ z=>z.cH (mZ ((bb gb).trans (bb gW)))) ⟨u,aH,(bb gW) _ _ aH⟩
   ·subst e;have ln:(hc i w sg st m c).length=ts.length:=by unfold hc;rw[length_map,qG]
    rw[<- ln,take_length]at pu;have aaF:=Paired.length pu
    refine⟨by rw[length_map];omega,λD fb=>?_⟩;have ji:=s1.trans s2
    have sk:=ji.trans (bb (o:=a3.lst (us.map V.ref)) fb)
    obtain⟨lx,aR⟩:=(o.same sk).sp;have CC:=sk _ _ k1
    have aaG:D≠S.bA:=λz=>by rw[z,ji _ _ k1]at fb;cases fb
    have Jr:fZ (upd H' D (a3.lst (us.map V.ref))) (upd (upd H' D (a3.lst (us.map V.ref))) S.bA (.bc (putK kvs (aW m c) (.ref D)))):=λb1 xs z=>by rwa[zf (cM z CC nofun)]
    have Js:lu (upd (upd H' D (a3.lst (us.map V.ref))) S.bA (.bc (putK kvs (aW m c) (.ref D)))) D (hc i w sg st m c):=⟨us,by rw[zf aaG,aH],Paired.fp pu λ_ _ z=>(z.cH (mZ (bb fb))).cH Jr⟩
    refine(dX aR (T 132) (T 138) (BJ S) ⟨_,rfl,_,kf.t (k:=aW m c) CC (sk _ _ ae) ⋯,aj _ _ ⟨_,putK kvs (aW m c) (.ref D),D,h3 (gr sk),⟨_,aH,wu k2,RB k3 hm ak.1 ak.2,λba aY v iW=>?_⟩,λz hz hn=>⟨λbF k l ar aw=>?_,λy=>hn (y ▸ ji.free fb)⟩,Js,aH,by rw[mP,aM rfl],rfl⟩⟩)
    ·rw[mP]at iW;split at iW
     ·left;rename_i e;obtain⟨rfl,rfl⟩:=jz e;cases iW;right;exact⟨D,rfl,Js⟩
     ·left;obtain⟨l,rfl,q⟩:=td ba aY v iW;right;exact⟨l,rfl,(q.keep (mZ sk) (λ_ y=>sk _ _ y)).keep Jr λ_ y=>by rwa[zf (cM y CC nofun)]⟩
    ·rw[aH]at ar;cases ar;rw[mP]at aw;split at aw
     ·cases aw;exactλy=>hn (y ▸ ji.free fb)
     ·exact hz kvs k l k1 aw
 rintro cm a9 J H1 ⟨x,bF,l,sB,bA,hg,nl,ar,aw,rfl⟩;nofun;obtain⟨lx,aR⟩:=(o.b sB bA).sp;ext;refine(dX aR (T 132) (T 138) (BJ S) ⟨_,rfl,.ref l,?_,ao l H1 sB bA hg nl⟩);rw[<- aw];exact kA ar (sB _ _ ae (cM ae k1 nofun))
theorem aaH:cv ad bI 6 (ad.ai 71) q18 (VS ad.ai ad.az):=by
 refine cE (T 248) Yy ?_;and_intros;obtain⟨a,l,ns,f,num,w,h,sg,rfl,cb,ae,f0,f1,cw,g,ao⟩:=h;obtain⟨ae1,aaI,aaJ⟩:=aap T;refine uq ⟨_,(aV (zl (i:=4) (gD.of (hG:=bU qj) (tn:=["_law_cell"]) (cn:=["_law_lines"]) (dR:=[2]) rfl rfl ∅ ∅ ∅ ∅ rfl) (cY rfl) ND rfl Xa (kN (fN B0) (T 1).1 (af (bG mL (cJ zr R (T 0) (af (U 2 R) ay)) (cJ kd R (T 0) (af (bR zy (U 2 R) zc (λ_ _=>rfl)) ay))) ay) (dI rfl))
 (λ_ _ _ _ _=>(hX (i:=0) (show(["_law_cell","_law_lines"]:List Str).Nodup by decide +kernel) rfl (Or.inl rfl))) (λ_ _ _ _ _=>(pK (cp hC (gR (nA T) HR (T 78) W5 (af (cK 1) (af (cK 0) ay))) eh))) (λ_ _ _ _ _=>(cK 0)) (hsw:=by rfl))
 (aV (b0 5 R (R7 (T 130) (YM T) R (T 127)))
 (aV (b0 6 R y4)
 (aV (fc PassesOwn.never (cY rfl) (kN (fN B0) (T 1).1 (af (bR zy (ww (af zc (af zc (af zc (af zc (af zc (af zc ay))))))) (bG fH (cx (nB T) R (T 76) (af (U 0 R) (af (U 1 R) ay))) zc) (λ_ _=>rfl)) ay) (dI rfl)) (dn 7 R)
 (aV (b0 8 R (cx (nB T) R (T 76) (af (U 0 R) (af (bG dW (bG dW (U 1 R) zc) (U 7 R)) ay))))
 (aV (b0 9 R (ww (af (bR zy (U 4 R) (bG fH (U 8 R) (cJ zr R (T 0) (af (U 4 R) ay))) (λ_ _=>rfl)) ay)))
 (aV (fc PassesOwn.never (cY rfl) (kN (fN B0) (T 1).1 (af (bG fH (bG ip (U 8 R) zc) zc) ay) (dI rfl)) (dn 10 R)
 (aV (b0 11 R (bG yW (ww (af (bR zy (U 9 R) (hY h1 zc) (λ_ _=>rfl)) ay)) (cx (IP T) R (T 79) (af (U 2 R) (af (bR zy (U 9 R) (hY h1 zc) (λ_ _=>rfl)) ay)))))
 (aX (hj (hE wa1 wa2 wa3 i0 (U 9 R) (af (bR zy (U 11 R) (bG fH (bG ip (U 8 R) (bG dW zc (bG mL zc (U 10 R)))) (cJ zr R (T 0) (af (U 11 R) ay))) (λ_ _=>rfl)) ay))))))
 (aV (b0 12 R (bR zy (ww (af zc (af zc (af zc (af zc ay))))) (bG fH (bG dW (U 7 R) (bG ip (U 8 R) zc)) zc) (λ_ _=>rfl)))
 (aV (b0 13 R (fj (af (bG fH (bG ip (U 8 R) zc) zc) (af (rD OK R (T 8) (af (U 9 R) ay)) ay))))
 (aX (RS rfl rfl (fN Xm) (T 155) Ig (λpins th kj aaK=>(aX (hj (zI (U 5 R) (T 128) (T 53) aaJ (HR.mono (by decide)) aaI .nil aaK (af (U 12 R) (af (U 13 R) ay)) (hst:=fl rfl) (hpl:=fW rfl)))))
 (λpins a0 gF av ob mk=>(aX DG))
 (aX (q7 (dx HU) (U 6 R) (U 12 R) (U 13 R) rfl))))))))))
 (
 aX (bY (fj (af (U 5 R) (af (U 6 R) ay))))))))),?_⟩
 rfl';have cZ:=g.cZ
 have ey:=g.ey
 have h0:=g.h0
 have aa:=g.aa
 have len:=g.len
 have ic:=jv g
 have cy:dH ((Fl.linesOf w h sg).map V.str) 0∣V.str (gQ w sg 0):=gk (j:=0) (by rw[getElem?_map,l8 ⋯];rfl)
 have fA:=l7 g (show 0<h by omega)
 have em:((h:Int)*(w:Int))=((sg.length:Nat):Int):=by rw[len,Nat.mul_comm];simp
 have cl:=UY g
 have lQ:cellsOf sg≠[]:=by
  left;obtain⟨c,ak,aaL⟩:=g.cell;obtain⟨j,aZ⟩:=mem_iff_getElem?.mp ak;right;intro z;have hm:((j:Nat):Int)∈cellsOf sg:=wk.mpr (by
   unfold gH at_;have:=(wa4.mp aZ).1
   rw[toNat_natCast,getD_eq_getElem?_getD,aZ,decide_eq_true (show(0:Int)<=(j:Nat) by omega),decide_eq_true (show((j:Nat):Int)<sg.length by omega)];simpa using aaL)
  rw[z]at hm;cases hm
 have cin:∀c∈cellsOf sg,en sg c:=λc ak=>by
  have:=wk.mp ak
  unfold gH at this;simp only[and_eq_true,decide_eq_true_eq]at this;exact this.1
 refine zj (λJ H'=>∃pc,aQ H H'/\H pc=none/\H' pc∣.lst ((cellsOf sg).map V.int)/\J=[⇑a,↥f,⇑l,↥num,⇑pc,none,none,none,none,none,none,none,none,none]) (λaP aj=>?_) ?_
 ·ext;refine⟨_,.inl (aK.of cw),_,aK.of cw,_,cy,_,rfl,by rw[fA];omega,?_⟩;rw[fA,length_map,mY];refine⟨.inl ⟨⋯,⋯⟩,by rw[em];omega,by rw[em];omega,?_⟩;rw[em,toNat_natCast];refine pN src_range (BC sg) (λv=>v) (λy bg Q bN=>?_) (λy bg _ Q bN=>?_) (by rw[length_map,List.length_range];omega) ?_
  ·left;obtain⟨i,au,rfl⟩:=mem_map.mp bg;have jR:=mem_range.mp au
   right;ext;refine⟨l,w,h,sg,_,rfl,cw,g,⋯,⋯,rfl,?_⟩;have e:BC sg (V.int (0+((i:Nat):Int)))=!decide (dw (at_ sg (0+((i:Nat):Int)))=V.str (!"#")):=by
    show(!decide _)=_
    congr 1
    exact decide_eq_decide.mpr rX.symm
   rw[e]at bN;exact bN
  ·ext;exact bN
  ·intro D e1;have e:((((range sg.length).map λi=>V.int (0+((i:Nat):Int))).filter (BC sg)).map λv=>v)=(cellsOf sg).map V.int:=by
    rw[map_id',cellsOf,places];have:((range sg.length).map λi=>V.int (0+((i:Nat):Int)))=((range sg.length).map λi=>((i:Nat):Int)).map V.int:=by
     rw[map_map];refine map_congr_left λi _=>?_;simp
    rw[this,filter_map];rfl
   rw[e];exact aj _ _ ⟨D,bb e1,e1,aH,rfl⟩
 rintro cm a9 J H1 ⟨pc,s1,ae2,aaM,rfl⟩;nofun;refine zj (λJ H'=>∃p d,aQ H1 H'/\H1 d=none/\kl (ad.ai 90) H' p d []/\J=[⇑a,↥f,⇑l,↥num,⇑pc,⇑p,none,none,none,none,none,none,none,none]) (λaP aj=>?_) ?_
 ·ext;intro x av di dO ik;refine⟨x,av,rfl,aH,λd nd=>⟨rfl,?_⟩⟩;obtain⟨eO,dh,aaN⟩:=made (o3:=a3.bO []) (rr:=.ins (ad.ai 90) av (wl d)) di dO ik nd;exact aj _ _ ⟨x,d,eO,aaN,⟨⟨av,aH⟩,by rw[zf dh,aH];rfl⟩,rfl⟩
 rintro cm a9 J aE ⟨p,d,s2,nd,CD,rfl⟩;nofun;refine zj (λJ H'=>∃e,aQ H1 H'/\H1 e=none/\kz (ad.ai 90) H' p d e []/\J=[⇑a,↥f,⇑l,↥num,⇑pc,⇑p,⇑e,none,none,none,none,none,none,none]) (λaP aj=>?_) ?_
 ·ext;exactλe ne=>aj _ _ ⟨e,s2.trans (bb ne),s2.free ne,Vx CD ne,rfl⟩
 rintro cm a9 J bP ⟨e,s3,ne,CE,rfl⟩;nofun;refine zj (λJ H'=>∃es g0 jE eX d2 d3 ea fB,aQ H1 H'/\kz (ad.ai 90) H' p d e es/\J=[⇑a,↥f,⇑l,↥num,⇑pc,⇑p,⇑e,g0,jE,eX,d2,d3,ea,fB]) (λaP aj=>?_) ?_
 ·ext;refine⟨⋯,λq c3=>⟨a,ns,_,rfl,((s1.trans s3).trans (bb c3)).seq cb,ae,f0,⋯,λu ae3 kk=>⟨u,rfl,by decide,_,aK.of aH,?_⟩⟩⟩;left;obtain⟨CF,ae4,iB⟩:∃CF:Nat,CF<=3/\dH [V.int 1,V.int 2,V.int 0,V.int 1,V.int 2,V.int 3] (u%6)=↥(CF:Int):=by
   have fx:=Ib u
   rcases fx with z|z|z|z|z|z<;>rw[z]
   ·exact⟨1,by decide,rfl⟩
   ·exact⟨2,by decide,rfl⟩
   ·exact⟨0,by decide,rfl⟩
   ·exact⟨1,by decide,rfl⟩
   ·exact⟨2,by decide,rfl⟩
   ·exact⟨3,by decide,rfl⟩
  right;refine⟨_,iB,_,rfl,⋯,⋯,?_⟩;rw[toNat_natCast];refine m6 (λj J H'=>∃es g0 jE eX d2 d3 ea fB,aQ H1 H'/\kz (ad.ai 90) H' p d e es/\J=[⇑a,↥f,⇑l,↥num,⇑pc,⇑p,⇑e,g0,jE,eX,d2,d3,ea,fB]) ⟨[],none,none,none,none,none,none,none,s3.trans (bb c3),CE.same (bb c3),rfl⟩ ?_ ?_
  ·rintro j J H' N aZ bH b9;left;obtain⟨es,g0,jE,eX,d2,d3,ea,fB,s4,tw4,rfl⟩:=bH;have qH:aQ H H':=s1.trans s4
   right;refine zj (λJ cO=>∃v:Int,0<=v/\cO=H'/\J=[⇑a,↥f,⇑l,↥num,⇑pc,⇑p,⇑e,some (V.int (0+(j:Int))),↥v,eX,d2,d3,ea,fB]) (λaP aj=>?_) ?_
   ·ext;exact⟨a,ns,_,rfl,qH.seq cb,ae,⋯,⋯,λv v0 v1=>aj _ _ ⟨v,v0,rfl,rfl⟩⟩
   rintro cm a9 J dg ⟨v,v0,rfl,rfl⟩;nofun;refine zj (λJ cO=>∃wl dj,dg wl=none/\aQ dg cO/\cO wl∣.lst [V.int dj]/\en sg dj/\J=[⇑a,↥f,⇑l,↥num,⇑pc,⇑p,⇑e,some (V.int (0+(j:Int))),↥v,⇑wl,d2,d3,ea,fB]) (λaP aj=>?_) ?_
   ·ext;left;have ae5:=length_pos_iff.mpr lQ
    have ar:=emod_nonneg v (show((cellsOf sg).length:Int)≠0 by omega)
    have aw:=emod_lt_of_pos v (show(0:Int)<(cellsOf sg).length by omega)
    obtain⟨i,au⟩:=eq_ofNat_of_zero_le ar;obtain⟨c,ak⟩:∃c,(cellsOf sg)[i]?∣c:=⟨_,getElem?_eq_getElem ⋯⟩;have Jt:=s4 _ _ aaM
    right;refine⟨_,.inl (aK.of Jt),by rw[length_map];omega,g9 (v:=V.int c) (aK.of Jt) (by rw[length_map,au];exact gk (by rw[getElem?_map,ak];rfl)) ⟨⋯,λq c3=>aj _ _ ⟨q,c,c3,bb c3,aH,cin c (mem_of_getElem? ak),rfl⟩⟩⟩
   rintro cm a9 J gM ⟨wl,dj,aaO,dm,aaP,aaQ,rfl⟩;nofun;refine zj (λJ cO=>∃cs d2 d3,aQ dg cO/\cO wl∣.lst (cs.map V.int)/\cs≠[]/\cs.length<=10/\(∀c∈cs,en sg c)/\J=[⇑a,↥f,⇑l,↥num,⇑pc,⇑p,⇑e,some (V.int (0+(j:Int))),↥v,⇑wl,d2,d3,ea,fB]) (λaP aj=>?_) ?_
   ·ext;refine⟨⟨by decide,by decide⟩,by decide,⋯,⋯,m6 (λjf J cO=>∃cs d2 d3,aQ dg cO/\cO wl∣.lst (cs.map V.int)/\cs≠[]/\cs.length=jf+1/\(∀c∈cs,en sg c)/\J=[⇑a,↥f,⇑l,↥num,⇑pc,⇑p,⇑e,some (V.int (0+(j:Int))),↥v,⇑wl,d2,d3,ea,fB]) ⟨[dj],d2,d3,dm,aaP,by simp,rfl,λc ak=>by rwa[mem_singleton.mp ak],rfl⟩ ?_ ?_⟩
    ·rintro jf J cO ae6 ae7 bH aaR;left;obtain⟨cs,d2,d3,dM,mx,uJ,CG,uK,rfl⟩:=bH;have Ju:en sg (cG cs):=uK _ (by
      unfold cG;rw[getD_eq_getElem?_getD,getElem?_eq_getElem ⋯];exact List.getElem_mem _)
     have Jv:=uj uJ
     right;ext;have be:=rT (w:=w) (sg:=sg) (c:=cG cs)
     refine(g9 (aK.of mx) Jv ⟨⋯,λa8 jF=>(g9 (aK.of ((bb jF) _ _ mx)) Jv ⟨l,w,h,sg,_,rfl,(qH.trans (dM.trans (bb jF))) _ _ cw,g,Ju,λbK aE Cf s2 Cg=>⟨bK,rfl,_,s2 _ _ aH,_,Cg,by rw[length_map];simp only[length_cons,length_nil];omega,λdZ qD=>?_⟩⟩)⟩);have r8:[V.int (cG cs)]++(dc w sg (cG cs)).map V.int=([cG cs]++dc w sg (cG cs)).map V.int:=rfl
     rw[r8];left;have ji:=(bb (o:=a3.lst [V.int (cG cs)]) jF).trans s2
     have fk:=ji.trans (bb (o:=a3.lst (([cG cs]++dc w sg (cG cs)).map V.int)) qD)
     have xT:=fk _ _ mx
     have ol:0<([cG cs]++dc w sg (cG cs)).length:=by simp
     have ar:=emod_nonneg (v/(45+7*(0+(jf:Int)))) (show(([cG cs]++dc w sg (cG cs)).length:Int)≠0 by omega)
     have aw:=emod_lt_of_pos (v/(45+7*(0+(jf:Int)))) (show(0:Int)<([cG cs]++dc w sg (cG cs)).length by omega)
     obtain⟨i,au⟩:=eq_ofNat_of_zero_le ar;obtain⟨c,ak⟩:∃c,([cG cs]++dc w sg (cG cs))[i]?∣c:=⟨_,getElem?_eq_getElem ⋯⟩;have qg:en sg c:=by
      rcases mem_append.mp (mem_of_getElem? ak) with y|y
      ·rwa[mem_singleton.mp y]
      ·exact qn g y
     right;refine⟨.inl ⟨rfl,_,aK.of xT⟩,.inl ⟨by decide,by decide⟩,⟨⋯,⋯⟩,_,.inl (aK.of aH),by rw[length_map];omega,g9 (v:=V.int c) (aK.of aH) (by rw[length_map,au];exact gk (by rw[getElem?_map,ak];rfl)) ⟨_,xT,by rw[length_map];omega,aaR _ _ ⟨cs++[c],_,_,kW (dM.trans fk) aaO,by rw[aH,map_append];rfl,by simp,by simp[CG],λaY hT=>?_,rfl⟩⟩⟩;rcases mem_append.mp hT with y|y
     ·exact uK aY y
     ·rwa[mem_singleton.mp y]
    ·rintro J cO ⟨cs,d2,d3,dM,mx,uJ,CG,uK,rfl⟩;exact aj _ _ ⟨cs,d2,d3,dM,mx,uJ,⋯,uK,rfl⟩
   rintro cm a9 J gi ⟨cs,CH,CI,dM,mx,uJ,CG,uK,rfl⟩;nofun;refine zj (λJ cO=>∃o:Int,0<=o/\o<=40/\aQ dg cO/\cO wl∣.lst (cs.map V.int)/\J=[⇑a,↥f,⇑l,↥num,⇑pc,⇑p,⇑e,some (V.int (0+(j:Int))),↥v,⇑wl,CH,CI,↥o,fB]) (λaP aj=>?_) ?_
   ·ext;refine⟨⋯,λq c3=>⟨⟨by decide,by decide⟩,by decide,_,aK.of aH,?_⟩⟩;have b4:=WC (0+(j:Int)+v/9000)
    rcases b4 with z|z|z|z<;>rw[z]
    ·exact⟨_,rfl,aj _ _ ⟨3,by decide,by decide,dM.trans (bb c3),(bb c3) _ _ mx,rfl⟩⟩
    ·exact⟨_,rfl,aj _ _ ⟨0,by decide,by decide,dM.trans (bb c3),(bb c3) _ _ mx,rfl⟩⟩
    ·exact⟨_,rfl,aj _ _ ⟨7,by decide,by decide,dM.trans (bb c3),(bb c3) _ _ mx,rfl⟩⟩
    ·exact⟨_,rfl,aj _ _ ⟨1,by decide,by decide,dM.trans (bb c3),(bb c3) _ _ mx,rfl⟩⟩
   rintro cm a9 J mT ⟨o,o0,km,fk,xT,rfl⟩;nofun;refine zj (λJ cO=>∃wv b,aQ dg cO/\ef cO wv b cs/\tx b cs/\J=[⇑a,↥f,⇑l,↥num,⇑pc,⇑p,⇑e,some (V.int (0+(j:Int))),↥v,⇑wl,CH,CI,↥o,some wv]) (λaP aj=>?_) ?_
   ·ext;exact⟨⟨by decide,by decide⟩,by decide,_,.inl ⟨aK.of xT,λq c3=>⟨⋯,λr cI=>aj _ _ ⟨.ref r,v/4001%3,fk.trans ((bb c3).trans (bb cI)),⟨r,q,rfl,aH,(bb cI) _ _ aH⟩,⟨uJ,⋯,⋯,⋯⟩,rfl⟩⟩⟩⟩
   rintro cm a9 J l1 ⟨wv,b,gp,iJ,ty,rfl⟩;nofun;left;have tw9:=tw4.same gp
   obtain⟨⟨av,aA⟩,hd⟩:=id tw9.b3;right;ext;refine⟨λa7 cls uf H'=>cls=.ref (ad.ai 94)/\aQ l1 H'/\a7=[⇑a,↥f,⇑l,↥num,⇑pc,⇑p,⇑e,some (V.int (0+(j:Int))),↥v,⇑wl,CH,CI,↥o,some wv],(f6 aA (jx d ∅) ⟨p,d,es,o,wv,b,cs,rfl,tw9.b3,tw9.b8,iJ,ty,λrf l2=>⟨λPI=>?_,λk x PI aq=>⟨rfl,l2,rfl⟩⟩⟩),?_⟩
   ·have tw10:=tw9.same l2
    have jD:=tw10.b8.len
    have eI:upd rf d (a3.bO (c0 (m1 es ⟨o,wv,b,cs⟩))) e∣.bO (c0 es):=by rw[zf tw10.ne.symm];exact tw10.c2
    refine⟨_,kf.k (k:=.inl o) eI (by rw[rp];omega),?_⟩;rw[FU es ⟨o,wv,b,cs⟩];exact b9 _ _ ⟨_,_,_,_,_,_,_,_,λb1 bQ dP=>by rw[zf (cg dP ne),zf (cg dP nd)];exact((s4.trans gp).trans l2) _ _ dP,tw10.set (tw10.b8.put ⟨iJ.same l2,ty,⟨o0,km⟩⟩) (tw10.ap.put PI),rfl⟩
   ·rintro a7 cls uf H' bH;left;obtain⟨rfl,l2,rfl⟩:=bH;right;exact⟨_,rfl,(T 156),λa0 _=>b9 _ _ ⟨es,_,_,_,_,_,_,_,(s4.trans gp).trans l2,tw9.same l2,rfl⟩⟩
  ·rintro J H' ⟨es,g0,jE,eX,d2,d3,ea,fB,s4,tw4,rfl⟩;exact aj _ _ ⟨es,g0,jE,eX,d2,d3,ea,fB,s4,tw4,rfl⟩
 rintro cm a9 J ck ⟨es,g0,jE,eX,d2,d3,ea,fB,s4,tw4,rfl⟩;nofun;ext;exact⟨⋯,λr cI=>ao r p d e es _ ((s1.trans s4).trans (bb cI)) aH (tw4.same (bb cI))⟩
theorem Jw:cv ad bI 7 (ad.ai 52) q30 (VK ad.ai ad.az):=by
 refine cE (T 227) Yz ?_;and_intros;obtain⟨p,b,eK,S,i,n,w,h,sg,st,m,c,q,kvs,rfl,o,ae,hm,ak,nD,aJ,ao⟩:=h;refine uq ⟨_,(aV (b0 4 R (bR dv (U 2 R) zc (λ_ _=>rfl)))
 (aV (b0 5 R (ww ay))
 (aV (cN (fS (cx (IH T) R (T 62) (af (U 1 R) (af (U 4 R) (af (U 4 R) ay)))))
 (aX (hj (hE wa1 wa2 wa3 i0 (U 5 R) (af (fj (af (e4 (U 0 R) (T 132) (T 70) (IM T) HR (af (U 2 R) (af (U 4 R) ay))) (af (pS (k:=2) (dN (U 0 R) (by rfl)) (ff (T 104) (T 144) (xA T) (ff (T 108) (T 147) (xA T) (ff (T 112) (T 151) (xA T) (ff (T 115) (T 39) (xA T) pR)))) (HR.mono (by decide)) (af (e4 (dN (U 0 R) (by rfl)) (T 97) (T 31) (r2 T) HR (af (U 4 R) ay)) (af (U 3 R) ay)) (hst:=fl rfl) (hpl:=fW rfl)) ay))) ay))))
 zx)
 (aV (fc PassesOwn.never (cY rfl) (il (e4 (U 0 R) (T 132) (T 69) (aaE T) HR (af (U 2 R) ay))) (kK (n:=2) (cY rfl) (fG (dn 6 R) (fG (dn 7 R) kJ)))
 (aX (cN (eF.pt (jl (cp pw (U 7 R) (U 3 R)) (jK (fS (cx (IH T) R (T 62) (af (U 1 R) (af (U 4 R) (af (bR dv (U 6 R) zc (λ_ _=>rfl)) ay))))))))
 (aX (hj (hE wa1 wa2 wa3 i0 (U 5 R) (af (fj (af (U 6 R) (af (bG hZ (U 3 R) (U 7 R)) ay))) ay))))
 zx)))
 (
 aX (bY (U 5 R))))))),?_⟩
 rfl';left;obtain⟨av,aa⟩:=id o.sp;obtain⟨h9,ag⟩:=id o.rW;obtain⟨xU,k1,k2,k3,td⟩:=id o.hg;have ic:=jv o.g
 have dI:=o.dI
 right;refine zj (λJ H'=>H'=H/\J=[⇑p,⇑eK,⇑b,↥q,↥c,none,none,none]) (λaP aj=>?_) ?_
 ·ext;exact(dp (bT.of ae) rfl (aj _ _ ⟨rfl,rfl⟩))
 rintro cm a9 J H1 ⟨rfl,rfl⟩;nofun;refine zj (λJ H'=>∃r,H1 r=none/\aQ H1 H'/\H' r∣.lst []/\J=[⇑p,⇑eK,⇑b,↥q,↥c,⇑r,none,none]) (λaP aj=>?_) ?_
 ·ext;exact⟨⋯,λr cI=>aj _ _ ⟨r,cI,bb cI,aH,rfl⟩⟩
 rintro cm a9 J aE ⟨r,cI,s2,qE,rfl⟩;nofun;have Jx:∀{cell other:Int}{f5:Bool},(f5=true↔(aS kvs (.inl other)=none/\(aS kvs (.inl cell)).getD .bx≠.int other))->f5=eE kvs cell other:=λqc=>Bool.eq_iff_iff.mpr (qc.trans HE.symm)
 refine zj (λJ H'=>aQ H1 H'/\lu H' r (if eE kvs c c=true then [(aW (met st m c) c,min (q+gs i (at_ sg c)) n)] else [])/\J=[⇑p,⇑eK,⇑b,↥q,↥c,⇑r,none,none]) (λaP aj=>?_) ?_
 ·ext;refine⟨eK,kvs,c,c,rfl,s2 _ _ nD,aJ,λf5 qc=>⟨f5,rfl,?_⟩⟩;have eb:=Jx qc
  cases hz:eE kvs c c with
  | false=>
   rw[eb,hz,aB (by decide)];exact aj _ _ ⟨s2,by rw[hz,aB (by decide)];exact⟨[],qE,.nil⟩,rfl⟩
  | true=>
   rw[eb,hz,aM rfl];left;have fm:=o.same s2
   obtain⟨lx,mh,f1,f2⟩:=id o.qq.ob;have aaS:(h8 w h mh sg).lookup ("sign":Str)=none:=qo ∅ ∅ ∅ ∅
   have aaT:(dG "full" (V.int n) []).lookup ("stayed":Str)=none:=rS n ∅
   right;refine⟨.inl ⟨rfl,_,aK.of qE⟩,f6 (s2 _ _ aa) (qp S ∅) ⟨p,b,S,m,c,c,st,rfl,fm.sp,s2 _ _ ae,fm.xl,hm,dI,λu gb=>?_⟩⟩;have s3:=s2.trans (bb (o:=a3.tup ((aW (met st m c) c).map bq)) gb)
   have o3:=o.same s3
   refine(dX (s3 _ _ aa) (T 132) (T 134) (HC S) ⟨S.cU,h9,_,(eJ ad.ai i,Hn ad.ai),BF i o.eV,rfl,s3 _ _ ag,aaT,dX (s3 _ _ aa) (T 132) (T 133) (BK S) ⟨S.bJ,rfl,_,_,s3 _ _ f1,aaS,S.bJ,w,h,sg,c,rfl,o3.qq,o.g,ak.1,ak.2,S.cU,i,n,at_ sg c,q,rfl,o3.rW,o.eV,⋯,λv gW=>?_⟩⟩);have nE:=(bb (o:=a3.tup [V.ref u,V.int (min (q+gs i (at_ sg c)) n)]) gW) _ _ ((bb (o:=a3.tup ((aW (met st m c) c).map bq)) gb) _ _ qE)
   refine⟨_,nE,by show 0<sizeLine;omega,aj _ _ ⟨kW (s3.trans (bb gW)) cI,?_,rfl⟩⟩;rw[hz,aM rfl];have aaU:v≠r:=λz=>by rw[z,(bb (o:=a3.tup ((aW (met st m c) c).map bq)) gb) _ _ qE]at gW;cases gW
   have CJ:u≠r:=λz=>by rw[z,qE]at gb;cases gb
   exact⟨[v],aH,.cons ⟨u,by rw[zf aaU,aH],by rw[zf CJ];exact(bb gW) _ _ aH⟩ .nil⟩
 rintro cm a9 J bP ⟨s3,qI,rfl⟩;nofun;have o3:=o.same s3
 obtain⟨mB,aR⟩:=id o3.sp;have Jy:r≠S.bA:=λz=>by rw[z,k1]at cI;cases cI
 refine zj (λJ H'=>∃x y,v6 S.bA H1 H'/\e7 H' S.bA i w sg st/\lu H' r (reachOf (eE kvs) i w sg st n m c q)/\J=[⇑p,⇑eK,⇑b,↥q,↥c,⇑r,x,y]) (λaP aj=>?_) ?_
 ·ext;refine(f6 aR (qp S ∅) ⟨p,b,S,i,n,w,h,sg,st,m,c,rfl,o3,s3 _ _ ae,hm,ak,λl ck eM hS aaV CK=>?_⟩);left;obtain⟨ts,Jz,JA⟩:=CK;obtain⟨ae8,nE,ae9⟩:=id qI;obtain⟨sl,uD⟩:=aaV r (o.hg.no cI s3) (by rw[nE];exactλz=>nomatch z);have aaW:fZ bP ck:=eM.cH (λxs z=>by rw[s3 _ _ k1]at z;cases z)
  have jg:=eM _ _ nE Jy
  have afa:(hc i w sg st m c).length<=4:=by
   unfold hc oD;rw[length_map];have a1:=Hv (f:=costOf i w sg c) (os:=dc w sg c)
   have a2:=rT (w:=w) (sg:=sg) (c:=c)
   omega
  have qG:=Paired.length JA
  right;refine⟨l,rfl,⟨_,aK.of Jz⟩,tM (K:=ad.az) (a:=l) (xs:=ts.map V.ref) (λj J H'=>∃x y,v6 r ck H'/\lu H' r ((if eE kvs c c=true then [(aW (met st m c) c,min (q+gs i (at_ sg c)) n)] else [])++((hc i w sg st m c).take j).filterMap (oF (eE kvs) c q))/\J=[⇑p,⇑eK,⇑b,↥q,↥c,⇑r,x,y]) ⟨none,none,gr (aQ.refl _),by rw[take_zero,List.filterMap_nil,append_nil];exact qI.keep aaW (λ_ z=>eM _ _ z Jy),rfl⟩ (λj J H' _ ⟨_,_,sB,_⟩=>aK.of (sB _ _ Jz uD)) ?_ ?_⟩
  ·rintro j v J H' N iW bH b9;left;obtain⟨x,y,sB,nl,rfl⟩:=bH;rw[getElem?_map]at iW;obtain⟨t,bC,rfl⟩:=map_eq_some_iff.mp iW;obtain⟨e,ar,f5,aw,bV⟩:=Paired.ju JA bC;have uL:fZ ck H':=sB.cH (λxs z=>by rw[jg]at z;cases z)
   obtain⟨ba,bQ,fy,em,r8,eb⟩:=BQ o.g hm e (mem_of_getElem? ar);have tk:(hc i w sg st m c).take (j+1)=(hc i w sg st m c).take j++[e]:=by rw[take_add_one,ar];rfl
   have sm:=uL _ _ bV
   rw[fy]at sm;have uM:H' eK∣.bO kvs:=sB _ _ (eM _ _ (s3 _ _ nD) (cM nD k1 nofun)) (cg nD cI)
   rw[tk,List.filterMap_append]at b9;right;ext;refine⟨_,bT.of (uL _ _ aw),rfl,_,_,rfl,_,_,rfl,rfl,e.2,rfl,?_⟩;obtain⟨us,j4,pu⟩:=id nl;have afb:us.length<=9:=by
    have a1:=Paired.length pu
    rw[length_append]at a1;have a2:=List.length_filterMap_le (oF (eE kvs) c q) ((hc i w sg st m c).take j)
    rw[length_take]at a2;have fY:(if eE kvs c c=true then [(aW (met st m c) c,min (q+gs i (at_ sg c)) n)] else []).length<=1:=by split<;>simp
    omega
   by_cases a1:e.2<=q
   ·rw[aM a1];refine⟨f5,rfl,dp (bT.of sm) rfl ⟨eK,kvs,c,bQ,rfl,uM,aJ,λz hz=>⟨z,rfl,?_⟩⟩⟩;rw[Jx hz];have fL:cellK e.1=bQ:=by rw[fy];rfl
    cases JB:eE kvs c bQ with
    | false=>
     rw[aB (by decide)];refine b9 _ _ ⟨_,_,sB,?_,rfl⟩;rwa[BP (f:=oF (eE kvs) c q) (aB (by rw[fL,JB];simp)),append_nil]
    | true=>
     rw[aM rfl];refine⟨.inl ⟨rfl,_,aK.of j4⟩,e.2,rfl,⋯,λu gb=>⟨_,(bb gb) _ _ j4,by rw[length_map];omega,?_⟩⟩;have CJ:u≠r:=λz=>by rw[z,j4]at gb;cases gb
     refine b9 _ _ ⟨_,_,h3 (sB.new gb),?_,rfl⟩;rw[HG (f:=oF (eE kvs) c q) (aM ⟨a1,by rw[fL,JB]⟩)];refine⟨us++[u],by rw[aH];simp,?_⟩;rw[<- List.append_assoc];have JC:fZ H' (upd (upd H' u (a3.tup [V.ref f5,V.int (q-e.2)])) r (a3.lst (us.map V.ref++[V.ref u]))):=λb1 xs z=>by
      rw[zf (cM z j4 nofun)];exact(bb gb) _ _ z
     exact Paired.snoc (Paired.fp pu λ_ _ z=>z.cH JC) ⟨f5,by rw[zf CJ,aH],by show _∣a3.tup (e.1.map bq);rw[fy];exact JC _ _ sm⟩
   ·rw[aB a1];refine b9 _ _ ⟨_,_,sB,?_,rfl⟩;rwa[BP (f:=oF (eE kvs) c q) (aB (λz=>a1 z.1)),append_nil]
  ·rintro J H' ⟨x,y,sB,nl,rfl⟩;rw[length_map,qG,take_length]at nl;exact aj _ _ ⟨x,y,λb1 bQ dP nb=>sB _ _ (eM _ _ (s3 _ _ dP) nb) (cg dP cI),hS.but sl jg sB,nl,rfl⟩
 rintro cm a9 J ck ⟨x,y,eM,hS,CK,rfl⟩;nofun;ext;exact ao r ck eM hS cI CK
theorem aaX:cv ad bI 8 (ad.ai 50) q47 (VL ad.ai ad.az):=by
 refine cE (T 225) YA ?_;and_intros;obtain⟨p,bh,d,S,i,n,t,w,h,sg,st,es,b2,rfl,o,b3,ap,c4,dY,lo,iM,ao⟩:=h;refine uq ⟨_,(aV (b0 3 R (e4 (dN (U 0 R) (by rfl)) (T 128) (T 56) (IY T) HR (af (dN (U 0 R) (by rfl)) (af (U 1 R) ay))))
 (aV (b0 4 R y5)
 (aV (zW (fc PassesOwn.never (cY rfl) (wg (U 2 R)) (dn 5 R)
 (aX (fc PassesOwn.never (cY rfl) (il (e4 (U 0 R) (T 132) (T 68) (Jw T) HR (af (U 3 R) (af (U 5 R) (af (gn (dx HU) (U 2 R) (U 5 R) (λ_ _=>rfl)) ay))))) (kK (n:=2) (cY rfl) (fG (dn 6 R) (fG (dn 7 R) kJ)))
 (aX (cN (cp vw (U 7 R) (EG (dx HU) (U 4 R) (U 6 R) (hY h1 zc) ⟨rfl,rfl,rfl,rfl⟩))
 (aX (q7 (dx HU) (U 4 R) (U 6 R) (U 7 R) rfl))
 zx))))))
 (
 aX (bY (U 4 R)))))),?_⟩
 rfl';left;obtain⟨av,aa⟩:=id o.sp;obtain⟨xU,k1,_⟩:=id o.hg;obtain⟨⟨⟨db,nF⟩,hdb⟩,b8⟩:=id b3;have ic:=jv o.g
 have dI:=o.dI
 right;refine zj (λJ H'=>∃(eK:Addr)(kvs:List (Key×V)),H eK=none/\aQ H H'/\H' eK∣.bO kvs/\k6 (bk es S.n) t kvs/\J=[⇑p,↥t,⇑bh,⇑eK,none,none,none,none]) (λaP aj=>?_) ?_
 ·ext;exact(dX aa (T 132) (T 135) (xk S) ⟨S.b3,rfl,f6 nF (jx d ∅) (dX aa (T 132) (T 136) (xj S) ⟨S.b3,d,es,S.n,t,rfl,b3,λl kvs H' nl s aD ak=>aj _ _ ⟨l,kvs,nl,s,aD,ak,rfl⟩⟩)⟩)
 rintro cm a9 J H1 ⟨eK,kvs,uN,s1,nD,uO,rfl⟩;nofun;have aaY:∀cell other,eE kvs cell other=cz (bk es S.n) t cell other:=λcell other=>HF uO (ap.sub λx aq=>(kn.mp aq).1) (b8.drop S.n).nd
 have CL:eE kvs=cz (bk es S.n) t:=funext λc=>funext λo=>aaY c o
 have CM:∀(z:Int) v,aS kvs (.inl z)∣v->v=.bx\/∃i,v=.int i:=λz v hz=>by
  left;obtain⟨e,_,_,he⟩:=uO.p2 z v hz
  right;rw[<- he];exact k4 _ _ _
 refine zj (λJ H'=>∃hv,H hv=none/\hv≠eK/\aQ H H'/\H' eK∣.bO kvs/\H' hv∣.bc []/\J=[⇑p,↥t,⇑bh,⇑eK,⇑hv,none,none,none]) (λaP aj=>?_) ?_
 ·ext;exactλhv nG=>aj _ _ ⟨hv,s1.free nG,(cg nD nG).symm,s1.trans (bb nG),(bb nG) _ _ nD,aH,rfl⟩
 rintro cm a9 J aE ⟨hv,nG,aaZ,s2,CN,aa0,rfl⟩;nofun;have JD:S.bA≠hv:=cg k1 nG
 have CO:bh≠hv:=cg dY nG
 refine zj (λJ H'=>∃x y z,v6 S.bA H H'/\e7 H' S.bA i w sg st/\H' hv∣.bc (spread (reachOf (cz (bk es S.n) t) i w sg st n) b2)/\J=[⇑p,↥t,⇑bh,⇑eK,⇑hv,x,y,z]) (λaP aj=>?_) ?_
 ·ext;have fm:=o.same s2
  have oU:=s2 _ _ dY
  refine⟨bh,b2,oU,b2,oU,λf3=>Ac (λj J H'=>H' bh∣.cc f3 (.bc b2)/\∃x y z,(∀b1 bQ,aE b1∣bQ->b1≠S.bA->b1≠hv->b1≠bh->H' b1∣bQ)/\e8 ad.ai ad.az H' p S i n w h sg st/\H' hv∣.bc (spread (reachOf (eE kvs) i w sg st n) (b2.take j))/\J=[⇑p,↥t,⇑bh,⇑eK,⇑hv,x,y,z]) ⟨aH,none,none,none,λb1 bQ dP _ _ nl=>by rwa[zf nl],fm.other oU iM.symm (h3 (gr (aQ.refl _))),by rwa[zf CO.symm],rfl⟩ (λj J H' _ h=>h.1) ?_ ?_⟩
  ·rintro j k v b J H' ZN g7 ae bH Ce;left;obtain⟨iN,x,y,z,kC,j6,qJ,rfl⟩:=bH;have j5:=mem_of_getElem? g7
   obtain⟨m,c,q,qC,hm,ak,d9⟩:=lo.ok _ j5;cases qC;obtain⟨mB,aR⟩:=id j6.sp;have uM:H' eK∣.bO kvs:=kC _ _ CN (cg k1 uN).symm aaZ.symm (cg dY uN).symm
   right;ext;refine(f6 aR (qp S ∅) ⟨.int q,.inr ⟨b2,aW m c,b,.inr ⟨f3,iN⟩,rfl,ae,(i9 lo.nd j5).symm⟩,p,b,eK,S,i,n,w,h,sg,st,m,c,q,kvs,rfl,j6,ae,hm,ak,uM,CM,λr bP lL CP CQ qI=>?_⟩);left;obtain⟨ts,nE,xV⟩:=qI;obtain⟨aa1,xW,_⟩:=id j6.hg;have o3:=j6.b lL CP
   have uP:=lL _ _ qJ JD.symm
   have xX:=lL _ _ iN (cM iN xW nofun)
   have tab:=ny (f:=reachOf (eE kvs) i w sg st n) (lo.take j) (λm c q a1 a2 fY=>xp o.g a1 a2 c4 fY)
   have rws:=xp (op:=eE kvs) (i:=i) (n:=n) (q:=q) o.g hm ak c4 d9
   have aa2:r≠hv:=λz=>by rw[z,qJ]at CQ;cases CQ
   right;refine⟨r,rfl,⟨_,aK.of nE⟩,tM (K:=ad.az) (a:=r) (xs:=ts.map V.ref) (λl J cO=>∃y z,v6 hv bP cO/\cO hv∣.bc (((reachOf (eE kvs) i w sg st n m c q).take l).foldl fe (spread (reachOf (eE kvs) i w sg st n) (b2.take j)))/\J=[⇑p,↥t,⇑bh,⇑eK,⇑hv,⇑b,y,z]) ⟨y,z,gr (aQ.refl _),uP,rfl⟩ (λl J cO _ ⟨_,_,sB,_⟩=>aK.of (sB _ _ nE aa2)) ?_ ?_⟩
   ·rintro l v J cO N iW bH b9;left;obtain⟨y,z,sB,dP,rfl⟩:=bH;rw[getElem?_map]at iW;obtain⟨u,bZ,rfl⟩:=map_eq_some_iff.mp iW;obtain⟨e,ar,f5,aw,bV⟩:=Paired.ju xV bZ;have uL:fZ bP cO:=sB.cH (λxs z=>by rw[uP]at z;cases z)
    have tk:(reachOf (eE kvs) i w sg st n m c q).take (l+1)=(reachOf (eE kvs) i w sg st n m c q).take l++[e]:=by rw[take_add_one,ar];rfl
    have oS:=tab.fold (ps:=(reachOf (eE kvs) i w sg st n m c q).take l) λx aq=>rws x (List.mem_of_mem_take aq)
    have cX:=tH oS.gb.nd oS.xo dI ic.2
    rw[tk,List.foldl_append]at b9;right;ext;have sm:=uL _ _ bV
    refine⟨_,bT.of (uL _ _ aw),rfl,_,_,rfl,_,_,rfl,rfl,.inr ⟨_,.inl dP⟩,_,ed.t dP sm,e.2,rfl,_,HJ oS.gb,?_⟩;split
    ·rename_i lt;refine⟨_,kf.t dP sm ⋯,b9 _ _ ⟨_,_,h3 sB,?_,rfl⟩⟩;rw[aH];show _∣a3.bc (fe _ e)
     rw[VF lt]
    ·rename_i lt;refine b9 _ _ ⟨_,_,sB,?_,rfl⟩;show _∣a3.bc (fe _ e)
     rwa[VG lt]
   ·rintro J cO ⟨y,z,sB,dP,rfl⟩;rw[length_map,Paired.length xV,take_length,<- HI g7]at dP;exact Ce _ _ ⟨sB _ _ xX CO,_,_,_,λb1 bQ lj di dO ik=>sB _ _ (lL _ _ (kC _ _ lj di dO ik) di) dO,o3.other uP JD sB,dP,rfl⟩
  ·rintro J H' bH;left;obtain⟨iN,x,y,z,kC,j6,qJ,rfl⟩:=bH;rw[take_length,CL]at qJ;have qK:e8 ad.ai ad.az (upd H' bh (.bc b2)) p S i n w h sg st:=j6.BN iN HD iM.symm (h3 (gr (aQ.refl _)))
   right;exact⟨⟨f3,iN⟩,aj _ _ ⟨x,y,z,λb1 bQ dP nb=>by
    by_cases e:b1=bh
    ·rw[e]at dP ⊢;rw[dY]at dP;cases dP;exact aH
    ·rw[zf e];exact kC _ _ (s2 _ _ dP) nb (cg dP nG) e,qK.hg,by rwa[zf CO.symm],rfl⟩⟩
 rintro cm a9 J bP ⟨x,y,z,sB,bA,uP,rfl⟩;nofun;ext;exact ao hv bP sB bA nG uP
theorem aa3:cv ad bI 8 (ad.ai 51) q23 (Ws ad.ai ad.az):=by
 refine cE (T 226) YB ?_;and_intros;obtain⟨p,bh,d,nd,S,i,n,t,w,h,sg,st,es,b2,m,c,q,rfl,o,b3,ap,c4,dY,lo,iM,eT,l9,ak,pre,ao⟩:=h;refine uq ⟨_,(aV (b0 5 R (e4 (dN (U 0 R) (by rfl)) (T 128) (T 56) (IY T) HR (af (dN (U 0 R) (by rfl)) (af (U 1 R) ay))))
 (aV (b0 6 R (bG yW (e4 (dN (U 0 R) (by rfl)) (T 97) (T 34) (I6 T) HR (af (bR dv (U 3 R) zc (λ_ _=>rfl)) ay)) (ww (af (bR dv (U 3 R) zc (λ_ _=>rfl)) ay))))
 (aX (bY (cJ (GD rfl (dx HU)) R (T 10) (af (TX (kg (gD.of (hG:=bU w9) (tn:=["other"]) (cn:=["near","node","charge","comings","self","layer"]) (dR:=[6,3,4,5,0,2]) rfl rfl ∅ ∅ ∅ ∅ rfl) (cY rfl)  (wg (U 2 R))
 (
 λ_ _ _ _ _=>(hX (i:=0) (show(["other","near","node","charge","comings","self","layer"]:List Str).Nodup by decide +kernel) rfl (Or.inl rfl))) (λ_ _ _ _ _=>(pK (eF.pt (jl (cp (Qh (K:=ad.az) rfl) (bR (wa (K:=ad.az) rfl) (cK 0) zc (λ_ _=>rfl)) (cK 1)) (jK (cp (UJ (K:=ad.az) rfl (Fy HR)) (fj (af (cK 2) (af (cK 3) ay))) (e4 (cK 5) (T 132) (T 68) (Jw T) HR (af (cK 4) (af (cK 0) (af (gn (dx HU) (cK 6) (cK 0) (λ_ _=>rfl)) ay)))))))))) (λ_ _ _ _ _=>(cK 0)))) ay)))))),?_⟩
 rfl';left;obtain⟨av,aa⟩:=id o.sp;obtain⟨xU,k1,_⟩:=id o.hg;obtain⟨⟨⟨db,nF⟩,hdb⟩,b8⟩:=id b3;obtain⟨afc,aa4,CR,afd⟩:=id o.qq.ob;have ic:=jv o.g
 right;refine zj (λJ H'=>∃(eK:Addr)(kvs:List (Key×V)),H eK=none/\aQ H H'/\H' eK∣.bO kvs/\k6 (bk es S.n) t kvs/\J=[⇑p,↥t,⇑bh,⇑nd,↥q,⇑eK,none]) (λaP aj=>?_) ?_
 ·ext;exact(dX aa (T 132) (T 135) (xk S) ⟨S.b3,rfl,f6 nF (jx d ∅) (dX aa (T 132) (T 136) (xj S) ⟨S.b3,d,es,S.n,t,rfl,b3,λl kvs H' nl s aD ak=>aj _ _ ⟨l,kvs,nl,s,aD,ak,rfl⟩⟩)⟩)
 rintro cm a9 J H1 ⟨eK,kvs,uN,s1,nD,uO,rfl⟩;nofun;have CL:eE kvs=cz (bk es S.n) t:=funext λc=>funext λo=>HF uO (ap.sub λx aq=>(kn.mp aq).1) (b8.drop S.n).nd
 have CM:∀(z:Int) v,aS kvs (.inl z)∣v->v=.bx\/∃i,v=.int i:=λz v hz=>by
  left;obtain⟨e,_,_,he⟩:=uO.p2 z v hz
  right;rw[<- he];exact k4 _ _ _
 refine zj (λJ H'=>∃cI:Addr,aQ H1 H'/\H' cI∣.lst ((dc w sg c++[c]).map V.int)/\J=[⇑p,↥t,⇑bh,⇑nd,↥q,⇑eK,⇑cI]) (λaP aj=>?_) ?_
 ·ext;have nb:(h8 w h aa4 sg).lookup ("beside":Str)=none:=qo ∅ ∅ ∅ ∅
  refine(dX (s1 _ _ aa) (T 132) (T 133) (BK S) ⟨S.bJ,rfl,f6 (s1 _ _ CR) nb (dp (v:=V.int c) (bT.of (s1 _ _ l9)) rfl ⟨S.bJ,w,h,sg,c,rfl,o.qq.same s1,o.g,λr aE a5 s2 aR=>(dp (v:=V.int c) (bT.of (s2 _ _ (s1 _ _ l9))) rfl ⟨by rw[sizeLine_eq];decide,λp1 di=>⟨r,rfl,_,by rwa[zf (cg aR di)],_,aH,?_,λew dO=>aj _ _ ⟨ew,(s2.trans (bb di)).trans (bb dO),by rw[aH,map_append];rfl,rfl⟩⟩⟩)⟩)⟩);have bl:=rT (w:=w) (sg:=sg) (c:=c)
  rw[length_map];show _+1<=_
  omega
 rintro cm a9 J aE ⟨cI,s2,CS,rfl⟩;nofun;left;have ji:=s1.trans s2
 have fm:=o.same ji
 have oU:=ji _ _ dY
 have CN:=s2 _ _ nD
 obtain⟨oz,eO,cL,a8,ar,aw⟩:=Wr lo pre;rw[<- CL]at aw ao;have me:=tH lo.nd (λk aj=>by
  left;obtain⟨x,aq,rfl⟩:=mem_map.mp aj;obtain⟨m,c,q,rfl,hm,ak,_⟩:=lo.ok x aq;right;exact⟨m,c,rfl,hm,ak.1,ak.2⟩) o.dI ic.2
 right;ext;refine⟨bh,b2,oU,b2,oU,λf3=>TY (λj aF H'=>H' bh∣.cc f3 (.bc b2)/\∃ts:List Addr,aF=ts.map V.ref/\(∀b1 bQ,aE b1∣bQ->b1≠S.bA->b1≠bh->H' b1∣bQ)/\e8 ad.ai ad.az H' p S i n w h sg st/\ts.length<=j/\(∀x∈ts,∃(ba:Nat)(aY q':Int),(aW ba aY,V.int q')∈b2/\H' x∣.tup ((aW ba aY).map bq)/\(aW m c,q)∈reachOf (eE kvs) i w sg st n ba aY q')/\(∀(my ba:Nat)(aY q':Int),my<j->b2[my]?∣(aW ba aY,V.int q')->(aW m c,q)∈reachOf (eE kvs) i w sg st n ba aY q'->∃x∈ts,H' x∣.tup ((aW ba aY).map bq))) ⟨aH,[],rfl,λb1 bQ dP _ nl=>by rwa[zf nl],fm.other oU iM.symm (h3 (gr (aQ.refl _))),wa8 _,λx aq=>(by cases aq),λ_ _ _ _ z=>by omega⟩ (λj aF H' _ h=>h.1) ?_ ?_⟩
 ·rintro j k v b aF H' g7 ae bH;left;obtain⟨iN,ts,rfl,kC,j6,qJ,qK,xY⟩:=bH;have j5:=mem_of_getElem? g7
  obtain⟨ba,aY,q',qC,pZ,hT,d9⟩:=lo.ok _ j5;cases qC;obtain⟨mB,aR⟩:=id j6.sp;obtain⟨aa1,xW,_⟩:=id j6.hg;have uM:H' eK∣.bO kvs:=kC _ _ CN (cg k1 uN).symm (cg dY uN).symm
  have aa5:cI≠S.bA:=cM CS (ji _ _ k1) nofun
  have aa6:cI≠bh:=cM CS oU nofun
  have mz:H' nd∣.tup ((aW m c).map bq):=kC _ _ (ji _ _ l9) (cM l9 k1 nofun) (cM l9 dY nofun)
  have JE:∀{bP:ah},fZ H' bP->∀x∈ts,∃(ba:Nat)(aY q':Int),(aW ba aY,V.int q')∈b2/\bP x∣.tup ((aW ba aY).map bq)/\(aW m c,q)∈reachOf (eE kvs) i w sg st n ba aY q':=λs x aq=>by
   left;obtain⟨a,b,e,f,g,r⟩:=qK x aq;right;exact⟨a,b,e,f,s _ _ g,r⟩
  have CT:∀{bP:ah}{CU:List Addr},fZ H' bP->(∀x∈ts,x∈CU)->((aW m c,q)∈reachOf (eE kvs) i w sg st n ba aY q'->∃x∈CU,bP x∣.tup ((aW ba aY).map bq))->∀(my dh:Nat)(cD bK:Int),my<j+1->b2[my]?∣(aW dh cD,V.int bK)->(aW m c,q)∈reachOf (eE kvs) i w sg st n dh cD bK->∃x∈CU,bP x∣.tup ((aW dh cD).map bq):=λs sub new my dh cD bK rM e r=>by
   by_cases z:my=j
   ·rw[z,g7]at e;injection e with e
    injection e with ar aw
    injection aw with aw
    obtain⟨oQ,sd⟩:=jz ar;subst oQ sd aw;exact new r
   ·left;obtain⟨x,aq,ex⟩:=xY my dh cD bK ⋯ e r;right;exact⟨x,sub x aq,s _ _ ex⟩
  right;ext;refine(dp (v:=V.int aY) (bT.of ae) rfl ⟨(dc w sg c++[c]).map V.int,.inl (aK.of (kC _ _ CS aa5 aa6)),rfl,by rw[all_map];exact all_eq_true.mpr λ_ _=>rfl,?_⟩);rw[Qj];split
  ·refine⟨by rw[sizeLine_eq];decide,λp1 di=>?_⟩;have s3:=bb (o:=a3.tup [V.ref nd,V.int q]) di
   have JF:=j6.same s3
   refine(f6 (s3 _ _ aR) (qp S ∅) ⟨.int q',.inr ⟨b2,aW ba aY,b,.inr ⟨f3,s3 _ _ iN⟩,rfl,s3 _ _ ae,(i9 lo.nd j5).symm⟩,p,b,eK,S,i,n,w,h,sg,st,ba,aY,q',kvs,rfl,JF,s3 _ _ ae,pZ,hT,s3 _ _ uM,CM,λr bP lL CP CQ qI=>?_⟩);left;obtain⟨us,nE,xV⟩:=qI;have hP:fZ (upd H' p1 (a3.tup [V.ref nd,V.int q])) bP:=lL.cH (λxs z=>by rw[s3 _ _ xW]at z;cases z)
   have qL:fZ H' bP:=λb xs z=>hP _ _ (s3 _ _ z)
   have o3:=JF.b lL CP
   have rws:=xp (op:=eE kvs) (i:=i) (n:=n) (q:=q') o.g pZ hT c4 d9
   obtain⟨d,gg,fQ⟩:=pick (K:=ad.az) (H:=bP) (p1:=p1) (x1:=(aW m c,q)) ⟨nd,hP _ _ aH,qL _ _ mz⟩ xV ⟨m,c,rfl⟩ λx aq=>let⟨_,a,b,e,_⟩:=rws x aq;⟨a,b,e⟩
   have JG:∀b1 bQ,aE b1∣bQ->b1≠S.bA->b1≠bh->bP b1∣bQ:=λb1 bQ aa ag aR=>lL _ _ (s3 _ _ (kC _ _ aa ag aR)) ag
   have JH:=lL _ _ (s3 _ _ iN) (cM iN xW nofun)
   right;refine⟨r,rfl,us,aK.of nE,d,gg,?_⟩;split
   ·rename_i z;refine⟨by have:=(wa4.mp g7).1;rw[length_map];omega,JH,ts++[b],by rw[map_append];rfl,JG,o3,by rw[length_append];show _+1<=_;omega,λx aq=>?_,CT qL (λ_ h=>mem_append_left _ h) λ_=>⟨b,mem_append_right _ (mem_singleton.mpr rfl),qL _ _ ae⟩⟩;rcases mem_append.mp aq with aq|aq
    ·exact JE qL x aq
    ·rw[mem_singleton.mp aq];exact⟨ba,aY,q',j5,qL _ _ ae,fQ.mp z⟩
   ·rename_i z;exact⟨JH,ts,rfl,JG,o3,⋯,JE qL,CT qL (λ_ h=>h) λr=>br (fQ.mpr r) z⟩
  ·rename_i z;exact⟨iN,ts,rfl,kC,j6,⋯,qK,CT (λ_ _ h=>h) (λ_ h=>h) λr=>br (decide_eq_true (mem_append.mpr ((Wq o.g pZ hT (eT ba aY q' j5) r).imp id λy=>mem_singleton.mpr y))) z⟩
 ·rintro aF H' bH;left;obtain⟨iN,ts,rfl,kC,j6,qJ,qK,xY⟩:=bH;right;refine⟨by rw[length_map];omega,λD fb=>?_⟩;have xZ:bh≠D:=cg iN fb
  generalize pF:upd (upd H' D (a3.lst (map V.ref ts))) bh (a3.bc b2)=uQ
  have zt:fZ H' uQ:=λx xs g=>by rw[<- pF,zf (cM g iN nofun),zf (cg g fb)];exact g
  let iK:Addr->List Int:=λx=>match uQ x with
   | some (.tup [.int a,.int b])=>[a,b]
   | _=>[]
  have CV:∀{x:Addr}{ba:Nat}{aY:Int},H' x∣.tup ((aW ba aY).map bq)->iK x=[(ba:Int),aY]:=λ{x ba aY} g=>by
   show(match uQ x with
    | some (.tup [.int a,.int b])=>[a,b]
    | _=>([]:List Int))=_
   rw[zt _ _ g];rfl
  have ne:ts≠[]:=λz=>by
   obtain⟨x,aq,_⟩:=xY oz eO cL a8 (wa4.mp ar).1 ar aw;rw[z]at aq;cases aq
  refine⟨⟨f3,by rwa[zf xZ]⟩,ts,aK.of (by rw[<- pF,zf xZ.symm,aH]),ne,iK,λx aq=>?_,λr a5 le=>?_⟩
  ·left;obtain⟨a,b,e,f,g,_⟩:=qK x aq;right;rw[CV g];exact zt _ _ g
  ·left;obtain⟨a,b,e,f,g,iR⟩:=qK r a5;have aa7:e8 ad.ai ad.az (upd H' bh (.bc b2)) p S i n w h sg st:=j6.BN iN HD iM.symm (h3 (gr (aQ.refl _)))
   have HZ:uQ=upd (upd H' bh (a3.bc b2)) D (a3.lst (map V.ref ts)):=by
    rw[<- pF];funext x
    by_cases eu:x=bh
    ·rw[eu,aH,zf xZ,aH]
    ·rw[zf eu];by_cases eP:x=D
     ·rw[eP,aH,aH]
     ·rw[zf eP,zf eP,zf eu]
   have JI:aQ (upd H' bh (a3.bc b2)) uQ:=by
    rw[HZ];exact bb (by rwa[zf xZ.symm])
   right;refine ao r _ a b e (λb1 bQ dP nb=>JI _ _ ?_) (aa7.hg.same JI) (zt _ _ g) (i9 lo.nd f) ⟨⟨e,i9 lo.nd f,iR⟩,λy ⟨aa8,aa9,bp⟩=>?_⟩
   ·by_cases z:b1=bh
    ·rwa[z,aH,<- dY,<- z]
    ·rw[zf z];exact kC _ _ (ji _ _ dP) nb z
   ·obtain⟨my,JJ⟩:=getElem?_of_mem (mm aa9);obtain⟨x,aq,ex⟩:=xY my y.1 y.2 aa8 (wa4.mp JJ).1 JJ bp;have:=le x aq
    rw[CV g,CV ex]at this;exact this
theorem aba:cv ad bI 9 (ad.ai 60) q34 (Wt ad.ai ad.az):=by
 refine cE (T 237) YC ?_;and_intros;obtain⟨p,mk,nd,d,S,i,n,T0,eA,w,h,sg,st,es,m,c,q,as,ms,F,rfl,o,b3,ap,c4,qM,JK,abb,seg,abc,abd,l9,cP,ao⟩:=h;refine uq ⟨_,(aV (b0 4 R (gn (dx HU) (bR dv (bR zy (U 1 R) (hY h1 zc) (λ_ _=>rfl)) zc (λ_ _=>rfl)) (U 3 R) (λ_ _=>rfl)))
 (aV (b0 5 R (ww (af (bR dv (U 3 R) zc (λ_ _=>rfl)) ay)))
 (aV (fc PassesOwn.never (cY rfl) (Ub (fN Io) (T 15).1 (U 1 R)) (kK (n:=2) (cY rfl) (fG (dn 6 R) (fG (dn 7 R) kJ)))
 (aX (yv PassesOwn.never (cp vw (U 2 R) (U 6 R))
 (aV (Ae 2 R zc Ny)
 (aV (b0 3 R (e4 (U 0 R) (T 132) (T 67) (aa3 T) HR (af (U 2 R) (af (U 7 R) (af (U 3 R) (af (U 4 R) ay))))))
 (aV (b0 4 R (gn (dx HU) (U 7 R) (U 3 R) (λ_ _=>rfl)))
 (aX (hj (hE wa1 wa2 wa3 i0 (U 5 R) (af (bR dv (U 3 R) zc (λ_ _=>rfl)) ay))))))))))
 (
 aX (bY (T2 rfl (fN Io) (T 15).1 (fN Xr) (T 8).1 (U 5 R))))))),?_⟩
 rfl';left;obtain⟨t0,gc,hR,ev⟩:=abd;obtain⟨gl,jD⟩:=abc;obtain⟨av,aa⟩:=id o.sp;obtain⟨xU,k1,_⟩:=id o.hg;have CW:as.length=ms.length:=by rw[Paired.length JK,length_reverse]
 have afe:0<ms.length:=(wa4.mp hR).1
 have mark:∀{H':ah}(i:Nat) t f,v6 S.bA H H'->ms[i]?∣(t,f)->∃a bh,as[ms.length-1-i]?∣a/\H' a∣.tup [.int t,.ref bh]/\H' bh∣.bc f/\bh≠S.bA:=λ{H'} i t f s e=>by
  left;have au:=(wa4.mp e).1
  have er:ms.reverse[ms.length-1-i]?∣(t,f):=by
   rwa[List.getElem?_reverse ⋯,show ms.length-1-(ms.length-1-i)=i by omega]
  obtain⟨a,aN,bh,aa,ag,aR⟩:=Paired.at2 JK er;right;exact⟨a,bh,aN,s _ _ aa (cM aa k1 nofun),s _ _ ag aR,aR⟩
 right;refine zj (λJ H'=>H'=H/\J=[⇑p,⇑mk,↥T0,⇑nd,↥q,none,none,none]) (λaP aj=>?_) ?_
 ·ext;left;obtain⟨a,bh,aN,aa,ag,aR⟩:=mark 0 t0 gc (gr (aQ.refl _)) hR;right;refine(g9 (v:=V.ref a) (aK.of qM) (xr ?_) ⟨a,rfl,dp (v:=V.ref bh) (bT.of aa) rfl ⟨bh,rfl,.int q,by rw[<- ev];exact ed.t ag l9,aj _ _ ⟨rfl,rfl⟩⟩⟩);rw[Nat.sub_zero]at aN;rw[length_map,getElem?_map,CW,aN];rfl
 rintro cm a9 J iH ⟨rfl,rfl⟩;nofun;refine zj (λJ H'=>∃cl:Addr,iH cl=none/\aQ iH H'/\H' cl∣.lst [V.int c]/\J=[⇑p,⇑mk,↥T0,⇑nd,↥q,⇑cl,none,none]) (λaP aj=>?_) ?_
 ·ext;exact(dp (v:=V.int c) (bT.of l9) rfl ⟨by rw[sizeLine_eq];decide,λcl qF=>aj _ _ ⟨cl,qF,bb qF,aH,rfl⟩⟩)
 rintro cm a9 J H1 ⟨cl,qF,s1,eD,rfl⟩;nofun;have abe:cl≠S.bA:=(cg k1 qF).symm
 refine zj (λJ H'=>∃(rs:List (Nat×Int))(Ah oQ sd so g0:Option V),v6 S.bA iH H'/\e7 H' S.bA i w sg st/\H' cl∣.lst ((rs.map (·.2)).map V.int)/\((rs.length:Int)=T0-eA+1/\ib (λu=>reachOf (cz (bk es S.n) u) i w sg st n) F T0 (m,c) rs)/\J=[⇑p,⇑mk,Ah,oQ,sd,⇑cl,so,g0]) (λaP aj=>?_) ?_
 ·ext;refine⟨_,aK.of (s1 _ _ qM),Uc (K:=ad.az) (a:=mk) (xs:=as.map V.ref) (λj J H'=>v6 S.bA iH H'/\∃(T:Int)(hu:Addr)(ba:Nat)(aY q':Int)(rs:List (Nat×Int))(so g0:Option V),e8 ad.ai ad.az H' p S i n w h sg st/\H' cl∣.lst ((rs.map (·.2)).map V.int)/\H' hu∣.tup ((aW ba aY).map bq)/\((rs.length:Int)=T0-T+1/\T<=T0/\rs.getLast?∣(ba,aY)/\aS (F T) (aW ba aY)∣.int q'/\ib (λu=>reachOf (cz (bk es S.n) u) i w sg st n) F T0 (m,c) rs)/\(∀t f,ms[j]?∣(t,f)->oK (ia (bk es S.n) i w sg st n) F t f T (aW ba aY) q')/\(j=ms.length->T=eA)/\J=[⇑p,⇑mk,↥T,⇑hu,↥q',⇑cl,so,g0]) ⟨gr s1,T0,nd,m,c,q,[(m,c)],none,none,o.same s1,eD,s1 _ _ l9,⟨by show(1:Int)=_;omega,wa9 _,rfl,by rwa[(seg.top t0 gc hR).2.2 T0 (seg.top t0 gc hR).1 (wa9 _)],ib.one⟩,λt f e=>by rw[hR]at e;cases e;exact seg.first hR ev,λz=>by omega,rfl⟩ (λj J H' _ h=>aK.of (h.1 _ _ qM (cM qM k1 nofun))) ?_ ?_⟩
  ·rintro j x J H' N aZ aq bH b9;left;obtain⟨sB,T,hu,ba,aY,q',rs,so,g0,bQ,nH,mz,iO,kD,_,rfl⟩:=bH;rw[length_map]at aZ aq;rw[getElem?_map]at aq;obtain⟨DX,wJ,rfl⟩:=map_eq_some_iff.mp aq;have sq:ms[j]?∣(ms[j]'⋯):=getElem?_eq_getElem ⋯
   generalize ms[j]'⋯=abf at sq
   obtain⟨t,f⟩:=abf;obtain⟨a,bh,aN,JL,abg,mA⟩:=mark j t f (gr (aQ.refl _)) sq;have JM:=sB _ _ JL (cM JL k1 nofun)
   rw[CW,aN]at wJ;cases wJ;have kD:=kD t f sq
   obtain⟨lo,eT,dq⟩:=abb _ (mem_of_getElem? sq);have dq:eA<=t:=dq
   have done:∀{T:Int}{hu:Addr}{ba:Nat}{aY q':Int}{rs:List (Nat×Int)}{H':ah},v6 S.bA iH H'->e8 ad.ai ad.az H' p S i n w h sg st->H' cl∣.lst ((rs.map (·.2)).map V.int)->H' hu∣.tup ((aW ba aY).map bq)->((rs.length:Int)=T0-T+1/\T<=T0/\rs.getLast?∣(ba,aY)/\aS (F T) (aW ba aY)∣.int q'/\ib (λu=>reachOf (cz (bk es S.n) u) i w sg st n) F T0 (m,c) rs)->oK (ia (bk es S.n) i w sg st n) F t f T (aW ba aY) q'->¬t<T->N [⇑p,⇑mk,↥T,⇑hu,↥q',⇑cl,↥t,⇑bh] H':=λ{T hu ba aY q' rs H'} sB bQ nH mz iO kD z=>by
    have e:T=t:=by have:=kD.le;omega
    subst e;refine b9 _ _ ⟨sB,T,hu,ba,aY,q',rs,_,_,bQ,nH,mz,iO,λt' hH a4=>seg.next sq a4 (kD.now rfl),λz=>?_,rfl⟩;rw[List.getLast?_eq_getElem?,show ms.length-1=j by omega,sq]at jD;cases jD;rfl
   right;ext;refine⟨_,bT.of JM,rfl,_,_,rfl,_,_,rfl,rfl,λrP J H'=>∃(T:Int)(hu:Addr)(ba:Nat)(aY q':Int)(rs:List (Nat×Int)),rP=(T-t).toNat/\v6 S.bA iH H'/\e8 ad.ai ad.az H' p S i n w h sg st/\H' cl∣.lst ((rs.map (·.2)).map V.int)/\H' hu∣.tup ((aW ba aY).map bq)/\((rs.length:Int)=T0-T+1/\T<=T0/\rs.getLast?∣(ba,aY)/\aS (F T) (aW ba aY)∣.int q'/\ib (λu=>reachOf (cz (bk es S.n) u) i w sg st n) F T0 (m,c) rs)/\oK (ia (bk es S.n) i w sg st n) F t f T (aW ba aY) q'/\J=[⇑p,⇑mk,↥T,⇑hu,↥q',⇑cl,↥t,⇑bh],⟨_,T,hu,ba,aY,q',rs,rfl,sB,bQ,nH,mz,iO,kD,rfl⟩,?_⟩;clear kD iO mz nH bQ JM sB;rintro rP J bP bH;left;obtain⟨T,hu,ba,aY,q',rs,rfl,sB,bQ,nH,mz,iO,kD,rfl⟩:=bH;right;ext;split
   ·left;rename_i lt;obtain⟨abh,aR⟩:=id bQ.sp;obtain⟨JN,k3,_⟩:=id bQ.hg;have xX:=sB _ _ abg mA
    have JO:=kD.Wn lt
    have rws:=λm c q a1 a2 fY=>xp (op:=cz (bk es S.n) (T-1)) (i:=i) (st:=st) (m:=m) (c:=c) (q:=q) o.g a1 a2 c4 fY
    have fP:=qu (f:=reachOf (cz (bk es S.n) (T-1)) i w sg st n) lo rws
    obtain⟨r,e,hP,_⟩:=fP.to _ _ JO;cases e;obtain⟨dh,cD,bK,ex,_,abi,_⟩:=(ny lo rws).bh.ok _ (mm JO);obtain⟨abj,_⟩:=Prod.ext_iff.mp ex;obtain⟨_,rfl⟩:=jz abj;right;refine⟨_,λ_ _ z=>z,f6 aR (qp S ∅) ⟨p,bh,d,hu,S,i,n,T-1,w,h,sg,st,es,f,ba,aY,q',rfl,bQ,b3.b k1 sB,ap,c4,xX,lo,mA,eT,mz,abi,hP,λr ck dh cD bK eM hS jg v4 me=>?_⟩⟩;left;have oV:=eM _ _ xX mA
    have uR:=eM _ _ nH abe
    have abk:(rs.map (·.2)).map V.int++[V.int cD]=((rs++[(dh,cD)]).map (·.2)).map V.int:=by rw[map_append,map_append];rfl
    have uS:v6 S.bA iH (upd ck cl (.lst (((rs++[(dh,cD)]).map (·.2)).map V.int))):=λb o ae nb=>by
     rw[zf (cg ae qF)];exact eM _ _ (sB _ _ ae nb) nb
    have dQ:rs.map (·.2)≠[]:=λz=>by
     have z:=congrArg length z
     rw[length_map]at z;have z:rs.length=0:=z
     have:=iO.1
     omega
    have sl:e7 (upd ck cl (.lst (((rs++[(dh,cD)]).map (·.2)).map V.int))) S.bA i w sg st:=hS.but (hS.ints uR dQ) uR (h3 (gr (aQ.refl _)))
    have ur:=kD.ur (T-1) ⋯ ⋯
    obtain⟨abl,aff,abm,abn,abo⟩:=iO;right;refine⟨.int bK,by rw[<- v4];exact ed.t oV jg,.inl ⟨rfl,_,aK.of uR⟩,r,rfl,dp (v:=V.int cD) (bT.of jg) rfl ⟨_,uR,?_,(T-1-t).toNat,⋯,T-1,rfl,?_⟩⟩
    ·rw[length_map,length_map];have:=sizeLine_eq
     omega
    ·rw[abk];exact⟨uS,o.b uS sl,r,dh,cD,bK,rs++[(dh,cD)],aH,by rwa[zf (λz=>by rw[z,uR]at jg;cases jg)],by rw[length_append];show((rs.length+1:Nat):Int)=_;omega,⋯,by rw[List.getLast?_append];rfl,by rwa[ur],abo.snoc abm abl abn (me.same ur),kD.back lt v4,rfl⟩
   ·rename_i z;exact done sB bQ nH mz iO kD z
  ·rintro J H' ⟨sB,T,hu,ba,aY,q',rs,so,g0,bQ,nH,mz,iO,_,JP,rfl⟩;rw[length_map,CW]at JP;have:=JP rfl
   subst this;exact aj _ _ ⟨rs,_,_,_,_,_,sB,bQ.hg,nH,⟨iO.1,iO.2.2.2.2⟩,rfl⟩
 rintro cm a9 J aE ⟨rs,Ah,oQ,sd,so,g0,sB,JQ,i2,iO,rfl⟩;nofun;ext;exact⟨_,aK.of i2,λr cI=>ao r _ rs (λb o ae nb=>(bb cI) _ _ (sB _ _ ae nb)) (JQ.same (bb cI)) (by
  cases e:iH r with
  | none=>rfl
  | some u=>
   by_cases z:r=S.bA
   ·obtain⟨bF,y,_⟩:=id JQ;rw[z,y]at cI;cases cI
   ·rw[sB _ _ e z]at cI;cases cI) (by rw[aH,List.map_reverse]) iO.1 iO.2⟩
theorem abp {f c:Addr}{L M:List (Addr×Obj)} (C:p9 j1 "there" "sought.<locals>.there" f c cl q35 zs qy L M):∃fd,Binds ad.az fd q20 []/\oy ad.nq ad.nr ad.az ad.cj ad.ql bI 11 (ad.ai 59) fd q20 (Wz ad.ai ad.az f zs) L M:=by
 obtain⟨fd,F,B⟩:=(T 236);have GT:=Y8 T C
 have JR:=Ti C (ps:=["time","layer"]) (by intro us d p v h;revert h;apply a2;intros;rfl)
 have JS:=Tj C
 refine⟨fd,B,F.Tb Iv.sc.1 ?_ (λcdv A outer s H vs Q E HR JT h=>oqq λUq uq=>?_)⟩;walk_at "l"
 have R:fO _ _ _ _ _:=⟨Iv,HR⟩
 have ND:=R.nd
 walk_at "h"
 obtain⟨p,bh,d,gc,S,i,n,b,least,m0,w,h,sg,st,es,f0,v,cR,lo,rfl,rfl,o,b3,ap,c4,di,dY,iM,eT,le,CX,gw,eA,ct,fP,eO,s4,gp,ao⟩:=h;refine uq ⟨_,(aV (b0 4 R (cJ (q2 rfl) R (T 11) (af (U 1 R) (af (e4 (dN (U 0 R) (by rfl)) (T 128) (T 57) (Y3 T) HR (af (dN (U 0 R) (by rfl)) ay)) ay))))
 (aV (b0 5 R (U 1 R))
 (aV (b0 6 R (ww (af (fj (af (U 5 R) (af (U 2 R) ay))) ay)))
 (aV (b0 7 R (GK 3 GT HR JR JT JS Ij (af (U 5 R) (af (U 2 R) ay))))
 (aV (yv PassesOwn.never (cp DV (U 7 R) hi)
 (aV (b0 8 R (e4 (U 0 R) (T 132) (T 66) (aaX T) HR (af (U 5 R) (af (U 2 R) ay))))
 (aV (cN (cp (TV (Fy HR)) (U 8 R) (U 2 R))
 (aV (Ae 5 R zc DI)
 (aV (b0 2 R (U 8 R))
 (aX (hj (hE wa1 wa2 wa3 i0 (U 6 R) (af (fj (af (U 5 R) (af (U 2 R) ay))) ay))))))
 (aX (cN (cp vx (U 5 R) (U 4 R))
 (aX (bY (p5 (T 126) (YS T) R (T 122) (af (U 5 R) (af (U 2 R) ay)))))
 (aX (b0 5 R (cJ (q2 rfl) R (T 11) (af (bG dW (U 5 R) zc) (af (e4 (dN (U 0 R) (by rfl)) (T 128) (T 59) (Z8 T) HR (af (dN (U 0 R) (by rfl)) (af (U 5 R) (af (U 4 R) ay)))) ay))))))))
 (aX (b0 7 R (GK 3 GT HR JR JT JS Ij (af (U 5 R) (af (U 2 R) ay))))))))
 (
 aX (bY (p5 (T 121) (YR T) R (T 117) (af (fj (af (U 1 R) (af (cx (aba T) R (T 74) (af (U 0 R) (af (U 6 R) (af (U 5 R) (af (U 7 R) ay))))) ay))) (af (gn (dx HU) (U 2 R) (U 7 R) (λ_ _=>rfl)) ay)))))))))),?_⟩
 rfl';left;obtain⟨av,aa⟩:=id o.sp;obtain⟨xU,k1,_⟩:=id o.hg;obtain⟨⟨⟨db,nF⟩,hdb⟩,b8⟩:=id b3;have aA:v=.bx\/∃n:Int,v=.int n:=by
  rcases gw with⟨z,_⟩|⟨z,y,_⟩
  ·exact .inl z
  ·exact .inr ⟨z,y⟩
 have uv:b<=max b m0:=⋯
 have kp:∀u,max b m0<=u->Still (bk es S.n) u (u+1):=λu bZ=>Gq (λe he=>(b8.ok e (kn.mp he).1).2.1.1) (λe he=>by
  rcases fP with⟨z,_⟩|⟨_,z⟩
  ·have:=mem_map.mpr ⟨e,he,(rfl:e6 e=e6 e)⟩
   rw[z]at this;cases this
  ·have:e6 e<=m0:=z _ (mem_map.mpr ⟨e,he,rfl⟩)
   unfold e6 at this;omega) _
 right;ext;refine(dX aa (T 132) (T 135) (xk S) ⟨S.b3,rfl,f6 nF (jx d ∅) (dX aa (T 132) (T 136) (xj S) ⟨S.b3,d,es,S.n,rfl,b3,λH1 ba s1 abq=>?_⟩)⟩);obtain rfl:=abq.uniq fP;refine⟨ba,rfl,by rw[sizeLine_eq];decide,λa1 abr=>⟨by rw[sizeLine_eq];decide,λmk x2=>?_⟩⟩;have s2:=bb (o:=.tup [V.int b,V.ref bh]) abr
 have s3:=bb (o:=.lst [V.ref a1]) x2
 have s:=(s1.trans s2).trans s3
 have abt:mk≠S.bA:=λz=>by rw[z,(s1.trans s2) _ _ k1]at x2;cases x2
 have abu:H mk=none:=(s1.trans s2).free x2
 rw[show(if ba>b then ba else b)=max b ba by split<;>omega];refine BU ⟨b,bh,gc,v,least,st,sg,f0,rfl,rfl,s _ _ dY,lo,s _ _ CX,aA,λgW x3=>?_⟩;refine⟨Ww H p f mk gc S i st es n cR b (max b ba) least v ⟨f0,lo⟩,⟨_,b,bh,f0,[a1],[(b,f0)],gW,none,Sc.start eT le uv,gr s,o.hg.same s,s _ _ dY,iM,aH,.cons ⟨bh,s3 _ _ aH,s _ _ dY,iM⟩ .nil,x3,rfl⟩,?_⟩;rintro m J bP bH;left;obtain⟨t,bh,iK,as,ms,gW,jE,sc,sB,bA,dY,mA,qM,pm,x3,rfl⟩:=bH;have o3:=o.b sB bA
 have CY:=b3.b k1 sB
 have cX:=sc.top uv
 have bn:mq st sg n<=945:=wa0 (mul_le_mul (mul_le_mul (show st.length+1<=5 by omega) gp) (show(n+1).toNat<=21 by omega)) (by decide)
 have oW:=sc.lo
 have fr:∀{x:Addr}{H':ah},v6 S.bA H H'->e7 H' S.bA i w sg st->H' x=none->H x=none:=λ{x H'} s' eG aP=>by
  cases e:H x with
  | none=>rfl
  | some u=>
   by_cases z:x=S.bA
   ·obtain⟨bF,y,_⟩:=id eG;rw[z,y]at aP;cases aP
   ·rw[s' _ _ e z]at aP;cases aP
 have uT:=sB _ _ CX (cM CX k1 nofun)
 right;ext;split
 ·left;rename_i z;have no:¬gu (bk es S.n) st iK t least:=by
   rcases x3 with⟨y,_⟩|⟨_,y⟩
   ·rw[z]at y;cases y
   ·exactλw=>y ((H3 gw).mp w)
  obtain⟨abh,aR⟩:=id o3.sp;obtain⟨JN,k3,_⟩:=id bA;right;refine⟨_,λ_ _ z=>z,f6 aR (qp S ∅) ⟨p,bh,d,S,i,n,t,w,h,sg,st,es,iK,rfl,o3,CY,ap,c4,dY,oW,mA,λr ck eM hS cI a5=>?_⟩⟩;left;obtain⟨afg,td,_⟩:=id hS;have oV:=eM _ _ dY mA
  have oX:v6 S.bA H ck:=λb o ae nb=>eM _ _ (sB _ _ ae nb) nb
  have CZ:dk st sg (ia (bk es S.n) i w sg st n t iK):=by rw[sc.eq c4 t];exact(ny oW (lC cR)).bh
  have JU:∀{g:cT},dk st sg g->∀p∈g,∃i,p.2=V.int i:=λl p aG=>let⟨_,_,q,e,_⟩:=l.ok p aG;⟨q,by rw[e]⟩
  have JV:r≠S.bA:=λz=>by rw[z,k3]at cI;cases cI
  have nI:=eM _ _ qM abt
  have C0:Paired (oL ck S.bA) as ms.reverse:=Paired.fp pm λ_ _ y=>y.b eM (λ_ _ n=>n) (λxs z=>by rw[k3]at z;cases z)
  have x4:=eM _ _ uT (cM uT k3 nofun)
  right;refine⟨r,rfl,_,a5,_,oV,JU CZ,JU oW,λiR C1=>?_⟩;rw[Wu CZ oW]at C1;split
  ·left;rename_i y;obtain⟨dh,e3,C2⟩:=sc.go c4 kp no λeo=>by rw[C1.mpr eo]at y;cases y
   have pT:as.length=ms.length:=by rw[Paired.length pm,length_reverse]
   have lm:=sc.seg.len λx aq=>(sc.all x aq).2.2
   right;refine⟨.inl ⟨rfl,_,aK.of nI⟩,by rw[sizeLine_eq];decide,λa2 x5=>⟨_,(bb x5) _ _ nI,?_,?_⟩⟩
   ·rw[length_map,pT];have:=sizeLine_eq
    rcases lm with z|z
    ·omega
    ·rw[z];show 0<_;omega
   ·have s5:=bb (o:=a3.tup [V.int (t+1),V.ref r]) x5
    have x6:v6 mk ck (upd (upd ck a2 (a3.tup [V.int (t+1),V.ref r])) mk (a3.lst (as.map V.ref++[V.ref a2]))):=λb o ae nb=>by rw[zf nb];exact s5 _ _ ae
    have aW:∀{x:Addr}{bF:cT},ck x∣.bc bF->x≠mk:=λe z=>by rw[z,nI]at e;cases e
    have am:a2≠mk:=λz=>by rw[z,nI]at x5;cases x5
    have uU:=x6 _ _ a5 (aW a5)
    have abv:Paired (oL (upd (upd ck a2 (a3.tup [V.int (t+1),V.ref r])) mk (a3.lst (as.map V.ref++[V.ref a2]))) S.bA) (as++[a2]) ((t+1,ia (bk es S.n) i w sg st n t iK)::ms).reverse:=by
     rw[reverse_cons];exact Paired.snoc (Paired.fp C0 λ_ _ y=>y.b x6 (λ_ e _=>aW e) (λxs z=>by rw[nI]at z;cases z)) ⟨r,by rw[zf am,aH],uU,JV⟩
    have sl:e7 (upd (upd ck a2 (a3.tup [V.int (t+1),V.ref r])) mk (a3.lst (as.map V.ref++[V.ref a2]))) S.bA i w sg st:=
     (hS.same s5).but ((hS.same s5).marks (s5 _ _ nI) (Paired.fp C0 λ_ _ ⟨l,ar,aw,bV⟩=>⟨l,s5 _ _ ar,s5 _ _ aw,bV⟩) (λz=>by obtain⟨_,_,eP⟩:=sc.hd;rw[eP]at z;simp at z)) (s5 _ _ nI) (h3 (gr (aQ.refl _)))
    refine BU ⟨t+1,r,gc,v,least,st,sg,_,rfl,rfl,uU,CZ,x6 _ _ x4 (λz=>by rw[z,nI]at x4;cases x4),aA,λC3 C4=>⟨dh,e3,t+1,r,_,as++[a2],_,C3,_,C2,λb o ae nb=>x6 _ _ (oX _ _ ae nb) (cg ae abu),sl,uU,JV,by rw[aH,map_append];rfl,abv,C4,rfl⟩⟩
  ·rename_i y;have d':=C1.mp (by cases iR;exact br rfl y;rfl)
   split
   ·rename_i uw;intro x av aP oq JW;have hash:=oW.hash s4 gp
    have xt:bh≠x:=cg oV aP
    have ld:bh≠av:=cg oV oq
    refine⟨x,av,bh,t,st,sg,iK,rfl,aH,by rwa[zf xt,zf ld],oW,hash.1,hash.2,λcB dg oY abw uU abx=>⟨rfl,?_⟩⟩;have aby:cB≠x:=λz=>by rw[z,aH]at oY;cases oY
    rw[zf aby]at oY;have abz:cB≠av:=λz=>by rw[z,aH]at oY;cases oY
    rw[zf abz]at oY;have s5:aQ ck dg:=λb o ae=>by
     rwa[abx b (cg ae aP) (cg ae oY),zf (cg ae aP),zf (cg ae oq)]
    exact ao x dg (λb o ae nb=>s5 _ _ (oX _ _ ae nb)) (hS.same s5) (fr oX hS aP) (.inr ⟨t,⟨iK,oW⟩,⟨av,cB,abw,uU,fr oX hS oY⟩,⋯,sc.Ai c4 no d' uw⟩)
   ·left;rename_i uw;have rr:=o3.b eM hS
    obtain⟨afh,b4⟩:=id rr.sp;have JX:=CY.b k3 eM
    obtain⟨⟨⟨afi,abA⟩,afj⟩,afk⟩:=id JX;right;refine(dX b4 (T 132) (T 135) (xk S) ⟨S.b3,rfl,f6 abA (jx d ∅) (dX b4 (T 132) (T 136) (xj S) ⟨S.b3,d,es,S.n,t,max b ba,rfl,JX,⋯,⋯,⋯,λdg mK s5 abB abC abD=>⟨mK,rfl,?_⟩⟩)⟩);left;obtain⟨dh,e3,C2⟩:=sc.skip c4 eA gw no d' ⋯ abB abC abD;right;rw[show(if mK>t+1 then mK else t+1)=max (t+1) mK by split<;>omega];exact BU ⟨max (t+1) mK,bh,gc,v,least,st,sg,iK,rfl,rfl,s5 _ _ oV,oW,s5 _ _ x4,aA,λC3 C4=>⟨dh,e3,_,bh,iK,as,ms,C3,_,C2,λb o ae nb=>s5 _ _ (oX _ _ ae nb),hS.same s5,s5 _ _ oV,mA,s5 _ _ nI,Paired.fp C0 λ_ _ ⟨l,ar,aw,bV⟩=>⟨l,s5 _ _ ar,s5 _ _ aw,bV⟩,C4,rfl⟩⟩
 ·left;rename_i z;obtain⟨rfl,gd,ev,md,fa⟩:gW=.ref gc/\oM st iK v t least:=by
   rcases x3 with y|⟨y,_⟩
   ·exact y
   ·exact br y z
  obtain⟨t1,rs,abE⟩:=sc.hd;right;refine⟨p,mk,gc,d,S,i,n,t,b,w,h,sg,st,es,st.length,cG st,gd,as,ms,_,rfl,o3,CY,ap,c4,qM,pm,sc.all,sc.seg,sc.last,⟨t1,iK,by rw[abE];rfl,ev⟩,uT,⋯,λr ck qx eM hS cI a5 iO qQ=>⟨by rw[sizeLine_eq];decide,λpp nC=>?_⟩⟩;left;have s5:=bb (o:=a3.tup [V.int b,V.ref r]) nC
  have abF:=s5 _ _ (eM _ _ dY mA)
  obtain⟨JN,k3,_⟩:=id bA;have abG:=s5 _ _ (eM _ _ uT (cM uT k3 nofun))
  have oX:v6 S.bA H ck:=λb o ae nb=>eM _ _ (sB _ _ ae nb) nb
  right;refine⟨.int gd,by rw[<- ev];exact ed.t abF abG,λx av aP oq JW=>⟨x,av,.ref pp,gd,rfl,aH,rfl,?_⟩⟩;have dm:aQ (upd ck pp (a3.tup [V.int b,V.ref r])) (upd (upd (upd (upd ck pp (a3.tup [V.int b,V.ref r])) av (a3.own x)) x (a3.ins (ad.ai 88) av [])) x (a3.ins (ad.ai 88) av [("path",V.ref pp),("left",V.int gd)])):=λb o ae=>by
   rwa[zf (cg ae aP),zf (cg ae aP),zf (cg ae oq)]
  have dM:aQ ck _:=s5.trans dm
  exact ao x _ (λb o ae nb=>dM _ _ (oX _ _ ae nb)) (hS.same dM) (fr oX hS (s5.free aP)) (.inl ⟨t,⟨av,pp,r,gd,qx,aH,dm _ _ aH,dM _ _ a5,iO,qQ,by rw[<- ev];exact(sc.at'.eq _).symm⟩,cX.1,⋯,sc.found ((H3 gw).mpr ⟨gd,ev,md,fa⟩),sc.at'.no⟩)
theorem JY:wO ad.nq ad.nr ad.az ad.cj ad.ql bI 12 (ad.ai 57) q08 (H6 ad.ai ad.az ad.h7):=by
 obtain⟨fd,⟨B,abH⟩,abI,c7,cA,kb,afl,doc,pm,an,bW,et,rfl,lk,eL⟩:=(T 232);have abJ:=(T 233)
 have abK:=(T 234)
 have abL:=PySem.W.codeHd_of_K abK abI
 have abM:=λf c cl zs qy L M C=>abp (f:=f) (c:=c) (cl:=cl) (zs:=zs) (qy:=qy) (L:=L) (M:=M) T C
 refine⟨_,B,abH,vE lk eL Iw.sc.1 ?_ (λA outer s H vs Q E HR h=>oqq λUq uq=>?_)⟩;walk_at "l"
 have R:fO _ _ _ _ _:=⟨Iw,HR⟩
 have ND:=R.nd
 walk_at "h"
 obtain⟨bJ,cU,b3,aL,d,i,n,num,b,start,ch,least,m0,w,h,sg,st,es,cR,f0,rfl,hR,abN,eV,abO,oc,x7,abP,gp,nF,ap,c4,di,cL,hst,eA,ct,fP,eO,tok,ao⟩:=h;have abQ:closureFor (bU j1) (PyProof.Rows.envOfC "sought" (bU nk) ↑s (ad.ai 57) (.ref ad.xh))=pure ([(Str.ofString "least",↑s+1),(Str.ofString "goal",↑s+3),(Str.ofString "free",↑s+2)]:List (Str×Addr)):=by rfl
 have abR:∀q∈([(Str.ofString "least",↑s+1),(Str.ofString "goal",↑s+3),(Str.ofString "free",↑s+2)]:List (Str×Addr)),(PyProof.Rows.envOfC "sought" (bU nk) ↑s (ad.ai 57) (.ref ad.xh)).cells.lookup q.1∣q.2:=by
  intro q ao;simp only[mem_cons,not_mem_nil,or_false]at ao;rcases ao with rfl|rfl|rfl<;>rfl
 have abS:∀(m:Nat) y,(q35:List Str)[m]?∣y->∃j,([9,10,8]:List Nat)[m]?∣j/\(q13:List Str)[j]?∣y/\(bU nk).names.lookup y=some .cell/\([(Str.ofString "least",↑s+1),(Str.ofString "goal",↑s+3),(Str.ofString "free",↑s+2)]:List (Str×Addr)).lookup y=(PyProof.Rows.envOfC "sought" (bU nk) ↑s (ad.ai 57) (.ref ad.xh)).cells.lookup y:=by
  intro m y h;match m,h with
  | 0,h=>cases h;exact⟨9,rfl,rfl,∅,by rfl⟩
  | 1,h=>cases h;exact⟨10,rfl,rfl,∅,by rfl⟩
  | 2,h=>cases h;exact⟨8,rfl,rfl,∅,by rfl⟩
  | m+3,h=>cases h
 refine uq ⟨_,PSs.nox (aV (b0 9 R (fj (af (cJ zr R (T 0) (af (U 7 R) ay)) (af (bR zy (U 7 R) (hY h1 zc) (λ_ _=>rfl)) ay))))
 (aV (b0 10 R (e4 (U 2 R) (T 128) (T 58) (Y4 T) HR (af (U 3 R) (af (bR zy (U 7 R) (hY h1 zc) (λ_ _=>rfl)) ay))))
 (
 Tv 11 ND rfl abL abJ abQ abS rfl abR (λ_=>rfl) (λf c zs fd L M=>abM f c _ zs fd L M) HR (m5 Im) (T 73).1 (T 73).2 (ja Im).2.1 (af (p5 (T 139) (YQ T) R (T 131) (af (U 0 R) (af (U 1 R) (af (U 2 R) (af (U 3 R) (af (U 7 R) ay)))))) (af (U 4 R) (af (cx (Y6 T) R (T 65) (af (U 7 R) (af (U 5 R) (af (U 6 R) ay)))) (af (U 11 R) ay))))))),?_⟩
 rfl';left;obtain⟨⟨⟨db,abT⟩,hdb⟩,b8⟩:=id nF;have ei:=uj x7
 right;ext;refine⟨_,.inl oc,_,oc,_,ei,by rw[sizeLine_eq];decide,λgc B8=>?_⟩;have fy:a3.tup [V.int ((st.map V.int).length:Int),V.int (cG st)]=a3.tup ((aW st.length (cG st)).map bq):=by rw[length_map];rfl
 rw[fy];have r6:=bb (o:=a3.tup ((aW st.length (cG st)).map bq)) B8
 refine(f6 (r6 _ _ abT) (jx d ∅) ⟨_,r6.seq oc,_,ei,b3,d,es,num,cG st,rfl,nF.same r6,λH1 v s1 gw=>?_⟩);have jh:=r6.trans s1
 refine⟨tok.same jh,[.ref gc,v,.int least],rfl,λf aE bar JZ b5=>?_⟩;left;obtain⟨fv,kq,_⟩:=tok.same jh;have eT:v6 ad.h7 H1 aE:=λb o ae nb=>bar b o nb ae
 have J0:=xn (jh.seq oc) kq Wo eT
 have abU:kv ad.ai aE cU i n:=let⟨h9,e⟩:=abN;⟨h9,eT _ _ (jh _ _ e) (cM (jh _ _ e) kq nofun)⟩
 have abV:iF (ad.ai 83) aE bJ w h sg:=let⟨lx,l,bV,eI⟩:=abO.ob;⟨⟨lx,l,eT _ _ (jh _ _ bV) (cM (jh _ _ bV) kq nofun),eT _ _ (jh _ _ eI) (cM (jh _ _ eI) kq nofun)⟩⟩
 have CD:=(nF.same jh).dq kq eT
 have wI:=s1 _ _ (show upd H gc (a3.tup ((aW st.length (cG st)).map bq)) gc=_ from aH)
 have tQ:=eT _ _ wI (cM wI kq nofun)
 right;ext;intro x av aP oq JW;refine⟨x,av,bJ,cU,b3,aL,num,rfl,aH,λbA bP iM fI J1 c2=>⟨rfl,?_⟩⟩;have abW:bA≠x:=λz=>by rw[z,aH]at iM;cases iM
 rw[zf abW]at iM;have knd:bA≠av:=λz=>by rw[z,aH]at iM;cases iM
 rw[zf knd]at iM;have s3:aQ aE bP:=λb o ae=>c2 b o (by rwa[zf (cg ae aP),zf (cg ae oq)]) (cg ae aP)
 refine⟨aL,st,start,ch,rfl,s3.seq J0,⋯,λbh ck s4 mA dY=>⟨s3.trans s4,?_⟩⟩;left;have oZ:=s3.trans s4
 have up:∀{b o},b≠ad.h7->H b∣o->ck b∣o:=λnb ae=>oZ _ _ (eT _ _ (jh _ _ ae) nb)
 obtain⟨afm,abX,_⟩:=id JZ;have back:∀{r},ck r=none->H r=none:=λ{r} cI=>by
  cases e:H r with
  | none=>rfl
  | some u=>
   by_cases z:r=ad.h7
   ·rw[z,oZ _ _ abX]at cI;cases cI
   ·rw[up z e]at cI;cases cI
 have J2:=s4 _ _ J1
 obtain⟨abY,abZ⟩:=fI;have ab0:e8 ad.ai ad.az ck x ⟨bJ,cU,b3,num,aL,bA⟩ i n w h sg st:=⟨⟨abY,s4 _ _ abZ⟩,abU.same oZ,eV,abV.same oZ,cR,oZ.seq J0,by show st.length<=100;omega,⟨[],J2,.nil,F6,λm c v aJ=>by cases aJ⟩⟩
 have ab1:ck bh∣.bc f0.1:=by rwa[hR]
 right;refine⟨x,bh,d,gc,⟨bJ,cU,b3,num,aL,bA⟩,i,n,b,least,m0,w,h,sg,st,es,f0.1,v,cR,f0.2,rfl,rfl,ab0,CD.same oZ,ap,c4,di,ab1,(cg J1 mA).symm,λm c q hm=>?_,λk q aJ=>?_,oZ _ _ tQ,gw,eA,ct,fP,eO,abP,gp,λr dg uS sl cI out=>ao r dg (λb o nb ae=>?_) (gJ.b (JZ.same oZ) J2 uS) (back cI) (out.imp id λ⟨T,f,⟨h9,cB,a1,a2,fY⟩,hJ⟩=>⟨T,f,⟨h9,cB,a1,a2,back fY⟩,hJ⟩)⟩
 ·rw[hR]at hm;obtain⟨ar,_⟩:=Prod.ext_iff.mp (mem_singleton.mp hm);rwa[(jz ar).2]
 ·have hm:=mm aJ
  rw[hR]at hm;obtain⟨_,aw⟩:=Prod.ext_iff.mp (mem_singleton.mp hm);cases aw;exact cL
 ·exact uS _ _ (up nb ae) (cg (eT _ _ (jh _ _ ae) nb) iM)
theorem ab2 (F:ke ad.az "law" "law" qk (ad.ai 82) fd):fw ad.nq ad.nr ad.az ad.cj ad.ql bI 13 (ad.ai 82) fd q26 (xu ad.az ad.h7):=by
 refine F.ok Iy.sc.1 ?_ (λcdv A outer s H vs Q E HR h=>oqq λUq uq=>?_);walk_at "l"
 have R:fO _ _ _ _ _:=⟨Iy,HR⟩
 have ND:=R.nd
 walk_at "h"
 obtain⟨a,ns,rfl,cb,aD,ae,tok,ao⟩:=h;obtain⟨afn,ab3,ab4⟩:=Zx T;refine uq ⟨_,(aV (b0 1 R (cx (ZA T) R (T 77) (af (U 0 R) ay)))
 (aV (b0 2 R (cx (nB T) R (T 76) (af (U 0 R) (af zc ay))))
 (aV (b0 3 R (fj (af (bR zy (ww (af eh (af eh (af eh ay)))) (bG fH (U 2 R) zc) (λ_ _=>rfl)) (af (bG dW zc (bG fH (bG ip (U 2 R) zc) zc)) (af (bR zy (ww (af zc (af zc (af zc ay)))) (bG fH (bG ip (U 2 R) zc) zc) (λ_ _=>rfl)) ay)))))
 (aV (qW (cx (aaH T) R (T 85) (af (U 0 R) (af zc (af (U 1 R) (af (bR dv (U 3 R) zc (λ_ _=>rfl)) ay))))) (kK (n:=2) (cY rfl) (fG (dn 4 R) (fG (dn 5 R) kJ))))
 (aV (b0 6 R (cx (Zg T) R (T 86) (af (U 1 R) (af (bR dv (U 3 R) zc (λ_ _=>rfl)) ay))))
 (aV (zl (i:=7) (gD.of (hG:=bU qk) (tn:=["_law_k"]) (cn:=["_law_stands_here","_law_script"]) (dR:=[6,0]) rfl rfl ∅ ∅ ∅ ∅ rfl) (cY rfl) ND rfl Xb (kN (fN Il) (T 1).1 (af (bR zy (ww (af zc (af zc (af zc (af zc (af zc ay)))))) (bG fH (bG ip (U 2 R) zc) zc) (λ_ _=>rfl)) ay) (dI rfl))
 (λ_ _ _ _ _=>(hX (i:=0) (show(["_law_k","_law_stands_here","_law_script"]:List Str).Nodup by decide +kernel) rfl (Or.inl rfl))) (λ_ _ _ _ _=>od) (λ_ _ _ _ _=>(bR (Qf (K:=ad.az) rfl) (cK 1) (bG fH (bG ip (gR (nB T) HR (T 76) W4 (af (cK 2) (af zc ay))) (bG dW (cK 0) zc)) (yK (Ff (K:=ad.az) rfl) (by rfl) (T 0).1 PyProof.Rows.Boot.«len» (af (cK 1) ay) (hn:=Ih) (hdb:=y2) (he:=fl rfl) (hpl:=fW rfl))) (λ_ _=>rfl))) (hsw:=by rfl))
 (aV (b0 8 R (bG fH (bG ip (U 2 R) zc) zc))
 (aV (b0 9 R (bR zy (U 6 R) (bG fH (cx (nB T) R (T 76) (af (U 0 R) (af zc ay))) (cJ zr R (T 0) (af (U 6 R) ay))) (λ_ _=>rfl)))
 (aV (b0 10 R (cJ (pz rfl) R (T 10) (af (bR dv (U 3 R) zc (λ_ _=>rfl)) (af (bG fH (cx (nB T) R (T 76) (af (U 0 R) (af zc ay))) (bG dW (bR dv (U 3 R) zc (λ_ _=>rfl)) zc)) ay))))
 (aV (b0 11 R (bR zy (ww (af zc (af zc (af zc (af zc (af zc ay)))))) (bG fH (cx (nB T) R (T 76) (af (U 0 R) (af zc ay))) zc) (λ_ _=>rfl)))
 (aV (b0 12 R (p5 (T 102) (Z1 T) R (T 96) (af (rD vK R (T 7) (af (U 1 R) ay)) ay)))
 (aV (b0 13 R (cx (Zq T) R (T 46) (af (bR dv (U 3 R) zc (λ_ _=>rfl)) (af (bR dv (U 3 R) zc (λ_ _=>rfl)) ay))))
 (aV (b0 14 R (rD vK R (T 7) (af (U 7 R) ay)))
 (aV (b0 15 R (fj (af (U 7 R) (af (U 8 R) (af (U 9 R) (af (U 10 R) (af (U 11 R) ay)))))))
 (aV (b0 16 R (ww ay))
 (aV (fc PassesOwn.never (cY rfl) (kN (fN Il) (T 1).1 (af zc ay) (dI rfl)) (dn 17 R)
 (aV (b0 18 R (bR dv (U 3 R) zc (λ_ _=>rfl)))
 (aV (cN (cp eH (U 11 R) zc)
 (aX (b0 19 R (TQ (JY T) R (T 71) (af (U 12 R) (af (U 13 R) (af (U 4 R) (af (U 18 R) (af (U 8 R) (af (U 9 R) (af (U 10 R) (af (U 14 R) ay)))))))))))
 (aX (b0 19 R (cx (JY T).zn R (T 71) (af (U 12 R) (af (U 13 R) (af (U 4 R) (af (U 18 R) (af (U 8 R) (af (U 9 R) (af (U 10 R) (af (U 14 R) (af (U 11 R) ay)))))))))))))
 (aV (cN (eF.pt (jm (cp eH (cJ zP R (T 2) (af (U 19 R) (af (iC (v:=.ref (ad.ai 88)) R (T 117) rfl) ay))) (cJ zP R (T 2) (af (U 19 R) (af (iC (v:=.ref (ad.ai 89)) R (T 122) rfl) ay)))) (kH (cp (pO HU) (U 14 R) (U 7 R)))))
 (aX (bY jJ))
 zx)
 (aV (cN (fS (cJ zP R (T 2) (af (U 19 R) (af (iC (v:=.ref (ad.ai 88)) R (T 117) rfl) ay))))
 (aV (cN (jn (fS (cx (aat T) R (T 95) (af (U 1 R) (af (U 3 R) (af (U 5 R) (af (U 15 R) (af (U 19 R) ay))))))))
 (aX (bY jJ))
 zx)
 (aX (hj (hE wa1 wa2 wa3 i0 (U 16 R) (af (dN (U 19 R) (by rfl)) ay)))))
 zx)
 (aV (cN (cp (pO HU) (Gf (U 4 R) (T 128) (T 55) (IG T) HR) (cJ (FP rfl) R (T 12) (af (U 5 R) ay)))
 (aX (bY jJ))
 zx)
 (aX (cN (cp (pO HU) (zY (kg (gD.of (hG:=bU qk) (tn:=["_law_one"]) (cn:=["_law_ways_here","_law_book"]) (dR:=[5,4]) rfl rfl ∅ ∅ ∅ ∅ rfl) (cY rfl)  (tw (U 5 R))
 (λ_ _ _ _ _=>(hX (i:=0) (show(["_law_one","_law_ways_here","_law_book"]:List Str).Nodup by decide +kernel) rfl (Or.inl rfl))) (λ_ _ _ _ _=>(pK (cp (Qg (K:=ad.az) rfl HU) (zI (cK 2) (T 128) (T 54) ab4 (HR.mono (by decide)) ab3 .nil Qq (af (cK 0) ay) (hst:=fl rfl) (hpl:=fW rfl)) (gn (dx HU) (cK 1) (cK 0) (λ_ _=>rfl))))) (λ_ _ _ _ _=>(cK 0)))) (ww ay))
 (aX (bY jJ))
 zx))))))))
 (
 aX (bY (ys (hq (v8 HU) (U 16 R) (ww ay)) (kI (lT (hq eH (cJ zr R (T 0) (af (U 16 R) ay)) zc) (kI (hq (v8 HU) (bR zy (U 16 R) zc (λ_ _=>rfl)) (bR zy (U 16 R) zc (λ_ _=>rfl))))))))))))))))))))))))),?_⟩
 rfl';refine zj (λJ H'=>∃(l:Addr)(w h:Nat)(sg:List Nat),aQ H H'/\hb H' l w h sg/\Fl.Good w h sg/\46∈sg/\sg.length<=9/\J=hQ 18 [.ref a,.ref l]) (λaP aj=>?_) ?_
 ·ext;exact⟨a,ns,rfl,cb,ae,λl H' w h sg nl s cw g r7 C5=>aj _ _ ⟨l,w,h,sg,s,cw,g,r7,C5,rfl⟩⟩
 rintro cm a9 J H1 ⟨l,w,h,sg,s1,mr,g,r7,C5,rfl⟩;nofun;refine zj (λJ H'=>∃v:Int,0<=v/\H'=H1/\J=hQ 17 [.ref a,.ref l,.int v]) (λaP aj=>?_) ?_
 ·ext;exact⟨a,ns,_,rfl,s1.seq cb,ae,by decide,by decide,λv v0 v1=>aj _ _ ⟨v,v0,rfl,rfl⟩⟩
 rintro cm a9 J aE ⟨v,v0,rfl,rfl⟩;nofun;refine zj (λJ H'=>∃(mo:Addr)(i:Nat)(x:Str)(n num:Int),i<3/\j2[i]?∣x/\1<=n/\n<=8/\aQ aE H'/\rZ H' mo x n num/\J=hQ 16 [.ref a,.ref l,.int v,.ref mo]) (λaP aj=>?_) ?_
 ·ext;refine⟨⋯,λa8 jF=>⟨by decide,_,aK.of aH,?_⟩⟩;left;obtain⟨i,x,eV,au,ei⟩:∃(i:Nat)(x:Str),i<3/\j2[i]?∣x/\dH [V.str (!"cart"),V.str (!"crawler"),V.str (!"runner")] (v%3)∣V.str x:=by
   have aR:=Ia v
   rcases aR with z|z|z<;>rw[z]
   ·exact⟨0,_,by decide,rfl,rfl⟩
   ·exact⟨1,_,by decide,rfl,rfl⟩
   ·exact⟨2,_,by decide,rfl,rfl⟩
  obtain⟨num,b8⟩:∃num:Int,dH [V.int 5,V.int 3,V.int 0] (v/11%3)=↥num:=by
   have aR:=Ia (v/11)
   rcases aR with z|z|z<;>rw[z]<;>exact⟨_,rfl⟩
  right;exact⟨_,ei,⟨by decide,by decide⟩,by decide,⋯,λbK Cf=>⟨⟨by decide,by decide⟩,by decide,g9 (aK.of aH) b8 ⟨⋯,λdZ qD=>aj _ _ ⟨dZ,i,x,_,num,eV,au,⋯,⋯,((bb jF).trans (bb Cf)).trans (bb qD),aH,rfl⟩⟩⟩⟩
 rintro cm a9 J gM ⟨mo,i,x,n,num,eV,au,c4,di,dm,sr,rfl⟩;nofun;have oj:aQ H gM:=s1.trans dm
 refine zj (λJ H'=>∃p d e es,aQ gM H'/\kz (ad.ai 90) H' p d e es/\J=hQ 14 [.ref a,.ref l,.int v,.ref mo,.ref p,.ref e]) (λaP aj=>?_) ?_
 ·ext;refine(dp (v:=V.int num) (bT.of sr) rfl ⟨a,l,ns,3,num,w,h,sg,rfl,oj.seq cb,ae,by decide,by decide,dm _ _ mr,g,λr p d e es H' s a5 CE=>?_⟩);exact⟨r,rfl,_,bT.of a5,rfl,_,_,rfl,_,_,rfl,rfl,aj _ _ ⟨p,d,e,es,s,CE,rfl⟩⟩
 rintro cm a9 J gi ⟨p,d,e,es,dM,tw7,rfl⟩;nofun;refine zj (λJ H'=>∃sc,aQ gi H'/\H' sc∣.lst ((jd i sg).map V.int)/\J=hQ 13 [.ref a,.ref l,.int v,.ref mo,.ref p,.ref e,.ref sc]) (λaP aj=>?_) ?_
 ·ext;exact(dp (v:=V.str x) (bT.of (dM _ _ sr)) rfl ⟨x,i,l,w,h,sg,rfl,au,(dm.trans dM) _ _ mr,g,λr H' cI s a5=>aj _ _ ⟨r,s,a5,rfl⟩⟩)
 rintro cm a9 J mT ⟨sc,fk,x8,rfl⟩;nofun;have J3:aQ H mT:=oj.trans (dM.trans fk)
 have ab5:=VX (i:=i) r7
 have afo:=length_pos_iff.mpr ab5
 have afp:=VY (i:=i) (sg:=sg)
 have J4:∀r:Int,∃c∈jd i sg,dH ((jd i sg).map V.int) (r%((jd i sg).length:Int))=↥c:=λr=>by
  have ar:=emod_nonneg r (show((jd i sg).length:Int)≠0 by omega)
  have aw:=emod_lt_of_pos r (show(0:Int)<(jd i sg).length by omega)
  obtain⟨k,c6⟩:=eq_ofNat_of_zero_le ar;have ak:(jd i sg)[k]?∣((jd i sg)[k]'⋯):=getElem?_eq_getElem ⋯
  exact⟨_,mem_of_getElem? ak,by rw[c6];exact gk (by rw[getElem?_map,ak];rfl)⟩
 refine zj (λJ H'=>∃(gf:Addr)(st:List Int),st≠[]/\st.length<=4/\aQ mT H'/\H' gf∣.lst (st.map V.int)/\J=hQ 12 [.ref a,.ref l,.int v,.ref mo,.ref p,.ref e,.ref sc,.ref gf]) (λaP aj=>?_) ?_
 ·ext;refine⟨⋯,λa8 jF=>⟨⟨by decide,by decide⟩,by decide,_,aK.of aH,?_⟩⟩;left;have hh:=bb (o:=a3.lst [V.int 1,V.int 2,V.int 1,V.int 3,V.int 4]) jF
  obtain⟨j,iB,oz,Aw⟩:∃j:Int,dH [V.int 1,V.int 2,V.int 1,V.int 3,V.int 4] (v/99%5)=↥j/\1<=j/\j<=4:=by
   have aR:=md5 (v/99)
   rcases aR with z|z|z|z|z<;>rw[z]<;>exact⟨_,rfl,by decide,by decide⟩
  right;refine⟨_,iB,j,rfl,⋯,⋯,Hw (λk aF H'=>H'=upd mT a8 (a3.lst [V.int 1,V.int 2,V.int 1,V.int 3,V.int 4])/\∃st:List Int,st.length=k/\aF=st.map V.int) ⟨rfl,[],rfl,rfl⟩ ?_ ?_⟩
  ·rintro k aF H' c6 bH;left;obtain⟨rfl,st,x9,rfl⟩:=bH;right;ext;refine⟨a,ns,_,rfl,(J3.trans hh).seq cb,ae,by decide,by decide,λr hF bX=>⟨r,rfl,⟨⋯,⋯⟩,_,.inl (aK.of (hh _ _ x8)),by rw[length_map];omega,_,aK.of (hh _ _ x8),?_⟩⟩;left;obtain⟨c,_,ak⟩:=J4 (r/(0+(k:Int)+1));right;exact⟨V.int c,by rwa[length_map],by rw[length_map];omega,rfl,st++[c],by simp[x9],by rw[map_append];rfl⟩
  ·rintro aF H' bH;left;obtain⟨rfl,st,x9,rfl⟩:=bH;right;exact⟨by rw[length_map];omega,λD e1=>aj _ _ ⟨D,st,(by intro z;rw[z]at x9;have:(0:Nat)=j.toNat:=x9;omega),⋯,hh.trans (bb e1),aH,rfl⟩⟩
 rintro cm a9 J l1 ⟨gf,st,x7,ab6,gp,J5,rfl⟩;nofun;have ya:=J3.trans gp
 refine zj (λJ H'=>∃b:Int,0<=b/\b<=2/\H'=l1/\J=hQ 11 [.ref a,.ref l,.int v,.ref mo,.ref p,.ref e,.ref sc,.ref gf,.int b]) (λaP aj=>?_) ?_
 ·ext;exact⟨⟨by decide,by decide⟩,by decide,aj _ _ ⟨_,⋯,⋯,rfl,rfl⟩⟩
 rintro cm a9 J rf ⟨b,eA,b6,rfl,rfl⟩;nofun;refine zj (λJ H'=>∃start,start∈jd i sg/\H'=rf/\J=hQ 10 [.ref a,.ref l,.int v,.ref mo,.ref p,.ref e,.ref sc,.ref gf,.int b,.int start]) (λaP aj=>?_) ?_
 ·ext;refine⟨a,ns,_,rfl,ya.seq cb,ae,by decide,by decide,λr hF bX=>⟨_,.inl (aK.of (gp _ _ x8)),r,rfl,by rw[length_map];omega,_,aK.of (gp _ _ x8),?_⟩⟩;left;obtain⟨c,ak,fL⟩:=J4 r;right;exact⟨_,by rwa[length_map],aj _ _ ⟨c,ak,rfl,rfl⟩⟩
 rintro cm a9 J ab7 ⟨start,ab8,rfl,rfl⟩;nofun;have J6:=(dM.trans (fk.trans gp)) _ _ sr
 refine zj (λJ H'=>∃ch:Int,0<=ch/\ch<=n/\H'=ab7/\J=hQ 9 [.ref a,.ref l,.int v,.ref mo,.ref p,.ref e,.ref sc,.ref gf,.int b,.int start,.int ch]) (λaP aj=>?_) ?_
 ·ext;refine(dp (v:=V.int n) (bT.of J6) rfl ⟨a,ns,_,rfl,ya.seq cb,ae,by decide,by decide,λr hF bX=>(dp (v:=V.int n) (bT.of J6) rfl ⟨n,rfl,r,rfl,⋯,n,rfl,aj _ _ ⟨_,?_,?_,rfl,rfl⟩⟩)⟩)
  ·have:=emod_nonneg r (show n+3≠0 by omega)
   split<;>omega
  ·split<;>omega
 rintro cm a9 J J7 ⟨ch,dj,cL,rfl,rfl⟩;nofun;refine zj (λJ H'=>∃least:Int,aQ J7 H'/\J=hQ 8 [.ref a,.ref l,.int v,.ref mo,.ref p,.ref e,.ref sc,.ref gf,.int b,.int start,.int ch,.int least]) (λaP aj=>?_) ?_
 ·ext;refine⟨⋯,λa8 jF=>⟨a,ns,_,rfl,(ya.trans (bb jF)).seq cb,ae,by decide,by decide,λr hF bX=>⟨r,rfl,by decide,_,aK.of aH,?_⟩⟩⟩;obtain⟨j,iB⟩:∃j:Int,dH [V.int 0,V.int 0,V.int 1,V.int 2,V.int 4] (r%5)=↥j:=by
   rcases md5 r with z|z|z|z|z<;>rw[z]<;>exact⟨_,rfl⟩
  exact⟨_,iB,aj _ _ ⟨j,bb jF,rfl⟩⟩
 rintro cm a9 J yb ⟨least,uV,rfl⟩;nofun;have J8:aQ aE yb:=(dm.trans (dM.trans (fk.trans gp))).trans uV
 refine zj (λJ H'=>∃bJ,aQ yb H'/\iF (ad.ai 83) H' bJ w h sg/\J=hQ 7 [.ref a,.ref l,.int v,.ref mo,.ref p,.ref e,.ref sc,.ref gf,.int b,.int start,.int ch,.int least,.ref bJ]) (λaP aj=>?_) ?_
 ·ext;refine⟨_,.inl (aK.of (J8 _ _ mr)),λq c3 sf av J9 hu afq=>?_⟩;have hh:=bb (o:=a3.lst ((Fl.linesOf w h sg).map V.str)) c3
  have s0:aQ (upd yb q (a3.lst ((Fl.linesOf w h sg).map V.str))) (upd (upd (upd yb q (a3.lst ((Fl.linesOf w h sg).map V.str))) av (a3.own sf)) sf (a3.ins (ad.ai 83) av [])):=λb o e=>by rwa[zf (cg e J9),zf (cg e hu)]
  refine⟨sf,av,q,w,h,sg,rfl,aH,s0 _ _ aH,g,λH' uf ab9 qI iL vh aca=>⟨rfl,aj _ _ ⟨sf,λb o e=>aca b o (s0 _ _ (hh _ _ e)) (cg (hh _ _ e) J9),⟨⟨uf,ab9,iL,vh⟩⟩,rfl⟩⟩⟩
 rintro cm a9 J acb ⟨bJ,uW,CR,rfl⟩;nofun;refine zj (λJ H'=>∃cr,aQ acb H'/\kv ad.ai H' cr i n/\J=hQ 6 [.ref a,.ref l,.int v,.ref mo,.ref p,.ref e,.ref sc,.ref gf,.int b,.int start,.int ch,.int least,.ref bJ,.ref cr]) (λaP aj=>?_) ?_
 ·ext;exact(dp (v:=V.str x) (bT.of ((dM.trans (fk.trans (gp.trans (uV.trans uW)))) _ _ sr)) rfl (dp (v:=V.int n) (bT.of ((dM.trans (fk.trans (gp.trans (uV.trans uW)))) _ _ sr)) rfl ⟨i,x,n,rfl,eV,au,c4,⋯,λgj H' s np c=>aj _ _ ⟨gj,s,c,rfl⟩⟩))
 rintro cm a9 J acd ⟨cr,yc,ace,rfl⟩;nofun;have acf:=(uV.trans (uW.trans yc)) _ _ J5
 refine zj (λJ H'=>∃hd,aQ acd H'/\H' hd∣.lst (st.map V.int)/\J=hQ 5 [.ref a,.ref l,.int v,.ref mo,.ref p,.ref e,.ref sc,.ref gf,.int b,.int start,.int ch,.int least,.ref bJ,.ref cr,.ref hd]) (λaP aj=>?_) ?_
 ·ext;exact⟨_,.inl (aK.of acf),λq c3=>aj _ _ ⟨q,bb c3,aH,rfl⟩⟩
 rintro cm a9 J acg ⟨hd,yd,ach,rfl⟩;nofun;refine zj (λJ H'=>∃fg,aQ acg H'/\H' fg∣.tup [.ref gf,.int b,.int start,.int ch,.int least]/\J=hQ 4 [.ref a,.ref l,.int v,.ref mo,.ref p,.ref e,.ref sc,.ref gf,.int b,.int start,.int ch,.int least,.ref bJ,.ref cr,.ref hd,.ref fg]) (λaP aj=>?_) ?_
 ·ext;exact⟨⋯,λq c3=>aj _ _ ⟨q,bb c3,aH,rfl⟩⟩
 rintro cm a9 J ie ⟨fg,uX,Cw,rfl⟩;nofun;refine zj (λJ H'=>∃fJ,aQ ie H'/\ie fJ=none/\H' fJ∣.lst []/\J=hQ 3 [.ref a,.ref l,.int v,.ref mo,.ref p,.ref e,.ref sc,.ref gf,.int b,.int start,.int ch,.int least,.ref bJ,.ref cr,.ref hd,.ref fg,.ref fJ]) (λaP aj=>?_) ?_
 ·ext;exact⟨⋯,λq c3=>aj _ _ ⟨q,bb c3,c3,aH,rfl⟩⟩
 rintro cm a9 J afr ⟨fJ,Ka,C6,aci,rfl⟩;nofun;left;have sW:aQ J7 ie:=(uV.trans (uW.trans yc)).trans (yd.trans uX)
 have vt:aQ gi ie:=fk.trans (gp.trans sW)
 have acj:aQ H ie:=ya.trans sW
 have tw17:=tw7.same vt
 have C7:gU (ad.ai 90) ie p d es:=⟨tw17.b3,tw17.b8⟩
 have Kb:rZ ie mo x n num:=vt _ _ (dM _ _ sr)
 have ack:hb ie l w h sg:=(J8.trans ((uW.trans yc).trans (yd.trans uX))) _ _ mr
 have Kc:=sW _ _ J5
 have Kd:=uX _ _ ach
 have acm:=((CR.same yc).same yd).same uX
 have acn:=(ace.same yd).same uX
 obtain⟨aco,oi⟩:=VW ab8;have o1:dk st sg [(aW (met st 0 start) start,V.int ch)]:=Ic (qs (zero_le _)) aco dj
 obtain⟨m0,fP⟩:=H7 ((bk es num).map e6);have Ke:∀e∈bk es num,0<=e6 e/\e6 e<=299/\e.c≠[]:=λe he=>by
  have:=(tw17.b8.ok e (kn.mp he).1).2.1
  have aa:=length_pos_iff.mpr this.1
  unfold tx at this;unfold e6;exact⟨⋯,⋯,this.1⟩
 have eO:m0<=1000:=by
  rcases fP with⟨_,z⟩|⟨z,_⟩
  ·omega
  ·obtain⟨y,bg,rfl⟩:=mem_map.mp z;have:=Ke y bg
   omega
 have kp:∀u r,max b m0<=u->Still (bk es num) u r:=λu r bZ=>Gq (λe he=>(Ke e he).2.2) (λe he=>by
  rcases fP with⟨z,_⟩|⟨_,z⟩
  ·have:=mem_map.mpr ⟨e,he,(rfl:e6 e=e6 e)⟩
   rw[z]at this;cases this
  ·have:e6 e<=m0:=z _ (mem_map.mpr ⟨e,he,rfl⟩)
   unfold e6 at this;omega) _
 have Kf:=tok.same acj
 obtain⟨fv,kq,_⟩:=id Kf;have ye:∀{b:Addr}{o:a3},ie b∣o->(∀t,o≠.eY t)->b≠ad.h7:=λae no z=>by rw[z,kq]at ae;cases ae;exact no _ rfl
 right;refine zj (λJ H'=>∃(ps:List Addr)(qN qO o2:Option V),H' fJ∣.lst (ps.map V.ref)/\(ps=[]\/ps.length=2/\∃cs,∀q∈ps,ef H' (.ref q) b cs)/\J=[⇑a,⇑l,↥v,⇑mo,⇑p,⇑e,⇑sc,⇑gf,↥b,↥start,↥ch,↥least,⇑bJ,⇑cr,⇑hd,⇑fg,⇑fJ,qN,qO,o2]) (λaP aj=>?_) ?_
 ·ext;refine⟨by decide,by decide,m6 (λj J H'=>∃(ps:List Addr)(qN qO o2:Option V),(∀b o,ie b∣o->b≠ad.h7->H' b∣o)/\gJ (rN j1) "sought.<locals>.there" ad.h7 H'/\fJ≠ad.h7/\H' fJ∣.lst (ps.map V.ref)/\(ps=[]/\(0<j->∃T f,Sr.rG Alike (stepT (bk es num) i st n g) (λt (f:gV st sg)=>gu (bk es num) st f.1 t least) b (max b m0) ⟨_,o1⟩ T f)\/ps.length=j/\∃cs,r1 (bk es num) i st n g b least ⟨_,o1⟩ cs/\∀q∈ps,ef H' (.ref q) b cs)/\J=[⇑a,⇑l,↥v,⇑mo,⇑p,⇑e,⇑sc,⇑gf,↥b,↥start,↥ch,↥least,⇑bJ,⇑cr,⇑hd,⇑fg,⇑fJ,qN,qO,o2]) ⟨[],none,none,none,λb o ae _=>Ka _ _ ae,Kf.same Ka,(λz=>by rw[z,kq]at C6;cases C6),aci,.inl ⟨rfl,λz=>br z (by decide)⟩,rfl⟩ ?_ ?_⟩
  ·rintro j J H' N aZ bH b9;left;obtain⟨ps,qN,qO,o2,up,tk,pt,C8,alt,rfl⟩:=bH;have o4:∀{b:Addr}{o:a3},ie b∣o->(∀t,o≠.eY t)->H' b∣o:=λae no=>up _ _ ae (ye ae no)
   right;refine zj (λJ aE=>aE=H'/\J=[⇑a,⇑l,↥v,⇑mo,⇑p,⇑e,⇑sc,⇑gf,↥b,↥start,↥ch,↥least,⇑bJ,⇑cr,⇑hd,⇑fg,⇑fJ,↥j,↥num,o2]) (λaP aj=>?_) ?_
   ·ext;rw[show(0:Int)+(j:Int)=j by omega];exact(dp (v:=V.int num) (bT.of (o4 Kb nofun)) rfl (aj _ _ ⟨rfl,rfl⟩))
   rintro cm a9 J o5 ⟨rfl,rfl⟩;nofun;have acp:gU (ad.ai 90) o5 p d es:=by
    left;obtain⟨⟨⟨h9,ar⟩,aw⟩,bV⟩:=C7;right;exact⟨⟨⟨h9,o4 ar nofun⟩,o4 aw nofun⟩,bV.cH λb xs ae=>o4 ae nofun⟩
   have acq:kv ad.ai o5 cr i n:=let⟨h9,ar⟩:=acn;⟨h9,o4 ar nofun⟩
   have acr:iF (ad.ai 83) o5 bJ w h sg:=let⟨lx,rJ,bV,eI⟩:=acm.ob;⟨⟨lx,rJ,o4 bV nofun,o4 eI nofun⟩⟩
   have acs:=o4 Kd nofun
   refine zj (λJ aE=>∃r,tV ad.h7 o5 aE/\gJ (rN j1) "sought.<locals>.there" ad.h7 aE/\o5 r=none/\BV ad.ai o5 aE r (bk es num) i st n g b (max b m0) least ⟨_,o1⟩/\J=[⇑a,⇑l,↥v,⇑mo,⇑p,⇑e,⇑sc,⇑gf,↥b,↥start,↥ch,↥least,⇑bJ,⇑cr,⇑hd,⇑fg,⇑fJ,↥j,↥num,⇑r]) (λaP aj=>?_) ?_
   ·have call:∀{ls:Int},ls=least->H6 ad.ai ad.az ad.h7 [.ref bJ,.ref cr,.ref p,.int num,.int b,.int start,.int ch,.ref hd,.int ls] o5 (λu aE=>aP ([⇑a,⇑l,↥v,⇑mo,⇑p,⇑e,⇑sc,⇑gf,↥b,↥start,↥ch,↥least,⇑bJ,⇑cr,⇑hd,⇑fg,⇑fJ,↥j,↥num,some u]) aE) fU:=λz=>by
     rw[z];exact⟨bJ,cr,p,hd,d,i,n,num,b,start,ch,least,m0,w,h,sg,st,es,g,⟨_,o1⟩,rfl,rfl,acq,⋯,acr,aK.of acs,x7,ab6,C5,acp,tw17.ap,⋯,⋯,cL,oi,eA,⋯,fP,eO,tk,λr aE bar yf cI out=>aj _ _ ⟨r,bar,yf,cI,out,rfl⟩⟩
    ext;split
    ·rename_i z;exact call z.symm
    ·exact call rfl
   rintro cm a9 J aE ⟨r,bar,yf,cI,out,rfl⟩;nofun;have rL:∀b o,ie b∣o->b≠ad.h7->aE b∣o:=λb o ae nb=>bar _ _ nb (up _ _ ae nb)
   have o6:∀{b:Addr}{o:a3},ie b∣o->(∀t,o≠.eY t)->aE b∣o:=λae no=>rL _ _ ae (ye ae no)
   have Kg:=bar _ _ pt C8
   refine zj (λJ bP=>bP=aE/\J=[⇑a,⇑l,↥v,⇑mo,⇑p,⇑e,⇑sc,⇑gf,↥b,↥start,↥ch,↥least,⇑bJ,⇑cr,⇑hd,⇑fg,⇑fJ,↥j,↥num,⇑r]) (λaP aj=>?_) ?_
   ·ext;have fin:∀{cL cD:Bool},cL≠cD->(if cL=cD then Q (V.bl false) aE else ∃d,Den ad.az aE (V.ref hd) d/\∃x,Den ad.az aE (V.ref gf) x/\SeqAt.shaped d=true/\SeqAt.shaped x=true/\if d.eqv x=false then Q (V.bl false) aE else aP ([⇑a,⇑l,↥v,⇑mo,⇑p,⇑e,⇑sc,⇑gf,↥b,↥start,↥ch,↥least,⇑bJ,⇑cr,⇑hd,⇑fg,⇑fJ,↥j,↥num,⇑r]) aE):=λz=>by
     rw[aB z];refine(ow (s6 (aK.of (o6 Kd nofun))) (s6 (aK.of (o6 Kc nofun))) (shaped_ints _) (shaped_ints _) ?_);rw[aB (by rw[l4 _ (SeqAt.canLay_of_shaped (shaped_ints _))];decide)];exact aj _ _ ⟨rfl,rfl⟩
    rcases out with⟨T0,⟨av,pp,ll,k,rs,f1,_⟩,_⟩|⟨T0,f,⟨av,cB,f1,_⟩,_⟩
    ·exact(rE (c:=.ref (ad.ai 88)) (b:=true) rfl (.ins f1 (T 118) (T 165) (T 157) (T 158) (T 166)) (T 167) (rE (c:=.ref (ad.ai 89)) (b:=false) rfl (.ins f1 (T 118) (T 165) (T 157) (T 158) (T 166)) (T 168) (fin (by decide))))
    ·exact(rE (c:=.ref (ad.ai 88)) (b:=false) rfl (.ins f1 (T 123) (T 169) (T 157) (T 158) (T 170)) (T 171) (rE (c:=.ref (ad.ai 89)) (b:=true) rfl (.ins f1 (T 123) (T 169) (T 157) (T 158) (T 170)) (T 172) (fin (by decide))))
   rintro cm a9 J bP ⟨rfl,rfl⟩;nofun;refine zj (λJ ck=>∃su,(∀b o,ie b∣o->b≠ad.h7->ck b∣o)/\gJ (rN j1) "sought.<locals>.there" ad.h7 ck/\ck fJ∣.lst (su.map V.ref)/\(su=[]/\(∃T f,Sr.rG Alike (stepT (bk es num) i st n g) (λt (f:gV st sg)=>gu (bk es num) st f.1 t least) b (max b m0) ⟨_,o1⟩ T f)\/su.length=j+1/\∃cs,r1 (bk es num) i st n g b least ⟨_,o1⟩ cs/\∀q∈su,ef ck (.ref q) b cs)/\J=[⇑a,⇑l,↥v,⇑mo,⇑p,⇑e,⇑sc,⇑gf,↥b,↥start,↥ch,↥least,⇑bJ,⇑cr,⇑hd,⇑fg,⇑fJ,↥j,↥num,⇑r]) (λaP aj=>?_) ?_
   ·ext;rcases out with⟨T0,gT,oO,iE,hD,no⟩|⟨T0,f,⟨av,cB,f1,_⟩,_,lF⟩
    ·left;obtain⟨av,pp,ll,k,rs,f1,f2,eB,f4,eC,afs⟩:=id gT;right;refine(rE (c:=.ref (ad.ai 88)) (b:=true) rfl (.ins f1 (T 118) (T 165) (T 157) (T 158) (T 166)) (T 167) ?_);rw[aM rfl];refine⟨x,i,l,mo,e,fg,gf,r,n,num,b,start,ch,least,T0,w,h,sg,st,es,g,⟨_,o1⟩,rfl,au,eV,o6 ack nofun,o6 Kb nofun,⟨o6 tw17.c2 nofun,tw17.b8.cH λb xs ae=>o6 ae nofun⟩,o6 Cw nofun,aK.of (o6 Kc nofun),x7,⋯,⋯,eA,rfl,oi,gT,oO,iE,hD,no,λck s4=>⟨true,rfl,?_⟩⟩;rw[aB (by decide)];have fd:r1 (bk es num) i st n g b least ⟨_,o1⟩ ((rs.map (·.2)).reverse):=⟨T0,rs,rfl,f4,eC,oO,hD,no⟩
     obtain⟨acu,all⟩:ps.length=j/\∀q∈ps,ef o5 (.ref q) b ((rs.map (·.2)).reverse):=by
      rcases alt with⟨z,y⟩|⟨z,cs,qa,y⟩
      ·subst z;refine⟨?_,λq ao=>(by cases ao)⟩;by_cases z:0<j
       ·obtain⟨gv,hH,lF⟩:=y z;exact br hD (H8 eA kp lF oO)
       ·show 0=j
        omega
      ·rw[qa.one fd]at y;exact⟨z,y⟩
     have sv:=s4 _ _ Kg
     have pl:∀{q:Addr}{xs:List V},ck q∣.tup xs->q≠fJ:=λh z=>by rw[z,sv]at h;cases h
     have Kh:fZ ck (upd ck fJ (.lst (ps.map V.ref++[V.ref pp]))):=λq xs h=>by rwa[zf (pl h)]
     refine⟨.inl ⟨rfl,_,aK.of sv⟩,dX (v:=V.ref pp) (s4 _ _ f1) (T 118) (T 119) rfl ⟨_,sv,by rw[length_map];omega,aj _ _ ⟨ps++[pp],λb o ae nb=>?_,gJ.l (yf.same s4) sv (h3 (gr (aQ.refl _))),by rw[aH,map_append];rfl,.inr ⟨by rw[length_append,acu];rfl,_,fd,λq ao=>?_⟩,rfl⟩⟩⟩
     ·rw[zf (cg ae C6)];exact s4 _ _ (rL _ _ ae nb)
     ·rcases mem_append.mp ao with ao|ao
      ·exact ef.cH Kh (ef.same s4 (ef.cH (λb xs ae=>bar _ _ (λz=>by obtain⟨_,y,_⟩:=tk;rw[z,y]at ae;cases ae) ae) (all q ao)))
      ·rw[mem_singleton.mp ao];exact ef.cH Kh (ef.same s4 ⟨pp,ll,rfl,f2,eB⟩)
    ·refine(rE (c:=.ref (ad.ai 88)) (b:=false) rfl (.ins f1 (T 123) (T 169) (T 157) (T 158) (T 170)) (T 171) ?_);rw[aB (by decide)];refine aj _ _ ⟨ps,rL,yf,Kg,.inl ⟨?_,T0,f,lF⟩,rfl⟩;rcases alt with⟨z,_⟩|⟨_,cs,⟨gv,_,_,_,_,BY,BZ,_⟩,_⟩
     ·exact z
     ·exact br BZ (H8 eA kp lF BY)
   rintro cm a9 J ck ⟨su,ti,acv,sv,acw,rfl⟩;nofun;refine zj (λJ dg=>aQ ck dg/\J=[⇑a,⇑l,↥v,⇑mo,⇑p,⇑e,⇑sc,⇑gf,↥b,↥start,↥ch,↥least,⇑bJ,⇑cr,⇑hd,⇑fg,⇑fJ,↥j,↥num,⇑r]) (λaP aj=>?_) ?_
   ·ext;left;have yg:∀{b:Addr}{o:a3},ie b∣o->(∀t,o≠.eY t)->ck b∣o:=λae no=>ti _ _ ae (ye ae no)
    have jD:=tw17.b8.len
    obtain⟨⟨h9,ar⟩,aw⟩:=C7.1;right;refine(f6 (yg ar nofun) (jx d ∅) ⟨p,d,es,rfl,⟨⟨h9,yg ar nofun⟩,yg aw nofun⟩,⋯,λe2 ms Ki pm mf=>⟨bF es,.inl ?_,by unfold bF;rw[length_map];omega,λaft C9 acx e3 xF=>?_⟩⟩)
    ·have k1:=(bb (o:=a3.lst (ms.map V.int)) Ki) _ _ (yg tw17.c2 nofun)
     exact k1
    ·unfold bF at C9;rw[map_map]at C9;cases WW pm C9 mf acx;have ag:=(bb (o:=a3.lst (ms.map V.int)) xF) _ _ (aH (H:=ck) (a:=e2) (o:=a3.lst (ms.map V.int)))
     refine(ow (s6 (aK.of ag)) (s6 (aK.of aH)) (shaped_ints _) (shaped_ints _) ?_);rw[aB (by rw[l4 _ (SeqAt.canLay_of_shaped (shaped_ints _))];decide)];exact aj _ _ ⟨(bb Ki).trans (bb xF),rfl⟩
   rintro cm a9 J dg ⟨s5,rfl⟩;nofun;left;have zN:∀b o,ie b∣o->b≠ad.h7->dg b∣o:=λb o ae nb=>s5 _ _ (ti _ _ ae nb)
   have yh:∀{b:Addr}{o:a3},ie b∣o->(∀t,o≠.eY t)->dg b∣o:=λae no=>zN _ _ ae (ye ae no)
   have rn:=yh tw17.c2 nofun
   have jD:=tw17.b8.len
   obtain⟨⟨h9,ar⟩,aw⟩:=C7.1;have Kj:=yh ar nofun
   have acy:=yh aw nofun
   have uY:=tw17.b8.cH λb xs ae=>yh ae nofun
   right;ext;refine .inl ⟨e,c0 es,rn,c0 es,.inl ⟨rn,λo=>pN (zZ aH) (λ_=>false) (λu=>u) (λy bg iQ bN=>?_) (λy bg hn iQ bN=>(by cases hn)) (by rw[length_map,rp];omega) (λD fb=>?_)⟩⟩
   ·left;rw[tG]at bg;obtain⟨rq,he,rfl⟩:=mem_map.mp bg;have Dc:∀{q:Addr}{u:a3},dg q∣u->(∀bF,u≠.bO bF)->upd dg e (a3.cc o (a3.bO (c0 es))) q∣u:=λaa ag=>by rwa[zf (cM aa rn (ag _))]
    have iJ:=ef.cH (λb xs ae=>Dc ae nofun) (uY.ok rq he).1
    right;ext;refine(f6 (Dc Kj nofun) (jx d ∅) ⟨p,d,es,rq.k,rfl,⟨⟨h9,Dc Kj nofun⟩,by rwa[zf tw17.ne]⟩,uY.nd,λa4 jw fy=>?_,λno=>br rfl (no rq he)⟩);have ev:a4.v=rq.v:=by
     have aa:=pY uY.nd jw
     rw[fy,pY uY.nd he]at aa;exact(wa5 aa).symm
    rw[ev];refine⟨rq.v,rx aH uY.nd he,ow (wt iJ) (wt iJ) (r0 _ _) (r0 _ _) ?_⟩;rwa[l4 _ (SeqAt.canLay_of_shaped (r0 _ _))]
   ·rw[show map (λu=>u) (List.filter (λ_=>false) (map (λbF=>bq bF.1) (c0 es)))=([]:List V) by simp]at *;have Kk:D≠e:=λz=>by rw[z,aH]at fb;cases fb
    have jk:=rv rn ((h3 (o:=a3.cc o (a3.bO (c0 es))) (gr (aQ.refl dg))).new (o:=a3.lst []) fb)
    refine⟨⟨o,by rw[zf Kk.symm,aH]⟩,⋯,λq c3=>?_⟩;have hh:=bb (o:=a3.lst []) c3
    refine⟨.list [],.lst (aK.of (hh _ _ (by rw[zf Kk,aH]))) .nil,.list [],.lst (aK.of aH) .nil,rfl,rfl,?_⟩;rw[aB (by rw[l4 _ rfl];decide)];have qH:=(s5.trans jk).trans hh
    refine b9 _ _ ⟨su,_,_,_,λb o ae nb=>qH _ _ (ti _ _ ae nb),gJ.same acv qH,pt,qH _ _ sv,?_,rfl⟩;rcases acw with⟨z,y⟩|⟨z,cs,fd,y⟩
    ·exact .inl ⟨z,λ_=>y⟩
    ·exact .inr ⟨z,cs,fd,λq ao=>ef.same qH (y q ao)⟩
  ·rintro J H' bH;left;obtain⟨ps,qN,qO,o2,up,tk,pt,C8,alt,rfl⟩:=bH;right;refine aj _ _ ⟨ps,qN,qO,o2,C8,?_,rfl⟩;rcases alt with⟨z,_⟩|⟨z,cs,_,y⟩
   ·exact .inl z
   ·exact .inr ⟨z,cs,y⟩
 rintro cm a9 J afu ⟨ps,qN,qO,o2,uZ,alt,rfl⟩;nofun;ext;refine⟨⋯,λq c3=>?_⟩;have hh:=bb (o:=a3.lst []) c3
 rcases alt with z|⟨z,cs,all⟩
 ·subst z;refine⟨.list [],.lst (aK.of (hh _ _ uZ)) .nil,_,.lst (aK.of aH) .nil,rfl,rfl,?_⟩;rw[aM (l4 _ rfl)];exact ao _
 ·left;obtain⟨a8,bK,rfl⟩:∃a8 bK,ps=[a8,bK]:=by
   rcases ps with _|⟨a8,_|⟨bK,_|⟨dZ,r⟩⟩⟩<;>cases z
   exact⟨a8,bK,rfl⟩
  have gg:=λH' s=>wt (K:=ad.az) (ef.same (H':=H') s (all a8 (by simp)))
  have fQ:=λH' s=>wt (K:=ad.az) (ef.same (H':=H') s (all bK (by simp)))
  right;refine(ow (.lst (aK.of (hh _ _ uZ)) (.cons (gg _ hh) (.cons (fQ _ hh) .nil))) (.lst (aK.of aH) .nil) (WV b cs) rfl ?_);rw[aB (λz=>by cases z)];refine⟨_,.inl (aK.of (hh _ _ uZ)),?_⟩;rw[aM (show((([a8,bK].map V.ref).length:Nat):Int)=2 from rfl)];refine(g9 (v:=V.ref a8) (aK.of (hh _ _ uZ)) rfl (g9 (v:=V.ref bK) (aK.of (hh _ _ uZ)) rfl ⟨_,gg _ hh,_,fQ _ hh,r0 b cs,r0 b cs,?_⟩));rw[l4 _ (SeqAt.canLay_of_shaped (r0 b cs))];exact ao _
end
theorem all_mk {l:OpenLaw}{w:World}{h:Heap}{fa:Addr}(X:K.In h) (G:h.Ns mainGlobals mg) (acz:mg "law"∣.ref fa)
 {o7 lM eA lN lO nJ nK kE o8 Dd Kl lP:Addr}
 {De:Addr}{acA:Option Addr}{acB:Nat}{acC:Array (Option Value)}{acD:Tok}{acE:Tok}{acF:Tok}
 {Df:Addr}{acG:Option Addr}{acH:Nat}{acI:Array (Option Value)}{acJ:Tok}{acK:Tok}{acL:Tok}
 {u0 Km Kn Ko Kp Kq Kr Ks Kt Ku Kv u1 Kw yi Dg Dh u2 u3 u4 u5 Kx Ky Kz KA KC KD KG KH Di:Addr}
 {acM:Tok}
 {KI KJ KL KN KO KP KQ KR KS KU KV KW KY KZ K0 K1 K2 K3 K4 K5 K6 K7 K8 K9 La Lb Lc Ld Dj Le bj:Addr}
 {acN:Tok}
 {Lf Lg Lh Li Lj Lk Ll Lm Ln Lo Lp Lq Lr Ls Lu b2i Lv Lw Lx Lz LA LB LC LD Dk:Addr}
 {acO:Tok}
 {acP:Tok}
 {acQ:Tok}
 {acR:Tok}
 {acS:Tok}
 {acT:Tok}
 {acU:Tok}
 {acV:Tok}
 (qP:hM K "Floor" o7 ["wide","high","lines","signs"])
 (yj:hM K "Cart" lM ["full"])
 (yk:hM K "Crawler" eA ["full"])
 (yl:hM K "Runner" lN ["full"])
 (LF:hM K "Carrier" lO ["full"])
 (u6:hM K "Found" nJ ["path","left"])
 (u7:hM K "Shut" nK ["moment","layer"])
 (ym:hM K "Book" kE ["ways"])
 (nL:hM K "Spread" o8 ["floor","mover","booked","number","stops","known"])
 (acW:"NoCarrier"≈Dd) (acX:wb K Dd none=true)
 (afv:"FloorError"≈Kl)
 (acY:"Meets"≈lP)
 (acZ:exmOne K (.ref lP) (.ref lP)∣true)
 (ac0:"KINDS"≈De) (ac1:K.lookup De∣⟨.type "tuple",acA,.seq #[.str (!"cart") acD,.str (!"crawler") acE,.str (!"runner") acF] acB,acC⟩)
 (ac2:"COMMON_SIGNS"≈Df) (ac3:K.lookup Df∣⟨.type "tuple",acG,.seq #[.str (!".") acJ,.str (!"+") acK,.str (!"|") acL] acH,acI⟩)
 (ac4:specialIn K (.builtin "object.__class__") "__get__"∣some (.builtin "getset_descriptor.__get__"))
 (ctx:takesIn K (.builtin "object.__class__")∣true)
 (afw:findIn K (.ref lP) "__init__"∣some (.ref u0))
 (ac5:AD K lP u0=true)
 (ac6:isFn K (.ref u0)=true)
 (ac7:findIn K (.ref lP) "__setattr__"∣some (.builtin "object.__setattr__"))
 (ac8:(clsIn K lP).any (λcd=>qh cd.mro)=true)
 (ac9:(clsIn K lP).any (·.hasDict)=true)
 (ada:findIn K (.ref lP) "other"∣none)
 (afx:hasDictIn K lP=true)
 (adb:findIn K (.ref nJ) "__class__"∣some (.builtin "object.__class__"))
 (ade:mroIn K nJ (.type "object")∣true)
 (adf:kitOne K (.ref nJ) (.ref nJ)∣true)
 (adg:kitOne K (.ref nJ) (.ref nK)∣false)
 (adh:findIn K (.ref nK) "__class__"∣some (.builtin "object.__class__"))
 (adi:mroIn K nK (.type "object")∣true)
 (adj:kitOne K (.ref nK) (.ref nJ)∣false)
 (adk:kitOne K (.ref nK) (.ref nK)∣true)
 (adl:hL K "__init__" "Meets.__init__" AF u0)
 (LG:dS K "is_whole" AG Km)
 (LH:dS K "is_among" AH Kn)
 (LI:dS K "check_row" w0 Ko)
 (LJ:dS K "check_floor" w1 Kp)
 (LK:FM K o7 "__init__" "Floor.__init__" AI Kq)
 (LL:FM K o7 "has" "Floor.has" AJ Kr)
 (LM:FM K o7 "sign" "Floor.sign" AK Ks)
 (LN:FM K o7 "column" "Floor.column" AL Kt)
 (LO:FM K o7 "row" "Floor.row" AM Ku)
 (LP:FM K o7 "beside" "Floor.beside" w2 Kv)
 (yn:FM K lO "__init__" "Carrier.__init__" AN u1)
 (adm:FM K lO "kind" "Carrier.kind" Hb Kw)
 (yo:FM K lO "may_stand" "Carrier.may_stand" AO yi)
 (Dl:FM K lO "gain" "Carrier.gain" AP Dg)
 (Dm:FM K lO "fare" "Carrier.fare" AQ Dh)
 (adn:FM K lO "cost" "Carrier.cost" Hc u2)
 (u9:FM K lO "steps" "Carrier.steps" rR u3)
 (va:FM K lO "stayed" "Carrier.stayed" AR u4)
 (vb:FM K lO "fare_if_standing" "Carrier.fare_if_standing" AS u5)
 (ado:FM K lM "kind" "Cart.kind" Hd Kx)
 (adp:FM K eA "kind" "Crawler.kind" He Ky)
 (LQ:FM K eA "may_stand" "Crawler.may_stand" AU Kz)
 (LR:FM K eA "gain" "Crawler.gain" AV KA)
 (LS:FM K eA "fare" "Crawler.fare" AW KC)
 (adq:FM K lN "kind" "Runner.kind" Hf KD)
 (LU:FM K lN "gain" "Runner.gain" AX KG)
 (LV:FM K lN "fare" "Runner.fare" AY KH)
 (ads:"carrier_of"≈Di)
 (LW:rA K "carrier_of" "carrier_of" AZ Di #[.int 20 acM])
 (LX:dS K "last_time" A0 KI)
 (LY:dS K "index_at" A1 KJ)
 (LZ:dS K "place_at" A2 KL)
 (L0:dS K "stays_till" w3 KN)
 (L1:dS K "meeting_word" A3 KO)
 (L3:dS K "first_meeting" w4 KP)
 (L4:FM K kE "__init__" "Book.__init__" A4 KQ)
 (L5:FM K kE "put" "Book.put" w5 KR)
 (L6:FM K kE "way" "Book.way" A5 KS)
 (L7:FM K kE "numbers" "Book.numbers" A6 KU)
 (L8:FM K kE "comings" "Book.comings" A7 KV)
 (L9:FM K kE "quiet" "Book.quiet" t7 KW)
 (Ma:FM K kE "free_from" "Book.free_from" A8 KY)
 (Mb:FM K kE "still_till" "Book.still_till" t8 KZ)
 (Mc:FM K kE "ways_beside" "Book.ways_beside" w6 K0)
 (Md:FM K kE "check_number" "Book.check_number" w7 K1)
 (Me:dS K "is_clear" A9 K2)
 (Mf:dS K "left_from" w8 K3)
 (Mg:dS K "stops_met" Ba K4)
 (Mh:dS K "first_layer" Bb K5)
 (Mi:FM K o8 "__init__" "Spread.__init__" Bc K6)
 (Mj:FM K o8 "layer_behind" "Spread.layer_behind" Bd K7)
 (Mk:FM K o8 "node_ahead" "Spread.node_ahead" w9 K8)
 (Ml:FM K o8 "reached" "Spread.reached" Be K9)
 (Mm:FM K o8 "steps_from" "Spread.steps_from" xa La)
 (Mn:FM K o8 "node_at" "Spread.node_at" Bf Lb)
 (Mo:FM K nJ "__init__" "Found.__init__" Bg Lc)
 (Mp:FM K nK "__init__" "Shut.__init__" Bh Ld)
 (adt:"sought"≈Dj)
 (Dn:oA K "sought" "sought" nk Dj #[.int 0 acN] Le bj)
 (Mq:dS K "is_free" Bi Lf)
 (Mr:dS K "searched" xb Lg)
 (Ms:dS K "traced" t9 Lh)
 (Mt:dS K "_law_cell_at" Bj Li)
 (Mu:dS K "_law_mixed" Bl Lj)
 (Mv:dS K "_law_floor" ua Lk)
 (Mw:dS K "_law_sign" Bm Ll)
 (Mx:dS K "_law_beside" Bn Lm)
 (My:dS K "_law_stands" Bo Ln)
 (Mz:dS K "_law_cost" Bp Lo)
 (MA:dS K "_law_stayed" Bq Lp)
 (MB:dS K "_law_place" Br Lq)
 (MC:dS K "_law_open" Bs Lr)
 (MD:dS K "_law_ways" qj Ls)
 (ME:dS K "_law_stand_cells" xc Lu)
 (MF:dS K "_law_met" Bt b2i)
 (MG:dS K "_law_next" Bu Lv)
 (MH:dS K "_law_tiers" xd Lw)
 (MI:dS K "_law_free" xe Lx)
 (MJ:dS K "_law_quiet" ub Lz)
 (MK:dS K "_law_there" Bv LA)
 (ML:dS K "_law_nodes" Bw LB)
 (MM:dS K "_law_led" xf LC)
 (MN:dS K "_law_right" xg LD)
 (MO:dS K "law" qk Dk)
 (adu:findIn K (.ref lM) "may_stand"∣some (.ref yi))
 (adv:findIn K (.ref lM) "gain"∣some (.ref Dg))
 (adw:findIn K (.ref lM) "fare"∣some (.ref Dh))
 (afy:findIn K (.ref lM) "cost"∣some (.ref u2))
 (adx:findIn K (.ref lM) "steps"∣some (.ref u3))
 (ady:findIn K (.ref lM) "stayed"∣some (.ref u4))
 (adz:findIn K (.ref lM) "fare_if_standing"∣some (.ref u5))
 (afz:findIn K (.ref eA) "cost"∣some (.ref u2))
 (adA:findIn K (.ref eA) "steps"∣some (.ref u3))
 (adB:findIn K (.ref eA) "stayed"∣some (.ref u4))
 (adC:findIn K (.ref eA) "fare_if_standing"∣some (.ref u5))
 (adD:findIn K (.ref lN) "may_stand"∣some (.ref yi))
 (afA:findIn K (.ref lN) "cost"∣some (.ref u2))
 (adE:findIn K (.ref lN) "steps"∣some (.ref u3))
 (adF:findIn K (.ref lN) "stayed"∣some (.ref u4))
 (adG:findIn K (.ref lN) "fare_if_standing"∣some (.ref u5))
 (adH:findIn K (.ref lM) "__init__"∣some (.ref u1))
 (adI:findIn K (.ref eA) "__init__"∣some (.ref u1))
 (adJ:findIn K (.ref lN) "__init__"∣some (.ref u1))
 (adK:nsIn K mainGlobals "len"∣none)
 (adL:nsIn K mainGlobals "range"∣none)
 (adM:nsIn K mainGlobals "isinstance"∣none)
 (adN:nsIn K mainGlobals "all"∣none)
 (adO:nsIn K mainGlobals "int"∣none)
 (adP:nsIn K mainGlobals "bool"∣none)
 (adQ:nsIn K mainGlobals "str"∣none)
 (adR:nsIn K mainGlobals "list"∣none)
 (adS:nsIn K mainGlobals "tuple"∣none)
 (adT:nsIn K mainGlobals "dict"∣none)
 (adU:nsIn K mainGlobals "min"∣none)
 (adV:nsIn K mainGlobals "max"∣none)
 (adW:nsIn K mainGlobals "sorted"∣none)
 (adX:nsIn K mainGlobals "enumerate"∣none)
 (adY:nsIn K mainGlobals "divmod"∣none)
 (afB:nsIn K mainGlobals "ValueError"∣none)
 (adZ:nsIn K mainGlobals "reversed"∣none)
 (ad0:nsIn K mainGlobals "WALL"∣some (.str (!"#") acO))
 (ad1:nsIn K mainGlobals "CHARGER"∣some (.str (!"+") acP))
 (ad2:nsIn K mainGlobals "SIGNS"∣some (.str (!".#+~|") acQ))
 (ad3:nsIn K mainGlobals "MOST_ROWS"∣some (.int 10 acR))
 (ad4:nsIn K mainGlobals "MOST_SIGNS"∣some (.int 10 acS))
 (ad5:nsIn K mainGlobals "MOST_FULL"∣some (.int 60 acT))
 (ad6:nsIn K mainGlobals "ROUGH"∣some (.str (!"~") acU))
 (ad7:nsIn K mainGlobals "LANE"∣some (.str (!"|") acV))
 : ∃fd:FuncData,(∃c,codeHdIn K c bj=true)/\(∀(s:Shared)(v:Value),BindsTo s fd ⟨[v],[]⟩ [("_law_script",v)])/\∀base:Heap,K.In base->base.Ns mainGlobals mg->nj mg base->fw l.prog w K mg base bI 13 fa fd q26 (xu K bj):=by
 obtain rfl:Dk=fa:=by
  have e:=acz.symm.trans (mg_of X G MO.a)
  cases e;rfl
 obtain⟨fd,F⟩:=id MO.l;refine⟨fd,Dn.ch,by obtain⟨_,_,_,_,_,_,_,_,_,rfl,_⟩:=F.ex;exactλs v=>.of_eq rfl,λbase ha _ ae=>?_⟩;have T:Txt ⟨λi=>([u0,Km,Kn,Ko,Kp,Kq,Kr,Ks,Kt,Ku,Kv,u1,Kw,yi,Dg,Dh,u2,u3,u4,u5,Kx,Ky,Kz,KA,KC,KD,KG,KH,Di,KI,KJ,KL,KN,KO,KP,KQ,KR,KS,KU,KV,KW,KY,KZ,K0,K1,K2,K3,K4,K5,K6,K7,K8,K9,La,Lb,Lc,Ld,Dj,Lf,Lg,Lh,Li,Lj,Lk,Ll,Lm,Ln,Lo,Lp,Lq,Lr,Ls,Lu,b2i,Lv,Lw,Lx,Lz,LA,LB,LC,LD,Dk,o7,lM,eA,lN,lO,nJ,nK,kE,o8,Dd,Kl,lP,De,Df]:List Addr).getD i 0,l.prog,w,K,mg,base,Le,bj⟩:=by
  refine aC (⟨mg_none_of X G adK,PyProof.Rows.Boot.«len»⟩) ?_;refine aC (⟨mg_none_of X G adL,PyProof.Rows.Boot.«range»⟩) ?_;refine aC (⟨mg_none_of X G adM,PyProof.Rows.Boot.«isinstance»⟩) ?_;refine aC (⟨mg_none_of X G adN,PyProof.Rows.Boot.«all»⟩) ?_;refine aC (⟨mg_none_of X G adO,PyProof.Rows.Boot.«int»⟩) ?_;refine aC (⟨mg_none_of X G adP,PyProof.Rows.Boot.«bool»⟩) ?_;refine aC (⟨mg_none_of X G adQ,PyProof.Rows.Boot.«str»⟩) ?_;refine aC (⟨mg_none_of X G adR,PyProof.Rows.Boot.«list»⟩) ?_;refine aC (⟨mg_none_of X G adS,PyProof.Rows.Boot.«tuple»⟩) ?_;refine aC (⟨mg_none_of X G adT,PyProof.Rows.Boot.«dict»⟩) ?_;refine aC (⟨mg_none_of X G adU,PyProof.Rows.Boot.«min»⟩) ?_;refine aC (⟨mg_none_of X G adV,PyProof.Rows.Boot.«max»⟩) ?_;refine aC (⟨mg_none_of X G adW,PyProof.Rows.Boot.«sorted»⟩) ?_;refine aC (⟨mg_none_of X G adX,PyProof.Rows.Boot.«enumerate»⟩) ?_;refine aC (⟨mg_none_of X G adY,PyProof.Rows.Boot.«divmod»⟩) ?_;refine aC (⟨mg_none_of X G adZ,PyProof.Rows.Boot.«reversed»⟩) ?_;refine aC (⟨_,mg_of X G ad0,⟨_,rfl⟩⟩) ?_;refine aC (⟨_,mg_of X G ad1,⟨_,rfl⟩⟩) ?_;refine aC (⟨_,mg_of X G ad6,⟨_,rfl⟩⟩) ?_;refine aC (⟨_,mg_of X G ad7,⟨_,rfl⟩⟩) ?_;refine aC (⟨_,mg_of X G ad2,⟨_,rfl⟩⟩) ?_;refine aC (⟨_,mg_of X G ad3,⟨_,rfl⟩⟩) ?_;refine aC (⟨_,mg_of X G ad4,⟨_,rfl⟩⟩) ?_;refine aC (⟨_,mg_of X G ac0,rfl⟩) ?_;refine aC (⟨_,mg_of X G ad5,⟨_,rfl⟩⟩) ?_;refine aC (⟨_,mg_of X G ac2,rfl⟩) ?_;refine aC (LG.g X G) ?_;refine aC (LH.g X G) ?_;refine aC (LI.g X G) ?_;refine aC (LJ.g X G) ?_;refine aC (LL.m) ?_;refine aC (LM.m) ?_;refine aC (LN.m) ?_;refine aC (LO.m) ?_;refine aC (LP.m) ?_;refine aC (yo.m) ?_;refine aC (Dl.m) ?_;refine aC (Dm.m) ?_;refine aC (u9.m) ?_;refine aC (va.m) ?_;refine aC (vb.m) ?_;refine aC (LQ.m) ?_;refine aC (LR.m) ?_;refine aC (LS.m) ?_;refine aC (LU.m) ?_;refine aC (LV.m) ?_;refine aC (⟨mg_of X G ads,LW.c2⟩) ?_;refine aC (LX.g X G) ?_;refine aC (LY.g X G) ?_;refine aC (LZ.g X G) ?_;refine aC (L0.g X G) ?_;refine aC (L1.g X G) ?_;refine aC (L3.g X G) ?_;refine aC (L5.m) ?_;refine aC (L6.m) ?_;refine aC (L7.m) ?_;refine aC (L8.m) ?_;refine aC (L9.m) ?_;refine aC (Ma.m) ?_;refine aC (Mb.m) ?_;refine aC (Mc.m) ?_;refine aC (Md.m) ?_;refine aC (Me.g X G) ?_;refine aC (Mf.g X G) ?_;refine aC (Mg.g X G) ?_;refine aC (Mh.g X G) ?_;refine aC (Mj.m) ?_;refine aC (Mk.m) ?_;refine aC (Ml.m) ?_;refine aC (Mm.m) ?_;refine aC (Mn.m) ?_;refine aC (⟨mg_of X G adt,Dn.c2⟩) ?_;refine aC (Mq.g X G) ?_;refine aC (Mr.g X G) ?_;refine aC (Ms.g X G) ?_;refine aC (Mt.g X G) ?_;refine aC (Mu.g X G) ?_;refine aC (Mv.g X G) ?_;refine aC (Mw.g X G) ?_;refine aC (Mx.g X G) ?_;refine aC (My.g X G) ?_;refine aC (Mz.g X G) ?_;refine aC (MA.g X G) ?_;refine aC (MB.g X G) ?_;refine aC (MC.g X G) ?_;refine aC (MD.g X G) ?_;refine aC (ME.g X G) ?_;refine aC (MF.g X G) ?_;refine aC (MG.g X G) ?_;refine aC (MH.g X G) ?_;refine aC (MI.g X G) ?_;refine aC (MJ.g X G) ?_;refine aC (MK.g X G) ?_;refine aC (ML.g X G) ?_;refine aC (MM.g X G) ?_;refine aC (MN.g X G) ?_;refine aC (mg_of X G qP.a) ?_;refine aC (qP.c) ?_;refine aC (qP.h) ?_;refine aC (qP.t.h) ?_;refine aC (qP.t.t.h) ?_;refine aC (qP.t.t.t.h) ?_;refine aC (qP.mk' LK) ?_;refine aC (mg_of X G yj.a) ?_;refine aC (yj.c) ?_;refine aC (yj.h) ?_;refine aC (yj.mo yn adH) ?_;refine aC (mg_of X G yk.a) ?_;refine aC (yk.c) ?_;refine aC (yk.h) ?_;refine aC (yk.mo yn adI) ?_;refine aC (mg_of X G yl.a) ?_;refine aC (yl.c) ?_;refine aC (yl.h) ?_;refine aC (yl.mo yn adJ) ?_;refine aC (LF.c) ?_;refine aC (LF.h) ?_;refine aC (mg_of X G u6.a) ?_;refine aC (u6.c) ?_;refine aC (u6.h) ?_;refine aC (u6.t.h) ?_;refine aC (u6.mk' Mo) ?_;refine aC (mg_of X G u7.a) ?_;refine aC (u7.c) ?_;refine aC (u7.h) ?_;refine aC (u7.t.h) ?_;refine aC (u7.mk' Mp) ?_;refine aC (mg_of X G ym.a) ?_;refine aC (ym.c) ?_
  refine aC (ym.h) ?_;refine aC (ym.mk' L4) ?_;refine aC (mg_of X G nL.a) ?_;refine aC (nL.c) ?_;refine aC (nL.h) ?_;refine aC (nL.t.h) ?_;refine aC (nL.t.t.h) ?_;refine aC (nL.t.t.t.h) ?_;refine aC (nL.t.t.t.t.h) ?_;refine aC (nL.t.t.t.t.t.h) ?_;refine aC (nL.mk' Mi) ?_;refine aC (yo.o adu) ?_;refine aC (Dl.o adv) ?_;refine aC (Dm.o adw) ?_;refine aC (u9.o adx) ?_;refine aC (va.o ady) ?_;refine aC (vb.o adz) ?_;refine aC (u9.o adA) ?_;refine aC (va.o adB) ?_;refine aC (vb.o adC) ?_;refine aC (yo.o adD) ?_;refine aC (u9.o adE) ?_;refine aC (va.o adF) ?_;refine aC (vb.o adG) ?_;refine aC (mg_of X G acW) ?_;refine aC (⟨acX⟩) ?_;refine aC (mg_of X G acY) ?_;refine aC (acZ) ?_;refine aC (ac4) ?_;refine aC (ctx) ?_;refine aC (ac5) ?_;refine aC (ac6) ?_;refine aC (ac7) ?_;refine aC (ac8) ?_;refine aC (ac9) ?_;refine aC (ada) ?_;refine aC (adb) ?_;refine aC (ade) ?_;refine aC (adf) ?_;refine aC (adg) ?_;refine aC (adh) ?_;refine aC (adi) ?_;refine aC (adj) ?_;refine aC (adk) ?_;refine aC (λH=>.inr ⟨_,_,_,ac1,rfl,rfl,(show(3:Nat)<=sizeLine by rw[sizeLine_eq];decide),.cons ⟨_,rfl⟩ (.cons ⟨_,rfl⟩ (.cons ⟨_,rfl⟩  .nil))⟩) ?_;refine aC (λH=>.inr ⟨_,_,_,ac3,rfl,rfl,(show(3:Nat)<=sizeLine by rw[sizeLine_eq];decide),.cons ⟨_,rfl⟩ (.cons ⟨_,rfl⟩ (.cons ⟨_,rfl⟩  .nil))⟩) ?_;refine aC (adl.b6) ?_;refine aC (LG.l.ct) ?_;refine aC (LH.l.g8) ?_;refine aC (LI.l.b6) ?_;refine aC (LJ.l.ct) ?_;refine aC (LK.l.b6) ?_;refine aC (LL.l.b6) ?_;refine aC (LM.l.b6) ?_;refine aC (LN.l.b6) ?_;refine aC (LO.l.b6) ?_;refine aC (LP.l.b6) ?_;refine aC (yn.l.b6) ?_;refine aC (adm.l.ct) ?_;refine aC (yo.l.b6) ?_;refine aC (Dl.l.b6) ?_;refine aC (Dm.l.h5) ?_;refine aC (adn.l.h5) ?_;refine aC (u9.l.g8) ?_;refine aC (va.l.g8) ?_;refine aC (vb.l.h5) ?_;refine aC (ado.l.ct) ?_;refine aC (adp.l.ct) ?_;refine aC (LQ.l.b6) ?_;refine aC (LR.l.b6) ?_;refine aC (LS.l.h5) ?_;refine aC (adq.l.ct) ?_;refine aC (LU.l.b6) ?_;refine aC (LV.l.h5) ?_;refine aC (⟨_,LW.b λ_ _ _ _ _ _ _ us aD=>by rw[append_nil]at aD;revert aD;apply a2;intros;exact⟨_,rfl,rfl⟩⟩) ?_;refine aC (LX.l.ct) ?_;refine aC (LY.l.b6) ?_;refine aC (LZ.l.b6) ?_;refine aC (L0.l.g8) ?_;refine aC (L1.l.g8) ?_;refine aC (L3.l.b6) ?_;refine aC (L4.l.ct) ?_;refine aC (L5.l.g8) ?_;refine aC (L6.l.b6) ?_;refine aC (L7.l.ct) ?_;refine aC (L8.l.g8) ?_;refine aC (L9.l.b6) ?_;refine aC (Ma.l.g8) ?_;refine aC (Mb.l.h5) ?_;refine aC (Mc.l.b6) ?_;refine aC (Md.l.b6) ?_;refine aC (Me.l.g8) ?_;refine aC (Mf.l.b6) ?_;refine aC (Mg.l.g8) ?_;refine aC (Mh.l.g8) ?_;refine aC (Mi.l.mb) ?_;refine aC (Mj.l.g8) ?_;refine aC (Mk.l.ou) ?_;refine aC (Ml.l.h5) ?_;refine aC (Mm.l.b6) ?_;refine aC (Mn.l.g8) ?_;refine aC (Mo.l.g8) ?_;refine aC (Mp.l.g8) ?_;refine aC ?_ ?_
  ·refine Dn.bd λds us e aD T bq doc pm an cdv bW=>?_;rcases e with rfl|rfl
   ·rw[append_nil]at aD;revert aD;apply R8;intros;exact⟨_,rfl,rfl⟩
   ·have aD:=TR aD;revert aD;apply Ad;intros;exact⟨_,rfl,rfl⟩
  refine aC (ae) ?_;refine aC (ha) ?_;refine aC (Mq.l.b6) ?_;refine aC (Mr.l.h5) ?_;refine aC (Ms.l.h5) ?_;refine aC (Mt.l.b6) ?_;refine aC (Mu.l.b6) ?_;refine aC (Mv.l.ct) ?_;refine aC (Mw.l.b6) ?_;refine aC (Mx.l.b6) ?_;refine aC (My.l.b6) ?_;refine aC (Mz.l.h5) ?_;refine aC (MA.l.ou) ?_;refine aC (MB.l.b6) ?_;refine aC (MC.l.ou) ?_;refine aC (MD.l.h5) ?_;refine aC (ME.l.b6) ?_;refine aC (MF.l.g8) ?_;refine aC (MG.l.R5) ?_;refine aC (MH.l.Gh) ?_;refine aC (MI.l.h5) ?_;refine aC (MJ.l.b6) ?_;refine aC (MK.l.mb) ?_;refine aC (ML.l.b6) ?_;refine aC (MM.l.Gh) ?_;refine aC (MN.l.ou) ?_;exactλ_=>trivial
 exact ab2 T F
theorem walk {l:OpenLaw}{q:Program}{d:DefRec}{K:Params->Frag}{T:Addr}(hn:l.most=some 63) (sZ:d.params.defaults=[])
  (Ay:∀(w:World)(h:Heap),oh w h->(K w.params).In h/\h.get? T∣(tabObj #[])) (jt:∀w:World,(K w.params).lookup T=none)
  (F:∀(w:World)(mg:Str->Option Value)(fa:Addr)(h:Heap),(K w.params).In h->h.Ns mainGlobals mg->mg d.name∣.ref fa->
   ∃fd:FuncData,(∃c,codeHdIn (K w.params) c T=true)/\(∀(s:Shared)(u:Value),BindsTo s fd ⟨[u],[]⟩ [("_law_script",u)])/\∀base:Heap,(K w.params).In base->base.Ns mainGlobals mg->nj mg base->fw l.prog w (K w.params) mg base bI 13 fa fd q26 (xu (K w.params) T)):
  WalkO q loose rg oh l.row.toRowW d [] (λf vs=>PySem.call f vs):=
 L2.TO (n:=63) (k:=13) (x:="_law_script") (sp:=λw=>xu (K w.params) T) hn (by decide) sZ ⟨rfl,by decide,by decide⟩ Ay jt F (λ_ _ a ns aD ae qd cb=>⟨a,ns,rfl,cb,aD,ae,⟨_,qd.tab,trivial,.inl rfl⟩,λ_=>rfl⟩)
end Pf
set_option tactic.hygienic true
open PySem PySem.W PyProof.Rows
set_option maxRecDepth 100000 in
set_option maxHeartbeats 0 in
theorem PySem.Challenge.cw_floorways_k19_whole_found_holds : PySem.Challenge.rw_floorways_k19_whole_found.Holds := by
 w_on;o_law;k_head;(case hw=>w_witness2)
 k_fill
 refine Pf.walk (l:=PySem.Challenge.rw_floorways_k19_whole_found) rfl rfl (λw h Y=>⟨PySem.W.km_in_of Y,PySem.W.km_tabs_of Y _ (.head _)⟩) ?nTT ?F;case F=>
  intro w mg fa h KX G hmg;refine' Pf.all_mk KX G hmg ..
  all_goals try first
   | exact⟨by k_is,L2.zn5 (by k_is) (by k_is) (by k_is)⟩
   | exact⟨by k_is,by k_is,L2.zn5 (by k_is) (by k_is) (by k_is)⟩
   | exact⟨by k_is,⟨by k_is,by k_is,by k_is,by k_is⟩,by k_is,by k_is,by repeat first|exact L2.zwr|refine L2.zw2 (by k_is) ?_⟩
   | k_is
   | exact L2.zn5 (by k_is) (by k_is) (by k_is)
   | exact L2.zrs (by k_is) (by k_is) (by k_is) (by k_is)
   | exact L2.zny (by k_is) (by k_is) (by k_is) (by k_is) (by kernel_rfl)
   | kit_is
   | kernel_rfl
 case nTT=>intro w;kernel_rfl
