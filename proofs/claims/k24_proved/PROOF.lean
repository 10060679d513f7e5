import PyProof.Rows.All
import PyProof.StrLoop
import PyProof.TupleIter
import PyProof.RangeIter
import Wide.All
import OpenK.AllK
import Wide.FinOn
import Lean
import PyProof.EqAt
import PyProof.EqKinds
import PyProof.TupleCall
import KE.KRevIter
import PyProof.CollectIter
import PyProof.ListRange
import PyProof.StationsW
import KE.KTryMore
import PyProof.RulesAs
import PyProof.Rows.TupDisplay
import KE.KEqDict
import PyProof.SeqI3
import KE.KDictOf
import PyProof.AttrMissHeap
import PyProof.AttrMissSeq
import PyProof.CollectWalk
import PyProof.ListStr
import KE.KDictList
import PyProof.Rows.SortShell
import PyProof.Rows.SortWalk
import PyProof.NeKinds
import PyProof.DictUpdate
import PyProof.ZipIter
import PyProof.Rows.ZipGen
import PyProof.Draws
import PyProof.EnumMake
import PyProof.DictValues
import PyProof.DictWalks
import PyProof.Rows.CallKwBuiltin
import KE.KSortTup
import PyProof.TupleOfGen
import PyProof.ExcClass2
import PyProof.ExcInit
import PyProof.Rows.SetFrom
import PyProof.TwoTypesSub
import PyProof.TwoTypes
import PyProof.FactsAll.bool
import PySem.Challenge.RW_floorways_k24_whole_fleets_never_meet
set_option Elab.async false
set_option linter.all false
set_option maxRecDepth 100000
set_option maxHeartbeats 4000000
set_option compiler.extract_closed false
set_option bootstrap.genMatcherCode false
set_option genSizeOf false
set_option genInjectivity false
set_option tactic.hygienic false
local macro_rules(kind:=Lean.Parser.Command.declaration)|s=>if s[0].getNumArgs>7||s[0][1].getNumArgs>0 then Lean.Macro.throwUnsupported else let m:=("O some,Y List,Z ref,G Int,L sg,B Nat,M int,D ad,N length,P heap,E st,C es,F xs,A aa,g ae,d vs,aiu Ol,aiF Om,aiG Oo,aiH Oq,aiI Ot,aiJ Ou,aiK Ov,aiL Ow,ajb Ox,ajm Oy,ajn Oz,ajo OA,ajp OB,ajq OC,ajr OD,ajB OE,ajS OF,ajT OG,ajU OH,ajV OI,ajW OJ,ajX OK,ajY OL,ajZ OM,ako ON,akp OO,akq OP,akr OQ,akP OS,akQ OT,akR Bd,akS Be,ak3 Bf,ak4 OU,ak5 OV,ak6 OW,alg Bh,alh Bi,ali Bj,alj OX,alp Bm,alq OY,ama OZ,amb O0,amc O1,amd O2,ame O3,amy O4,amz Bo,amA O5,amU O6,amV O7,amW O8,amX O9,anu Pa,anv Pb,anw Pc,anx Pd,anz Pe,anA Pg,anT Ph,anU Pj,anV Pk,ae_ OR,af_ If,ag_ zv,ahf Is,ahg PR,ahh Rh,ahi Hn,ahj Ho,ahk ol,ahl HD,ahu HS,ahv HV,ahw HW,ahx IK,ahy IL,ahz IM,ahA IP,ahB TX,ahC IQ,ahH IS,ahI IT,ahJ IU,ahK IV,ahL IW,ahM IX,ahT IY,ahU IZ,ahV I0,ahW I1,ah4 I2,ah5 I3,ah6 I4,ah7 I5,ah8 I6,ah9 I7,ah_ I8,aia I9,aib U4,aip mt,aiq HF,air Hq,ais bn,ait b8,ϻ d,Ϻ g,Ϲ A,ϸ B,Ϸ C,϶ D,ϵ E,ϴ F,ϳ G,ϲ L,ϱ M,ϰ N,ϯ O,Ϯ P,ϭ Y,Ϭ Z,ϫ Value,Ϫ autoParam,ϩ pins,Ϩ Addr,ϧ length_map,Ϧ getElem?_eq_some_iff,ϥ get?_push_of_some,Ϥ size,ϣ Option,Ϣ lookup,ϡ getElem?_eq_getElem,Ϡ objs,ϟ PySem,Ϟ scope,ϝ ofString,Ϝ kvs,ϛ get?,Ϛ trans,ϙ wpAny,Ϙ getElem?_map,ϗ toArray,ϖ mem_singleton,ϕ Str,ϔ prog,ϓ sizeLine,ϒ map,ϑ le_refl,ϐ Shared,Ϗ outer,ώ model,ύ mem_of_getElem?,ό env,ϋ Paired,ϊ base,ω starEach,ψ get?_update_other,χ type,φ cell,υ length_append,τ lt_size,σ get?_push_size,ς mem_cons,ρ sizeLine_eq,π Builtin,ο builtin,ξ map_eq_some_iff,ν this,μ Array,κ mem_append,ι decide_eq_true,θ cons,η inClass,ζ size_toArray,ε inl,δ Bool,γ false_ne_true,Ω toList,Ψ wpAny_callSpecial?_slot,Χ toks,Φ data,Υ Inv,Τ Stmt,Ρ qual,Ο toNat,Ξ wpAny_field,Ν wpAny_holding,Μ decide_eq_true_eq,Λ names,Κ other,Ι ne_of_lt,Θ Heap,Η mem_cons_of_mem,Ζ mem_map,Ε map_append,Δ lt_of_lt_of_le,Γ decide_eq_false,Β extBut,Α Nodup,ſ upd,ž items,Ž fields,ż congrArg,Ż wpAny_call_entry,ź mem_append_right,Ź free,Ÿ typeIs,ŷ pos,Ŷ map_cons,ŵ length_cons,Ŵ and_eq_true,ų compareOp,Ų PassesOwn,ű same,Ű NameKind,ů wpAny_mono,Ů codeAny_builtin,ŭ mem_append_left,Ŭ getElem?_append_left,ū least,Ū wpAny_truthy_bool,ũ toNat_natCast,Ũ push,ŧ reachOf,Ŧ wpAny_seqItems,ť lt_irrefl,Ť lst,ţ RelV,Ţ tup,š get?_update_self,Š wpAny_newObj_type,ş Frag,Ş getD_eq_getElem?_getD,ŝ Attribute,Ŝ cls,ś Vals,Ś plainId_quiet,ř slot_list_append,Ř Key,ŗ eval,Ŗ wpAny_tryCatch,ŕ Around,Ŕ mem_filterMap,œ getD,Œ inr,ő not_mem_nil,Ő getElem?_append_right,ŏ Meth,Ŏ getElem?_of_mem,ō plainAttrs_list,Ō False,ŋ envOfC,Ŋ sysModules,ŉ nodup_cons,ň plain_min_loop,Ň type_list_append,ņ decide_eq_false_iff_not,Ņ wpAny_dictEntries,ń nil,Ń isList,ł zero_le,Ł wpAny_Call_Name_kw,ŀ kindOf,Ŀ PyData,ľ mem_cons_self,Ľ under_plainId,ļ mpr,Ļ mainGlobals,ĺ beq_eq_false_iff_ne,Ĺ eq_ofNat_of_zero_le,ĸ Name,ķ argBest,Ķ le_trans,ĵ take,Ĵ isSome,ĳ params,Ĳ fresh,ı filter,İ take_length,į wpAny_setField,Į callWith_type1,ĭ keep,Ĭ reverse,ī linesOf,Ī length_range,ĩ there,Ĩ or_false,ħ Good,Ħ pyNext,ĥ mem_filter,Ĥ PyProof,ģ wpAny_letGo,Ģ length_take,ġ lookup_cons,Ġ Expr,ğ Obj,Ğ filterMap,ĝ SeqAt,Ĝ mem_of_lookup,ě length_pos_iff,Ě slot_tuple_iterator_next,ę step,Ę elim,ė take_add_one,Ė kernel,ĕ backTo,Ĕ Ent,ē slots,Ē handled,đ rawInt,Đ top,ď wpAny_attempt,Ď false_eq_true,č Call,Č Program,ċ append_nil,Ċ length_nil,ĉ filterMap_cons,Ĉ slot_dict_keyiterator_next,ć seqItems?,Ć range,ą stack,Ą keywordEach,ă wpAny_updateSeq,Ă pure,ā function,Ā beq_iff_eq,ÿ tupleKind_room_in1,þ behindInMarks,ý update,ü findIn,û toString,ú any_eq_true,ù all_eq_true,ø wpAny_typeNameOfWhole_keyiter,ö list,õ units,ô Binds,ó map_map,ò propext,ñ mem_range,ð of_decide_eq_true,ï dict,î kind,í locals,ì wpAny_rule,ë eq_iff_iff,ê Calls,é plainAll,è String,ç frames,æ bootBuiltins,å keeps,ä cLine,ã start,â lexLt,á mem_flatMap,à length_filter_le,ß putK,Þ World,Ý cells,Ü if_false,Û SmallTypes,Ú length_reverse,Ù map_congr_left,Ø codeAny,Ö IntsAre,Õ cellsOf,Ô refl,Ó at_,Ò IsList,Ñ spread,Ð wpAny_passesOwn,Ï never,Î holding,Í isEmpty,Ì spliced_cons,Ë cdv,Ê deeper,É IsListIter,È entryOfKey,Ç mul_le_mul,Æ wpAny_standAt,Å attributeBase,Ä wpAny_typeNameOf_keyiter,Ã bool,Â ins,Á turned,À ne_of_gt,Z_ tryCatch,ZB FunFrames,Y_ emod_lt_of_pos,X_ plain_max_loop,XV seq,XL kept,W_ rest,W1 inj,WP call,WF mono,Wp codeAny_mono,V_ decide_eq_true_iff,U_ wpAny_pyNext_list_item,UV backToKw,UF src_list,Uf wpAny_specialOf,T_ wpAny_dictEpoch,TW tupleKind,TD Classical,Ty setIfInBounds,Tm hpl,Tl True,Tk keepIn,S_ wpAny_notOrdered_dict,SZ hit,ST doc,SL wpAny_loadPart_at,SC len,SB hlen,R_ calm,Rs bare,Re apos,Q_ TypeIs,P_ intItems,P3 assignEach,PP spliced_nil,Pi emod_nonneg,O_ data_mapFields,Os entry_min_loop,Op mem_or_eq_of_mem_set,On args_tuple_iterator_next_1,N_ SameBut,NE if_true,No pairsOf,M_ Subscript,L_ le_add_right,LT wpAny_typeOf,LE length_singleton,K_ getElem?_eq_none,KM entry_tuple_iterator_next,KK Rows,KF costOf,KB slot_enumerate_next,J_ any,I_ q01,IR drop,IO field,IN value,Ix FuncData,Id Pairwise,H_ length_toList,G_ slot_dict_get,GM DictOfH,GE wpAny_execs_nil,Go letOwnedTupleGo,Gc wpAny_loadPart',F_ size_of_entries,Fk slot_listiter_next,Fa slot_tuple_getitem,E_ excBase_ValueError,EQ DictEntry,Ev getMethod,D_ emptyDict,Do UpToSlots,Da IsTupleIter,C_ sliceBounds,Cl not_eq_true,Ch cps,B_ tuple,BT IsTuple,A_ globalImplicit,AT evalArgs_plain,AC wpAny_pyIter_list,z_ isSome_iff_exists,zn wpAny_pyIter_enum,y_ slot_list_getattribute,x_ Dict,xL plainObj_wpAny_Assign_Attribute,xz rel,w_ Tuple,wT vals1,wS codeAny_call_function,wP builtinLookup_eq_fast,wE hst,wv acc,wp EqNone,wn swapsWith,wf nodup_nil,v_ wpAny_call,u_ typeLookup,u8 wpAny_isInstance,t_ wpAny_execs_cons,tz callWith_builtin,s_ getElem?_reverse,s0 mem_iff_getElem?,sK decide_eq_decide,sw AllBare,ss standAt,r_ kia_one,rc map_nil,q_ methodCall_KW,p_ body,o0 succ,or frame,on any_cons,n_ dropLast,nw wpAny_of_eq,m_ hideAll_get,l_ FunctionDef,lw wpAny_pyIter_revIter,lf drop_eq_getElem_cons,k_ pairwise_iff_getElem,j_ lt_succ_iff_lt_or_eq,jp in1,i_ knd,im DictOf,ii shaped,h_ get?_none_of_le,g_ mem_of_mem_take,f_ byContradiction,f8 slot_str_ascii_iterator_next,e_ args_dict_keyiterator_next_1,d_ fin,dL WData,dl length_filterMap_le,c_ EqAt,cr line,b_ mul_one,bv BindsTo,bi leaving,be flatMap,a_ lt_succ_self,aa_ reverse_cons,ab_ not_eq_true',acl entry_dict_keyiterator_next,act size_push,ac_ replicate,adc ForInStep,adr IsRevIter,ad_ updateSeq,OR new,If slot,zv binds,Is places,PR seqObj,Rh contains,Hn binaryOp,Ho bindArgs,ol callWith,HD ListComp,ahm callWith_K,ahn of_mem_zip,aho find?_cons,ahp filter_map,ahq entry_dict_get,ahr wpAny_setField_rec,ahs wpAny_newFunctionEnv_cells,aht wpAny_letOwnedTupleGo_enum,HS q00,HV laid,HW zero,IK Scope,IL above,IM stepT,IP hideAll,TX Keyword,IQ ext_iff,ahD richCompare,ahE foldedSetIterable,ahF isFreed_of_fields,ahG mul_ediv_add_emod,IS oqq,IT more,IU BoolOp,IV kitOne,IW codeIn,IX common,ahN zip_cons_cons,ahO lt_succ_of_lt,ahP forall_congr',ahQ slot_range_iterator_next,ahR wpAny_comprehension_free,ahS eq_empty_of_size_eq_zero,IY all,IZ Sum,I0 fnOf,I1 Prod,ahX Operator,ahY codeHdIn,ahZ noteFrame,ah0 IsKeyIter,ah1 decide_or,ah2 wpAny_forIn_list,ah3 wpAny_pyNext_enum_itemD,I2 ExtBut,I3 assign,I4 append,I5 exmOne,I6 natAbs,I7 instObj,I8 Compare,I9 EqMixed,U4 getItem,aic wpAny_load,aid builtinsNs,aie intsAre_of,aif length_set,aig closureFor,aih tupleExact,aii bindParams,aij append_assoc,aik call_meetsIn,ail slot_str_iterator_next,aim subscriptTail_builtinR,ain wpAny_nextOf_list_item,aio getElem?_concat_length,mt set,HF own,Hq met,bn tok,b8 ret,Ol depth,aiv getElem?_set_ne,aiw getElem?_toList,aix typeLookup_type,aiy toNat_of_nonneg,aiz wpAny_isTrue_Compare1,aiA wpAny_isOneOf_keyiter,aiB wpAny_pyNext_list_end,aiC forIn_eq_forIn_range',aiD args_enumerate_next_1,aiE takeWhile_cons_of_neg,Om mod,Oo hdb,Oq hash,Ot gens,Ou cont,Ov item,Ow iter,aiM le_of_lt,aiN Constant,aiO compEnvC,aiP sum_cons,aiQ getLast?,aiR IsRangeIter,aiS isCoroutine,aiT isGenerator,aiU subscripted,aiV intItems_at,aiW not_lt_zero,aiX wpAny_runValue,aiY cellsFrom_some,aiZ listExtendWith,ai0 slot_dict_iter,ai1 callType_codes,ai2 entry_max_loop,ai3 filter_eq_self,ai4 plainAttrs_str,ai5 wpAny_loadName_local,ai6 Name_function_global,ai7 wpAny_newFunctionEnv,ai8 wpAny_pyIter_keyiter,ai9 entry_enumerate_next,ai_ codeAny_call_builtin,aja getLast?_eq_getElem?,Ox Pos,ajc OpenLaw,ajd valueAt,aje callerA,ajf StaysIn,ajg entry_listiter_next,ajh wpAny_loadName_cell,aji getElem?_take_of_lt,ajj length_erase_of_mem,ajk wpAny_dictFind_heap,ajl wpAny_isSubtype_exc,Oy obj,Oz hsz,OA Call_,OB Slice,OC slice,OD clsIn,ajs evalPart_none,ajt subscriptTail,aju lt_of_succ_lt,ajv filter_append,ajw ExceptHandler,ajx pairwise_cons,ajy quiet_builtin,ajz slot_str_join,ajA type_str_join,OE Tok,ajC Assign,ajD mapSeq,ajE nextOf,ajF isInstance,ajG of_hideAll,ajH Subscript_,ajI forIn_cons,ajJ updateFrom,ajK args_listiter_next,ajL getElem?_replicate,ajM getElem?_cons_succ,ajN getattributeRaised,ajO kt_typeCall_dict_1,ajP wpAny_pyIter_tuple,ajQ args_object_init_2,ajR call_reversed_list,OF Env,OG glob,OH Ends,OI its',OJ pos',OK error,OL numAt,OM Still,aj0 sameBut,aj1 UnaryOp,aj2 hasDict,aj3 set_list,aj4 defaults,aj5 map_some,aj6 of_keeps,aj7 Builtins,aj8 true_and,aj9 zero_add,aj_ codeAny_func,aka seqIndex_neg,akb ext_getElem?,akc succ_ne_self,akd called_tuple,ake take_of_length_le,akf getElem?_set_self,akg wpAny_Return_some,akh wpAny_assign_Name,aki callWith_builtin1,akj slot_list_getitem,akk wpAny_Call_method,akl drop_eq_nil_of_le,akm length_pos_of_mem,akn calledThroughType,ON pin,OO mem,OP Code,OQ func,aks target,akt atName,aku fnMade,akv IsStrIter,akw AugAssign,akx false_and,aky IsSliceOf,akz mapFields,akA setFlight,akB TriplesOk,akC entryFor_of_tree,akD wpAny_lookBehind,akE pastItsLine_dict,akF length_replicate,akG wpAny_Dict_empty,akH kt_code_dict_new,akI args_dict_init_2,akJ data_mapDictKeys,akK beq_self_eq_true,akL ownedTupleIsFree,akM wpAny_pyIter_zip,akN checkBuiltinCall,akO filterMap_append,OS write,OT under,Bd atKey,Be reads,akT DecidableEq,akU plainGet_of,akV looks_clsIn,akW callWith_K0,akX length_drop,akY seqIndex_of,akZ slicePlaces,ak0 range'_succ,ak1 neg_mul_neg,ak2 excClassObj,Bf PSs,OU zip,OV Calm,OW tail,ak7 args_dict_get_2,ak8 args_dict_get_3,ak9 plainAttrs_dict,ak_ plain_list_iadd,ala entry_dict_init,alb mem_of_mem_drop,alc mem_erase_of_ne,ald entriesForEmpty,ale codeAny_of_tree,alf plain_tuple_new,Bh wvP,Bi loc,Bj idx,OX out,alk nolimit,alm endLine,aln ItemsOf,alo map_id',Bm Turn,OY Told,alr IsTup,als drawn,alt whole,alu bindL,alv bindC,alw foldl,alx Walks,aly Reads,alz Keyed,alA Within,alB isTrue,alC toRowW,alD values,alE argsOk,alF raiseNew,alG plainGet,alH ReadsAll,alI showsAll,alJ entry_at,alK sub_self,alL Function,alM wpAny_Name,alN boot_range,alO PlainAttrs,alP call_meets,alQ isSome_map,alR isNs_of_in,alS mul_nonneg,alT range_succ,alU sum_append,alV refuseLoop,alW ObjectAttr,alX firstArgMember,alY wpAny_Compare1,alZ wpAny_loadPart,al0 recursionLimit,al1 getElem?_range,al2 slicePart_none,al3 funFrames_hide,al4 wpAny_fieldsOf,al5 kt_called_dict,al6 flatMap_append,al7 boot_enumerate,al8 eq_zero_or_pos,al9 get?_update_ne,al_ takeWhile_cons,OZ old,O0 wish,O1 turn,O2 snoc,O3 keys,amf wpAny_handled,amg assignInOrder,amh rangeSize_one,ami intBits_le_64,amj frames_deeper,amk evalPart_some,aml call_list_seq,amm slot_list_pop,amn type_dict_get,amo wpAny_noRaise,amp cls_mapFields,amq wpAny_newList,amr slot_zip_next,ams wpAny_onRaise,amt lookup_append,amu toList_append,amv slot_lri_next,amw contains_cons,amx filterMap_nil,O4 get,Bo eqv,O5 q04,amB CmpOp,amC NotIn,amD again,amE after,amF Alike,amG ExactDict,amH methodObj,amI storeName,amJ inplaceOp,amK hasDictIn,amL cellsFrom,amM src_range,amN eq_of_beq,amO MadeExcOf,amP forIn_nil,amQ Challenge,amR take_zero,amS takeWhile,amT take_succ,O6 q05,O7 Unit,O8 uniq,O9 Nums,amY WShape,amZ merged,am0 IsPair,am1 SortSt,am2 NoLimit,am3 some_of,am4 none_of,am5 le_succ,am6 collect,am7 mul_sub,am8 mul_add,am9 map_set,am_ any_nil,ana wpAny_update,anb hideAll_none,anc isTrue_plain,and call_range_1,ane find?_toList,anf wpAny_nsSet1,ang looks_findIn,anh take_sublist,ani le_of_not_lt,anj pairwise_map,ank filter_congr,anl eq_false_iff,anm iter_intList,ann all_eq_false,ano slot_dict_ne,anp dictSlotArgs,anq ExcBaseFacts,anr get?_push_at,ans foldl_append,ant flatMap_cons,Pa brk,Pb one,Pc mro,Pd sub,Pe tab,Pg imp,anB cellK,anC yield,anD raise,anE mg_of,anF CmpOf,anG newId,anH injEq,anI entryFor,anJ any_some,anK toInCall,anL tail_any,anM lt_trans,anN and_true,anO setField,anP add_comm,anQ lt_or_ge,anR ellipsis,anS depthAll,Ph at2,Pj key,Pk q02,anW IsCell,anX pyIter,anY lookIn,anZ Result,an0 typeOf,an1 Params,an2 stored,an3 handed,an4 IsEnum,an5 tabObj".splitOn ",").foldl (fun (m:Std.HashMap String String) p=>let l:=p.splitOn " ";m.insert l.head! l.getLast!) {};let s:=s.rewriteBottomUp fun|.ident i r n l=>if n.hasMacroScopes then .ident i r n l else .ident i r (n.components.foldl (fun p c=>p.str (m.getD c.getString! c.getString!)) .anonymous) l|s=>s;let v:=s[1][0].getAtomVal;pure (s.setArg 0 (s[0].setArgs ((if v=="def"||v=="abbrev" then s[0].setArg 4 (Lean.mkNullNode #[.missing]) else s[0]).getArgs.push (.atom .none ""))))
local macro_rules|`(tactic|omega)=>`(tactic|first|lia|omega +splitDisjunctions)
set_option hygiene false
local macro_rules|`($s:str ≈$f)=>`(PySem.W.nsIn K PySem.mainGlobals $s=some (some (.ref $f)))
set_option hygiene true

abbrev Bh:=ϟ.ϫ->ϟ.ϐ->Prop
local macro_rules|`(∅)=>`(by decide +kernel)
local macro_rules|`(⋯)=>`(by omega)
open List (range mem_filter mem_range filterMap_cons mem_cons_self mem_cons_of_mem mem_cons mem_append_left mem_append mem_filterMap mem_append_right size_toArray length_cons map_cons length_map append_nil nodup_cons of_mem_zip replicate length length_take getElem?_append_right getElem?_append_left getElem?_map mem_of_getElem? length_append length_nil map_nil length_set any_cons reverse_cons length_singleton find?_cons nodup_nil mem_map any_eq_true mem_singleton map_append lookup_cons forIn_cons toArray length_filter_le take_add_one take_length all_eq_true getD length_reverse range' getElem?_eq_getElem getD_eq_getElem?_getD map_map length_pos_iff map_congr_left map_set filter_map mem_flatMap getElem?_of_mem map sum_cons not_mem_nil length_range any_nil map_id' all_map)
open Nat (ne_of_lt lt_of_lt_of_le le_add_right ne_of_gt zero_le lt_succ_self le_succ mul_le_mul)
open Int (toNat_natCast eq_ofNat_of_zero_le emod_nonneg emod_lt_of_pos)
open Option (isSome_iff_exists getD_none map_some isSome_map map_eq_some_iff)
open PySem.Heap (get?_update_other get?_update_self get?_push_of_some lt_size get?_push_size size_push)
open Bool (false_eq_true and_eq_true not_eq_true not_eq_true' decide_or)
abbrev ax:=@ϟ.wpAny_bind
abbrev bp:=@ϟ.wpAny_pure
abbrev aD:=@if_neg
abbrev aS:=@if_pos
abbrev bJ:=@absurd
theorem dF(h:Tl:=by first|exact aiu _|exact aiF _ ∅ ∅|with_unfolding_all rfl):Tl:=h
theorem dA(h:Tl:=by rfl):Tl:=h
theorem dB(h:Tl:=by decide):Tl:=h
theorem dC(h:Tl:=by decide +Ė):Tl:=h
theorem dD(h:Tl:=by first|exact .ε rfl|exact .Œ rfl|exact .Œ (.ε rfl)|exact .Œ (.Œ rfl)|assumption):Tl:=h
theorem dE(h:Tl:=by intros;intro _ _ _ _ _ _;rfl):Tl:=h
local macro_rules|`(tactic| walk_at "l")=>`(tactic| (· intro vs H Q E h;cases h;subst vs;rfl))
local macro_rules|`(command|#print $s:str)=>do let mut a:=#[];for n in s.getString.splitOn " "++(List.range 1430).map (s!"o_{·}") do {let x:=Lean.mkIdent (.str `PySem.W.Fast s!"tw{(Lean.Name.str `PySem.Challenge.cw_floorways_k24_whole_fleets_never_meet_holds0 n).hash}");a:=a.push (<-Lean.MonadRef.withRef .missing `(command|def $x:ident:=()))};return Lean.mkNullNode (a.push (<-Lean.MonadRef.withRef .missing `(command|def $(Lean.mkIdent (.str `PySem.W.Fast s!"tw{(`PySem.Challenge.pw_floorways_k24_whole_fleets_never_meet).hash}")):ident:=())))
#print"heap_39 view_39 tree_1428 tree_1400 tree_1231 tree_1317 sts_1321 heap_1429 sts_1084 tree_1083 tree_1031 tree_1008 tree_954 tree_914 tree_828 tree_726 sts_1401 tree_809 tree_618 sts_619 sts_1032 sts_955 tree_567 sts_568 sts_829 tree_516 sts_915 tree_473 tree_451 sts_306 sts_375 tree_374 tree_371 sts_517 sts_294 tree_305 tree_293 tree_257 tree_242 sts_258 tree_227 tree_212 sts_474 tree_190 sts_813 tree_175 tree_160 tree_145 tree_130 tree_115 sts_1009 tree_100 sts_372 sts_49 tree_85 sts_191 sts_452 tree_70 heap_46 sts_243 sts_86 sts_116 sts_101 sts_213 sts_228 sts_176 sts_161 sts_146 sts_71 sts_131 tree_47"
set_option maxRecDepth 100000 in
set_option maxHeartbeats 0 in
open_top PySem.Challenge.cw_floorways_k24_whole_fleets_never_meet_holds0 for PySem.Challenge.rw_floorways_k24_whole_fleets_never_meet
open PySem.W (Frag findIn nsIn mg_of keepIn isFn kitOne mg_none_of fnOf hasDictIn plainGet kia_one plainOver mroIn makesIn hideAll instObj codeIn callWith_K hideAll_get clsIn exmOne OpenLaw lookIn methodCall_KW specialIn takesIn tabObj codeHdIn WalkO)
variable {G:Prop}{A:PySem.Around}{h':PySem.Heap}{it l:PySem.Addr}{n:String}{α:Type}{a0:Array (Option PySem.Value)}{Q:Option PySem.Value->PySem.Shared->Prop}{i:Nat}{items:Array PySem.Value}{x:PySem.Str}{env:PySem.Env}{pos:PySem.Pos}
namespace L2
open PySem PyProof.Rows PySem.Calls
theorem IS (h:∀eZ:Prop,(ϳ->eZ)->eZ):ϳ:=h ϳ id
def fo (Ϲ:ŕ)(h:Θ):Prop:=
 Ϲ.Ē=none\/∃(a6 Ϸ:Ϩ)(dx:ϣ Ϩ)(d:μ ϫ)(a0:μ (ϣ ϫ)),Ϲ.Ē=O (.Z a6)/\h.ϛ a6=O ⟨.Z Ϸ,dx,.Ž d,a0⟩/\d[2]?=O ϫ.none
theorem fo.å {h:Θ}(ϻ:fo Ϲ h)(k:∀b o,h.ϛ b=O o->h'.ϛ b=O o):fo Ϲ h':=by
 rcases ϻ with ϻ|⟨a6,Ϸ,dx,d,a0,d4,ea,h6⟩
 ·exact .ε ϻ
 ·exact .Œ ⟨a6,Ϸ,dx,d,a0,d4,k _ _ ea,h6⟩
theorem fo.ý {h:Θ}(ϻ:fo Ϲ h){o:ğ}(av:h.ϛ it=O o)(ak:o.Ŝ=.χ n)(f:ğ->ğ):fo Ϲ (h.ý it f):=by
 rcases ϻ with ϻ|⟨a6,Ϸ,dx,d,a0,d4,ea,h6⟩
 ·exact .ε ϻ
 ·refine .Œ ⟨a6,Ϸ,dx,d,a0,d4,?_,h6⟩;rw[ψ h f (λz=>?_)]
  ·exact ea
  ·subst z;rw[av]at ea;cases ea;cases ak
section
variable {prog:Program}{w:World}{A:Around}{E:wvP}{s:Shared}
theorem aiG:anI table "proto.unchain"=O Builtin.«proto.unchain»:=akC (by kernel_rfl)
theorem aiH {Q:α->ϐ->Prop}{e:Ϩ}{c:ϫ}{ϻ:ϣ Ϩ}{ws:μ ϫ}(hd:fo Ϲ s.P)(aF:∀a6,Ϲ.Ē=O (.Z a6)->a6≠e)(he:s.P.ϛ e=O ⟨c,ϻ,.Ž ws,a0⟩)(hz:2<ws.Ϥ)(k:∀h',(∀b o,b≠e->s.P.ϛ b=O o->h'.ϛ b=O o)->(∃o,h'.ϛ e=O o/\o.Ŝ=c)->ϵ (.Z e) { s with P:=h' }):ϙ (ώ ϔ w) Ϲ (alF (.Z e):Sem α) Q ϵ s:=by
 rcases hd with hd|⟨a6,Ϸ,dx,d,o4,d4,ea,h6⟩
 ·unfold alF;refine ax (amf ?_);rw[hd];exact ax (bp (wpAny_throw (k _ (λ_ _ _ z=>z) ⟨_,he,rfl⟩)))
 ·have ne:=aF a6 d4
  unfold alF;refine ax (amf ?_);rw[d4];have af:(ϫ.Z a6 != ϫ.Z e)=true:=by simp[ne]
  dsimp only
  rw[aS af];refine ax (Ν (aiX (Ů aiG ?_)));show ϙ _ _ (IO (.Z a6) 2>>=_) _ _ s
  refine ax (Ξ ea rfl h6 ?_);rw[aS ∅];refine ax (bp (bp ?_));unfold updateField;refine ax (ax (aic he ?_));show ϙ _ _ (if 2<ws.Ϥ then _ else _) _ _ s
  rw[aS hz];refine ana he (wpAny_throw (k _ (λb o af z=>?_) ⟨_,š _ he rfl,rfl⟩));rwa[ψ _ _ (Ne.symm af)]
theorem nV {Q:α->ϐ->Prop}(hd:fo Ϲ s.P)(k:∀h' e,(∀b o,s.P.ϛ b=O o->h'.ϛ b=O o)->(∃o,h'.ϛ e=O o/\o.Ŝ=.χ "StopIteration")->ϵ (.Z e) { s with P:=h' }):
  ϙ (ώ ϔ w) Ϲ (newExc (.χ "StopIteration") []>>=λe=>(alF e:Sem α)) Q ϵ s:=by
 refine ax ?_;simp only[newExc,newTuple];refine ax (Š ?_ (by size_fits));refine ax (m:=alX _ _) (nw (a:=ϫ.none) (by first|rfl|(simp only[alX];rfl)) ?_);refine Š ?_ (by size_fits);have up:∀b o,s.P.ϛ b=O o->((s.P.Ũ { Ŝ:=.χ "tuple",Φ:=.XV #[] }).Ũ { Ŝ:=.χ "StopIteration",Φ:=.Ž (#[ϫ.Z s.P.Ϡ.Ϥ,.none,.none,.none,.Ã false,.none]++ownMembersOf (.χ "StopIteration") []) }).ϛ b=O o:=
  λb o z=>ϥ _ (ϥ _ z)
 have lt:∀b o,s.P.ϛ b=O o->b≠(s.P.Ũ { Ŝ:=.χ "tuple",Φ:=.XV #[] }).Ϡ.Ϥ:=λb o z=>Ι (τ (ϥ _ z))
 refine aiH (hd.å up) (λa6 z=>?_) (σ _ rfl) (by rw[μ.size_append];exact Δ (show 2<6 by decide) (L_ 6 _)) λh' k1 k2=>k h' _ (λb o z=>k1 b o (lt b o z) (up b o z)) k2;rcases hd with hd|⟨eb,Ϸ,dx,d,a0,d4,ea,h6⟩
 ·rw[hd]at z;cases z
 ·rw[d4]at z;cases z;exact lt _ _ ea
theorem m3 {e:Ϩ}(he:∃o,s.P.ϛ e=O o/\o.Ŝ=.χ "StopIteration")(h:Q none s):
  ϙ (ώ ϔ w) Ϲ (do if <- ajF (.Z e) (.χ "StopIteration") then Ă none else throw (.Z e)) Q ϵ s:=
 ax (u8 (T:="StopIteration") (b:=true) he isSubtype_stop (bp h))
theorem aiI (bj:fo Ϲ s.P)(SZ:s.P.É it l i)(aw:s.P.Ò l ž)(ai:ž[i]?=none)(d6:∀h',Θ.I2 it s.P h'->Q none { s with P:=h' }):ϙ (ώ ϔ w) Ϲ (Ħ (.Z it)) Q ϵ s:=by
 obtain⟨o,av,ak,hd⟩:=id SZ;obtain⟨_,kv,_,_,m4⟩:=aw;unfold Ħ;refine ax (ď (Ψ (name:=ϕ.ϝ "__next__") SZ.Ÿ Fk (Ż Fk SZ.Ÿ ajg ?_ (ajK _))));show ϙ _ _ (IO (.Z it) 0>>=_) _ _ s
 refine ax (Ξ av hd (x:=.Z l) rfl ?_);rw[aD (λz:(ϫ.Z l==ϫ.none)=true=>nomatch z)];show ϙ _ _ (IO (.Z it) 1>>=_) _ _ s
 refine ax (Ξ av hd (x:=.M i 0) rfl ?_);show ϙ _ _ (ć (.Z l)>>=_) _ _ s
 refine ax (Ŧ kv m4 ?_);simp only[ũ,ai];refine ax (ì (ax (į av hd (by simp) ?_)));refine nV (bj.ý (Ϲ:=Ϲ) av ak _) λh' e k1 k2=>m3 k2 (d6 h' λb o af z=>k1 b o ?_);rwa[ψ _ _ (Ne.symm af)]
theorem aiJ {t:Ϩ}(bj:fo Ϲ s.P)(SZ:s.P.Da it t i)(bk:s.P.BT t ž)(ai:ž[i]?=none)(d6:∀h',Θ.I2 it s.P h'->Q none { s with P:=h' }):ϙ (ώ ϔ w) Ϲ (Ħ (.Z it)) Q ϵ s:=by
 obtain⟨o,av,ak,hd⟩:=id SZ;obtain⟨_,kv,_,_,m4⟩:=bk;unfold Ħ;refine ax (ď (Ψ (name:=ϕ.ϝ "__next__") SZ.Ÿ ϴ.Ě (Ż ϴ.Ě SZ.Ÿ ϴ.KM ?_ (ϴ.On _))));show ϙ _ _ (IO (.Z it) 0>>=_) _ _ s
 refine ax (Ξ av hd (x:=.Z t) rfl ?_);rw[aD (λz:(ϫ.Z t==ϫ.none)=true=>nomatch z)];show ϙ _ _ (IO (.Z it) 1>>=_) _ _ s
 refine ax (Ξ av hd (x:=.M i 0) rfl ?_);show ϙ _ _ (ć (.Z t)>>=_) _ _ s
 refine ax (Ŧ kv m4 ?_);simp only[ũ,ai];refine ax (ì (ax (į av hd (by simp) ?_)));refine nV (bj.ý (Ϲ:=Ϲ) av ak _) λh' e k1 k2=>m3 k2 (d6 h' λb o af z=>k1 b o ?_);rwa[ψ _ _ (Ne.symm af)]
theorem aiK {x left ę:G}(bj:fo Ϲ s.P)(SZ:aiR s.P it x left ę)(aiL:left<=0)(d6:∀h',Θ.I2 it s.P h'->Q none { s with P:=h' }):ϙ (ώ ϔ w) Ϲ (Ħ (.Z it)) Q ϵ s:=by
 have cP:s.Q_ (.Z it) "range_iterator":=⟨_,SZ,rfl⟩
 unfold Ħ;refine ax (ď (Ψ (name:=ϕ.ϝ "__next__") cP ϴ.ahQ (Ż ϴ.ahQ cP ϴ.entry_range_iterator_next ?_ (ϴ.args_range_iterator_next_1 _))));show ϙ _ _ (IO (.Z it) 0>>=_) _ _ s
 refine ax (Ξ SZ rfl (x:=đ x) rfl ?_);show ϙ _ _ (IO (.Z it) 1>>=_) _ _ s
 refine ax (Ξ SZ rfl (x:=đ left) rfl ?_);show ϙ _ _ (IO (.Z it) 2>>=_) _ _ s
 refine ax (Ξ SZ rfl (x:=đ ę) rfl ?_);show ϙ _ _ (if left<=0 then _ else _) _ _ s
 rw[aS aiL];refine ax (ì (ax ?_));exact nV (Ϲ:=Ϲ.jp) bj λh' e k1 k2=>m3 k2 (d6 h' λb o af z=>k1 b o z)
theorem FJ {t:OE}(aF:n="str_ascii_iterator"\/n="str_iterator")(bj:fo Ϲ s.P)(SZ:s.P.akv it n x t i)(ai:x.Ch[i]?=none)(d6:∀h',Θ.I2 it s.P h'->Q none { s with P:=h' }):ϙ (ώ ϔ w) Ϲ (Ħ (.Z it)) Q ϵ s:=by
 obtain⟨o,av,ak,hd⟩:=id SZ;unfold Ħ;rcases aF with rfl|rfl
 ·refine ax (ď (Ψ (name:=ϕ.ϝ "__next__") SZ.Ÿ ϴ.f8 (Ż ϴ.f8 SZ.Ÿ ϴ.entry_str_ascii_iterator_next ?_ (ϴ.args_str_ascii_iterator_next_1 _))));show ϙ _ _ (IO (.Z it) 0>>=_) _ _ s
  refine ax (Ξ av hd (x:=.str x t) rfl ?_);show ϙ _ _ (IO (.Z it) 1>>=_) _ _ s
  refine ax (Ξ av hd (x:=.M i 0) rfl ?_);simp only[ũ,ai];refine ax (ì (ax (į av hd (by simp) (ax (ģ ?_)))));refine nV (bj.ý (Ϲ:=Ϲ) av ak _) λh' e k1 k2=>m3 k2 (d6 h' λb o af z=>k1 b o ?_);rwa[ψ _ _ (Ne.symm af)]
 ·refine ax (ď (Ψ (name:=ϕ.ϝ "__next__") SZ.Ÿ ϴ.ail (Ż ϴ.ail SZ.Ÿ ϴ.entry_str_iterator_next ?_ (ϴ.args_str_iterator_next_1 _))));show ϙ _ _ (IO (.Z it) 0>>=_) _ _ s
  refine ax (Ξ av hd (x:=.str x t) rfl ?_);show ϙ _ _ (IO (.Z it) 1>>=_) _ _ s
  refine ax (Ξ av hd (x:=.M i 0) rfl ?_);simp only[ũ,ai];refine ax (ì (ax (į av hd (by simp) (ax (ģ ?_)))));refine nV (bj.ý (Ϲ:=Ϲ) av ak _) λh' e k1 k2=>m3 k2 (d6 h' λb o af z=>k1 b o ?_);rwa[ψ _ _ (Ne.symm af)]
theorem ajb {elts:Y Ġ}{x1}{t:Ϩ}{Q:O7->ϐ->Prop}(bj:fo Ϲ s.P)(bk:alr s.P t ž)(aF:(P3 elts ό).N=ž.Ϥ)(ajm:(P3 elts ό).findIdx? (·.1)=none)(h:∀h',Θ.I2 s.P.Ϡ.Ϥ s.P h'->ϙ (ώ ϔ w) Ϲ (amg ((P3 elts ό).ϒ (·.2)) ž.Ω) Q ϵ { s with P:=h' }):ϙ (ώ ϔ w) Ϲ (I3 (.w_ elts x1 ŷ) ό (.Z t)) Q ϵ s:=by
 have ne:t≠s.P.Ϡ.Ϥ:=by obtain⟨o,av,_⟩:=bk;exact Ι (τ av)
 rw[assign_Tuple];refine ax (Æ ?_);unfold unpack;rw[aF,ajm];refine ax (Ν ?_);unfold unpackItems;refine ax ?_;unfold notIterableAtAll;refine ax (Uf bk.Ÿ slot_tuple_iter.Ϣ (bp ?_));simp only[Ď,Ü];refine ax (Ν (iter_tuple bk ?_));refine ax (Ν (draw_tuple ne ž.Ϥ 0 _ _ ⟨_,σ _ rfl,rfl,rfl⟩ (bk.Ũ _) ⋯ λgp ajn FK=>?_));rw[Y.drop_zero,Y.ake (by simp)];rw[aD (by simp)];have k1:∀b o,s.P.ϛ b=O o->gp.ϛ b=O o:=λb o z=>(FK.2 b (Ι (τ z))).Ϛ (ϥ _ z)
 have ajo:alr gp t ž:=(bk.Ũ _).Β FK.Β ne
 refine ax (Ν (aiJ (s:={ s with P:=gp }) (bj.å k1) ajn ajo (by simp) λqz ajp=>?_));simp only[ϣ.isSome_none,Ď,Ü];exact bp (h qz λb o af z=>ajp b o af (k1 b o z))
end
end L2
variable {n t' j tk:Nat}{e c5 iter:PySem.Expr}{Q E:PySem.Value->PySem.Shared->Prop}{us:List PySem.Value}{bE:Type}{a f C dx:PySem.Addr}{u cd doc pm cdv cb dI:PySem.Value}{P prog:PySem.Program}{w:PySem.World}{ob:PySem.Obj}{g':Array PySem.GenState}{N ps:List PySem.Str}{M:PySem.Model}{s' s:PySem.Shared}{pins:List (PySem.Addr×PySem.Obj)}{op:PySem.CmpOp}{K:PySem.W.Frag}{es:List PySem.Expr}{pos':PySem.Pos}{body:List PySem.Stmt}{vs:Array PySem.Value}{R:PySem.Result->PySem.Shared->Prop}{lo:Int}{cH:List PySem.Addr}{pl:PySem.Sem Bool}{ej mg:PySem.Str->Option PySem.Value}{kw:List (PySem.Str×PySem.Value)}{base:PySem.Heap}{fd:PySem.FuncData}{outer:List PySem.Env}{qual name:PySem.Str}{scope:PySem.Scope}{params:PySem.Arguments}{eX:Array (Option PySem.Value)}
namespace L2
open PySem PySem.Spec PyProof.Rows
abbrev Ř:=IZ G ϕ
def o5:Ř->ϫ->δ
 | .ε k,v=>ϫ.isInt k v
 | .Œ x,v=>ϫ.isStrOf x v
def FL (w:Þ):Ř->G
 | .ε k=>hashInt k
 | .Œ x=>hashStr w x
theorem nW:∀{k:Ř}{v:ϫ},o5 k v=true->(∃i t,k=IZ.ε i/\v=ϫ.M i t)\/(∃x t,k=IZ.Œ x/\v=ϫ.str x t)
 | .ε i,v,h=>by
  obtain⟨t,e⟩:=ϫ.isInt_shape (k:=i) (v:=v) h;exact .ε ⟨i,t,rfl,e⟩
 | .Œ x,v,h=>by
  obtain⟨t,e⟩:=ϫ.isStrOf_shape (x:=x) (v:=v) h;exact .Œ ⟨x,t,rfl,e⟩
theorem ajq (i:G)(t:OE):o5 (.ε i) (.M i t)=true:=by simp[o5,ϫ.isInt]
theorem ajr (x:ϕ)(t:OE):o5 (.Œ x) (.str x t)=true:=by simp[o5,ϫ.isStrOf]
theorem ajB (a b:G):decide ((IZ.ε a:Ř)=IZ.ε b)=(a==b):=by
 by_cases e:a=b
 ·subst e;simp
 ·have h:¬(IZ.ε a:Ř)=IZ.ε b:=λq=>e (IZ.ε.W1 q)
  rw[Γ h];exact(ĺ.ļ e).symm
theorem ajS (a b:ϕ):decide ((IZ.Œ a:Ř)=IZ.Œ b)=decide (a=b):=by
 by_cases e:a=b
 ·subst e;simp
 ·have h:¬(IZ.Œ a:Ř)=IZ.Œ b:=λq=>e (IZ.Œ.W1 q)
  rw[Γ h,Γ e]
theorem ajT (a:G)(b:ϕ):decide ((IZ.ε a:Ř)=IZ.Œ b)=false:=Γ (λq=>nomatch q)
theorem ajU (a:ϕ)(b:G):decide ((IZ.Œ a:Ř)=IZ.ε b)=false:=Γ (λq=>nomatch q)
def e0 (ϔ:Č)(w:Þ):ϟ.KeyKind ϔ w Ř where
 is:=o5
 Oq:=FL w
 W1:=λv a b aN af=>by
  rcases nW aN with⟨i,t,rfl,rfl⟩|⟨x,t,rfl,rfl⟩
  ·rcases nW af with⟨j,u,rfl,e⟩|⟨y,u,rfl,e⟩
   ·injection e with au _;rw[au]
   ·exact nomatch e
  ·rcases nW af with⟨j,u,rfl,e⟩|⟨y,u,rfl,e⟩
   ·exact nomatch e
   ·injection e with au _;rw[au]
 byValue:=λk v h=>by
  rcases nW h with⟨i,t,rfl,rfl⟩|⟨x,t,rfl,rfl⟩<;>rfl
 pyHash:=λaG h=>by
  rcases nW aG with⟨i,t,rfl,rfl⟩|⟨x,t,rfl,rfl⟩
  ·exact wpAny_pyHash_int h
  ·exact wpAny_pyHash_str h
 eqBool:=λbK aG h=>by
  rcases nW bK with⟨i,t,rfl,rfl⟩|⟨x,t,rfl,rfl⟩
  ·rcases nW aG with⟨j,u,rfl,rfl⟩|⟨y,u,rfl,rfl⟩
   ·rw[ajB]at h;exact wpAny_eqBool_int h
   ·rw[ajT]at h;exact ĝ.c_.int_str i t y u _ _ _ _ h
  ·rcases nW aG with⟨j,u,rfl,rfl⟩|⟨y,u,rfl,rfl⟩
   ·rw[ajU]at h;exact ĝ.c_.str_int x t j u _ _ _ _ h
   ·rw[ajS]at h;exact wpAny_eqBool_str h
 «strs»:=λk x t v h=>by
  rcases nW h with⟨i,u,rfl,e⟩|⟨y,u,rfl,e⟩
  ·exact nomatch e
  ·injection e with au _
   subst au;cases v<;>rfl
theorem ajV (ϔ:Č)(w:Þ)(i:G)(t:OE):(e0 ϔ w).is (.ε i) (.M i t)=true:=ajq i t
theorem ajW (ϔ:Č)(w:Þ)(x:ϕ)(t:OE):(e0 ϔ w).is (.Œ x) (.str x t)=true:=ajr x t
set_option genInjectivity true in
inductive V where
 | br|bl (b:δ)|M (i:G)|str (x:ϕ)|ka (b:μ UInt8)|qA (b:UInt64)|Z (a:Ϩ)|ty (n:è)
 deriving akT
def ţ:V->ϫ->Prop
 | .br,u=>u=ϫ.none
 | .bl b,u=>u=ϫ.Ã b
 | .M i,u=>∃t,u=ϫ.M i t
 | .str x,u=>∃t,u=ϫ.str x t
 | .ka b,u=>∃t,u=ϫ.bytes b t
 | .qA b,u=>∃t,u=ϫ.float b t
 | .Z a,u=>u=ϫ.Z a
 | .ty n,u=>u=ϫ.χ n
abbrev ś:Y V->Y ϫ->Prop:=ϋ ţ
theorem ś.N {F:Y V}(r:ś F us):F.N=us.N:=ϋ.N r
theorem ś.O4:∀{F:Y V}{us:Y ϫ}{i:B}{x:V},ś F us->F[i]?=O x->∃u,us[i]?=O u/\ţ x u
 | _,_,_,_,.ń,e=>by simp at e
 | _,_,0,_,.θ r _,e=>by simp at e;subst e;exact⟨_,rfl,r⟩
 | _,_,i+1,x,.θ _ t,e=>by
  obtain⟨u,g,ah⟩:=ś.O4 (i:=i) (x:=x) t (by simpa using e);exact⟨u,by simpa using g,ah⟩
theorem ś.mt {x:V}{u:ϫ}(r:ţ x u):∀{F:Y V}{us:Y ϫ}(i:B),ś F us->ś (F.mt i x) (us.mt i u)
 | _,_,_,.ń=>.ń
 | _,_,0,.θ _ t=>.θ r t
 | _,_,i+1,.θ q t=>.θ q (ś.mt r i t)
theorem ś.I4:∀{F ys:Y V}{us ws:Y ϫ},ś F us->ś ys ws->ś (F++ys) (us++ws)
 | _,_,_,_,.ń,s=>s
 | _,_,_,_,.θ r t,s=>.θ r (ś.I4 t s)
theorem ś.ĵ:∀{F:Y V}{us:Y ϫ}(n:B),ś F us->ś (F.ĵ n) (us.ĵ n)
 | _,_,0,_=>.ń
 | _,_,_+1,.ń=>.ń
 | _,_,n+1,.θ r t=>.θ r (ś.ĵ n t)
theorem ś.IR:∀{F:Y V}{us:Y ϫ}(n:B),ś F us->ś (F.IR n) (us.IR n)
 | _,_,0,r=>r
 | _,_,_+1,.ń=>.ń
 | _,_,n+1,.θ _ t=>ś.IR n t
def iu:ϣ V->ϣ ϫ->Prop
 | O v,O u=>ţ v u
 | none,none=>Tl
 | _,_=>Ō
def fp:Y (bE×V)->Y (bE×ϫ)->Prop:=ϋ λ(p:bE×V)(q:bE×ϫ)=>p.1=q.1/\ţ p.2 q.2
def bH:Ř->V
 | .ε i=>.M i
 | .Œ x=>.str x
inductive bb where
 | Ť (F:Y V)
 | Ţ (F:Y V)
 | bL (Ϝ:Y (Ř×V))|bQ (Ϝ:Y (Y Ř×V))
 | mt (S:G->δ) (n:B)
 | Â (Ϸ dx:Ϩ) (aJ:Y (ϕ×V))
 | HF (x:Ϩ)
 | m5 (aJ:Y (ϕ×V))
 | Hq (f x:Ϩ)
 | yr (lo aA:G)
 | cW (o:ğ) (u:bb)
 | f3 (ps:μ ϫ)
 | ext (nX:Θ->Prop)
abbrev ag:=Ϩ->ϣ bb
def ſ (H:ag)(a:Ϩ)(o:bb):ag:=λb=>if b=a then O o else H b
theorem aQ {H:ag}{o:bb}:ſ H a o a=O o:=by unfold ſ;rw[aS rfl]
theorem aE {H:ag}{b:Ϩ}{o:bb}(h:b≠a):ſ H a o b=H b:=by unfold ſ;rw[aD h]
theorem Bb {H:ag}{o u:bb}:ſ (ſ H a o) a u=ſ H a u:=by
 funext b;unfold ſ;split<;>rfl
theorem bM {H:ag}{b:Ϩ}{o u:bb}(h:H a=O o)(h':H b=O u)(ϻ:o≠u):a≠b:=by
 intro e;subst e;rw[h]at h';exact ϻ (ϣ.O.W1 h')
theorem cF {H:ag}{b:Ϩ}{o:bb}(h:H a=O o)(h':H b=none):a≠b:=by
 intro e;subst e;rw[h]at h';cases h'
section
variable (P:Program)(w:World)
def dG (H:ag)(h:Θ)(a:Ϩ):bb->Prop
 | .Ť F=>F.N<=ϓ/\∃(aL:Y ϫ)(n:B),ś F aL/\h.ϛ a=O { Ŝ:=.χ "list",Φ:=.XV aL.ϗ n }
 | .Ţ F=>F.N<=ϓ/\∃aL:Y ϫ,ś F aL/\alr h a aL.ϗ
 | .bL Ϝ=>Ϝ.N<=ϓ/\(a==Ŋ)=false/\∃d,fp Ϝ d/\h.im (e0 Ϯ w) a d
 | .bQ Ϝ=>Ϝ.N<=ϓ/\(a==Ŋ)=false/\∃F:Y (Y Ř×Ϩ×ϫ),
   ϋ (λ(p:Y Ř×V)(q:Y Ř×Ϩ×ϫ)=>p.1=q.1/\H q.2.1=O (.Ţ (p.1.ϒ bH))/\ţ p.2 q.2.2) Ϝ F/\
   ∃o C cw,h.ϛ a=O o/\o.amG/\o.Φ=.ï C cw/\C.Ω=F.ϒ (È (TW (e0 Ϯ w)))/\(F.ϒ (·.1)).Α
 | .mt S n=>h.SetOf (intKind Ϯ w) a S n
 | .Â Ϸ dx aJ=>H dx=O (.HF a)/\aJ.N<=1000/\dx≠a/\h.ϛ a=O (I7 Ϸ dx)/\
   ∃ej,h.Ns1 dx ej/\(∀f,iu (aJ.Ϣ f) (ej f))/\ϟ.alA ej (aJ.ϒ (·.1))
 | .HF _=>∃o,h.ϛ a=O o
 | .m5 aJ=>∃ej,h.Ns1 a ej/\∀f,iu (aJ.Ϣ f) (ej f)
 | .yr lo aA=>∃t u v,h.ϛ a=O { Ŝ:=.χ "range",Φ:=.Ž #[.M lo t,.M aA u,.M 1 v] }
 | .cW o u=>h.ϛ a=O o/\dG H h a u
 | .f3 ps=>h.ϛ a=O { Ŝ:=.none,Φ:=.Ž ps }
 | .Hq f x=>h.ϛ a=O (ϟ.W.amH (.Z f) (.Z x))
 | .ext nX=>nX h/\(∃o,h.ϛ a=O o)/\∀g ah:Θ,nX g->(∀o,g.ϛ a=O o->ah.ϛ a=O o)->nX ah
def ek (H:ag)(h:Θ):Prop:=∀a o,H a=O o->dG Ϯ w H h a o
end
section
variable {P:Program}{w:World}{H U:ag}{h h':Heap}{a:Addr}{o:bb}
theorem dG.lt (x:dG Ϯ w H h a o):a<h.Ϡ.Ϥ:=by
 cases o with
 | Ť F=>obtain⟨_,_,_,_,e⟩:=x;exact τ e
 | Ţ F=>obtain⟨_,_,_,p⟩:=x;exact p.lt
 | bL Ϝ=>obtain⟨_,_,_,_,o,_,_,e,_⟩:=x;exact τ e
 | bQ Ϝ=>obtain⟨_,_,_,_,o,_,_,e,_⟩:=x;exact τ e
 | mt S n=>obtain⟨o,_,_,_,e,_⟩:=x;exact τ e
 | Â Ϸ dx aJ=>obtain⟨_,_,_,e,_⟩:=x;exact τ e
 | HF y=>obtain⟨_,e⟩:=x;exact τ e
 | m5 aJ=>obtain⟨_,⟨_,_,_,e,_⟩,_⟩:=x;exact τ e
 | yr lo aA=>obtain⟨_,_,_,e⟩:=x;exact τ e
 | cW ob u=>obtain⟨e,_⟩:=x;exact τ e
 | f3 ps=>exact τ (show h.ϛ a=O _ from x)
 | Hq f y=>exact τ (show h.ϛ a=O _ from x)
 | ext nX=>obtain⟨_,⟨_,e⟩,_⟩:=x;exact τ e
theorem ϋ.gq {α β:Type}{ϴ ϳ:α->β->Prop}:∀{l₁:Y α}{l₂:Y β},ϋ ϴ l₁ l₂->(∀a b,ϴ a b->ϳ a b)->ϋ ϳ l₁ l₂
 | _,_,.ń,_=>.ń
 | _,_,.θ r t,f=>.θ (f _ _ r) (ϋ.gq t f)
theorem dG.gS (x:dG Ϯ w H h a o)(k:∀b u,(b=a\/H b=O (.HF a))->h.ϛ b=O u->h'.ϛ b=O u)(av:∀b,H b=O (.HF a)->U b=O (.HF a))(bk:∀b F,H b=O (.Ţ F)->U b=O (.Ţ F)):dG Ϯ w U h' a o:=by
 induction o with
 | Ť F=>obtain⟨z,aL,n,r,e⟩:=x;exact⟨z,aL,n,r,k _ _ (.ε rfl) e⟩
 | Ţ F=>obtain⟨z,aL,r,ob,e,c⟩:=x;exact⟨z,aL,r,ob,k _ _ (.ε rfl) e,c⟩
 | bL Ϝ=>obtain⟨z,y,d,r,ob,C,cw,e,c⟩:=x;exact⟨z,y,d,r,ob,C,cw,k _ _ (.ε rfl) e,c⟩
 | bQ Ϝ=>
  obtain⟨z,y,F,r,ob,C,cw,e,c⟩:=x;exact⟨z,y,F,ϋ.gq r λp q z=>⟨z.1,bk _ _ z.2.1,z.2.2⟩,ob,C,cw,k _ _ (.ε rfl) e,c⟩
 | mt S n=>obtain⟨ob,C,cw,t,e,c⟩:=x;exact⟨ob,C,cw,t,k _ _ (.ε rfl) e,c⟩
 | Â Ϸ dx aJ=>
  obtain⟨ϻ,z,ne,e,ej,⟨cO,C,cw,az,c⟩,r⟩:=x;exact⟨av _ ϻ,z,ne,k _ _ (.ε rfl) e,ej,⟨cO,C,cw,k _ _ (.Œ ϻ) az,c⟩,r⟩
 | HF y=>obtain⟨ob,e⟩:=x;exact⟨ob,k _ _ (.ε rfl) e⟩
 | m5 aJ=>obtain⟨ej,⟨cO,C,cw,e,c⟩,r⟩:=x;exact⟨ej,⟨cO,C,cw,k _ _ (.ε rfl) e,c⟩,r⟩
 | yr lo aA=>obtain⟨t,u,v,e⟩:=x;exact⟨t,u,v,k _ _ (.ε rfl) e⟩
 | cW ob u bB=>obtain⟨e,q⟩:=x;exact⟨k _ _ (.ε rfl) e,bB q⟩
 | f3 ps=>
  have e:h.ϛ a=O { Ŝ:=.none,Φ:=.Ž ps }:=x
  show h'.ϛ a=O { Ŝ:=.none,Φ:=.Ž ps }
  exact k a _ (.ε rfl) e
 | Hq f y=>
  have e:h.ϛ a=O (ϟ.W.amH (.Z f) (.Z y)):=x
  show h'.ϛ a=O (ϟ.W.amH (.Z f) (.Z y))
  exact k a _ (.ε rfl) e
 | ext nX=>obtain⟨p,⟨o,e⟩,E⟩:=x;exact⟨E _ _ p λo q=>k _ _ (.ε rfl) q,⟨o,k _ _ (.ε rfl) e⟩,E⟩
theorem ek.lt (x:ek Ϯ w H h)(e:H a=O o):a<h.Ϡ.Ϥ:=(x a o e).lt
theorem ek.Ĳ (x:ek Ϯ w H h)(e:h.Ϡ.Ϥ<=a):H a=none:=by
 cases q:H a with
 | none=>rfl
 | O u=>exact bJ (Δ (x.lt q) e) (B.ť _)
theorem ek.XL (x:ek Ϯ w H h)(k:∀b u,h.ϛ b=O u->h'.ϛ b=O u):ek Ϯ w H h':=λa o e=>
 (x a o e).gS (λb u _ q=>k b u q) (λ_ q=>q) λ_ _ q=>q
theorem ek.HV (x:ek Ϯ w H h)(k:∀b u,h.ϛ b=O u->h'.ϛ b=O u)(ay:h.Ϡ.Ϥ<=a)(OR:dG Ϯ w (ſ H a o) h' a o):ek Ϯ w (ſ H a o) h':=λb u e=>by
 have aF:=x.Ĳ ay
 by_cases af:b=a
 ·subst af;rw[aQ]at e;cases e;exact OR
 ·rw[aE af]at e;exact(x b u e).gS (λc v _ q=>k c v q) (λc q=>by rwa[aE (cF q aF)]) λc F q=>by rwa[aE (cF q aF)]
end
def lq (H:ag)(a:Ϩ)(u:bb):Prop:=H a=O u\/∃o,H a=O (.cW o u)
theorem lq.ok {H:ag}{h:Θ}{u:bb}(r:lq H a u)(x:ek Ϯ w H h):dG Ϯ w H h a u:=by
 rcases r with r|⟨o,r⟩
 ·exact x a u r
 ·obtain⟨_,q⟩:=x a _ r;exact q
def tZ:ϣ bb->Prop
 | O (.Ť _)=>Tl
 | O (.bL _)=>Tl
 | O (.bQ _)=>Tl
 | O (.mt _ _)=>Tl
 | O (.Â _ _ _)=>Tl
 | O (.ext _)=>Tl
 | _=>Ō
section
variable {P:Program}{w:World}{H:ag}{h h':Heap}{x e:Addr}{bR:bb}
theorem ek.OS (ok:ek Ϯ w H h)(gr:tZ (H x))(he:e=x\/H e=O (.HF x))(k:∀b u,b≠e->h.ϛ b=O u->h'.ϛ b=O u)(kx:∃u,h'.ϛ e=O u)(OR:dG Ϯ w (ſ H x bR) h' x bR):ek Ϯ w (ſ H x bR) h':=λb u q=>by
 have FN:∀c y,H c=O (.HF y)->c≠x:=λc y r z=>by subst z;rw[r]at gr;exact gr
 have ajX:∀c F,H c=O (.Ţ F)->c≠x:=λc F r z=>by subst z;rw[r]at gr;exact gr
 by_cases af:b=x
 ·subst af;rw[aQ]at q;cases q;exact OR
 ·rw[aE af]at q;by_cases qB:b=e
  ·have bC:H b=O (.HF x):=by
    rcases he with z|z
    ·exact bJ (qB.Ϛ z) af
    ·rwa[qB]
   rw[q]at bC;cases bC;obtain⟨v,aG⟩:=kx;exact⟨v,by rwa[qB]⟩
  ·refine(ok b u q).gS (λc v ak r=>k c v ?_ r) (λc r=>by rwa[aE (FN c b r)]) λc F r=>by rwa[aE (ajX c F r)]
   rcases ak with rfl|ak
   ·exact qB
   ·rintro rfl;rcases he with z|z
    ·exact FN c b ak z
    ·rw[ak]at z;cases z;exact af rfl
end
structure f5 (aJ ex:Y Ϩ)(H U:ag)(h h':Θ):Prop where
 ĭ:∀b o,h.ϛ b=O o->H b=none->b ∉ aJ->b ∉ ex->h'.ϛ b=O o
 If:∀b o,h.ϛ b=O o->H b=none->b∈aJ->b ∉ ex->∃a0,h'.ϛ b=O { o with ē:=a0 }
 Ź:∀b o,h.ϛ b=O o->H b=none->b ∉ ex->U b=none
 ĩ:∀b o,h.ϛ b=O o->b ∉ ex->∃bR,h'.ϛ b=O bR
 dh:∀b F,H b=O (.Ţ F)->U b=O (.Ţ F)
 gG:∀b o u,H b=O (.cW o u)->U b=O (.cW o u)
 iv:∀b ps,H b=O (.f3 ps)->∃IT,U b=O (.f3 (ps++IT))
section
variable {aJ fs' ex afL:List Addr}{H H1 aC:ag}{h ae ah h':Heap}{a x e:Addr}{o:bb}
theorem f5.J_ (u:f5 aJ ex H H1 h g){b:Ϩ}(q:h.ϛ b=O ob)(n:H b=none)(ai:b ∉ ex):∃a0,g.ϛ b=O { ob with ē:=a0 }:=by
 by_cases af:b∈aJ
 ·exact u.If b ob q n af ai
 ·exact⟨ob.ē,u.ĭ b ob q n af ai⟩
theorem f5.XL (k:∀b u,h.ϛ b=O u->h'.ϛ b=O u):f5 aJ ex H H h h':=
 ⟨λb ob q _ _ _=>k b ob q,λb ob q _ _ _=>⟨ob.ē,k b ob q⟩,λ_ _ _ n _=>n,λb ob q _=>⟨ob,k b ob q⟩,λ_ _ q=>q,λ_ _ _ q=>q,λ_ ps q=>⟨#[],by rw[q];simp⟩⟩
theorem f5.Ô:f5 aJ ex H H h h:=f5.XL λ_ _ q=>q
theorem f5.HV (k:∀b u,h.ϛ b=O u->h'.ϛ b=O u)(ay:h.Ϡ.Ϥ<=a)(aF:H a=none):f5 aJ ex H (ſ H a o) h h' where
 ĭ:=λb u q _ _ _=>k b u q
 If:=λb u q _ _ _=>⟨u.ē,k b u q⟩
 Ź:=λb u q n _=>by rwa[aE (Ι (Δ (τ q) ay))]
 ĩ:=λb u q _=>⟨u,k b u q⟩
 dh:=λb F q=>by rwa[aE (cF q aF)]
 gG:=λb u F q=>by rwa[aE (cF q aF)]
 iv:=λb ps q=>⟨#[],by rw[aE (cF q aF),q];simp⟩
theorem f5.OS (gr:tZ (H x))(he:e=x\/H e=O (.HF x))(k:∀b u,b≠e->h.ϛ b=O u->h'.ϛ b=O u)(kx:∃u,h'.ϛ e=O u):f5 aJ ex H (ſ H x o) h h':=by
 have ai:∀b,H b=none->b≠x:=λb n z=>by subst z;rw[n]at gr;exact gr
 have af:∀b,H b=none->b≠e:=λb n z=>by
  subst z;rcases he with r|r
  ·exact ai b n r
  ·rw[n]at r;cases r
 have hm:∀b u,H b=O u->¬tZ (O u)->b≠x:=λb u q nm z=>by subst z;rw[q]at gr;exact nm gr
 refine⟨λb u q n _ _=>k b u (af b n) q,λb u q n _ _=>⟨u.ē,k b u (af b n) q⟩,λb u q n _=>by rwa[aE (ai b n)],λb u q _=>?_,
  λb F q=>by rwa[aE (hm b _ q λz=>z)],λb u F q=>by rwa[aE (hm b _ q λz=>z)],λb ps q=>⟨#[],by rw[aE (hm b _ q λz=>z),q];simp⟩⟩
 by_cases qB:b=e
 ·subst qB;exact kx
 ·exact⟨u,k b u qB q⟩
end
def r6 (h:Θ)(H:ag):Y Ϩ:=(Ć h.Ϡ.Ϥ).ı λa=>(H a).Ĵ
def nY (h:Θ)(H:ag):Θ:=IP h (r6 h H)
theorem ajY (h:Θ)(H:ag):(nY h H).Ϡ.Ϥ=h.Ϡ.Ϥ:=ϟ.W.hideAll_size _ _
theorem FO {h:Θ}{H:ag}{b:Ϩ}{o:ğ}(e:h.ϛ b=O o)(n:H b=none):(nY h H).ϛ b=O o:=
 m_ _ e λhm=>by
  have q:(H b).Ĵ=true:=(ĥ.mp hm).2
  rw[n]at q;simp at q
theorem ajZ {h:Θ}{H:ag}{b:Ϩ}{o:ğ}(e:(nY h H).ϛ b=O o):h.ϛ b=O o/\H b=none:=by
 have bq:h.ϛ b=O o:=ϟ.W.ajG (r6 h H) e
 refine⟨bq,?_⟩;cases q:H b with
 | none=>rfl
 | O x=>
  have hm:b∈r6 h H:=ĥ.ļ ⟨ñ.ļ (τ bq),by simp[q]⟩
  have z:(nY h H).ϛ b=none:=ϟ.W.anb (r6 h H) hm
  rw[z]at e;cases e
def ako (Ϻ h:Θ)(ϲ:Ϩ):Y (Ϩ×ğ):=(Ć h.Ϡ.Ϥ).Ğ λa=>if a=ϲ\/(Ϻ.ϛ a).Ĵ=true then none else(h.ϛ a).ϒ λo=>(a,o)
def W_ (Ϻ h:Θ)(ϲ ϻ:Ϩ):Y (Ϩ×ğ):=(ako Ϻ h ϲ).ı λp=>decide (p.1≠ϻ)
structure Mod (K:ş)(mg:ϕ->ϣ ϫ)(ϊ:Θ):Prop where
 jf:K.In ϊ
 OG:ϊ.Ns Ļ mg
 blt:∃lr,ϊ.Ns aid lr/\∀x:ϕ,x≠"__name__"->lr x=æ x
 alk:ϊ.am2
structure Cx where
 ϔ:Č
 w:Þ
 K:ş
 mg:ϕ->ϣ ϫ
 ϊ:Θ
 Ϲ:ŕ
 ϰ:Y ϕ
 cf:ϐ
 dy:ag
 ό:OF
 Ϗ:Y OF
 ą:Y OF
 ex:Y Ϩ
 fn:ϕ->δ
 R_:δ
 ez:Y (Ϩ×ğ)
 c0:Bh
def eu (l:Y OF):Y Ϩ:=l.Ğ (·.or)
abbrev Cx.aJ (X:Cx):Y Ϩ:=eu X.Ϗ
def r7 (sc:IK)(x:ϕ):Prop:=sc.Λ.Ϣ x=O .local\/sc.Λ.Ϣ x=O .φ\/sc.Λ.Ϣ x=O .Ź
def Loc (sc:IK)(x:ϕ):Prop:=sc.Λ.Ϣ x=O .local\/sc.Λ.Ϣ x=O .φ
def Look (ό:OF)(h:Θ)(m:ϕ->ϣ ϫ)(x:ϕ)(u:ϫ):Prop:=
 (ό.ŀ x=O .local/\m x=O u)\/((ό.ŀ x=O .φ\/ό.ŀ x=O .Ź)/\∃c,ό.Ý.Ϣ x=O c/\h.anW c (O u))
structure Cx.Ok (X:Cx):Prop where
 Om:Mod X.K X.mg X.ϊ
 î:X.ό.Ϟ.î=.ā
 OG:X.ό.globals=Ļ
 blt:X.ό.builtins=aid
 IL:X.cf.P.Ϡ.Ϥ<=X.ό.í
 W1:∀x y c,X.ό.Ý.Ϣ x=O c->X.ό.Ý.Ϣ y=O c->x=y
 has:∀x,(X.ό.ŀ x=O .φ\/X.ό.ŀ x=O .Ź)->∃c,X.ό.Ý.Ϣ x=O c
 o6:∀x c,X.fn x=true->X.ό.Ý.Ϣ x=O c->X.cf.P.Ϡ.Ϥ<=c
 hd:X.R_=true->X.Ϲ.Ē=none
 ç:X.Ϲ.ç=O X.ą
 r8:X.ą=X.Ϗ\/(X.ą=X.ό::X.Ϗ/\X.ό.or=O X.ό.í)
 yt:∀b∈X.ex,b≠X.ό.í/\∀x c,X.ό.Ý.Ϣ x=O c->c≠b
 bs:∀b o,X.ϊ.ϛ b=O o->X.cf.P.ϛ b=O o/\X.dy b=none
 ky:X.ϊ.Ϡ.Ϥ<=X.cf.P.Ϡ.Ϥ
 qC:∀b o,X.ϊ.ϛ b=O o->b ∉ X.ex
 r9:∀b∈X.ex,b ∉ X.aJ
 hK:X.cf.P.ZB X.ϊ X.Ϗ
 kz:∀b∈X.aJ,X.dy b=none
structure Υ (X:Cx)(ϩ:Y (Ϩ×ğ))(J:Y (ϣ V))(H:ag)(s:ϐ):Prop where
 ok:X.Ok
 os:s.os=X.cf.os
 Rs:sw s.Ot
 ϊ:f5 X.aJ X.ex X.dy H X.cf.P s.P
 Bi:∃m,s.P.Ns X.ό.í m/\∀(i:B)(x:ϕ)(v:V),X.ϰ[i]?=O x->J[i]?=O (O v)->r7 X.ό.Ϟ x->∃u,ţ v u/\Look X.ό s.P m x u
 φ:∀x c,X.ό.Ý.Ϣ x=O c->∃v,s.P.anW c v
 Ź:H X.ό.í=none
 iw:∀x c,X.ό.Ý.Ϣ x=O c->H c=none
 ON:∀p∈X.ez++ϩ,s.P.ϛ p.1=O p.2/\H p.1=none/\p.1≠X.ό.í/\p.1 ∉ X.aJ/\∀v,p.2.Φ≠.φ v
 a9:ek X.ϔ X.w H s.P
 SC:J.N=X.ϰ.N
section
variable {X:Cx}{pins:List (Addr×Obj)}{J:List (Option V)}{H U:ag}{s:Shared}{h':Heap}
theorem Cx.Ok.akp (ok:X.Ok){b:Ϩ}{o:ğ}(e:X.ϊ.ϛ b=O o):b ∉ X.aJ:=λaf=>by
 have:=(ok.hK.OO af).1
 rw[e]at ν;cases ν
theorem Υ.bs (I:Υ X ϩ J H s):∀b o,X.ϊ.ϛ b=O o->s.P.ϛ b=O o/\H b=none:=λb o e=>
 ⟨I.ϊ.ĭ b o (I.ok.bs b o e).1 (I.ok.bs b o e).2 (I.ok.akp e) (I.ok.qC b o e),I.ϊ.Ź b o (I.ok.bs b o e).1 (I.ok.bs b o e).2 (I.ok.qC b o e)⟩
theorem Υ.bf (I:Υ X ϩ J H s):∀b o,X.ϊ.ϛ b=O o->s.P.ϛ b=O o:=λb o e=>(I.bs b o e).1
theorem Υ.Om (I:Υ X ϩ J H s):Mod X.K X.mg X.ϊ:=I.ok.Om
theorem Υ.en (I:Υ X ϩ J H s):X.K.In s.P:=I.ok.Om.jf.å I.bf
theorem Υ.fr (I:Υ X ϩ J H s):∃m,Fr X.ϊ X.ό.í s.P m:=
 let⟨m,aF,_⟩:=I.Bi
 ⟨m,aF,I.bf,B.Ķ I.ok.ky I.ok.IL⟩
theorem Υ.lt (I:Υ X ϩ J H s):X.ό.í<s.P.Ϡ.Ϥ:=let⟨_,aF,_⟩:=I.Bi;aF.lt
theorem Υ.fP (I:Υ X ϩ J H s):X.cf.P.Ϡ.Ϥ<=s.P.Ϡ.Ϥ:=B.Ķ I.ok.IL (B.aiM I.lt)
theorem Υ.yu (I:Υ X ϩ J H s)(h:s.P.Ϡ.Ϥ<=a):a ∉ X.aJ:=λaf=>by
 obtain⟨_,o,av,_⟩:=I.ok.hK.OO af;exact bJ (Δ (τ av) (B.Ķ I.fP h)) (B.ť _)
theorem Υ.o7 (I:Υ X ϩ J H s):∀x c,X.ό.Ý.Ϣ x=O c->c≠X.ό.í:=λx c e z=>by
 obtain⟨v,o,av,hd⟩:=I.φ x c e;obtain⟨m,⟨bR,C,cw,eA,qD,_⟩,_⟩:=I.Bi;rw[z,eA]at av;cases av;rw[qD]at hd;cases hd
theorem Υ.hK (I:Υ X ϩ J H s):s.P.ZB X.ϊ X.Ϗ:=by
 have IY:∀(l:Y OF),(∀b∈eu l,b∈X.aJ)->X.cf.P.ZB X.ϊ l->s.P.ZB X.ϊ l:=by
  intro l;induction l with
  | ń=>intro _ _;trivial
  | θ ό r bB=>
   intro aH aw;obtain⟨aq,⟨ϲ,o,hf,aF,av,hd⟩,aO⟩:=aw;have cY:ϲ∈X.aJ:=aH ϲ (by unfold eu;rw[ĉ,hf];exact ľ)
   obtain⟨a0,e⟩:=I.ϊ.If ϲ o av (I.ok.kz ϲ cY) cY λz=>I.ok.r9 ϲ z cY
   exact⟨aq,⟨ϲ,_,hf,aF,e,hd⟩,bB (λb af=>aH b (by unfold eu;rw[ĉ,hf];exact Η _ af)) aO⟩
 exact IY X.Ϗ (λ_ af=>af) I.ok.hK
theorem Υ.ą (I:Υ X ϩ J H s):s.P.ZB X.ϊ X.ą:=by
 rcases I.ok.r8 with e|⟨e,hf⟩
 ·rw[e];exact I.hK
 ·rw[e];obtain⟨m,aF,_⟩:=I.Bi;refine .θ (by rw[I.ok.î];decide) hf aF ?_ I.hK;exact Θ.h_ (B.Ķ I.ok.ky I.ok.IL)
theorem Υ.qE (I:Υ X ϩ J H s):∀b∈eu X.ą,b∈X.ό.í::X.aJ:=λb af=>by
 rcases I.ok.r8 with e|⟨e,hf⟩
 ·rw[e]at af;exact Η _ af
 ·rw[e]at af;unfold eu at af;rw[ĉ,hf]at af;exact af
theorem Υ.yv (I:Υ X ϩ J H s):∀b∈eu X.ą,H b=none:=λb af=>by
 rcases ς.mp (I.qE b af) with e|af
 ·rw[e];exact I.Ź
 ·obtain⟨_,o,av,_⟩:=I.ok.hK.OO af;exact I.ϊ.Ź b o av (I.ok.kz b af) λz=>I.ok.r9 b z af
theorem Υ.ę {d':Drawn}{ch:Y Ϩ}(I:Υ X ϩ J H s)(m6:∀b∈ch,(b∈X.ex\/X.cf.P.Ϡ.Ϥ<=b)/\b≠X.ό.í/\(∀x c,X.ό.Ý.Ϣ x=O c->c≠b)/\∀p∈X.ez++ϩ,p.1≠b)(ĭ:∀b o,b≠X.ό.í->b ∉ X.aJ->b ∉ ch->s.P.ϛ b=O o->H b=none->h'.ϛ b=O o)(If:∀b o,b≠X.ό.í->b∈X.aJ->b ∉ ch->s.P.ϛ b=O o->H b=none->∃a0,h'.ϛ b=O { o with ē:=a0 })(Ź:∀b o,b ∉ ch->s.P.ϛ b=O o->H b=none->U b=none)(ĩ:∀b o,b ∉ ch->s.P.ϛ b=O o->∃bR,h'.ϛ b=O bR)(dh:∀b F,H b=O (.Ţ F)->U b=O (.Ţ F))(gG:∀b o u,H b=O (.cW o u)->U b=O (.cW o u))(iv:∀b ps,H b=O (.f3 ps)->∃IT,U b=O (.f3 (ps++IT)))(ns:∀m,s.P.Ns X.ό.í m->h'.Ns X.ό.í m)(a9:ek X.ϔ X.w U h')(bF:sw g'):
  Υ X ϩ J U { s with P:=h',Ot:=g',als:=d',Χ:=t' }:=by
 have FP:∀b o,X.cf.P.ϛ b=O o->b≠X.ό.í:=λb o e=>Ι (Δ (τ e) I.ok.IL)
 have yw:∀b o,X.cf.P.ϛ b=O o->b ∉ X.ex->b ∉ ch:=λb o e ai af=>by
  rcases (m6 b af).1 with z|z
  ·exact ai z
  ·exact bJ (Δ (τ e) z) (B.ť _)
 have anB:∀x c,X.ό.Ý.Ϣ x=O c->∀v,s.P.anW c v->h'.anW c v:=λx c e v ⟨o,av,hd⟩=>by
  have o8:c ∉ ch:=λz=>(m6 c z).2.2.1 x c e rfl
  by_cases ak:c∈X.aJ
  ·obtain⟨a0,q⟩:=If c o (I.o7 x c e) ak o8 av (I.iw x c e);exact⟨_,q,hd⟩
  ·exact⟨o,ĭ c o (I.o7 x c e) ak o8 av (I.iw x c e),hd⟩
 refine⟨I.ok,I.os,bF,⟨λb o e n af ai=>?_,λb o e n af ai=>?_,λb o e n ai=>?_,λb o e ai=>?_,λb F e=>dh b F (I.ϊ.dh b F e),λb o F e=>gG b o F (I.ϊ.gG b o F e),λb ps e=>?_⟩,?_,λx c e=>?_,?_,λx c e=>?_,λp ay=>?_,a9,I.SC⟩
 ·exact ĭ b o (FP b o e) af (yw b o e ai) (I.ϊ.ĭ b o e n af ai) (I.ϊ.Ź b o e n ai)
 ·obtain⟨a0,au⟩:=I.ϊ.If b o e n af ai;obtain⟨kA,az⟩:=If b _ (FP b o e) af (yw b o e ai) au (I.ϊ.Ź b o e n ai);exact⟨kA,az⟩
 ·obtain⟨bR,au⟩:=I.ϊ.ĩ b o e ai;exact Ź b bR (yw b o e ai) au (I.ϊ.Ź b o e n ai)
 ·obtain⟨bR,au⟩:=I.ϊ.ĩ b o e ai;exact ĩ b bR (yw b o e ai) au
 ·obtain⟨dH,au⟩:=I.ϊ.iv b ps e;obtain⟨di,az⟩:=iv b _ au;exact⟨dH++di,by rw[az,μ.aij]⟩
 ·obtain⟨m,aF,aw⟩:=I.Bi;refine⟨m,ns m aF,λi x v au az bY=>?_⟩;obtain⟨u,r,l⟩:=aw i x v au az bY;refine⟨u,r,?_⟩;rcases l with l|⟨k,c,e,z⟩
  ·exact .ε l
  ·exact .Œ ⟨k,c,e,anB x c e _ z⟩
 ·obtain⟨v,z⟩:=I.φ x c e;exact⟨v,anB x c e v z⟩
 ·obtain⟨m,⟨o,_,_,av,_⟩,_⟩:=I.Bi;exact Ź _ o (λz=>(m6 _ z).2.1 rfl) av I.Ź
 ·obtain⟨v,o,av,hd⟩:=I.φ x c e;exact Ź c o (λz=>(m6 c z).2.2.1 x c e rfl) av (I.iw x c e)
 ·obtain⟨e,n,ne,cB,ϻ⟩:=I.ON p ay;have o8:p.1 ∉ ch:=λz=>(m6 p.1 z).2.2.2 p ay rfl
  exact⟨ĭ p.1 p.2 ne cB o8 e n,Ź p.1 p.2 o8 e n,ne,cB,ϻ⟩
theorem Υ.un (I:Υ X ϩ J H s)(u:f5 X.aJ [] H U s.P h')(a9:ek X.ϔ X.w U h'):Υ X ϩ J U { s with P:=h',Χ:=t' }:=by
 obtain⟨m,⟨o,C,cw,av,r⟩,_⟩:=id I.Bi;obtain⟨a0,cY⟩:=u.J_ av I.Ź (by simp);exact I.ę (g':=s.Ot) (d':=s.als) (ch:=[]) nofun (λb o _ af _ e n=>u.ĭ b o e n af (by simp)) (λb o _ af _ e n=>u.If b o e n af (by simp)) (λb o _ e n=>u.Ź b o e n (by simp)) (λb o _ e=>u.ĩ b o e (by simp)) u.dh u.gG u.iv (λba hm=>by
  obtain⟨bR,ec,o9,eA,cG⟩:=hm;rw[av]at eA;cases eA;exact⟨_,ec,o9,cY,cG⟩) a9 I.Rs
theorem Υ.WP {d':Drawn}{ch:Y Ϩ}(I:Υ X ϩ J H s)(u:f5 (eu X.ą) ch H U s.P h')(a9:ek X.ϔ X.w U h')(bF:sw g')(m6:∀b∈ch,(b∈X.ex\/X.cf.P.Ϡ.Ϥ<=b)/\b≠X.ό.í/\(∀x c,X.ό.Ý.Ϣ x=O c->c≠b)/\∀p∈X.ez++ϩ,p.1≠b):
  Υ X ϩ J U { s with P:=h',Ot:=g',als:=d',Χ:=t' }:=by
 obtain⟨m,⟨o,C,cw,av,r⟩,_⟩:=id I.Bi;obtain⟨a0,cY⟩:=u.J_ av I.Ź λz=>(m6 _ z).2.1 rfl
 exact I.ę (ch:=ch) m6 (λb o cY af ak e n=>u.ĭ b o e n (λz=>(ς.mp (I.qE b z)).Ę cY af) ak) (λb o _ _ ak e n=>u.J_ e n ak) (λb o ak e n=>u.Ź b o e n ak) (λb o ak e=>u.ĩ b o e ak) u.dh u.gG u.iv (λba hm=>by
  obtain⟨bR,ec,o9,eA,cG⟩:=hm;rw[av]at eA;cases eA;exact⟨_,ec,o9,cY,cG⟩) a9 bF
theorem Υ.Á (I:Υ X ϩ J H s)(k:∀b o,b≠it->s.P.ϛ b=O o->h'.ϛ b=O o)(aF:H it=none)(cY:it≠X.ό.í)(g:it∈X.ex\/X.cf.P.Ϡ.Ϥ<=it)(ah:∀x c,X.ό.Ý.Ϣ x=O c->c≠it)(aI:∀p∈X.ez++ϩ,p.1≠it):Υ X ϩ J H { s with P:=h',Χ:=t' }:=by
 have FQ:∀b u,H b=O u->b≠it:=λb u e z=>by rw[z,aF]at e;cases e
 refine I.ę (g':=s.Ot) (d':=s.als) (ch:=[it]) (λb af=>?_) (λb o _ _ ak e _=>k b o (λz=>ak (by simp[z])) e) (λb o _ _ ak e _=>⟨o.ē,k b o (λz=>ak (by simp[z])) e⟩) (λ_ _ _ _ n=>n)
  (λb o ak e=>⟨o,k b o (λz=>ak (by simp[z])) e⟩) (λ_ _ e=>e) (λ_ _ _ e=>e) (λb ps e=>⟨#[],by rw[e];simp⟩) (λm hm=>?_) (λb u e=>?_) I.Rs
 ·have e:b=it:=by simpa using af
  subst e;exact⟨g,cY,ah,aI⟩
 ·obtain⟨o,C,cw,av,r⟩:=hm;exact⟨o,C,cw,k _ o (Ne.symm cY) av,r⟩
 ·refine(I.a9 b u e).gS (λc v ak q=>k c v ?_ q) (λ_ q=>q) λ_ _ q=>q;rcases ak with z|z
  ·rw[z];exact FQ b u e
  ·exact FQ c _ z
theorem Υ.bn (I:Υ X ϩ J H s)(t:B):Υ X ϩ J H { s with Χ:=t }:=I.un (h':=s.P) (t':=t) f5.Ô I.a9
theorem Υ.XL (I:Υ X ϩ J H s)(k:∀b u,s.P.ϛ b=O u->h'.ϛ b=O u):Υ X ϩ J H { s with P:=h',Χ:=t' }:=I.un (f5.XL k) (I.a9.XL k)
theorem Υ.HV {o:bb}(I:Υ X ϩ J H s)(k:∀b u,s.P.ϛ b=O u->h'.ϛ b=O u)(ay:s.P.Ϡ.Ϥ<=a)(OR:dG X.ϔ X.w (ſ H a o) h' a o):
  Υ X ϩ J (ſ H a o) { s with P:=h',Χ:=t' }:=I.un (f5.HV k ay (I.a9.Ĳ ay)) (I.a9.HV k ay OR)
theorem Υ.OS {x e:Ϩ}{o:bb}(I:Υ X ϩ J H s)(gr:tZ (H x))(he:e=x\/H e=O (.HF x))(k:∀b u,b≠e->s.P.ϛ b=O u->h'.ϛ b=O u)(kx:∃u,h'.ϛ e=O u)(OR:dG X.ϔ X.w (ſ H x o) h' x o):Υ X ϩ J (ſ H x o) { s with P:=h',Χ:=t' }:=I.un (f5.OS gr he k kx) (I.a9.OS gr he k kx OR)
theorem Υ.weak {a7:Y (ϣ V)}(I:Υ X ϩ J H s)(aw:a7.N=J.N)(w:∀(i:B) v,a7[i]?=O (O v)->J[i]?=O (O v)):Υ X ϩ a7 H s:=
 ⟨I.ok,I.os,I.Rs,I.ϊ,let⟨m,aF,FR⟩:=I.Bi;⟨m,aF,λi x v au az bY=>FR i x v au (w i v az) bY⟩,I.φ,I.Ź,I.iw,I.ON,I.a9,aw.Ϛ I.SC⟩
def OV (X:Cx):Prop:=X.R_=true\/∃(a6 Ϸ:Ϩ)(dx:ϣ Ϩ)(d:μ ϫ)(a0:μ (ϣ ϫ)),X.Ϲ.Ē=O (.Z a6)/\d[2]?=O ϫ.none/\(a6,(⟨.Z Ϸ,dx,.Ž d,a0⟩:ğ))∈X.ez
theorem c8 {X:Cx}(h:X.R_=true):OV X:=.ε h
theorem Υ.R_ (I:Υ X ϩ J H s)(c:OV X):fo X.Ϲ s.P:=by
 rcases c with c|⟨a6,Ϸ,dx,d,a0,g,ah,aI⟩
 ·exact .ε (I.ok.hd c)
 ·exact .Œ ⟨a6,Ϸ,dx,d,a0,g,(I.ON _ (ŭ _ aI)).1,ah⟩
theorem Υ.t2 {pa:Y (Ϩ×ğ)}(I:Υ X ϩ J H s)(h:∀p∈pa,s.P.ϛ p.1=O p.2/\H p.1=none/\p.1≠X.ό.í/\p.1 ∉ X.aJ/\∀v,p.2.Φ≠.φ v):Υ X pa J H s:=
 ⟨I.ok,I.os,I.Rs,I.ϊ,I.Bi,I.φ,I.Ź,I.iw,λp ay=>(κ.mp ay).Ę (λz=>I.ON p (ŭ _ z)) (h p),I.a9,I.SC⟩
theorem FT (cA:ϰ.Α)(a:ϰ[i]?=O x)(b:ϰ[j]?=O x):i=j:=by
 obtain⟨g,au⟩:=Y.Ϧ.mp a;obtain⟨ah,az⟩:=Y.Ϧ.mp b;exact(Y.getElem_inj cA).mp (au.Ϛ az.symm)
theorem FU {v:V}{Q:O7->ϐ->Prop}(I:Υ X ϩ J H s)(cA:X.ϰ.Α)(aA:X.ϰ[i]?=O x)(ai:Loc X.ό.Ϟ x)(r:ţ v u)(h:∀s',Υ X ϩ (J.mt i (O v)) H s'->(∃a,Θ.N_ a s.P s'.P/\(a=X.ό.í\/X.ό.Ý.Ϣ x=O a))->Q () s')(hf:Ϫ (X.fn x=true\/X.ό.Ϟ.Λ.Ϣ x=O .local) dD._auto_1):ϙ ϱ Ϲ (amI X.ό x u) Q ϵ s:=by
 obtain⟨m,aF,aw⟩:=id I.Bi;have akq:(X.ό.Ϟ.î==.class||(X.ό.Ϟ.î==.module&&X.ό.í != X.ό.globals))=false:=by rw[I.ok.î];rfl
 have FV:i<J.N:=by rw[I.SC];exact(Y.Ϧ.mp aA).1
 have o7:=I.o7
 have tracked:∀{a:Ϩ}{h':Θ},(∃o,s.P.ϛ a=O o/\H a=none)->Θ.N_ a s.P h'->ek X.ϔ X.w H h':=λ{a h'} aN aH b ob e=>by
  obtain⟨_,_,FW⟩:=aN;refine(I.a9 b ob e).gS (λc eS ak q=>(aH.2 c ?_).Ϛ q) (λ_ q=>q) λ_ _ q=>q;rintro rfl;rcases ak with rfl|ak
  ·rw[FW]at e;cases e
  ·rw[FW]at ak;cases ak
 rcases ai with aq|aq
 ·refine wpAny_storeName_local aq aF (λh' Bc aH=>?_) akq;obtain⟨akr,_,_,t4,_⟩:=id aF;refine h _ ⟨I.ok,I.os,I.Rs,⟨λb o e n af ai=>?_,λb o e n af ai=>?_,I.ϊ.Ź,λb o e ai=>?_,I.ϊ.dh,I.ϊ.gG,I.ϊ.iv⟩,⟨_,Bc,λj y eT au az bY=>?_⟩,λy c e=>?_,I.Ź,I.iw,λp ay=>?_,tracked ⟨akr,t4,I.Ź⟩ aH,by simpa using I.SC⟩ ⟨_,aH,.ε rfl⟩
  ·exact(aH.2 b (Ι (Δ (τ e) I.ok.IL))).Ϛ (I.ϊ.ĭ b o e n af ai)
  ·obtain⟨a0,au⟩:=I.ϊ.If b o e n af ai;exact⟨a0,(aH.2 b (Ι (Δ (τ e) I.ok.IL))).Ϛ au⟩
  ·obtain⟨bR,au⟩:=I.ϊ.ĩ b o e ai;exact⟨bR,(aH.2 b (Ι (Δ (τ e) I.ok.IL))).Ϛ au⟩
  ·by_cases bg:j=i
   ·subst bg;rw[aA]at au;cases au;rw[Y.akf FV]at az;cases az;exact⟨u,r,.ε ⟨aq,by simp⟩⟩
   ·rw[Y.aiv (Ne.symm bg)]at az;obtain⟨l6,cG,q⟩:=aw j y eT au az bY;refine⟨l6,cG,?_⟩;rcases q with⟨k,e⟩|⟨k,c,e,z⟩
    ·refine .ε ⟨k,?_⟩;have:y≠x:=λe=>bg (FT cA au (e ▸ aA))
     simp[ν,e]
    ·exact .Œ ⟨k,c,e,z.aj0 aH (o7 y c e)⟩
  ·obtain⟨eS,z⟩:=I.φ y c e;exact⟨eS,z.aj0 aH (o7 y c e)⟩
  ·obtain⟨e,n,ne,cB,ϻ⟩:=I.ON p ay;exact⟨(aH.2 p.1 ne).Ϛ e,n,ne,cB,ϻ⟩
 ·have qF:X.fn x=true:=by
   rcases hf with z|z
   ·exact z
   ·rw[z]at aq;cases aq
  obtain⟨c,ak⟩:=I.ok.has x (.ε aq);obtain⟨eS,z⟩:=I.φ x c ak;refine wpAny_storeName_cell I.ok.î aq ak z (λh' hL aH=>?_);obtain⟨dI,kB,ae_⟩:=id z;refine h { s with P:=h' } ⟨I.ok,I.os,I.Rs,⟨λb o e n af ai=>?_,λb o e n af ai=>?_,I.ϊ.Ź,λb o e ai=>?_,I.ϊ.dh,I.ϊ.gG,I.ϊ.iv⟩,⟨m,aF.aj0 aH (Ne.symm (o7 x c ak)),λj y eT au az bY=>?_⟩,λy aX e=>?_,I.Ź,I.iw,λp ay=>?_,tracked ⟨dI,kB,I.iw x c ak⟩ aH,by simpa using I.SC⟩ ⟨c,aH,.Œ ak⟩
  ·exact(aH.2 b (Ι (Δ (τ e) (I.ok.o6 x c qF ak)))).Ϛ (I.ϊ.ĭ b o e n af ai)
  ·obtain⟨a0,au⟩:=I.ϊ.If b o e n af ai;exact⟨a0,(aH.2 b (Ι (Δ (τ e) (I.ok.o6 x c qF ak)))).Ϛ au⟩
  ·obtain⟨bR,au⟩:=I.ϊ.ĩ b o e ai;exact⟨bR,(aH.2 b (Ι (Δ (τ e) (I.ok.o6 x c qF ak)))).Ϛ au⟩
  ·by_cases bg:j=i
   ·subst bg;rw[aA]at au;cases au;rw[Y.akf FV]at az;cases az;exact⟨u,r,.Œ ⟨.ε aq,c,ak,hL⟩⟩
   ·rw[Y.aiv (Ne.symm bg)]at az;obtain⟨l6,cG,q⟩:=aw j y eT au az bY;refine⟨l6,cG,?_⟩;rcases q with q|⟨k,aX,e,gT⟩
    ·exact .ε q
    ·refine .Œ ⟨k,aX,e,gT.aj0 aH ?_⟩;rintro rfl;exact bg (FT cA au (I.ok.W1 _ _ _ e ak ▸ aA))
  ·by_cases FX:aX=c
   ·subst FX;exact⟨_,hL⟩
   ·obtain⟨l7,da⟩:=I.φ y aX e;exact⟨l7,da.aj0 aH FX⟩
  ·obtain⟨e,n,ne,cB,ϻ⟩:=I.ON p ay;refine⟨(aH.2 p.1 ?_).Ϛ e,n,ne,cB,ϻ⟩;intro q;rw[q,kB]at e;have bC:dI=p.2:=ϣ.O.W1 e
   exact ϻ eS (by rwa[<- bC])
theorem yx {v:V}{Q:O7->ϐ->Prop}(I:Υ X ϩ J H s)(cA:X.ϰ.Α)(aA:X.ϰ[i]?=O x)(ai:Loc X.ό.Ϟ x)(r:ţ v u)(h:∀s',Υ X ϩ (J.mt i (O v)) H s'->Q () s')(hf:Ϫ (X.fn x=true\/X.ό.Ϟ.Λ.Ϣ x=O .local) dD._auto_1):ϙ ϱ Ϲ (amI X.ό x u) Q ϵ s:=
 FU I cA aA ai r (λs' eU _=>h s' eU) hf
theorem Υ.FY {ch:Y Ϩ}(I:Υ X ϩ J H s)(av:s'.os=s.os)(u:f5 (eu X.ą) ch H U s.P s'.P)(a9:ek X.ϔ X.w U s'.P)(bF:sw s'.Ot)(m6:∀b∈ch,(b∈X.ex\/X.cf.P.Ϡ.Ϥ<=b)/\b≠X.ό.í/\(∀x c,X.ό.Ý.Ϣ x=O c->c≠b)/\∀p∈X.ez++ϩ,p.1≠b):Υ X ϩ J U s':=by
 obtain⟨h',g',d',t',bR⟩:=s';have e:bR=s.os:=av
 subst e;exact I.WP (g':=g') (t':=t') (d':=d') u a9 bF m6
end
abbrev bz:=ϫ->ϣ Ϩ->ag->Prop
abbrev St:=Y (ϣ V)
abbrev a8:=V->ag->Prop
abbrev TE:=St->ag->a8->Prop
abbrev TT:=St->ag->(δ->ag->Prop)->Prop
abbrev du:=St->ag->(Y V->ag->Prop)->Prop
structure OH where
 aP:St->ag->Prop
 iR:a8
 bf:St->ag->Prop:=λ_ _=>Ō
 cb:St->ag->Prop:=λ_ _=>Ō
abbrev dn:=OH->St->ag->Prop
def gs (X:Cx)(ϩ:Y (Ϩ×ğ))(J:St)(Q:a8)(u:ϫ)(s':ϐ):Prop:=∃v U,Υ X ϩ J U s'/\ţ v u/\Q v U
def yy (X:Cx)(ϩ:Y (Ϩ×ğ))(J:St)(Q:δ->ag->Prop)(b:δ)(s':ϐ):Prop:=∃U,Υ X ϩ J U s'/\Q b U
def FZ (X:Cx)(ϩ:Y (Ϩ×ğ))(J:St)(Q:Y V->ag->Prop)(us:Y ϫ)(s':ϐ):Prop:=∃d U,Υ X ϩ J U s'/\ś d us/\Q d U
def iS (X:Cx)(ϩ:Y (Ϩ×ğ))(϶:OH)(f:Flow)(s':ϐ):Prop:=
 match f with
 | .next=>∃a7 U,Υ X ϩ a7 U s'/\϶.aP a7 U
 | .Pa=>∃a7 U,Υ X ϩ a7 U s'/\϶.bf a7 U
 | .Ou=>∃a7 U,Υ X ϩ a7 U s'/\϶.cb a7 U
 | .b8 u=>∃v a7 U,Υ X ϩ a7 U s'/\ţ v u/\϶.iR v U
def PE (X:Cx)(e:Ġ)(t:TE):Prop:=
 ∀(ϩ:Y (Ϩ×ğ))(s:ϐ)(J:St)(H:ag)(Q:a8),Υ X ϩ J H s->t J H Q->ϙ (ώ X.ϔ X.w) X.Ϲ (ŗ e X.ό) (gs X ϩ J Q) X.c0 s
def iT (X:Cx)(e:Ġ)(t:TT):Prop:=
 ∀(ϩ:Y (Ϩ×ğ))(s:ϐ)(J:St)(H:ag)(Q:δ->ag->Prop),Υ X ϩ J H s->t J H Q->ϙ (ώ X.ϔ X.w) X.Ϲ (alB e X.ό (ŗ e X.ό)) (yy X ϩ J Q) X.c0 s
def e9 (X:Cx)(e:Ġ)(t:TT):Prop:=
 ∀(alt:Sem ϫ)(ϩ:Y (Ϩ×ğ))(s:ϐ)(J:St)(H:ag)(Q:δ->ag->Prop),Υ X ϩ J H s->t J H Q->ϙ (ώ X.ϔ X.w) X.Ϲ (alB e X.ό alt) (yy X ϩ J Q) X.c0 s
theorem e9.pt {X:Cx}{t:TT}(h:e9 X e t):iT X e t:=h _
def PA (X:Cx)(C:Y Ġ)(t:du):Prop:=
 ∀(ŷ:Ox)(ϩ:Y (Ϩ×ğ))(s:ϐ)(J:St)(H:ag)(Q:Y V->ag->Prop),Υ X ϩ J H s->t J H Q->ϙ (ώ X.ϔ X.w) X.Ϲ (spliced (ĕ ŷ (ω C X.ό))) (FZ X ϩ J Q) X.c0 s
def PS (X:Cx)(E:Τ)(t:dn):Prop:=
 ∀(ϩ:Y (Ϩ×ğ))(s:ϐ)(J:St)(H:ag)(϶:OH),Υ X ϩ J H s->t ϶ J H->ϙ (ώ X.ϔ X.w) X.Ϲ (exec E X.ό) (iS X ϩ ϶) X.c0 s
def Bf (X:Cx)(E:Y Τ)(t:dn):Prop:=
 ∀(ϩ:Y (Ϩ×ğ))(s:ϐ)(J:St)(H:ag)(϶:OH),Υ X ϩ J H s->t ϶ J H->ϙ (ώ X.ϔ X.w) X.Ϲ (execs E X.ό) (iS X ϩ ϶) X.c0 s
theorem bA {t:Sem α}{Q jK:α->ϐ->Prop}(h:ϙ ϱ Ϲ t Q ϵ s)(d6:∀a s,Q a s->jK a s):ϙ ϱ Ϲ t jK ϵ s:=ů h d6 λ_ _ x=>x
section
variable {X:Cx}
def t5 (i:B):TE:=λJ H Q=>∃v,J[i]?=O (O v)/\Q v H
def tC (v:V):TE:=λ_ H Q=>Q v H
theorem F0 {ŷ:Ox}(cA:X.ϰ[i]?=O x)(aG:r7 X.ό.Ϟ x)(hd:Ϫ ((x==("__debug__":ϕ))=false) dB._auto_1)(e1:Ϫ ((x==("__classdict__":ϕ))=false) dB._auto_1):PE X (.ĸ x ŷ) (t5 i):=by
 intro ϩ s J H Q I h;obtain⟨v,e,h⟩:=h;obtain⟨m,aF,aw⟩:=I.Bi;obtain⟨u,r,l⟩:=aw i x v cA e aG;have d_:gs X ϩ J Q u s:=⟨v,H,I,r,h⟩
 rcases l with⟨aq,hm⟩|⟨aq,c,ak,yz⟩
 ·exact alM (ai5 I.ok.î aq aF hm d_) hd
 ·rcases aq with aq|aq
  ·exact alM (ajh I.ok.î aq ak yz d_) hd
  ·exact alM (wpAny_loadName_free I.ok.î aq ak yz d_ e1) hd
theorem aV {i j ŷ}:PE X (.aiN (.M i) j ŷ) (tC (.M i)):=λ_ _ _ H _ I h=>wpAny_Constant_int ⟨.M i,H,I.bn _,⟨_,rfl⟩,h⟩
theorem lu {b j ŷ}:PE X (.aiN (.Ã b) j ŷ) (tC (.bl b)):=λ_ _ _ H _ I h=>Constant_bool ⟨.bl b,H,I,rfl,h⟩
theorem hM {j ŷ}:PE X (.aiN .none j ŷ) (tC .br):=λ_ _ _ H _ I h=>Constant_none ⟨.br,H,I,rfl,h⟩
theorem v6 {x j ŷ}:PE X (.aiN (.str x) j ŷ) (tC (.str x)):=λ_ _ _ H _ I h=>ê.Constant_str ⟨.str x,H,I.bn _,⟨_,rfl⟩,h⟩
def fb (X:Cx)(x:ϕ):Prop:=X.ό.ŀ x=O .A_
theorem pb {J:St}{H:ag}{ŷ:Ox}(I:Υ X ϩ J H s)(bF:fb X x)(hm:X.mg x=O u)(h:Q u s)(hd:Ϫ ((x==("__debug__":ϕ))=false) dB._auto_1):ϙ (ώ X.ϔ X.w) X.Ϲ (ŗ (.ĸ x ŷ) X.ό) Q ϵ s:=
 ê.ai6 I.ok.î bF (ê.loadGlobal_global (by rw[I.ok.OG];exact I.Om.OG.å I.bf) hm h) hd
theorem iU {J:St}{H:ag}{ŷ:Ox}(I:Υ X ϩ J H s)(bF:fb X x)(hm:X.mg x=none)(aG:æ x=O u)(h:Q u s)(aF:Ϫ (x≠"__name__") dB._auto_1)(hd:Ϫ ((x==("__debug__":ϕ))=false) dB._auto_1):ϙ (ώ X.ϔ X.w) X.Ϲ (ŗ (.ĸ x ŷ) X.ό) Q ϵ s:=by
 obtain⟨lr,g,ah⟩:=I.Om.blt;exact ê.ai6 I.ok.î bF (ê.loadGlobal_builtin (by rw[I.ok.OG];exact I.Om.OG.å I.bf) hm (by rw[I.ok.blt];exact g.å I.bf) ((ah x aF).Ϛ aG) h) hd
theorem yA {v:V}{ŷ:Ox}(bF:fb X x)(hm:X.mg x=O u)(r:ţ v u)(hd:Ϫ ((x==("__debug__":ϕ))=false) dB._auto_1):PE X (.ĸ x ŷ) (tC v):=
 λ_ _ _ H _ I h=>pb I bF hm ⟨v,H,I,r,h⟩ hd
theorem akP {v:V}{ŷ:Ox}(bF:fb X x)(hm:X.mg x=none)(aG:æ x=O u)(r:ţ v u)(aF:Ϫ (x≠"__name__") dB._auto_1)(hd:Ϫ ((x==("__debug__":ϕ))=false) dB._auto_1):PE X (.ĸ x ŷ) (tC v):=
 λ_ _ _ H _ I h=>iU I bF hm aG ⟨v,H,I,r,h⟩ aF hd
variable {a b:Expr}{bo a4:TE}{pos:Pos}
def yB (X:Cx)(op:amB)(a b:Ġ)(t:TE):Prop:=
 ∀(ϩ:Y (Ϩ×ğ))(s:ϐ)(J:St)(H:ag)(Q:a8),Υ X ϩ J H s->t J H Q->
  ϙ (ώ X.ϔ X.w) X.Ϲ (ŗ a X.ό) (λv eg=>ϙ (ώ X.ϔ X.w) X.Ϲ (ŗ b X.ό) (λu iV=>ϙ (ώ X.ϔ X.w) X.Ϲ (ų op v u) (gs X ϩ J Q) X.c0 iV) X.c0 eg) X.c0 s
theorem aiF (b:Ġ)(h:op≠.In)(ah:op≠.amC):þ op b=false:=by
 have au:(op==amB.In)=false:=by cases op<;>first|rfl|exact bJ rfl h
 have az:(op==amB.amC)=false:=by cases op<;>first|rfl|exact bJ rfl ah
 cases b<;>simp[þ,au,az]
def tB (t:TE):TT:=λJ H Q=>t J H λx H1=>∃c,x=.bl c/\Q c H1
theorem akQ {t:TE}(h:yB X op a b t)(g:Ϫ (þ op b=false) dF._auto_1):PE X (.I8 a [op] [b] ŷ) t:=λϩ s J H Q I hw=>alY (h ϩ s J H Q I hw) g
theorem sa {t:TE}(h:yB X op a b t)(g:Ϫ (þ op b=false) dF._auto_1):iT X (.I8 a [op] [b] ŷ) (tB t):=by
 intro ϩ s J H Q I hw;refine aiz (bA (h ϩ s J H _ I hw) λv s1 g=>bA g λu s2 ah=>bA ah λc s3 ⟨x,H1,aK,bG,a3⟩=>?_) g;obtain⟨ϻ,rfl,q⟩:=a3;cases bG;exact Ū ⟨H1,aK,q⟩
theorem e2 {t:TE}(h:PE X e t)(he:∀alt,alB e X.ό alt=(do let v <- alt;ss e.ŷ;Î [v] (truthy v)):=by intro _;rfl):iT X e (tB t):=by
 intro ϩ s J H Q I hw;refine anc (bA (h ϩ s J H _ I hw) λv s1 ⟨x,H1,aK,bG,a3⟩=>?_) (he _);obtain⟨ϻ,rfl,q⟩:=a3;cases bG;exact Ū ⟨H1,aK,q⟩
variable {lx yC:TT}{rest:List Expr}
def akR (t u:TT):TT:=λJ H Q=>t J H λc H1=>if c=true then u J H1 Q else Q false H1
def tOr (t u:TT):TT:=λJ H Q=>t J H λc H1=>if c=true then Q true H1 else u J H1 Q
def akS (t:TT):TT:=λJ H Q=>t J H λc H1=>Q (!c) H1
theorem kb (aN:iT X a lx):e9 X (.IU .And [a] ŷ) lx:=by
 intro qG ϩ s J H Q I h;refine isTrue_and (bA (aN ϩ s J H Q I h) λc s1 e=>?_);cases c with
 | true=>exact isTrue_and_nil e
 | false=>exact e
theorem m7 (aN:iT X a lx):e9 X (.IU .Or [a] ŷ) lx:=by
 intro qG ϩ s J H Q I h;refine isTrue_or (bA (aN ϩ s J H Q I h) λc s1 e=>?_);cases c with
 | false=>exact isTrue_or_nil e
 | true=>exact e
theorem jL (aN:iT X a lx)(af:e9 X (.IU .And (b::W_) ŷ) yC):e9 X (.IU .And (a::b::W_) ŷ) (akR lx yC):=by
 intro qG ϩ s J H Q I h;refine isTrue_and (bA (aN ϩ s J H _ I h) λc s1 ⟨H1,aK,a3⟩=>?_);cases c with
 | true=>exact af qG ϩ s1 J H1 Q aK a3
 | false=>exact⟨H1,aK,a3⟩
theorem m8 (aN:iT X a lx)(af:e9 X (.IU .Or (b::W_) ŷ) yC):e9 X (.IU .Or (a::b::W_) ŷ) (tOr lx yC):=by
 intro qG ϩ s J H Q I h;refine isTrue_or (bA (aN ϩ s J H _ I h) λc s1 ⟨H1,aK,a3⟩=>?_);cases c with
 | true=>exact⟨H1,aK,a3⟩
 | false=>exact af qG ϩ s1 J H1 Q aK a3
theorem gH (aN:iT X a lx):iT X (.aj1 .Not a ŷ) (akS lx):=by
 intro ϩ s J H Q I h;exact isTrue_not (aN ϩ s J H (λc H1=>Q (!c) H1) I h)
def zvp (bo a4:TE):TE:=λJ H Q=>bo J H λx H1=>∃c,x=.bl c/\if c=true then a4 J H1 Q else Q (.bl false) H1
def ak3 (bo a4:TE):TE:=λJ H Q=>bo J H λx H1=>∃c,x=.bl c/\if c=true then Q (.bl true) H1 else a4 J H1 Q
def ztm (bo:TE):TE:=λJ H Q=>bo J H λx H1=>∃c,x=.bl c/\Q (.bl (!c)) H1
theorem m9 {op}{t:TE}(h:PE X a t):PE X (.IU op [a] ŷ) t:=λϩ s J H Q I hw=>BoolOp_one (h ϩ s J H Q I hw)
theorem pd (aN:PE X a bo)(af:PE X (.IU .And (b::W_) ŷ) a4):PE X (.IU .And (a::b::W_) ŷ) (zvp bo a4):=by
 intro ϩ s J H Q I h;refine BoolOp_and (bA (aN ϩ s J H _ I h) λv s1 ⟨x,H1,aK,bG,a3⟩=>?_);obtain⟨c,rfl,a3⟩:=a3;cases bG;refine Ū ?_;cases c with
 | true=>exact af ϩ s1 J H1 Q aK a3
 | false=>exact⟨.bl false,H1,aK,rfl,a3⟩
theorem F1 (aN:PE X a bo)(af:PE X (.IU .Or (b::W_) ŷ) a4):PE X (.IU .Or (a::b::W_) ŷ) (ak3 bo a4):=by
 intro ϩ s J H Q I h;refine BoolOp_or (bA (aN ϩ s J H _ I h) λv s1 ⟨x,H1,aK,bG,a3⟩=>?_);obtain⟨c,rfl,a3⟩:=a3;cases bG;refine Ū ?_;cases c with
 | false=>exact af ϩ s1 J H1 Q aK a3
 | true=>exact⟨.bl true,H1,aK,rfl,a3⟩
theorem ak4 (aN:PE X a bo):PE X (.aj1 .Not a ŷ) (ztm bo):=by
 intro ϩ s J H Q I h;refine UnaryOp_ (bA (aN ϩ s J H _ I h) λv s1 ⟨x,H1,aK,bG,a3⟩=>?_);obtain⟨c,rfl,a3⟩:=a3;cases bG;exact not_of (Ū ⟨.bl (!c),H1,aK,rfl,a3⟩)
def tIf (t:TT)(bo a4:TE):TE:=λJ H Q=>t J H λc H1=>if c=true then bo J H1 Q else a4 J H1 Q
theorem pe {c:Ġ}(ak:iT X c lx)(aN:PE X a bo)(af:PE X b a4):PE X (.IfExp c a b ŷ) (tIf lx bo a4):=by
 intro ϩ s J H Q I h;refine wpAny_IfExp (bA (ak ϩ s J H _ I h) λϻ s1 ⟨H1,aK,a3⟩=>?_);cases ϻ with
 | true=>exact aN ϩ s1 J H1 Q aK a3
 | false=>exact af ϩ s1 J H1 Q aK a3
end
def aM (K:ş)(H:ag)(a:Ϩ)(F:Y V):Prop:=
 lq H a (.Ť F)\/
  ∃(o:ğ)(aL:μ ϫ)(n:B),K.Ϣ a=O o/\o.Ŝ=.χ "list"/\o.ï=none/\o.Φ=.XV aL n/\aL.Ϥ<=ϓ/\ś F aL.Ω
def bN (K:ş)(H:ag)(a:Ϩ)(F:Y V):Prop:=
 lq H a (.Ţ F)\/
  ∃(o:ğ)(aL:μ ϫ)(n:B),K.Ϣ a=O o/\o.Ŝ=.χ "tuple"/\o.Φ=.XV aL n/\aL.Ϥ<=ϓ/\ś F aL.Ω
def ak5:ϫ->ϣ V
 | .none=>O .br
 | .Ã b=>O (.bl b)
 | .M i _=>O (.M i)
 | .str x _=>O (.str x)
 | .bytes b _=>O (.ka b)
 | .float b _=>O (.qA b)
 | .Z a=>O (.Z a)
 | .χ n=>O (.ty n)
 | _=>none
theorem ţ.abs {x:V}(r:ţ x u):ak5 u=O x:=by
 cases x with
 | br=>cases r;rfl
 | bl _=>cases r;rfl
 | M _=>obtain⟨t,rfl⟩:=r;rfl
 | str _=>obtain⟨t,rfl⟩:=r;rfl
 | ka _=>obtain⟨t,rfl⟩:=r;rfl
 | qA _=>obtain⟨t,rfl⟩:=r;rfl
 | Z _=>cases r;rfl
 | ty _=>cases r;rfl
theorem ţ.W1 {x y:V}(r:ţ x u)(q:ţ y u):x=y:=ϣ.O.W1 (r.abs.symm.Ϛ q.abs)
theorem ś.W1 {F ys:Y V}(h:ś F us):ś ys us->F=ys:=by
 induction h generalizing ys with
 | ń=>intro k;cases k;rfl
 | θ r t bB=>intro k;cases k with|θ cG t'=>rw[r.W1 cG,bB t']
section
variable {X:Cx}{pins:List (Addr×Obj)}{J:St}{H:ag}{s:Shared}{a:Addr}{xs ys:List V}
theorem aM.of (h:H a=O (.Ť F)):aM K H a F:=.ε (.ε h)
theorem bN.of (h:H a=O (.Ţ F)):bN K H a F:=.ε (.ε h)
theorem Υ.ö (I:Υ X ϩ J H s)(h:aM X.K H a F):∃aL:Y ϫ,ś F aL/\PlainL s.P a aL.ϗ/\F.N<=ϓ:=by
 rcases h with h|⟨o,aL,n,aq,ak,hd,aH,hz,r⟩
 ·obtain⟨z,aL,n,r,e⟩:=h.ok I.a9;exact⟨aL,r,⟨_,n,e,rfl,rfl,rfl⟩,z⟩
 ·refine⟨aL.Ω,r,⟨o,n,I.en a o aq,ak,hd,by simpa using aH⟩,?_⟩;have e:=r.N
  simp only[μ.H_]at e;omega
theorem Υ.B_ (I:Υ X ϩ J H s)(h:bN X.K H a F):∃aL:Y ϫ,ś F aL/\alr s.P a aL.ϗ/\F.N<=ϓ:=by
 rcases h with h|⟨o,aL,n,aq,ak,aH,hz,r⟩
 ·obtain⟨z,aL,r,p⟩:=h.ok I.a9;exact⟨aL,r,p,z⟩
 ·refine⟨aL.Ω,r,⟨o,I.en a o aq,ak,n,by simpa using aH⟩,?_⟩;have e:=r.N
  simp only[μ.H_]at e;omega
theorem Υ.t6 (I:Υ X ϩ J H s)(h:aM X.K H a F)(h':aM X.K H a ys):F=ys:=by
 obtain⟨aL,r,⟨o,n,e,_,_,ϻ⟩,_⟩:=I.ö h;obtain⟨OI,cG,⟨bR,gI,bq,_,_,d'⟩,_⟩:=I.ö h';rw[e]at bq;cases bq;rw[ϻ]at d';injection d' with d4 _
 have:aL=OI:=by simpa using ż μ.Ω d4
 subst ν;exact r.W1 cG
theorem Υ.ak6 (I:Υ X ϩ J H s)(h:bN X.K H a F)(h':bN X.K H a ys):F=ys:=by
 obtain⟨aL,r,⟨o,e,_,n,ϻ⟩,_⟩:=I.B_ h;obtain⟨OI,cG,⟨bR,bq,_,gI,d'⟩,_⟩:=I.B_ h';rw[e]at bq;cases bq;rw[ϻ]at d';injection d' with d4 _
 have:aL=OI:=by simpa using ż μ.Ω d4
 subst ν;exact r.W1 cG
end
abbrev Cx.O0 (X:Cx)(ϵ:Bh):Cx:={ X with c0:=ϵ }
abbrev Cx.nox (X:Cx):Cx:=X.O0 λ_ _=>Ō
theorem Cx.Ok.O0 {X:Cx}(ok:X.Ok)(ϵ:Bh):(X.O0 ϵ).Ok:=
 ⟨ok.Om,ok.î,ok.OG,ok.blt,ok.IL,ok.W1,ok.has,ok.o6,ok.hd,ok.ç,ok.r8,ok.yt,ok.bs,ok.ky,ok.qC,ok.r9,ok.hK,ok.kz⟩
theorem Cx.Ok.pf {X:Cx}(ok:(X.O0 ϵ).Ok):X.Ok:=
 ⟨ok.Om,ok.î,ok.OG,ok.blt,ok.IL,ok.W1,ok.has,ok.o6,ok.hd,ok.ç,ok.r8,ok.yt,ok.bs,ok.ky,ok.qC,ok.r9,ok.hK,ok.kz⟩
section
variable {X:Cx}{pins:List (Addr×Obj)}{J:St}{H:ag}{s:Shared}{E:wvP}
theorem Υ.O0 (I:Υ X ϩ J H s)(ϵ:Bh):Υ (X.O0 ϵ) ϩ J H s:=⟨I.ok.O0 ϵ,I.os,I.Rs,I.ϊ,I.Bi,I.φ,I.Ź,I.iw,I.ON,I.a9,I.SC⟩
theorem Υ.pf (I:Υ (X.O0 ϵ) ϩ J H s):Υ X ϩ J H s:=⟨I.ok.pf,I.os,I.Rs,I.ϊ,I.Bi,I.φ,I.Ź,I.iw,I.ON,I.a9,I.SC⟩
theorem iS.pf {϶:OH}{f:Flow}(h:iS (X.O0 ϵ) ϩ ϶ f s'):iS X ϩ ϶ f s':=by
 cases f with
 | next=>obtain⟨a7,U,I,q⟩:=h;exact⟨a7,U,I.pf,q⟩
 | Pa=>obtain⟨a7,U,I,q⟩:=h;exact⟨a7,U,I.pf,q⟩
 | Ou=>obtain⟨a7,U,I,q⟩:=h;exact⟨a7,U,I.pf,q⟩
 | b8 u=>obtain⟨v,a7,U,I,r,q⟩:=h;exact⟨v,a7,U,I.pf,r,q⟩
theorem Bf.nox {E:Y Τ}{t:dn}(h:Bf X.nox E t):Bf X E t:=λϩ s J H ϶ I hw=>
 ů (h ϩ s J H ϶ (I.O0 _) hw) (λ_ _ q=>q.pf) λ_ _ z=>Ō.Ę z
end
section
variable {X:Cx}{st:Stmt}{rest:List Stmt}{t u:dn}{e:Expr}{bT:TE}{pos:Pos}
def ztg:dn:=λ϶ J H=>϶.aP J H
def Bg (t u:dn):dn:=λ϶ J H=>t { ϶ with aP:=u ϶ } J H
theorem c4:Bf X [] ztg:=λ_ _ J H _ I h=>GE ⟨J,H,I,h⟩
theorem aY (g:PS X E t)(ah:Bf X W_ u):Bf X (E::W_) (Bg t u):=by
 intro ϩ s J H ϶ I h;refine t_ (bA (g ϩ s J H { ϶ with aP:=u ϶ } I h) λf s1 q=>?_);cases f with
 | next=>
  obtain⟨a7,U,eU,q⟩:=q;exact ah ϩ s1 a7 U ϶ eU q
 | b8 v=>exact q
 | Pa=>exact q
 | Ou=>exact q
theorem aT (g:PS X E t):Bf X [E] t:=by
 intro ϩ s J H ϶ I h;refine t_ (bA (g ϩ s J H ϶ I h) λf s1 q=>?_);cases f with
 | next=>exact GE q
 | b8 v=>exact q
 | Pa=>exact q
 | Ou=>exact q
theorem Υ.quiet {J:St}{H:ag}(I:Υ X ϩ J H s):interactive X.ό=false:=by simp[interactive,I.ok.î]
def alg (bT:TE):dn:=λ϶ J H=>bT J H λ_ H1=>϶.aP J H1
theorem fg (he:PE X e bT)(aH:Ϫ (wn e none ŷ.cr X.ό=Ă false) dA._auto_1):PS X (.Ġ e ŷ) (alg bT):=by
 intro ϩ s J H ϶ I h;exact wpAny_Expr_any (bA (he ϩ s J H _ I h) λv s1 ⟨x,H1,aK,bG,a3⟩=>⟨J,H1,aK,a3⟩) I.quiet aH
def alh (bT:TE):dn:=λ϶ J H=>bT J H ϶.iR
theorem zx (he:PE X e bT):PS X (.Return (O e) ŷ) (alh bT):=by
 intro ϩ s J H ϶ I h;exact akg (bA (he ϩ s J H _ I h) λv s1 ⟨x,H1,aK,bG,a3⟩=>⟨x,J,H1,aK,bG,a3⟩)
def yD (c:TT)(t u:dn):dn:=λ϶ J H=>c J H λb H1=>if b=true then t ϶ J H1 else u ϶ J H1
theorem c1 {c:Ġ}{a b:Y Τ}{tc:TT}(ak:iT X c tc)(aN:Bf X a t)(af:Bf X b u):PS X (.af_ c a b ŷ) (yD tc t u):=by
 intro ϩ s J H ϶ I h;refine wpAny_If (bA (ak ϩ s J H _ I h) λϻ s1 ⟨H1,aK,a3⟩=>?_);cases ϻ with
 | true=>exact aN ϩ s1 J H1 ϶ aK a3
 | false=>exact af ϩ s1 J H1 ϶ aK a3
def ali:dn:=λ_ _ _=>Ō
theorem ly {alj:Y Τ}:Bf X alj ali:=λ_ _ _ _ _ _ h=>h.Ę
end
abbrev fq:=V->St->ag->(St->ag->Prop)->Prop
abbrev qH:=Y V->St->ag->(St->ag->Prop)->Prop
def PG (X:Cx)(aks:Ġ)(t:fq):Prop:=
 ∀(ϩ:Y (Ϩ×ğ))(s:ϐ)(J:St)(H:ag)(v:V)(u:ϫ)(Q:St->ag->Prop),Υ X ϩ J H s->ţ v u->t v J H Q->
  ϙ (ώ X.ϔ X.w) X.Ϲ (I3 aks X.ό u) (λ_ s'=>∃a7 U,Υ X ϩ a7 U s'/\Q a7 U) X.c0 s
def yE (X:Cx)(ts:Y Ġ)(t:qH):Prop:=
 ∀(ϩ:Y (Ϩ×ğ))(s:ϐ)(J:St)(H:ag)(d:Y V)(us:Y ϫ)(Q:St->ag->Prop),Υ X ϩ J H s->ś d us->t d J H Q->
  ϙ (ώ X.ϔ X.w) X.Ϲ (amg ((P3 ts X.ό).ϒ (·.2)) us) (λ_ s'=>∃a7 U,Υ X ϩ a7 U s'/\Q a7 U) X.c0 s
abbrev Bl:=V->V->V->ag->(ag->Prop)->Prop
def F2 (X:Cx)(t:Bl):Prop:=
 ∀(ϩ:Y (Ϩ×ğ))(s:ϐ)(J:St)(H:ag)(o i v:V)(dT h7 u:ϫ)(Q:ag->Prop),Υ X ϩ J H s->ţ o dT->ţ i h7->ţ v u->t o i v H Q->
  ϙ (ώ X.ϔ X.w) X.Ϲ (setItem dT h7 u) (λ_ s'=>∃U,Υ X ϩ J U s'/\Q U) X.c0 s
abbrev sb:=V->V->ag->a8->Prop
def t7 (X:Cx)(op:ahX)(t:sb):Prop:=
 ∀(ϩ:Y (Ϩ×ğ))(s:ϐ)(J:St)(H:ag)(x y:V)(v u:ϫ)(Q:a8),Υ X ϩ J H s->ţ x v->ţ y u->t x y H Q->
  ϙ (ώ X.ϔ X.w) X.Ϲ (amJ op v u) (gs X ϩ J Q) X.c0 s
section
variable {X:Cx}{pos:Pos}
def hN (i:B):fq:=λv J H Q=>Q (J.mt i (O v)) H
theorem gU (cA:X.ϰ.Α)(aA:X.ϰ[i]?=O x)(ai:Loc X.ό.Ϟ x)(hf:Ϫ (X.fn x=true\/X.ό.Ϟ.Λ.Ϣ x=O .local) dD._auto_1):PG X (.ĸ x ŷ) (hN i):=by
 intro ϩ s J H v u Q I r h;exact akh (yx I cA aA ai r (λs' eU=>⟨_,H,eU,h⟩) hf)
def sd:qH:=λd J H Q=>d=[]/\Q J H
def zgs (t:fq)(u:qH):qH:=λd J H Q=>∃v r,d=v::r/\t v J H λa7 U=>u r a7 U Q
theorem l8:yE X [] sd:=by
 intro ϩ s J H d us Q I r h;obtain⟨e,h⟩:=h;subst e;cases r;exact assignInOrder_nil ⟨J,H,I,h⟩
theorem gJ {t:fq}{u:qH}(g:PG X e t)(ah:yE X C u)(aH:Ϫ ((P3 (e::C) X.ό).ϒ (·.2)=I3 e X.ό::(P3 C X.ό).ϒ (·.2)) dA._auto_1):yE X (e::C) (zgs t u):=by
 intro ϩ s J H d us Q I r h;obtain⟨v,afM,au,h⟩:=h;subst au;cases r with
 | θ r g6=>
  rw[aH];refine assignInOrder_cons (bA (g ϩ s J H _ _ _ I r h) λ_ s1 ⟨se,H1,aK,a3⟩=>?_);exact ah ϩ s1 se H1 _ _ Q aK g6 a3
def sf (K:ş)(n:B)(t:qH):fq:=λv J H Q=>∃a F,v=.Z a/\bN K H a F/\F.N=n/\t F J H Q
theorem l9 {k:B}{t:qH}(ak:OV X)(h:yE X C t)(aF:Ϫ ((P3 C X.ό).N=n) dA._auto_1)(wE:Ϫ ((P3 C X.ό).findIdx? (·.1)=none) dA._auto_1):PG X (.w_ C k ŷ) (sf X.K n t):=by
 intro ϩ s J H v u Q I r hw;obtain⟨a,F,au,ao,aw,hw⟩:=hw;subst au;cases r;obtain⟨aL,ck,bk,hz⟩:=I.B_ ao;refine ajb (I.R_ ak) bk (by simp[aF,<- aw,ck.N]) wE λh' ai=>?_;have aK:Υ X ϩ J H { s with P:=h' }:=I.XL (t':=s.Χ) λb o e=>ai b o (Ι (τ e)) e
 exact h ϩ _ J H F _ Q aK (by simpa using ck) hw
def alp (to jM:TE)(t:Bl):fq:=λv J H Q=>to J H λo H1=>jM J H1 λi aC=>t o i v aC λbw=>Q J bw
theorem yF {o i:Ġ}{to jM:TE}{t:Bl}(av:PE X o to)(aA:PE X i jM)(aH:F2 X t)(aN:∀v,I3 (.M_ o i ŷ) X.ό v=(do
   let dT <- Î [v] (ŗ o X.ό)
   let h7 <- Î [v,dT] (ŗ i X.ό)
   ss ŷ
   Î [v,dT,h7] (setItem dT h7 v)
   release [v,dT,h7] []):=by intro _;rfl):PG X (.M_ o i ŷ) (alp to jM t):=by
 intro ϩ s J H v u Q I r h;rw[aN];refine ax (Ν (bA (av ϩ s J H _ I h) λdT s1 ⟨x,H1,aK,bG,a3⟩=>?_));refine ax (Ν (bA (aA ϩ s1 J H1 _ aK a3) λh7 s2 ⟨y,aC,bt,bW,b9⟩=>?_));refine ax (Æ (ax (Ν (bA (aH ϩ s2 J aC x y v dT h7 u _ bt bG bW r b9) λ_ s3 ⟨bw,dc,eV⟩=>?_))));exact wpAny_release ⟨J,bw,dc,eV⟩
def sh (bT:TE)(Ϻ:fq):dn:=λ϶ J H=>bT J H λx H1=>Ϻ x J H1 ϶.aP
theorem si {bT:TE}{Ϻ:fq}(he:PE X e bT)(bF:PG X c5 Ϻ)(aH:Ϫ (swapsWithSole [c5] e ŷ.cr X.ό=Ă false) dA._auto_1)(hw:Ϫ (swappedStores [c5] e X.ό=Ă none) dA._auto_1)(g:Ϫ ((P3 [c5] X.ό).ϒ (·.2)=[I3 c5 X.ό]) dA._auto_1):PS X (.ajC [c5] e ŷ) (sh bT Ϻ):=by
 intro ϩ s J H ϶ I h;refine wpAny_Assign_stores (bA (he ϩ s J H _ I h) λv s1 ⟨x,H1,aK,bG,a3⟩=>?_) aH hw;rw[g];exact bA (bF ϩ s1 J H1 x v _ aK bG a3) λ_ s2 q=>q
theorem alq {bT:TE}(cA:X.ϰ.Α)(aA:X.ϰ[i]?=O x)(ai:Loc X.ό.Ϟ x)(he:PE X e bT)(aH:Ϫ (wn e (O (.ĸ x OJ)) ŷ.cr X.ό=Ă false) dA._auto_1)(hf:Ϫ (X.fn x=true\/X.ό.Ϟ.Λ.Ϣ x=O .local) dD._auto_1):
  PS X (.ajC [.ĸ x OJ] e ŷ) (sh bT (hN i)):=by
 intro ϩ s J H ϶ I h;refine wpAny_Assign_Name (bA (he ϩ s J H _ I h) λv s1 ⟨y,H1,aK,bG,a3⟩=>?_) aH;exact yx aK cA aA ai bG (λs2 bt=>⟨_,H1,bt,a3⟩) hf
def t8 (i:B)(bT:TE)(jM:sb):dn:=λ϶ J H=>∃x,J[i]?=O (O x)/\bT J H λy H1=>jM x y H1 λz aC=>϶.aP (J.mt i (O z)) aC
theorem ama {bT:TE}{op:ahX}{jM:sb}(cA:X.ϰ.Α)(aA:X.ϰ[i]?=O x)(ai:Loc X.ό.Ϟ x)(he:PE X e bT)(av:t7 X op jM)(hf:Ϫ (X.fn x=true\/X.ό.Ϟ.Λ.Ϣ x=O .local) dD._auto_1):
  PS X (.akw (.ĸ x OJ) op e ŷ) (t8 i bT jM):=by
 intro ϩ s J H ϶ I h;obtain⟨v,au,h⟩:=h;obtain⟨m,aF,aw⟩:=I.Bi;have amb:r7 X.ό.Ϟ x:=by rcases ai with k|k;exact .ε k;exact .Œ (.ε k)
 obtain⟨u,r,l⟩:=aw i x v aA au amb;refine wpAny_AugAssign_Name ?_;have go:ϙ (ώ X.ϔ X.w) X.Ϲ (ŗ e X.ό) (λw iV=>ϙ (ώ X.ϔ X.w) X.Ϲ (amJ op u w) (λr jN=>ϙ (ώ X.ϔ X.w) X.Ϲ (amI X.ό x r) (λ_=>iS X ϩ ϶ .next) X.c0 jN) X.c0 iV) X.c0 s:=by
  refine bA (he ϩ s J H _ I h) λw s1 ⟨y,H1,aK,bG,a3⟩=>?_;refine bA (av ϩ s1 J H1 v y u w _ aK r bG a3) λz s2 ⟨ag_,aC,bt,bW,b9⟩=>?_;exact yx bt cA aA ai bW (λs3 dc=>⟨_,aC,dc,b9⟩) hf
 rcases l with⟨aq,hm⟩|⟨aq,c,ak,yz⟩
 ·exact ai5 I.ok.î aq aF hm go
 ·rcases aq with aq|aq
  ·exact ajh I.ok.î aq ak yz go
  ·rcases ai with k|k
   ·have:X.ό.Ϟ.Λ.Ϣ x=O .Ź:=aq
    rw[k]at ν;cases ν
   ·have:X.ό.Ϟ.Λ.Ϣ x=O .Ź:=aq
    rw[k]at ν;cases ν
def ipI (f:G->G->G):sb:=λx y H Q=>∃i j,x=.M i/\y=.M j/\Q (.M (f i j)) H
theorem F3:t7 X .Add (ipI λi j=>i+j):=by
 intro ϩ s J H x y v u Q I bG bW h;obtain⟨i,j,au,az,q⟩:=h;subst au;subst az;obtain⟨t,rfl⟩:=bG;obtain⟨t',rfl⟩:=bW;exact iadd_int ⟨.M _,H,I.bn _,⟨_,rfl⟩,q⟩
theorem amc:t7 X .Sub (ipI λi j=>i-j):=by
 intro ϩ s J H x y v u Q I bG bW h;obtain⟨i,j,au,az,q⟩:=h;subst au;subst az;obtain⟨t,rfl⟩:=bG;obtain⟨t',rfl⟩:=bW;exact isub_int ⟨.M _,H,I.bn _,⟨_,rfl⟩,q⟩
end
section
variable {X:Cx}{pos:Pos}
def amd (c:TT)(a4:dn):dn:=λ϶ J H=>∃W:B->St->ag->Prop,(∃m,W m J H)/\∀m J H,W m J H->
 c J H λb H1=>if b=true then ∃ϰ:St->ag->Prop,(∀a7 U,ϰ a7 U->∃ba,ba<m/\W ba a7 U)/\a4 { ϶ with aP:=ϰ,cb:=ϰ,bf:=϶.aP } J H1 else ϶.aP J H1
theorem sj {c:Ġ}{tc:TT}{a4:dn}(ay:Ų (ώ X.ϔ X.w) X.Ϲ X.ό X.c0)(ak:iT X c tc)(af:Bf X p_ a4):PS X (.While c p_ [] ŷ) (amd tc a4):=by
 intro ϩ s J H ϶ I h;obtain⟨W,⟨m0,d0⟩,O1⟩:=h;refine wpAny_While (codeAny_whileLoop (λn s'=>∃a7 U,Υ X ϩ a7 U s'/\W n a7 U) ?_ m0 ⟨J,H,I,d0⟩);rintro n s1 ⟨se,H1,aK,fQ⟩;refine Ð ay (bA (ak ϩ s1 se H1 _ aK (O1 n se H1 fQ)) λb s2 ⟨aC,bt,b9⟩=>?_);cases b with
 | true=>
  obtain⟨ϰ,cA,b9⟩:=b9;rw[aS rfl];refine Ð ay (bA (af ϩ s2 se aC _ bt b9) λf s3 eV=>?_);cases f with
  | next=>
   obtain⟨ma,bw,dc,h8⟩:=eV;obtain⟨ba,hm,qI⟩:=cA ma bw h8;exact⟨ba,hm,ma,bw,dc,qI⟩
  | Ou=>
   obtain⟨ma,bw,dc,h8⟩:=eV;obtain⟨ba,hm,qI⟩:=cA ma bw h8;exact⟨ba,hm,ma,bw,dc,qI⟩
  | Pa=>exact eV
  | b8 v=>exact eV
 | false=>
  rw[aD δ.γ];exact GE ⟨se,aC,bt,b9⟩
end
structure g7 where
 go:B->ag->Prop
 fR:B->ag->V->ag->Prop
 stop:B->ag->Prop
def jO (X:Cx)(ϩ:Y (Ϩ×ğ))(H:ag)(b:Ϩ):Prop:=
 H b=none/\b≠X.ό.í/\b ∉ X.aJ/\(b∈X.ex\/X.cf.P.Ϡ.Ϥ<=b)/\(∀x c,X.ό.Ý.Ϣ x=O c->c≠b)/\∀p∈X.ez++ϩ,p.1≠b
theorem Υ.mb {X:Cx}{J:St}{H U:ag}{b:Ϩ}(I:Υ X ϩ J H s)(af:s.P.Ϡ.Ϥ<=b)(aF:U b=none):jO X ϩ U b:=by
 refine⟨aF,À (Δ I.lt af),I.yu af,.Œ (B.Ķ I.fP af),λx c e z=>?_,λp ay z=>?_⟩
 ·obtain⟨v,q⟩:=I.φ x c e;exact bJ (Δ q.lt (by rwa[z])) (B.ť _)
 ·exact bJ (Δ (τ (I.ON p ay).1) (by rwa[z])) (B.ť _)
structure Bm (Ϯ:Č)(w:Þ)(K:ş)(c5:Ġ)(cD:g7)(cH:Y Ϩ)(it:Ϩ)(tn:B->Θ->Prop):Prop where
 OO:it∈cH
 Oy:∀i h,tn i h->∀b∈cH,∃o,h.ϛ b=O o/\∀v,o.Φ≠.φ v
 ĭ:∀i h h',tn i h->(∀b∈cH,∀o,h.ϛ b=O o->h'.ϛ b=O o)->tn i h'
 Ov:∀(X:Cx),X.ϔ=Ϯ->X.w=w->X.K=K->OV X->∀(i:B)(ϩ:Y (Ϩ×ğ))(s:ϐ)(J:St)(H:ag)(ϵ:Bh),Υ X ϩ J H s->(∀b∈cH,jO X ϩ H b)->tn i s.P->cD.go i H->
  ϙ (ώ Ϯ w) X.Ϲ (Ħ (.Z it)) (λr s1=>∃u,r=O u/\
   ϙ (ώ Ϯ w) X.Ϲ (Go c5 (.Z it) u) (λ_ s2=>∃x U,Υ X ϩ J U s2/\ţ x u/\cD.fR i H x U/\tn (i+1) s2.P/\∀b∈cH,U b=none) ϵ s1) ϵ s
 done:∀(X:Cx),X.ϔ=Ϯ->X.w=w->X.K=K->OV X->∀(i:B)(ϩ:Y (Ϩ×ğ))(s:ϐ)(J:St)(H:ag)(ϵ:Bh),Υ X ϩ J H s->(∀b∈cH,jO X ϩ H b)->tn i s.P->cD.stop i H->
  ϙ (ώ Ϯ w) X.Ϲ (Ħ (.Z it)) (λr s1=>r=none/\Υ X ϩ J H s1) ϵ s
 self:∀(Ϲ:ŕ)(i:B)(s:ϐ)(Q:Bh)(ϵ:Bh),tn i s.P->Q (.Z it) s->ϙ (ώ Ϯ w) Ϲ (anX (.Z it)) Q ϵ s
abbrev TI:=St->ag->(g7->ag->Prop)->Prop
def Bn (X:Cx)(ϩ:Y (Ϩ×ğ))(J:St)(c5:Ġ)(R:g7->ag->Prop)(yG:ϫ)(s2:ϐ):Prop:=
 ∃(it:Ϩ)(cH:Y Ϩ)(tn:B->Θ->Prop)(cD:g7)(U:ag),yG=.Z it/\Υ X ϩ J U s2/\Bm X.ϔ X.w X.K c5 cD cH it tn/\tn 0 s2.P/\(∀b∈cH,jO X ϩ U b)/\R cD U
def PI (X:Cx)(c5 Ow:Ġ)(g8:TI):Prop:=
 ∀(ϩ:Y (Ϩ×ğ))(s:ϐ)(J:St)(H:ag)(R:g7->ag->Prop),Υ X ϩ J H s->g8 J H R->
  ϙ (ώ X.ϔ X.w) X.Ϲ (ŗ Ow X.ό) (λv s1=>ϙ (ώ X.ϔ X.w) X.Ϲ (anX v) (Bn X ϩ J c5 R) X.c0 s1) X.c0 s
theorem sk {o:ğ}{n:è}{Q:O7->ϐ->Prop}(av:s.P.ϛ it=O o)(ak:o.Ŝ=.χ n)(hd:o.Φ=.Ž d)(aF:["enumerate","zip","dict_itemiterator","dict_reverseitemiterator","odict_iterator","itertools.zip_longest","itertools.pairwise"].Rh n=false)(d6:Q () s):ϙ ϱ Ϲ (Go c5 (.Z it) u) Q ϵ s:=by
 unfold Go;cases c5<;>first
  | exact bp d6
  | (cases u<;>first
    | exact bp d6
    | (
      refine ax (aic av ?_);rw[ak,hd];show ϙ ϱ Ϲ (if (["enumerate","zip","dict_itemiterator","dict_reverseitemiterator","odict_iterator","itertools.zip_longest","itertools.pairwise"].Rh n&&d[0]?==O (đ _))=true then _ else _) Q ϵ s
      rw[aD (by intro h;rw[aF,δ.akx]at h;cases h)];exact bp d6))
def mc (K:ş)(a:Ϩ):g7:=
 ⟨λi H=>∃F x,aM K H a F/\F[i]?=O x,λi H x U=>U=H/\∀F,aM K H a F->F[i]?=O x,λi H=>∃F,aM K H a F/\F.N<=i⟩
def lz (lo:G)(n:B):g7:=⟨λi _=>i<n,λi H x U=>U=H/\x=.M (lo+i),λi _=>n<=i⟩
theorem ame (a it:Ϩ):Bm Ϯ w K c5 (mc K a) [it] it (λi h=>h.É it a i) where
 OO:=by simp
 Oy:=λi h E b af=>by
  have e:b=it:=by simpa using af
  subst e;obtain⟨o,e,c,ϻ⟩:=E;exact⟨o,e,λv z=>by rw[ϻ]at z;cases z⟩
 ĭ:=λi h h' E k=>E.at λo e=>k it (by simp) o e
 Ov:=by
  intro X dk hw c9 ak i ϩ s J H ϵ I hf E bF;subst dk hw c9;obtain⟨F,x,ao,ai⟩:=bF;obtain⟨aL,ck,p,hz⟩:=I.ö ao;obtain⟨u,bK,fh⟩:=ck.O4 ai;obtain⟨f0,f1,f2,dv,f4,dP⟩:=hf it (by simp);refine U_ E p.Ń (x:=u) (by simpa using bK) λh' f6 kC=>?_;have aK:Υ X ϩ J H { s with P:=h' }:=I.Á (t':=s.Χ) (λb o af e=>(kC.2 b af).Ϛ e) f0 f1 dv f4 dP
  obtain⟨o,e,c,ϻ⟩:=id f6;exact⟨u,rfl,sk (s:={ s with P:=h' }) e c ϻ ∅ ⟨x,H,aK,fh,⟨rfl,λys aU=>by rwa[I.t6 aU ao]⟩,f6,λb af=>(hf b af).1⟩⟩
 done:=by
  intro X dk hw c9 ak i ϩ s J H ϵ I hf E bF;subst dk hw c9;obtain⟨F,ao,ai⟩:=bF;obtain⟨aL,ck,p,hz⟩:=I.ö ao;obtain⟨f0,f1,f2,dv,f4,dP⟩:=hf it (by simp);have aw:=ck.N
  exact aiI (I.R_ ak) E p.Ń (by simp;omega) λh' eb=>⟨rfl,I.Á (t':=s.Χ) (λb o af e=>eb b o af e) f0 f1 dv f4 dP⟩
 self:=λ_ _ _ _ _ E h=>wpAny_pyIter_listiter E h
theorem amy (it:Ϩ)(lo:G)(n:B):Bm Ϯ w K c5 (lz lo n) [it] it (λi h=>aiR h it (lo+(i:B)*1) ((n:G)-(i:B)) 1) where
 OO:=by simp
 Oy:=λi h E b af=>by
  have e:b=it:=by simpa using af
  subst e;exact⟨_,E,λv z=>by
   have gT:Data.Ž _=Data.φ v:=z
   cases gT⟩
 ĭ:=λi h h' E k=>k it (by simp) _ E
 Ov:=by
  intro X dk hw c9 ak i ϩ s J H ϵ I hf E bF;subst dk hw c9;obtain⟨f0,f1,f2,dv,f4,dP⟩:=hf it (by simp);refine wpAny_pyNext_range_item E (by have:i<n:=bF;omega) λh' iW kC=>?_;have f6:aiR h' it (lo+((i+1:B):G)*1) ((n:G)-((i+1:B):G)) 1:=by
   rw[show lo+((i+1:B):G)*1=lo+(i:B)*1+1 by omega,show(n:G)-((i+1:B):G)=n-(i:B)-1 by omega];exact iW
  have aK:Υ X ϩ J H { s with P:=h',Χ:=s.Χ+1 }:=I.Á (λb o af e=>(kC.2 b af).Ϛ e) f0 f1 dv f4 dP
  refine⟨_,rfl,sk (s:={ s with P:=h',Χ:=s.Χ+1 }) (n:="range_iterator") f6 rfl rfl ∅ ⟨.M (lo+i),H,aK,⟨s.Χ,?_⟩,⟨rfl,rfl⟩,f6,λb af=>(hf b af).1⟩⟩;rw[G.b_]
 done:=by
  intro X dk hw c9 ak i ϩ s J H ϵ I hf E bF;subst dk hw c9;obtain⟨f0,f1,f2,dv,f4,dP⟩:=hf it (by simp);exact aiK (I.R_ ak) E (by have:n<=i:=bF;omega) λh' eb=>⟨rfl,I.Á (t':=s.Χ) (λb o af e=>eb b o af e) f0 f1 dv f4 dP⟩
 self:=λ_ _ _ _ _ E h=>wpAny_pyIter_rangeiter E h
section
variable {X:Cx}{c5:Expr}
def zvc (K:ş)(e3:TE):TI:=λJ H R=>e3 J H λx H1=>∃a,x=.Z a/\(∃F,aM K H1 a F)/\R (mc K a) H1
theorem gu {l:Ġ}{e3:TE}(aw:PE X l e3):PI X c5 l (zvc X.K e3):=by
 intro ϩ s J H R I h;refine bA (aw ϩ s J H _ I h) λv s1 ⟨x,H1,aK,bG,a3⟩=>?_;obtain⟨a,e,⟨F,ao⟩,q⟩:=a3;subst e;cases bG;obtain⟨aL,ck,p,hz⟩:=aK.ö ao;refine AC p.Ń ?_;refine⟨s1.P.Ϡ.Ϥ,[s1.P.Ϡ.Ϥ],_,_,H1,rfl,aK.XL (t':=s1.Χ) λb o e=>ϥ _ e,ame a _,⟨_,σ _ rfl,rfl,rfl⟩,λb af=>?_,q⟩;have e:b=s1.P.Ϡ.Ϥ:=by simpa using af
 subst e;exact aK.mb (B.ϑ _) (aK.a9.Ĳ (B.ϑ _))
theorem F4 {J:St}{H:ag}{R:g7->ag->Prop}{aA:G}{t u v:OE}(I:Υ X ϩ J H s)(g:-(2^62)<=lo)(ah:lo<2^62)(aI:-(2^62)<=aA)(bO:aA<2^62)(q:R (lz lo (aA-lo).Ο) H):ϙ (ώ X.ϔ X.w) X.Ϲ (anX (.Z s.P.Ϡ.Ϥ)) (Bn X ϩ J c5 R) ϵ { s with P:=s.P.Ũ { Ŝ:=.χ "range",Φ:=.Ž #[.M lo t,.M aA u,.M 1 v] },Χ:=tk }:=by
 refine wpAny_pyIter_range (IsRange.OR ..) (small_one g ah aI bO) ?_;have aK:Υ X ϩ J H { s with P:=s.P.Ũ { Ŝ:=.χ "range",Φ:=.Ž #[.M lo t,.M aA u,.M 1 v] },Χ:=tk }:=I.XL λb o e=>ϥ _ e
 refine⟨(s.P.Ũ { Ŝ:=.χ "range",Φ:=.Ž #[.M lo t,.M aA u,.M 1 v] }).Ϡ.Ϥ,[(s.P.Ũ { Ŝ:=.χ "range",Φ:=.Ž #[.M lo t,.M aA u,.M 1 v] }).Ϡ.Ϥ],_,_,H,rfl,
  aK.XL (t':=tk) λb o e=>ϥ _ e,amy _ lo (aA-lo).Ο,?_,λb af=>?_,q⟩
 ·have au:lo+((0:B):G)*1=lo:=by simp
  have az:(((aA-lo).Ο:B):G)-((0:B):G)=π.Range.rangeSize lo aA 1:=by rw[amh];split<;>omega
  show aiR _ _ (lo+((0:B):G)*1) ((((aA-lo).Ο:B):G)-((0:B):G)) 1
  rw[au,az];exact σ _ rfl
 ·have e:b=(s.P.Ũ { Ŝ:=.χ "range",Φ:=.Ž #[.M lo t,.M aA u,.M 1 v] }).Ϡ.Ϥ:=by simpa using af
  subst e;exact aK.mb (B.ϑ _) (aK.a9.Ĳ (B.ϑ _))
def zsa (bo:du):TI:=λJ H R=>bo J H λd H1=>∃j:G,d=[.M j]/\-(2^62)<=j/\j<2^62/\R (lz 0 j.Ο) H1
def amz (bo:du):TI:=λJ H R=>bo J H λd H1=>∃i j:G,d=[.M i,.M j]/\(-(2^62)<=i/\i<2^62/\-(2^62)<=j/\j<2^62)/\R (lz i (j-i).Ο) H1
theorem nZ {a:Ġ}{bo:du}{p:Ox}(bF:fb X "range")(hm:X.mg "range"=none)(aN:PA X [a] bo)(aH:Ϫ (ω [a] X.ό=[(false,ŗ a X.ό)]) dA._auto_1):PI X c5 (.č (.ĸ "range" p) [a] [] ŷ) (zsa bo):=by
 intro ϩ s J H R I h;refine OA (iU I bF hm alN (Ĥ.KK.Į (bA (aN ŷ ϩ s J H _ I h) λus s1 ⟨d,H1,aK,bG,a3⟩=>?_) aH rfl));obtain⟨j,e,a3,b9,q⟩:=a3;subst e;cases bG with
 | θ r g6=>
  cases g6;obtain⟨t,rfl⟩:=r;exact and (F4 aK ⋯ ⋯ a3 b9 (by simpa using q))
theorem Bp {a b:Ġ}{bo:du}{p:Ox}(bF:fb X "range")(hm:X.mg "range"=none)(aN:PA X [a,b] bo)(aH:Ϫ (ω [a,b] X.ό=[(false,ŗ a X.ό),(false,ŗ b X.ό)]) dA._auto_1)(ix:Ϫ (ω [b] X.ό=[(false,ŗ b X.ό)]) dA._auto_1):
  PI X c5 (.č (.ĸ "range" p) [a,b] [] ŷ) (amz bo):=by
 intro ϩ s J H R I h;refine OA (iU I bF hm alN (Ĥ.KK.Į (bA (aN ŷ ϩ s J H _ I h) λus s1 ⟨d,H1,aK,bG,a3⟩=>?_) (by rw[aH,ix]) (by rw[ix];rfl)));obtain⟨i,j,e,⟨a3,b9,eV,kD⟩,q⟩:=a3;subst e;cases bG with
 | θ r g6=>
  cases g6 with
  | θ cG g6=>
   cases g6;obtain⟨t,rfl⟩:=r;obtain⟨t',rfl⟩:=cG;exact call_range_2 (F4 aK a3 b9 eV kD q)
def F5 (g8:TI)(Ϻ:fq)(a4:dn):dn:=λ϶ J H=>g8 J H λcD H1=>∃W:B->B->St->ag->Prop,(∃m,W 0 m J H1)/\∀i m J H,W i m J H->
 (cD.stop i H/\϶.aP J H)\/(cD.go i H/\∃ϰ:St->ag->Prop,(∀a7 U,ϰ a7 U->∃ba,ba<m/\W (i+1) ba a7 U)/\∀x U,cD.fR i H x U->Ϻ x J U λdm aC=>a4 { ϶ with aP:=ϰ,cb:=ϰ,bf:=϶.aP } dm aC)
def t9 (cH:Y Ϩ)(h:Θ):Y (Ϩ×ğ):=cH.Ğ λb=>(h.ϛ b).ϒ λo=>(b,o)
theorem yH {h:Θ}{b:Ϩ}{o:ğ}(af:b∈cH)(e:h.ϛ b=O o):(b,o)∈t9 cH h:=Ŕ.ļ ⟨b,af,by rw[e];rfl⟩
theorem amA {h:Θ}{p:Ϩ×ğ}(ay:p∈t9 cH h):p.1∈cH/\h.ϛ p.1=O p.2:=by
 obtain⟨b,af,e⟩:=Ŕ.mp ay;cases q:h.ϛ b with
 | none=>rw[q]at e;cases e
 | O o=>
  rw[q]at e;have bq:(b,o)=p:=ϣ.O.W1 e
  subst bq;exact⟨af,q⟩
theorem Υ.pinned {J:St}{H:ag}(I:Υ X ϩ J H s)(hf:∀b∈cH,jO X ϩ H b)(av:∀b∈cH,∃o,s.P.ϛ b=O o/\∀v,o.Φ≠.φ v):Υ X (ϩ++t9 cH s.P) J H s:=
 I.t2 λp ay=>(κ.mp ay).Ę (λz=>I.ON p (ź _ z)) λz=>by
  obtain⟨af,e⟩:=amA z;obtain⟨f0,f1,f2,_⟩:=hf p.1 af;obtain⟨o,bq,ϻ⟩:=av p.1 af;rw[e]at bq;cases bq;exact⟨e,f0,f1,f2,ϻ⟩
theorem Υ.ua {pl:Y (Ϩ×ğ)}{J:St}{H:ag}(I:Υ X (ϩ++pl) J H s):Υ X ϩ J H s:=I.t2 λp ay=>I.ON p (ź _ (ŭ _ ay))
theorem ul {g8:TI}{Ϻ:fq}{a4:dn}(ay:Ų (ώ X.ϔ X.w) X.Ϲ X.ό X.c0)(ak:OV X)(aA:PI X c5 Ow g8)(bF:PG X c5 Ϻ)(af:Bf X p_ a4)(aH:∀x,ahE Ow X.ό x=Ă x:=by intro _;rfl):PS X (.For c5 Ow p_ [] ŷ) (F5 g8 Ϻ a4):=by
 intro ϩ s J H ϶ I h;refine wpAny_For (bA (aA ϩ s J H _ I h) λv s1 g=>bA g λyG s2 ah=>?_) aH;obtain⟨it,cH,tn,cD,aC,e,bt,T,iW,f2,W,⟨m0,d0⟩,O1⟩:=ah;subst e;have qJ:∀{U:ag},(∀b∈cH,U b=none)->∀b∈cH,jO X ϩ U b:=λaF b af=>⟨aF b af,(f2 b af).2⟩
 refine codeAny_forLoop_any (λn s'=>∃i a7 U,Υ X ϩ a7 U s'/\tn i s'.P/\(∀b∈cH,U b=none)/\W i n a7 U) ?_ m0 ⟨0,J,aC,bt,iW,λb af=>(f2 b af).1,d0⟩;rintro n s3 ⟨i,ma,bw,dc,F6,F7,qI⟩;rcases O1 i n ma bw qI with⟨stop,pg⟩|⟨go,ϰ,cA,ę⟩
 ·refine Ð ay (bA (T.done X rfl rfl rfl ak i ϩ s3 ma bw X.c0 dc (qJ F7) F6 stop) λr s4 ⟨aO,hl⟩=>?_);subst aO;exact GE ⟨ma,bw,hl,pg⟩
 ·refine Ð ay (bA (T.Ov X rfl rfl rfl ak i ϩ s3 ma bw X.c0 dc (qJ F7) F6 go) λr s4 ⟨u,aO,bO⟩=>?_);subst aO;refine Ð ay (bA bO λ_ s5 ⟨x,dX,md,hn,amU,qK,yI⟩=>?_);have amV:=md.pinned (qJ yI) (T.Oy _ _ qK)
  refine Ð ay (bA (bF _ s5 ma dX x u _ amV hn (ę x dX amU)) λ_ f7 ⟨amW,g9,me,amX⟩=>?_);refine Ð ay (bA (af _ f7 amW g9 _ me amX) λf gv nc=>?_);have amD:∀{mf:St}{gK:ag},Υ X (ϩ++t9 cH s5.P) mf gK gv->ϰ mf gK->∃m,m<n/\∃i a7 U,Υ X ϩ a7 U gv/\tn i gv.P/\(∀b∈cH,U b=none)/\W i m a7 U:=λ{mf gK} kE qL=>by
   obtain⟨ba,hm,anu⟩:=cA mf gK qL;refine⟨ba,hm,i+1,mf,gK,kE.ua,T.ĭ _ _ _ qK λb af o e=>(kE.ON (b,o) (ź _ (ź _ (yH af e)))).1,λb af=>?_,anu⟩;obtain⟨o,e,ϻ⟩:=T.Oy _ _ qK b af;exact(kE.ON (b,o) (ź _ (ź _ (yH af e)))).2.1
  cases f with
  | next=>obtain⟨mf,gK,kE,qL⟩:=nc;exact amD kE qL
  | Ou=>obtain⟨mf,gK,kE,qL⟩:=nc;exact amD kE qL
  | Pa=>obtain⟨mf,gK,kE,nc⟩:=nc;exact⟨mf,gK,kE.ua,nc⟩
  | b8 v=>obtain⟨gV,mf,gK,kE,Bq,nc⟩:=nc;exact⟨gV,mf,gK,kE.ua,Bq,nc⟩
end
theorem ub {F:Y V}{Ϻ:fq}{a4:dn}{϶:OH}{J:St}{H:ag}(Pv:B->St->ag->Prop)(h0:Pv 0 J H)(aw:∀i J H,i<=F.N->Pv i J H->aM K H a F)(aH:∀i x J H,F[i]?=O x->Pv i J H->Ϻ x J H λdm aC=>a4 { ϶ with aP:=Pv (i+1),cb:=Pv (i+1),bf:=϶.aP } dm aC)(hd:∀J H,Pv F.N J H->϶.aP J H):
  ∃W:B->B->St->ag->Prop,(∃m,W 0 m J H)/\∀i m J H,W i m J H->
   ((mc K a).stop i H/\϶.aP J H)\/((mc K a).go i H/\∃ϰ:St->ag->Prop,(∀a7 U,ϰ a7 U->∃ba,ba<m/\W (i+1) ba a7 U)/\∀x U,(mc K a).fR i H x U->Ϻ x J U λdm aC=>a4 { ϶ with aP:=ϰ,cb:=ϰ,bf:=϶.aP } dm aC):=by
 refine⟨λi m J H=>m=F.N-i/\i<=F.N/\Pv i J H,⟨F.N,by simp,ł _,h0⟩,?_⟩;rintro i m J H ⟨rfl,aA,p⟩;have q:=aw i J H aA p
 by_cases cJ:i<F.N
 ·refine .Œ ⟨⟨F,F[i],q,by simp[cJ]⟩,Pv (i+1),λa7 U eB=>⟨F.N-(i+1),⋯,rfl,cJ,eB⟩,λx U y=>?_⟩;obtain⟨e,y⟩:=y;subst e;exact aH i x J _ (y F q) p
 ·have e:i=F.N:=⋯
  subst e;exact .ε ⟨⟨F,q,B.ϑ _⟩,hd J H p⟩
theorem F8 {Ϻ:fq}{a4:dn}{϶:OH}{J:St}{H:ag}(Pv:B->St->ag->Prop)(h0:Pv 0 J H)(aH:∀i J H,i<n->Pv i J H->Ϻ (.M (lo+i)) J H λdm aC=>a4 { ϶ with aP:=Pv (i+1),cb:=Pv (i+1),bf:=϶.aP } dm aC)(hd:∀J H,Pv n J H->϶.aP J H):
  ∃W:B->B->St->ag->Prop,(∃m,W 0 m J H)/\∀i m J H,W i m J H->
   ((lz lo n).stop i H/\϶.aP J H)\/((lz lo n).go i H/\∃ϰ:St->ag->Prop,(∀a7 U,ϰ a7 U->∃ba,ba<m/\W (i+1) ba a7 U)/\∀x U,(lz lo n).fR i H x U->Ϻ x J U λdm aC=>a4 { ϶ with aP:=ϰ,cb:=ϰ,bf:=϶.aP } dm aC):=by
 refine⟨λi m J H=>m=n-i/\i<=n/\Pv i J H,⟨n,by simp,ł _,h0⟩,?_⟩;rintro i m J H ⟨rfl,aA,p⟩;by_cases cJ:i<n
 ·refine .Œ ⟨cJ,Pv (i+1),λa7 U eB=>⟨n-(i+1),⋯,rfl,cJ,eB⟩,λx U y=>?_⟩;obtain⟨e,y⟩:=y;subst e y;exact aH i J _ cJ p
 ·have e:i=n:=⋯
  subst e;exact .ε ⟨B.ϑ _,hd J H p⟩
abbrev gw:=V->V->ag->a8->Prop
def eo (X:Cx)(f:ϫ->ϫ->Sem ϫ)(r:gw):Prop:=
 ∀(ϩ:Y (Ϩ×ğ))(s:ϐ)(J:St)(H:ag)(x y:V)(v u:ϫ)(Q:a8),Υ X ϩ J H s->ţ x v->ţ y u->r x y H Q->
  ϙ (ώ X.ϔ X.w) X.Ϲ (f v u) (gs X ϩ J Q) X.c0 s
def Br (X:Cx)(f:ϫ->Sem ϫ)(r:V->ag->a8->Prop):Prop:=
 ∀(ϩ:Y (Ϩ×ğ))(s:ϐ)(J:St)(H:ag)(x:V)(v:ϫ)(Q:a8),Υ X ϩ J H s->ţ x v->r x H Q->
  ϙ (ώ X.ϔ X.w) X.Ϲ (f v) (gs X ϩ J Q) X.c0 s
def ho (X:Cx)(f:ϫ)(r:Y V->ag->a8->Prop):Prop:=
 ∀(ϩ:Y (Ϩ×ğ))(s:ϐ)(J:St)(H:ag)(F:Y V)(us:Y ϫ)(Q:a8),Υ X ϩ J H s->ś F us->r F H Q->
  ϙ (ώ X.ϔ X.w) X.Ϲ (WP f us) (gs X ϩ J Q) X.c0 s
def anv (X:Cx)(r:V->ag->(δ->ag->Prop)->Prop):Prop:=
 ∀(ϩ:Y (Ϩ×ğ))(s:ϐ)(J:St)(H:ag)(x:V)(v:ϫ)(Q:δ->ag->Prop),Υ X ϩ J H s->ţ x v->r x H Q->
  ϙ (ώ X.ϔ X.w) X.Ϲ (truthy v) (yy X ϩ J Q) X.c0 s
def tOp (r:gw)(bo a4:TE):TE:=λJ H Q=>bo J H λx H1=>a4 J H1 λy aC=>r x y aC Q
def tUn (r:V->ag->a8->Prop)(bo:TE):TE:=λJ H Q=>bo J H λx H1=>r x H1 Q
def rI (Ϸ:G->G->Prop)(Ϻ:G->G->V):gw:=λx y H Q=>∃i j,x=.M i/\y=.M j/\Ϸ i j/\Q (Ϻ i j) H
def mh (Ϻ:G->G->V):gw:=λx y H Q=>∃i j,x=.M i/\y=.M j/\Q (Ϻ i j) H
def rU (Ϻ:G->V):V->ag->a8->Prop:=λx H Q=>∃i,x=.M i/\Q (Ϻ i) H
section
variable {X:Cx}{a b c:Expr}{bo a4 tc:TE}{pos:Pos}
theorem Bs (aN:PE X a bo)(af:PE X b a4){J:St}{H:ag}{R:V->V->ag->Prop}(I:Υ X ϩ J H s)(h:bo J H λx H1=>a4 J H1 λy aC=>R x y aC){f:ϫ->ϫ->Sem ϫ}(hf:∀v u s2 x y aC,Υ X ϩ J aC s2->ţ x v->ţ y u->R x y aC->ϙ (ώ X.ϔ X.w) X.Ϲ (f v u) Q X.c0 s2):
  ϙ (ώ X.ϔ X.w) X.Ϲ (ŗ a X.ό) (λv eg=>ϙ (ώ X.ϔ X.w) X.Ϲ (ŗ b X.ό) (λu iV=>ϙ (ώ X.ϔ X.w) X.Ϲ (f v u) Q X.c0 iV) X.c0 eg) X.c0 s:=by
 refine bA (aN ϩ s J H _ I h) λv s1 ⟨x,H1,aK,bG,a3⟩=>?_;refine bA (af ϩ s1 J H1 _ aK a3) λu s2 ⟨y,aC,bt,bW,b9⟩=>?_;exact hf v u s2 x y aC bt bG bW b9
theorem bU {op:ahX}{r:gw}(av:eo X (Hn op) r)(aN:PE X a bo)(af:PE X b a4):PE X (.BinOp a op b ŷ) (tOp r bo a4):=by
 intro ϩ s J H Q I h;exact wpAny_BinOp (Bs aN af I h λv u s2 x y aC bt bc bu q=>av ϩ s2 J aC x y v u Q bt bc bu q)
theorem n0 {op:aj1}{r:V->ag->a8->Prop}(av:Br X (unaryOp op) r)(aN:PE X a bo):PE X (.aj1 op a ŷ) (tUn r bo):=by
 intro ϩ s J H Q I h;exact UnaryOp_ (bA (aN ϩ s J H _ I h) λv s1 ⟨x,H1,aK,bG,a3⟩=>av ϩ s1 J H1 x v Q aK bG a3)
theorem yJ {f:ϫ->ϫ->Sem ϫ}{Ϸ:G->G->Prop}{Ϻ:G->G->G}(rule:∀(i j:G)(t u:OE)(s:ϐ)(Q:Bh)(ϵ:Bh),Ϸ i j->Q (.M (Ϻ i j) s.Χ) { s with Χ:=s.Χ+1 }->ϙ (ώ X.ϔ X.w) X.Ϲ (f (.M i t) (.M j u)) Q ϵ s):
  eo X f (rI Ϸ λi j=>.M (Ϻ i j)):=by
 intro ϩ s J H x y v u Q I bc bu h;obtain⟨i,j,rfl,rfl,ak,q⟩:=h;obtain⟨t,rfl⟩:=bc;obtain⟨t',rfl⟩:=bu;exact rule i j t t' s _ _ ak ⟨.M (Ϻ i j),H,I.bn _,⟨_,rfl⟩,q⟩
theorem F9 {f:ϫ->ϫ->Sem ϫ}{Ϻ:G->G->G}(rule:∀(i j:G)(t u:OE)(s:ϐ)(Q:Bh)(ϵ:Bh),Q (.M (Ϻ i j) s.Χ) { s with Χ:=s.Χ+1 }->ϙ (ώ X.ϔ X.w) X.Ϲ (f (.M i t) (.M j u)) Q ϵ s):
  eo X f (mh λi j=>.M (Ϻ i j)):=by
 intro ϩ s J H x y v u Q I bc bu h;obtain⟨i,j,rfl,rfl,q⟩:=h;obtain⟨t,rfl⟩:=bc;obtain⟨t',rfl⟩:=bu;exact rule i j t t' s _ _ ⟨.M (Ϻ i j),H,I.bn _,⟨_,rfl⟩,q⟩
theorem yK {f:ϫ->ϫ->Sem ϫ}{Ϻ:G->G->δ}(rule:∀(i j:G)(t u:OE)(s:ϐ)(Q:Bh)(ϵ:Bh),Q (.Ã (Ϻ i j)) s->ϙ (ώ X.ϔ X.w) X.Ϲ (f (.M i t) (.M j u)) Q ϵ s):
  eo X f (mh λi j=>.bl (Ϻ i j)):=by
 intro ϩ s J H x y v u Q I bc bu h;obtain⟨i,j,rfl,rfl,q⟩:=h;obtain⟨t,rfl⟩:=bc;obtain⟨t',rfl⟩:=bu;exact rule i j t t' s _ _ ⟨.bl (Ϻ i j),H,I,rfl,q⟩
def anw (i j:G):Prop:=0<j/\j<1073741824
def ph (i j:G):Prop:=(-(2^64)<i/\i<2^64)\/(-(2^64)<j/\j<2^64)
theorem ph.ok {i j:G}(h:ph i j):IntMulOk i j:=by
 rcases h with⟨g,ah⟩|⟨g,ah⟩
 ·exact .of_left (ami g ah)
 ·exact .of_right (ami g ah)
theorem eW:eo X (Hn .Add) (mh λi j=>.M (i+j)):=F9 λ_ _ _ _ _ _ _ q=>add_int q
theorem hp:eo X (Hn .Sub) (mh λi j=>.M (i-j)):=F9 λ_ _ _ _ _ _ _ q=>sub_int q
theorem sl:eo X (Hn .Mult) (rI ph λi j=>.M (i*j)):=yJ λ_ _ _ _ _ _ _ ak q=>mul_int q ak.ok
theorem hq:eo X (Hn .FloorDiv) (rI anw λi j=>.M (i/j)):=yJ λi j _ _ _ _ _ ak q=>by
 have g:(0:G)<j:=ak.1
 have ah:j<1073741824:=ak.2
 exact floordiv_int ⋯ (by rwa[G.fdiv_eq_ediv_of_nonneg i ⋯]) (.ε (Ĥ.noPylong_small ⋯))
theorem hO:eo X (Hn .Mod) (rI (λ_ j=>0<j) λi j=>.M (i%j)):=yJ λi j _ _ _ _ _ ak q=>by
 have g:(0:G)<j:=ak
 exact mod_int' ⋯ (by rwa[G.fmod_eq_emod_of_nonneg i ⋯])
theorem anx {f:ϫ->Sem ϫ}{Ϻ:G->G}(rule:∀(i:G)(t:OE)(s:ϐ)(Q:Bh)(ϵ:Bh),Q (.M (Ϻ i) s.Χ) { s with Χ:=s.Χ+1 }->ϙ (ώ X.ϔ X.w) X.Ϲ (f (.M i t)) Q ϵ s):
  Br X f (rU λi=>.M (Ϻ i)):=by
 intro ϩ s J H x v Q I bc h;obtain⟨i,rfl,q⟩:=h;obtain⟨t,rfl⟩:=bc;exact rule i t s _ _ ⟨.M (Ϻ i),H,I.bn _,⟨_,rfl⟩,q⟩
theorem n1:Br X (unaryOp .USub) (rU λi=>.M (-i)):=anx λ_ _ _ _ _ q=>neg_int q
end
def lA:V->V->δ
 | .br,.br=>true|.br,.M _=>true|.M _,.br=>true|.br,.bl _=>true|.bl _,.br=>true|.br,.str _=>true|.str _,.br=>true
 | .M _,.M _=>true|.bl _,.bl _=>true|.str _,.str _=>true|.ka _,.ka _=>true
 | .M _,.str _=>true|.str _,.M _=>true|.bl _,.str _=>true|.str _,.bl _=>true
 | _,_=>false
def rEq:gw:=λx y H Q=>lA x y=true/\Q (.bl (decide (x=y))) H
def rNe:gw:=λx y H Q=>lA x y=true/\Q (.bl (!decide (x=y))) H
theorem Ga {i j:G}:decide (V.M i=V.M j)=(i==j):=by
 rw[δ.ë];simp
theorem Gb {i j:δ}:decide (V.bl i=V.bl j)=(i==j):=by
 rw[δ.ë];simp
theorem Gd {i j:ϕ}:decide (V.str i=V.str j)=(i==j):=by
 rw[δ.ë];simp
theorem Ge {i j:μ UInt8}:decide (V.ka i=V.ka j)=(i.Ω==j.Ω):=by
 rw[δ.ë];cases i;cases j;simp
section
variable {X:Cx}{a b c:Expr}{bo a4 tc:TE}{pos:Pos}
theorem eJ {J:St}{H:ag}{Q:a8}{k ha:δ}(I:Υ X ϩ J H s)(q:Q (.bl k) H)(e:k=ha):gs X ϩ J Q (.Ã ha) s:=by
 subst e;exact⟨.bl k,H,I,rfl,q⟩
theorem fx:eo X (ų .Eq) rEq:=by
 intro ϩ s J H x y v u Q I bc bu h;obtain⟨aH,q⟩:=h;cases x with
 | br=>
  cases bc;cases y with
  | br=>cases bu;exact ϟ.wp.eq_none_none (eJ I q (by simp))
  | bl j=>cases bu;exact ϟ.wp.eq_none_bool (eJ I q (by simp))
  | M j=>obtain⟨t',rfl⟩:=bu;exact ϟ.wp.eq_none_int (eJ I q (by simp))
  | str j=>obtain⟨t',rfl⟩:=bu;exact ϟ.wp.eq_none_str (eJ I q (by simp))
  | _=>exact bJ (show false=true from aH) δ.γ
 | bl i=>
  cases bc;cases y with
  | br=>cases bu;exact ϟ.wp.eq_bool_none (eJ I q (by simp))
  | bl j=>cases bu;exact eq_bool (eJ I q Gb)
  | str j=>obtain⟨t',rfl⟩:=bu;exact ϟ.I9.eq_bool_str (eJ I q (by simp))
  | _=>exact bJ (show false=true from aH) δ.γ
 | M i=>
  obtain⟨t,rfl⟩:=bc;cases y with
  | br=>cases bu;exact ϟ.wp.eq_int_none (eJ I q (by simp))
  | M j=>obtain⟨t',rfl⟩:=bu;exact eq_int (eJ I q Ga)
  | str j=>obtain⟨t',rfl⟩:=bu;exact ϟ.I9.eq_int_str (eJ I q (by simp))
  | _=>exact bJ (show false=true from aH) δ.γ
 | str i=>
  obtain⟨t,rfl⟩:=bc;cases y with
  | br=>cases bu;exact ϟ.wp.eq_str_none (eJ I q (by simp))
  | bl j=>cases bu;exact ϟ.I9.eq_str_bool (eJ I q (by simp))
  | M j=>obtain⟨t',rfl⟩:=bu;exact ϟ.I9.eq_str_int (eJ I q (by simp))
  | str j=>obtain⟨t',rfl⟩:=bu;exact eq_str (eJ I q Gd)
  | _=>exact bJ (show false=true from aH) δ.γ
 | ka i=>
  obtain⟨t,rfl⟩:=bc;cases y with
  | ka j=>obtain⟨t',rfl⟩:=bu;exact ϟ.W.eq_bytes (eJ I q Ge)
  | _=>exact bJ (show false=true from aH) δ.γ
 | _=>cases y<;>exact bJ (show false=true from aH) δ.γ
theorem mi:eo X (ų .NotEq) rNe:=by
 intro ϩ s J H x y v u Q I bc bu h;obtain⟨aH,q⟩:=h;cases x with
 | br=>
  cases bc;cases y with
  | br=>cases bu;exact ϟ.wp.ne_none_none (eJ I q (by simp))
  | bl j=>cases bu;exact ϟ.wp.ne_none_bool (eJ I q (by simp))
  | M j=>obtain⟨t',rfl⟩:=bu;exact ϟ.wp.ne_none_int (eJ I q (by simp))
  | str j=>obtain⟨t',rfl⟩:=bu;exact ϟ.wp.ne_none_str (eJ I q (by simp))
  | _=>exact bJ (show false=true from aH) δ.γ
 | bl i=>
  cases bc;cases y with
  | br=>cases bu;exact ϟ.wp.ne_bool_none (eJ I q (by simp))
  | bl j=>cases bu;exact ne_bool (eJ I q (ż not Gb))
  | str j=>obtain⟨t',rfl⟩:=bu;exact ϟ.I9.ne_bool_str (eJ I q (by simp))
  | _=>exact bJ (show false=true from aH) δ.γ
 | M i=>
  obtain⟨t,rfl⟩:=bc;cases y with
  | br=>cases bu;exact ϟ.wp.ne_int_none (eJ I q (by simp))
  | M j=>obtain⟨t',rfl⟩:=bu;exact ne_int (eJ I q (ż not Ga))
  | str j=>obtain⟨t',rfl⟩:=bu;exact ϟ.I9.ne_int_str (eJ I q (by simp))
  | _=>exact bJ (show false=true from aH) δ.γ
 | str i=>
  obtain⟨t,rfl⟩:=bc;cases y with
  | br=>cases bu;exact ϟ.wp.ne_str_none (eJ I q (by simp))
  | bl j=>cases bu;exact ϟ.I9.ne_str_bool (eJ I q (by simp))
  | M j=>obtain⟨t',rfl⟩:=bu;exact ϟ.I9.ne_str_int (eJ I q (by simp))
  | str j=>obtain⟨t',rfl⟩:=bu;exact ne_str (eJ I q (ż not Gd))
  | _=>exact bJ (show false=true from aH) δ.γ
 | ka i=>
  obtain⟨t,rfl⟩:=bc;cases y with
  | ka j=>obtain⟨t',rfl⟩:=bu;exact ϟ.W.ne_bytes (eJ I q (ż not Ge))
  | _=>exact bJ (show false=true from aH) δ.γ
 | _=>cases y<;>exact bJ (show false=true from aH) δ.γ
theorem qM:eo X (ų .Lt) (mh λi j=>.bl (decide (i<j))):=yK λ_ _ _ _ _ _ _ q=>lt_int q
theorem sm:eo X (ų .LtE) (mh λi j=>.bl (decide (i<=j))):=yK λ_ _ _ _ _ _ _ q=>le_int q
theorem uc:eo X (ų .Gt) (mh λi j=>.bl (decide (j<i))):=yK λ_ _ _ _ _ _ _ q=>gt_int q
theorem yL:eo X (ų .GtE) (mh λi j=>.bl (decide (j<=i))):=yK λ_ _ _ _ _ _ _ q=>ge_int q
theorem anz:eo X (ų .In) (λx y H Q=>∃i j,x=.str i/\y=.str j/\Q (.bl (!(π.ϕ.occurrences j i 0 j.N 1).Í)) H):=by
 intro ϩ s J H x y v u Q I bc bu h;obtain⟨i,j,rfl,rfl,q⟩:=h;obtain⟨t,rfl⟩:=bc;obtain⟨t',rfl⟩:=bu;exact in_str (eJ I q rfl)
theorem yM:eo X (ų .ahf) (λx y H Q=>y=.br/\Q (.bl (decide (x=.br))) H):=by
 intro ϩ s J H x y v u Q I bc bu h;obtain⟨rfl,q⟩:=h;cases bu;refine is_none_gen (eJ I q ?_);cases x<;>first
  | (cases bc;rfl)
  | (obtain⟨t,rfl⟩:=bc;rfl)
theorem so:eo X (ų .IsNot) (λx y H Q=>y=.br/\Q (.bl (!decide (x=.br))) H):=by
 intro ϩ s J H x y v u Q I bc bu h;obtain⟨rfl,q⟩:=h;cases bu;refine isnot_none_gen (eJ I q ?_);cases x<;>first
  | (cases bc;rfl)
  | (obtain⟨t,rfl⟩:=bc;rfl)
theorem aiu (b:Ġ)(h:Ϫ (op≠.In) dB._auto_1)(ah:Ϫ (op≠.amC) dB._auto_1):þ op b=false:=by
 have au:(op==amB.In)=false:=by cases op<;>first|rfl|exact bJ rfl h
 have az:(op==amB.amC)=false:=by cases op<;>first|rfl|exact bJ rfl ah
 cases b<;>simp[þ,au,az]
theorem anA {r:gw}(av:eo X (ų op) r)(aN:PE X a bo)(af:PE X b a4)(hm:þ op b=false):PE X (.I8 a [op] [b] ŷ) (tOp r bo a4):=by
 intro ϩ s J H Q I h;exact alY (Bs aN af I h λv u s2 x y aC bt bc bu q=>av ϩ s2 J aC x y v u Q bt bc bu q) hm
def zne (t:TE):TT:=λJ H Q=>t J H λx U=>∃k,x=.bl k/\Q k U
theorem anT {r:gw}(av:eo X (ų op) r)(aN:PE X a bo)(af:PE X b a4)(hm:þ op b=false):iT X (.I8 a [op] [b] ŷ) (zne (tOp r bo a4)):=by
 intro ϩ s J H Q I h;refine aiz (bA (aN ϩ s J H _ I h) λv s1 ⟨x,H1,aK,bG,a3⟩=>bA (af ϩ s1 J H1 _ aK a3) λu s2 ⟨y,aC,bt,bW,b9⟩=>
  bA (av ϩ s2 J aC x y v u _ bt bG bW b9) λc s3 ⟨z,bw,dc,hb,k,e,eV⟩=>?_) hm
 subst e;cases hb;exact Ū ⟨bw,dc,eV⟩
def yN (r cG:gw)(bo a4 tc:TE):TE:=λJ H Q=>bo J H λx H1=>a4 J H1 λy aC=>r x y aC λz bw=>∃k,z=.bl k/\
 (if k=true then tc J bw λeS cK=>cG y eS cK Q else Q (.bl false) bw)
theorem anU {qN:amB}{r cG:gw}(av:eo X (ų op) r)(eA:eo X (ų qN) cG)(aN:PE X a bo)(af:PE X b a4)(ak:PE X c tc)(hm:lastMarks [op,qN] [b,c]=false:=by with_unfolding_all rfl):PE X (.I8 a [op,qN] [b,c] ŷ) (yN r cG bo a4 tc):=by
 intro ϩ s J H Q I h;refine Compare_chain (bA (aN ϩ s J H _ I h) λv s1 ⟨x,H1,aK,bG,a3⟩=>chain_link (bA (af ϩ s1 J H1 _ aK a3) λu s2 ⟨y,aC,bt,bW,b9⟩=>
  bA (av ϩ s2 J aC x y v u _ bt bG bW b9) λϻ s3 ⟨z,bw,dc,hb,k,e,eV⟩=>?_)) hm
 subst e;cases hb;refine Ū ?_;cases k with
 | false=>exact ite_ff ⟨.bl false,bw,dc,rfl,eV⟩
 | true=>exact ite_tt (chain_last (bA (ak ϩ s3 J bw _ dc eV) λeS s4 ⟨gT,cK,hl,iX,kD⟩=>eA ϩ s4 J cK y gT u eS Q hl bW iX kD))
theorem anV {qN:amB}{r cG:gw}(av:eo X (ų op) r)(eA:eo X (ų qN) cG)(aN:PE X a bo)(af:PE X b a4)(ak:PE X c tc)(hm:lastMarks [op,qN] [b,c]=false:=by with_unfolding_all rfl):iT X (.I8 a [op,qN] [b,c] ŷ) (zne (yN r cG bo a4 tc)):=by
 intro ϩ s J H Q I h;refine isTrue_chain (bA (aN ϩ s J H _ I h) λv s1 ⟨x,H1,aK,bG,a3⟩=>test_link (bA (af ϩ s1 J H1 _ aK a3) λu s2 ⟨y,aC,bt,bW,b9⟩=>
  bA (av ϩ s2 J aC x y v u _ bt bG bW b9) λϻ s3 ⟨z,bw,dc,hb,k,e,eV⟩=>?_)) hm
 subst e;cases hb;refine Ū ?_;cases k with
 | false=>
  obtain⟨ha,bq,bC⟩:=eV;cases bq;exact ite_ff ⟨bw,dc,bC⟩
 | true=>
  refine ite_tt (test_last (bA (ak ϩ s3 J bw _ dc eV) λeS s4 ⟨gT,cK,hl,iX,kD⟩=>bA (eA ϩ s4 J cK y gT u eS _ hl bW iX kD) λd' s5 ⟨da,dX,md,hn,k2,az,Pl⟩=>?_));subst az;cases hn;exact Ū ⟨dX,md,Pl⟩
def Gf (K:ş)(x:V)(H:ag)(k:δ):Prop:=
 match x with
 | .br=>k=false
 | .bl b=>k=b
 | .M i=>k=(i != 0)
 | .str y=>y.N<=ϓ/\k=((y.N:G) != 0)
 | .ka y=>y.Ϥ<=ϓ/\k=((y.Ϥ:G) != 0)
 | .Z p=>(∃F,aM K H p F/\k=!F.Í)\/(∃F,bN K H p F/\k=!F.Í)\/∃Ϝ,H p=O (.bL Ϝ)/\k=!Ϝ.Í
 | _=>Ō
theorem Pm {Ϝ:Y (bE×V)}{d:Y (bE×ϫ)}(r:fp Ϝ d):(!d.Í)=!Ϝ.Í:=by
 cases r<;>rfl
theorem Gg {F:Y V}{aL:Y ϫ}(r:ś F aL):(!aL.ϗ.Í)=!F.Í:=by
 cases r<;>simp
theorem qO:(ϓ:B)<2^63:=by rw[ρ];decide
theorem Pn:anv X (λx H Q=>∃k,Gf X.K x H k/\Q k H):=by
 intro ϩ s J H x v Q I bc h;obtain⟨k,e,q⟩:=h;have aw:=qO
 have aH:ϓ=16777216:=ρ
 cases x with
 | br=>
  cases bc;have bq:k=false:=e
  subst bq;exact truthy_none ⟨H,I,q⟩
 | bl b=>
  cases bc;have bq:k=b:=e
  subst bq;exact Ū ⟨H,I,q⟩
 | M i=>
  obtain⟨t,rfl⟩:=bc;have bq:k=(i != 0):=e
  subst bq;exact ϟ.Ϯ.truthy_int ⟨H,I,q⟩
 | str y=>
  obtain⟨t,rfl⟩:=bc;obtain⟨aU,bq⟩:y.N<=ϓ/\k=((y.N:G) != 0):=e;subst bq;exact ϟ.Ϯ.truthy_str ⋯ ⟨H,I.bn _,q⟩
 | ka y=>
  obtain⟨t,rfl⟩:=bc;obtain⟨aU,bq⟩:y.Ϥ<=ϓ/\k=((y.Ϥ:G) != 0):=e;subst bq;exact ϟ.W.truthy_bytes ⋯ ⟨H,I.bn _,q⟩
 | Z p=>
  cases bc;have bq:(∃F,aM X.K H p F/\k=!F.Í)\/(∃F,bN X.K H p F/\k=!F.Í)\/∃Ϝ,H p=O (.bL Ϝ)/\k=!Ϝ.Í:=e
  rcases bq with⟨F,ai,bq⟩|⟨F,ai,bq⟩|⟨Ϝ,ai,bq⟩
  ·subst bq;obtain⟨aL,r,pl,hz⟩:=I.ö ai;have SB:=r.N
   exact wpAny_truthy_list pl.Ń (by simp only[ζ];omega) ⟨H,I.bn _,by rwa[Gg r]⟩
  ·subst bq;obtain⟨aL,r,pl,hz⟩:=I.B_ ai;have SB:=r.N
   exact truthy_tuple pl (by simp only[ζ];omega) ⟨H,I.bn _,by rwa[Gg r]⟩
  ·subst bq;obtain⟨hz,dq,d,r,m⟩:Ϝ.N<=ϓ/\(p==Ŋ)=false/\∃d,fp Ϝ d/\s.P.im (e0 X.ϔ X.w) p d:=I.a9 p _ ai;have SB:Ϝ.N=d.N:=ϋ.N r
   exact wpAny_truthy_dict dq m ⋯ ⟨H,I.bn _,by rwa[Pm r]⟩
 | _=>exact(show Ō from e).Ę
theorem Gh (aN:PE X a bo)(he:∀alt,alB a X.ό alt=(do let v <- alt;ss a.ŷ;Î [v] (truthy v))):
  iT X a (λJ H Q=>bo J H λx U=>∃k,Gf X.K x U k/\Q k U):=by
 intro ϩ s J H Q I h;exact anc (bA (aN ϩ s J H _ I h) λv s1 ⟨x,H1,aK,bG,a3⟩=>Pn ϩ s1 J H1 x v Q aK bG a3) (he _)
theorem wT {x:V}(r:ś [x] us):∃u,us=[u]/\ţ x u:=by
 cases r with
 | θ bG bW=>cases bW;exact⟨_,rfl,bG⟩
theorem vals2 {x y:V}(r:ś [x,y] us):∃u eS,us=[u,eS]/\ţ x u/\ţ y eS:=by
 cases r with
 | θ bG bW=>
  cases bW with
  | θ hb iX=>cases iX;exact⟨_,_,rfl,bG,hb⟩
theorem Gi:ho X (.ο "abs") (λF H Q=>∃i,F=[.M i]/\Q (.M (if i<0 then -i else i)) H):=by
 intro ϩ s J H F us Q I r h;obtain⟨i,rfl,q⟩:=h;obtain⟨u,rfl,t,rfl⟩:=wT r;exact call_abs_int λu tk=>⟨.M (if i<0 then -i else i),H,I.bn _,⟨_,rfl⟩,q⟩
theorem pj (ak:X.R_=true):ho X (.ο "max") (λF H Q=>∃i j,F=[.M i,.M j]/\Q (.M (if j>i then j else i)) H):=by
 intro ϩ s J H F us Q I r h;obtain⟨i,j,rfl,q⟩:=h;obtain⟨u,eS,rfl,⟨t,rfl⟩,⟨t',rfl⟩⟩:=vals2 r;refine max_two_ints (I.ok.hd ak) λh' tk k=>⟨_,H,I.XL k,?_,q⟩;by_cases bg:j>i
 ·rw[aS bg,aS bg];exact⟨_,rfl⟩
 ·rw[aD bg,aD bg];exact⟨_,rfl⟩
theorem sq (ak:X.R_=true):ho X (.ο "min") (λF H Q=>∃i j,F=[.M i,.M j]/\Q (.M (if j<i then j else i)) H):=by
 intro ϩ s J H F us Q I r h;obtain⟨i,j,rfl,q⟩:=h;obtain⟨u,eS,rfl,⟨t,rfl⟩,⟨t',rfl⟩⟩:=vals2 r;refine min_two_ints (I.ok.hd ak) λh' tk k=>⟨_,H,I.XL k,?_,q⟩;by_cases bg:j<i
 ·rw[aS bg,aS bg];exact⟨_,rfl⟩
 ·rw[aD bg,aD bg];exact⟨_,rfl⟩
theorem Po:ho X (.χ "int") (λF H Q=>(∃i,F=[.M i]/\Q (.M i) H)\/∃k,F=[.bl k]/\Q (.M (if k then 1 else 0)) H):=by
 intro ϩ s J H F us Q I r h;rcases h with⟨i,rfl,q⟩|⟨k,rfl,q⟩
 ·obtain⟨u,rfl,t,rfl⟩:=wT r;exact call_int_int ⟨.M i,H,I,⟨_,rfl⟩,q⟩
 ·obtain⟨u,rfl,bG⟩:=wT r;cases bG;exact call_int_bool ⟨.M (if k then 1 else 0),H,I.bn _,⟨_,rfl⟩,q⟩
end
structure qP (h:Θ)(x dx Ϸ:Ϩ)(ej:ϕ->ϣ ϫ):Prop where
 Oy:h.ϛ x=O (I7 Ϸ dx)
 ns:h.Ns1 dx ej
 ne:dx≠x
set_option tactic.hygienic true in
theorem Pp {h:Θ}(n:h.Ns1 dx ej):∃cO,h.ϛ dx=O cO/\∀name,anY name cO=O (ej name):=by
 obtain⟨o,C,cw,av,hd,aq,_,hm⟩:=n;refine⟨o,av,λname=>?_⟩;have e:=hm name
 unfold nsFind findBy at e;rw[<- μ.ane]at e;unfold anY;rw[hd];dsimp only
 split
 ·rename_i y q;rw[q]at e;exact ż O e
 ·rename_i q;rw[q]at e;have a:C.Ω.J_ (·.refKey)=false:=by
   rw[Y.any_eq_false];intro y aU;obtain⟨z,t,Pq⟩:=aq y (μ.mem_toList_iff.mp aU);simp[EQ.refKey,Pq]
  have gx:¬C.Ω.J_ (·.refKey)=true:=by rw[a];exact δ.γ
  rw[aD gx];exact ż O e
theorem qP.look {h:Θ}{x:Ϩ}(I:qP h x dx Ϸ ej):∃cO,ϟ.W.InstAt h x (I7 Ϸ dx) Ϸ (O cO)/\∀name,anY name cO=O (ej name):=
 let⟨cO,av,aw⟩:=Pp I.ns
 ⟨cO,⟨I.Oy,rfl,rfl,av⟩,aw⟩
section
variable {prog:Program}{w:World}{A:Around}{E:wvP}{s:Shared}{K:Frag}{x dx C f:Addr}{ej:Str->Option Value}{name:Str}{v:Value}
theorem Pr {expr:δ}(X:K.In s.P)(I:qP s.P x dx Ϸ ej)(bF:alG K Ϸ name=true)(bj:amK K Ϸ=true)(aN:ü K (.Z Ϸ) name=O none)(aG:ej name=O v)(lB:ϟ.W.handedIn v=true)(h:Q v { s with Χ:=s.Χ+1 }):
  ϙ (ώ ϔ w) Ϲ (getAttr (.Z x) name expr) Q ϵ s:=by
 obtain⟨cO,cD,aw⟩:=I.look;exact ϟ.W.get_value X cD (ϟ.W.akU bF).1 (ϟ.W.findObj_own bj aN rfl (by rw[aw,aG])) lB h
theorem Pt {Q:ϫ×Y ϫ->ϐ->Prop}(X:K.In s.P)(I:qP s.P x dx Ϸ ej)(bF:alG K Ϸ name=true)(hf:ü K (.Z Ϸ) name=O (O (.Z f)))(bk:isFn K (.Z f)=true)(aG:ej name=none)(h:Q (.Z f,[.Z x]) s):
  ϙ (ώ ϔ w) Ϲ (Ev (.Z x) name pl) Q ϵ s:=by
 obtain⟨cO,cD,aw⟩:=I.look;exact ϟ.W.method_fn X cD (ϟ.W.akU bF).1 (ϟ.W.akU bF).2 hf (Ā.mp bk) (by show(anY name cO).ϒ (·.Ĵ)=O false;rw[aw,aG];rfl) h
theorem Gj {ns:Y ϕ}{Q:O7->ϐ->Prop}(X:K.In s.P)(I:qP s.P x dx Ϸ ej)(aH:ü K (.Z Ϸ) "__setattr__"=O (O (.ο "object.__setattr__")))(ay:plainOver K Ϸ=true)(bk:ϟ.W.takerIn K Ϸ name=O none)(bj:amK K Ϸ=true)(hw:ϟ.alA ej ns)(Oz:ns.N<=ϓ)(h:∀h',qP h' x dx Ϸ (λy=>if y=name then O v else ej y)->Θ.N_ dx s.P h'->Q () { s with P:=h',Χ:=s.Χ+2 }):
  ϙ (ώ ϔ w) Ϲ (setAttr (.Z x) name v) Q ϵ s:=by
 obtain⟨cO,cD,aw⟩:=I.look;refine ϟ.W.set_plain X cD aH (ϟ.W.osa_open (s:={ s with Χ:=s.Χ+1 }) (r:=none) X cD ay bk λb=>?_);obtain⟨cd,ak,qD⟩:=ϟ.W.anJ bj;have ai:s.P.ϛ x=O ⟨.Z Ϸ,O dx,.plain,#[]⟩:=I.Oy
 refine ax (bp (ax (ax (alZ ai (ax (ϟ.W.Looks.here (s:={ s with Χ:=s.Χ+1 }) (ϟ.W.akV X ak) ?_))))));rw[qD];refine bp (a:=O dx) (ax (bp (ax ?_)));refine anf (s:={ s with Χ:=s.Χ+1 }) I.ns λh' pk ix=>?_;obtain⟨Pu,Pw,Px,Py,Pz,PB⟩:=pk.count (ϟ.alA.θ name v hw);refine ax (akD Py (by rw[Pz];exact akE (B.Ķ PB (by rw[ŵ];omega))) ?_);exact bp (h _ ⟨(ix.2 _ (Ne.symm I.ne)).Ϛ I.Oy,pk,I.ne⟩ ix)
theorem PC {d:Y ϫ}(X:K.In s.P)(hm:makesIn K Ϸ=true)(aA:ü K (.Z Ϸ) "__init__"=O (O (.Z f)))(hf:ϟ.W.typeIn K (.Z f)=O (.χ "function"))(h:Ø (ώ ϔ w) (Ϲ.OT (.ο "type.__call__" ⟨.Z Ϸ::d,kw⟩)) (.WP (.Z f) ⟨.Z (s.P.Ϡ.Ϥ+1)::d,kw⟩) (ϟ.W.InitBack (s.P.Ϡ.Ϥ+1) R)
   { s with P:=(s.P.Ũ ϟ.W.D_).Ũ (I7 Ϸ s.P.Ϡ.Ϥ) }):
  Ø (ώ ϔ w) Ϲ (.WP (.Z Ϸ) ⟨d,kw⟩) R s:=by
 obtain⟨bj,Ϻ,ϻ,t,os⟩:=s;exact ϟ.W.make_core (ϟ.W.makes_of X hm) (ϟ.W.ang X aA) (λself=>ϟ.W.bind_fn X self hf) (.ε rfl) h
end
def cu (f:ϕ)(v:V):Y (ϕ×V)->Y (ϕ×V)
 | []=>[(f,v)]
 | (Ϻ,x)::r=>if Ϻ=f then(Ϻ,v)::r else(Ϻ,x)::cu f v r
theorem cL (f Ϻ:ϕ)(v:V):∀aJ:Y (ϕ×V),(cu f v aJ).Ϣ Ϻ=if Ϻ=f then O v else aJ.Ϣ Ϻ
 | []=>by
  show Y.Ϣ Ϻ [(f,v)]=_
  by_cases h:Ϻ=f
  ·have af:(Ϻ==f)=true:=Ā.ļ h
   simp only[Y.Ϣ,af,aS h]
  ·have af:(Ϻ==f)=false:=ĺ.ļ h
   simp only[Y.Ϣ,af,aD h]
 | (k,x)::r=>by
  have bB:=cL f Ϻ v r
  rw[show cu f v ((k,x)::r)=(if k=f then(k,v)::r else(k,x)::cu f v r) from rfl];by_cases aq:k=f
  ·rw[aS aq];by_cases h:Ϻ=k
   ·have af:(Ϻ==k)=true:=Ā.ļ h
    simp only[Y.Ϣ,af,aS (h.Ϛ aq)]
   ·have af:(Ϻ==k)=false:=ĺ.ļ h
    simp only[Y.Ϣ,af,aD (λe:Ϻ=f=>h (e.Ϛ aq.symm))]
  ·rw[aD aq];by_cases h:Ϻ=k
   ·have af:(Ϻ==k)=true:=Ā.ļ h
    simp only[Y.Ϣ,af,aD (λe:Ϻ=f=>aq (h.symm.Ϛ e))]
   ·have af:(Ϻ==k)=false:=ĺ.ļ h
    simp only[Y.Ϣ,af];exact bB
theorem Bt (f:ϕ)(v:V):∀aJ:Y (ϕ×V),f∈(cu f v aJ).ϒ (·.1)/\∀Ϻ,Ϻ∈aJ.ϒ (·.1)->Ϻ∈(cu f v aJ).ϒ (·.1)
 | []=>⟨by simp[cu],λϺ h=>by simp at h⟩
 | (k,x)::r=>by
  obtain⟨fi,f9⟩:=Bt f v r;rw[show cu f v ((k,x)::r)=(if k=f then(k,v)::r else(k,x)::cu f v r) from rfl];by_cases aq:k=f
  ·rw[aS aq];subst aq;exact⟨by simp,λϺ h=>by simpa using h⟩
  ·rw[aD aq];refine⟨?_,λϺ h=>?_⟩
   ·rw[Ŷ];exact Η _ fi
   ·rw[Ŷ]at h ⊢;rcases ς.mp h with e|e
    ·exact ς.ļ (.ε e)
    ·exact Η _ (f9 Ϻ e)
theorem Gk (f:ϕ)(v:V):∀aJ:Y (ϕ×V),(cu f v aJ).N<=aJ.N+1
 | []=>by simp[cu]
 | (k,x)::r=>by
  have bB:=Gk f v r
  rw[show cu f v ((k,x)::r)=(if k=f then(k,v)::r else(k,x)::cu f v r) from rfl];by_cases aq:k=f
  ·rw[aS aq,ŵ,ŵ];omega
  ·rw[aD aq,ŵ,ŵ];omega
theorem iu.am3 {v:V}{o:ϣ ϫ}(r:iu (O v) o):∃u,o=O u/\ţ v u:=by
 cases o with
 | none=>exact(show Ō from r).Ę
 | O u=>exact⟨u,rfl,r⟩
theorem iu.am4 {o:ϣ ϫ}(r:iu none o):o=none:=by
 cases o with
 | none=>rfl
 | O u=>exact(show Ō from r).Ę
theorem PD {v:V}(r:ţ v u):ϟ.W.handedIn u=true:=by
 cases v with
 | br=>cases (show u=ϫ.none from r);rfl
 | bl b=>cases (show u=ϫ.Ã b from r);rfl
 | M i=>obtain⟨t,e⟩:=(show ∃t,u=ϫ.M i t from r);cases e;rfl
 | str x=>obtain⟨t,e⟩:=(show ∃t,u=ϫ.str x t from r);cases e;rfl
 | ka b=>obtain⟨t,e⟩:=(show ∃t,u=ϫ.bytes b t from r);cases e;rfl
 | qA b=>obtain⟨t,e⟩:=(show ∃t,u=ϫ.float b t from r);cases e;rfl
 | Z a=>cases (show u=ϫ.Z a from r);rfl
 | ty n=>cases (show u=ϫ.χ n from r);rfl
section
variable {P:Program}{w:World}{H U:ag}{h h':Heap}{a C dx:Addr}{aJ fs':List (Str×V)}
theorem yO (a9:ek Ϯ w H h)(e:H a=O (.Â Ϸ dx aJ)):∃ej,qP h a dx Ϸ ej/\(∀f,iu (aJ.Ϣ f) (ej f))/\ϟ.alA ej (aJ.ϒ (·.1))/\aJ.N<=1000/\H dx=O (.HF a):=by
 obtain⟨ϻ,z,ne,ob,ej,n,r,q⟩:=(show dG Ϯ w H h a (.Â Ϸ dx aJ) from a9 a _ e);exact⟨ej,⟨ob,n,ne⟩,r,q,z,ϻ⟩
end
structure fc (K:ş)(Ϸ:Ϩ):Prop where
 PF:alG K Ϸ ϕ.empty=true
 hd:amK K Ϸ=true
 po:plainOver K Ϸ=true
 Bu:ü K (.Z Ϸ) "__setattr__"=O (O (.ο "object.__setattr__"))
theorem fc.O4 (c:fc K Ϸ)(f:ϕ):alG K Ϸ f=true:=c.PF
def eC (K:ş)(Ϸ:Ϩ)(f:ϕ):Prop:=ü K (.Z Ϸ) f=O none
theorem eC.PH {f:ϕ}(n:eC K Ϸ f):ϟ.W.takerIn K Ϸ f=O none:=by
 unfold ϟ.W.takerIn;rw[show ü K (.Z Ϸ) f=O none from n];rfl
structure ŏ (K:ş)(Ϸ:Ϩ)(m:ϕ)(f:Ϩ):Prop where
 Ó:ü K (.Z Ϸ) m=O (O (.Z f))
 fn:isFn K (.Z f)=true
 dU:Tk K (.Z f)=true
section
variable {X:Cx}{pins:List (Addr×Obj)}{J:St}{H:ag}{s:Shared}{a C dx:Addr}{aJ:List (Str×V)}{f:Str}{v:V}{A:Around}{E:wvP}
theorem Gl {b:δ}(I:Υ X ϩ J H s)(e:H a=O (.Â Ϸ dx aJ))(c:fc X.K Ϸ)(n:eC X.K Ϸ f)(l:aJ.Ϣ f=O v)(h:∀u s',Υ X ϩ J H s'->ţ v u->Q u s'):ϙ (ώ X.ϔ X.w) Ϲ (getAttr (.Z a) f b) Q ϵ s:=by
 obtain⟨ej,ϯ,r,_,_,_⟩:=yO I.a9 e;obtain⟨u,bK,fh⟩:=iu.am3 (v:=v) (o:=ej f) (by rw[<- l];exact r f);exact Pr I.en ϯ (c.O4 f) c.hd n bK (PD fh) (h u _ (I.bn _) fh)
theorem ud {m:ϕ}{Ϻ:Ϩ}{Q:ϫ×Y ϫ->ϐ->Prop}(I:Υ X ϩ J H s)(e:H a=O (.Â Ϸ dx aJ))(c:fc X.K Ϸ)(k:ŏ X.K Ϸ m Ϻ)(l:aJ.Ϣ m=none)(h:Q (.Z Ϻ,[.Z a]) s):ϙ (ώ X.ϔ X.w) Ϲ (Ev (.Z a) m pl) Q ϵ s:=by
 obtain⟨ej,ϯ,r,_,_,_⟩:=yO I.a9 e;have aF:ej m=none:=iu.am4 (by rw[<- l];exact r m)
 exact Pt I.en ϯ (c.O4 m) k.Ó k.fn aF h
theorem Gm {y:V}{Q:O7->ϐ->Prop}(I:Υ X ϩ J H s)(e:H a=O (.Â Ϸ dx aJ))(c:fc X.K Ϸ)(n:eC X.K Ϸ f)(aw:aJ.N<1000)(bu:ţ y u)(h:∀s',Υ X ϩ J (ſ H a (.Â Ϸ dx (cu f y aJ))) s'->Q () s'):ϙ (ώ X.ϔ X.w) Ϲ (setAttr (.Z a) f u) Q ϵ s:=by
 obtain⟨ej,ϯ,r,g8,_,av⟩:=yO I.a9 e;have hz:(aJ.ϒ (·.1)).N<=ϓ:=by rw[ϧ,ρ];omega
 refine Gj I.en ϯ c.Bu c.po n.PH c.hd g8 hz λh' Bv kC=>h _ ?_;have hd:∃o,h'.ϛ dx=O o:=let⟨o,_,_,bq,_⟩:=Bv.ns;⟨o,bq⟩
 refine I.OS (x:=a) (e:=dx) (by rw[e];exact Tl.intro) (.Œ av) (λb q af z=>(kC.2 b af).Ϛ z) hd ?_;refine⟨by rwa[aE ϯ.ne],?_,ϯ.ne,Bv.Oy,_,Bv.ns,λϺ=>?_,λϺ bF=>?_⟩
 ·have:=Gk f y aJ;omega
 ·show iu ((cu f y aJ).Ϣ Ϻ) (if Ϻ=f then O u else ej Ϻ)
  rw[cL];by_cases q:Ϻ=f
  ·rwa[aS q,aS q]
  ·rw[aD q,aD q];exact r Ϻ
 ·by_cases q:Ϻ=f
  ·rw[q];exact(Bt f y aJ).1
  ·refine(Bt f y aJ).2 Ϻ (g8 Ϻ λz=>bF ?_);show(if Ϻ=f then O u else ej Ϻ)=none
   rwa[aD q]
theorem Υ.made (I:Υ X ϩ J H s):Υ X ϩ J (ſ (ſ H s.P.Ϡ.Ϥ (.HF (s.P.Ϡ.Ϥ+1))) (s.P.Ϡ.Ϥ+1) (.Â Ϸ s.P.Ϡ.Ϥ []))
  { s with P:=(s.P.Ũ ϟ.W.D_).Ũ (I7 Ϸ s.P.Ϡ.Ϥ) }:=by
 have au:(s.P.Ũ ϟ.W.D_).ϛ s.P.Ϡ.Ϥ=O ϟ.W.D_:=σ s.P rfl
 have az:((s.P.Ũ ϟ.W.D_).Ũ (I7 Ϸ s.P.Ϡ.Ϥ)).ϛ (s.P.Ϡ.Ϥ+1)=O (I7 Ϸ s.P.Ϡ.Ϥ):=by
  have:=σ (s.P.Ũ ϟ.W.D_) (o:=I7 Ϸ s.P.Ϡ.Ϥ) rfl
  rwa [act]at ν
 have bY:(s.P.Ũ ϟ.W.D_).Ns s.P.Ϡ.Ϥ (λ_=>none):=⟨ϟ.W.D_,#[],_,au,rfl,(λe he=>bJ he (by simp)),λ_=>rfl⟩
 have aK:=I.HV (a:=s.P.Ϡ.Ϥ) (o:=.HF (s.P.Ϡ.Ϥ+1)) (h':=s.P.Ũ ϟ.W.D_) (t':=s.Χ) (λb u q=>ϥ _ q) (B.ϑ _) ⟨_,au⟩
 refine aK.HV (a:=s.P.Ϡ.Ϥ+1) (o:=.Â Ϸ s.P.Ϡ.Ϥ []) (t':=s.Χ) (λb u q=>ϥ _ q) (B.le_of_eq (act _ _)) ?_;have ne:s.P.Ϡ.Ϥ≠s.P.Ϡ.Ϥ+1:=Ι (a_ _)
 refine⟨by rw[aE ne,aQ],ł _,ne,az,λ_=>none,(Θ.Ns1.of_empty bY).at λo q=>ϥ _ q,λ_=>Tl.intro,λy aU=>bJ rfl aU⟩
theorem PJ {f:ϕ}{s:ϐ}(af:Å e f ό (ŗ e ό)=ŗ e ό)(h:ϙ (ώ ϔ w) Ϲ (ŗ e ό) (λo eg=>ϙ (ώ ϔ w) Ϲ (getAttr o f true) Q ϵ eg) ϵ s):ϙ (ώ ϔ w) Ϲ (ŗ (.ŝ e f ŷ) ό) Q ϵ s:=
 Attribute_any_ h (by rw[arm_eval_Attribute,af])
end
def Bw (K:ş)(bo:TE)(f:ϕ):TE:=λJ H Q=>bo J H λx H1=>∃a Ϸ dx aJ v,x=.Z a/\H1 a=O (.Â Ϸ dx aJ)/\fc K Ϸ/\eC K Ϸ f/\aJ.Ϣ f=O v/\Q v H1
def Bx (K:ş)(bo fy:TE)(f:ϕ):dn:=λ϶ J H=>fy J H λy H1=>bo J H1 λx aC=>∃a Ϸ dx aJ,x=.Z a/\aC a=O (.Â Ϸ dx aJ)/\fc K Ϸ/\eC K Ϸ f/\aJ.N<1000/\
 ϶.aP J (ſ aC a (.Â Ϸ dx (cu f y aJ)))
def Gn (X:Cx)(op:ahX)(iy:V->V->ag->a8->Prop):Prop:=
 ∀(ϩ:Y (Ϩ×ğ))(s:ϐ)(J:St)(H:ag)(x y:V)(u v:ϫ)(Q:a8),Υ X ϩ J H s->ţ x u->ţ y v->iy x y H Q->ϙ (ώ X.ϔ X.w) X.Ϲ (amJ op u v) (gs X ϩ J Q) X.c0 s
def zcy (K:ş)(bo fy:TE)(iy:V->V->ag->a8->Prop)(f:ϕ):dn:=λ϶ J H=>bo J H λx H1=>∃a Ϸ dx aJ v,x=.Z a/\H1 a=O (.Â Ϸ dx aJ)/\fc K Ϸ/\eC K Ϸ f/\aJ.Ϣ f=O v/\
 fy J H1 λy aC=>iy v y aC λz bw=>∃iY fs',bw a=O (.Â Ϸ iY fs')/\fs'.N<1000/\϶.aP J (ſ bw a (.Â Ϸ iY (cu f z fs')))
section
variable {X:Cx}{o e value:Expr}{f:Str}{pos pos' kc:Pos}{bo fy:TE}
theorem cq (he:PE X e bo)(af:Å e f X.ό (ŗ e X.ό)=ŗ e X.ό):PE X (.ŝ e f ŷ) (Bw X.K bo f):=by
 intro ϩ s J H Q I h;refine PJ af (bA (he ϩ s J H _ I h) λu s1 gy=>?_);refine L2.IS λUq uq=>?_;obtain⟨x,H1,aK,bc,a,Ϸ,dx,aJ,v,ex,a6,c,n,l,q⟩:=gy;refine uq ?_;clear uq Uq;subst ex;obtain rfl:u=ϫ.Z a:=bc;exact Gl aK a6 c n l λl6 s2 bt fh=>⟨v,H1,bt,fh,q⟩
theorem gL (aN:PE X o bo)(aG:PE X IN fy)(aH:wn IN (O (.ŝ o f OJ)) ŷ.cr X.ό=Ă false):PS X (.ajC [.ŝ o f OJ] IN ŷ) (Bx X.K bo fy f):=by
 intro ϩ s J H ϶ I h;refine xL (bA (aG ϩ s J H _ I h) λu s1 ⟨y,H1,aK,bu,q⟩=>bA (aN ϩ s1 J H1 _ aK q) λdT s2 gy=>?_) aH;refine L2.IS λUq uq=>?_;obtain⟨x,aC,bt,bc,a,Ϸ,dx,aJ,ex,a6,c,n,l,b9⟩:=gy;refine uq ?_;clear uq Uq;subst ex;obtain rfl:dT=ϫ.Z a:=bc;exact Gm bt a6 c n l bu λs3 dc=>⟨J,_,dc,b9⟩
theorem PK {op:ahX}{iy:V->V->ag->a8->Prop}(aN:PE X o bo)(aG:PE X IN fy)(PL:Gn X op iy):PS X (.akw (.ŝ o f kc) op IN ŷ) (zcy X.K bo fy iy f):=by
 intro ϩ s J H ϶ I h;refine wpAny_AugAssign_AttributeAny (bA (aN ϩ s J H _ I h) λdT s1 gy=>?_);refine L2.IS λUq uq=>?_;obtain⟨x,H1,aK,bc,a,Ϸ,dx,aJ,v,ex,a6,c,n,l,q⟩:=gy;refine uq ?_;clear uq Uq;subst ex;obtain rfl:dT=ϫ.Z a:=bc;refine Gl aK a6 c n l λu s2 bt fh=>bA (aG ϩ s2 J H1 _ bt q) λqI s3 ⟨y,aC,dc,bu,eV⟩=>bA (PL ϩ s3 J aC v y u qI _ dc fh bu eV) λafN s4 gy=>?_;refine L2.IS λUq uq=>?_;obtain⟨z,bw,hl,By,iY,fs',PM,ue,kD⟩:=gy;refine uq ?_;clear uq Uq;exact Gm hl PM c n ue By λs5 md=>⟨J,_,md,kD⟩
def Bz:V->V->ag->a8->Prop:=λx y H Q=>∃i j,x=.M i/\y=.M j/\Q (.M (i+j)) H
theorem PN:Gn X .Add Bz:=by
 rintro ϩ s J H x y u v Q I bc bu ⟨i,j,rfl,rfl,q⟩;obtain⟨t,rfl⟩:=(show ∃t,u=ϫ.M i t from bc);obtain⟨t',rfl⟩:=(show ∃t',v=ϫ.M j t' from bu);exact Ĥ.KK.iadd_int ⟨.M (i+j),H,I.bn _,⟨_,rfl⟩,q⟩
end
section
variable {X:Cx}{pins:List (Addr×Obj)}{J:St}{H:ag}{s:Shared}{A:Around}{E:wvP}{Q:wvP}{c:Value}{b:Bool}
inductive hr (K:ş)(H:ag):V->ϫ->Prop where
 | br:hr K H .br (.χ "NoneType")
 | bl (x:δ):hr K H (.bl x) (.χ "bool")
 | M (i:G):hr K H (.M i) (.χ "int")
 | str (x:ϕ):hr K H (.str x) (.χ "str")
 | qA (x:UInt64):hr K H (.qA x) (.χ "float")
 | Ť {a:Ϩ}{F:Y V}(e:H a=O (.Ť F)):hr K H (.Z a) (.χ "list")
 | cW {a:Ϩ}{o:ğ}{F:Y V}(e:H a=O (.cW o (.Ť F))):hr K H (.Z a) (.χ "list")
 | Ţ {a:Ϩ}{F:Y V}(e:H a=O (.Ţ F)):hr K H (.Z a) (.χ "tuple")
 | bL {a:Ϩ}{Ϝ:Y (Ř×V)} (e:H a=O (.bL Ϝ)):hr K H (.Z a) (.χ "dict")
 | bQ {a:Ϩ}{Ϝ:Y (Y Ř×V)} (e:H a=O (.bQ Ϝ)):hr K H (.Z a) (.χ "dict")
 | Â {a Ϸ dx:Ϩ}{aJ:Y (ϕ×V)} (e:H a=O (.Â Ϸ dx aJ)) (cl:fc K Ϸ) (aN:ü K (.Z Ϸ) "__class__"=O (O (.ο "object.__class__")))
   (aF:specialIn K (.ο "object.__class__") "__get__"=O (O (.ο "getset_descriptor.__get__"))) (qQ:takesIn K (.ο "object.__class__")=O true)
   (hm:mroIn K Ϸ (.χ "object")=O true):hr K H (.Z a) (.Z Ϸ)
theorem Gp {x:V}{t:ϫ}(I:Υ X ϩ J H s)(bc:ţ x u)(ty:hr X.K H x t)(e:IV X.K t c=O b)(h:∀tk,Q (.Ã b) { s with Χ:=tk }):
  ϙ (ώ X.ϔ X.w) Ϲ (WP (.ο "isinstance") [u,c]) Q ϵ s:=by
 cases ty with
 | br=>cases (show u=ϫ.none from bc);exact r_ ϟ.W.kitx_none I.en Tl.intro e (λz=>nomatch z) h
 | bl y=>cases (show u=ϫ.Ã y from bc);exact r_ ϟ.W.kitx_bool I.en Tl.intro e (λz=>nomatch z) h
 | M i=>obtain⟨t,q⟩:=(show ∃t,u=ϫ.M i t from bc);cases q;exact r_ ϟ.W.kitx_int I.en Tl.intro e (λz=>nomatch z) h
 | str y=>obtain⟨t,q⟩:=(show ∃t,u=ϫ.str y t from bc);cases q;exact r_ ϟ.W.kitx_str I.en Tl.intro e (λz=>nomatch z) h
 | qA y=>obtain⟨t,q⟩:=(show ∃t,u=ϫ.float y t from bc);cases q;exact r_ ϟ.W.kitx_float I.en Tl.intro e (λz=>nomatch z) h
 | @Ť a F a6=>
  cases (show u=ϫ.Z a from bc);obtain⟨_,_,n,_,g⟩:=(show dG X.ϔ X.w H s.P a (.Ť F) from I.a9 a _ a6);exact r_ ϟ.W.kitx_list I.en ⟨_,g,rfl⟩ e (λz=>nomatch z) h
 | @cW a ob F a6=>
  cases (show u=ϫ.Z a from bc);obtain⟨_,_,_,n,_,g⟩:=(show dG X.ϔ X.w H s.P a (.cW ob (.Ť F)) from I.a9 a _ a6);exact r_ ϟ.W.kitx_list I.en ⟨_,g,rfl⟩ e (λz=>nomatch z) h
 | @Ţ a F a6=>
  cases (show u=ϫ.Z a from bc);obtain⟨_,_,_,p⟩:=(show dG X.ϔ X.w H s.P a (.Ţ F) from I.a9 a _ a6);obtain⟨o,g,ah,_⟩:=p;exact r_ ϟ.W.kitx_tuple I.en ⟨o,g,ah⟩ e (λz=>nomatch z) h
 | @bL a Ϝ a6=>
  cases (show u=ϫ.Z a from bc);obtain⟨_,_,d,_,p⟩:=(show dG X.ϔ X.w H s.P a (.bL Ϝ) from I.a9 a _ a6);obtain⟨o,C,cw,g,ah,_⟩:=p;exact r_ ϟ.W.kitx_dict I.en ⟨o,g,ah.1⟩ e (λz=>nomatch z) h
 | @bQ a Ϝ a6=>
  cases (show u=ϫ.Z a from bc);obtain⟨_,_,F,_,o,C,cw,g,ah,_⟩:=(show dG X.ϔ X.w H s.P a (.bQ Ϝ) from I.a9 a _ a6);exact r_ ϟ.W.kitx_dict I.en ⟨o,g,ah.1⟩ e (λz=>nomatch z) h
 | @Â a Ϸ dx aJ a6 cl aN aF qQ hm=>
  cases (show u=ϫ.Z a from bc);obtain⟨ej,ϯ,_⟩:=yO I.a9 a6;obtain⟨cO,cD,_⟩:=ϯ.look;exact r_ (ϟ.W.kitx_own (cl.O4 _) cl.hd aN aF qQ hm) I.en cD e (λz=>nomatch z) h
end
structure dw (k:B)(Ϲ:ŕ):Prop where
 hd:Ϲ.Ē=none
 gb:Ϲ.Ol+3*k+5<al0
 un:Ϲ.õ+16*k+200<ä
theorem dw.WF {k:B}(r:dw k Ϲ)(h:j<=k):dw j Ϲ:=⟨r.hd,by have:=r.gb;omega,by have:=r.un;omega⟩
theorem dw.Ê {k:B}(r:dw (k+1) Ϲ)(ό:OF):dw k (Ϲ.Ê ό):=
 ⟨r.hd,by have:=r.gb;show Ϲ.Ol+1+3*k+5<_;omega,by have:=r.un;show Ϲ.õ+3+16*k+200<_;omega⟩
theorem PO:(Ϲ.OT (.ο "type.__call__" ⟨.Z Ϸ::us,kw⟩)).Ol=Ϲ.Ol+1:=by
 first|rfl|simp[ŕ.OT,OP.weight,OP.isCreation,OP.isGuard,OP.isCaller,OP.ç,OP.isFrame,guardIds]
theorem PQ:(Ϲ.OT (.ο "type.__call__" ⟨.Z Ϸ::us,kw⟩)).õ=Ϲ.õ+1:=by
 first|rfl|simp[ŕ.OT,OP.cUnits,OP.ç,OP.isFrame]
theorem dw.make {k:B}(r:dw (k+1) Ϲ)(Ϸ:Ϩ)(us:Y ϫ)(kw:Y (ϕ×ϫ)):dw k (Ϲ.OT (.ο "type.__call__" ⟨.Z Ϸ::us,kw⟩)):=
 ⟨r.hd,by have:=r.gb;rw[PO];omega,by have:=r.un;rw[PQ];omega⟩
theorem dw.Ol {k:B}(r:dw k Ϲ):Ϲ.Ol<al0:=by have:=r.gb;omega
theorem dw.õ {k:B}(r:dw k Ϲ):Ϲ.õ+64<ä:=by have:=r.un;omega
theorem dw.ahg {k:B}(r:dw k Ϲ):Ϲ.õ<ä:=by have:=r.un;omega
def lC:du:=λ_ H Q=>Q [] H
def zje (bo:TE)(fe:du):du:=λJ H Q=>bo J H λx H1=>fe J H1 λF aC=>Q (x::F) aC
section
variable {X:Cx}{e:Expr}{es:List Expr}{bT:TE}{t:du}{pos:Pos}
theorem aB:PA X [] lC:=λ_ _ _ _ H Q I h=>ê.PP ⟨[],H,I,.ń,h⟩
theorem PT (aN:PE X e bT)(aO:PA X C t)(aH:Ϫ (ω (e::C) X.ό=(false,ŗ e X.ό)::ω C X.ό) dA._auto_1):PA X (e::C) (zje bT t):=by
 intro ŷ ϩ s J H Q I h;rw[aH];show ϙ _ _ (spliced ((false,ŗ e X.ό)::ĕ ŷ (ω C X.ό))) _ _ s
 refine ê.Ì (bA (aN ϩ s J H _ I h) λu s1 ⟨x,H1,aK,bG,a3⟩=>?_);exact bA (aO ŷ ϩ s1 J H1 _ aK a3) λus s2 ⟨F,aC,bt,bW,b9⟩=>⟨x::F,aC,bt,.θ bG bW,b9⟩
def BA (t:du):TE:=λJ H Q=>t J H λF H1=>F.N<=ϓ/\∀p,H1 p=none->Q (.Z p) (ſ H1 p (.Ţ F))
def BB (t:du):TE:=λJ H Q=>t J H λF H1=>F.N<=ϓ/\∀p,H1 p=none->Q (.Z p) (ſ H1 p (.Ť F))
theorem fs {x1}(h:PA X C t):PE X (.w_ C x1 ŷ) (BA t):=by
 intro ϩ s J H Q I ao;refine wpAny_Tuple_spliced (bA (h ŷ ϩ s J H _ I ao) λus s1 ⟨F,H1,aK,r,z,q⟩=>⟨by rwa[<- r.N],?_⟩);have hf:H1 s1.P.Ϡ.Ϥ=none:=aK.a9.Ĳ (B.ϑ _)
 refine⟨.Z s1.P.Ϡ.Ϥ,ſ H1 s1.P.Ϡ.Ϥ (.Ţ F),aK.HV (t':=s1.Χ) (λb u e=>ϥ _ e) (B.ϑ _) ?_,rfl,q _ hf⟩;exact⟨z,us,r,⟨_,σ _ rfl,rfl,_,rfl⟩⟩
theorem jg (h:PA X C t):PE X (.Y C ŷ) (BB t):=by
 intro ϩ s J H Q I ao;refine wpAny_List_spliced (bA (h ŷ ϩ s J H _ I ao) λus s1 ⟨F,H1,aK,r,z,q⟩=>⟨by rwa[<- r.N],?_⟩);have hf:H1 s1.P.Ϡ.Ϥ=none:=aK.a9.Ĳ (B.ϑ _)
 refine⟨.Z s1.P.Ϡ.Ϥ,ſ H1 s1.P.Ϡ.Ϥ (.Ť F),aK.HV (t':=s1.Χ) (λb u e=>ϥ _ e) (B.ϑ _) ?_,rfl,q _ hf⟩;exact⟨z,us,0,r,σ _ rfl⟩
end
abbrev ep:=Y V->ag->a8->bz->Prop
abbrev iz:=Y OF->ag->ϐ->bz->Bh
structure pn (Ϯ:Č)(w:Þ)(K:ş)(mg:ϕ->ϣ ϫ)(ϊ:Θ)(Ϲ:ŕ)(Ϗ:Y OF)(s:ϐ)(H:ag):Prop where
 ç:Ϲ.ç=O Ϗ
 Om:Mod K mg ϊ
 bs:∀b o,ϊ.ϛ b=O o->s.P.ϛ b=O o/\H b=none
 ky:ϊ.Ϡ.Ϥ<=s.P.Ϡ.Ϥ
 hK:s.P.ZB ϊ Ϗ
 kz:∀b∈eu Ϗ,H b=none
 a9:ek Ϯ w H s.P
 Rs:sw s.Ot
def yP (Ϗ:Y OF)(Ϯ:Č)(w:Þ)(H:ag)(s:ϐ)(Q:a8)(u:ϫ)(s':ϐ):Prop:=
 ∃v U,s'.os=s.os/\sw s'.Ot/\f5 (eu Ϗ) [] H U s.P s'.P/\ek Ϯ w U s'.P/\ţ v u/\Q v U
def BC (dz:iz)(Ϗ:Y OF)(Ϯ:Č)(w:Þ)(H:ag)(s:ϐ)(Q:a8)(ϵ:bz)(r:anZ)(s':ϐ):Prop:=
 match r with
 | .ok (.b8 u)=>yP Ϗ Ϯ w H s Q u s'
 | .ok _=>Ō
 | .OK e=>dz Ϗ H s ϵ e s'
structure ft (Ϯ:Č)(w:Þ)(K:ş)(mg:ϕ->ϣ ϫ)(ϊ:Θ)(dz:iz)(k:B)(f:Ϩ)(fd:Ix)(ps:Y ϕ)(sp:ep):Prop where
 SC:∀d H Q ϵ,sp d H Q ϵ->d.N=ps.N
 run:∀(Ϲ:ŕ)(Ϗ:Y OF)(s:ϐ)(H:ag)(args:Args)(us:Y ϫ)(d:Y V)(Q:a8)(ϵ:bz),dw k Ϲ->pn Ϯ w K mg ϊ Ϲ Ϗ s H->bv s fd args (ps.OU us)->ś d us->sp d H Q ϵ->
  Ø (ώ Ϯ w) Ϲ (.WP (.Z f) args) (BC dz Ϗ Ϯ w H s Q ϵ) s
theorem ft.WF {dz:iz}{k:B}{sp:ep}(ϴ:ft Ϯ w K mg ϊ dz j f fd ps sp)(h:j<=k):
  ft Ϯ w K mg ϊ dz k f fd ps sp:=⟨ϴ.SC,λϹ Ϗ s H args us d Q ϵ aO=>ϴ.run Ϲ Ϗ s H args us d Q ϵ (aO.WF h)⟩
theorem pn.make {H:ag}(e:pn Ϯ w K mg ϊ Ϲ Ϗ s H)(Ϸ:Ϩ)(us:Y ϫ)(kw:Y (ϕ×ϫ)):
  pn Ϯ w K mg ϊ (Ϲ.OT (.ο "type.__call__" ⟨.Z Ϸ::us,kw⟩)) Ϗ s H:=⟨by first|exact e.ç|(simpa [ŕ.OT,OP.envs,OP.isFrame,pushEnvs] using e.ç),e.Om,e.bs,e.ky,e.hK,e.kz,e.a9,e.Rs⟩
section
variable {X:Cx}{pins:List (Addr×Obj)}{J:St}{H:ag}{s s':Shared}
theorem Υ.uf (I:Υ X ϩ J H s):pn X.ϔ X.w X.K X.mg X.ϊ X.Ϲ X.ą s H:=
 ⟨I.ok.ç,I.ok.Om,I.bs,B.Ķ I.ok.ky I.fP,I.ą,I.yv,I.a9,I.Rs⟩
theorem Υ.amE {Q:a8}(I:Υ X ϩ J H s)(h:yP X.ą X.ϔ X.w H s Q u s'):gs X ϩ J Q u s':=by
 obtain⟨v,U,os,Rs,un,a9,r,q⟩:=h;obtain⟨bj,Ϻ,ϻ,t,PU⟩:=s';obtain rfl:PU=s.os:=os;exact⟨v,U,I.WP (h':=bj) (g':=Ϻ) (d':=ϻ) (t':=t) (ch:=[]) un a9 Rs (λb z=>bJ z (by simp)),r,q⟩
end
def qR (sp:ep)(dY:Y V)(ϵ:bz)(t:du):TE:=λJ H Q=>t J H λd H1=>sp (d++dY) H1 Q ϵ
def ug (Ϸ:Ϩ)(m:ϕ)(sp:ep)(dY:Y V)(ϵ:bz)(bo:TE)(t:du):TE:=λJ H Q=>bo J H λx H1=>∃a dx aJ,x=.Z a/\H1 a=O (.Â Ϸ dx aJ)/\aJ.Ϣ m=none/\
 t J H1 λd aC=>sp (x::(d++dY)) aC Q ϵ
def pq (Ϸ:Ϩ)(sp:ep)(dY:Y V)(ϵ:bz)(t:du):TE:=λJ H Q=>t J H λd H1=>∀x dx,H1 x=none->H1 dx=none->dx≠x->
 sp (.Z x::(d++dY)) (ſ (ſ H1 dx (.HF x)) x (.Â Ϸ dx [])) (λv aC=>v=.br/\Q (.Z x) aC) ϵ
def ô (K:ş)(fd:Ix)(ps:Y ϕ)(ds:Y ϫ):Prop:=
 ∀(s:ϐ)(us:Y ϫ),K.In s.P->(us++ds).N=ps.N->bv s fd ⟨us,[]⟩ (ps.OU (us++ds))
theorem ô.IY (h:∀us:Y ϫ,us.N=ps.N->Ho fd ⟨us,[]⟩=Ă (ps.OU us)):ô K fd ps []:=λs us _ aw=>by
 rw[ċ]at aw ⊢;exact .of_eq (h us aw)
def pv (dz:iz)(X:Cx)(ϵ:bz):Prop:=∀(ϩ:Y (Ϩ×ğ))(J:St)(H:ag)(s:ϐ)(e:ϫ)(s':ϐ),Υ X ϩ J H s->dz X.ą H s ϵ e s'->X.c0 e s'
section
variable {X:Cx}{dz:iz}{k:Nat}{f C:Addr}{fd:FuncData}{ps:List Str}{sp:ep}{dY:List V}{ds:List Value}{E:bz}{x m:Str}{p pos apos:Pos}{e o:Expr}{es:List Expr}{bo:TE}{t:du}
theorem uh {J:St}{H:ag}{Q:a8}{d:Y V}(ϴ:ft X.ϔ X.w X.K X.mg X.ϊ dz k f fd ps sp)(aO:dw k X.Ϲ)(af:ô X.K fd ps ds)(hd:ś dY ds)(ai:pv dz X ϵ)(I:Υ X ϩ J H s)(r:ś d us)(h:sp (d++dY) H Q ϵ):ϙ (ώ X.ϔ X.w) X.Ϲ (WP (.Z f) us) (gs X ϩ J Q) X.c0 s:=by
 have bW:ś (d++dY) (us++ds):=r.I4 hd
 have aw:(us++ds).N=ps.N:=by rw[<- bW.N];exact ϴ.SC _ _ _ _ h
 refine v_ (Wp (ϴ.run X.Ϲ X.ą s H ⟨us,[]⟩ (us++ds) (d++dY) Q ϵ aO I.uf (af s us I.en aw) bW h) λr s' ao=>?_);cases r with
 | OK e=>exact ai ϩ J H s e s' I ao
 | ok aZ=>
  cases aZ with
  | b8 u=>exact I.amE ao
  | next=>exact Ō.Ę ao
  | Pa=>exact Ō.Ę ao
  | Ou=>exact Ō.Ę ao
theorem Gq (ϴ:ft X.ϔ X.w X.K X.mg X.ϊ dz k f fd ps sp)(aO:dw k X.Ϲ)(bF:fb X x)(hm:X.mg x=O (.Z f))(aq:Tk X.K (.Z f)=true)(af:ô X.K fd ps ds)(hd:ś dY ds)(ai:pv dz X ϵ)(aN:PA X (e::C) t)(Oo:Ϫ ((x==("__debug__":ϕ))=false) dB._auto_1)(he:Ϫ (ω (e::C) X.ό=(false,ŗ e X.ό)::ω C X.ό) dA._auto_1)(Tm:Ϫ ((ĕ ŷ (ω C X.ό)).J_ (·.1)=false) dA._auto_1):
  PE X (.č (.ĸ x p) (e::C) [] ŷ) (qR sp dY ϵ t):=by
 intro ϩ s J H Q I h;refine Ł (pb I bF hm ?_ Oo);refine ahm (h₀:=X.ϊ) I.ok.Om.jf aq (bA (aN ŷ ϩ s J H _ I h) λus s1 ⟨d,H1,aK,r,q⟩=>⟨aK.en,?_⟩) he Tm;exact uh ϴ aO af hd ai aK r q
theorem PV (he:PE X o bo)(c:fc X.K Ϸ)(hm:ŏ X.K Ϸ m f)(ϴ:ft X.ϔ X.w X.K X.mg X.ϊ dz k f fd ps sp)(aO:dw k X.Ϲ)(af:ô X.K fd ps ds)(hd:ś dY ds)(ai:pv dz X ϵ)(aN:PA X (e::C) t)(wE:Ϫ (ω (e::C) X.ό=(false,ŗ e X.ό)::ω C X.ό) dA._auto_1)(Tm:Ϫ ((ĕ ŷ (ω C X.ό)).J_ (·.1)=false) dA._auto_1)(bk:Ϫ (ŗ (.č (.ŝ o m Re) (e::C) [] ŷ) X.ό=(do
   let dT <- ŗ o X.ό
   ss Re.akt
   let(f,first) <- Î [dT] (Ev dT m pl)
   ol ŷ f first (ĕ ŷ (ω (e::C) X.ό)) (UV ŷ (Ą [] X.ό)))) dA._auto_1):
  PE X (.č (.ŝ o m Re) (e::C) [] ŷ) (ug Ϸ m sp dY ϵ bo t):=by
 intro ϩ s J H Q I h;refine q_ (pl:=pl) (bA (he ϩ s J H _ I h) λu s1 gy=>?_) bk;refine L2.IS λUq uq=>?_;obtain⟨x,H1,aK,bc,a,dx,aJ,ex,a6,l,q⟩:=gy;refine uq ?_;clear uq Uq;subst ex;obtain rfl:u=ϫ.Z a:=bc;refine ud aK a6 c hm l ?_;refine ahm (first:=[.Z a]) (h₀:=X.ϊ) I.ok.Om.jf hm.dU (bA (aN ŷ ϩ s1 J H1 _ aK q) λus s2 ⟨d,aC,bt,r,b9⟩=>⟨bt.en,?_⟩) wE Tm;exact uh (us:=.Z a::us) (d:=.Z a::d) ϴ aO af hd ai bt (.θ rfl r) b9
theorem Gr (he:PE X o bo)(c:fc X.K Ϸ)(hm:ŏ X.K Ϸ m f)(ϴ:ft X.ϔ X.w X.K X.mg X.ϊ dz k f fd ps sp)(aO:dw k X.Ϲ)(af:ô X.K fd ps ds)(hd:ś dY ds)(ai:pv dz X ϵ)(bk:Ϫ (ŗ (.č (.ŝ o m Re) [] [] ŷ) X.ό=(do
   let dT <- ŗ o X.ό
   ss Re.akt
   let(f,first) <- Î [dT] (Ev dT m pl)
   ol ŷ f first (ĕ ŷ (ω [] X.ό)) (UV ŷ (Ą [] X.ό)))) dA._auto_1):
  PE X (.č (.ŝ o m Re) [] [] ŷ) (ug Ϸ m sp dY ϵ bo lC):=by
 intro ϩ s J H Q I h;refine q_ (pl:=pl) (bA (he ϩ s J H _ I h) λu s1 gy=>?_) bk;refine L2.IS λUq uq=>?_;obtain⟨x,H1,aK,bc,a,dx,aJ,ex,a6,l,q⟩:=gy;refine uq ?_;clear uq Uq;subst ex;obtain rfl:u=ϫ.Z a:=bc;refine ud aK a6 c hm l ?_;exact ϟ.W.akW (first:=[.Z a]) aK.en hm.dU (uh (us:=[.Z a]) (d:=[.Z a]) ϴ aO af hd ai aK (.θ rfl .ń) q)
structure h9 (K:ş)(Ϸ f:Ϩ):Prop where
 makes:makesIn K Ϸ=true
 init:ü K (.Z Ϸ) "__init__"=O (O (.Z f))
 fn:isFn K (.Z f)=true
 dU:Tk K (.Z Ϸ)=true
theorem Gs {J:St}{H:ag}{Q:a8}{d:Y V}(ϱ:h9 X.K Ϸ f)(ϴ:ft X.ϔ X.w X.K X.mg X.ϊ dz k f fd ps sp)(aO:dw (k+1) X.Ϲ)(af:ô X.K fd ps ds)(hd:ś dY ds)(ai:pv dz X ϵ)(I:Υ X ϩ J H s)(r:ś d us)(h:∀x dx,H x=none->H dx=none->dx≠x->sp (.Z x::(d++dY)) (ſ (ſ H dx (.HF x)) x (.Â Ϸ dx [])) (λv aC=>v=.br/\Q (.Z x) aC) ϵ):
  ϙ (ώ X.ϔ X.w) X.Ϲ (WP (.Z Ϸ) us) (gs X ϩ J Q) X.c0 s:=by
 have ao:=h (s.P.Ϡ.Ϥ+1) s.P.Ϡ.Ϥ (I.a9.Ĳ (am5 _)) (I.a9.Ĳ (B.ϑ _)) (Ι (a_ _))
 have bt:=Υ.made (Ϸ:=Ϸ) I
 have bW:ś (V.Z (s.P.Ϡ.Ϥ+1)::(d++dY)) (ϫ.Z (s.P.Ϡ.Ϥ+1)::(us++ds)):=.θ rfl (r.I4 hd)
 have aw:(ϫ.Z (s.P.Ϡ.Ϥ+1)::us++ds).N=ps.N:=by
  have e:=bW.N
  rw[ϴ.SC _ _ _ _ ao]at e;exact e.symm
 refine v_ (PC (f:=f) I.en ϱ.makes ϱ.init (Ā.mp ϱ.fn) (Wp (ϴ.run _ X.ą _ _ ⟨ϫ.Z (s.P.Ϡ.Ϥ+1)::us,[]⟩ (ϫ.Z (s.P.Ϡ.Ϥ+1)::(us++ds)) _ _ ϵ (aO.make Ϸ us [])
  (bt.uf.make Ϸ us []) (af _ (ϫ.Z (s.P.Ϡ.Ϥ+1)::us) bt.en aw) bW ao) λr s' dV=>?_))
 cases r with
 | OK e=>exact ai ϩ J _ _ e s' bt dV
 | ok aZ=>
  cases aZ with
  | b8 u=>
   obtain⟨v,U,dc,ck,ev,eV⟩:=bt.amE dV;subst ev;exact⟨ck,⟨V.Z (s.P.Ϡ.Ϥ+1),U,dc,rfl,eV⟩⟩
  | next=>exact Ō.Ę dV
  | Pa=>exact Ō.Ę dV
  | Ou=>exact Ō.Ę dV
theorem PW (ϱ:h9 X.K Ϸ f)(ϴ:ft X.ϔ X.w X.K X.mg X.ϊ dz k f fd ps sp)(aO:dw (k+1) X.Ϲ)(bF:fb X x)(hm:X.mg x=O (.Z Ϸ))(af:ô X.K fd ps ds)(hd:ś dY ds)(ai:pv dz X ϵ)(aN:PA X (e::C) t)(Oo:Ϫ ((x==("__debug__":ϕ))=false) dB._auto_1)(he:Ϫ (ω (e::C) X.ό=(false,ŗ e X.ό)::ω C X.ό) dA._auto_1)(Tm:Ϫ ((ĕ ŷ (ω C X.ό)).J_ (·.1)=false) dA._auto_1):
  PE X (.č (.ĸ x p) (e::C) [] ŷ) (pq Ϸ sp dY ϵ t):=by
 intro ϩ s J H Q I h;refine Ł (pb I bF hm ?_ Oo);refine ahm (h₀:=X.ϊ) I.ok.Om.jf ϱ.dU (bA (aN ŷ ϩ s J H _ I h) λus s1 ⟨d,H1,aK,r,q⟩=>⟨aK.en,?_⟩) he Tm;exact Gs ϱ ϴ aO af hd ai aK r q
theorem PX (ϱ:h9 X.K Ϸ f)(ϴ:ft X.ϔ X.w X.K X.mg X.ϊ dz k f fd ps sp)(aO:dw (k+1) X.Ϲ)(bF:fb X x)(hm:X.mg x=O (.Z Ϸ))(af:ô X.K fd ps ds)(hd:ś dY ds)(ai:pv dz X ϵ)(Oo:Ϫ ((x==("__debug__":ϕ))=false) dB._auto_1):PE X (.č (.ĸ x p) [] [] ŷ) (pq Ϸ sp dY ϵ lC):=by
 intro ϩ s J H Q I h;refine Ł (pb I bF hm ?_ Oo);exact ϟ.W.akW I.en ϱ.dU (Gs (us:=[]) ϱ ϴ aO af hd ai I .ń h)
end
def BD (X:Cx)(ui:Y TX)(t:du):Prop:=
 ∀(ŷ:Ox)(ϩ:Y (Ϩ×ğ))(s:ϐ)(J:St)(H:ag)(Q:Y V->ag->Prop),Υ X ϩ J H s->t J H Q->ϙ (ώ X.ϔ X.w) X.Ϲ (evalAll ((UV ŷ (Ą ui X.ό)).ϒ (·.2))) (FZ X ϩ J Q) X.c0 s
section
variable {X:Cx}{dz:iz}{k:Nat}{f C:Addr}{fd:FuncData}{ps ks:List Str}{sp:ep}{E:bz}{x m:Str}{p pos apos BE:Pos}{e o:Expr}{es:List Expr}{ui:List Keyword}{bT bo:TE}{t tk:du}{nm:Option Str}
theorem Gu:BD X [] lC:=λ_ _ _ _ H Q I h=>wpAny_evalAll_nil ⟨[],H,I,.ń,h⟩
theorem Gv (aN:PE X e bT)(aO:BD X ui t):BD X (⟨nm,e,BE⟩::ui) (zje bT t):=by
 intro ŷ ϩ s J H Q I h;show ϙ _ _ (evalAll ((do let v <- ŗ e X.ό;ss ŷ;Ă v)::(UV ŷ (Ą ui X.ό)).ϒ (·.2))) _ _ s
 refine wpAny_evalAll_cons (ax (bA (aN ϩ s J H _ I h) λu s1 ⟨x,H1,aK,bG,a3⟩=>ax (Æ (bp ?_))));exact bA (aO ŷ ϩ s1 J H1 _ aK a3) λus s2 ⟨F,aC,bt,bW,b9⟩=>⟨x::F,aC,bt,.θ bG bW,b9⟩
variable {g:List Value->List Value->List Value}{afO:List V->List V->List V}
end
structure n2 (ϰ Ϯ:Y ϕ)(sc:IK):Prop where
 î:sc.î=.ā
 co:sc.aiS=false
 gen:sc.aiT=false
 nd:ϰ.Α
 pre:ϰ.ĵ Ϯ.N=Ϯ
 par:∀x∈Ϯ,sc.Λ.Ϣ x=O .local\/sc.Λ.Ϣ x=O .φ
 PY:∀y∈sc.Λ,y.2≠.Ź
theorem Gw {ŀ:ϕ->ϣ Ű}{x:ϕ}:∀{zv:Y (ϕ×ϫ)}{m:ϕ->ϣ ϫ},(∀v,(x,v) ∉ zv)->alu ŀ zv m x=m x
 | [],_,_=>rfl
 | (n,v)::r,m,h=>by
  unfold alu;rw[Gw λw hw=>h w (Η _ hw)];split
  ·have:x≠n:=by rintro rfl;exact h v ľ
   simp[ν]
  ·rfl
theorem Gx {ŀ:ϕ->ϣ Ű}{x:ϕ}:∀{zv:Y (ϕ×ϫ)}{m:ϕ->ϣ ϫ},(∀v,(x,v) ∉ zv)->alv ŀ zv m x=m x
 | [],_,_=>rfl
 | (n,v)::r,m,h=>by
  unfold alv;rw[Gx λw hw=>h w (Η _ hw)];split
  ·rfl
  ·have:x≠n:=by rintro rfl;exact h v ľ
   simp[ν]
theorem Gy {ŀ:ϕ->ϣ Ű}{x:ϕ}{v:ϫ}:∀{Ϯ:Y ϕ}{d:Y ϫ}{i:B}{m:ϕ->ϣ ϫ},Ϯ.Α->Ϯ[i]?=O x->d[i]?=O v->ŀ x=O .local->
  alu ŀ (Ϯ.OU d) m x=O v
 | [],_,_,_,_,h,_,_=>by simp at h
 | _::_,[],_,_,_,_,h,_=>by simp at h
 | p::Ϯ,w::d,0,m,nd,g,ah,aq=>by
  simp at g ah;subst g;subst ah;show alu ŀ ((p,w)::Ϯ.OU d) m p=_
  unfold alu;rw[Gw λv aG=>(ŉ.mp nd).1 (ahn aG).1,aS aq];simp
 | p::Ϯ,w::d,i+1,m,nd,g,ah,aq=>by
  show alu ŀ ((p,w)::Ϯ.OU d) m x=_
  unfold alu;exact Gy (i:=i) (ŉ.mp nd).2 (by simpa using g) (by simpa using ah) aq
theorem Gz {ŀ:ϕ->ϣ Ű}{x:ϕ}{v:ϫ}:∀{Ϯ:Y ϕ}{d:Y ϫ}{i:B}{m:ϕ->ϣ ϫ},Ϯ.Α->Ϯ[i]?=O x->d[i]?=O v->ŀ x≠O .local->
  alv ŀ (Ϯ.OU d) m x=O v
 | [],_,_,_,_,h,_,_=>by simp at h
 | _::_,[],_,_,_,_,h,_=>by simp at h
 | p::Ϯ,w::d,0,m,nd,g,ah,aq=>by
  simp at g ah;subst g;subst ah;show alv ŀ ((p,w)::Ϯ.OU d) m p=_
  unfold alv;rw[Gx λv aG=>(ŉ.mp nd).1 (ahn aG).1,aD aq];simp
 | p::Ϯ,w::d,i+1,m,nd,g,ah,aq=>by
  show alv ŀ ((p,w)::Ϯ.OU d) m x=_
  unfold alv;exact Gz (i:=i) (ŉ.mp nd).2 (by simpa using g) (by simpa using ah) aq
def ã (ϰ:Y ϕ)(d:Y V):St:=d.ϒ O++ac_ (ϰ.N-d.N) none
def hs (dz:iz)(Ϯ:Č)(w:Þ)(K:ş)(mg:ϕ->ϣ ϫ)(ϊ:Θ)(ϰ:Y ϕ)(Ρ:ϕ)(Ϟ:IK)(f:Ϩ)(cd:ϫ)(Ϲ:ŕ)(Ϗ:Y OF)(s:ϐ)(H:ag)(ϵ:bz):Cx where
 ϔ:=Ϯ
 w:=w
 K:=K
 mg:=mg
 ϊ:=ϊ
 Ϲ:=Ϲ.Ê (ŋ Ρ Ϟ s.P.Ϡ.Ϥ f cd)
 ϰ:=ϰ
 cf:=s
 dy:=H
 ό:=ŋ Ρ Ϟ s.P.Ϡ.Ϥ f cd
 Ϗ:=Ϗ
 ą:=ŋ Ρ Ϟ s.P.Ϡ.Ϥ f cd::Ϗ
 ex:=[]
 R_:=true
 fn:=λ_=>true
 ez:=[]
 c0:=λe s'=>ϙ (ώ Ϯ w) (Ϲ.Ê (ŋ Ρ Ϟ s.P.Ϡ.Ϥ f cd)) (bi (ŋ Ρ Ϟ s.P.Ϡ.Ϥ f cd) e) (λ_ qS=>dz Ϗ H s ϵ e qS) (λbq qS=>dz Ϗ H s ϵ bq qS) s'
theorem GA {sc:IK}(h:sc.Λ.Ϣ x=O .φ):∃c,(amL n sc.Λ []).Ϣ x=O c:=by
 have q:=ϟ.W.aiY sc.Λ n [] (.ε h)
 exact z_.mp q
theorem GB {dz:iz}{s1:ϐ}{H:ag}{ϵ:bz}{d:Y V}(S:n2 ϰ ps Ϟ)(hd:Ϲ.Ē=none)(c6:pn Ϯ w K mg ϊ Ϲ Ϗ s H)(aw:d.N=ps.N)(r:ś d us)(x:InCallC s s.P.Ϡ.Ϥ (alu (ŋ Ρ Ϟ s.P.Ϡ.Ϥ f cd).ŀ (ps.OU us) λ_=>none) (amL (s.P.Ϡ.Ϥ+1) Ϟ.Λ []) (alv (ŋ Ρ Ϟ s.P.Ϡ.Ϥ f cd).ŀ (ps.OU us) λ_=>none) s1):
  Υ (hs dz Ϯ w K mg ϊ ϰ Ρ Ϟ f cd Ϲ Ϗ s H ϵ) [] (ã ϰ d) H s1:=by
 have Tm:ps.N<=ϰ.N:=by have:=ż N S.pre;rw[Ģ]at ν;omega
 obtain⟨g,tk,rfl,aq⟩:=x.done;have qT:∀b:Ϩ,b ∉ (hs dz Ϯ w K mg ϊ ϰ Ρ Ϟ f cd Ϲ Ϗ s H ϵ).ex:=λb z=>bJ (show b∈([]:Y Ϩ) from z) (by simp)
 refine⟨⟨c6.Om,S.î,rfl,rfl,B.ϑ _,λy z c g ah=>?_,λy aU=>?_,λy c _ h=>?_,λ_=>hd,ŕ.amj c6.ç,.Œ ⟨rfl,rfl⟩,λb z=>bJ z (qT b),c6.bs,c6.ky,λb _ _=>qT b,λb z=>bJ z (qT b),c6.hK,c6.kz⟩,
  rfl,c6.Rs,f5.XL aq,⟨_,x.anK.ns,λi y v g ah aI=>?_⟩,λy c h=>⟨_,x.φ y c h⟩,c6.a9.Ĳ (B.ϑ _),λy c h=>?_,λp ay=>bJ (show p∈([]:Y (Ϩ×ğ)) from ay) (by simp),c6.a9.XL aq,?_⟩
 ·exact name_of_addr x.apart (ϟ.Ĝ g) (ϟ.Ĝ ah)
 ·have aU:Ϟ.Λ.Ϣ y=O .φ\/Ϟ.Λ.Ϣ y=O .Ź:=aU
  rcases aU with aU|aU
  ·exact GA aU
  ·exact bJ rfl (S.PY _ (ϟ.Ĝ aU))
 ·exact B.aiM (x.IL y c (ϟ.Ĝ h))
 ·have aA:i<d.N:=by
   unfold ã at ah;by_cases aA:i<d.N
   ·exact aA
   ·rw[Ő (by simpa using aA)]at ah;rw[Y.ajL]at ah;split at ah<;>cases ah
  have aN:d[i]?=O v:=by
   unfold ã at ah;rw[Ŭ (by simpa using aA),Ϙ]at ah;cases e:d[i]? with
   | none=>rw[e]at ah;cases ah
   | O a=>rw[e]at ah;cases ah;rfl
  obtain⟨u,bK,ck⟩:=r.O4 aN;have ay:ps[i]?=O y:=by
   rwa[<- S.pre,Y.aji ⋯]
  have GC:ps.Α:=by rw[<- S.pre];exact S.nd.sublist (Y.anh _ _)
  refine⟨u,ck,?_⟩;rcases S.par y (ύ ay) with k|k
  ·exact .ε ⟨k,Gy GC ay bK k⟩
  ·obtain⟨c,e⟩:=GA (n:=s.P.Ϡ.Ϥ+1) k;refine .Œ ⟨.ε k,c,e,?_⟩;have q:=x.φ y c e
   rw[Gz GC ay bK (by show Ϟ.Λ.Ϣ y≠_;rw[k];decide)]at q;exact q
 ·exact c6.a9.Ĳ (B.aiM (x.IL y c (ϟ.Ĝ h)))
 ·unfold ã;show _=ϰ.N
  rw[υ,ϧ,Y.akF];omega
theorem uj {dz:iz}{k:B}{nf bH:ϫ}{an cO:ϣ Ϩ}{sp:ep}(lk:K.Ϣ f=O ⟨dI,cO,.OQ (I0 name Ρ ĳ p_ Ϟ nf bH ST pm an Ë cb),eX⟩)(e1:IW K Ë Ρ=true)(S:n2 ϰ ps Ϟ)(SC:∀d H Q ϵ,sp d H Q ϵ->d.N=ps.N)(jP:∀(Ϲ:ŕ)(Ϗ:Y OF)(s:ϐ)(H:ag)(d:Y V)(Q:a8)(ϵ:bz),dw k (Ϲ.Ê (ŋ Ρ Ϟ s.P.Ϡ.Ϥ f Ë))->sp d H Q ϵ->
   ∃t,Bf (hs dz Ϯ w K mg ϊ ϰ Ρ Ϟ f Ë Ϲ Ϗ s H ϵ) p_ t/\t { aP:=λ_ U=>Q .br U,iR:=Q } (ã ϰ d) H):
  ft Ϯ w K mg ϊ dz (k+1) f (I0 name Ρ ĳ p_ Ϟ nf bH ST pm an Ë cb) ps sp:=by
 refine⟨SC,λϹ Ϗ s H args us d Q ϵ aO c6 af r fS=>?_⟩;have aw:=SC _ _ _ _ fS
 have KX:K.In s.P:=c6.Om.jf.å λb o e=>(c6.bs b o e).1
 have lim:s.P.am2:=c6.Om.alk.å λb o e=>(c6.bs b o e).1
 have PZ:∀y∈ps.OU us,Ϟ.Λ.Ϣ y.1=O .local\/(Ϟ.Λ.Ϣ y.1=O .φ/\((amL (s.P.Ϡ.Ϥ+1) Ϟ.Λ []).Ϣ y.1).Ĵ=true):=λ⟨n,v⟩ aU=>by
  rcases S.par n (ahn aU).1 with q|q
  ·exact .ε q
  ·exact .Œ ⟨q,ϟ.W.aiY _ _ _ (.ε q)⟩
 refine wS aO.Ol (KX _ _ lk) rfl S.co S.gen rfl (ϟ.W.codeRec_of KX e1) (af _ _ _ _ ?_);refine ahs S.î PZ λό he s1 x=>?_;subst he;refine⟨lim.å x.anK.ĭ,aj_ ?_⟩;obtain⟨t,bk,ao⟩:=jP Ϲ Ϗ s H d Q ϵ (aO.Ê _) fS;have I:Υ (hs dz Ϯ w K mg ϊ ϰ Ρ Ϟ f Ë Ϲ Ϗ s H ϵ) [] (ã ϰ d) H s1:=GB S aO.hd c6 aw r x
 refine ů (bk [] s1 (ã ϰ d) H _ I ao) (λaZ s' aH=>?_) λe s' aH=>aH;have d_:∀{a7:St}{U:ag}{v:V}{u:ϫ},Υ (hs dz Ϯ w K mg ϊ ϰ Ρ Ϟ f Ë Ϲ Ϗ s H ϵ) [] a7 U s'->ţ v u->Q v U->yP Ϗ Ϯ w H s Q u s':=
  λ{a7 U v u} cD ck q=>⟨v,U,cD.os,cD.Rs,cD.ϊ,cD.a9,ck,q⟩
 cases aZ with
 | b8 u=>
  obtain⟨v,a7,U,cD,ck,q⟩:=aH;exact d_ cD ck q
 | next=>
  obtain⟨a7,U,cD,q⟩:=aH;exact d_ (v:=V.br) (u:=ϫ.none) cD rfl q
 | Pa=>
  obtain⟨_,_,_,q⟩:=aH;exact Ō.Ę q
 | Ou=>
  obtain⟨_,_,_,q⟩:=aH;exact Ō.Ę q
section
variable {X:Cx}{x:Str}{p pos:Pos}{e:Expr}{es:List Expr}{t:du}{id T:String}{r:List V->ag->a8->Prop}
def tCB (r:Y V->ag->a8->Prop)(t:du):TE:=λJ H Q=>t J H λd H1=>r d H1 Q
theorem P0 (ak:ho X (.ο id) r)(bF:fb X x)(hm:X.mg x=none)(aG:æ x=O (.ο id))(aN:PA X (e::C) t)(aF:Ϫ (x≠"__name__") dB._auto_1)(Oo:Ϫ ((x==("__debug__":ϕ))=false) dB._auto_1)(he:Ϫ (ω (e::C) X.ό=(false,ŗ e X.ό)::ω C X.ό) dA._auto_1)(Tm:Ϫ ((ĕ ŷ (ω C X.ό)).J_ (·.1)=false) dA._auto_1):PE X (.č (.ĸ x p) (e::C) [] ŷ) (tCB r t):=by
 intro ϩ s J H Q I h;refine Ł (iU I bF hm aG ?_ aF Oo);exact Ĥ.KK.aki (bA (aN ŷ ϩ s J H _ I h) λus s1 ⟨d,H1,aK,bG,a3⟩=>ak ϩ s1 J H1 d us Q aK bG a3) he Tm
theorem P1 (ak:ho X (.χ T) r)(bF:fb X x)(hm:X.mg x=none)(aG:æ x=O (.χ T))(aN:PA X (e::C) t)(aF:Ϫ (x≠"__name__") dB._auto_1)(Oo:Ϫ ((x==("__debug__":ϕ))=false) dB._auto_1)(he:Ϫ (ω (e::C) X.ό=(false,ŗ e X.ό)::ω C X.ό) dA._auto_1)(Tm:Ϫ ((ĕ ŷ (ω C X.ό)).J_ (·.1)=false) dA._auto_1):PE X (.č (.ĸ x p) (e::C) [] ŷ) (tCB r t):=by
 intro ϩ s J H Q I h;refine Ł (iU I bF hm aG ?_ aF Oo);exact Ĥ.KK.Į (bA (aN ŷ ϩ s J H _ I h) λus s1 ⟨d,H1,aK,bG,a3⟩=>ak ϩ s1 J H1 d us Q aK bG a3) he Tm
end
end L2
variable {ns ms:List Int}
namespace HT
open PySem PyProof.Rows
def â:Y G->Y G->δ
 | [],[]=>false
 | [],_::_=>true
 | _::_,[]=>false
 | x::F,y::ys=>if x=y then â F ys else decide (x<y)
theorem yQ (x y:G)(F ys:Y G):â (x::F) (y::ys)=if x=y then â F ys else decide (x<y):=rfl
theorem P2:â [] []=false:=rfl
theorem P4 (y:G)(ys:Y G):â [] (y::ys)=true:=rfl
theorem P5 (x:G)(F:Y G):â (x::F) []=false:=rfl
theorem P6 (Ϲ:ŕ)(s:ϐ)(a:G)(t:OE)(c:G)(u:OE):∃e,ĝ.c_ Ϲ s (.M a t) (.M c u) e/\(e=true↔a=c):=
 ⟨(a==c),ĝ.c_.int_int a t c u,by simp⟩
theorem P7 (Ϲ:ŕ)(s:ϐ)(a:G)(t:OE)(c:G)(u:OE)(ϔ:Č)(w:Þ)(ϵ:Bh)(Q:Bh)(h:Q (.Ã (decide (a<c))) s):
  ϙ (ώ ϔ w) Ϲ (ahD .Lt (.M a t) (.M c u)) Q ϵ s:=
 (Ĥ.KK.lt_int h:ϙ (ώ ϔ w) Ϲ (ų .Lt (.M a t) (.M c u)) Q ϵ s)
section
open PySem.SeqAt
open PySem.AutoSeq1 (wpAny_loadPart')
open PySem.MeetsSeq PySem.MeetsSeq2 PySem.MeetsSeq3
theorem P8 (l b:Ϩ)(ž ng:μ ϫ)(n cS:B)(dd BF:ϣ Ϩ)(a0 o4:μ (ϣ ϫ))(ns ms:Y G)(aA:Ö ž.Ω ns)(bg:Ö ng.Ω ms):
  Meets (Builtin.«tuple.__lt__» ⟨[.Z l,.Z b],[]⟩)
   (λ_ R s=>s.P.ϛ l=O { Ŝ:=.χ "tuple",ï:=dd,Φ:=.XV ž n,ē:=a0 }/\s.P.ϛ b=O { Ŝ:=.χ "tuple",ï:=BF,Φ:=.XV ng cS,ē:=o4 }/\
    R (.ok (.b8 (.Ã (â ns ms)))) s):=
 .of_wp λϔ w Ϲ R s h=>by
  obtain⟨ay,Ϻ,ϻ,tk,os⟩:=s;obtain⟨aw,af,h⟩:=h;have f2:=AutoSeq1.sub_tuple_tuple
  have cQ:ž.Ϥ=ns.N:=by rw[<- aA.N];simp
  have da:ng.Ϥ=ms.N:=by rw[<- bg.N];simp
  wp_walk using Gc aw,Gc af,ah2 _ (λW_ b s'=>b.1=none/\s'=⟨ay,Ϻ,ϻ,tk,os⟩/\∃(d ws:Y ϫ)(mj sr:Y G),W_=d.OU ws/\
   Ö d mj/\Ö ws sr/\mj.N+ng.Ϥ=sr.N+ž.Ϥ/\R (.ok (.b8 (.Ã (â mj sr)))) ⟨ay,Ϻ,ϻ,tk,os⟩) _
  case O1=>
   rintro⟨y,x⟩ W_ b s' ⟨eh,rfl,d,ws,mj,sr,hz,BG,yR,SB,e4⟩;cases BG with
   | ń=>rw[Y.zip_nil_left]at hz;cases hz
   | θ a t P9=>
    cases yR with
    | ń=>rw[Y.zip_nil_right]at hz;cases hz
    | θ c u Qa=>
     rw[Y.ahN]at hz;injection hz with Qb BH
     injection Qb with aU ai
     subst aU ai;rw[yQ]at e4;simp only[ŵ]at SB;obtain⟨e,he,GD⟩:=P6 Ϲ.jp ⟨ay,Ϻ,ϻ,tk,os⟩ a t c u;refine ax (he ϔ w _ _ ?_);cases e with
     | true=>
      rw[aS (GD.mp rfl)]at e4;wp_walk
      exact⟨rfl,rfl,_,_,_,_,BH,P9,Qa,⋯,e4⟩
     | false=>
      rw[aD (λq=>bJ (GD.ļ q) δ.γ)]at e4;have Qc:=P7 Ϲ.jp ⟨ay,Ϻ,ϻ,tk,os⟩ a t c u ϔ w
      wp_walk using Qc
      exact⟨_,rfl,by simpa using e4⟩
  case d_=>
   rintro⟨b1,b2⟩ s' ⟨eh,rfl,d,ws,mj,sr,hz,BG,yR,SB,e4⟩;simp only at eh;subst eh;have aG:â mj sr=decide (ž.Ϥ<ng.Ϥ):=by
    cases BG with
    | ń=>
     cases yR with
     | ń=>
      simp only[Ċ]at SB;rw[P2];exact(Γ ⋯).symm
     | θ c u hw=>
      simp only[Ċ,ŵ]at SB;rw[P4];exact(ι ⋯).symm
    | θ a t aG=>
     cases yR with
     | ń=>
      simp only[Ċ,ŵ]at SB;rw[P5];exact(Γ ⋯).symm
     | θ c u hw=>
      rw[Y.ahN]at hz;cases hz
   rw[aG]at e4;wp_walk
   exact⟨_,rfl,by simpa [π.w_.tupleCompareSizes] using e4⟩
  case h=>
   exact⟨rfl,rfl,ž.Ω,ng.Ω,ns,ms,rfl,aA,bg,⋯,h⟩
end
section
variable {prog:Program}{w:World}{A:Around}{E:wvP}{s:Shared}
theorem GF {b:Ϩ}{ng:μ ϫ}(aw:alr s.P l ž)(af:alr s.P b ng)(aA:Ö ž.Ω ns)(bg:Ö ng.Ω ms)(bK:Ϲ.õ<ä)(h:Q (.Ã (â ns ms)) s):ϙ (ώ ϔ w) Ϲ (ų .Lt (.Z l) (.Z b)) Q ϵ s:=by
 obtain⟨⟨Ŝ,dd,Φ,a0⟩,av,ak,n,hd⟩:=id aw;obtain⟨⟨afP,BF,data2,o4⟩,kF,pw,cS,hd2⟩:=id af;simp only at ak hd pw hd2;subst ak hd pw hd2;exact richCompare_meets_room (op:=.Lt) ⟨_,av,rfl⟩ ⟨_,kF,rfl⟩ ϟ.ϴ.slot_tuple_lt ϟ.ϴ.entry_tuple_lt (ϟ.ϴ.args_tuple_lt_2 _ _) (P8 l b ž ng n cS dd BF a0 o4 ns ms aA bg)
  ⟨av,kF,show ϫ.Ã (â ns ms)≠ϫ.notImplemented/\Q (.Ã (â ns ms)) s from⟨(λx=>nomatch x),h⟩⟩ bK
def iA (n ϻ:B):ϣ G->B
 | none=>ϻ
 | O v=>if v<0 then(v+(n:G)).Ο else min v.Ο n
theorem yS (n ϻ k:B):iA n ϻ (O (k:G))=min k n:=by
 show(if (k:G)<0 then((k:G)+(n:G)).Ο else min (k:G).Ο n)=min k n
 rw[aD ⋯,ũ]
end
end HT
variable {H:L2.ag}{J:L2.St}{y:L2.V}{ys:List L2.V}{p:PySem.Addr}
namespace L2
open PySem PySem.Spec PyProof.Rows
abbrev gz:=St->ag->(ϣ G->ag->Prop)->Prop
def qU (X:Cx)(e:ϣ Ġ)(t:gz):Prop:=
 ∀(ϩ:Y (Ϩ×ğ))(s:ϐ)(J:St)(H:ag)(Q:ϣ G->ag->Prop),Υ X ϩ J H s->t J H Q->
  ϙ (ώ X.ϔ X.w) X.Ϲ (evalPart e X.ό) (λu s'=>∃o U,Υ X ϩ J U s'/\IsPart u o/\Q o U) X.c0 s
def zdi:gz:=λ_ H Q=>Q none H
def ztq (t:TE):gz:=λJ H Q=>t J H λx H1=>∃i,x=.M i/\Q (O i) H1
theorem aie:∀{us:Y ϫ},ś (ns.ϒ V.M) us->Ö us ns:=by
 induction ns with
 | ń=>intro us r;rw[rc]at r;cases r;exact .ń
 | θ n ns bB=>
  intro us r;rw[Ŷ]at r;cases r with
  | θ bG bW=>
   obtain⟨t,e⟩:=bG;subst e;exact .θ n t (bB bW)
section
variable {X:Cx}{e:Expr}{bT:TE}{lo aA:Option Expr}{e3 iZ:gz}{pos dp:Pos}
theorem Qd:qU X none zdi:=by
 intro ϩ s J H Q I h;rw[ajs];exact bp ⟨none,H,I,.none,h⟩
theorem uk (h:PE X e bT):qU X (O e) (ztq bT):=by
 intro ϩ s J H Q I hw;rw[amk];refine bA (h ϩ s J H _ I hw) λu s1 ⟨x,H1,aK,bG,a3⟩=>?_;obtain⟨i,rfl,q⟩:=a3;obtain⟨t,rfl⟩:=bG;exact⟨O i,H1,aK,.M i t,q⟩
def BI (X:Cx)(r:V->ϣ G->ϣ G->ag->a8->Prop):Prop:=
 ∀(ϩ:Y (Ϩ×ğ))(s:ϐ)(J:St)(H:ag)(x:V)(v px pz:ϫ)(lo aA:ϣ G)(a0:Ϩ)(Q:a8),Υ X ϩ J H s->ţ x v->s.P.aky a0 px pz .none->IsPart px lo->IsPart pz aA->r x lo aA H Q->
  ∃T id,u_ (.χ T) "__getitem__"=Ă (O (.ο id))/\s.Q_ v T/\ϙ (ώ X.ϔ X.w) X.Ϲ (U4 v (.Z a0)) (gs X ϩ J Q) X.c0 s
def tSl (r:V->ϣ G->ϣ G->ag->a8->Prop)(bT:TE)(e3 iZ:gz):TE:=λJ H Q=>bT J H λx H1=>e3 J H1 λl aC=>iZ J aC λu bw=>r x l u bw Q
theorem BJ {r:V->ϣ G->ϣ G->ag->a8->Prop}(aO:BI X r)(he:PE X e bT)(aw:qU X lo e3)(bK:qU X aA iZ):PE X (.M_ e (.OB lo aA none dp) ŷ) (tSl r bT e3 iZ):=by
 intro ϩ s J H Q I h;refine ajH (bA (he ϩ s J H _ I h) λv s1 ⟨x,H1,aK,bG,a3⟩=>?_);refine wpAny_Slice (bA (aw ϩ s1 J H1 _ aK a3) λpx s2 ⟨l,aC,bt,pl,b9⟩=>bA (bK ϩ s2 J aC _ bt b9) λpz s3 ⟨u,bw,dc,pu,eV⟩=>?_);rw[ajs];refine bp ?_;have hl:Υ X ϩ J bw { s3 with P:=s3.P.Ũ { Ŝ:=.χ "slice",Φ:=.Ž #[px,pz,.none] } }:=dc.XL (t':=s3.Χ) λb ob q=>ϥ _ q
 obtain⟨T,id,cP,bk,bF⟩:=aO ϩ { s3 with P:=s3.P.Ũ { Ŝ:=.χ "slice",Φ:=.Ž #[px,pz,.none] } } J bw x v px pz l u s3.P.Ϡ.Ϥ Q hl bG (Θ.aky.OR ..) pl pu eV;show ϙ (ώ X.ϔ X.w) X.Ϲ (ajt e (.OB lo aA none dp) v (.Z s3.P.Ϡ.Ϥ)) (gs X ϩ J Q) X.c0 { s3 with P:=s3.P.Ũ { Ŝ:=.χ "slice",Φ:=.Ž #[px,pz,.none] } }
 exact anL (ops:=[.Z s3.P.Ϡ.Ϥ,v]) bk cP bF (by with_unfolding_all rfl)
def jh (F:Y V)(lo aA:ϣ G):Y V:=(F.IR (HT.iA F.N 0 lo)).ĵ (HT.iA F.N F.N aA-HT.iA F.N 0 lo)
theorem Qe (F:Y V)(lo aA:ϣ G):(jh F lo aA).N<=F.N:=by
 unfold jh;rw[Ģ,Y.akX];omega
def BK (K:ş):gw:=λx y H Q=>∃a b ns ms,x=.Z a/\y=.Z b/\bN K H a (ns.ϒ V.M)/\bN K H b (ms.ϒ V.M)/\Q (.bl (HT.â ns ms)) H
theorem BL (bK:X.Ϲ.õ<ä):eo X (ų .Lt) (BK X.K):=by
 intro ϩ s J H x y v u Q I bc bu h;obtain⟨a,b,ns,ms,rfl,rfl,aN,af,q⟩:=h;cases bc;cases bu;obtain⟨aL,bG,p1,_⟩:=I.B_ aN;obtain⟨qV,bW,dp,_⟩:=I.B_ af;have fi:Ö aL.ϗ.Ω ns:=aie bG
 have f9:Ö qV.ϗ.Ω ms:=aie bW
 exact HT.GF p1 dp fi f9 bK ⟨.bl (HT.â ns ms),H,I,rfl,q⟩
end
def kd (n:B)(i:G):ϣ B:=if 0<=i then(if i<n then O i.Ο else none) else if -(n:G)<=i then O (i+n).Ο else none
def fH (F:Y α)(i:G):ϣ α:=(kd F.N i).bind λj=>F[j]?
theorem GG {i:G}(h:kd n i=O j):seqIndex? i n=O j/\j<n/\-(n:G)<=i/\i<n:=by
 unfold kd at h;by_cases h0:0<=i
 ·rw[aS h0]at h;by_cases g:i<n
  ·rw[aS g]at h;have e:i.Ο=j:=ϣ.O.W1 h
   exact⟨by rw[akY h0 g,e],⋯,⋯,g⟩
  ·rw[aD g]at h;cases h
 ·rw[aD h0]at h;by_cases g:-(n:G)<=i
  ·rw[aS g]at h;have e:(i+n).Ο=j:=ϣ.O.W1 h
   exact⟨by rw[aka ⋯ g,e],⋯,g,⋯⟩
  ·rw[aD g]at h;cases h
theorem BM {F:Y α}{i:G}{v:α}(h:fH F i=O v):∃j,seqIndex? i F.N=O j/\F[j]?=O v/\j<F.N/\-(F.N:G)<=i/\i<F.N:=by
 unfold fH at h;cases e:kd F.N i with
 | none=>rw[e]at h;cases h
 | O j=>
  rw[e]at h;obtain⟨g,ah,aI,bO⟩:=GG e;exact⟨j,g,h,ah,aI,bO⟩
theorem gW {F:Y α}{v:α}(h:F[j]?=O v):fH F (j:G)=O v:=by
 have bg:j<F.N:=(Y.Ϧ.mp h).1
 have e:kd F.N (j:G)=O j:=by
  unfold kd;rw[aS ⋯,aS ⋯];simp
 unfold fH;rwa[e]
def Qf (b:Ġ):Prop:=∀o i,aiU b false o i=operate [o,i] (U4 o i)
def su (X:Cx)(r:gw):Prop:=
 ∀(IN OC:Ġ)(ϩ:Y (Ϩ×ğ))(s:ϐ)(J:St)(H:ag)(x y:V)(v u:ϫ)(Q:a8),Υ X ϩ J H s->ţ x v->ţ y u->r x y H Q->
  aiU OC false v u=operate [v,u] (U4 v u)->ϙ (ώ X.ϔ X.w) X.Ϲ (ajt IN OC v u) (gs X ϩ J Q) X.c0 s
def um (X:Cx)(id:è)(r:V->Y V->ag->a8->Prop):Prop:=
 ∀(ϩ:Y (Ϩ×ğ))(s:ϐ)(J:St)(H:ag)(x:V)(F:Y V)(v:ϫ)(us:Y ϫ)(Q:a8),Υ X ϩ J H s->ţ x v->ś F us->r x F H Q->
  ϙ (ώ X.ϔ X.w) X.Ϲ (WP (.ο id) (v::us)) (gs X ϩ J Q) X.c0 s
section
variable {X:Cx}{a b:Expr}{bo a4:TE}{pos:Pos}
theorem cm {r:gw}(aO:su X r)(aN:PE X a bo)(af:PE X b a4)(aH:Qf b):PE X (.M_ a b ŷ) (tOp r bo a4):=by
 intro ϩ s J H Q I h;exact ajH (Bs aN af I h λv u s2 x y aC bt bc bu q=>aO a b ϩ s2 J aC x y v u Q bt bc bu q (aH _ _))
def uo (K:ş):gw:=λx y H Q=>∃p F i v,x=.Z p/\y=.M i/\aM K H p F/\fH F i=O v/\Q v H
def ur (K:ş):gw:=λx y H Q=>∃p F i v,x=.Z p/\y=.M i/\bN K H p F/\fH F i=O v/\Q v H
def BN:gw:=λx y H Q=>∃z i c,x=.str z/\y=.M i/\z.N<=ϓ/\fH z.Ch.Ω i=O c/\Q (.str ⟨#[c]⟩) H
theorem eO:su X (uo X.K):=by
 intro IN OC ϩ s J H x y v u Q I bc bu h aH;obtain⟨p,F,i,z,rfl,rfl,ao,he,q⟩:=h;cases bc;obtain⟨t,rfl⟩:=bu;obtain⟨aL,r,pl,hz⟩:=I.ö ao;obtain⟨j,g,ah,aI,bO,d1⟩:=BM he;obtain⟨w,yT,ji⟩:=r.O4 ah;have aw:=r.N
 have aF:=qO
 have d_:gs X ϩ J Q w s:=⟨z,H,I,ji,q⟩
 by_cases h0:0<=i
 ·have bg:i.Ο=j:=by
   rw[akY h0 d1]at g;exact ϣ.O.W1 g
  exact item_listR pl.Ń h0 ⋯ (by rw[bg];simpa using yT) d_ aH
 ·have bg:(i+(aL.ϗ.Ϥ:G)).Ο=j:=by
   rw[aka ⋯ bO]at g;rw[ζ,<- aw];exact ϣ.O.W1 g
  exact aim (x:=w) pl.Ń.Ÿ akj.Ϣ
   (wpAny_getItem_list_neg (Q:=λr s'=>r=w/\gs X ϩ J Q r s') pl.Ń ⋯ (by rw[ζ]<;>omega) ⋯ (by rw[bg];simpa using yT) ⟨rfl,d_⟩) aH
theorem d2:su X (ur X.K):=by
 intro IN OC ϩ s J H x y v u Q I bc bu h aH;obtain⟨p,F,i,z,rfl,rfl,ao,he,q⟩:=h;cases bc;obtain⟨t,rfl⟩:=bu;obtain⟨aL,r,pl,hz⟩:=I.B_ ao;obtain⟨j,g,ah,aI,bO,d1⟩:=BM he;obtain⟨w,yT,ji⟩:=r.O4 ah;have aw:=r.N
 have aF:=qO
 have d_:gs X ϩ J Q w s:=⟨z,H,I,ji,q⟩
 exact aim (x:=w) pl.Ÿ Fa.Ϣ
  (getItem_tuple (j:=j) (Q:=λr s'=>r=w/\gs X ϩ J Q r s') pl ⋯ ⋯ (by rwa[ζ,<- aw]) (by simpa using yT) ⟨rfl,d_⟩) aH
theorem uu:su X BN:=by
 intro IN OC ϩ s J H x y v u Q I bc bu h aH;obtain⟨z,i,c,rfl,rfl,hz,he,q⟩:=h;obtain⟨t,rfl⟩:=bc;obtain⟨t',rfl⟩:=bu;obtain⟨j,g,ah,aI,bO,d1⟩:=BM he;have aw:z.Ch.Ω.N=z.N:=by simp[ϕ.N]
 rw[aw]at g bO d1;have aF:=qO
 exact anL (typeIs_str s z t) slot_str_getitem.Ϣ (getItem_str (c:=c) (by
  have au:decide (i < -(2^63:G))=false:=Γ ⋯
  have az:decide (i >= 2^63)=false:=Γ ⋯
  rw[au,az,δ.Ĩ]) (by rw[g];simpa using ah) ⟨.str ⟨#[c]⟩,H,I.bn _,⟨_,rfl⟩,q⟩) aH
theorem Qg (aL:Y ϫ)(n j:B)(u:ϫ):ğ.ajD (·.Ty j u) { Ŝ:=.χ "list",Φ:=.XV aL.ϗ n }={ Ŝ:=.χ "list",Φ:=.XV (aL.mt j u).ϗ n }:=by
 simp[ğ.ajD]
theorem Υ.Ť {ϩ:Y (Ϩ×ğ)}{J:St}{H:ag}{s:ϐ}{p:Ϩ}{F:Y V}(I:Υ X ϩ J H s)(h:H p=O (.Ť F)):
  ∃(aL:Y ϫ)(n:B),ś F aL/\s.P.ϛ p=O { Ŝ:=.χ "list",Φ:=.XV aL.ϗ n }/\F.N<=ϓ:=by
 obtain⟨z,aL,n,r,e⟩:=I.a9 p _ h;exact⟨aL,n,r,e,z⟩
theorem Υ.Qh {F:Y V}{aL OI:Y ϫ}{gI:B}{f:ğ->ğ}(I:Υ X ϩ J H s)(h:H p=O (.Ť F))(av:s.P.ϛ p=O { Ŝ:=.χ "list",Φ:=.XV aL.ϗ n })(hf:f { Ŝ:=.χ "list",Φ:=.XV aL.ϗ n }={ Ŝ:=.χ "list",Φ:=.XV OI.ϗ gI })(r:ś ys OI)(hz:ys.N<=ϓ)(t:B):
  Υ X ϩ J (ſ H p (.Ť ys)) { s with P:=s.P.ý p f,Χ:=t }:=by
 have e:(s.P.ý p f).ϛ p=O { Ŝ:=.χ "list",Φ:=.XV OI.ϗ gI }:=by
  rw[š f av (by rw[hf]<;>rfl),hf]
 refine I.OS (x:=p) (e:=p) (by rw[h];trivial) (.ε rfl) (λb u af q=>(ψ _ _ (Ne.symm af)).Ϛ q) ⟨_,e⟩ ?_;exact⟨hz,OI,gI,r,e⟩
def zve:V->V->V->ag->(ag->Prop)->Prop:=λo i v H Q=>∃p F k j,o=.Z p/\i=.M k/\H p=O (.Ť F)/\kd F.N k=O j/\Q (ſ H p (.Ť (F.mt j v)))
theorem aj3:F2 X zve:=by
 intro ϩ s J H o i v dT h7 u Q I Qi Qj ck h;obtain⟨p,F,k,j,rfl,rfl,ay,bg,q⟩:=h;cases Qi;obtain⟨t,rfl⟩:=Qj;obtain⟨aL,n,r,av,hz⟩:=I.Ť ay;obtain⟨g,ah,aI,bO⟩:=GG bg;have aw:=r.N
 have aF:=qO
 have eU:Υ X ϩ J (ſ H p (.Ť (F.mt j v))) { s with P:=s.P.ý p (ğ.ajD (·.Ty j u)) }:=
  I.Qh ay av (Qg aL n j u) (r.mt ck j) (by rwa[aif]) s.Χ
 by_cases h0:0<=k
 ·have aq:k.Ο=j:=by
   rw[akY h0 bO]at g;exact ϣ.O.W1 g
  exact ϟ.W.ki_setAt av h0 ⋯ (by rwa[ζ,<- aw]) (by rw[aq];exact⟨_,eU,q⟩)
 ·have aq:(k+(aL.ϗ.Ϥ:G)).Ο=j:=by
   rw[aka ⋯ aI]at g;rw[ζ,<- aw];exact ϣ.O.W1 g
  exact ϟ.W.ki_setBack av ⋯ (by rwa[ζ,<- aw]) ⋯ (by rw[aq];exact⟨_,eU,q⟩)
theorem Qk (lo aA:ϣ G)(n:B):(C_ lo aA none n).1=((HT.iA n 0 lo:B):G)/\(C_ lo aA none n).2.1=((HT.iA n n aA:B):G)/\(C_ lo aA none n).2.2=1:=by
 refine⟨?_,?_,rfl⟩
 ·cases lo with
  | none=>simp[C_,HT.iA]
  | O i=>
   simp only[C_,HT.iA,getD_none,show(1:G)>0 by decide,NE];by_cases h:i<0
   ·simp only[h,NE]<;>omega
   ·simp only[h,Ü]<;>omega
 ·cases aA with
  | none=>simp[C_,HT.iA]
  | O i=>
   simp only[C_,HT.iA,getD_none,show(1:G)>0 by decide,NE];by_cases h:i<0
   ·simp only[h,NE]<;>omega
   ·simp only[h,Ü]<;>omega
theorem Ql (aL:Y ϫ)(lo aA:ϣ G):slicePick aL.ϗ lo aA none=((aL.IR (HT.iA aL.N 0 lo)).ĵ (HT.iA aL.N aL.N aA-HT.iA aL.N 0 lo)).ϗ:=by
 obtain⟨g,ah,aI⟩:=Qk lo aA aL.ϗ.Ϥ;unfold slicePick;rw[g,ah,aI];simp only[sliceRange_one,pick_run,ζ]<;>rfl
def yU (K:ş):V->ϣ G->ϣ G->ag->a8->Prop:=λx lo aA H Q=>∃a F,x=.Z a/\aM K H a F/\∀p,H p=none->Q (.Z p) (ſ H p (.Ť (jh F lo aA)))
theorem GH:BI X (yU X.K):=by
 intro ϩ s J H x v px pz lo aA a0 Q I bc aH pl pu h;obtain⟨a,F,rfl,ai,q⟩:=h;cases bc;obtain⟨aL,r,bk,hz⟩:=I.ö ai;have SB:=r.N
 refine⟨"list",_,akj.Ϣ,bk.Ń.Ÿ,?_⟩;refine wpAny_getItem_list_slice bk.Ń aH pl pu .none (by simp) ?_ (by rw[ζ]<;>omega);rw[Ql,<- SB];refine⟨.Z s.P.Ϡ.Ϥ,_,I.HV (t':=s.Χ) (o:=.Ť (jh F lo aA)) (λb ob q=>ϥ _ q) (B.ϑ _) ?_,rfl,q _ (I.a9.Ĳ (B.ϑ _))⟩;exact⟨B.Ķ (Qe F lo aA) hz,_,0,(r.IR (HT.iA F.N 0 lo)).ĵ (HT.iA F.N F.N aA-HT.iA F.N 0 lo),σ _ rfl⟩
def pA:V->δ
 | .br=>true
 | .bl _=>true
 | .M _=>true
 | .str _=>true
 | _=>false
def jj:V->V->δ
 | .br,.br=>true
 | .bl a,.bl b=>a==b
 | .bl a,.M b=>(if a then 1 else 0)==b
 | .M a,.bl b=>a==(if b then 1 else 0)
 | .M a,.M b=>a==b
 | .str a,.str b=>a==b
 | _,_=>false
theorem Qm {x:V}{v:ϫ}(bu:ţ y u)(bc:ţ x v)(BO:pA y=true)(jk:pA x=true):ĝ.c_ Ϲ s u v (jj y x):=by
 cases y with
 | br=>
  cases bu;cases x with
  | br=>cases bc;exact ĝ.c_.ű _
  | bl b=>cases bc;exact ĝ.c_.none_bool b
  | M b=>obtain⟨t,rfl⟩:=bc;exact ĝ.c_.none_int b t
  | str b=>obtain⟨t,rfl⟩:=bc;exact ĝ.c_.none_str b t
  | _=>exact bJ (show false=true from jk) δ.γ
 | bl a=>
  cases bu;cases x with
  | br=>cases bc;exact ĝ.c_.bool_none a
  | bl b=>cases bc;exact ĝ.c_.bool_bool a b
  | M b=>obtain⟨t,rfl⟩:=bc;exact ĝ.c_.bool_int a b t
  | str b=>obtain⟨t,rfl⟩:=bc;exact ĝ.c_.bool_str a b t
  | _=>exact bJ (show false=true from jk) δ.γ
 | M a=>
  obtain⟨t',rfl⟩:=bu;cases x with
  | br=>cases bc;exact ĝ.c_.int_none a t'
  | bl b=>cases bc;exact ĝ.c_.int_bool a t' b
  | M b=>obtain⟨t,rfl⟩:=bc;exact ĝ.c_.int_int a t' b t
  | str b=>obtain⟨t,rfl⟩:=bc;exact ĝ.c_.int_str a t' b t
  | _=>exact bJ (show false=true from jk) δ.γ
 | str a=>
  obtain⟨t',rfl⟩:=bu;cases x with
  | br=>cases bc;exact ĝ.c_.str_none a t'
  | bl b=>cases bc;exact ĝ.c_.str_bool a t' b
  | M b=>obtain⟨t,rfl⟩:=bc;exact ĝ.c_.str_int a t' b t
  | str b=>obtain⟨t,rfl⟩:=bc;exact ĝ.c_.str_str a t' b t
  | _=>exact bJ (show false=true from jk) δ.γ
 | _=>exact bJ (show false=true from BO) δ.γ
def jQ (x:V)(u:ϫ):δ:=match u with
 | .none=>jj .br x
 | .Ã b=>jj (.bl b) x
 | .M i _=>jj (.M i) x
 | .str z _=>jj (.str z) x
 | _=>false
theorem GI {x:V}(r:ţ y u)(f:pA y=true):jQ x u=jj y x:=by
 cases y with
 | br=>cases r;rfl
 | bl b=>cases r;rfl
 | M i=>obtain⟨t,rfl⟩:=r;rfl
 | str z=>obtain⟨t,rfl⟩:=r;rfl
 | _=>exact bJ (show false=true from f) δ.γ
theorem uv {x:V}:∀{F:Y V}{us:Y ϫ},ś F us->F.IY pA=true->us.J_ (jQ x)=F.J_ λy=>jj y x
 | _,_,.ń,_=>rfl
 | y::F,u::us,.θ r t,f=>by
  rw[Y.all_cons,Ŵ]at f;rw[on,on,GI r f.1,uv t f.2]
theorem uw {Ϲ:ŕ}{s:ϐ}{x:V}{v:ϫ}(bc:ţ x v)(jk:pA x=true):∀{F:Y V}{us:Y ϫ},ś F us->F.IY pA=true->∀u∈us,ĝ.c_ Ϲ s u v (jQ x u)
 | _,_,.ń,_=>λu bK=>by cases bK
 | y::F,u::us,.θ r t,f=>λl6 bK=>by
  rw[Y.all_cons,Ŵ]at f;rcases ς.mp bK with rfl|bK
  ·rw[GI r f.1];exact Qm r bc f.1 jk
  ·exact uw bc jk t f.2 l6 bK
def lD (x:V)(F:Y V):δ:=F.J_ λy=>jj y x
def rIn (K:ş)(neg:δ):gw:=λx y H Q=>∃p F,y=.Z p/\(aM K H p F\/bN K H p F)/\pA x=true/\F.IY pA=true/\Q (.bl (if neg then !lD x F else lD x F)) H
theorem ux:eo X (ų .In) (rIn X.K false):=by
 intro ϩ s J H x y v u Q I bc bu h;obtain⟨p,F,rfl,ao,jk,aJ,q⟩:=h;cases bu;rcases ao with ao|ao
 ·obtain⟨aL,r,pl,hz⟩:=I.ö ao;refine ĝ.in_listAt (jQ x) pl.Ń (λw hw=>uw bc jk r aJ w (by simpa using hw)) ⟨.bl _,H,I,rfl,?_⟩;rwa[show aL.ϗ.J_ (jQ x)=aL.J_ (jQ x) by simp,uv r aJ]
 ·obtain⟨aL,r,pl,hz⟩:=I.B_ ao;refine ĝ.in_tupleAt (jQ x) pl (λw hw=>uw bc jk r aJ w (by simpa using hw)) ⟨.bl _,H,I,rfl,?_⟩;rwa[show aL.ϗ.J_ (jQ x)=aL.J_ (jQ x) by simp,uv r aJ]
theorem Qn:eo X (ų .amC) (rIn X.K true):=by
 intro ϩ s J H x y v u Q I bc bu h;obtain⟨p,F,rfl,ao,jk,aJ,q⟩:=h;cases bu;rcases ao with ao|ao
 ·obtain⟨aL,r,pl,hz⟩:=I.ö ao;refine ĝ.notIn_listAt (jQ x) pl.Ń (λw hw=>uw bc jk r aJ w (by simpa using hw)) ⟨.bl _,H,I,rfl,?_⟩;rwa[show aL.ϗ.J_ (jQ x)=aL.J_ (jQ x) by simp,uv r aJ]
 ·obtain⟨aL,r,pl,hz⟩:=I.B_ ao;refine ĝ.notIn_tupleAt (jQ x) pl (λw hw=>uw bc jk r aJ w (by simpa using hw)) ⟨.bl _,H,I,rfl,?_⟩;rwa[show aL.ϗ.J_ (jQ x)=aL.J_ (jQ x) by simp,uv r aJ]
theorem gM:ho X (.ο "len") (λF H Q=>∃p ys,F=[.Z p]/\(aM X.K H p ys\/bN X.K H p ys)/\Q (.M ys.N) H):=by
 intro ϩ s J H F us Q I r h;obtain⟨p,ys,rfl,ao,q⟩:=h;obtain⟨u,rfl,bc⟩:=wT r;cases bc;have aF:=qO
 rcases ao with ao|ao
 ·obtain⟨aL,cG,pl,hz⟩:=I.ö ao;have SB:=cG.N
  exact ê.call_len_list pl.Ń (by simp only[ζ]<;>omega) ⟨.M ys.N,H,I.bn _,⟨s.Χ+1,by rw[ζ,SB]⟩,q⟩
 ·obtain⟨aL,cG,pl,hz⟩:=I.B_ ao;have SB:=cG.N
  exact len_tuple pl (by simp only[ζ]<;>omega) ⟨.M ys.N,H,I.bn _,⟨s.Χ+1,by rw[ζ,SB]⟩,q⟩
theorem ml:ho X (.ο "len") (λF H Q=>∃z,F=[.str z]/\z.N<=ϓ/\Q (.M z.N) H):=by
 intro ϩ s J H F us Q I r h;obtain⟨z,rfl,hz,q⟩:=h;obtain⟨u,rfl,t,rfl⟩:=wT r;have aF:=qO
 exact len_str ⋯ ⟨.M z.N,H,I.bn _,⟨_,rfl⟩,q⟩
theorem GJ:ho X (.χ "list") (λF H Q=>∃p ys,F=[.Z p]/\(aM X.K H p ys\/bN X.K H p ys)/\∀l,H l=none->Q (.Z l) (ſ H l (.Ť ys))):=by
 intro ϩ s J H F us Q I r h;obtain⟨p,ys,rfl,ao,q⟩:=h;obtain⟨u,rfl,bc⟩:=wT r;cases bc;have d_:∀(aL:Y ϫ),ś ys aL->ys.N<=ϓ->∀(h':Θ)(aX:B),(∀b bR,s.P.ϛ b=O bR->h'.ϛ b=O bR)->
   h'.ϛ s.P.Ϡ.Ϥ=O { Ŝ:=.χ "list",ï:=none,Φ:=.XV aL.ϗ aX,ē:=#[] }->gs X ϩ J Q (.Z s.P.Ϡ.Ϥ) { s with P:=h' }:=λaL cG hz h' aX dU e=>
  ⟨.Z s.P.Ϡ.Ϥ,_,I.HV (t':=s.Χ) dU (B.ϑ _) (show dG X.ϔ X.w _ h' _ (.Ť ys) from⟨hz,aL,aX,cG,e⟩),rfl,q _ (I.a9.Ĳ (B.ϑ _))⟩
 rcases ao with ao|ao
 ·obtain⟨aL,cG,pl,hz⟩:=I.ö ao;have SB:=cG.N
  obtain⟨o,av,ak,n,hd⟩:=pl.Ń;exact aml p (.ε rfl) av ak hd (λh' aX dU e=>d_ aL cG hz h' aX dU e) (by simp only[ζ]<;>omega)
 ·obtain⟨aL,cG,pl,hz⟩:=I.B_ ao;have SB:=cG.N
  obtain⟨o,av,ak,n,hd⟩:=pl;exact aml p (.Œ rfl) av ak hd (λh' aX dU e=>d_ aL cG hz h' aX dU e) (by simp only[ζ]<;>omega)
def BP (K:ş)(T:è)(x:V)(H:ag):Prop:=match x with
 | .str _=>T="str"
 | .M _=>T="int"
 | .Z p=>(T="list"/\∃F,aM K H p F)\/(T="tuple"/\∃o,K.Ϣ p=O o/\o.Ŝ=.χ "tuple"/\o.ï=none)\/
   (T="dict"/\((∃Ϝ,H p=O (.bL Ϝ))\/∃Ϝ,H p=O (.bQ Ϝ)))\/(T="set"/\∃S n,H p=O (.mt S n))
 | _=>Ō
theorem GK {T:è}{x:V}{v:ϫ}(I:Υ X ϩ J H s)(r:ţ x v)(ty:BP X.K T x H):
  s.Q_ v T/\∀a,v=.Z a->∃ob,s.P.ϛ a=O ob/\ob.ï=none:=by
 cases x with
 | str z=>
  obtain⟨t,rfl⟩:=r;cases (show T="str" from ty);exact⟨typeIs_str s z t,λ_ e=>nomatch e⟩
 | M i=>
  obtain⟨t,rfl⟩:=r;cases (show T="int" from ty);exact⟨typeIs_int s i t,λ_ e=>nomatch e⟩
 | Z p=>
  cases r;rcases ty with⟨rfl,F,ao⟩|⟨rfl,o,aq,ak,hd⟩|⟨rfl,aq⟩|⟨rfl,S,n,aq⟩
  ·obtain⟨aL,_,pl,_⟩:=I.ö ao;refine⟨pl.Ń.Ÿ,λa e=>?_⟩;cases e;obtain⟨o,n,e,c,hd,_⟩:=pl;exact⟨o,e,hd⟩
  ·refine⟨⟨o,I.en p o aq,ak⟩,λa e=>?_⟩;cases e;exact⟨o,I.en _ o aq,hd⟩
  ·have z:∃o,s.P.ϛ p=O o/\o.amG:=by
    rcases aq with⟨Ϝ,aq⟩|⟨Ϝ,aq⟩
    ·obtain⟨_,_,_,_,o,_,_,e,ex,_⟩:=I.a9 p _ aq;exact⟨o,e,ex⟩
    ·obtain⟨_,_,_,_,o,_,_,e,ex,_⟩:=I.a9 p _ aq;exact⟨o,e,ex⟩
   obtain⟨o,e,ex⟩:=z;refine⟨⟨o,e,ex.1⟩,λa az=>?_⟩;cases az;exact⟨o,e,ex.2.1⟩
  ·obtain⟨o,_,_,_,e,ex,_⟩:=I.a9 p _ aq;refine⟨⟨o,e,ex.1⟩,λa az=>?_⟩;cases az;exact⟨o,e,ex.2.1⟩
 | _=>exact Ō.Ę ty
def BQ (K:ş)(T:è)(r:V->Y V->ag->a8->Prop)(to:TE):TE:=λJ H Q=>to J H λx H1=>BP K T x H1/\r x [] H1 Q
def tBM (K:ş)(T:è)(r:V->Y V->ag->a8->Prop)(to:TE)(t:du):TE:=λJ H Q=>to J H λx H1=>BP K T x H1/\t J H1 λF aC=>r x F aC Q
variable {o e:Expr}{es:List Expr}{to:TE}{t:du}{name:Str}{apos d7:Pos}{T id:String}{r:V->List V->ag->a8->Prop}
theorem Qo (mm:alO T)(If:Slot T name id)(lE:an0 (.ο id)=Ă (.χ "method_descriptor"))(hm:um X id r)(av:PE X o to)(BR:Ϫ (Å o name X.ό (ŗ o X.ό)=ŗ o X.ό) dA._auto_1)(BS:Ϫ ((Re.alm==d7.cr)=true) dA._auto_1):PE X (.č (.ŝ o name Re) [] [] d7) (BQ X.K T r to):=by
 intro ϩ s J H Q I h;refine wpAny_Call_method0_late BR BS (bA (av ϩ s J H _ I h) λv s1 ⟨x,H1,aK,bG,ty,a3⟩=>?_);obtain⟨g,ah⟩:=GK aK bG ty;exact⟨T,id,mm,If,lE,g,ah,ê.tz rfl (ϟ.evalArgs_none (hm ϩ s1 J H1 x [] v [] Q aK bG .ń a3))⟩
theorem jR (mm:alO T)(If:Slot T name id)(lE:an0 (.ο id)=Ă (.χ "method_descriptor"))(hm:um X id r)(av:PE X o to)(aN:PA X (e::C) t)(BR:Ϫ (Å o name X.ό (ŗ o X.ό)=ŗ o X.ό) dA._auto_1)(Qp:Ϫ (((ĕ d7 (ω (e::C) X.ό)).IY (λx=>!x.1)&&(UV d7 (Ą [] X.ό)).IY (λx=>x.1.Ĵ)
   && decide ((e::C).N+([]:Y TX).N+(if ([]:Y TX).Í then 0 else 1)<30))=true) dA._auto_1)(BS:Ϫ ((Re.alm==d7.cr)=true) dA._auto_1)(aH:Ϫ (ω (e::C) X.ό=(false,ŗ e X.ό)::ω C X.ό) dA._auto_1)(Qq:Ϫ ((ĕ d7 (ω C X.ό)).J_ (·.1)=false) dA._auto_1):
  PE X (.č (.ŝ o name Re) (e::C) [] d7) (tBM X.K T r to t):=by
 intro ϩ s J H Q I h;refine wpAny_Call_method_late BR Qp BS rfl (bA (av ϩ s J H _ I h) λv s1 ⟨x,H1,aK,bG,ty,a3⟩=>?_);obtain⟨g,ah⟩:=GK aK bG ty;refine⟨T,id,mm,If,lE,g,ah,?_⟩;have hA:=aN d7 ϩ s1 J H1 _ aK a3
 rw[aH]at hA ⊢;refine ê.tz (by show(false||(ĕ d7 (ω C X.ό)).J_ (·.1))=false;rw[Qq]<;>rfl) (ê.AT ?_);exact bA hA λus s2 ⟨d,aC,bt,bW,b9⟩=>hm ϩ s2 J aC x d v us Q bt bG bW b9
end
def GL (X:Cx)(id:è)(r:V->Y V->ag->a8->Prop):Prop:=
 ∀(ϩ:Y (Ϩ×ğ))(s:ϐ)(J:St)(H:ag)(x:V)(F:Y V)(v:ϫ)(us:Y ϫ)(Q:a8),Υ X ϩ J H s->ţ x v->ś F us->r x F H Q->
  ϙ (ώ X.ϔ X.w) X.Ϲ (WP (.ο id) (v::us)) (gs X ϩ J Q) X.c0 s
theorem ś.Pb {x:V}(h:ś [x] us):∃u,us=[u]/\ţ x u:=by
 cases h with|θ r t=>cases t;exact⟨_,rfl,r⟩
theorem ś.HW:∀{us:Y ϫ},ś [] us->us=[]
 | _,.ń=>rfl
theorem ś.n_ {F:Y V}(h:ś F us):ś F.n_ us.n_:=by
 induction h with
 | ń=>exact .ń
 | θ r t bB=>
  cases t with
  | ń=>exact .ń
  | θ q t'=>exact .θ r bB
theorem ś.Ĭ {F:Y V}(h:ś F us):ś F.Ĭ us.Ĭ:=by
 induction h with
 | ń=>exact .ń
 | θ r t bB=>rw[aa_,aa_];exact ś.I4 bB (.θ r .ń)
theorem Qr (l:Y α):l.eraseIdx (l.N-1)=l.n_:=by
 induction l with
 | ń=>rfl
 | θ a r bB=>
  cases r with
  | ń=>rfl
  | θ b r=>
   have e:(a::b::r).N-1=((b::r).N-1)+1:=by
    have g:(a::b::r).N=r.N+2:=rfl
    have ah:(b::r).N=r.N+1:=rfl
    omega
   rw[e,Y.eraseIdx_cons_succ,bB];all_goals rfl
section
variable {X:Cx}{pins:List (Addr×Obj)}{J:St}{H:ag}{s:Shared}{l b:Addr}{xs ys zs:List V}
theorem Υ.GN {aL OI:Y ϫ}{f:μ ϫ->μ ϫ}(I:Υ X ϩ J H s)(hP:H l=O (.Ť F))(e:s.P.ϛ l=O { Ŝ:=.χ "list",Φ:=.XV aL.ϗ n })(hf:f aL.ϗ=OI.ϗ)(aG:ś ys OI)(hz:ys.N<=ϓ):
  Υ X ϩ J (ſ H l (.Ť ys)) { s with P:=s.P.ý l (ğ.ajD f),Χ:=t' }:=by
 have q:=ϟ.IsL.ý e f
 rw[hf]at q;refine I.OS (x:=l) (e:=l) (by rw[hP];exact trivial) (.ε rfl) (λcc u af bK=>(ψ s.P (ğ.ajD f) (Ne.symm af)).Ϛ bK) ⟨_,q⟩ ?_;exact⟨hz,OI,_,aG,q⟩
theorem Υ.Qs {aL:Y ϫ}(I:Υ X ϩ J H s)(aG:ś ys aL)(hz:ys.N<=ϓ):
  Υ X ϩ J (ſ H s.P.Ϡ.Ϥ (.Ť ys)) { s with P:=s.P.Ũ { Ŝ:=.χ "list",Φ:=.XV aL.ϗ },Χ:=t' }:=
 I.HV (λ_ _ q=>ϥ _ q) (B.ϑ _) ⟨hz,aL,0,aG,σ _ rfl⟩
theorem Υ.Ĳ (I:Υ X ϩ J H s):H s.P.Ϡ.Ϥ=none:=I.a9.Ĳ (B.ϑ _)
theorem Υ.yV (I:Υ X ϩ J H s)(hP:H l=O (.Ť F)):F.N<=ϓ/\∃(aL:Y ϫ)(n:B),ś F aL/\F.N=aL.N/\s.P.ϛ l=O { Ŝ:=.χ "list",Φ:=.XV aL.ϗ n }:=by
 obtain⟨z,aL,n,r,e⟩:=I.a9 l _ hP;exact⟨z,aL,n,r,r.N,e⟩
end
section
variable {X:Cx}
def yW:V->Y V->ag->a8->Prop:=λx d H Q=>∃l F y,x=.Z l/\d=[y]/\H l=O (.Ť F)/\F.N<ϓ/\Q .br (ſ H l (.Ť (F++[y])))
theorem lF:GL X "list.append" yW:=by
 intro ϩ s J H x d v us Q I bc ck h;obtain⟨l,F,y,rfl,rfl,hP,hz,q⟩:=h;cases bc;obtain⟨u,rfl,fh⟩:=ck.Pb;obtain⟨z,aL,n,r,aw,e⟩:=I.yV hP;refine alP ϴ.ř ⟨_,e,rfl⟩ ϴ.entry_list_append (ϴ.args_list_append_2 _ _) (ϟ.list_append l aL.ϗ n u (by rw[ζ];omega)) ⟨e,?_⟩;refine⟨.br,_,I.GN (OI:=aL++[u]) hP e (by simp) (r.I4 (.θ fh .ń)) ?_,rfl,q⟩;rw[υ,LE];omega
def BU:V->Y V->ag->a8->Prop:=λx d H Q=>∃l F y,x=.Z l/\d=[]/\H l=O (.Ť F)/\F[F.N-1]?=O y/\Q y (ſ H l (.Ť F.n_))
theorem Qt:GL X "list.pop" BU:=by
 intro ϩ s J H x d v us Q I bc ck h;obtain⟨l,F,y,rfl,rfl,hP,aU,q⟩:=h;cases bc;have qW:=ck.HW
 subst qW;obtain⟨z,aL,n,r,aw,e⟩:=I.yV hP;obtain⟨u,bK,fh⟩:=r.O4 aU;have Qu:aL.ϗ[aL.ϗ.Ϥ-1]?=O u:=by
  show aL.ϗ[aL.N-1]?=O u
  rwa[<- μ.aiw,<- aw]
 refine alP ϴ.amm ⟨_,e,rfl⟩ ϴ.entry_list_pop (ϴ.args_list_pop_1 _) (MeetsSeq.list_pop_last l aL.ϗ n u Qu (by rw[ζ];omega)) ⟨e,?_⟩;refine⟨y,_,I.GN (OI:=aL.n_) hP e ?_ r.n_ ?_,fh,q⟩
 ·show aL.ϗ.eraseIdxIfInBounds (aL.ϗ.Ϥ-1)=aL.n_.ϗ
  rw[ζ,Y.eraseIdxIfInBounds_toArray,Qr]
 ·rw[Y.length_dropLast];omega
def BV:gw:=λx y H Q=>∃l b F zs,x=.Z l/\y=.Z b/\H l=O (.Ť F)/\H b=O (.Ť zs)/\F.N+zs.N<=ϓ/\∀p,H p=none->Q (.Z p) (ſ H p (.Ť (F++zs)))
theorem Qv:eo X (Hn .Add) BV:=by
 intro ϩ s J H x y v u Q I bc bu h;obtain⟨l,b,F,zs,rfl,rfl,hP,ke,hz,q⟩:=h;cases bc;cases bu;obtain⟨z,aL,n,r,aw,e⟩:=I.yV hP;obtain⟨da,qV,cS,bW,BW,az⟩:=I.yV ke;refine ϟ.Ϯ.add_list e az ?_ (by rw[ζ,ζ];omega);have a6:aL.ϗ++qV.ϗ=(aL++qV).ϗ:=by simp
 rw[a6];exact⟨.Z _,_,I.Qs (t':=s.Χ) (r.I4 bW) (by rw[υ];omega),rfl,q _ I.Ĳ⟩
end
section
variable {prog:Program}{w:World}{A:Around}{E:wvP}{s:Shared}
end
section
variable {X:Cx}
end
end L2
namespace Att
open PySem PySem.W PySem.Calls PyProof.Rows
theorem Qw {Ϯ:an1}{h:Θ}:∀(ns:Y G)(d:Y ϫ),WellAll Ϯ h d (ns.ϒ dL.M)->Ö d ns:=by
 intro ns;induction ns with
 | ń=>
  intro d w;rw[rc]at w;cases w;exact .ń
 | θ n ns bB=>
  intro d w;rw[Ŷ]at w;cases w with
  | θ a b=>
   cases a;exact .θ _ _ (bB _ b)
theorem Qx {l:ajc}(aF:l.most=O n){Ϯ:an1}{h:Θ}{args:Y dL}{vals:Y ϫ}(yX:l.row.alC.claim.pre args=true)(BX:WellAll Ϯ h vals args):
  ∃a d ns,vals=[ϫ.Z a]/\args=[dL.ö (ns.ϒ dL.M)]/\h.ϛ a=O { Ŝ:=.χ "list",Φ:=.XV d.ϗ }/\Ö d ns/\ns.N<=n:=by
 have Qy:amY.hasAll [] args [.ö .M]=true:=(pre_splitW yX).1
 have ak:l.pre.holds [] { args:=args }=true:=(pre_splitW yX).2
 obtain⟨ϻ,r,rfl,g,ah⟩:=hasAllW_cons Qy;obtain rfl:=hasAllW_nil ah;obtain⟨F,rfl,aI⟩:=hasW_list g;obtain⟨ns,rfl⟩:=items_int aI;have SB:ns.N<=n:=by
  unfold ajc.pre at ak;have bO:(WTm.not (.lt (.lit (.M (n:G))) (.SC (.arg 0)))).holds [] { args:=[.ö (ns.ϒ .M)] }=true:=by
   have bO:=(holds_andW ak).1
   rw[aF]at bO;exact bO
  have d1:=condW_of bO (w_not (w_lt w_lit (w_len_list (w_arg rfl))))
  rw[ϧ]at d1;refine B.ani λq=>?_;have bC:(n:G)<((ns.N:B):G):=⋯
  first
   | (rw[ι bC]at d1;exact bJ d1 ∅)
   | (simp at d1;omega)
 cases BX with
 | θ fQ l7=>
  cases l7;cases fQ with
  | ö av BY=>exact⟨_,_,ns,rfl,rfl,av,Qw ns _ BY,SB⟩
theorem Qz (l:ajc)(args:Y dL):l.row.alC.claim.post args (.Ã true) args=true:=
 postW_of (r:=l.row.alC) (X:=(true==true))
  (show amY.has [] (.Ã true) .Ã=true by first|rfl|decide|simp[amY.has,amY.arms,amY.armsAll])
  (show(WTm.eq .res (.lit (.Ã true))).IN [] { args:=args,res:=O (.Ã true),amE:=args }=O (.Ã (true==true)) from w_eq_bool (w_res rfl) w_lit) rfl
section
variable {prog:Program}{w:World}{A:Around}{E:wvP}{s:Shared}{K:Frag}
end
end Att
variable {xs:List (List L2.Key×PySem.Addr×PySem.Value)}{v:L2.V}{X:L2.Cx}{st:PySem.Stmt}{bT e3:L2.TE}{U H1 dy:L2.ag}{g8:L2.TI}{dz:L2.iz}{sp:L2.ep}{kvs:List (List L2.Key×L2.V)}{n6:List (L2.TE×L2.TE)}{cl:List (PySem.Str×PySem.Addr)}{ex:List PySem.Addr}{cf:PySem.Shared}{ifs:List PySem.Expr}{tt:L2.TT}{cD:L2.g7}{F:List L2.V->L2.ag->Prop}
namespace L2
open PySem PySem.Spec PyProof.Rows
theorem yY:∀{d:Y ϫ}{ns:Y G},Ö d ns->ś (ns.ϒ V.M) d
 | _,_,.ń=>.ń
 | _,_,.θ n t h=>.θ ⟨t,rfl⟩ (yY h)
def η (s:Τ)(j:B):Τ:=match s with
 | .ClassDef _ _ _ p_ _ _ _ _ _ _ _=>p_.œ j (.Pass ⟨0,0,0,0⟩)
 | _=>.Pass ⟨0,0,0,0⟩
def hQ (s:Τ):Arguments:=match s with
 | .l_ _ a _ _ _ _ _ _ _ _=>a
 | _=>{ posonlyargs:=[],args:=[],vararg:=none,kwonlyargs:=[],kw_defaults:=[],kwarg:=none,aj4:=[] }
def fI (s:Τ):Y Τ:=match s with
 | .l_ _ _ b _ _ _ _ _ _ _=>b
 | _=>[]
def bV (s:Τ):IK:=match s with
 | .l_ _ _ _ _ _ _ sc _ _ _=>sc
 | _=>{ î:=.ā,Λ:=[],aiT:=false,aiS:=false }
abbrev bx:iz:=λ_ _ _ _ _ _=>Ō
abbrev hc:bz:=λ_ _ _=>Ō
theorem n3:pv bx X hc:=λ_ _ _ _ _ _ _ h=>h.Ę
structure kG (K:ş)(x Ρ:ϕ)(E:Τ)(f:Ϩ)(fd:Ix):Prop where
 ex:∃(dI:ϫ)(cO:ϣ Ϩ)(bH ST pm:ϫ)(an:ϣ Ϩ)(Ë cb:ϫ)(eX:μ (ϣ ϫ)),
  fd=I0 x Ρ (hQ E) (fI E) (bV E) .none bH ST pm an Ë cb/\K.Ϣ f=O ⟨dI,cO,.OQ fd,eX⟩/\IW K Ë Ρ=true
 dU:Tk K (.Z f)=true
section
variable {P:Program}{w:World}{K:Frag}{mg:Str->Option Value}{base:Heap}
theorem kG.ok {k:B}(ϴ:kG K x Ρ E f fd)(S:n2 ϰ ps (bV E))(SC:∀d H Q ϵ,sp d H Q ϵ->d.N=ps.N)(jP:∀(Ë:ϫ)(Ϲ:ŕ)(Ϗ:Y OF)(s:ϐ)(H:ag)(d:Y V)(Q:a8)(ϵ:bz),dw k (Ϲ.Ê (ŋ Ρ (bV E) s.P.Ϡ.Ϥ f Ë))->sp d H Q ϵ->
   ∃t,Bf (hs bx Ϯ w K mg ϊ ϰ Ρ (bV E) f Ë Ϲ Ϗ s H ϵ).nox (fI E) t/\t { aP:=λ_ U=>Q .br U,iR:=Q } (ã ϰ d) H):ft Ϯ w K mg ϊ bx (k+1) f fd ps sp:=by
 obtain⟨dI,cO,bH,ST,pm,an,Ë,cb,eX,rfl,lk,e1⟩:=ϴ.ex;refine uj lk e1 S SC λϹ Ϗ s H d Q ϵ aO fS=>?_;obtain⟨t,h,q⟩:=jP Ë Ϲ Ϗ s H d Q ϵ aO fS;exact⟨t,h.nox,q⟩
theorem kG.zv (ϴ:kG K x Ρ E f fd)(h:∀(bH ST pm:ϫ)(an:ϣ Ϩ)(Ë cb:ϫ)(us:Y ϫ),us.N=ps.N->Ho (I0 x Ρ (hQ E) (fI E) (bV E) .none bH ST pm an Ë cb) ⟨us,[]⟩=Ă (ps.OU us)):ô K fd ps []:=by
 obtain⟨dI,cO,bH,ST,pm,an,Ë,cb,eX,rfl,lk,e1⟩:=ϴ.ex;exact .IY (h bH ST pm an Ë cb)
theorem QA {cO an:ϣ Ϩ}{bH:ϫ}(l:K.Ϣ f=O ⟨dI,cO,.OQ (I0 x Ρ (hQ E) (fI E) (bV E) .none bH ST pm an Ë cb),eX⟩)(c:IW K Ë Ρ=true)(k:Tk K (.Z f)=true):kG K x Ρ E f (I0 x Ρ (hQ E) (fI E) (bV E) .none bH ST pm an Ë cb):=⟨⟨dI,cO,bH,ST,pm,an,Ë,cb,eX,rfl,l,c⟩,k⟩
end
section
variable {X:Cx}
theorem cx (i:B)(cA:Ϫ (X.ϰ[i]?=O x) dA._auto_1)(aG:Ϫ (r7 X.ό.Ϟ x) dD._auto_1)(hd:Ϫ ((x==("__debug__":ϕ))=false) dB._auto_1)(e1:Ϫ ((x==("__classdict__":ϕ))=false) dB._auto_1):PE X (.ĸ x ŷ) (t5 i):=F0 cA aG hd e1
end
def a5 (H U:ag):Prop:=∀b o,H b=O o->U b=O o
theorem a5.Ô (H:ag):a5 H H:=λ_ _ h=>h
theorem a5.Ϛ {aC:ag}(a:a5 H H1)(b:a5 H1 aC):a5 H aC:=λc o h=>b c o (a c o h)
theorem a5.Ź (e:a5 H U)(h:U l=ϣ.none):H l=ϣ.none:=by
 cases q:H l with
 | none=>rfl
 | O o=>
  rw[e l o q]at h;cases h
theorem a5.XV {F:Y V}(e:a5 H U)(h:aM K H a F):aM K U a F:=by
 rcases h with(h|⟨o,h⟩)|h
 ·exact .ε (.ε (e _ _ h))
 ·exact .ε (.Œ ⟨o,e _ _ h⟩)
 ·exact .Œ h
section
variable {bE:Type}[DecidableEq bE]
def aW (Ϝ:Y (bE×V))(k:bE):ϣ V:=(Ϝ.find? λbS=>decide (bS.1=k)).ϒ (·.2)
def ß (Ϝ:Y (bE×V))(k:bE)(v:V):Y (bE×V):=
 if (Ϝ.J_ λbS=>decide (bS.1=k))=true then Ϝ.ϒ (λbS=>if bS.1=k then(bS.1,v) else bS) else Ϝ++[(k,v)]
theorem QB {k:bE}:aW ([]:Y (bE×V)) k=none:=rfl
theorem jS {p:bE×V}{r:Y (bE×V)}{k:bE}(e:p.1=k):aW (p::r) k=O p.2:=by simp[aW,aho,e]
theorem jT {p:bE×V}{r:Y (bE×V)}{k:bE}(e:¬p.1=k):aW (p::r) k=aW r k:=by simp[aW,aho,e]
theorem pB (k:bE):∀Ϝ:Y (bE×V),(Ϝ.J_ λbS=>decide (bS.1=k))=(aW Ϝ k).Ĵ
 | []=>rfl
 | p::r=>by
  rw[on];by_cases e:p.1=k
  ·simp only[jS e,ι e,δ.true_or,ϣ.isSome_some]
  ·rw[jT e,Γ e,δ.false_or];exact pB k r
theorem GO (k j:bE)(y:V):∀Ϝ:Y (bE×V),aW (Ϝ.ϒ λbS=>if bS.1=k then(bS.1,y) else bS) j=(aW Ϝ j).ϒ λx=>if j=k then y else x
 | []=>rfl
 | p::r=>by
  have bB:=GO k j y r
  rw[Ŷ];by_cases h:p.1=k
  ·rw[aS h];by_cases e:p.1=j
   ·rw[jS (p:=(p.1,y)) e,jS e,aj5,aS (e.symm.Ϛ h)]
   ·rw[jT (p:=(p.1,y)) e,jT e,bB]
  ·rw[aD h];by_cases e:p.1=j
   ·rw[jS (p:=p) e,jS e,aj5,aD (λz=>h (e.Ϛ z))]
   ·rw[jT (p:=p) e,jT e,bB]
theorem GP (k j:bE)(y:V):∀Ϝ:Y (bE×V),aW Ϝ k=none->aW (Ϝ++[(k,y)]) j=if j=k then O y else aW Ϝ j
 | [],_=>by
  by_cases e:k=j
  ·rw[aS e.symm];exact jS (p:=(k,y)) e
  ·rw[aD (λz=>e z.symm)];exact jT (p:=(k,y)) e
 | p::r,aF=>by
  rw[Y.cons_append];have aq:¬p.1=k:=λz=>by rw[jS z]at aF;cases aF
  rw[jT aq]at aF;have bB:=GP k j y r aF
  by_cases e:p.1=j
  ·rw[jS e,jS e,aD (λz=>aq (e.Ϛ z))]
  ·rw[jT e,jT e,bB]
theorem jU (Ϝ:Y (bE×V))(k j:bE)(y:V):aW (ß Ϝ k y) j=if j=k then O y else aW Ϝ j:=by
 unfold ß;by_cases a:(Ϝ.J_ λbS=>decide (bS.1=k))=true
 ·rw[aS a,GO];rw[pB]at a;by_cases e:j=k
  ·obtain⟨x,ai⟩:=z_.mp a;rw[aS e,e,ai,aj5,aS rfl]
  ·rw[aD e];cases aW Ϝ j with
   | none=>rfl
   | O x=>rw[aj5,aD e]
 ·rw[aD a];refine GP k j y Ϝ ?_;rw[pB]at a;cases q:aW Ϝ k with
  | none=>rfl
  | O x=>rw[q]at a;exact(a rfl).Ę
theorem yZ (Ϝ:Y (bE×V))(k:bE)(v:V):(ß Ϝ k v).N<=Ϝ.N+1:=by
 unfold ß;split
 ·rw[ϧ];omega
 ·rw[υ,ŵ,Ċ];omega
theorem BZ {Ϝ:Y (bE×V)}{k:bE}(v:V)(h:aW Ϝ k=none):ß Ϝ k v=Ϝ++[(k,v)]:=by
 unfold ß;rw[pB,h];exact aD ∅
theorem iu.uy {o:ϣ V}{u:ϣ ϫ}(r:iu o u):o.Ĵ=u.Ĵ:=by
 cases o with
 | none=>cases u with
  | none=>rfl
  | O _=>exact(show Ō from r).Ę
 | O _=>cases u with
  | none=>exact(show Ō from r).Ę
  | O _=>rfl
theorem iu.œ {o:ϣ V}{u:ϣ ϫ}{ϻ:V}{d':ϫ}(r:iu o u)(iy:ţ ϻ d'):ţ (o.œ ϻ) (u.œ d'):=by
 cases o with
 | none=>cases u with
  | none=>exact iy
  | O _=>exact(show Ō from r).Ę
 | O _=>cases u with
  | none=>exact(show Ō from r).Ę
  | O _=>exact r
theorem fp.val {Ϝ:Y (bE×V)}{d:Y (bE×ϫ)}(r:fp Ϝ d)(k:bE):iu (aW Ϝ k) (ajd d k):=by
 unfold fp at r;induction r with
 | ń=>exact Tl.intro
 | @θ p q ps gX h t bB=>
  obtain⟨g,ah⟩:=h;by_cases e:p.1=k
  ·have bq:q.1=k:=g.symm.Ϛ e
   have b:ajd (q::gX) k=O q.2:=by simp[ajd,aho,bq]
   rwa[jS e,b]
  ·have bq:¬q.1=k:=λz=>e (g.Ϛ z)
   have b:ajd (q::gX) k=ajd gX k:=by simp[ajd,aho,bq]
   rwa[jT e,b]
theorem fp.J_ {Ϝ:Y (bE×V)}{d:Y (bE×ϫ)}(r:fp Ϝ d)(k:bE):(Ϝ.J_ λbS=>decide (bS.1=k))=d.J_ λbS=>decide (bS.1=k):=by
 unfold fp at r;induction r with
 | ń=>rfl
 | θ h t bB=>rw[on,on,bB,h.1]
theorem fp.B0 {Ϝ:Y (bE×V)}{d:Y (bE×ϫ)}(r:fp Ϝ d)(k:bE)(bu:ţ y u):
  fp (Ϝ.ϒ λbS=>if bS.1=k then(bS.1,y) else bS) (d.ϒ λbS=>if bS.1=k then(bS.1,u) else bS):=by
 unfold fp at r ⊢;induction r with
 | ń=>exact .ń
 | @θ p q ps gX h t bB=>
  rw[Ŷ,Ŷ];refine .θ ?_ bB;obtain⟨g,ah⟩:=h;by_cases e:p.1=k
  ·rw[aS e,aS (g.symm.Ϛ e)];exact⟨g,bu⟩
  ·rw[aD e,aD (λz=>e (g.Ϛ z))];exact⟨g,ah⟩
theorem fp.put {Ϝ:Y (bE×V)}{d:Y (bE×ϫ)}(r:fp Ϝ d)(k:bE)(bu:ţ y u):fp (ß Ϝ k y) (an2 d k u):=by
 unfold ß an2;rw[r.J_ k];by_cases e:(d.J_ λbS=>decide (bS.1=k))=true
 ·rw[aS e,aS e];exact r.B0 k bu
 ·rw[aD e,aD e];exact ϋ.O2 r ⟨rfl,bu⟩
theorem fp.N {Ϝ:Y (bE×V)}{d:Y (bE×ϫ)}(r:fp Ϝ d):Ϝ.N=d.N:=ϋ.N r
end
theorem n4 {k:Ř}(r:ţ (bH k) u):(e0 Ϯ w).is k u=true:=by
 cases k with
 | ε i=>obtain⟨t,e⟩:=(show ∃t,u=ϫ.M i t from r);subst e;exact ajV Ϯ w i t
 | Œ x=>obtain⟨t,e⟩:=(show ∃t,u=ϫ.str x t from r);subst e;exact ajW Ϯ w x t
theorem QC {a b:Ř}(e:bH a=bH b):a=b:=by
 cases a with
 | ε i=>cases b with
  | ε j=>have bq:V.M i=V.M j:=e;injection bq with bq;rw[bq]
  | Œ y=>exact nomatch (show V.M i=V.str y from e)
 | Œ x=>cases b with
  | ε j=>exact nomatch (show V.str x=V.M j from e)
  | Œ y=>have bq:V.str x=V.str y:=e;injection bq with bq;rw[bq]
theorem GQ:∀{a b:Y Ř},a.ϒ bH=b.ϒ bH->a=b
 | [],[],_=>rfl
 | [],_::_,e=>by simp at e
 | _::_,[],e=>by simp at e
 | x::F,y::ys,e=>by
  rw[Ŷ,Ŷ]at e;injection e with au az
  rw[QC au,GQ az]
theorem GR {Ϯ:Č}{w:Þ}:∀{ks:Y Ř}{us:Y ϫ},ś (ks.ϒ bH) us->ItemsAre (e0 Ϯ w) ks us
 | [],_,r=>by rw[rc]at r;cases r;exact .ń
 | k::ks,_,r=>by
  rw[Ŷ]at r;cases r with
  | θ h t=>exact .θ (n4 h) (GR t)
abbrev KT (H:ag):Y (Y Ř×V)->Y (Y Ř×Ϩ×ϫ)->Prop:=ϋ λp q=>p.1=q.1/\H q.2.1=O (.Ţ (p.1.ϒ bH))/\ţ p.2 q.2.2
theorem KT.val  (r:KT H Ϝ F)(k:Y Ř):iu (aW Ϝ k) ((Bd F k).ϒ (·.2)):=by
 induction r with
 | ń=>exact Tl.intro
 | @θ p q ps gX h t bB=>
  obtain⟨g,_,ah⟩:=h;by_cases e:p.1=k
  ·have bq:q.1=k:=g.symm.Ϛ e
   have b:Bd (q::gX) k=O q.2:=by simp[Bd,aho,bq]
   rwa[jS e,b]
  ·have bq:¬q.1=k:=λz=>e (g.Ϛ z)
   have b:Bd (q::gX) k=Bd gX k:=by simp[Bd,aho,bq]
   rwa[jT e,b]
theorem KT.B0  (r:KT H Ϝ F)(k:Y Ř)(bu:ţ y u):
  KT H (Ϝ.ϒ λbS=>if bS.1=k then(bS.1,y) else bS) (F.ϒ (putAt k u)):=by
 induction r with
 | ń=>exact .ń
 | @θ p q ps gX h t bB=>
  rw[Ŷ,Ŷ];refine .θ ?_ bB;obtain⟨g,ah,aI⟩:=h;unfold putAt;by_cases e:p.1=k
  ·rw[aS e,aS (g.symm.Ϛ e)];exact⟨g,ah,bu⟩
  ·rw[aD e,aD (λz=>e (g.Ϛ z))];exact⟨g,ah,aI⟩
theorem KT.put  (r:KT H Ϝ F)(k:Y Ř){b:Ϩ}(af:H b=O (.Ţ (k.ϒ bH)))(bu:ţ y u):
  KT H (ß Ϝ k y) (storedH F k b u):=by
 have e:(Ϝ.J_ λbS=>decide (bS.1=k))=(Bd F k).Ĵ:=by
  rw[pB,(r.val k).uy,alQ]
 unfold ß storedH;rw[e];by_cases q:(Bd F k).Ĵ=true
 ·rw[aS q,aS q];exact r.B0 k bu
 ·rw[aD q,aD q];exact ϋ.O2 r ⟨rfl,af,bu⟩
theorem KT.å  (r:KT H Ϝ F)(bk:∀b ys,H b=O (.Ţ ys)->U b=O (.Ţ ys)):KT U Ϝ F:=
 ϋ.gq r λ_ _ z=>⟨z.1,bk _ _ z.2.1,z.2.2⟩
section
variable {P:Program}{w:World}{H:ag}{h:Heap}{a:Addr}
theorem GS {u:bb}(ok:ek Ϯ w H h)(e:lq H a u):dG Ϯ w H h a u:=e.ok ok
theorem n5 {Ϝ:Y (Ř×V)}(ok:ek Ϯ w H h)(e:lq H a (.bL Ϝ)):Ϝ.N<=ϓ/\(a==Ŋ)=false/\∃d,fp Ϝ d/\h.im (e0 Ϯ w) a d:=
 show dG Ϯ w H h a (.bL Ϝ) from GS ok e
theorem B1 {Ϝ:Y (Ř×V)}(ok:ek Ϯ w H h)(e:H a=O (.bL Ϝ)):Ϝ.N<=ϓ/\(a==Ŋ)=false/\∃d,fp Ϝ d/\h.im (e0 Ϯ w) a d:=n5 ok (.ε e)
theorem pC {ks:Y Ř}(ok:ek Ϯ w H h)(e:H a=O (.Ţ (ks.ϒ bH))):(TW (e0 Ϯ w)).is h ks a:=by
 obtain⟨_,aL,r,o,g,ah,n,aI⟩:=(show dG Ϯ w H h a (.Ţ (ks.ϒ bH)) from ok a _ e);exact⟨o,aL.ϗ,n,g,ah,aI,by simpa using GR r⟩
theorem pD (ok:ek Ϯ w H h)(e:lq H a (.bQ Ϝ)):Ϝ.N<=ϓ/\(a==Ŋ)=false/\
  ∃F,KT H Ϝ F/\h.GM (TW (e0 Ϯ w)) a F:=by
 obtain⟨z,y,F,r,o,C,cw,g,ah,aI,bO,d1⟩:=(show dG Ϯ w H h a (.bQ Ϝ) from GS ok e);refine⟨z,y,F,r,o,C,cw,g,ah,aI,bO,λx ai=>?_,d1⟩;have IY:∀{l:Y (Y Ř×V)}{m:Y (Y Ř×Ϩ×ϫ)},KT H l m->∀x∈m,(TW (e0 Ϯ w)).is h x.1 x.2.1:=by
  intro l m q;induction q with
  | ń=>intro x ai;exact nomatch ai
  | @θ p q ps gX ao t bB=>
   intro x ai;rcases ς.mp ai with e|ai
   ·subst e;exact pC ok (by rw[<- ao.1];exact ao.2.1)
   ·exact bB x ai
 exact IY r x ai
theorem sv (ok:ek Ϯ w H h)(e:H a=O (.bQ Ϝ)):Ϝ.N<=ϓ/\(a==Ŋ)=false/\
  ∃F,KT H Ϝ F/\h.GM (TW (e0 Ϯ w)) a F:=pD ok (.ε e)
end
def eK (H:ag)(a:Ϩ)(y:V)(r:ϣ V):Prop:=
 (∃Ϝ k,lq H a (.bL Ϝ)/\y=bH k/\r=aW Ϝ k)\/∃Ϝ k b,lq H a (.bQ Ϝ)/\y=.Z b/\H b=O (.Ţ (k.ϒ bH))/\r=aW Ϝ k
def kH (H:ag)(a:Ϩ)(y v:V)(U:ag):Prop:=
 (∃Ϝ k,H a=O (.bL Ϝ)/\y=bH k/\Ϝ.N<ϓ/\U=ſ H a (.bL (ß Ϝ k v)))\/
 ∃Ϝ k b,H a=O (.bQ Ϝ)/\y=.Z b/\H b=O (.Ţ (k.ϒ bH))/\Ϝ.N<ϓ/\U=ſ H a (.bQ (ß Ϝ k v))
theorem eK.k {Ϝ:Y (Ř×V)}{k:Ř}(e:H a=O (.bL Ϝ)):eK H a (bH k) (aW Ϝ k):=.ε ⟨Ϝ,k,.ε e,rfl,rfl⟩
theorem eK.t {b:Ϩ}{k:Y Ř}(e:H a=O (.bQ Ϝ))(eb:H b=O (.Ţ (k.ϒ bH))):eK H a (.Z b) (aW Ϝ k):=.Œ ⟨Ϝ,k,b,.ε e,rfl,eb,rfl⟩
theorem kH.k {Ϝ:Y (Ř×V)}{k:Ř}(e:H a=O (.bL Ϝ))(aw:Ϝ.N<ϓ):kH H a (bH k) v (ſ H a (.bL (ß Ϝ k v))):=.ε ⟨Ϝ,k,e,rfl,aw,rfl⟩
theorem kH.t {b:Ϩ}{k:Y Ř}(e:H a=O (.bQ Ϝ))(eb:H b=O (.Ţ (k.ϒ bH)))(aw:Ϝ.N<ϓ):
  kH H a (.Z b) v (ſ H a (.bQ (ß Ϝ k v))):=.Œ ⟨Ϝ,k,b,e,rfl,eb,aw,rfl⟩
section
variable {X:Cx}{pins:List (Addr×Obj)}{J:St}{H:ag}{s:Shared}{a:Addr}{y v:V}{u r:Value}{o:Option V}{A:Around}{E:wvP}
theorem Υ.big (I:Υ X ϩ J H s):Ŋ<s.P.Ϡ.Ϥ:=by
 have h:Ļ<s.P.Ϡ.Ϥ:=(I.Om.OG.å I.bf).lt
 exact B.anM ∅ h
theorem QD (bK:Ϲ.õ+1<ä)(I:Υ X ϩ J H s)(Ϻ:eK H a y (O v))(bu:ţ y u)(h:∀eS s',Υ X ϩ J H s'->ţ v eS->Q eS s'):
  ϙ (ώ X.ϔ X.w) Ϲ (U4 (.Z a) u) Q ϵ s:=by
 rcases Ϻ with⟨Ϝ,k,e,fJ,l⟩|⟨Ϝ,k,b,e,fJ,eb,l⟩
 ·subst fJ;obtain⟨z,hd,d,xz,dd⟩:=n5 I.a9 e;obtain⟨eS,hw,ji⟩:=iu.am3 (v:=v) (o:=ajd d k) (by rw[l];exact xz.val k);exact wpAny_getItem_of (n4 bu) dd.mapOf hw (h eS _ (I.bn _) ji)
 ·subst fJ;cases (show u=ϫ.Z b from bu);obtain⟨z,hd,F,xz,dd⟩:=pD I.a9 e;obtain⟨eS,hw,ji⟩:=iu.am3 (v:=v) (o:=(Bd F k).ϒ (·.2)) (by rw[l];exact xz.val k);obtain⟨p,ay,QE⟩:=ξ.mp hw;refine wpAny_getItem_heap (ÿ bK) (pC I.a9 eb) dd ay ?_;rw[QE];exact h eS _ (I.bn _) ji
theorem QF (bK:Ϲ.õ+1<ä)(I:Υ X ϩ J H s)(Ϻ:eK H a y o)(bu:ţ y u)(h:∀s',Υ X ϩ J H s'->Q (.Ã o.Ĵ) s'):
  ϙ (ώ X.ϔ X.w) Ϲ (ų .In u (.Z a)) Q ϵ s:=by
 rcases Ϻ with⟨Ϝ,k,e,fJ,l⟩|⟨Ϝ,k,b,e,fJ,eb,l⟩
 ·subst fJ;obtain⟨z,hd,d,xz,dd⟩:=n5 I.a9 e;refine wpAny_in_of (n4 bu) hd dd.mapOf ?_;rw[<- (xz.val k).uy,<- l];exact h _ (I.bn _)
 ·subst fJ;cases (show u=ϫ.Z b from bu);obtain⟨z,hd,F,xz,dd⟩:=pD I.a9 e;refine wpAny_in_heap (ÿ bK) (pC I.a9 eb) hd dd ?_;have q:=(xz.val k).uy
  rw[alQ]at q;rw[<- q,<- l];exact h _ (I.bn _)
theorem QG (bK:Ϲ.õ+1<ä)(I:Υ X ϩ J H s)(Ϻ:eK H a y o)(bu:ţ y u)(h:∀s',Υ X ϩ J H s'->Q (.Ã (!o.Ĵ)) s'):
  ϙ (ώ X.ϔ X.w) Ϲ (ų .amC u (.Z a)) Q ϵ s:=by
 rcases Ϻ with⟨Ϝ,k,e,fJ,l⟩|⟨Ϝ,k,b,e,fJ,eb,l⟩
 ·subst fJ;obtain⟨z,hd,d,xz,dd⟩:=n5 I.a9 e;refine wpAny_notIn_of (n4 bu) hd dd.mapOf ?_;rw[<- (xz.val k).uy,<- l];exact h _ (I.bn _)
 ·subst fJ;cases (show u=ϫ.Z b from bu);obtain⟨z,hd,F,xz,dd⟩:=pD I.a9 e;refine wpAny_notIn_heap (ÿ bK) (pC I.a9 eb) hd dd ?_;have q:=(xz.val k).uy
  rw[alQ]at q;rw[<- q,<- l];exact h _ (I.bn _)
theorem y0 {ob:bb}(I:Υ X ϩ J H s)(gr:tZ (H a))(aH:Θ.N_ a s.P h')(he:∃q,h'.ϛ a=O q)(OR:dG X.ϔ X.w (ſ H a ob) h' a ob):
  Υ X ϩ J (ſ H a ob) { s with P:=h',Χ:=t' }:=
 I.OS (x:=a) (e:=a) gr (.ε rfl) (λb q af z=>(aH.2 b af).Ϛ z) he OR
theorem B2 {Ϝ:Y (Ř×V)}{d:Y (Ř×ϫ)}(z:Ϝ.N<=ϓ)(hd:(a==Ŋ)=false)(xz:fp Ϝ d)(dd:h'.im (e0 Ϯ w) a d):
  dG Ϯ w U h' a (.bL Ϝ):=⟨z,hd,d,xz,dd⟩
theorem QH {Q:O7->ϐ->Prop}(bK:Ϲ.õ+1<ä)(I:Υ X ϩ J H s)(Ϻ:kH H a y v U)(bu:ţ y u)(ck:ţ v r)(h:∀s',Υ X ϩ J U s'->Q () s'):
  ϙ (ώ X.ϔ X.w) Ϲ (setItem (.Z a) u r) Q ϵ s:=by
 rcases Ϻ with⟨Ϝ,k,e,fJ,l,qX⟩|⟨Ϝ,k,b,e,fJ,eb,l,qX⟩
 ·subst fJ qX;obtain⟨z,hd,d,xz,dd⟩:=B1 I.a9 e;have hz:d.N<=ϓ:=by rwa[<- xz.N]
  have aw:(ß Ϝ k v).N<=ϓ:=by have:=yZ Ϝ k v;omega
  refine wpAny_setItem_pairs (Oz:=hz) (n4 bu) dd λh' mn aH=>h _ ?_;have he:∃q,h'.ϛ a=O q:=let⟨q,_,_,ao,_⟩:=mn;⟨q,ao⟩
  exact y0 I (by rw[e];exact Tl.intro) aH he (B2 aw hd (xz.put k ck) mn)
 ·subst fJ qX;cases (show u=ϫ.Z b from bu);obtain⟨z,hd,F,xz,dd⟩:=sv I.a9 e;have hz:F.N<=ϓ:=by rwa[<- ϋ.N xz]
  have aw:(ß Ϝ k v).N<=ϓ:=by have:=yZ Ϝ k v;omega
  refine wpAny_setItem_heap (Oz:=hz) (ÿ bK) (pC I.a9 eb) dd λh' mn aH=>h _ ?_;obtain⟨q,C,cw,ao,ah,aI,bO,_,d1⟩:=mn;refine y0 I (by rw[e];exact Tl.intro) aH ⟨q,ao⟩ ⟨aw,hd,_,(xz.put k eb ck).å λc ys gN=>?_,q,C,cw,ao,ah,aI,bO,d1⟩;rwa[aE (bM gN e (λz=>nomatch z))]
end
section
variable {X:Cx}{pins:List (Addr×Obj)}{J:St}{H:ag}{s:Shared}{a:Addr}{kvs:List (Key×V)}{k:Key}{u:Value}{A:Around}{E:wvP}
end
def GU (i:Ġ):Prop:=∀dT h7,aiU i false dT h7=operate [dT,h7] (U4 dT h7)
theorem QI {IN OC:Ġ}{T id:è}(aw:u_ (.χ T) "__getitem__"=Ă (O (.ο id)))(aH:GU OC)(h:ϙ (ώ ϔ w) Ϲ (ŗ IN ό) (λo eg=>ϙ (ώ ϔ w) Ϲ (ŗ OC ό) (λi iV=>iV.Q_ o T/\ϙ (ώ ϔ w) Ϲ (U4 o i) Q ϵ iV) ϵ eg) ϵ s):
  ϙ (ώ ϔ w) Ϲ (ŗ (.M_ IN OC ŷ) ό) Q ϵ s:=by
 refine ajH (ů h (λo eg gp=>ů gp (λi iV qz=>?_) λ_ _ x=>x) λ_ _ x=>x);obtain⟨cP,qz⟩:=qz;unfold ajt;refine ax ?_;rw[getitemInPython_of_ne cP.not_modules];refine ax (Uf cP aw ?_);have d_:ϙ (ώ ϔ w) Ϲ (aiU OC false o i) (λr jN=>ϙ (ώ ϔ w) Ϲ (letTemporaryGo IN o r>>=λ_=>Ă r) Q ϵ jN) ϵ iV:=by
  rw[aH o i];exact wpAny_operating (ů qz (λr jN sx=>ax (wpAny_letTemporaryGo (bp sx))) λ_ _ x=>x)
 first
  | exact bp (ax d_)
  | exact ax (bp (ax d_))
  | exact ax d_
theorem QJ {o:ϣ V}(I:Υ X ϩ J H s)(Ϻ:eK H a y o):s.Q_ (.Z a) "dict":=by
 rcases Ϻ with⟨Ϝ,k,e,_,_⟩|⟨Ϝ,k,b,e,_,_,_⟩
 ·obtain⟨_,_,d,_,dd⟩:=n5 I.a9 e;exact dd.Ÿ
 ·obtain⟨_,_,F,_,dd⟩:=pD I.a9 e;exact dd.Ÿ
def zwz (eD ty:TE):TE:=λJ H Q=>eD J H λx H1=>ty J H1 λy aC=>∃a v,x=.Z a/\eK aC a y (O v)/\Q v aC
def B3 (ty eD:TE):TE:=λJ H Q=>ty J H λy H1=>eD J H1 λx aC=>∃a o,x=.Z a/\eK aC a y o/\Q (.bl o.Ĵ) aC
def zdv (ty eD:TE):TE:=λJ H Q=>ty J H λy H1=>eD J H1 λx aC=>∃a o,x=.Z a/\eK aC a y o/\Q (.bl (!o.Ĵ)) aC
def zwh (eD ty fy:TE):dn:=λ϶ J H=>fy J H λv H1=>eD J H1 λx aC=>ty J aC λy bw=>∃a cK,x=.Z a/\kH bw a y v cK/\϶.aP J cK
section
variable {X:Cx}{o i e value:Expr}{pos pos' kc:Pos}{eD ty fy:TE}
theorem jl (bK:X.Ϲ.õ+1<ä)(av:PE X o eD)(aA:PE X i ty)(aH:GU i):PE X (.M_ o i ŷ) (zwz eD ty):=by
 intro ϩ s J H Q I h;refine QI ϟ.ϴ.slot_dict_getitem.Ϣ aH (bA (av ϩ s J H _ I h) λu s1 ⟨x,H1,aK,bc,a3⟩=>bA (aA ϩ s1 J H1 _ aK a3) λh7 s2 gy=>?_);refine L2.IS λUq uq=>?_;obtain⟨y,aC,bt,bu,a,v,ex,Ϻ,b9⟩:=gy;refine uq ?_;clear uq Uq;subst ex;obtain rfl:u=ϫ.Z a:=bc;exact⟨QJ bt Ϻ,QD bK bt Ϻ bu λeS s3 dc ji=>⟨v,aC,dc,ji,b9⟩⟩
theorem QK (bK:X.Ϲ.õ+1<ä)(aA:PE X i ty)(av:PE X o eD):yB X .In i o (B3 ty eD):=by
 intro ϩ s J H Q I h;refine bA (aA ϩ s J H _ I h) λh7 s1 ⟨y,H1,aK,bu,a3⟩=>bA (av ϩ s1 J H1 _ aK a3) λu s2 gy=>?_;refine L2.IS λUq uq=>?_;obtain⟨x,aC,bt,bc,a,dT,ex,Ϻ,b9⟩:=gy;refine uq ?_;clear uq Uq;subst ex;obtain rfl:u=ϫ.Z a:=bc;exact QF bK bt Ϻ bu λs3 dc=>⟨.bl dT.Ĵ,aC,dc,rfl,b9⟩
theorem sy (bK:X.Ϲ.õ+1<ä)(aA:PE X i ty)(av:PE X o eD):yB X .amC i o (zdv ty eD):=by
 intro ϩ s J H Q I h;refine bA (aA ϩ s J H _ I h) λh7 s1 ⟨y,H1,aK,bu,a3⟩=>bA (av ϩ s1 J H1 _ aK a3) λu s2 gy=>?_;refine L2.IS λUq uq=>?_;obtain⟨x,aC,bt,bc,a,dT,ex,Ϻ,b9⟩:=gy;refine uq ?_;clear uq Uq;subst ex;obtain rfl:u=ϫ.Z a:=bc;exact QG bK bt Ϻ bu λs3 dc=>⟨.bl (!dT.Ĵ),aC,dc,rfl,b9⟩
theorem qY (bK:X.Ϲ.õ+1<ä)(av:PE X o eD)(aA:PE X i ty)(aG:PE X IN fy)(aH:wn IN (O (.M_ o i OJ)) ŷ.cr X.ό=Ă false):
  PS X (.ajC [.M_ o i OJ] IN ŷ) (zwh eD ty fy):=by
 intro ϩ s J H ϶ I h;refine wpAny_Assign_Subscript (bA (aG ϩ s J H _ I h) λr s1 ⟨v,H1,aK,ck,a3⟩=>bA (av ϩ s1 J H1 _ aK a3) λu s2 ⟨x,aC,bt,bc,b9⟩=>bA (aA ϩ s2 J aC _ bt b9) λh7 s3 gy=>?_) aH;refine L2.IS λUq uq=>?_;obtain⟨y,bw,dc,bu,a,cK,ex,Ϻ,eV⟩:=gy;refine uq ?_;clear uq Uq;subst ex;obtain rfl:u=ϫ.Z a:=bc;exact QH bK dc Ϻ bu ck λs4 hl=>⟨J,cK,hl,eV⟩
end
theorem GV (h:Θ)(af:Ŋ<h.Ϡ.Ϥ):dG Ϯ w H (h.Ũ { Ŝ:=.χ "dict",Φ:=.ï #[] }) h.Ϡ.Ϥ (.bL []):=
 ⟨ł _,ĺ.ļ (Ne.symm (Ι af)),[],.ń,Θ.im.OR h⟩
theorem GW (h:Θ)(af:Ŋ<h.Ϡ.Ϥ):dG Ϯ w H (h.Ũ { Ŝ:=.χ "dict",Φ:=.ï #[] }) h.Ϡ.Ϥ (.bQ []):=
 ⟨ł _,ĺ.ļ (Ne.symm (Ι af)),[],.ń,_,#[],0,σ _ rfl,⟨rfl,rfl,rfl⟩,rfl,rfl,wf⟩
def uz:TE:=λ_ H Q=>∀p,H p=none->Q (.Z p) (ſ H p (.bL []))
def B4:TE:=λ_ H Q=>∀p,H p=none->Q (.Z p) (ſ H p (.bQ []))
section
variable {X:Cx}{pos:Pos}
theorem uA:PE X (.x_ [] [] ŷ) uz:=λϩ s J H Q I h=>
 akG ⟨.Z s.P.Ϡ.Ϥ,_,I.HV (a:=s.P.Ϡ.Ϥ) (o:=.bL []) (t':=s.Χ) (λ_ _ q=>ϥ _ q) (B.ϑ _) (GV s.P I.big),rfl,h _ (I.a9.Ĳ (B.ϑ _))⟩
theorem GX:PE X (.x_ [] [] ŷ) B4:=λϩ s J H Q I h=>
 akG ⟨.Z s.P.Ϡ.Ϥ,_,I.HV (a:=s.P.Ϡ.Ϥ) (o:=.bQ []) (t':=s.Χ) (λ_ _ q=>ϥ _ q) (B.ϑ _) (GW s.P I.big),rfl,h _ (I.a9.Ĳ (B.ϑ _))⟩
end
def zcn:Y (TE×TE)->St->ag->(Y (V×V)->ag->Prop)->Prop
 | [],_,H,Q=>Q [] H
 | (tk,fy)::r,J,H,Q=>tk J H λx H1=>fy J H1 λy aC=>zcn r J aC λps bw=>Q ((x,y)::ps) bw
abbrev GY:Y (V×V)->Y (ϫ×ϫ)->Prop:=ϋ λp q=>ţ p.1 q.1/\ţ p.2 q.2
def y1 (X:Cx)(ŷ:Ox)(O3:Y (ϣ Ġ))(alD:Y Ġ)(n6:Y (TE×TE)):Prop:=
 ∀(ϩ:Y (Ϩ×ğ))(s:ϐ)(J:St)(H:ag)(Q:Y (V×V)->ag->Prop),Υ X ϩ J H s->zcn n6 J H Q->
  ϙ (ώ X.ϔ X.w) X.Ϲ (evalPairs (pairTrees O3 alD X.ό ŷ)) (λd s'=>∃ps U,Υ X ϩ J U s'/\GY ps d/\Q ps U) X.c0 s
theorem GZ:y1 X ŷ [] [] []:=λϩ s J H Q I h=>pairTrees_nil_walk ⟨[],H,I,.ń,h⟩
theorem y2 {k v:Ġ}{ks:Y (ϣ Ġ)}{d:Y Ġ}{tk fy:TE}(aq:PE X k tk)(aG:PE X v fy)(aO:y1 X ŷ ks d n6):
  y1 X ŷ (O k::ks) (v::d) ((tk,fy)::n6):=λϩ s J H Q I h=>
 pairTrees_cons_walk (bA (aq ϩ s J H _ I h) λu s1 ⟨x,H1,aK,bc,a3⟩=>bA (aG ϩ s1 J H1 _ aK a3) λl7 s2 ⟨y,aC,bt,bu,b9⟩=>
  bA (aO ϩ s2 J aC _ bt b9) λws s3 ⟨ps,bw,dc,xz,eV⟩=>⟨(x,y)::ps,bw,dc,.θ ⟨bc,bu⟩ xz,eV⟩)
def kI (Ϝ IT:Y (Ř×V)):Y (Ř×V):=IT.alw (λwv bS=>ß wv bS.1 bS.2) Ϝ
theorem fp.merge:∀{IT:Y (Ř×V)}{rs:Y (Ř×ϫ)}{Ϝ:Y (Ř×V)}{d:Y (Ř×ϫ)},fp IT rs->fp Ϝ d->fp (kI Ϝ IT) (amZ d rs):=by
 intro IT rs Ϝ d r;unfold fp at r;induction r generalizing Ϝ d with
 | ń=>intro q;exact q
 | @θ p q ps gX h t bB=>
  intro mq;have e:fp (ß Ϝ p.1 p.2) (an2 d q.1 q.2):=by
   have:=mq.put p.1 h.2
   rwa[<- h.1]
  exact bB e
theorem B5:∀(IT Ϝ:Y (Ř×V)),(kI Ϝ IT).N<=Ϝ.N+IT.N
 | [],Ϝ=>by show Ϝ.N<=Ϝ.N+0;omega
 | p::r,Ϝ=>by
  have g:=B5 r (ß Ϝ p.1 p.2)
  have ah:=yZ Ϝ p.1 p.2
  show(kI (ß Ϝ p.1 p.2) r).N<=_
  rw[ŵ];omega
theorem G0 {Ϯ:Č}{w:Þ}:∀{Ϝ:Y (Ř×V)}{ws:Y (ϫ×ϫ)},GY (Ϝ.ϒ λbS=>(bH bS.1,bS.2)) ws->∃rs,Carries (e0 Ϯ w) ws rs/\fp Ϝ rs
 | [],_,r=>by rw[rc]at r;cases r;exact⟨[],Tl.intro,.ń⟩
 | p::Ϝ,_,r=>by
  rw[Ŷ]at r;cases r with
  | @θ a b as bs h t=>
   obtain⟨rs,c,q⟩:=G0 (Ϯ:=Ϯ) (w:=w) t;obtain⟨b1,b2⟩:=b;exact⟨(p.1,b2)::rs,⟨n4 h.1,rfl,c⟩,.θ ⟨rfl,h.2⟩ q⟩
def zvu (n6:Y (TE×TE)):TE:=λJ H Q=>∀p,H p=none->zcn n6 J (ſ H p (.bL [])) λps aC=>aC p=O (.bL [])/\∃Ϝ:Y (Ř×V),ps=Ϝ.ϒ (λbS=>(bH bS.1,bS.2))/\Ϝ.N<=15/\Q (.Z p) (ſ aC p (.bL (kI [] Ϝ)))
theorem QL {O3:Y (ϣ Ġ)}{alD:Y Ġ}(h:y1 X ŷ O3 alD n6)(BY:O3.IY (·.Ĵ)=true)(aw:O3.N=alD.N)(h0:O3≠[])(QM:O3.N<=15):PE X (.x_ O3 alD ŷ) (zvu n6):=by
 intro ϩ s J H Q I q;have aF:=I.a9.Ĳ (B.ϑ s.P.Ϡ.Ϥ)
 have aK:=I.HV (a:=s.P.Ϡ.Ϥ) (o:=.bL []) (h':=s.P.Ũ { Ŝ:=.χ "dict",Φ:=.ï #[] }) (t':=s.Χ) (λ_ _ q=>ϥ _ q) (B.ϑ _) (GV s.P I.big)
 refine wpAny_Dict_walk (i_:=e0 X.ϔ X.w) BY aw h0 QM (bA (h ϩ _ J _ _ aK (q _ aF)) λws s2 gy=>?_);refine L2.IS λUq uq=>?_;obtain⟨ps,aC,bt,xz,e,Ϝ,cw,lk,b9⟩:=gy;refine uq ?_;clear uq Uq;subst cw;obtain⟨rs,c,QN⟩:=G0 (Ϯ:=X.ϔ) (w:=X.w) xz;obtain⟨z,hd,afQ,mq,dd⟩:=B1 bt.a9 e;cases mq;refine⟨rs,c,dd,λh' mn aH=>⟨.Z s.P.Ϡ.Ϥ,_,?_,rfl,b9⟩⟩;have hz:(kI [] Ϝ).N<=ϓ:=by
  have g:=B5 Ϝ []
  rw[Ċ]at g;rw[ρ];omega
 have he:∃q,h'.ϛ s.P.Ϡ.Ϥ=O q:=let⟨q,_,_,ao,_⟩:=mn;⟨q,ao⟩
 exact y0 bt (by rw[e];exact Tl.intro) aH he (B2 hz hd (QN.merge .ń) mn)
structure pE (X:Cx)(o:Ġ)(m:ϕ)(Re:Ox)(e:Ġ)(d7:Ox):Prop where
 ϊ:Å o m X.ό (ŗ o X.ό)=ŗ o X.ό
 qZ:((ĕ d7 (ω [e] X.ό)).IY (λx=>!x.1)&&(UV d7 (Ą [] X.ό)).IY (λx=>x.1.Ĵ)
  && decide (([e]:Y Ġ).N+([]:Y TX).N+(if ([]:Y TX).Í then 0 else 1)<30))=true
 cr:(Re.alm==d7.cr)=true
 trees:ĕ d7 (ω [e] X.ό)=[(false,ŗ e X.ό)]
structure M2 (X:Cx)(o:Ġ)(m:ϕ)(Re:Ox)(e f:Ġ)(d7:Ox):Prop where
 ϊ:Å o m X.ό (ŗ o X.ό)=ŗ o X.ό
 qZ:((ĕ d7 (ω [e,f] X.ό)).IY (λx=>!x.1)&&(UV d7 (Ą [] X.ό)).IY (λx=>x.1.Ĵ)
  && decide (([e,f]:Y Ġ).N+([]:Y TX).N+(if ([]:Y TX).Í then 0 else 1)<30))=true
 cr:(Re.alm==d7.cr)=true
 trees:ĕ d7 (ω [e,f] X.ό)=[(false,ŗ e X.ό),(false,ŗ f X.ό)]
def B6 (H:ag)(a:Ϩ):Prop:=(∃Ϝ,lq H a (.bL Ϝ))\/∃Ϝ,lq H a (.bQ Ϝ)
theorem G1 (I:Υ X ϩ J H s)(ϻ:B6 H a):
  s.Q_ (.Z a) "dict"/\(∀b,ϫ.Z a=.Z b->∃ob,s.P.ϛ b=O ob/\ob.ï=none)/\(a==Ŋ)=false:=by
 rcases ϻ with⟨Ϝ,e⟩|⟨Ϝ,e⟩
 ·obtain⟨_,hd,d,_,dd⟩:=n5 I.a9 e;refine⟨dd.Ÿ,λb q=>?_,hd⟩;cases q;obtain⟨ob,_,_,g,ah,_⟩:=dd;exact⟨ob,g,ah.2.1⟩
 ·obtain⟨_,hd,F,_,dd⟩:=pD I.a9 e;refine⟨dd.Ÿ,λb q=>?_,hd⟩;cases q;obtain⟨ob,_,_,g,ah,_⟩:=dd;exact⟨ob,g,ah.2.1⟩
section
variable {X:Cx}{pins:List (Addr×Obj)}{J:St}{H:ag}{s:Shared}{a:Addr}{y d:V}{u r:Value}{o:Option V}{A:Around}{E:wvP}
theorem QO (bK:Ϲ.õ+1<ä)(I:Υ X ϩ J H s)(Ϻ:eK H a y o)(bu:ţ y u)(h:∀eS s',Υ X ϩ J H s'->ţ (o.œ .br) eS->Q eS s'):
  ϙ (ώ X.ϔ X.w) Ϲ (WP (.ο "dict.get") [.Z a,u]) Q ϵ s:=by
 rcases Ϻ with⟨Ϝ,k,e,fJ,l⟩|⟨Ϝ,k,b,e,fJ,eb,l⟩
 ·subst fJ;obtain⟨z,hd,d,xz,dd⟩:=n5 I.a9 e;refine aik ϟ.ϴ.G_ dd.Ÿ ϟ.ϴ.ahq (ϟ.ϴ.ak7 _ _) (meets_dict_get (e0 X.ϔ X.w) a (n4 bu) hd) ⟨_,dd.mapOf,h _ _ (I.bn _) ?_⟩;rw[l];exact(xz.val k).œ rfl
 ·subst fJ;cases (show u=ϫ.Z b from bu);obtain⟨z,hd,F,xz,dd⟩:=pD I.a9 e;refine aik ϟ.ϴ.G_ dd.Ÿ ϟ.ϴ.ahq (ϟ.ϴ.ak7 _ _) (meetsH_dict_get (TW (e0 X.ϔ X.w)) a b hd) ⟨ÿ bK,k,F,pC I.a9 eb,dd,h _ _ (I.bn _) ?_⟩;rw[l];exact(xz.val k).œ rfl
theorem QP (bK:Ϲ.õ+1<ä)(I:Υ X ϩ J H s)(Ϻ:eK H a y o)(bu:ţ y u)(iy:ţ ϻ r)(h:∀eS s',Υ X ϩ J H s'->ţ (o.œ ϻ) eS->Q eS s'):
  ϙ (ώ X.ϔ X.w) Ϲ (WP (.ο "dict.get") [.Z a,u,r]) Q ϵ s:=by
 rcases Ϻ with⟨Ϝ,k,e,fJ,l⟩|⟨Ϝ,k,b,e,fJ,eb,l⟩
 ·subst fJ;obtain⟨z,hd,d,xz,dd⟩:=n5 I.a9 e;refine aik ϟ.ϴ.G_ dd.Ÿ ϟ.ϴ.ahq (ϟ.ϴ.ak8 _ _ _) (meets_dict_get_default (e0 X.ϔ X.w) a (n4 bu) hd r) ⟨_,dd.mapOf,h _ _ (I.bn _) ?_⟩;rw[l];exact(xz.val k).œ iy
 ·subst fJ;cases (show u=ϫ.Z b from bu);obtain⟨z,hd,F,xz,dd⟩:=pD I.a9 e;refine aik ϟ.ϴ.G_ dd.Ÿ ϟ.ϴ.ahq (ϟ.ϴ.ak8 _ _ _) (meetsH_dict_get_default (TW (e0 X.ϔ X.w)) a b hd r) ⟨ÿ bK,k,F,pC I.a9 eb,dd,h _ _ (I.bn _) ?_⟩;rw[l];exact(xz.val k).œ iy
end
def zlc (eD ty:TE):TE:=λJ H Q=>eD J H λx H1=>∃a,x=.Z a/\B6 H1 a/\ty J H1 λy aC=>∃o,eK aC a y o/\Q (o.œ .br) aC
def B7 (eD ty y3:TE):TE:=λJ H Q=>eD J H λx H1=>∃a,x=.Z a/\B6 H1 a/\ty J H1 λy aC=>y3 J aC λz bw=>∃o,eK bw a y o/\Q (o.œ z) bw
section
variable {X:Cx}{o e f:Expr}{apos d7:Pos}{eD ty y3:TE}
theorem G2 (bK:X.Ϲ.õ+1<ä)(av:PE X o eD)(he:PE X e ty)(m:pE X o "get" Re e d7):PE X (.č (.ŝ o "get" Re) [e] [] d7) (zlc eD ty):=by
 intro ϩ s J H Q I h;refine akk m.ϊ m.qZ m.cr ϟ.ϴ.ak9 ϟ.ϴ.G_ ϟ.ϴ.amn (bA (av ϩ s J H _ I h) λu s1 gy=>?_);refine L2.IS λUq uq=>?_;obtain⟨x,H1,aK,bc,a,ex,ϻ,a3⟩:=gy;refine uq ?_;clear uq Uq;subst ex;obtain rfl:u=ϫ.Z a:=bc;obtain⟨t1,fT,_⟩:=G1 aK ϻ;refine⟨t1,fT,?_⟩;rw[m.trees];refine ê.tz rfl (ê.AT (ê.Ì (bA (he ϩ s1 J H1 _ aK a3) λh7 s2 ⟨y,aC,bt,bu,dT,Ϻ,b9⟩=>ê.PP ?_)));exact QO bK bt Ϻ bu λeS s3 dc ji=>⟨_,aC,dc,ji,b9⟩
theorem QQ (bK:X.Ϲ.õ+1<ä)(av:PE X o eD)(he:PE X e ty)(hf:PE X f y3)(m:M2 X o "get" Re e f d7):PE X (.č (.ŝ o "get" Re) [e,f] [] d7) (B7 eD ty y3):=by
 intro ϩ s J H Q I h;refine akk m.ϊ m.qZ m.cr ϟ.ϴ.ak9 ϟ.ϴ.G_ ϟ.ϴ.amn (bA (av ϩ s J H _ I h) λu s1 gy=>?_);refine L2.IS λUq uq=>?_;obtain⟨x,H1,aK,bc,a,ex,ϻ,a3⟩:=gy;refine uq ?_;clear uq Uq;subst ex;obtain rfl:u=ϫ.Z a:=bc;obtain⟨t1,fT,_⟩:=G1 aK ϻ;refine⟨t1,fT,?_⟩;rw[m.trees];refine ê.tz rfl (ê.AT (ê.Ì (bA (he ϩ s1 J H1 _ aK a3) λh7 s2 ⟨y,aC,bt,bu,b9⟩=>
  ê.Ì (bA (hf ϩ s2 J aC _ bt b9) λafR s3 ⟨z,bw,dc,By,dT,Ϻ,eV⟩=>ê.PP ?_))))
 exact QP bK dc Ϻ bu By λeS s4 hl ji=>⟨_,bw,hl,ji,eV⟩
end
section
variable {X:Cx}{pins:List (Addr×Obj)}{J:St}{H:ag}{s:Shared}{a:Addr}{kvs:List (Key×V)}{A:Around}{E:wvP}
end
section
variable {X:Cx}{pins:List (Addr×Obj)}{J:St}{H:ag}{s:Shared}{a:Addr}{y:V}{u:Value}{A:Around}{E:wvP}
end
section
variable {X:Cx}
end
section
variable {bE:Type}[DecidableEq bE]
theorem QR {Ϝ:Y (bE×V)}{k:bE}(h:aW Ϝ k=none):¬k∈Ϝ.ϒ (·.1):=by
 intro m;obtain⟨p,ay,e⟩:=Ζ.mp m;have q:(Ϝ.J_ λbS=>decide (bS.1=k))=true:=ú.ļ ⟨p,ay,ι e⟩
 rw[pB,h]at q;exact bJ q (by simp)
theorem sz {Ϝ:Y (bE×V)}{k:bE}(h:aW Ϝ k=O v):k∈Ϝ.ϒ (·.1):=by
 have q:(Ϝ.J_ λbS=>decide (bS.1=k))=true:=by
  rw[pB,h];all_goals rfl
 obtain⟨p,ay,e⟩:=ú.mp q;exact Ζ.ļ ⟨p,ay,ð e⟩
theorem B8:∀{l:Y bE}{k:bE},l.Α->¬k∈l->(l++[k]).Α
 | [],k,_,_=>by simp
 | a::r,k,h,aq=>by
  obtain⟨g,ah⟩:=ŉ.mp h;show(a::(r++[k])).Α
  refine ŉ.ļ ⟨λm=>?_,B8 ah λm=>aq (ς.ļ (Or.Œ m))⟩;rcases κ.mp m with q|q
  ·exact g q
  ·exact aq (ς.ļ (Or.ε (ϖ.mp q).symm))
theorem QS {Ϝ:Y (bE×V)}{k:bE}(v:V)(aF:(Ϝ.ϒ (·.1)).Α)(h:aW Ϝ k=none):((ß Ϝ k v).ϒ (·.1)).Α:=by
 rw[BZ v h,Ε];exact B8 aF (QR h)
end
def gO (X:Cx)(Ϟ:IK)(cl:Y (ϕ×Ϩ))(ϰ:Y ϕ)(Ϸ:Ϩ)(ex:Y Ϩ)(cf:ϐ)(dy:ag):Cx where
 ϔ:=X.ϔ
 w:=X.w
 K:=X.K
 mg:=X.mg
 ϊ:=X.ϊ
 Ϲ:=X.Ϲ
 ϰ:=ϰ
 cf:=cf
 dy:=dy
 ό:=aiO Ϟ cl Ϸ X.ό
 Ϗ:=X.ą
 ą:=X.ą
 ex:=ex
 fn:=λ_=>false
 R_:=X.R_
 ez:=X.ez
 c0:=λ_ _=>Ō
theorem B9 (c:OV X):OV (gO X Ϟ cl ϰ Ϸ ex cf dy):=c
structure fz (X:Cx)(Ϟ:IK)(tn cn:Y ϕ)(dQ:Y B):Prop where
 î:Ϟ.î=.ā
 q0:∀y∈Ϟ.Λ,y.2≠.φ
 Λ:∀y∈Ϟ.Λ,y.2=.local->Ϟ.Λ.Ϣ y.1=O .local
 uB:∀y∈Ϟ.Λ,y.2=.Ź->X.ό.ŀ y.1=O .φ\/X.ό.ŀ y.1=O .Ź
 Ź:∀y∈cn,Ϟ.Λ.Ϣ y=O .Ź
 ē:dQ.ϒ (λj=>X.ϰ[j]?)=cn.ϒ O
theorem fz.of {gA:IK}{tn cn:Y ϕ}{dQ:Y B}(av:X.ό.Ϟ=gA)(î:Ϟ.î=.ā)(q0:∀y∈Ϟ.Λ,y.2≠.φ)(Λ:∀y∈Ϟ.Λ,y.2=.local->Ϟ.Λ.Ϣ y.1=O .local)(uB:∀y∈Ϟ.Λ,y.2=.Ź->gA.Λ.Ϣ y.1=O .φ\/gA.Λ.Ϣ y.1=O .Ź)(Ź:∀y∈cn,Ϟ.Λ.Ϣ y=O .Ź)(ē:dQ.ϒ (λj=>X.ϰ[j]?)=cn.ϒ O):fz X Ϟ tn cn dQ:=
 ⟨î,q0,Λ,λy aU hf=>by show X.ό.Ϟ.Λ.Ϣ y.1=_\/X.ό.Ϟ.Λ.Ϣ y.1=_;rw[av];exact uB y aU hf,Ź,ē⟩
def nh (J:St)(dQ:Y B):St:=dQ.ϒ λj=>(J[j]?).œ none
theorem Ca (ό:OF):∀(Λ:Y (ϕ×Ű))(cs:Y (ϕ×Ϩ)),(∀x∈Λ,x.2=.Ź->∃c,ό.Ý.Ϣ x.1=O c)->(∀y c,cs.Ϣ y=O c->ό.Ý.Ϣ y=O c)->
  ∃cl:Y (ϕ×Ϩ),(forIn Λ cs λ(x:ϕ×Ű)(r:Y (ϕ×Ϩ))=>(if (x.2==Ű.Ź)=true then do let a <- cellOf ό x.1;Ă (adc.anC ((x.1,a)::r)) else Ă (adc.anC r):Sem (adc (Y (ϕ×Ϩ)))))=Ă cl/\
   (∀y c,cl.Ϣ y=O c->ό.Ý.Ϣ y=O c)/\(∀x∈Λ,x.2=.Ź->∃c,cl.Ϣ x.1=O c)/\∀y c,cs.Ϣ y=O c->∃aX,cl.Ϣ y=O aX
 | [],cs,_,ah=>⟨cs,by simp,ah,λx h=>bJ h (by simp),λy c h=>⟨c,h⟩⟩
 | (n,k)::r,cs,g,ah=>by
  by_cases aq:(k==Ű.Ź)=true
  ·obtain⟨c,ak⟩:=g (n,k) ľ (by simpa using aq);have kJ:∀y ϻ,((n,c)::cs).Ϣ y=O ϻ->ό.Ý.Ϣ y=O ϻ:=λy ϻ h=>by
    rw[ġ]at h;split at h
    ·rename_i e;have bq:y=n:=by simpa using e
     cases h;rwa[bq]
    ·exact ah y ϻ h
   obtain⟨cl,e,p1,dp,fU⟩:=Ca ό r ((n,c)::cs) (λx ai=>g x (Η _ ai)) kJ;refine⟨cl,?_,p1,λx ai hf=>?_,λy ϻ h=>?_⟩
   ·rw[ajI];simp only[aq,NE,cellOf,ak,pure_bind];exact e
   ·rcases ς.mp ai with au|au
    ·subst au;exact fU n c (by rw[ġ];simp)
    ·exact dp x au hf
   ·by_cases aU:(y==n)=true
    ·exact fU y c (by rw[ġ,aU])
    ·exact fU y ϻ (by rw[ġ];simp only[Cl]at aU;rwa[aU])
  ·obtain⟨cl,e,p1,dp,fU⟩:=Ca ό r cs (λx ai=>g x (Η _ ai)) ah;refine⟨cl,?_,p1,λx ai hf=>?_,fU⟩
   ·rw[ajI];simp only[aq,Ü,pure_bind,Ď];exact e
   ·rcases ς.mp ai with au|au
    ·subst au;exact bJ (by simpa using hf) aq
    ·exact dp x au hf
theorem G3 (h:∀x∈Ϟ.Λ,x.2=.Ź->∃c,ό.Ý.Ϣ x.1=O c):
  ∃cl:Y (ϕ×Ϩ),aig Ϟ ό=Ă cl/\(∀y c,cl.Ϣ y=O c->ό.Ý.Ϣ y=O c)/\∀x∈Ϟ.Λ,x.2=.Ź->∃c,cl.Ϣ x.1=O c:=by
 obtain⟨cl,e,p1,dp,_⟩:=Ca ό Ϟ.Λ [] h (λy c h=>by simp at h);refine⟨cl,?_,p1,dp⟩;unfold aig;simp only[bind_pure];first
  | exact e
  | (rw[<- e];rfl)
  | (rw[<- e];congr 1;funext x r;obtain⟨n,k⟩:=x;by_cases aq:(k==Ű.Ź)=true<;>simp[aq])
theorem G4 {ό:OF}:∀{Λ:Y (ϕ×Ű)}{x:ϕ},Λ.Ϣ x=O .Ź->
  (Λ.ϒ λ(n,k)=>if (k==Ű.Ź&&ό.Ϟ.î==.ā&&ό.ŀ n==O .φ) then(n,Ű.φ) else(n,k)).Ϣ x=O .φ\/
  (Λ.ϒ λ(n,k)=>if (k==Ű.Ź&&ό.Ϟ.î==.ā&&ό.ŀ n==O .φ) then(n,Ű.φ) else(n,k)).Ϣ x=O .Ź
 | [],_,h=>by simp at h
 | (n,k)::r,x,h=>by
  have bB:=@G4 ό r x
  show Y.Ϣ x ((if (k==Ű.Ź&&ό.Ϟ.î==.ā&&ό.ŀ n==O .φ)=true then(n,Ű.φ) else(n,k))::_)=_\/Y.Ϣ x ((if (k==Ű.Ź&&ό.Ϟ.î==.ā&&ό.ŀ n==O .φ)=true then(n,Ű.φ) else(n,k))::_)=_
  cases ai:x==n with
  | true=>
   simp only[ġ,ai]at h;cases h;by_cases ak:(Ű.Ź==Ű.Ź&&ό.Ϟ.î==.ā&&ό.ŀ n==O .φ)=true
   ·rw[aS ak];simp[ġ,ai]
   ·rw[aD ak];simp[ġ,ai]
  | false=>
   simp only[ġ,ai]at h;by_cases ak:(k==Ű.Ź&&ό.Ϟ.î==.ā&&ό.ŀ n==O .φ)=true
   ·rw[aS ak];simp only[ġ,ai];exact bB h
   ·rw[aD ak];simp only[ġ,ai];exact bB h
theorem G5 {ό:OF}:∀{Λ:Y (ϕ×Ű)}{x:ϕ},(∀y∈Λ,y.2≠.φ)->
  ((Λ.ϒ λ(n,k)=>if (k==Ű.Ź&&ό.Ϟ.î==.ā&&ό.ŀ n==O .φ) then(n,Ű.φ) else(n,k)).Ϣ x=O .φ\/
  (Λ.ϒ λ(n,k)=>if (k==Ű.Ź&&ό.Ϟ.î==.ā&&ό.ŀ n==O .φ) then(n,Ű.φ) else(n,k)).Ϣ x=O .Ź)->Λ.Ϣ x=O .Ź
 | [],_,_,h=>by simp at h
 | (n,k)::r,x,aF,h=>by
  have bB:=@G5 ό r x (λy aU=>aF y (Η _ aU))
  have h:Y.Ϣ x ((if (k==Ű.Ź&&ό.Ϟ.î==.ā&&ό.ŀ n==O .φ)=true then(n,Ű.φ) else(n,k))::_)=_\/Y.Ϣ x ((if (k==Ű.Ź&&ό.Ϟ.î==.ā&&ό.ŀ n==O .φ)=true then(n,Ű.φ) else(n,k))::_)=_:=h
  cases ai:x==n with
  | true=>
   simp only[ġ,ai];by_cases ak:(k==Ű.Ź&&ό.Ϟ.î==.ā&&ό.ŀ n==O .φ)=true
   ·have:(k==Ű.Ź)=true:=by
     simp only[Ŵ]at ak;exact ak.1.1
    have:k=.Ź:=by simpa using ν
    rw[ν]
   ·rw[aD ak]at h;simp only[ġ,ai]at h;rcases h with h|h
    ·exact bJ (ϣ.O.W1 h) (aF (n,k) ľ)
    ·rw[ϣ.O.W1 h]
  | false=>
   simp only[ġ,ai];by_cases ak:(k==Ű.Ź&&ό.Ϟ.î==.ā&&ό.ŀ n==O .φ)=true
   ·rw[aS ak]at h;simp only[ġ,ai]at h;exact bB h
   ·rw[aD ak]at h;simp only[ġ,ai]at h;exact bB h
section
variable {X:Cx}{scope:Scope}{tn cn:List Str}{dQ:List Nat}{pins:List (Addr×Obj)}{J:St}{H:ag}{s:Shared}{cH:List Addr}{cl:List (Str×Addr)}{ob:Obj}
theorem QT (S:fz X Ϟ tn cn dQ)(I:Υ X ϩ J H s)(gc:∀y c,cl.Ϣ y=O c->X.ό.Ý.Ϣ y=O c)(jV:∀x∈Ϟ.Λ,x.2=.Ź->∃c,cl.Ϣ x.1=O c)(hf:∀b∈cH,jO X ϩ H b)(kK:∀b∈cH,b<s.P.Ϡ.Ϥ)(ϰ:Y ϕ):
  (gO X Ϟ cl ϰ (s.P.Ũ ob).Ϡ.Ϥ (s.P.Ϡ.Ϥ::cH) { s with P:=s.P.Ũ ob } H).Ok:=by
 have kL:(s.P.Ũ ob).Ϡ.Ϥ=s.P.Ϡ.Ϥ+1:=by rw[act]
 refine⟨I.ok.Om,S.î,I.ok.OG,I.ok.blt,B.ϑ _,λx y c g ah=>I.ok.W1 x y c (gc x c g) (gc y c ah),λx ai=>?_,λx c h=>bJ h (by simp[gO]),I.ok.hd,I.ok.ç,.ε rfl,λb af=>?_,
  λb o e=>⟨ϥ _ (I.bs b o e).1,(I.bs b o e).2⟩,?_,λb o e af=>?_,λb af z=>?_,?_,I.yv⟩
 ·exact jV (x,.Ź) (ϟ.Ĝ (G5 S.q0 ai)) rfl
 ·rcases ς.mp (show b∈s.P.Ϡ.Ϥ::cH from af) with e|af
  ·subst e;refine⟨λz=>?_,λx c e z=>?_⟩
   ·have gT:s.P.Ϡ.Ϥ=(s.P.Ũ ob).Ϡ.Ϥ:=z
    omega
   ·obtain⟨v,q⟩:=I.φ x c (gc x c e);exact bJ q.lt (by rw[z];exact B.ť _)
  ·refine⟨λz=>?_,λx c e=>(hf b af).2.2.2.2.1 x c (gc x c e)⟩;have gT:b=(s.P.Ũ ob).Ϡ.Ϥ:=z
   have g:=kK b af
   rw[gT,kL]at g;exact B.ť _ (B.aju g)
 ·show X.ϊ.Ϡ.Ϥ<=(s.P.Ũ ob).Ϡ.Ϥ
  have g:=I.ok.ky
  have ah:=I.fP
  omega
 ·rcases ς.mp (show b∈s.P.Ϡ.Ϥ::cH from af) with au|af
  ·subst au;exact bJ (τ (I.bf _ o e)) (B.ť _)
  ·rcases (hf b af).2.2.2.1 with z|z
   ·exact I.ok.qC b o e z
   ·have g:=I.ok.ky
    have ah:=τ e
    exact B.ť _ (Δ ah (B.Ķ g z))
 ·have gT:=I.qE b z
  rcases ς.mp (show b∈s.P.Ϡ.Ϥ::cH from af) with au|af
  ·subst au;rcases ς.mp gT with cQ|cQ
   ·exact bJ I.lt (by rw[<- cQ];exact B.ť _)
   ·exact I.yu (B.ϑ _) cQ
  ·rcases ς.mp gT with cQ|cQ
   ·exact(hf b af).2.1 cQ
   ·exact(hf b af).2.2.1 cQ
 ·exact I.ą.aj6 λb o e _=>⟨o,ϥ _ e,rfl⟩
theorem QU (S:fz X Ϟ tn cn dQ)(I:Υ X ϩ J H s)(gc:∀y c,cl.Ϣ y=O c->X.ό.Ý.Ϣ y=O c)(jV:∀x∈Ϟ.Λ,x.2=.Ź->∃c,cl.Ϣ x.1=O c)(hf:∀b∈cH,jO X ϩ H b)(kK:∀b∈cH,b<s.P.Ϡ.Ϥ)(sA:∀v,ob.Φ≠.φ v)(kM:ob.isFreed=false){g:Θ}{m0:ϕ->ϣ ϫ}(aF:g.Ns (s.P.Ũ ob).Ϡ.Ϥ m0)(aq:∀b o,(s.P.Ũ ob).ϛ b=O o->g.ϛ b=O o):
  Υ (gO X Ϟ cl (tn++cn) (s.P.Ũ ob).Ϡ.Ϥ (s.P.Ϡ.Ϥ::cH) { s with P:=s.P.Ũ ob } H) (X.ez++ϩ++[(s.P.Ϡ.Ϥ,ob)]) (ac_ tn.N none++nh J dQ) H { s with P:=g,Χ:=tk }:=by
 have kL:(s.P.Ũ ob).Ϡ.Ϥ=s.P.Ϡ.Ϥ+1:=by rw[act]
 have dR:∀b o,s.P.ϛ b=O o->g.ϛ b=O o:=λb o e=>aq b o (ϥ _ e)
 have SB:dQ.N=cn.N:=by have:=ż N S.ē;simpa using ν
 refine⟨QT S I gc jV hf kK _,rfl,I.Rs,f5.XL aq,⟨m0,aF,λi x v au az bY=>?_⟩,λx c e=>?_,I.a9.Ĳ (by rw[kL];exact am5 _),λx c e=>I.iw x c (gc x c e),λp ay=>?_,I.a9.XL dR,?_⟩
 ·have au:(tn++cn)[i]?=O x:=au
  by_cases aA:i<tn.N
  ·rw[Ŭ (by simpa using aA),Y.ajL,aS aA]at az;cases az
  ·have pF:tn.N<=i:=B.ani aA
   rw[Ő (by simpa using pF),Y.akF]at az;rw[Ő pF]at au;have ai:x∈cn:=ύ au
   have pG:(dQ.ϒ λj=>X.ϰ[j]?)[i-tn.N]?=(cn.ϒ O)[i-tn.N]?:=by rw[S.ē]
   rw[Ϙ,Ϙ,au]at pG;unfold nh at az;rw[Ϙ]at az;cases bg:dQ[i-tn.N]? with
   | none=>rw[bg]at az;cases az
   | O j=>
    rw[bg]at pG az;have cA:X.ϰ[j]?=O x:=ϣ.O.W1 pG
    have az:(J[j]?).œ none=O v:=ϣ.O.W1 az
    have QV:J[j]?=O (O v):=by
     cases q:J[j]? with
     | none=>rw[q]at az;cases az
     | O y=>rw[q]at az;rw[<- az];rfl
    have G6:=S.uB (x,.Ź) (ϟ.Ĝ (S.Ź x ai)) rfl
    obtain⟨m,_,aw⟩:=I.Bi;obtain⟨u,r,l⟩:=aw j x v cA QV (by rcases G6 with z|z;exact .Œ (.ε z);exact .Œ (.Œ z));refine⟨u,r,?_⟩;rcases l with⟨k,_⟩|⟨k,c,e,z⟩
    ·rcases G6 with z|z
     ·rw[show X.ό.ŀ x=_ from k]at z;cases z
     ·rw[show X.ό.ŀ x=_ from k]at z;cases z
    ·obtain⟨aX,gN⟩:=jV (x,.Ź) (ϟ.Ĝ (S.Ź x ai)) rfl;have bq:=gc x aX gN
     rw[e]at bq;cases bq;obtain⟨dI,av,hd⟩:=z;exact .Œ ⟨G4 (S.Ź x ai),c,gN,dI,dR c dI av,hd⟩
 ·obtain⟨v,dI,av,hd⟩:=I.φ x c (gc x c e);exact⟨v,dI,dR c dI av,hd⟩
 ·have ay:p∈X.ez++ϩ++[(s.P.Ϡ.Ϥ,ob)]:=(κ.mp ay).Ę (λz=>ŭ _ (ŭ _ z)) id
  rcases κ.mp ay with ay|ay
  ·obtain⟨e,n,ne,cB,ϻ⟩:=I.ON p ay;refine⟨dR _ _ e,n,λz=>?_,λz=>?_,ϻ⟩
   ·have gT:p.1=(s.P.Ũ ob).Ϡ.Ϥ:=z
    have g:=τ e
    rw[gT,kL]at g;exact B.ť _ (B.aju g)
   ·rcases ς.mp (I.qE p.1 z) with cQ|cQ
    ·exact ne cQ
    ·exact cB cQ
  ·have e:p=(s.P.Ϡ.Ϥ,ob):=by simpa using ay
   subst e;refine⟨aq _ _ (σ _ kM),I.a9.Ĳ (B.ϑ _),λz=>?_,λz=>?_,sA⟩
   ·have gT:s.P.Ϡ.Ϥ=(s.P.Ũ ob).Ϡ.Ϥ:=z
    omega
   ·rcases ς.mp (I.qE s.P.Ϡ.Ϥ z) with cQ|cQ
    ·exact bJ I.lt (by rw[<- cQ];exact B.ť _)
    ·exact I.yu (B.ϑ _) cQ
 ·show(ac_ tn.N none++nh J dQ).N=(tn++cn).N
  unfold nh;simp[SB]
theorem QW {uC:St}{s3:ϐ}{aL:Y ϫ}(I:Υ X ϩ J H s)(hf:∀b∈cH,jO X ϩ H b)(kK:∀b∈cH,b<s.P.Ϡ.Ϥ)(kL:s.P.Ϡ.Ϥ<Ϸ)(sC:∀b o,s.P.ϛ b=O o->s3.P.ϛ b=O o)(pH:s3.os=s.os)(eU:Υ (gO X Ϟ cl ϰ Ϸ (s.P.Ϡ.Ϥ::cH) s3 H) (X.ez++ϩ++[(s.P.Ϡ.Ϥ,{ Ŝ:=.χ "list",Φ:=.XV aL.ϗ n })]) uC U s')(ck:ś ys aL)(hz:ys.N<=ϓ):
  Υ X ϩ J (ſ U s.P.Ϡ.Ϥ (.Ť ys)) s'/\U s.P.Ϡ.Ϥ=none/\jO X ϩ (ſ U s.P.Ϡ.Ϥ (.Ť ys)) Ϸ/\∃m,s'.P.Ns Ϸ m:=by
 have lG:=eU.ON (s.P.Ϡ.Ϥ,{ Ŝ:=.χ "list",Φ:=.XV aL.ϗ n }) (by show _∈X.ez++(X.ez++ϩ++[_]);simp)
 have eP:U s.P.Ϡ.Ϥ=none:=lG.2.1
 have ϊ:f5 (eu X.ą) (s.P.Ϡ.Ϥ::cH) H U s3.P s'.P:=eU.ϊ
 have OZ:∀b o,s.P.ϛ b=O o->b≠s.P.Ϡ.Ϥ:=λb o e=>Ι (τ e)
 have y4:∀b o,s.P.ϛ b=O o->b ∉ cH->b ∉ s.P.Ϡ.Ϥ::cH:=λb o e h z=>by
  rcases ς.mp z with z|z
  ·exact OZ b o e z
  ·exact h z
 have Cb:∀b u,H b=O u->b≠s.P.Ϡ.Ϥ:=λb u e=>Ι (I.a9.lt e)
 refine⟨I.FY (ch:=cH) (eU.os.Ϛ pH) ⟨λb o e n af ai=>ϊ.ĭ b o (sC b o e) n af (y4 b o e ai),λb o e n af ai=>ϊ.If b o (sC b o e) n af (y4 b o e ai),λb o e n ai=>?_,λb o e ai=>ϊ.ĩ b o (sC b o e) (y4 b o e ai),
  λb F e=>?_,λb o u e=>?_,λb ps e=>?_⟩ (λa o e=>?_) eU.Rs λb af=>?_,eP,I.mb (B.aiM kL) ?_,?_⟩
 ·rw[aE (OZ b o e)];exact ϊ.Ź b o (sC b o e) n (y4 b o e ai)
 ·rw[aE (Cb b _ e)];exact ϊ.dh b F e
 ·rw[aE (Cb b _ e)];exact ϊ.gG b o u e
 ·rw[aE (Cb b _ e)];exact ϊ.iv b ps e
 ·by_cases aN:a=s.P.Ϡ.Ϥ
  ·subst aN;rw[aQ]at e;cases e;exact⟨hz,aL,n,ck,lG.1⟩
  ·rw[aE aN]at e;exact(eU.a9 a o e).gS (λ_ _ _ q=>q) (λc q=>by rwa[aE (cF q eP)]) λc F q=>by rwa[aE (cF q eP)]
 ·have q:=hf b af
  exact⟨q.2.2.2.1,q.2.1,q.2.2.2.2.1,q.2.2.2.2.2⟩
 ·rw[aE (À kL)];exact eU.Ź
 ·obtain⟨m,aF,_⟩:=eU.Bi;exact⟨m,aF⟩
end
def uD (X:Cx)(ifs:Y Ġ)(t:TT):Prop:=
 ∀(ϩ:Y (Ϩ×ğ))(s:ϐ)(J:St)(H:ag)(Q:δ->ag->Prop),Υ X ϩ J H s->t J H Q->
  ϙ (ώ X.ϔ X.w) X.Ϲ (forIn ifs true λc r=>if r=true then do let ok <- alB c X.ό (ŗ c X.ό);Ă (adc.anC ok) else Ă (adc.anC r)) (yy X ϩ J Q) X.c0 s
def Cc:TT:=λ_ H Q=>Q true H
theorem kN:uD X [] Cc:=λ_ _ _ H _ I h=>wpAny_tests_nil ⟨H,I,h⟩
theorem n7 {c:Ġ}{t:TT}(h:iT X c t):uD X [c] t:=λϩ s J H Q I hw=>wpAny_tests_one (h ϩ s J H Q I hw)
theorem QX {elt aks:Ġ}{it wv:ϫ}(I:B->ϐ->Prop)(O1:∀n s,I n s->ϙ (ώ ϔ w) Ϲ (Ħ it) (λr eg=>match r with
   | none=>R (.ok .next) eg
   | O v=>ϙ (ώ ϔ w) Ϲ (Go aks it v) (λ_ G7=>ϙ (ώ ϔ w) Ϲ (I3 aks ό v) (λ_ iV=>
     ϙ (ώ ϔ w) Ϲ (forIn ifs true λc r=>if r=true then do let ok <- alB c ό (ŗ c ό);Ă (adc.anC ok) else Ă (adc.anC r)) (λok jN=>
      if ok=true then ϙ (ώ ϔ w) Ϲ (ŗ elt ό) (λx pI=>
       ϙ (ώ ϔ w) Ϲ (WP (.ο "list.append") [wv,x]) (λ_ G8=>∃m,m<n/\I m G8) (λ_ _=>Ō) pI) (λ_ _=>Ō) jN
      else ∃m,m<n/\I m jN) (λ_ _=>Ō) iV) (λ_ _=>Ō) G7) (λ_ _=>Ō) eg) (λ_ _=>Ō) s)(n:B)(h:I n s):
  Ø (ώ ϔ w) Ϲ (.compLoop (.HD elt [⟨aks,Ow,ifs,0⟩] Ϟ ŷ) 0 it wv ό) R s:=by
 refine codeAny_loop rfl I (λn s pJ=>?_) n h;show ϙ _ Ϲ ((compTurn (.HD elt [⟨aks,Ow,ifs,0⟩] Ϟ ŷ) 0 it wv ό).onRaise (λx=>do ahZ x ό;theTreesLotGoes x)) _ _ s
 refine wpAny_noted ?_;rw[compTurn_list];refine ax (Æ (ax (ů (O1 n s pJ) (λr eg gp=>?_) λ_ _ h'=>h'.Ę)));cases r with
 | none=>exact bp gp
 | O v=>
  refine ax (ů gp (λ_ G7 QY=>?_) λ_ _ h'=>h'.Ę);refine ax (ů QY (λ_ iV qz=>ax (ů qz (λok jN sx=>?_) λ_ _ h'=>h'.Ę)) λ_ _ h'=>h'.Ę);cases ok with
  | false=>exact bp ⟨rfl,sx⟩
  | true=>
   exact ax (ax (ů sx (λx pI QZ=>ax (ů QZ (λ_ G8 Q0=>bp (bp ⟨rfl,Q0⟩)) λ_ _ h'=>h'.Ę)) λ_ _ h'=>h'.Ę))
def mr (cD:g7)(Ϻ:fq)(tt:TT)(bT:TE)(uC:St)(W:B->B->Y V->ag->Prop)(ϴ:Y V->ag->Prop):Prop:=
 ∀i m ys H,W i m ys H->(cD.stop i H/\ys.N<=ϓ/\ϴ ys H)\/(cD.go i H/\∃ϰ:Y V->ag->Prop,(∀i0 U,ϰ i0 U->∃ba,ba<m/\W (i+1) ba i0 U)/\
  ∀x U,cD.fR i H x U->Ϻ x uC U λdm aC=>(dm.N=uC.N/\∀(j:B)(v:V),uC[j]?=O (O v)->dm[j]?=O (O v))/\
   tt dm aC λb bw=>if b=true then bT dm bw λy cK=>ys.N<=ϓ/\ϰ (ys++[y]) cK else ϰ ys bw)
section
variable {X:Cx}{scope:Scope}{tn cn:List Str}{dQ:List Nat}
theorem G9 {elt:Ġ}{Ϻ:fq}{q1:B->Θ->Prop}{W:B->B->Y V->ag->Prop}{m0:B}{RR:ϫ->Ϩ->anZ->ϐ->Prop}(S:fz X Ϟ tn cn dQ)(ak:OV X)(gc:∀y c,cl.Ϣ y=O c->X.ό.Ý.Ϣ y=O c)(jV:∀x∈Ϟ.Λ,x.2=.Ź->∃c,cl.Ϣ x.1=O c)(bF:∀Ϸ ex cf dy,PG (gO X Ϟ cl (tn++cn) Ϸ ex cf dy) c5 Ϻ)(bk:∀Ϸ ex cf dy,uD (gO X Ϟ cl (tn++cn) Ϸ ex cf dy) ifs tt)(he:∀Ϸ ex cf dy,PE (gO X Ϟ cl (tn++cn) Ϸ ex cf dy) elt bT)(I:Υ X ϩ J H s)(T:Bm X.ϔ X.w X.K c5 cD cH it q1)(E:q1 0 s.P)(hf:∀b∈cH,jO X ϩ H b)(Cd:mr cD Ϻ tt bT (ac_ tn.N none++nh J dQ) W ϴ)(d0:W 0 m0 [] H)(Q1:∀϶ Ϸ s' U ys m,U ϶=none->ϴ ys U->Υ X ϩ J (ſ U ϶ (.Ť ys)) s'->jO X ϩ (ſ U ϶ (.Ť ys)) Ϸ->s'.P.Ns Ϸ m->RR (.Z ϶) Ϸ (.ok .next) s'):
  ϙ (ώ X.ϔ X.w) X.Ϲ (newList []) (λwv jN=>ϙ (ώ X.ϔ X.w) X.Ϲ (newFunctionEnv Ϟ X.ό.globals cl [] X.ό.Ρ none .none (O X.ό)) (λHa pI=>
   Ø (ώ X.ϔ X.w) X.Ϲ (.compStart (.HD elt [⟨c5,Ow,ifs,0⟩] Ϟ ŷ) 0 (.Z it) wv { Ha with Ϟ:=relabel Ϟ X.ό }) (RR wv Ha.í) pI) ϵ jN) ϵ s:=by
 have kK:∀b∈cH,b<s.P.Ϡ.Ϥ:=λb af=>let⟨o,e,_⟩:=T.Oy 0 s.P E b af;τ e
 refine Š (ai7 S.q0 (by intro y aU;simp at aU) (λgp Hb Hc=>?_) S.î);dsimp only at Hb Hc ⊢
 have aq:∀b o,(s.P.Ũ { Ŝ:=.χ "list",ï:=none,Φ:=.XV ([]:Y ϫ).ϗ }).ϛ b=O o->gp.ϛ b=O o:=λb o e=>
  Hc.Β b o (Ι (τ e)) (ϥ _ e)
 have aK:=QU (tk:=s.Χ+([]:Y (ϕ×ϫ)).N) S I gc jV hf kK (ob:={ Ŝ:=.χ "list",ï:=none,Φ:=.XV ([]:Y ϫ).ϗ }) (λv z=>by cases z) rfl Hb aq
 have kL:(s.P.Ũ { Ŝ:=.χ "list",ï:=none,Φ:=.XV ([]:Y ϫ).ϗ }).Ϡ.Ϥ=s.P.Ϡ.Ϥ+1:=by rw[act]
 generalize afS:(s.P.Ũ { Ŝ:=.χ "list",ï:=none,Φ:=.XV ([]:Y ϫ).ϗ }).Ϡ.Ϥ=Ϸ at *
 have d3:q1 0 gp:=T.ĭ 0 _ _ E λb af o e=>aq b o (ϥ _ e)
 have gd:∀b o,s.P.ϛ b=O o->({ s with P:=s.P.Ũ { Ŝ:=.χ "list",ï:=none,Φ:=.XV ([]:Y ϫ).ϗ } }:ϐ).P.ϛ b=O o:=λb o e=>ϥ _ e
 generalize sC:({ s with P:=s.P.Ũ { Ŝ:=.χ "list",ï:=none,Φ:=.XV ([]:Y ϫ).ϗ } }:ϐ)=s3 at *
 have pH:s3.os=s.os:=by rw[<- sC]
 have Q2:∀b∈cH,H b=none:=λb af=>(hf b af).1
 have qJ:∀{aL:Y ϫ}{n:B}{U:ag},(∀b∈cH,U b=none)->∀b∈cH,jO (gO X Ϟ cl (tn++cn) Ϸ (s.P.Ϡ.Ϥ::cH) s3 H) (X.ez++ϩ++[(s.P.Ϡ.Ϥ,{ Ŝ:=.χ "list",Φ:=.XV aL.ϗ n })]) U b:=λ{aL n U} aF b af=>by
  have q:=hf b af
  have cJ:=kK b af
  refine⟨aF b af,λz=>?_,λz=>?_,.ε (Η _ af),λx c e=>q.2.2.2.2.1 x c (gc x c e),λp ay z=>?_⟩
  ·have gT:b=Ϸ:=z
   rw[gT,kL]at cJ;exact B.ť _ (B.aju cJ)
  ·rcases ς.mp (I.qE b z) with cQ|cQ
   ·exact q.2.1 cQ
   ·exact q.2.2.1 cQ
  ·have ay:p∈X.ez++ϩ++[(s.P.Ϡ.Ϥ,_)]:=(κ.mp ay).Ę (λz=>ŭ _ (ŭ _ z)) id
   rcases κ.mp ay with ay|ay
   ·exact q.2.2.2.2.2 p ay z
   ·have e:=ϖ.mp ay
    rw[e]at z;have gT:s.P.Ϡ.Ϥ=b:=z
    rw[<- gT]at cJ;exact B.ť _ cJ
 have loop:∀pI:ϐ,pI={ s with P:=gp,Χ:=s.Χ+([]:Y (ϕ×ϫ)).N }->
   Ø (ώ X.ϔ X.w) X.Ϲ (.compLoop (.HD elt [⟨c5,Ow,ifs,0⟩] Ϟ ŷ) 0 (.Z it) (.Z s.P.Ϡ.Ϥ) (aiO Ϟ cl Ϸ X.ό)) (RR (.Z s.P.Ϡ.Ϥ) Ϸ) pI:=by
  rintro pI rfl;refine QX (λn s'=>∃i ys aL k U,Υ (gO X Ϟ cl (tn++cn) Ϸ (s.P.Ϡ.Ϥ::cH) s3 H) (X.ez++ϩ++[(s.P.Ϡ.Ϥ,{ Ŝ:=.χ "list",Φ:=.XV (ϗ aL) k })]) (ac_ tn.N none++nh J dQ) U s'/\
   q1 i s'.P/\(∀b∈cH,U b=none)/\ś ys aL/\W i n ys U) ?_ m0 ⟨0,[],[],0,H,aK,d3,Q2,.ń,d0⟩
  rintro n s5 ⟨i,ys,aL,k,dX,md,qK,yI,y5,Q3⟩;rcases Cd i n ys dX Q3 with⟨stop,hz,dP⟩|⟨go,afT,Hd,ę⟩
  ·refine ů (T.done (gO X Ϟ cl (tn++cn) Ϸ (s.P.Ϡ.Ϥ::cH) s3 H) rfl rfl rfl (B9 ak) i _ s5 _ dX (λ_ _=>Ō) md (qJ yI) qK stop) (λr f7 gY=>?_) λ_ _ z=>z;obtain⟨aO,me⟩:=gY;subst aO;obtain⟨Q4,Q5,Q6,m,Q7⟩:=QW I hf kK ⋯ gd pH me y5 hz;exact Q1 _ _ _ _ _ m Q5 dP Q4 Q6 Q7
  ·refine ů (T.Ov (gO X Ϟ cl (tn++cn) Ϸ (s.P.Ϡ.Ϥ::cH) s3 H) rfl rfl rfl (B9 ak) i _ s5 _ dX (λ_ _=>Ō) md (qJ yI) qK go) (λr f7 gY=>?_) λ_ _ z=>z;obtain⟨u,aO,gY⟩:=gY;subst aO;refine ů gY (λ_ gv Ce=>?_) λ_ _ z=>z;obtain⟨x,gK,kE,Bq,y6,y7,Q8⟩:=Ce;have Q9:=kE.pinned (qJ Q8) (T.Oy _ _ y7)
   refine ů (bF Ϸ (s.P.Ϡ.Ϥ::cH) s3 H _ gv _ gK x u _ Q9 Bq (ę x gK y6)) (λ_ i1 mu=>?_) λ_ _ z=>z;obtain⟨y8,hR,Ra,⟨He,Hf⟩,Rb⟩:=mu;have back:∀{n8:ag}{gf:ϐ},Υ (gO X Ϟ cl (tn++cn) Ϸ (s.P.Ϡ.Ϥ::cH) s3 H) (X.ez++ϩ++[(s.P.Ϡ.Ϥ,{ Ŝ:=.χ "list",Φ:=.XV (ϗ aL) k })]++t9 cH gv.P) y8 n8 gf->
     q1 (i+1) gf.P/\(∀b∈cH,n8 b=none):=λ{n8 gf} sD=>by
    refine⟨T.ĭ _ _ _ y7 λb af o e=>(sD.ON (b,o) (ź _ (ź _ (yH af e)))).1,λb af=>?_⟩;obtain⟨o,e,ϻ⟩:=T.Oy _ _ y7 b af;exact(sD.ON (b,o) (ź _ (ź _ (yH af e)))).2.1
   refine ů (bk Ϸ (s.P.Ϡ.Ϥ::cH) s3 H _ i1 y8 hR _ Ra Rb) (λok gf Rc=>?_) λ_ _ z=>z;obtain⟨n8,sD,y9⟩:=Rc;cases ok with
   | false=>
    rw[aD ∅]at y9 ⊢;obtain⟨ba,hm,Rd⟩:=Hd _ _ y9;obtain⟨b1,b2⟩:=back sD;exact⟨ba,hm,i+1,ys,aL,k,n8,sD.ua.weak He.symm Hf,b1,b2,y5,Rd⟩
   | true=>
    rw[aS rfl]at y9 ⊢;refine ů (he Ϸ (s.P.Ϡ.Ϥ::cH) s3 H _ gf y8 n8 _ sD y9) (λCf Hg Rf=>?_) λ_ _ z=>z;obtain⟨y,Hh,za,Rg,ahh,Hi⟩:=Rf;obtain⟨ba,hm,Ri⟩:=Hd _ _ Hi;obtain⟨b1,b2⟩:=back za;have lG:=za.ON (s.P.Ϡ.Ϥ,{ Ŝ:=.χ "list",Φ:=.XV (ϗ aL) k }) (ź _ (ŭ _ (ź _ (ϖ.ļ rfl))))
    refine wpAny_list_append_plain (Oz:=by rwa[ζ,<- y5.N]) ⟨k,lG.1⟩ λHj Rj Hk=>?_;obtain⟨ha,Rk⟩:=Rj;have Rl:Υ (gO X Ϟ cl (tn++cn) Ϸ (s.P.Ϡ.Ϥ::cH) s3 H) (X.ez++ϩ) y8 Hh Hg:=za.t2 λp ay=>za.ON p (ź _ (ŭ _ (ŭ _ ay)))
    have Hl:=Rl.Á (t':=Hg.Χ) (h':=Hj) (it:=s.P.Ϡ.Ϥ) (λb o af e=>Hk.Β b o af e) lG.2.1 lG.2.2.1 (.ε ľ) (λx c e z=>?_) (λp ay z=>?_)
    ·refine⟨ba,hm,i+1,ys++[y],aL++[Cf],ha,Hh,?_,?_,b2,y5.I4 (.θ Rg .ń),Ri⟩
     ·refine(Hl.t2 λp ay=>?_).weak He.symm Hf;rcases κ.mp ay with ay|ay
      ·exact Hl.ON p (ź _ ay)
      ·have e:=ϖ.mp ay
       subst e;refine⟨?_,lG.2.1,lG.2.2.1,lG.2.2.2.1,λv z=>by cases z⟩;show Hj.ϛ s.P.Ϡ.Ϥ=_
       rw[Rk];simp
     ·refine T.ĭ _ _ _ b1 λb af o e=>Hk.Β b o (λz=>?_) e;have g:=kK b af
      rw[z]at g;exact B.ť _ g
    ·obtain⟨v,q⟩:=I.φ x c (gc x c e);exact bJ q.lt (by rw[z];exact B.ť _)
    ·have ay:p∈X.ez++ϩ:=(κ.mp ay).Ę (λz=>ŭ _ z) id
     exact bJ (τ (I.ON p ay).1) (by rw[z];exact B.ť _)
 exact codeAny_compStart_list (loop _ rfl) (T.self X.Ϲ 0 _ _ _ d3 (loop _ rfl))
def Cg (g8:TI)(k:B)(dQ:Y B)(Ϻ:fq)(tt:TT)(bT:TE):TE:=λJ H Q=>g8 J H λcD H1=>∃W:B->B->Y V->ag->Prop,(∃m,W 0 m [] H1)/\
 mr cD Ϻ tt bT (ac_ k none++nh J dQ) W λys U=>∀϶,U ϶=none->Q (.Z ϶) (ſ U ϶ (.Ť ys))
theorem iB {elt:Ġ}{Ϻ:fq}(S:fz X Ϟ tn cn dQ)(ak:OV X)(aA:PI X c5 Ow g8)(bF:∀cl Ϸ ex cf dy,PG (gO X Ϟ cl (tn++cn) Ϸ ex cf dy) c5 Ϻ)(bk:∀cl Ϸ ex cf dy,uD (gO X Ϟ cl (tn++cn) Ϸ ex cf dy) ifs tt)(he:∀cl Ϸ ex cf dy,PE (gO X Ϟ cl (tn++cn) Ϸ ex cf dy) elt bT)(aH:∀x,ahE Ow X.ό x=Ă x:=by intro _;rfl):PE X (.HD elt [⟨c5,Ow,ifs,0⟩] Ϟ ŷ) (Cg g8 tn.N dQ Ϻ tt bT):=by
 intro ϩ s J H Q I h;obtain⟨cl,Ci,gc,jV⟩:=G3 (Ϟ:=Ϟ) (ό:=X.ό) λx ai hf=>I.ok.has x.1 (S.uB x ai hf)
 rw[eval_ListComp];refine ahR (use:=none) rfl aH Ci S.î S.Λ (bA (aA ϩ s J H _ I h) λv s1 g=>bA g λyG s2 ah=>?_);obtain⟨it,cH,q1,cD,aC,e,bt,T,iW,f2,W,⟨m0,d0⟩,O1⟩:=ah;subst e;refine G9 (RR:=λwv Ϸ=>compPost (ώ X.ϔ X.w) X.Ϲ X.c0 none (gs X ϩ J Q) wv Ϸ) S ak gc jV (bF cl) (bk cl) (he cl) bt T iW f2 O1 d0 ?_;intro ϶ Ϸ s' U ys m eP f eU kO aF;refine⟨m,aF,λh' fV=>?_⟩;have Cj:=eU.Á (t':=s'.Χ) (h':=h') (it:=Ϸ) (λb o af e=>fV.Β b o af e) kO.1 kO.2.1 kO.2.2.2.1 kO.2.2.2.2.1 kO.2.2.2.2.2
 exact⟨.Z ϶,_,Cj,rfl,f ϶ eP⟩
def zta (i:B)(g8:TI)(k:B)(dQ:Y B)(Ϻ:fq)(tt:TT)(bT:TE):dn:=λ϶ J H=>g8 J H λcD H1=>∃W:B->B->Y V->ag->Prop,(∃m,W 0 m [] H1)/\
 mr cD Ϻ tt bT (ac_ k none++nh J dQ) W λys U=>∀p,U p=none->϶.aP (J.mt i (O (.Z p))) (ſ U p (.Ť ys))
theorem zb {elt:Ġ}{Hm py:Ox}{y:ϕ}{Ϻ:fq}(S:fz X Ϟ tn cn dQ)(ak:OV X)(cA:X.ϰ.Α)(aU:X.ϰ[i]?=O y)(aw:X.ό.Ϟ.Λ.Ϣ y=O .local)(aA:PI X c5 Ow g8)(bF:∀cl Ϸ ex cf dy,PG (gO X Ϟ cl (tn++cn) Ϸ ex cf dy) c5 Ϻ)(bk:∀cl Ϸ ex cf dy,uD (gO X Ϟ cl (tn++cn) Ϸ ex cf dy) ifs tt)(he:∀cl Ϸ ex cf dy,PE (gO X Ϟ cl (tn++cn) Ϸ ex cf dy) elt bT)(hsw:wn (.HD elt [⟨c5,Ow,ifs,0⟩] Ϟ ŷ) (O (.ĸ y py)) Hm.cr X.ό=Ă true)(aH:∀x,ahE Ow X.ό x=Ă x:=by intro _;rfl):PS X (.ajC [.ĸ y py] (.HD elt [⟨c5,Ow,ifs,0⟩] Ϟ ŷ) Hm) (zta i g8 tn.N dQ Ϻ tt bT):=by
 intro ϩ s J H ϶ I h;obtain⟨cl,Ci,gc,jV⟩:=G3 (Ϟ:=Ϟ) (ό:=X.ό) λx ai hf=>I.ok.has x.1 (S.uB x ai hf)
 rw[exec_Assign_Name_used _ _ _ _ hsw];refine ax (Æ (ax ?_));show ϙ _ X.Ϲ (do let _ <- comprehension (.HD elt [⟨c5,Ow,ifs,0⟩] Ϟ ŷ) Ϟ X.ό _ (newList []) false (ŗ Ow X.ό) (O (I3 (.ĸ y py) X.ό))) _ _ s
 refine ax (ů (ahR (use:=O (I3 (.ĸ y py) X.ό)) (Q:=λ_ s'=>iS X ϩ ϶ .next s') rfl aH Ci S.î S.Λ
  (bA (aA ϩ s J H _ I h) λv s1 g=>bA g λyG s2 ah=>?_)) (λ_ s' ao=>bp (bp ao)) λ_ _ e=>e)
 obtain⟨it,cH,q1,cD,aC,e,bt,T,iW,f2,W,⟨m0,d0⟩,O1⟩:=ah;subst e;refine G9 (RR:=λwv Ϸ=>compPost (ώ X.ϔ X.w) X.Ϲ X.c0 (O (I3 (.ĸ y py) X.ό)) (λ_ s'=>iS X ϩ ϶ .next s') wv Ϸ) S ak gc jV (bF cl) (bk cl) (he cl) bt T iW f2 O1 d0 ?_;intro p Ϸ s' U ys m eP f eU kO aF;show ϙ _ X.Ϲ (I3 (.ĸ y py) X.ό (.Z p)) _ _ _
 refine akh (FU (v:=.Z p) eU cA aU (.ε aw) rfl (λs4 hl ⟨a,Rm,aN⟩=>?_) (.Œ aw));have Rn:Ϸ≠a:=by
  rcases aN with aN|aN
  ·rw[aN];exact kO.2.1
  ·exactλz=>kO.2.2.2.2.1 y a aN z.symm
 refine⟨m,aF.aj0 Rm Rn,λh' fV=>?_⟩;have Cj:=hl.Á (t':=s4.Χ) (h':=h') (it:=Ϸ) (λb o af e=>fV.Β b o af e) kO.1 kO.2.1 kO.2.2.2.1 kO.2.2.2.2.1 kO.2.2.2.2.2
 exact⟨_,_,Cj,f p eP⟩
end
structure sE (cD:g7)(H:ag)(F:Y V):Prop where
 go:∀i,i<F.N->cD.go i H
 fR:∀i x U,i<F.N->cD.fR i H x U->U=H/\F[i]?=O x
 stop:cD.stop F.N H
theorem UF {F:Y V}(h:aM K H a F):sE (mc K a) H F:=
 ⟨λi aA=>⟨F,F[i],h,by simp[aA]⟩,λi x U _ y=>⟨y.1,y.2 F h⟩,⟨F,h,B.ϑ _⟩⟩
theorem amM:sE (lz lo n) H ((Ć n).ϒ λi=>V.M (lo+(i:B))):=
 ⟨λi aA=>(show i<n by simpa using aA),λi x U aA y=>⟨y.1,by
  have pF:i<n:=by simpa using aA
  have e:x=.M (lo+(i:B)):=y.2
  rw[e,Ϙ,Y.al1 pF];rfl⟩,by show n<=_;simp⟩
theorem zc {x:V}{cs:St}:((O x::cs:St).N=(none::cs:St).N)/\∀(j:B)(v:V),(none::cs:St)[j]?=O (O v)->(O x::cs:St)[j]?=O (O v):=by
 refine⟨by simp,λj v h=>?_⟩;cases j with
 | HW=>simp at h
 | o0 j=>simpa using h
theorem n9 {F:Y V}{cs:St}(S:sE cD H F)(p:V->δ)(f:V->V)(oa:∀x∈F,∀Q:δ->ag->Prop,Q (p x) H->tt (O x::cs) H Q)(Ck:∀x∈F,p x=true->∀Q:a8,Q (f x) H->bT (O x::cs) H Q)(aF:F.N<=ϓ)(kf:ϴ ((F.ı p).ϒ f) H):
  ∃W:B->B->Y V->ag->Prop,(∃m,W 0 m [] H)/\mr cD (hN 0) tt bT (none::cs) W ϴ:=by
 refine⟨λi m ys U=>m=F.N-i/\i<=F.N/\U=H/\ys=((F.ĵ i).ı p).ϒ f,⟨F.N,by simp,ł _,rfl,by simp⟩,?_⟩;rintro i m ys U ⟨rfl,aA,rfl,rfl⟩;have SB:(((F.ĵ i).ı p).ϒ f).N<=ϓ:=by
  rw[ϧ];refine B.Ķ (à _ _) ?_;rw[Ģ];omega
 by_cases cJ:i<F.N
 ·refine .Œ ⟨S.go i cJ,λi0 dt=>dt=U/\i0=((F.ĵ (i+1)).ı p).ϒ f,λi0 dt h=>⟨F.N-(i+1),⋯,rfl,cJ,h.1,h.2⟩,λx dt y=>?_⟩;obtain⟨rfl,ai⟩:=S.fR i x dt cJ y;have hm:x∈F:=ύ ai
  have qQ:F.ĵ (i+1)=F.ĵ i++[x]:=by
   rw[ė,ai];rfl
  show _/\_
  refine⟨zc,?_⟩;refine oa x hm _ ?_;cases ay:p x with
  | true=>
   rw[aS rfl];refine Ck x hm ay _ ⟨SB,rfl,?_⟩;rw[qQ,Y.ajv,Ε];simp[ay]
  | false=>
   rw[aD ∅];refine⟨rfl,?_⟩;rw[qQ,Y.ajv,Ε];simp[ay]
 ·have e:i=F.N:=⋯
  subst e;refine .ε ⟨S.stop,SB,?_⟩;rw[İ];exact kf
theorem zd {x:B->V}{cs:St}(Pv:B->Y V->ag->Prop)(h0:Pv 0 [] H)(Ro:∀i ys H,i<n->Pv i ys H->cD.go i H/\∀y U,cD.fR i H y U->U=H/\y=x i)(Rp:∀ys H,Pv n ys H->cD.stop n H)(aH:∀i ys H,i<n->Pv i ys H->tt (O (x i)::cs) H λb bw=>if b=true then bT (O (x i)::cs) bw λy cK=>ys.N<=ϓ/\Pv (i+1) (ys++[y]) cK else Pv (i+1) ys bw)(hd:∀ys H,Pv n ys H->ys.N<=ϓ/\ϴ ys H):
  ∃W:B->B->Y V->ag->Prop,(∃m,W 0 m [] H)/\mr cD (hN 0) tt bT (none::cs) W ϴ:=by
 refine⟨λi m ys H=>m=n-i/\i<=n/\Pv i ys H,⟨n,by simp,ł _,h0⟩,?_⟩;rintro i m ys H ⟨rfl,aA,p⟩;by_cases cJ:i<n
 ·obtain⟨g1,g2⟩:=Ro i ys H cJ p;refine .Œ ⟨g1,Pv (i+1),λi0 U h=>⟨n-(i+1),⋯,rfl,cJ,h⟩,λy U oc=>?_⟩;obtain⟨rfl,rfl⟩:=g2 y U oc;exact⟨zc,aH i ys _ cJ p⟩
 ·have e:i=n:=⋯
  subst e;obtain⟨g,ah⟩:=hd ys H p;exact .ε ⟨Rp ys H p,g,ah⟩
theorem cxK {ϵ:bz}:(hs dz Ϯ w K mg ϊ ϰ Ρ Ϟ f cd Ϲ Ϗ s H ϵ).K=K:=rfl
theorem cxA {ϵ:bz}:(hs dz Ϯ w K mg ϊ ϰ Ρ Ϟ f cd Ϲ Ϗ s H ϵ).Ϲ=Ϲ.Ê (ŋ Ρ Ϟ s.P.Ϡ.Ϥ f cd):=rfl
theorem ahi:(gO X Ϟ cl ϰ Ϸ ex cf dy).K=X.K:=rfl
theorem ahj:(gO X Ϟ cl ϰ Ϸ ex cf dy).Ϲ=X.Ϲ:=rfl
def eE (c:B):V:=.str ⟨#[c]⟩
def ze (x:ϕ):g7:=⟨λi _=>i<x.Ch.Ϥ,λi H v U=>U=H/\∃c,x.Ch[i]?=O c/\v=eE c,λi _=>x.Ch.Ϥ<=i⟩
theorem Rq (it:Ϩ)(x:ϕ)(t:OE){ty:è}(lE:ty="str_ascii_iterator"\/ty="str_iterator"):Bm Ϯ w K c5 (ze x) [it] it (λi h=>h.akv it ty x t i) where
 OO:=by simp
 Oy:=λi h E b af=>by
  have e:b=it:=by simpa using af
  subst e;obtain⟨o,e,c,ϻ⟩:=E;exact⟨o,e,λv z=>by rw[ϻ]at z;cases z⟩
 ĭ:=λi h h' E k=>let⟨o,e,r⟩:=E;⟨o,k it (by simp) o e,r⟩
 Ov:=by
  intro X dk hw c9 ak i ϩ s J H ϵ I hf E bF;subst dk hw c9;have aA:i<x.Ch.Ϥ:=bF
  obtain⟨f0,f1,f2,dv,f4,dP⟩:=hf it (by simp);have ai:x.Ch[i]?=O x.Ch[i]:=by simp[aA]
  have d_:∀h',h'.akv it ty x t (i+1)->Θ.N_ it s.P h'->∃u,O (ϫ.str ⟨#[x.Ch[i]]⟩ s.Χ)=O u/\
    ϙ (ώ X.ϔ X.w) X.Ϲ (Go c5 (.Z it) u) (λ_ s2=>∃y U,Υ X ϩ J U s2/\ţ y u/\(ze x).fR i H y U/\s2.P.akv it ty x t (i+1)/\∀b∈[it],U b=none) ϵ { s with P:=h',Χ:=s.Χ+1 }:=λh' f6 kC=>by
   have aK:Υ X ϩ J H { s with P:=h',Χ:=s.Χ+1 }:=I.Á (λb o af e=>(kC.2 b af).Ϛ e) f0 f1 dv f4 dP
   obtain⟨o,e,c,ϻ⟩:=id f6;refine⟨_,rfl,sk (s:={ s with P:=h',Χ:=s.Χ+1 }) e c ϻ ?_ ⟨eE x.Ch[i],H,aK,⟨_,rfl⟩,⟨rfl,_,ai,rfl⟩,f6,λb af=>(hf b af).1⟩⟩;rcases lE with z|z<;>(subst z;decide)
  rcases lE with z|z
  ·subst z;exact wpAny_pyNext_ascii_item E ai d_
  ·subst z;exact wpAny_pyNext_wide_item E ai d_
 done:=by
  intro X dk hw c9 ak i ϩ s J H ϵ I hf E bF;subst dk hw c9;have aA:x.Ch.Ϥ<=i:=bF
  obtain⟨f0,f1,f2,dv,f4,dP⟩:=hf it (by simp);have ai:x.Ch[i]?=none:=by simp[aA]
  have d_:∀h',Θ.I2 it s.P h'->(none:ϣ ϫ)=none/\Υ X ϩ J H { s with P:=h' }:=λh' eb=>⟨rfl,I.Á (t':=s.Χ) (λb o af e=>eb b o af e) f0 f1 dv f4 dP⟩
  rcases lE with z|z
  ·subst z;exact FJ (.ε rfl) (I.R_ ak) E ai d_
  ·subst z;exact FJ (.Œ rfl) (I.R_ ak) E ai d_
 self:=λ_ _ _ _ _ E h=>by
  rcases lE with z|z
  ·subst z;exact wpAny_pyIter_striter_ascii E h
  ·subst z;exact wpAny_pyIter_striter_wide E h
def Cm (e3:TE):TI:=λJ H R=>e3 J H λv H1=>∃x,v=.str x/\R (ze x) H1
theorem Hp {l:Ġ}(aw:PE X l e3):PI X c5 l (Cm e3):=by
 intro ϩ s J H R I h;refine bA (aw ϩ s J H _ I h) λv s1 ⟨y,H1,aK,bG,a3⟩=>?_;obtain⟨x,e,q⟩:=a3;subst e;obtain⟨t,rfl⟩:=bG;have d_:∀ty,(ty="str_ascii_iterator"\/ty="str_iterator")->Bn X ϩ J c5 R (.Z s1.P.Ϡ.Ϥ) { s1 with P:=s1.P.Ũ { Ŝ:=.χ ty,Φ:=.Ž #[.str x t,.M 0 0] } }:=λty lE=>by
  refine⟨s1.P.Ϡ.Ϥ,[s1.P.Ϡ.Ϥ],_,_,H1,rfl,aK.XL (t':=s1.Χ) λb o e=>ϥ _ e,Rq _ x t lE,⟨_,σ _ rfl,rfl,rfl⟩,λb af=>?_,q⟩;have e:b=s1.P.Ϡ.Ϥ:=by simpa using af
  subst e;exact aK.mb (B.ϑ _) (aK.a9.Ĳ (B.ϑ _))
 cases aN:x.Ch.IY (· < 128)
 ·exact wpAny_pyIter_wide aN (d_ _ (.Œ rfl))
 ·exact wpAny_pyIter_ascii aN (d_ _ (.ε rfl))
theorem Hr:sE (ze x) H (x.Ch.Ω.ϒ eE):=
 ⟨λi aA=>(show i<x.Ch.Ϥ by simpa using aA),λi v U aA y=>⟨y.1,by
  obtain⟨c,au,az⟩:=y.2;rw[az,Ϙ,μ.aiw,au];rfl⟩,by show x.Ch.Ϥ<=_;simp⟩
section
variable {X:Cx}
theorem Hs:eo X (ų .In) (λx y H Q=>∃c j,x=eE c/\y=.str j/\Q (.bl (decide (c∈j.Ch.Ω))) H):=by
 intro ϩ s J H x y v u Q I bc bu h;obtain⟨c,j,rfl,rfl,q⟩:=h;refine anz ϩ s J H _ _ v u Q I bc bu ⟨_,j,rfl,rfl,?_⟩;rwa[ϟ.StrLaws.found_one]
theorem all_range (bs:Y δ):(Ć bs.N).IY (λi=>bs.œ i false)=bs.IY id:=by
 rw[δ.ë,ù,ù];constructor
 ·intro h b af;obtain⟨i,aA,e⟩:=Y.mem_iff_getElem.mp af;have q:=h i (ñ.ļ aA)
  simpa [œ,aA,e] using q
 ·intro h i aA;have pF:=ñ.mp aA
  have q:=h bs[i] (Y.getElem_mem pF)
  simpa [œ,pF] using q
theorem Cn:ho X (.ο "all") (λF H Q=>∃(a:Ϩ)(bs:Y δ),F=[.Z a]/\X.Ϲ.Ē=none/\aM X.K H a (bs.ϒ V.bl)/\Q (.bl (bs.IY id)) H):=by
 intro ϩ s J H F us Q I r h;obtain⟨a,bs,rfl,bj,ao,q⟩:=h;obtain⟨u,rfl,fh⟩:=wT r;cases fh;obtain⟨aL,ck,p,hz⟩:=I.ö ao;have aw:=ck.N
 rw[ϧ]at aw;obtain⟨o,av,_⟩:=id p.Ń;have cJ:=τ av
 refine call_all_walk (AC p.Ń ?_);refine⟨s.P.Ϡ.Ϥ,_,_,_,_,_,λi=>bs.œ i false,rfl,alx.ö (Ϲ:=X.Ϲ.jp) bj s.P.Ϡ.Ϥ a (Ι cJ) aL.ϗ,⟨⟨_,σ _ rfl,rfl,rfl⟩,p.Ń.at λo e=>ϥ _ e⟩,?_,λh' tk aq=>?_⟩
 ·intro i v s' jK afU aG d6;have aG:aL.ϗ[i]?=O v:=aG
  have aA:aL[i]?=O v:=by simpa using aG
  have Ht:i<bs.N:=by rw[aw];exact(Y.Ϧ.mp aA).1
  obtain⟨u,bK,fh⟩:=ck.O4 (i:=i) (x:=V.bl bs[i]) (by simp[Ht]);rw[aA]at bK;cases bK;cases fh;refine Ū ?_;have e:bs.œ i false=bs[i]:=by simp[œ,Ht]
  rwa[<- e]
 ·rw[ζ,<- aw,all_range];refine⟨.bl (bs.IY id),H,I.XL λb o e=>?_,rfl,q⟩;exact aq b o (λz=>B.ť _ (by have:=τ e;rw[ϖ.mp z]at ν;exact ν)) (ϥ _ e)
end
theorem Hu (x y:ϕ):(x++y).Ch.Ω=x.Ch.Ω++y.Ch.Ω:=by
 show(x.Ch++y.Ch).Ω=_
 simp
theorem uE {y:ϕ}(h:x.Ch.Ω=y.Ch.Ω):x=y:=by
 obtain⟨a⟩:=x;obtain⟨b⟩:=y;congr 1
 exact μ.toList_inj.mp h
theorem Hv (x:ϕ):x.Ch.Ω.N=x.N:=by simp[ϕ.N]
mutual
inductive Den (K:Frag)(H:ag):V->PyData->Prop
 | br:Den K H .br .none
 | bl (b:Bool):Den K H (.bl b) (.bool b)
 | int (i:Int):Den K H (.int i) (.int i)
 | str (x:Str):Den K H (.str x) (.str x)
 | lst {a:Addr}{xs:List V}{ds:List PyData}:aM K H a xs->ni K H xs ds->Den K H (.ref a) (.list ds)
 | tup {a:Addr}{xs:List V}{ds:List PyData}:bN K H a xs->ni K H xs ds->Den K H (.ref a) (.tuple ds)
inductive ni (K:Frag)(H:ag):List V->List PyData->Prop
 | nil:ni K H [] []
 | cons {x:V}{xs:List V}{d:PyData}{ds:List PyData}:Den K H x d->ni K H xs ds->ni K H (x::xs) (d::ds)
end
section
variable {X:Cx}{pins:List (Addr×Obj)}{J:St}{H:ag}{s:Shared}
theorem ni.Be (I:Υ X ϩ J H s){F:Y V}{ds:Y Ŀ}(h:ni X.K H F ds)(r:ś F us):∃as,alH s.P us ds as:=by
 refine ni.rec (motive_1:=λx ϻ _=>∀u,ţ x u->∃as,aly s.P u ϻ as) (motive_2:=λF ds _=>∀us,ś F us->∃as,alH s.P us ds as) ?_ ?_ ?_ ?_ ?_ ?_ ?_ ?_ h us r
 ·intro u r;cases r;exact⟨_,aly.none⟩
 ·intro b u r;cases r;exact⟨_,aly.Ã b⟩
 ·intro i u r;obtain⟨t,rfl⟩:=r;exact⟨_,aly.M i t⟩
 ·intro x u r;obtain⟨t,rfl⟩:=r;exact⟨_,aly.str x t⟩
 ·intro a F ds h aH bB u r;cases r;obtain⟨aL,ck,p,hz⟩:=I.ö h;obtain⟨as,q⟩:=bB _ ck;obtain⟨o,av,ak,n,hd⟩:=p.Ń;exact⟨_,reads_list_at av ak hd (by simpa using q)⟩
 ·intro a F ds h aH bB u r;cases r;obtain⟨aL,ck,p,hz⟩:=I.B_ h;obtain⟨as,q⟩:=bB _ ck;obtain⟨o,av,ak,n,hd⟩:=(show s.P.BT _ _ from p);exact⟨_,reads_tuple_at av ak hd (by simpa using q)⟩
 ·intro us r;cases r;exact⟨_,alH.ń⟩
 ·intro x F ϻ ds h aH fi f9 us r;cases r with
  | θ r g6=>
   obtain⟨as,q⟩:=fi _ r;obtain⟨bs,p⟩:=f9 _ g6;exact⟨_,alH.θ q p⟩
theorem Den.Be (I:Υ X ϩ J H s){x:V}{ϻ:Ŀ}(h:Den X.K H x ϻ)(r:ţ x u):∃as,aly s.P u ϻ as:=by
 obtain⟨as,q⟩:=ni.Be I (.θ h .ń) (.θ r .ń);cases q with
 | θ q _=>exact⟨_,q⟩
def uF (K:ş)(neg:δ):gw:=λx y H Q=>∃ϻ e,Den K H x ϻ/\Den K H y e/\ĝ.ii ϻ=true/\ĝ.ii e=true/\Q (.bl (if neg then !Ŀ.Bo ϻ e else Ŀ.Bo ϻ e)) H
theorem Hw (bK:X.Ϲ.õ+64<ä):eo X (ų .Eq) (uF X.K false):=by
 intro ϩ s J H x y v u Q I bc bu h;obtain⟨ϻ,e,hd,he,lH,Co,q⟩:=h;obtain⟨as,lI⟩:=hd.Be I bc;obtain⟨bs,mv⟩:=he.Be I bu;exact eq_dataH lI mv lH Co bK (eJ I q rfl)
theorem Rr (bK:X.Ϲ.õ+64<ä):eo X (ų .NotEq) (uF X.K true):=by
 intro ϩ s J H x y v u Q I bc bu h;obtain⟨ϻ,e,hd,he,lH,Co,q⟩:=h;obtain⟨as,lI⟩:=hd.Be I bc;obtain⟨bs,mv⟩:=he.Be I bu;exact ne_dataH lI mv lH Co bK (eJ I q rfl)
end
section
variable {X:Cx}
theorem q2:ho X (.ο "isinstance") (λF H Q=>∃x n t b,F=[x,.ty n]/\hr X.K H x t/\IV X.K t (.χ n)=O b/\Q (.bl b) H):=by
 intro ϩ s J H F us Q I r h;obtain⟨x,n,t,b,rfl,ty,e,q⟩:=h;obtain⟨u,v,rfl,fh,ck⟩:=vals2 r;cases ck;exact Gp I fh ty e λtk=>⟨.bl b,H,I.bn _,rfl,q⟩
end
namespace RevF
theorem Rt:u_ (.χ "list_reverseiterator") "__len__"=Ă none:=by
 rw[aix,wP];kernel_rfl
theorem Ru:u_ (.χ "list_reverseiterator") "__length_hint__"=Ă (O (.ο "list_reverseiterator.__length_hint__")):=by
 rw[aix,wP];kernel_rfl
end RevF
theorem Rv {I:Ϩ}{Q:Y ϫ->ϐ->Prop}(bj:Ϲ.Ē=none)(SZ:s.P.adr I l ((ž.Ϥ:G)-1))(aw:s.P.Ò l ž)(ia:l≠I)(aF:ž.Ϥ<=ϓ)(d6:∀s' wv,Moved [I] (λa b=>b=a) s s'->aln (λi v=>ž[ž.Ϥ-1-i]?=O v) wv ž.Ϥ->Q wv.Ω s'):ϙ (ώ ϔ w) Ϲ (am6 (.Z I)) Q ϵ s:=by
 obtain⟨nj,Rw,afV,afW⟩:=id SZ;obtain⟨ahk,kv,gc,nl,m4⟩:=id aw;have Hx:=τ Rw
 have Hy:=τ kv
 have Hz:s.P.Ϡ.Ϥ ∉ [I,l]:=λhm=>by
  rcases ς.mp hm with z|z
  ·exact B.ť _ (by rw[<- z]at Hx;exact Hx)
  ·exact B.ť _ (by rw[<- ϖ.mp z]at Hy;exact Hy)
 have pK:s.P.Ϡ.Ϥ≠I:=λz=>Hz (by rw[z];exact ľ)
 have W:=(alx.listRev (ϔ:=ϔ) (w:=w) (Ϲ:=Ϲ.jp) bj I l ia ž).toS
 unfold am6;refine ax (aiX (Ů ϴ.entry_proto_collect ?_));rw[ŕ.Ľ ϴ.plain_proto_collect _];show ϙ _ Ϲ.jp (newList []>>=λm=>amD (.ο "list.__iadd__" ⟨[m,.Z I],[]⟩)) _ _ s
 refine ax (Š (bp ⟨Ś ϴ.ak_ _,Ů ϴ.entry_list_iadd ?_⟩));rw[ŕ.Ľ ϴ.ak_ _];have up:∀b o,s.P.ϛ b=O o->(s.P.Ũ { Ŝ:=.χ "list",Φ:=.XV ([]:Y ϫ).ϗ }).ϛ b=O o:=λb o e=>ϥ _ e
 have OR:(s.P.Ũ { Ŝ:=.χ "list",Φ:=.XV ([]:Y ϫ).ϗ }).ϛ s.P.Ϡ.Ϥ=O { Ŝ:=.χ "list",Φ:=.XV ([]:Y ϫ).ϗ }:=σ _ rfl
 have Cp:(s.P.Ũ { Ŝ:=.χ "list",Φ:=.XV ([]:Y ϫ).ϗ }).adr I l ((ž.Ϥ:G)-1):=SZ.at λo e=>up _ o e
 have eL:(s.P.Ũ { Ŝ:=.χ "list",Φ:=.XV ([]:Y ϫ).ϗ }).Ò l ž:=aw.at λo e=>up _ o e
 have Rx:π.Y.listSameRef (.Z s.P.Ϡ.Ϥ) (.Z I)=false:=by simp[π.Y.listSameRef,pK]
 show ϙ _ Ϲ.jp (π.Y.aiZ (.Z s.P.Ϡ.Ϥ) (.Z I) (.Z s.P.Ϡ.Ϥ)) _ _ _
 unfold π.Y.aiZ;have ty:({ s with P:=s.P.Ũ { Ŝ:=.χ "list",Φ:=.XV ([]:Y ϫ).ϗ } }:ϐ).Q_ (.Z I) "list_reverseiterator":=Cp.Ÿ
 refine ax (LT ty ?_);rw[aD (by rw[Rx];decide)];refine ax (lw Cp ?_);refine ax (Ν ?_);unfold π.Y.listLengthHint;refine ax (Uf ty RevF.Rt ?_);show ϙ _ Ϲ.jp (specialOf (ϫ.Z I) (ϕ.ϝ "__length_hint__")>>=_) _ _ _
 refine ax (Uf ty RevF.Ru ?_);have fS:splitId "list_reverseiterator.__length_hint__"=O ("list_reverseiterator","__length_hint__"):=∅
 generalize Ry:("list_reverseiterator.__length_hint__":è)=hint at fS ⊢
 dsimp only
 simp only[fS];refine ax (u8 (b:=true) ty (by rw[isSubtype_type];kernel_rfl) ?_);subst Ry;refine bp ?_;rw[aD ∅];have wE:0<=ž.Ϥ/\(s.P.Ũ { Ŝ:=.χ "list",Φ:=.XV ([]:Y ϫ).ϗ }).adr I l ((ž.Ϥ:G)-1-((0:B):G))/\(s.P.Ũ { Ŝ:=.χ "list",Φ:=.XV ([]:Y ϫ).ϗ }).Ò l ž:=
  ⟨ł _,by simpa using Cp,eL⟩
 refine bp ⟨Ś ϴ.plain_extend_loop _,codeAny_extend_loopS W aF _ Hz _ ž.Ϥ 0 _ _ _ rfl (ł _) wE OR (aln.ń _) λs' wv c hm i2 kP=>?_⟩;show ϙ _ Ϲ (load s.P.Ϡ.Ϥ>>=_) _ _ s'
 refine ax (aic i2 (bp (d6 s' wv ?_ kP)));exact Moved.drop_new (o:={ Ŝ:=.χ "list",Φ:=.XV ([]:Y ϫ).ϗ }) (tk:=s.Χ) hm (B.ϑ _)
theorem HA {Ϯ:B->ϫ->Prop}{wv:μ ϫ}(h:aln Ϯ wv n):wv.Ϥ=n/\∀j v,wv[j]?=O v->Ϯ j v:=h
section
variable {X:Cx}
end
end L2
namespace L2
open PySem PySem.Spec PyProof.Rows
section
variable {X:Cx}
end
theorem Rz {sc:IK}(h:r7 sc x)(e:Ϫ (X.ό.Ϟ=sc) dA._auto_1):r7 X.ό.Ϟ x:=e ▸ h
theorem eQ {sc:IK}(h:sc.Λ.Ϣ x=O .A_)(e:Ϫ (X.ό.Ϟ=sc) dA._auto_1):fb X x:=by
 show X.ό.Ϟ.Λ.Ϣ x=_
 rwa[e]
theorem Cq {sc:IK}(h:sc.Λ.Ϣ x=O .local\/sc.Λ.Ϣ x=O .φ)(e:Ϫ (X.ό.Ϟ=sc) dA._auto_1):Loc X.ό.Ϟ x:=e ▸ h
def hS (e:Ġ):δ:=Ġ.casesOn (motive_1:=λ_=>δ) e (λ_ _ _=>true) (λ_ _ _=>true) (λ_ _ _ _=>true) (λ_ _ _=>true) (λ_ _ _ _=>true) (λ_ _ _ _=>true) (λ_ _ _=>true) (λ_ _ _=>true) (λ_ _ _ _=>true) (λ_ _ _ _=>true) (λ_ _ _ _ _=>true) (λ_ _ _ _=>true) (λ_ _=>true) (λ_ _=>true) (λ_ _=>true) (λ_ _ _ _=>true) (λ_ _ _ _=>true) (λ_ _ _ _=>true) (λ_ _=>true) (λ_ _ _=>true) (λ_ _ _=>true) (λ_ _ _=>true) (λ_ _=>false) (λ_ _=>true) (λ_ _=>true) (λ_ _ _=>true) (λ_ _ _ _=>true)
def é:Y Ġ->δ
 | []=>true
 | e::r=>hS e&&é r
theorem el (h:hS e=true):ω (e::C) ό=(false,ŗ e ό)::ω C ό:=by
 cases e<;>first|rfl|cases h
theorem d3 (h:hS e=true):ω [e] ό=[(false,ŗ e ό)]:=by
 rw[el h];rfl
theorem iW {ϻ:Ġ}(h:hS e=true)(ah:hS ϻ=true):ω [e,ϻ] ό=[(false,ŗ e ό),(false,ŗ ϻ ό)]:=by
 rw[el h,d3 ah]
theorem eF {ό:OF}{ŷ:Ox}:∀{C:Y Ġ},é C=true->(ĕ ŷ (ω C ό)).J_ (·.1)=false
 | [],_=>rfl
 | e::r,h=>by
  have h':(hS e&&é r)=true:=h
  rw[Ŵ]at h';rw[el h'.1];show(false||(ĕ ŷ (ω r ό)).J_ (·.1))=false
  rw[eF h'.2];rfl
end L2
namespace HT
open PySem PyProof.Rows
section
variable {prog:Program}{w:World}{A:Around}{E:wvP}{s:Shared}
end
end HT
variable {D:L2.Ends}{a4:L2.dn}{cs:List Int}{loose:List PySem.Str}{sF:(PySem.Str->Option PySem.Value)->PySem.Heap->Prop}{pL:PySem.World->PySem.Heap->Prop}
namespace L2
open PySem PySem.Spec PyProof.Rows
section
variable {X:Cx}
theorem uG:eo X (Hn .Mult) (rI IntMulOk λi j=>.M (i*j)):=yJ λ_ _ _ _ _ _ _ ak q=>mul_int q ak
end
def zf (i:G):Prop:=π.G.intBits i<=2^20
theorem HB:∀{ns:Y G}{m:B},ϟ.W.dL.weightAll (ns.ϒ ϟ.W.dL.M)<=m->∀i∈ns,π.G.intBits i<=m
 | [],_,_,i,h=>bJ h (by simp)
 | n::r,m,hw,i,h=>by
  have hw:π.G.intBits n+1+ϟ.W.dL.weightAll (r.ϒ ϟ.W.dL.M)<=m:=hw
  rcases ς.mp h with e|e
  ·rw[e];omega
  ·exact HB ⋯ i e
theorem RA {l:ajc}{q:Č}{ϻ:DefRec}(aF:l.most=O n)(uH:ϻ.ĳ.aj4=[])(WP:∀(w:Þ)(cf eg:ϐ)(mg lr:ϕ->ϣ ϫ)(fa:Ϩ)(o:ğ)(pm cd ST:ϫ)(a:Ϩ)(d:Y ϫ)(ns:Y G),
   ϟ.W.Ground q loose [] sF w cf mg lr eg.P->pL w eg.P->
   eg.P.ϛ fa=O o->o.Φ=.OQ (ê.docDef ϻ.name ϻ.ĳ ϻ.p_ ϻ.Ϟ pm cd ST)->eg.P.CodeRec cd ϻ.name->mg ϻ.name=O (.Z fa)->
   eg.P.ϛ a=O { Ŝ:=.χ "list",Φ:=.XV d.ϗ }->Ö d ns->ns.N<=n->(∀i∈ns,zf i)->eg.Ot=#[]->
   Ø (ώ l.ϔ w) aje (.WP (.Z fa) ⟨[.Z a],[]⟩) (λr s'=>r=.ok (.b8 (.Ã true))/\OldK eg.P s'.P/\s'.os=eg.os/\sw s'.Ot) eg):
  WalkO q loose sF pL l.row.alC ϻ [] (λf d=>ϟ.WP f d):=by
 intro w cf eg mg lr ϳ ϭ fa o pm cd ST nf bH av hd e1 eP hmg bF args vals as yX RB afX BX HC;obtain rfl:nf=.none:=ϟ.W.Dflts.none eP uH;obtain rfl:bH=.none:=ϟ.W.Dflts.noKw eP;obtain⟨a,d,ns,rfl,rfl,Cr,hints,SB⟩:=Att.Qx aF yX BX;have af:∀i∈ns,zf i:=by
  have g:(ϟ.W.dL.layable (.ö (ns.ϒ ϟ.W.dL.M))&&true)=true:=RB
  rw[δ.anN]at g;have ah:(ϟ.W.dL.canLay (.ö (ns.ϒ ϟ.W.dL.M))&&decide (ϟ.W.dL.Ol (.ö (ns.ϒ ϟ.W.dL.M))<=64)&&decide (ϟ.W.dL.weight (.ö (ns.ϒ ϟ.W.dL.M))<=2^20))=true:=g
  rw[Ŵ]at ah;exact HB (ð ah.2)
 refine ϟ.W.enter_call (Wp (WP w cf eg mg lr fa o pm cd ST a d ns ϳ ϭ av (ϟ.W.fd_plain hd) e1 hmg Cr hints SB af bF) λr s' ao=>?_);obtain⟨rfl,ah,aI,bO⟩:=ao;exact⟨.ε ⟨.Ã true,.Ã true,[],rfl,λ_=>rfl,.Ã true,Att.Qz l _,λ_=>⟨Y.Id.ń,λ_ hm=>(nomatch hm)⟩⟩,ah,aI,bO⟩
def RC (cD:g7)(Ϻ:fq)(a4:dn)(϶:OH)(J:St)(H1:ag):Prop:=∃W:B->B->St->ag->Prop,(∃m,W 0 m J H1)/\∀i m J H,W i m J H->
 (cD.stop i H/\϶.aP J H)\/(cD.go i H/\∃ϰ:St->ag->Prop,(∀a7 U,ϰ a7 U->∃ba,ba<m/\W (i+1) ba a7 U)/\∀x U,cD.fR i H x U->Ϻ x J U λdm aC=>a4 { ϶ with aP:=ϰ,cb:=ϰ,bf:=϶.aP } dm aC)
theorem ahl {Ϻ:fq}:F5 g8 Ϻ a4 ϶ J H=g8 J H λcD H1=>RC cD Ϻ a4 ϶ J H1:=rfl
theorem zj {o:bb}(h:H p=none):a5 H (ſ H p o):=λb u e=>by rwa[aE (cF e h)]
theorem uI {o:bb}(h:a5 H H1)(ay:H p=none):a5 H (ſ H1 p o):=λb u e=>by rw[aE (cF e ay)];exact h b u e
theorem HE {i:G}(h0:0<=i)(g:i<cs.N):fH (cs.ϒ V.M) i=O (V.M (cs.œ i.Ο 0)):=by
 obtain⟨j,rfl⟩:=Ĺ h0;have bg:j<cs.N:=⋯
 refine gW ?_;simp[bg]
mutual
theorem HF:∀d:PyData,d.canLay0=true->PyData.eqv d d=true
 | .none,_=>rfl
 | .bool b,_=>by simp[PyData.eqv]
 | .int i,_=>by simp[PyData.eqv]
 | .str x,_=>by simp[PyData.eqv]
 | .list xs,h=>by
  have h':PyData.canLayAll0 xs=true:=h
  show PyData.eqvAll xs xs=true
  exact Cs xs h'
 | .tuple xs,h=>by
  have h':PyData.canLayAll0 xs=true:=h
  show PyData.eqvAll xs xs=true
  exact Cs xs h'
 | .dict _,h=>by cases h
theorem Cs:∀ds:List PyData,PyData.canLayAll0 ds=true->PyData.eqvAll ds ds=true
 | [],_=>rfl
 | d::r,h=>by
  have h':(PyData.canLay0 d&&PyData.canLayAll0 r)=true:=h
  rw[and_eq_true]at h';show(PyData.eqv d d&&PyData.eqvAll r r)=true
  rw[HF d h'.1,Cs r h'.2];rfl
end
end L2
namespace HT
open PySem PyProof.Rows
section
variable {prog:Program}{w:World}{A:Around}{E:wvP}{s:Shared}
theorem HG {α β:Type}{f:α->ϣ β}{Ϻ:α->β}:∀{l:Y α},(∀m∈l,f m=O (Ϻ m))->l.Ğ f=l.ϒ Ϻ
 | [],_=>rfl
 | a::r,h=>by
  rw[ĉ,h a ľ,Ŷ,HG λm hm=>h m (Η _ hm)]
theorem RD (F:μ ϫ):((Ć F.Ϥ).Ğ λ(m:B)=>F[(((F.Ϥ:G)-1)+(m:G)*(-1)).Ο]?).ϗ=F.Ω.Ĭ.ϗ:=by
 congr 1
 refine Y.akb λj=>?_;have e:∀m∈Ć F.Ϥ,F[(((F.Ϥ:G)-1)+(m:G)*(-1)).Ο]?=O (F.œ (F.Ϥ-1-m) .none):=λm hm=>by
  have mw:m<F.Ϥ:=ñ.mp hm
  have au:(((F.Ϥ:G)-1)+(m:G)*(-1)).Ο=F.Ϥ-1-m:=⋯
  rw[au];have:F.Ϥ-1-m<F.Ϥ:=⋯
  simp[μ.œ,ν]
 rw[HG (Ϻ:=λm=>F.œ (F.Ϥ-1-m) ϫ.none) e,Ϙ];by_cases bg:j<F.Ϥ
 ·rw[Y.s_ (by simpa using bg)];have:F.Ϥ-1-j<F.Ϥ:=⋯
  simp[bg,μ.œ,ν]
 ·rw[Y.K_ (by simpa using bg),Y.K_ (by simpa using bg)];rfl
theorem RE {t a0:Ϩ}{tk:OE}(bk:alr s.P t ž)(aH:s.P.aky a0 .none .none (.M (-1) tk))(h:Q (.Z s.P.Ϡ.Ϥ) { s with P:=s.P.Ũ { Ŝ:=.χ "tuple",Φ:=.XV ž.Ω.Ĭ.ϗ } })(Oz:ž.Ϥ<=ϓ):ϙ (ώ ϔ w) Ϲ (U4 (.Z t) (.Z a0)) Q ϵ s:=by
 obtain⟨os,pH,hT,Ct⟩:=id aH;have RF:s.Q_ (.Z a0) "slice":=⟨os,pH,hT⟩
 have Cu:sizeOk (.XV ž.Ω.Ĭ.ϗ):=by
  show ž.Ω.Ĭ.ϗ.Ϥ<=ϓ
  simpa using Oz
 unfold U4;try with_reducible refine Ν ?_
 first|refine ax (bp ?_)|skip
 refine ax (wpAny_sequenceKey bk.Ÿ ∅ ?_);refine ax (Ψ (name:=ϕ.ϝ "__getitem__") bk.Ÿ Ĥ.KK.Fa
  (Ż Ĥ.KK.Fa bk.Ÿ entry_tuple_getitem ?_ (args_tuple_getitem _ _)))
 show ϙ _ _ (π.w_.tupleItemsOf (.Z t)>>=_) _ _ s
 refine ax (tupleItemsOf_ bk ?_);refine ax (LT RF ?_);rw[aS ∅];refine ax ?_;unfold π.OB.sliceApplied π.OB.sliceFields;refine ax (ax (Ξ pH Ct (x:=.none) rfl (ax (Ξ pH Ct (x:=.none) rfl (ax (Ξ pH Ct (x:=.M (-1) tk) rfl (bp ?_)))))));refine ax (slicePart_int ?_);show ϙ _ _ (if ((-1:G)==0)=true then _ else _) _ _ s
 rw[aD ∅];refine ax (al2 (ax (al2 (ax (bp ?_)))));have a6:π.OB.sliceAdjust none none (-1) (ž.Ϥ:G)=((ž.Ϥ:G)-1,-1):=rfl
 show ϙ _ _ (match π.OB.sliceAdjust none none (-1) (ž.Ϥ:G) with|(lo,aA)=>Ă (lo,(-1:G),π.OB.akZ lo aA (-1))) _ _ s
 rw[a6];have cw:π.OB.akZ ((ž.Ϥ:G)-1) (-1) (-1)=ž.Ϥ:=by
  unfold π.OB.akZ;have g:¬((-1:G)>0):=⋯
  simp only[g,Ü];split
  ·simp
  ·omega
 refine bp ?_;rw[cw];show ϙ _ _ (if ((((ž.Ϥ:G)-1)==0&&(-1:G)==1&&ž.Ϥ==ž.Ϥ)=true) then _ else _) _ _ s
 rw[aD (by simp),RD];first
  | exact ax (m:=π.w_.aih _) (Š (bp ⟨_,rfl,bp h⟩) Cu)
  | exact ax (m:=π.w_.aih _) (Š (ax (bp (bp ⟨_,rfl,bp h⟩))) Cu)
  | exact ax (ax (m:=π.w_.aih _) (Š (bp (bp ⟨_,rfl,bp h⟩)) Cu))
end
end HT
namespace L2
open PySem PySem.Spec PyProof.Rows
section
variable {X:Cx}{pos:Pos}
def zrl (K:ş)(bT:TE):TE:=λJ H Q=>bT J H λx H1=>∃a F,x=.Z a/\bN K H1 a F/\∀p,H1 p=none->Q (.Z p) (ſ H1 p (.Ţ F.Ĭ))
theorem RG {dp fU lJ:Ox}{j}(he:PE X e bT):PE X (.M_ e (.OB none none (O (.aj1 .USub (.aiN (.M 1) j fU) lJ)) dp) ŷ) (zrl X.K bT):=by
 intro ϩ s J H Q I h;refine ajH (bA (he ϩ s J H _ I h) λv s1 ⟨x,H1,aK,bG,a3⟩=>?_);obtain⟨a,F,rfl,ai,q⟩:=a3;cases bG;refine wpAny_Slice ?_;rw[ajs];refine bp ?_;refine bp ?_;rw[amk];refine bA ((n0 n1 aV) ϩ s1 J H1 (λy U=>y=.M (-1)/\U=H1) aK ⟨_,rfl,rfl,rfl⟩) λd s2 ⟨y,aC,bt,bW,au,az⟩=>?_;subst au az;obtain⟨tk,rfl⟩:=bW;have hl:Υ X ϩ J aC { s2 with P:=s2.P.Ũ { Ŝ:=.χ "slice",Φ:=.Ž #[.none,.none,.M (-1) tk] } }:=bt.XL (t':=s2.Χ) λb ob q=>ϥ _ q
 obtain⟨aL,r,bk,hz⟩:=hl.B_ ai;have SB:aL.ϗ.Ϥ=F.N:=by rw[ζ];exact r.N.symm
 refine anL (T:="tuple") (ops:=[.Z a,.Z s2.P.Ϡ.Ϥ]) bk.Ÿ Ĥ.KK.Fa.Ϣ ?_ (by with_unfolding_all rfl);refine HT.RE bk (Θ.aky.OR ..) ?_ (by rwa[SB]);refine⟨.Z _,_,hl.HV (t':=s2.Χ) (o:=.Ţ F.Ĭ) (λb ob q=>ϥ _ q) (B.ϑ _) ?_,rfl,q _ (hl.a9.Ĳ (B.ϑ _))⟩;refine⟨by rwa[Ú],aL.Ĭ,?_,?_⟩
 ·exact r.Ĭ
 ·exact alr.OR _ _
end
theorem RH:∀{ys:Y ϕ}{us:Y ϫ},ś (ys.ϒ V.str) us->StrsAre us ys:=by
 intro ys;induction ys with
 | ń=>intro us r;rw[rc]at r;cases r;exact .ń
 | θ n ns bB=>
  intro us r;rw[Ŷ]at r;cases r with
  | θ bG bW=>
   obtain⟨t,e⟩:=bG;subst e;exact .θ n t (bB bW)
section
variable {X:Cx}
def rJoin (K:ş):V->Y V->ag->a8->Prop:=λx d H Q=>∃(sep:ϕ)(a:Ϩ)(ys:Y ϕ),x=.str sep/\d=[.Z a]/\aM K H a (ys.ϒ V.str)/\(ys.ϒ (·.N)).sum+ys.N*sep.N<=16777216/\Q (.str (Txt.join sep ys)) H
theorem Cv:um X "str.join" (rJoin X.K):=by
 intro ϩ s J H x d v us Q I bc ck h;obtain⟨sep,a,ys,rfl,rfl,ao,a9,q⟩:=h;obtain⟨t,rfl⟩:=bc;obtain⟨u,rfl,fh⟩:=ck.Pb;cases fh;obtain⟨aL,r,pl,hz⟩:=I.ö ao;exact join_list pl.Ń (RH (by simpa using r)) a9 λt' k=>⟨.str (Txt.join sep ys),H,I.bn _,⟨t',rfl⟩,q⟩
theorem HH {i:G}:∀(aL:Y ϫ)(k:B),(∀j v,aL[j]?=O v->∃t,v=ϫ.M (i+((k+j:B):G)) t)->ś ((range' k aL.N).ϒ λm=>V.M (i+(m:B))) aL
 | [],_,_=>.ń
 | v::r,k,h=>by
  obtain⟨t,rfl⟩:=h 0 v rfl;rw[ŵ,Y.ak0,Ŷ];refine .θ ⟨t,by rw[B.add_zero]⟩ (HH r (k+1) λj v e=>?_);obtain⟨t,az⟩:=h (j+1) v e;exact⟨t,by rw[az];congr 2;omega⟩
end
section
variable {X:Cx}{K:Frag}
theorem zg {f:ϕ}{bo:TE}(c9:X.K=K)(he:PE X e bo)(af:Å e f X.ό (ŗ e X.ό)=ŗ e X.ό):PE X (.ŝ e f ŷ) (Bw K bo f):=by
 subst c9;exact cq he af
theorem Cw (c9:X.K=K):su X (uo K):=by subst c9;exact eO
theorem q3 (c9:X.K=K):su X (ur K):=by subst c9;exact d2
theorem RI (c9:X.K=K)(bK:X.Ϲ.õ+64<ä):eo X (ų .Eq) (uF K false):=by subst c9;exact Hw bK
theorem RJ (c9:X.K=K):eo X (ų .In) (rIn K false):=by subst c9;exact ux
theorem HI (c9:X.K=K):ho X (.ο "len") (λF H Q=>∃p ys,F=[.Z p]/\(aM K H p ys\/bN K H p ys)/\Q (.M ys.N) H):=by subst c9;exact gM
end
theorem zh {F:Y V}{cs:St}(Pv:B->Y V->ag->Prop)(h0:Pv 0 [] H)(aw:∀i ys H,i<=F.N->Pv i ys H->aM K H a F)(aH:∀i x ys H,F[i]?=O x->Pv i ys H->tt (O x::cs) H λb bw=>if b=true then bT (O x::cs) bw λy cK=>ys.N<=ϓ/\Pv (i+1) (ys++[y]) cK else Pv (i+1) ys bw)(hd:∀ys H,Pv F.N ys H->ys.N<=ϓ/\ϴ ys H):
  ∃W:B->B->Y V->ag->Prop,(∃m,W 0 m [] H)/\mr (mc K a) (hN 0) tt bT (none::cs) W ϴ:=by
 refine⟨λi m ys U=>m=F.N-i/\i<=F.N/\Pv i ys U,⟨F.N,by simp,ł _,h0⟩,?_⟩;rintro i m ys U ⟨rfl,aA,p⟩;have q:=aw i ys U aA p
 have S:=UF q
 by_cases cJ:i<F.N
 ·refine .Œ ⟨S.go i cJ,λi0 dt=>Pv (i+1) i0 dt,λi0 dt eB=>⟨F.N-(i+1),⋯,rfl,cJ,eB⟩,λx dt y=>?_⟩;obtain⟨au,az⟩:=S.fR i x dt cJ y;subst au;refine⟨⟨rfl,λj v bg=>?_⟩,?_⟩
  ·cases j with
   | HW=>cases bg
   | o0 j=>exact bg
  ·exact aH i x ys dt az p
 ·have e:i=F.N:=⋯
  subst e;exact .ε ⟨S.stop,hd ys U p⟩
theorem RK {z:G}{F:Y G}:lD (V.M z) (F.ϒ V.M)=decide (z∈F):=by
 unfold lD;rw[δ.ë,ú,Μ];constructor
 ·rintro⟨y,aU,e⟩;obtain⟨x,ai,rfl⟩:=Ζ.mp aU;have:(x==z)=true:=e
  rwa[<- amN ν]
 ·intro h;exact⟨V.M z,Ζ.ļ ⟨z,h,rfl⟩,by show(z==z)=true;simp⟩
end L2
namespace L2
open PySem PyProof.Rows PySem.Calls
def RL (ϸ:Θ)(e:Ϩ)(Ŝ:ϫ)(dx:ϣ Ϩ)(aZ:ϫ)(h:Θ):Prop:=
 ∃(d:μ ϫ)(a0:μ (ϣ ϫ))(T:Ϩ)(jm:ğ)(ts:μ ϫ),h.ϛ e=O ⟨Ŝ,dx,.Ž d,a0⟩/\d[2]?=O ϫ.none/\d[1]?=O (.Z T)/\ϸ.ϛ T=none/\T≠e/\h.ϛ T=O jm/\jm.Φ=.Ž ts/\ts[3]?=O aZ
structure jn (ϸ:Θ)(l:Y OF)(e:Ϩ)(Ŝ:ϫ)(dx:ϣ Ϩ)(aZ:ϫ)(h:Θ):Prop where
 E:ϸ.ajf h
 OR:ϸ.ϛ e=none
 fr:h.ZB ϸ l
 Ó:RL ϸ e Ŝ dx aZ h
section
variable {M:Model}{A:Around}{E:wvP}{s:Shared}{B:Heap}{env:Env}{outer l:List Env}{L e:Addr}{cls:Value}{dx:Option Addr}{Q:Unit->Shared->Prop}
theorem HJ {head:ϫ}{RM:δ}(kM:Ϲ.ç=O (ό::Ϗ))(hf:ό.or=O ϲ)(E:ϸ.ajf s.P)(aF:ϸ.ϛ e=none)(fr:s.P.ZB ϸ (ό::Ϗ))(he:s.P.ϛ e=O ⟨Ŝ,dx,.Ž d,a0⟩)(ah:d[2]?=O ϫ.none)(k:∀h',jn ϸ (ό::Ϗ) e Ŝ dx (đ ϲ) h'->s.P.Do h'->Q () { s with P:=h' }):
  ϙ ϱ Ϲ (frameOf ό>>=λa=>entryPlaceOf ϲ RM>>=λpl=>EntryCells.newEntry head a .none (đ ϲ) .none pl>>=λb=>anO (.Z e) 1 b) Q ϵ s:=by
 have HK:2<d.Ϥ:=(μ.Ϧ.mp ah).1
 have RN:e ∉ (ό::Ϗ).Ğ (·.or):=λhm=>by
  obtain⟨_,o,av,RO⟩:=fr.OO hm;rw[he]at av;cases av;exact RO d rfl
 refine ax (wpAny_frameOf_fun kM fr hf λgp aH=>?_);refine ax (wpAny_entryPlaceOf λpl Tm=>?_);unfold EntryCells.newEntry newFields;refine ax (Š ?_ (Tm.sizeOk5 _ _ _ _ _));have au:gp.ϛ e=O ⟨Ŝ,dx,.Ž d,a0⟩:=(aH.2.1 e RN).Ϛ he
 have d3:ϸ.ajf gp:=λb o q=>(aH.2.1 b λhm=>by rw[(fr.OO hm).1]at q;cases q).Ϛ (E b o q)
 refine į (ϥ _ au) rfl (B.anM ∅ HK) (k _ ?_ ?_);all_goals have ne:gp.Ϡ.Ϥ≠e:=À (τ au)
 ·refine⟨λb o q=>?_,aF,fr.aj6 λb o q cB=>?_,⟨d.Ty 1 (.Z gp.Ϡ.Ϥ),a0,gp.Ϡ.Ϥ,_,_,?_,?_,?_,d3.Ĳ,ne,(ψ _ _ (Ne.symm ne)).Ϛ (σ gp rfl),rfl,?_⟩⟩
  ·rw[ψ _ _ (λz=>by rw[<- z,aF]at q;cases q)];exact ϥ _ (d3 b o q)
  ·obtain⟨kA,af⟩:=aH.2.2 b o q;refine⟨{ o with ē:=kA },?_,rfl⟩;rw[ψ _ _ (λz=>by rw[<- z,he]at q;cases q;exact cB d rfl)];exact ϥ _ af
  ·exact š _ (ϥ _ au) rfl
  ·rwa[μ.getElem?_setIfInBounds_ne ∅]
  ·simp[B.anM (show 1<2 by decide) HK]
  ·first|(simp;done)|(rcases Tm with rfl|⟨_,_,_,_,_,_,_,rfl⟩<;>simp)
 ·intro b o q cB;obtain⟨kA,af⟩:=aH.2.2 b o q;refine⟨kA,?_⟩;rw[ψ _ _ (λz=>by rw[<- z,he]at q;cases q;exact cB d rfl)];exact ϥ _ af
theorem RP  (kM:Ϲ.ç=O (ό::Ϗ))(hf:ό.or=O ϲ)(E:ϸ.ajf s.P)(aF:ϸ.ϛ e=none)(fr:s.P.ZB ϸ (ό::Ϗ))(he:s.P.ϛ e=O ⟨Ŝ,dx,.Ž d,a0⟩)(ah:d[2]?=O ϫ.none)(g:d[1]?=O ϫ.none)(k:∀h',jn ϸ (ό::Ϗ) e Ŝ dx (đ ϲ) h'->s.P.Do h'->Q () { s with P:=h' }):
  ϙ ϱ Ϲ (ahZ (.Z e) ό) Q ϵ s:=by
 unfold ahZ;simp only[hf];refine ax (Ξ he rfl g ?_);rw[aD ∅];exact HJ kM hf E aF fr he ah k
theorem HL (kM:Ϲ.ç=O (ό::Ϗ))(hf:ό.or=O ϲ)(f:jn ϸ (ό::Ϗ) e Ŝ dx .none s.P)(k:∀h',jn ϸ (ό::Ϗ) e Ŝ dx (đ ϲ) h'->s.P.Do h'->Q () { s with P:=h' }):
  ϙ ϱ Ϲ (ahZ (.Z e) ό) Q ϵ s:=by
 obtain⟨E,aF,fr,d,a0,T,jm,ts,he,ah,g,hU,ne,cP,bQ,t3⟩:=f;unfold ahZ;simp only[hf];refine ax (Ξ he rfl g ?_);rw[aS (by simp)];refine ax (Ξ cP bQ t3 ?_);rw[aD (by simp[đ])];refine ax (į cP bQ (μ.Ϧ.mp t3).1 ?_);have Κ:∀b o,b≠T->s.P.ϛ b=O o->(s.P.ý T (ğ.akz (·.Ty 3 ϫ.none))).ϛ b=O o:=λb o af z=>by
  rwa[ψ _ _ (Ne.symm af)]
 have uJ:∀b o,s.P.ϛ b=O o->(∀ws,o.Φ≠.Ž ws)->b≠T:=λb o q cB z=>by
  rw[z,cP]at q;cases q;exact cB ts bQ
 refine HJ (s:={ s with P:=_ }) kM hf (λb o q=>Κ b o (λz=>by rw[z,hU]at q;cases q) (E b o q)) aF (fr.aj6 λb o q cB=>⟨o,Κ b o (uJ b o q cB) q,rfl⟩) (Κ e _ (Ne.symm ne) he) ah λh' i3 u=>k h' i3 λb o q cB=>?_;exact u b o (Κ b o (uJ b o q cB) q) cB
theorem land {aZ:ϫ}(f:jn ϸ l e Ŝ dx aZ s.P)(k:∀h',jn ϸ l e Ŝ dx .none h'->s.P.Do h'->Q () { s with P:=h' }):ϙ ϱ Ϲ (akA (.Z e) none) Q ϵ s:=by
 obtain⟨E,aF,fr,d,a0,T,jm,ts,he,ah,g,hU,ne,cP,bQ,t3⟩:=f;unfold akA;refine ax (Ξ he rfl g ?_);rw[aS (by simp)];have fP:=(μ.Ϧ.mp t3).1
 have Κ:∀b o,b≠T->s.P.ϛ b=O o->(s.P.ý T (ğ.akz (·.Ty 3 ϫ.none))).ϛ b=O o:=λb o af z=>by
  rwa[ψ _ _ (Ne.symm af)]
 have uJ:∀b o,s.P.ϛ b=O o->(∀ws,o.Φ≠.Ž ws)->b≠T:=λb o q cB z=>by
  rw[z,cP]at q;cases q;exact cB ts bQ
 refine į cP bQ fP (k _ ⟨λb o q=>Κ b o (λz=>by rw[z,hU]at q;cases q) (E b o q),aF,fr.aj6 λb o q cB=>⟨o,Κ b o (uJ b o q cB) q,rfl⟩,d,a0,T,_,_,Κ e _ (Ne.symm ne) he,ah,g,hU,ne,š _ cP (ğ.ahF (ğ.O_ bQ _)),ğ.O_ bQ _,?_⟩ λb o q cB=>⟨o.ē,Κ b o (uJ b o q cB) q⟩);simp[fP]
theorem jn.OW {aZ:ϫ}{h:Θ}(f:jn ϸ (ό::Ϗ) e Ŝ dx aZ h):jn ϸ Ϗ e Ŝ dx aZ h:=⟨f.E,f.OR,f.fr.2.2,f.Ó⟩
theorem HM  (kM:Ϲ.ç=O (ό::Ϗ))(hf:ό.or=O ϲ)(E:ϸ.ajf s.P)(aF:ϸ.ϛ e=none)(fr:s.P.ZB ϸ (ό::Ϗ))(he:s.P.ϛ e=O ⟨Ŝ,dx,.Ž d,a0⟩)(ah:d[2]?=O ϫ.none)(g:d[1]?=O ϫ.none)(k:∀h',jn ϸ Ϗ e Ŝ dx .none h'->s.P.Do h'->Q () { s with P:=h' }):
  ϙ ϱ Ϲ (bi ό (.Z e)) Q ϵ s:=by
 unfold bi;exact ax (RP kM hf E aF fr he ah g λh' f u=>land f λah f2 kQ=>k ah f2.OW (u.Ϛ kQ))
theorem RQ (kM:Ϲ.ç=O (ό::Ϗ))(hf:ό.or=O ϲ)(f:jn ϸ (ό::Ϗ) e Ŝ dx .none s.P)(k:∀h',jn ϸ Ϗ e Ŝ dx .none h'->s.P.Do h'->Q () { s with P:=h' }):
  ϙ ϱ Ϲ (bi ό (.Z e)) Q ϵ s:=by
 unfold bi;exact ax (HL kM hf f λh' f u=>land f λah f2 kQ=>k ah f2.OW (u.Ϛ kQ))
end
end L2
namespace L2
open PySem PySem.Spec PyProof.Rows
theorem dG.O {h:Θ}{o:bb}(x:dG Ϯ w H h a o):∃u,h.ϛ a=O u:=by
 cases o with
 | Ť F=>obtain⟨_,_,_,_,e⟩:=x;exact⟨_,e⟩
 | Ţ F=>obtain⟨_,_,_,o,e,_⟩:=x;exact⟨_,e⟩
 | bL Ϝ=>obtain⟨_,_,_,_,o,_,_,e,_⟩:=x;exact⟨_,e⟩
 | bQ Ϝ=>obtain⟨_,_,_,_,o,_,_,e,_⟩:=x;exact⟨_,e⟩
 | mt S n=>obtain⟨o,_,_,_,e,_⟩:=x;exact⟨_,e⟩
 | Â Ϸ dx aJ=>obtain⟨_,_,_,e,_⟩:=x;exact⟨_,e⟩
 | HF y=>exact x
 | m5 aJ=>obtain⟨_,⟨_,_,_,e,_⟩,_⟩:=x;exact⟨_,e⟩
 | yr lo aA=>obtain⟨_,_,_,e⟩:=x;exact⟨_,e⟩
 | cW ob u=>obtain⟨e,_⟩:=x;exact⟨_,e⟩
 | f3 ps=>exact⟨_,x⟩
 | Hq f y=>exact⟨_,x⟩
 | ext nX=>obtain⟨_,e,_⟩:=x;exact e
structure Cy (aJ:Y Ϩ)(H U:ag)(h ϸ:Θ):Prop where
 ĭ:∀b o,h.ϛ b=O o->H b=none->b ∉ aJ->ϸ.ϛ b=O o
 Ź:∀b o,h.ϛ b=O o->H b=none->U b=none
 ĩ:∀b o,h.ϛ b=O o->b ∉ aJ->∃bR,ϸ.ϛ b=O bR
 dh:∀b F,H b=O (.Ţ F)->U b=O (.Ţ F)
 gG:∀b o u,H b=O (.cW o u)->U b=O (.cW o u)
 iv:∀b ps,H b=O (.f3 ps)->∃IT,U b=O (.f3 (ps++IT))
theorem Cy.un {aJ:Y Ϩ}{h ϸ aI:Θ}(u:Cy aJ H U h ϸ)(E:ϸ.ajf aI)(a0:∀b o,b∈aJ->h.ϛ b=O o->∃a0,aI.ϛ b=O { o with ē:=a0 }):f5 aJ [] H U h aI where
 ĭ:=λb o e n af _=>E _ _ (u.ĭ b o e n af)
 If:=λb o e n af _=>a0 b o af e
 Ź:=λb o e n _=>u.Ź b o e n
 ĩ:=λb o e _=>by
  by_cases af:b∈aJ
  ·obtain⟨_,z⟩:=a0 b o af e;exact⟨_,z⟩
  ·obtain⟨bR,z⟩:=u.ĩ b o e af;exact⟨bR,E _ _ z⟩
 dh:=u.dh
 gG:=u.gG
 iv:=u.iv
def ht (Ϯ:Č)(w:Þ):iz:=λϏ H s ϵ e s'=>
 ∃(a6:Ϩ)(Ŝ:ϫ)(dx:ϣ Ϩ)(U:ag)(ϸ:Θ),e=.Z a6/\s'.os=s.os/\sw s'.Ot/\jn ϸ Ϗ a6 Ŝ dx .none s'.P/\ek Ϯ w U ϸ/\Cy (eu Ϗ) H U s.P ϸ/\
  (∀b o,b∈eu Ϗ->s.P.ϛ b=O o->∃a0,s'.P.ϛ b=O { o with ē:=a0 })/\ϵ Ŝ dx U
abbrev kR:=St->bz
structure zi (X:Cx)(gg:kR):Prop where
 pass:∀(ϩ:Y (Ϩ×ğ))(J:St)(H:ag)(s:ϐ)(e:ϫ)(s':ϐ),Υ X ϩ J H s->ht X.ϔ X.w X.ą H s (gg J) e s'->X.c0 e s'
structure HN (X:Cx)(gg:kR):Prop extends zi X gg where
 anD:∀(ϩ:Y (Ϩ×ğ))(J:St)(H:ag)(s:ϐ)(h':Θ)(e:Ϩ)(Ŝ:ϫ)(args:Y ϫ),Υ X ϩ J H s->Θ.amO s.P h' e Ŝ args->gg J Ŝ none H->X.c0 (.Z e) { s with P:=h' }
section
variable {P:Program}{w:World}{K:Frag}{mg:Str->Option Value}{base:Heap}{N:List Str}{qual:Str}{scope:Scope}{f:Addr}{cd:Value}{A:Around}{outer:List Env}{cf:Shared}{dy:ag}{E:bz}
theorem HO {h:Θ}{l:Y Ϩ}(ok:ek Ϯ w H h)(fr:∀b∈l,H b=none):ek Ϯ w H (IP h l):=λa o e=>
 (ok a o e).gS (λb u af q=>m_ _ q λz=>by
  have n:=fr b z
  rcases af with rfl|af
  ·rw[n]at e;cases e
  ·rw[n]at af;cases af) (λ_ q=>q) λ_ _ q=>q
theorem mx:HN (hs (ht Ϯ w) Ϯ w K mg ϊ ϰ Ρ Ϟ f cd Ϲ Ϗ cf dy ϵ) (λ_=>ϵ) where
 anD:=λϩ J H s h' e Ŝ args I mk gd=>by
  have wE:(hs (ht Ϯ w) Ϯ w K mg ϊ ϰ Ρ Ϟ f cd Ϲ Ϗ cf dy ϵ).ą=ŋ Ρ Ϟ cf.P.Ϡ.Ϥ f cd::Ϗ:=rfl
  have uK:=I.yv
  have uL:=I.ą
  rw[wE]at uK uL;obtain⟨t,he,_,_⟩:=mk.ĩ;have aF:(IP s.P (eu (ŋ Ρ Ϟ cf.P.Ϡ.Ϥ f cd::Ϗ))).ϛ e=none:=by
   cases q:(IP s.P (eu (ŋ Ρ Ϟ cf.P.Ϡ.Ϥ f cd::Ϗ))).ϛ e with
   | none=>rfl
   | O o=>have:=ϟ.W.ajG _ q;rw[mk.OR]at ν;cases ν
  have Cz:s.P.ZB (IP s.P (eu (ŋ Ρ Ϟ cf.P.Ϡ.Ϥ f cd::Ϗ))) (ŋ Ρ Ϟ cf.P.Ϡ.Ϥ f cd::Ϗ):=
   ϟ.W.al3 uL λό he a aN=>Ŕ.ļ ⟨ό,he,aN⟩
  show ϙ (ώ Ϯ w) (Ϲ.Ê (ŋ Ρ Ϟ cf.P.Ϡ.Ϥ f cd)) (bi (ŋ Ρ Ϟ cf.P.Ϡ.Ϥ f cd) (.Z e)) _ _ _
  refine HM (s:={ s with P:=h' }) (ϸ:=IP s.P (eu (ŋ Ρ Ϟ cf.P.Ϡ.Ϥ f cd::Ϗ))) (ό:=ŋ Ρ Ϟ cf.P.Ϡ.Ϥ f cd) (Ϗ:=Ϗ) (ϲ:=cf.P.Ϡ.Ϥ) I.ok.ç rfl (λb o q=>mk.å b o (ϟ.W.ajG _ q)) aF (Cz.aj6 λb o q _=>⟨o,mk.å b o q,rfl⟩) he rfl rfl λah aZ up=>?_;have jo:∀b o,cf.P.ϛ b=O o->b ∉ eu Ϗ->b ∉ eu (ŋ Ρ Ϟ cf.P.Ϡ.Ϥ f cd::Ϗ):=λb o q n z=>by
   rcases ς.mp (show b∈cf.P.Ϡ.Ϥ::eu Ϗ from z) with z|z
   ·exact bJ (τ q) (by rw[z];exact B.ť _)
   ·exact n z
  refine⟨e,Ŝ,none,H,_,rfl,I.os,I.Rs,aZ,HO I.a9 uK,⟨λb o q n cB=>m_ _ (I.ϊ.ĭ b o q n cB (λz=>nomatch z)) (jo b o q cB),λb o q n=>I.ϊ.Ź b o q n (λz=>nomatch z),λb o q cB=>?_,I.ϊ.dh,I.ϊ.gG,I.ϊ.iv⟩,λb o af q=>?_,gd⟩
  ·obtain⟨bR,bC⟩:=I.ϊ.ĩ b o q (λz=>nomatch z);exact⟨bR,m_ _ bC (jo b o q cB)⟩
  ·obtain⟨_,bR,bC,cB⟩:=I.ok.hK.OO af;obtain rfl:o=bR:=ϣ.O.W1 ((show cf.P.ϛ b=O o from q).symm.Ϛ bC);obtain⟨a0,z⟩:=I.ϊ.If b o q (I.ok.kz b af) af (λz=>nomatch z);exact up b { o with ē:=a0 } (mk.å _ _ z) cB
 pass:=λϩ J H s e s' I z=>by
  obtain⟨a6,Ŝ,dx,U,ϸ,rfl,os,Rs,aZ,a9,u,CA,gd⟩:=z;have aZ:jn ϸ (ŋ Ρ Ϟ cf.P.Ϡ.Ϥ f cd::Ϗ) a6 Ŝ dx .none s'.P:=aZ
  show ϙ (ώ Ϯ w) (Ϲ.Ê (ŋ Ρ Ϟ cf.P.Ϡ.Ϥ f cd)) (bi (ŋ Ρ Ϟ cf.P.Ϡ.Ϥ f cd) (.Z a6)) _ _ _
  refine RQ (ϲ:=cf.P.Ϡ.Ϥ) I.ok.ç rfl aZ λah RS up=>?_;have jo:∀b o,cf.P.ϛ b=O o->b ∉ eu Ϗ->b ∉ eu (ŋ Ρ Ϟ cf.P.Ϡ.Ϥ f cd::Ϗ):=λb o q n z=>by
   rcases ς.mp (show b∈cf.P.Ϡ.Ϥ::eu Ϗ from z) with z|z
   ·exact bJ (τ q) (by rw[z];exact B.ť _)
   ·exact n z
  refine⟨a6,Ŝ,dx,U,ϸ,rfl,os.Ϛ I.os,Rs,RS,a9,⟨λb o q n cB=>u.ĭ b o (I.ϊ.ĭ b o q n cB (λz=>nomatch z)) (I.ϊ.Ź b o q n (λz=>nomatch z)) (jo b o q cB),λb o q n=>?_,λb o q cB=>?_,λb F q=>u.dh b F (I.ϊ.dh b F q),λb o x q=>u.gG b o x (I.ϊ.gG b o x q),λb ps q=>?_⟩,λb o af q=>?_,gd⟩
  ·obtain⟨bR,bC⟩:=I.ϊ.ĩ b o q (λz=>nomatch z);exact u.Ź b bR bC (I.ϊ.Ź b o q n (λz=>nomatch z))
  ·obtain⟨bR,bC⟩:=I.ϊ.ĩ b o q (λz=>nomatch z);exact u.ĩ b bR bC (jo b o q cB)
  ·obtain⟨dH,au⟩:=I.ϊ.iv b ps q;obtain⟨di,az⟩:=u.iv b _ au;exact⟨dH++di,by rw[az,μ.aij]⟩
  ·obtain⟨_,bR,bC,cB⟩:=I.ok.hK.OO af;obtain rfl:o=bR:=ϣ.O.W1 ((show cf.P.ϛ b=O o from q).symm.Ϛ bC);obtain⟨a0,z⟩:=I.ϊ.If b o q (I.ok.kz b af) af (λz=>nomatch z);obtain⟨o4,da⟩:=CA b _ (show b∈cf.P.Ϡ.Ϥ::eu Ϗ from Η _ af) z;exact up b { o with ē:=o4 } da cB
end
def HP (Ϸ:Ϩ)(m:ϕ)(sp:ep)(dY:Y V)(gg:kR)(bo:TE)(t:du):TE:=λJ H Q=>bo J H λx H1=>∃a dx aJ,x=.Z a/\H1 a=O (.Â Ϸ dx aJ)/\aJ.Ϣ m=none/\t J H1 λd aC=>sp (x::(d++dY)) aC Q (gg J)
section
variable {X:Cx}{k:Nat}{f C:Addr}{fd:FuncData}{ps:List Str}{sp:ep}{dY:List V}{ds:List Value}{gg:kR}{x m:Str}{p pos apos:Pos}{e o:Expr}{es:List Expr}{bo:TE}{t:du}
theorem RT {Q:a8}{d:Y V}(ϴ:ft X.ϔ X.w X.K X.mg X.ϊ (ht X.ϔ X.w) k f fd ps sp)(aO:dw k X.Ϲ)(af:ô X.K fd ps ds)(hd:ś dY ds)(ai:zi X gg)(I:Υ X ϩ J H s)(r:ś d us)(h:sp (d++dY) H Q (gg J)):ϙ (ώ X.ϔ X.w) X.Ϲ (WP (.Z f) us) (gs X ϩ J Q) X.c0 s:=by
 have bW:ś (d++dY) (us++ds):=r.I4 hd
 have aw:(us++ds).N=ps.N:=by rw[<- bW.N];exact ϴ.SC _ _ _ _ h
 refine v_ (Wp (ϴ.run X.Ϲ X.ą s H ⟨us,[]⟩ (us++ds) (d++dY) Q (gg J) aO I.uf (af s us I.en aw) bW h) λr s' ao=>?_);cases r with
 | OK e=>exact ai.pass ϩ J H s e s' I ao
 | ok aZ=>cases aZ with
  | b8 u=>exact I.amE ao
  | next=>exact ao.Ę
  | Pa=>exact ao.Ę
  | Ou=>exact ao.Ę
theorem q4 (he:PE X o bo)(c:fc X.K Ϸ)(hm:ŏ X.K Ϸ m f)(ϴ:ft X.ϔ X.w X.K X.mg X.ϊ (ht X.ϔ X.w) k f fd ps sp)(aO:dw k X.Ϲ)(af:ô X.K fd ps ds)(hd:ś dY ds)(ai:zi X gg)(aN:PA X (e::C) t)(wE:Ϫ (ω (e::C) X.ό=(false,ŗ e X.ό)::ω C X.ό) dA._auto_1)(Tm:Ϫ ((ĕ ŷ (ω C X.ό)).J_ (·.1)=false) dA._auto_1)(bk:Ϫ (ŗ (.č (.ŝ o m Re) (e::C) [] ŷ) X.ό=(ŗ o X.ό>>=λdT=>ss Re.akt>>=λ_=>Î [dT] (Ev dT m pl)>>=λr=>ol ŷ r.1 r.2 (ĕ ŷ (ω (e::C) X.ό)) (UV ŷ (Ą [] X.ό)))) dA._auto_1):
  PE X (.č (.ŝ o m Re) (e::C) [] ŷ) (HP Ϸ m sp dY gg bo t):=by
 intro ϩ s J H Q I h;refine q_ (pl:=pl) (bA (he ϩ s J H _ I h) λu s1 bj=>IS λeZ uq=>?_) bk;obtain⟨x,H1,aK,bc,a,dx,aJ,ex,a6,l,q⟩:=bj;refine uq ?_;subst ex;cases (show u=ϫ.Z a from bc);refine ud aK a6 c hm l ?_;exact ahm (first:=[.Z a]) (h₀:=X.ϊ) I.ok.Om.jf hm.dU (bA (aN ŷ ϩ s1 J H1 _ aK q) λus s2 ⟨d,aC,bt,r,b9⟩=>⟨bt.en,RT (us:=.Z a::us) (d:=.Z a::d) ϴ aO af hd ai bt (.θ rfl r) b9⟩) wE Tm
theorem RU {Ϸ:Ϩ}{cd:ClassData}(e:OD K Ϸ=O cd):∃c ϻ a0,K.Ϣ Ϸ=O ⟨c,ϻ,.Ŝ cd,a0⟩:=by
 unfold OD at e;cases h:K.Ϣ Ϸ with
 | none=>rw[h]at e;cases e
 | O o=>
  rw[h]at e;obtain⟨c,ϻ,CB,a0⟩:=o;cases CB with
  | Ŝ x=>cases e;exact⟨_,_,_,rfl⟩
  | _=>cases e
theorem RV {a0:μ α}{x:α}(h:a0.Ϥ=6)(e:a0[4]?=O x):∃k0 k1 k2 k3 k5,a0=#[k0,k1,k2,k3,x,k5]:=by
 obtain⟨l⟩:=a0;rcases l with _|⟨k0,_|⟨k1,_|⟨k2,_|⟨k3,_|⟨pM,_|⟨k5,_|⟨_,_⟩⟩⟩⟩⟩⟩⟩<;>cases h
 cases e;exact⟨_,_,_,_,_,rfl⟩
abbrev sG:Y ϫ:=[.χ "ValueError",.χ "Exception",.χ "BaseException",.χ "object"]
def CC (K:ş)(Ϸ:Ϩ)(i:ϣ ϫ):δ:=(K.Ϣ Ϸ).J_ (λo=>o.Ŝ==.χ "type" && o.ē.Ϥ==6&&o.ē[4]?==O (O (.ο "ValueError.__new__"))) &&
 (OD K Ϸ).J_ λcd=>cd.Pc.head?==O (.Z Ϸ)&&!cd.hasDel&&ϟ.W.tailIn K sG cd.Pc.OW&&ϟ.W.nsOkIn K cd.ns&&nsIn K cd.ns "__init__" == O i
theorem HQ {Ϸ:Ϩ}{i:ϣ ϫ}(q:CC K Ϸ i=true):∃(dd:ϣ Ϩ)(cd:ClassData)(k0 k1 k2 k3 k5:ϣ ϫ),K.Ϣ Ϸ=O ⟨.χ "type",dd,.Ŝ { cd with Pc:=.Z Ϸ::cd.Pc.OW,hasDel:=false },#[k0,k1,k2,k3,O (.ο "ValueError.__new__"),k5]⟩/\
  ϟ.W.tailIn K sG cd.Pc.OW=true/\ϟ.W.nsOkIn K cd.ns=true/\nsIn K cd.ns "__init__"=O i:=by
 obtain⟨a3,b9⟩:=δ.and_eq_true_iff.mp q;obtain⟨o,av,a3⟩:=(ϣ.ú _ _).mp a3;obtain⟨cd,ak,b9⟩:=(ϣ.ú _ _).mp b9;simp only[Ŵ,Ā,ab_]at a3 b9;obtain⟨⟨au,az⟩,bY⟩:=a3;obtain⟨⟨⟨⟨m,ϻ⟩,t⟩,n⟩,j⟩:=b9;obtain⟨c,dd,a0,aw⟩:=RU ak;cases av.symm.Ϛ aw;obtain⟨k0,k1,k2,k3,k5,rfl⟩:=RV az bY;refine⟨dd,cd,k0,k1,k2,k3,k5,?_,t,n,j⟩;cases au;obtain⟨nm,bs,Pc,ns,pg,afY,sn,Pd,ab,col,del⟩:=cd;cases Pc with
 | ń=>cases m
 | θ a r=>cases m;cases ϻ;exact aw
structure sH (K:ş)(Ϸ:Ϩ):Prop where
 ex:CC K Ϸ none=true
def CD (gg:kR)(Ϸ:Ϩ)(t:du):dn:=λ϶ J H=>t J H λd H1=>d.N<=ϓ/\gg J (.Z Ϸ) none H1
set_option tactic.hygienic true in
theorem sI {np d7:Ox}(ai:HN X gg)(ak:X.R_=true)(bF:fb X x)(hm:X.mg x=O (.Z Ϸ))(er:sH X.K Ϸ)(aN:PA X (e::C) t)(Oo:Ϫ ((x==("__debug__":ϕ))=false) dB._auto_1)(he:Ϫ (ω (e::C) X.ό=(false,ŗ e X.ό)::ω C X.ό) dA._auto_1)(Tm:Ϫ ((ĕ d7 (ω C X.ό)).J_ (·.1)=false) dA._auto_1):
  PS X (.Raise (O (.č (.ĸ x np) (e::C) [] d7)) none ŷ) (CD gg Ϸ t):=by
 intro ϩ s J H ϶ I h;obtain⟨dd,cd,k0,k1,k2,k3,k5,av,bk,a9,CE⟩:=HQ er.ex;have T:=ϟ.W.tail_of_in I.ok.Om.jf bk
 refine wpAny_Raise_call_subT (Ϸ:=Ϸ) (nm:=cd.name) (q:=cd.qualname) (ϰ:=cd.ns) (bs:=cd.bases) (bm:=cd.Pc.OW) (hdct:=cd.aj2) (sn:=cd.slotNames) (Pd:=cd.subclasses) (ab:=cd.abstract) (col:=cd.collection) (dd:=dd) (k0:=k0) (k1:=k1) (k2:=k2) (k3:=k3) (k5:=k5) ϟ.ϴ.E_ (mN:=X.ϊ.nsMap cd.ns)
  (T.hasType ϟ.ϴ.E_.hasBase) (I.ok.hd ak) (by rw[he];show(false||(ĕ d7 (ω C X.ό)).J_ (·.1))=false;rw[Tm];rfl) (ϟ.W.nsMap_none_of_in I.ok.Om.jf a9 CE) (pb I bF hm ⟨rfl,?_⟩ Oo)
 rw[he];have ay:=aN d7 ϩ s J H _ I h
 rw[he]at ay;refine ê.AT (ů ay (λus s1 z=>?_) λ_ _ z=>z);obtain⟨d,H1,aK,ck,hz,hw⟩:=z;refine⟨rfl,by rwa[<- ck.N],aK.en _ _ av,(Θ.Ns.of_isNs (ϟ.W.alR I.ok.Om.jf a9)).å aK.bf,T.å aK.bf,λh' a6 mk=>ai.anD ϩ J H1 s1 h' a6 _ _ aK mk hw⟩
end
structure CF (Ϸ:Ϩ)(dx:ϣ Ϩ)(ob:ğ):Prop where
 ex:∃(d:μ ϫ)(a0:μ (ϣ ϫ)),ob=⟨.Z Ϸ,dx,.Ž d,a0⟩/\d[2]?=O ϫ.none
def od (X:Cx)(ϩ:Y (Ϩ×ğ))(ϵ:Bh):Cx:={ X with ez:=X.ez++ϩ,c0:=ϵ }
def nk (X:Cx)(ϩ:Y (Ϩ×ğ))(a6:Ϩ)(ob:ğ):Cx:={ X with Ϲ:=X.Ϲ.mark (O (.Z a6)),R_:=false,ez:=X.ez++ϩ++[(a6,ob)],c0:=λ_ _=>Ō }
section
variable {X:Cx}{pins pa:List (Addr×Obj)}{J:St}{H:ag}{s:Shared}{E:wvP}{a6:Addr}{ob:Obj}
theorem RW (ok:X.Ok):(od X ϩ ϵ).Ok:=⟨ok.Om,ok.î,ok.OG,ok.blt,ok.IL,ok.W1,ok.has,ok.o6,ok.hd,ok.ç,ok.r8,ok.yt,ok.bs,ok.ky,ok.qC,ok.r9,ok.hK,ok.kz⟩
theorem RX (ok:X.Ok):(nk X ϩ a6 ob).Ok:=⟨ok.Om,ok.î,ok.OG,ok.blt,ok.IL,ok.W1,ok.has,ok.o6,(λz=>nomatch z),ok.ç,ok.r8,ok.yt,ok.bs,ok.ky,ok.qC,ok.r9,ok.hK,ok.kz⟩
theorem RY (I:Υ X ϩ J H s):Υ (od X ϩ ϵ) [] J H s:=⟨RW I.ok,I.os,I.Rs,I.ϊ,I.Bi,I.φ,I.Ź,I.iw,λp ay=>I.ON p (by simpa [od] using ay),I.a9,I.SC⟩
theorem uM (ok:X.Ok)(I:Υ (od X ϩ ϵ) pa J H s):Υ X ϩ J H s:=⟨ok,I.os,I.Rs,I.ϊ,I.Bi,I.φ,I.Ź,I.iw,λp ay=>I.ON p (ŭ _ ay),I.a9,I.SC⟩
theorem RZ (I:Υ X ϩ J H s)(he:s.P.ϛ a6=O ob)(aF:H a6=none)(aw:a6≠X.ό.í)(hf:a6 ∉ X.aJ)(ak:∀v,ob.Φ≠.φ v):Υ (nk X ϩ a6 ob) [] J H s:=
 ⟨RX I.ok,I.os,I.Rs,I.ϊ,I.Bi,I.φ,I.Ź,I.iw,λp ay=>by
  have ay:p∈X.ez++ϩ++[(a6,ob)]:=by simpa [nk] using ay
  rcases κ.mp ay with z|z
  ·exact I.ON p z
  ·cases ϖ.mp z;exact⟨he,aF,aw,hf,ak⟩,I.a9,I.SC⟩
theorem zk (ok:X.Ok)(I:Υ (nk X ϩ a6 ob) pa J H s):Υ X ϩ J H s:=⟨ok,I.os,I.Rs,I.ϊ,I.Bi,I.φ,I.Ź,I.iw,λp ay=>I.ON p (ŭ _ (ŭ _ ay)),I.a9,I.SC⟩
theorem iS.R0 {f:Flow}(ok:X.Ok)(h:iS (od X ϩ ϵ) [] ϶ f s):iS X ϩ ϶ f s:=by
 cases f with
 | next=>obtain⟨a7,U,I,q⟩:=h;exact⟨a7,U,uM ok I,q⟩
 | Pa=>obtain⟨a7,U,I,q⟩:=h;exact⟨a7,U,uM ok I,q⟩
 | Ou=>obtain⟨a7,U,I,q⟩:=h;exact⟨a7,U,uM ok I,q⟩
 | b8 u=>obtain⟨v,a7,U,I,r,q⟩:=h;exact⟨v,a7,U,uM ok I,r,q⟩
theorem iS.R1 {f:Flow}(ok:X.Ok)(h:iS (nk X ϩ a6 ob) [] ϶ f s):iS X ϩ ϶ f s:=by
 cases f with
 | next=>obtain⟨a7,U,I,q⟩:=h;exact⟨a7,U,zk ok I,q⟩
 | Pa=>obtain⟨a7,U,I,q⟩:=h;exact⟨a7,U,zk ok I,q⟩
 | Ou=>obtain⟨a7,U,I,q⟩:=h;exact⟨a7,U,zk ok I,q⟩
 | b8 u=>obtain⟨v,a7,U,I,r,q⟩:=h;exact⟨v,a7,U,zk ok I,r,q⟩
end
def CG (K:ş)(Ϸ:Ϩ)(a4:kR->dn)(iZ:Ϩ->Ϩ->ϣ Ϩ->dn):dn:=λ϶ J H=>
 ∃lK:kR,a4 lK ϶ J H/\∀a7 Ŝ dx U,lK a7 Ŝ dx U->∃fA,Ŝ=.Z fA/\I5 K (.Z fA) (.Z Ϸ)=O true/\∀a6,U a6=none->iZ a6 fA dx ϶ a7 U
section
variable {X:Cx}{x n:Str}{C:Addr}{body:List Stmt}{uN:Stmt}{uO:List Stmt}{np pos q5:Pos}{a4:kR->dn}{iZ:Addr->Addr->Option Addr->dn}
theorem R2 {h:Θ}{o:ğ}(e:h.ϛ a=O o):ϟ.W.Looks ϱ h (an0 (.Z a)) o.Ŝ:=(ϟ.W.Looks.ld e).andThen .now
def Behind (X:Cx)(nm:ϣ ϕ)(q5:Ox)(Q:Flow->ϐ->Prop)(r:anZ)(s:ϐ):Prop:=match r with
 | .ok f=>(match nm with
  | none=>Q f s
  | O n=>ϙ (ώ X.ϔ X.w) X.Ϲ (do bindName X.ό n .none;unbindBehindTheSuite X.ό n q5) (λ_ jN=>Q f jN) X.c0 s)
 | .OK x=>cameBackBy (ώ X.ϔ X.w) X.Ϲ X.ό X.c0 x s
theorem R3 {pa:Y (Ϩ×ğ)}{e:ϫ}{lK:bz}{nm:ϣ ϕ}{Q:Flow->ϐ->Prop}{uP:Bh}{ϲ:Ϩ}(wE:X.ą=X.ό::Ϗ)(hf:X.ό.or=O ϲ)(bF:fb X x)(hm:X.mg x=O (.Z Ϸ))(Oo:(x==("__debug__":ϕ))=false)(ok:X.Ok)(I:Υ (od X ϩ uP) pa J H s)(z:ht X.ϔ X.w X.ą H s lK e s')(Cd:∀Ŝ dx U,lK Ŝ dx U->∃fA,Ŝ=.Z fA/\I5 X.K (.Z fA) (.Z Ϸ)=O true)(k:∀(a6 fA:Ϩ)(dx:ϣ Ϩ)(U:ag)(s5:ϐ),e=.Z a6->lK (.Z fA) dx U->U a6=none->(∀(ϱ:Model)(Ϲ:ŕ)(ϵ:Bh)(Q:O7->ϐ->Prop),(∀ob f7,CF fA dx ob->Υ (nk X ϩ a6 ob) [] J U f7->Q () f7)->ϙ ϱ Ϲ (akA (.Z a6) none) Q ϵ s5)->
   Ø (ώ X.ϔ X.w) (X.Ϲ.mark (O (.Z a6))) (.handlers (.Z a6) [.ajw none nm (uN::uO) q5] X.ό) (Behind X nm q5 Q) s5):
  ϙ (ώ X.ϔ X.w) X.Ϲ (ahZ e X.ό) (λ_ iV=>ϙ (ώ X.ϔ X.w) X.Ϲ (akA e none) (λ_ jN=>ϙ (ώ X.ϔ X.w) X.Ϲ (handleBy e X.ό [.ajw (O (.ĸ x np)) nm (uN::uO) q5]) Q X.c0 jN) X.c0 iV) X.c0 s':=by
 obtain⟨a6,Ŝ,dx,U,ϸ,rfl,os,Rs,aZ,a9,u,CA,gd⟩:=z;obtain⟨fA,rfl,R4⟩:=Cd Ŝ dx U gd;have aZ:jn ϸ (X.ό::Ϗ) a6 (.Z fA) dx .none s'.P:=by rwa[<- wE]
 have cD:∀{aI:Θ}{t3:B},ϸ.ajf aI->s'.P.Do aI->Υ X ϩ J U { s' with P:=aI,Χ:=t3 }:=λ{aI t3} E up=>by
  refine uM ok (Υ.FY I (s':={ s' with P:=aI,Χ:=t3 }) os (u.un E λb o af q=>?_) (a9.XL E) Rs (λb z=>nomatch z));obtain⟨_,bR,bC,cB⟩:=I.ą.OO af;rw[q]at bC;cases bC;obtain⟨a0,b9⟩:=CA b o af q;exact up b { o with ē:=a0 } b9 cB
 have aF:U a6=none:=by
  cases q:U a6 with
  | none=>rfl
  | O o=>obtain⟨_,z⟩:=(a9 a6 o q).O;rw[aZ.OR]at z;cases z
 refine HL (by rw[ok.ç,wE]) hf aZ λbO R5 R6=>?_;refine land (s:={ s' with P:=bO }) R5 λd1 CH R7=>?_;have d_:∀{gY:Θ}{pN:B},jn ϸ (X.ό::Ϗ) a6 (.Z fA) dx .none gY->d1.Do gY->∃ob,CF fA dx ob/\Υ (nk X ϩ a6 ob) [] J U { s' with P:=gY,Χ:=pN }:=λ{gY pN} zl CI=>by
  have me:=cD (t3:=pN) zl.E ((R6.Ϛ R7).Ϛ CI)
  obtain⟨d,a0,T,jm,ts,he,ah,g,_⟩:=zl.Ó;refine⟨_,⟨d,a0,rfl,ah⟩,RZ me he aF (λz=>?_) (λz=>?_) (λv z=>by cases z)⟩
  ·obtain⟨m,⟨o,C,cw,av,hd,_⟩,_⟩:=me.Bi;rw[<- z]at av;have av:=(show gY.ϛ a6=O o from av)
   rw[he]at av;cases av;cases hd
  ·obtain⟨_,o,av,cB⟩:=me.hK.OO z;have av:=(show gY.ϛ a6=O o from av)
   rw[he]at av;cases av;exact cB _ rfl
 refine wpAny_handleBy_cons (codeAny_handlers_test ?_) (by intro q;cases q);obtain⟨zm,_,md⟩:=d_ (pN:=s'.Χ) CH (Θ.Do.Ô _);refine pb (X:=nk X ϩ a6 zm) md bF hm ?_ Oo;obtain⟨d,a0,T,jm,ts,he,_⟩:=id CH.Ó;refine(ϟ.W.exm_one md.en (R2 he) R4).here ?_;refine k a6 fA dx U _ rfl gd aF λϱ Ϲ ϵ Q q=>land (s:={ s' with P:=d1 }) CH λgY zl CI=>?_;obtain⟨zo,uQ,me⟩:=d_ (pN:=s'.Χ) zl CI;exact q zo _ uQ me
theorem R8 {ϲ:Ϩ}(wE:X.ą=X.ό::Ϗ)(hf:X.ό.or=O ϲ)(bF:fb X x)(hm:X.mg x=O (.Z Ϸ))(Oo:(x==("__debug__":ϕ))=false)(af:∀ϩ uP lK,zi (od X ϩ uP) lK->Bf (od X ϩ uP) p_ (a4 lK))(bj:∀ϩ a6 fA dx ob,CF fA dx ob->Bf (nk X ϩ a6 ob) (uN::uO) (iZ a6 fA dx)):
  PS X (.Try p_ [.ajw (O (.ĸ x np)) none (uN::uO) q5] [] [] ŷ) (CG X.K Ϸ a4 iZ):=by
 intro ϩ s J H ϶ I h;obtain⟨lK,g,ah⟩:=h;refine wpAny_Try_except (bA (af ϩ _ lK ⟨λpa a7 U s1 e s2 eU z=>?_⟩ [] s J H ϶ (RY I) g) λf s1 q=>?_)
 ·refine R3 wE hf bF hm Oo I.ok eU z (λŜ dx U w=>let⟨fA,au,az,_⟩:=ah a7 Ŝ dx U w;⟨fA,au,az⟩) λa6 fA dx aC s5 iC w aF land=>?_;obtain⟨afZ,au,az,aI⟩:=ah a7 _ dx aC w;cases au;refine codeAny_handlers_suite (amo (land _ _ _ _ λob f7 mk me=>amo ?_));exact ů (bj ϩ a6 fA dx ob mk [] f7 a7 aC ϶ me (aI a6 aF)) (λf gv nc=>iS.R1 I.ok nc) λ_ _ z=>z
 ·have q:=iS.R0 I.ok q
  cases f with
  | next=>exact GE q
  | Pa=>exact q
  | Ou=>exact q
  | b8 u=>exact q
end
def R9 (Ϯ:Č)(w:Þ)(K:ş)(mg:ϕ->ϣ ϫ)(ϊ:Θ)(ϰ:Y ϕ)(Ρ:ϕ)(Ϟ:IK)(f:Ϩ)(cd:ϫ)(Ϲ:ŕ)(Ϗ:Y OF)(s:ϐ)(H:ag)(a6:Ϩ)(ob:ğ):Cx:=
 { hs bx Ϯ w K mg ϊ ϰ Ρ Ϟ f cd Ϲ Ϗ s H hc with R_:=false,ez:=[(a6,ob)],c0:=λ_ _=>Ō }
section
variable {P:Program}{w:World}{K:Frag}{mg:Str->Option Value}{base:Heap}{x qual:Str}{st:Stmt}{f:Addr}{fd:FuncData}{N ps:List Str}{k:Nat}{sp:ep}
theorem kG.oe (ϴ:kG K x Ρ E f fd)(S:n2 ϰ ps (bV E))(SC:∀d H Q ϵ,sp d H Q ϵ->d.N=ps.N)(jP:∀(Ë:ϫ) (Ϲ:ŕ) (Ϗ:Y OF) (s:ϐ) (H:ag) (d:Y V) (Q:a8) (ϵ:bz),dw k (Ϲ.Ê (ŋ Ρ (bV E) s.P.Ϡ.Ϥ f Ë))->sp d H Q ϵ->
   ∃t,Bf (hs (ht Ϯ w) Ϯ w K mg ϊ ϰ Ρ (bV E) f Ë Ϲ Ϗ s H ϵ) (fI E) t/\t { aP:=λ_ U=>Q .br U,iR:=Q } (ã ϰ d) H):ft Ϯ w K mg ϊ (ht Ϯ w) (k+1) f fd ps sp:=by
 obtain⟨dI,cO,bH,ST,pm,an,Ë,cb,eX,rfl,lk,e1⟩:=ϴ.ex;exact uj lk e1 S SC λϹ Ϗ s H d Q ϵ aO fS=>jP Ë Ϲ Ϗ s H d Q ϵ aO fS
end
theorem ahu {a6:Ϩ}:(R9 Ϯ w K mg ϊ ϰ Ρ Ϟ f cd Ϲ Ϗ s H a6 ob).K=K:=rfl
theorem ahv {a6:Ϩ}:(nk X ϩ a6 ob).K=X.K:=rfl
theorem ahw:(od X ϩ ϵ).K=X.K:=rfl
section
variable {X:Cx}{k:Nat}{f C:Addr}{fd:FuncData}{ps:List Str}{sp:ep}{a6:Addr}{ob:Obj}{x m:Str}{p pos apos:Pos}{e o:Expr}{es:List Expr}{bo:TE}{t:du}
end
end L2
namespace L2
open PySem PySem.Spec PyProof.Rows PySem.W
section
variable {prog:Program}{w:World}{A:Around}{E:wvP}{s:Shared}{K:Frag}{x D:Addr}{af0:Obj}{cO:Option Obj}{name:Str}
end
def uR:V->ϣ ϫ
 | .Z a=>O (.Z a)
 | .ty n=>O (.χ n)
 | _=>none
theorem Sa {c:V}{v:ϫ}(h:uR c=O v)(r:ţ c u):u=v:=by
 cases c<;>simp only[uR]at h<;>cases h<;>exact r
section
variable {X:Cx}{a6 C:Addr}{dx:Option Addr}{ob:Obj}
theorem Sb:ho X (.ο "isinstance") (λF H Q=>∃x c v t b,F=[x,c]/\uR c=O v/\hr X.K H x t/\IV X.K t v=O b/\Q (.bl b) H):=by
 intro ϩ s J H F us Q I r h;obtain⟨x,c,v,t,b,rfl,aG,ty,e,q⟩:=h;obtain⟨kg,kQ,rfl,bG,bW⟩:=vals2 r;cases Sa aG bW;exact Gp I bG ty e λtk=>⟨.bl b,H,I.bn _,rfl,q⟩
end
end L2
variable {tab:List (PySem.Addr×L2.ep)}
namespace L2
open PySem PySem.Spec PyProof.Rows PySem.Builtin PySem.Builtin.Str PySem.Builtin.Int
structure lL (K:ş)(x Ρ:ϕ)(E:Τ)(f:Ϩ)(fd:Ix)(ž:μ ϫ):Prop where
 ex:∃(dI:ϫ)(cO:ϣ Ϩ)(bH ST pm:ϫ)(an:ϣ Ϩ)(Ë cb:ϫ)(eX:μ (ϣ ϫ))(T:Ϩ)(jm:ğ)(n:B),
  fd=I0 x Ρ (hQ E) (fI E) (bV E) (.Z T) bH ST pm an Ë cb/\K.Ϣ f=O ⟨dI,cO,.OQ fd,eX⟩/\IW K Ë Ρ=true/\K.Ϣ T=O jm/\jm.Φ=.XV ž n
 dU:Tk K (.Z f)=true
section
variable {P:Program}{w:World}{K:Frag}{mg:Str->Option Value}{base:Heap}{x qual:Str}{st:Stmt}{f:Addr}{fd:FuncData}{items:Array Value}{N ps:List Str}{k:Nat}{sp:ep}
theorem lL.oe (ϴ:lL K x Ρ E f fd ž)(S:n2 ϰ ps (bV E))(SC:∀d H Q ϵ,sp d H Q ϵ->d.N=ps.N)(jP:∀(Ë:ϫ) (Ϲ:ŕ) (Ϗ:Y OF) (s:ϐ) (H:ag) (d:Y V) (Q:a8) (ϵ:bz),dw k (Ϲ.Ê (ŋ Ρ (bV E) s.P.Ϡ.Ϥ f Ë))->sp d H Q ϵ->
   ∃t,Bf (hs (ht Ϯ w) Ϯ w K mg ϊ ϰ Ρ (bV E) f Ë Ϲ Ϗ s H ϵ) (fI E) t/\t { aP:=λ_ U=>Q .br U,iR:=Q } (ã ϰ d) H):ft Ϯ w K mg ϊ (ht Ϯ w) (k+1) f fd ps sp:=by
 obtain⟨dI,cO,bH,ST,pm,an,Ë,cb,eX,T,jm,n,rfl,lk,e1,_⟩:=ϴ.ex;exact uj lk e1 S SC λϹ Ϗ s H d Q ϵ aO fS=>jP Ë Ϲ Ϗ s H d Q ϵ aO fS
theorem lL.ok (ϴ:lL K x Ρ E f fd ž)(S:n2 ϰ ps (bV E))(SC:∀d H Q ϵ,sp d H Q ϵ->d.N=ps.N)(jP:∀(Ë:ϫ) (Ϲ:ŕ) (Ϗ:Y OF) (s:ϐ) (H:ag) (d:Y V) (Q:a8) (ϵ:bz),dw k (Ϲ.Ê (ŋ Ρ (bV E) s.P.Ϡ.Ϥ f Ë))->sp d H Q ϵ->
   ∃t,Bf (hs bx Ϯ w K mg ϊ ϰ Ρ (bV E) f Ë Ϲ Ϗ s H ϵ).nox (fI E) t/\t { aP:=λ_ U=>Q .br U,iR:=Q } (ã ϰ d) H):ft Ϯ w K mg ϊ bx (k+1) f fd ps sp:=by
 obtain⟨dI,cO,bH,ST,pm,an,Ë,cb,eX,T,jm,n,rfl,lk,e1,_⟩:=ϴ.ex;refine uj lk e1 S SC λϹ Ϗ s H d Q ϵ aO fS=>?_;obtain⟨t,h,q⟩:=jP Ë Ϲ Ϗ s H d Q ϵ aO fS;exact⟨t,h.nox,q⟩
theorem lL.zv {ds:Y ϫ}(ϴ:lL K x Ρ E f fd ž)(h:∀(T:Ϩ)(bH ST pm:ϫ)(an:ϣ Ϩ)(Ë cb:ϫ)(us:Y ϫ),(us++ds).N=ps.N->∃k:ϣ (μ ϫ)->Sem (Y (ϕ×ϫ)),
   Ho (I0 x Ρ (hQ E) (fI E) (bV E) (.Z T) bH ST pm an Ë cb) ⟨us,[]⟩=(ć (.Z T)>>=k)/\k (O ž)=Ă (ps.OU (us++ds))):ô K fd ps ds:=by
 obtain⟨dI,cO,bH,ST,pm,an,Ë,cb,eX,T,jm,n,rfl,lk,e1,cP,hd⟩:=ϴ.ex;intro s us KX aw;obtain⟨k,g,ah⟩:=h T bH ST pm an Ë cb us aw;exact .of_defaults (k:=k) rfl (KX _ _ cP) hd g ah
theorem Sd {cO an:ϣ Ϩ}{gh:μ (ϣ ϫ)}{bH HX:ϫ}{T:Ϩ}{bQ:ϣ Ϩ}(l:K.Ϣ f=O ⟨dI,cO,.OQ (I0 x Ρ (hQ E) (fI E) (bV E) (.Z T) bH ST pm an Ë cb),eX⟩)(c:IW K Ë Ρ=true)(k:Tk K (.Z f)=true)(t:K.Ϣ T=O ⟨HX,bQ,.XV ž n,gh⟩):lL K x Ρ E f (I0 x Ρ (hQ E) (fI E) (bV E) (.Z T) bH ST pm an Ë cb) ž:=
 ⟨⟨dI,cO,bH,ST,pm,an,Ë,cb,eX,T,_,n,rfl,l,c,t,rfl⟩,k⟩
end
structure q6 (X:Cx)(m:ϕ)(k:B)(ps:Y ϕ)(e:Ϩ×ep):Prop where
 cl:fc X.K e.1
 ex:∃f fd,ŏ X.K e.1 m f/\ft X.ϔ X.w X.K X.mg X.ϊ bx k f fd ps e.2/\ô X.K fd ps []
theorem iD {m:ϕ}{k:B}:∀e∈([]:Y (Ϩ×ep)),q6 X m k ps e:=λe h=>nomatch h
theorem Se {m:ϕ}{k:B}(cl:fc X.K Ϸ)(hm:ŏ X.K Ϸ m f)(ϴ:ft X.ϔ X.w X.K X.mg X.ϊ bx j f fd ps sp)(bg:j<=k)(af:ô X.K fd ps [])(r:∀e∈Pe,q6 X m k ps e):∀e∈(Ϸ,sp)::Pe,q6 X m k ps e:=
 λe h=>(ς.mp h).Ę (λz=>by rw[z];exact⟨cl,f,fd,hm,ϴ.WF bg,af⟩) (r e)
def zgu (Pe:Y (Ϩ×ep))(m:ϕ)(bo:TE)(t:du):TE:=λJ H Q=>bo J H λx H1=>∃a dx aJ e,e∈Pe/\x=.Z a/\H1 a=O (.Â e.1 dx aJ)/\aJ.Ϣ m=none/\t J H1 λd aC=>e.2 (x::d) aC Q hc
section
variable {X:Cx}{k:Nat}{ps:List Str}{tab:List (Addr×ep)}{m:Str}{pos apos:Pos}{e o:Expr}{es:List Expr}{bo:TE}{t:du}
theorem kS (he:PE X o bo)(϶:∀e∈Pe,q6 X m k ps e)(aO:dw k X.Ϲ)(aN:PA X (e::C) t)(wE:Ϫ (ω (e::C) X.ό=(false,ŗ e X.ό)::ω C X.ό) dA._auto_1)(Tm:Ϫ ((ĕ ŷ (ω C X.ό)).J_ (·.1)=false) dA._auto_1)(bk:Ϫ (ŗ (.č (.ŝ o m Re) (e::C) [] ŷ) X.ό=(ŗ o X.ό>>=λdT=>ss Re.akt>>=λ_=>Î [dT] (Ev dT m pl)>>=λr=>ol ŷ r.1 r.2 (ĕ ŷ (ω (e::C) X.ό)) (UV ŷ (Ą [] X.ό)))) dA._auto_1):
  PE X (.č (.ŝ o m Re) (e::C) [] ŷ) (zgu Pe m bo t):=by
 intro ϩ s J H Q I h;refine q_ (pl:=pl) (bA (he ϩ s J H _ I h) λu s1 bj=>IS λeZ uq=>?_) bk;obtain⟨x,H1,aK,bc,a,dx,aJ,Ϸ,kL,ex,a6,l,q⟩:=bj;refine uq ?_;subst ex;cases (show u=ϫ.Z a from bc);obtain⟨c,f,fd,hm,ϴ,af⟩:=϶ Ϸ kL;refine ud aK a6 c hm l ?_;exact ahm (first:=[.Z a]) (h₀:=X.ϊ) I.ok.Om.jf hm.dU (bA (aN ŷ ϩ s1 J H1 _ aK q) λus s2 ⟨d,aC,bt,r,b9⟩=>⟨bt.en,uh (us:=.Z a::us) (d:=.Z a::d) (dY:=[]) (ds:=[]) ϴ aO af .ń n3 bt (.θ rfl r) (by simpa only[ċ] using b9)⟩) wE Tm
theorem uS (he:PE X o bo)(϶:∀e∈Pe,q6 X m k ps e)(aO:dw k X.Ϲ)(bk:Ϫ (ŗ (.č (.ŝ o m Re) [] [] ŷ) X.ό=(ŗ o X.ό>>=λdT=>ss Re.akt>>=λ_=>Î [dT] (Ev dT m pl)>>=λr=>ol ŷ r.1 r.2 (ĕ ŷ (ω [] X.ό)) (UV ŷ (Ą [] X.ό)))) dA._auto_1):
  PE X (.č (.ŝ o m Re) [] [] ŷ) (zgu Pe m bo lC):=by
 intro ϩ s J H Q I h;refine q_ (pl:=pl) (bA (he ϩ s J H _ I h) λu s1 bj=>IS λeZ uq=>?_) bk;obtain⟨x,H1,aK,bc,a,dx,aJ,Ϸ,kL,ex,a6,l,q⟩:=bj;refine uq ?_;subst ex;cases (show u=ϫ.Z a from bc);obtain⟨c,f,fd,hm,ϴ,af⟩:=϶ Ϸ kL;exact ud aK a6 c hm l (ϟ.W.akW (first:=[.Z a]) aK.en hm.dU (uh (us:=[.Z a]) (d:=[.Z a]) (dY:=[]) (ds:=[]) ϴ aO af .ń n3 aK (.θ rfl .ń) q))
end
theorem HY {a b:ϕ}{k}{mm zp:Ox}(c9:X.K=K)(ak:OV X)(cA:(a::b::ϰ).Α)(q7:Loc (aiO Ϟ cl Ϸ X.ό).Ϟ a)(hu:Loc (aiO Ϟ cl Ϸ X.ό).Ϟ b)(fa:(aiO Ϟ cl Ϸ X.ό).Ϟ.Λ.Ϣ a=O .local)(Sf:(aiO Ϟ cl Ϸ X.ό).Ϟ.Λ.Ϣ b=O .local):
  PG (gO X Ϟ cl (a::b::ϰ) Ϸ ex cf dy) (.w_ [.ĸ a mm,.ĸ b zp] k ŷ) (sf K 2 (zgs (hN 0) (zgs (hN 1) sd))):=by
 subst c9;exact l9 (X:=gO X Ϟ cl (a::b::ϰ) Ϸ ex cf dy) (n:=2) (B9 ak) (gJ (gU (i:=0) cA rfl q7 (.Œ fa)) (gJ (gU (i:=1) cA rfl hu (.Œ Sf)) l8))
theorem eR (h:n+64<ä):n+1<ä:=⋯
end L2
variable {d:PySem.Addr}{cO:PySem.Obj}{β:Type}{cw:Nat}{ts:List PySem.Addr}
namespace L2
open PySem PySem.Spec PyProof.Rows
def CJ (tk fy:TE):TE:=λJ H Q=>∀p,H p=none->tk J (ſ H p (.bQ [])) λx H1=>fy J H1 λy aC=>aC p=O (.bQ [])/\∃b k,x=.Z b/\aC b=O (.Ţ (k.ϒ bH))/\Q (.Z p) (ſ aC p (.bQ [(k,y)]))
set_option tactic.hygienic true in
theorem Sg {k v:Ġ}{tk fy:TE}(bK:X.Ϲ.õ+1<ä)(aq:PE X k tk)(aG:PE X v fy):PE X (.x_ [O k] [v] ŷ) (CJ tk fy):=by
 intro ϩ s J H Q I q;have aF:=I.a9.Ĳ (B.ϑ s.P.Ϡ.Ϥ)
 have aK:=I.HV (a:=s.P.Ϡ.Ϥ) (o:=.bQ []) (h':=s.P.Ũ { Ŝ:=.χ "dict",Φ:=.ï #[] }) (t':=s.Χ) (λ_ _ q=>ϥ _ q) (B.ϑ _) (GW s.P I.big)
 refine wpAny_Dict_any rfl rfl (by simp) (by show 1<=15;decide) (bA (y2 (ŷ:=ŷ) aq aG GZ ϩ _ J _ (λps aC=>match ps with
  | [(x,y)]=>aC s.P.Ϡ.Ϥ=O (.bQ [])/\∃b k,x=.Z b/\aC b=O (.Ţ (k.ϒ bH))/\Q (.Z s.P.Ϡ.Ϥ) (ſ aC s.P.Ϡ.Ϥ (.bQ [(k,y)]))
  | _=>Ō) aK (q _ aF)) λws s2 ⟨ps,aC,bt,xz,ah⟩=>?_)
 obtain _|⟨bG,bW⟩:=xz
 ·exact ah.Ę
 rename_i c ϻ _ _ _;obtain⟨x,y⟩:=c;obtain⟨u,r⟩:=ϻ;obtain⟨bc,bu⟩:=bG;obtain _|⟨_,_⟩:=bW
 ·obtain⟨e,b,jq,ex,eb,b9⟩:=ah;subst ex;cases (show u=ϫ.Z b from bc);obtain⟨z,hd,F,xz,dd⟩:=sv bt.a9 e;cases xz;unfold storeAll;rw[ajI];refine ax (ax (wpAny_dictSet_heap (Oz:=ł _) (show(TW (e0 X.ϔ X.w)).room X.Ϲ from(by show X.Ϲ.õ<ä;omega)) (pC bt.a9 eb) dd λh' mn aH=>bp ?_));show ϙ _ _ (forIn [] PUnit.unit _) _ _ _
  rw[Y.amP];refine bp ⟨.Z s.P.Ϡ.Ϥ,_,?_,rfl,b9⟩;obtain⟨q,C,cw,ao,ah,aI,bO,_,d1⟩:=mn;refine y0 bt (by rw[e];exact Tl.intro) aH ⟨q,ao⟩ ⟨by show 1<=_;rw[ρ];decide,hd,_,.θ ⟨rfl,?_,bu⟩ .ń,q,C,cw,ao,ah,aI,bO,d1⟩;rwa[aE (bM eb e (λz=>nomatch z))]
 ·exact ah.Ę
section
variable {prog:Program}{w:World}{K:Type} [DecidableEq K]{knd:HeapKind prog w K}{A:Around}{E:wvP}{s:Shared}
end
section
variable {prog:Program}{w:World}{K:Type} [DecidableEq K]{knd:HeapKind prog w K}{A:Around}{E:wvP}{s:Shared}
end
theorem ϋ.lM {R:α->β->Prop}{l:Y α}{m:Y β}(p:ϋ R l m):∀{j:B}{a:α},l[j]?=O a->∃b,m[j]?=O b/\R a b:=by
 induction p with
 | ń=>intro j a e;cases e
 | θ h r bB=>
  intro j a e;cases j with
  | HW=>cases e;exact⟨_,rfl,h⟩
  | o0 j=>exact bB e
theorem ϋ.Ph {R:α->β->Prop}{l:Y α}{m:Y β}(p:ϋ R l m):∀{j:B}{b:β},m[j]?=O b->∃a,l[j]?=O a/\R a b:=by
 induction p with
 | ń=>intro j a e;cases e
 | θ h r bB=>
  intro j a e;cases j with
  | HW=>cases e;exact⟨_,rfl,h⟩
  | o0 j=>exact bB e
theorem CK {bE:Type}[akT bE]:∀{Ϝ:Y (bE×V)}{k:bE}{v:V},aW Ϝ k=O v->∃j:B,Ϝ[j]?=O (k,v)
 | [],_,_,h=>by cases h
 | p::r,k,v,h=>by
  by_cases e:p.1=k
  ·rw[jS e]at h;cases h;exact⟨0,by subst e;rfl⟩
  ·rw[jT e]at h;obtain⟨j,az⟩:=CK h;exact⟨j+1,by rwa[Y.ajM]⟩
section
variable {prog:Program}{w:World}{A:Around}{E:wvP}{s:Shared}
theorem CL {C:μ EQ}(hd:(ϻ==Ŋ)=false)(av:s.P.ϛ ϻ=O cO)(ak:cO.amG)(hV:cO.Φ=.ï C cw)(d6:Q (.Z s.P.Ϡ.Ϥ) { s with P:=s.P.Ũ { Ŝ:=.χ "dict_keyiterator",Φ:=.Ž #[.Z ϻ,.M 0 0,.M C.Ϥ 0,.M cw 0] } }):
  ϙ (ώ ϔ w) Ϲ (anX (.Z ϻ)) Q ϵ s:=by
 have cP:s.Q_ (.Z ϻ) "dict":=⟨cO,av,ak.1⟩
 refine wpAny_pyIter_slot cP ϴ.ai0 (Ż ϴ.ai0 cP ϴ.entry_dict_iter ?_ (ϴ.args_dict_iter_1 _));unfold Builtin.«dict.__iter__»;refine ax ?_;unfold π.x_.dictSlotNone;refine ax (S_ cP ?_);show ϙ _ _ (Ă (ϫ.Z ϻ)) _ _ s
 refine bp ?_;show ϙ _ _ (π.x_.alI ϻ>>=_) _ _ s
 unfold π.x_.alI;rw[aD (by rw[hd];exact δ.γ)];refine ax (bp ?_);refine ax (Ņ av hV ?_);refine ax (T_ av hV ?_);refine ax (Š (bp ⟨_,rfl,"dict_keyiterator",_,⟨_,σ _ rfl,rfl⟩,ϴ.Ĉ.Ϣ,?_⟩));simpa [đ] using d6
theorem HZ {C:μ EQ}{e:EQ}{Q:ϣ ϫ->ϐ->Prop}(SZ:s.P.ah0 it ϻ i C.Ϥ cw)(hg:s.P.ϛ ϻ=O cO)(hv:cO.Φ=.ï C cw)(ai:C[i]?=O e)(d6:∀h',h'.ah0 it ϻ (i+1) C.Ϥ cw->Θ.N_ it s.P h'->Q (O e.Pj) { s with P:=h' }):
  ϙ (ώ ϔ w) Ϲ (Ħ (.Z it)) Q ϵ s:=by
 obtain⟨o,av,ak,hd⟩:=id SZ;unfold Ħ;refine ax (ď (Ψ (name:=ϕ.ϝ "__next__") SZ.Ÿ ϴ.Ĉ
  (Ż ϴ.Ĉ SZ.Ÿ ϴ.acl ?_ (ϴ.e_ _))))
 refine ax (bp ?_);refine ax ?_;refine ax ?_;first|refine ax (ø SZ.Ÿ (bp ?_))|refine ax (Ä SZ.Ÿ (bp ?_))
 refine ax (al4 av hd ?_);have CM:π.Dict_items.ownsTuple "dict_keyiterator"=false:=by decide
 rw[aD (λz=>δ.γ (CM.symm.Ϛ z))];show ϙ _ _ (if (ϫ.Z ϻ==ϫ.none)=true then _ else _) _ _ s
 rw[aD (show ¬((ϫ.Z ϻ==ϫ.none)=true) from δ.γ)];refine ax (bp ?_);refine ax (Ņ hg hv ?_);rw[aD (by simp)];refine ax (bp ?_);refine ax (T_ hg hv ?_);rw[aD (by simp)];refine bp ?_;simp only[show ¬((i:G)<0) from by omega,Ü,ũ,ai];refine ax ?_;first|refine ax (ø SZ.Ÿ (bp ?_))|refine ax (Ä SZ.Ÿ (bp ?_))
 refine ax (aiA SZ.Ÿ ?_);show ϙ _ _ (anO (.Z it) 1 (đ ((i:G)+1))>>=_) _ _ s
 refine ax (į av hd (by simp) ?_);have nq:(s.P.ý it (ğ.akz (·.Ty 1 (đ ((i:G)+1))))).ah0 it ϻ (i+1) C.Ϥ cw:=
  ⟨_,š _ av (ğ.ahF (ğ.O_ hd _)),(ğ.amp ..).Ϛ ak,by rw[ğ.O_ hd];simp[đ]⟩
 refine ax (Ν ?_);refine ax (aiA (s:={ s with P:=s.P.ý it (ğ.akz (·.Ty 1 (đ ((i:G)+1)))) }) nq.Ÿ ?_);show ϙ _ _ (Ă e.Pj) _ _ _
 exact bp (bp ⟨_,rfl,bp (d6 _ nq (Θ.N_.ý ..))⟩)
theorem H0 {C:μ EQ}{Q:ϣ ϫ->ϐ->Prop}(bj:fo Ϲ s.P)(SZ:s.P.ah0 it ϻ i C.Ϥ cw)(hg:s.P.ϛ ϻ=O cO)(hv:cO.Φ=.ï C cw)(uT:C.Ϥ<=i)(d6:∀h',Θ.I2 it s.P h'->Q none { s with P:=h' }):ϙ (ώ ϔ w) Ϲ (Ħ (.Z it)) Q ϵ s:=by
 obtain⟨o,av,ak,hd⟩:=id SZ;unfold Ħ;refine ax (ď (Ψ (name:=ϕ.ϝ "__next__") SZ.Ÿ ϴ.Ĉ
  (Ż ϴ.Ĉ SZ.Ÿ ϴ.acl ?_ (ϴ.e_ _))))
 refine ax (bp ?_);refine ax ?_;refine ax ?_;first|refine ax (ø SZ.Ÿ (bp ?_))|refine ax (Ä SZ.Ÿ (bp ?_))
 refine ax (al4 av hd ?_);have CM:π.Dict_items.ownsTuple "dict_keyiterator"=false:=by decide
 rw[aD (λz=>δ.γ (CM.symm.Ϛ z))];show ϙ _ _ (if (ϫ.Z ϻ==ϫ.none)=true then _ else _) _ _ s
 rw[aD (show ¬((ϫ.Z ϻ==ϫ.none)=true) from δ.γ)];refine ax (bp ?_);refine ax (Ņ hg hv ?_);rw[aD (by simp)];refine ax (bp ?_);refine ax (T_ hg hv ?_);rw[aD (by simp)];refine bp ?_;simp only[show ¬((i:G)<0) from by omega,Ü,ũ,μ.K_ uT];refine ax ?_;first|refine ax (ø SZ.Ÿ (bp ?_))|refine ax (Ä SZ.Ÿ (bp ?_))
 show ϙ _ _ (anO (.Z it) 0 .none>>=_) _ _ s
 refine ax (į av hd (by simp) ?_);refine nV (bj.ý (Ϲ:=Ϲ) av ak _) λh' e k1 k2=>m3 k2 (d6 h' λb o af z=>k1 b o ?_);rwa[ψ _ _ (Ne.symm af)]
end
section
variable {X:Cx}{pins:List (Addr×Obj)}{J:St}{H:ag}{s:Shared}{a:Addr}
theorem Υ.re {u v:bb}(I:Υ X ϩ J H s)(e:H a=O u)(jW:∀F,u≠.Ţ F)(no:∀y,u≠.HF y)(nb:∀ps,u≠.f3 ps)(cB:∀o w,X.dy a≠O (.cW o w))(OR:dG X.ϔ X.w (ſ H a v) s.P a v):Υ X ϩ J (ſ H a v) s:=by
 have ne:∀{b:Ϩ},H b=none->b≠a:=λ{b} h z=>by rw[z,e]at h;cases h
 refine⟨I.ok,I.os,I.Rs,⟨I.ϊ.ĭ,I.ϊ.If,λb o q n ai=>?_,I.ϊ.ĩ,λb F q=>?_,λb o w q=>?_,λb ps q=>?_⟩,I.Bi,I.φ,?_,λx c h=>?_,λp ay=>?_,λb o q=>?_,I.SC⟩
 ·have z:=I.ϊ.Ź b o q n ai
  rwa[aE (ne z)]
 ·have z:=I.ϊ.dh b F q
  rwa[aE (λh=>by rw[h,e]at z;exact jW F (ϣ.O.W1 z))]
 ·have z:=I.ϊ.gG b o w q
  rwa[aE (λh=>by rw[h]at q;exact cB o w q)]
 ·obtain⟨IT,z⟩:=I.ϊ.iv b ps q;exact⟨IT,by rwa[aE (λh=>by rw[h,e]at z;exact nb _ (ϣ.O.W1 z))]⟩
 ·rw[aE (ne I.Ź)];exact I.Ź
 ·rw[aE (ne (I.iw x c h))];exact I.iw x c h
 ·obtain⟨cQ,da,fj⟩:=I.ON p ay;exact⟨cQ,by rwa[aE (ne da)],fj⟩
 ·by_cases af:b=a
  ·subst af;rw[aQ]at q;cases q;exact OR
  ·rw[aE af]at q;refine(I.a9 b o q).gS (λ_ _ _ z=>z) (λc z=>?_) λc F z=>?_
   ·rwa[aE (λh=>by rw[h,e]at z;exact no _ (ϣ.O.W1 z))]
   ·rwa[aE (λh=>by rw[h,e]at z;exact jW _ (ϣ.O.W1 z))]
theorem H2 {h:Θ}(x:dG Ϯ w H h a (.bQ Ϝ))(hP:∀b F,H b=O (.Ţ F)->U b=O (.Ţ F)):dG Ϯ w U h a (.bQ Ϝ):=by
 obtain⟨z,y,F,r,W_⟩:=x;exact⟨z,y,F,ϋ.gq r λp q z=>⟨z.1,hP _ _ z.2.1,z.2.2⟩,W_⟩
theorem Υ.freeze (I:Υ X ϩ J H s)(e:H a=O (.bQ Ϝ)){o:ğ}(av:s.P.ϛ a=O o):Υ X ϩ J (ſ H a (.cW o (.bQ Ϝ))) s:=by
 refine I.re e nofun nofun nofun (λo w z=>?_) ⟨av,H2 (I.a9 a _ e) λb F z=>?_⟩
 ·have:=I.ϊ.gG a o w z
  rw[e]at ν;cases ν
 ·rwa[aE (bM z e (λz=>nomatch z))]
theorem Υ.q8 {o:ğ}(I:Υ X ϩ J H s)(e:H a=O (.cW o (.bQ Ϝ)))(cB:∀o w,X.dy a≠O (.cW o w)):Υ X ϩ J (ſ H a (.bQ Ϝ)) s:=by
 refine I.re e nofun nofun nofun cB (H2 (I.a9 a _ e).2 λb F z=>?_);rwa[aE (bM z e (λz=>nomatch z))]
end
def og (a:Ϩ)(o:ğ)(Ϝ:Y (Y Ř×V)):g7:=
 ⟨λi H=>H a=O (.cW o (.bQ Ϝ))/\i<Ϝ.N,λi H x U=>U=H/\∃b k v,x=.Z b/\Ϝ[i]?=O (k,v)/\H b=O (.Ţ (k.ϒ bH)),λi H=>H a=O (.cW o (.bQ Ϝ))/\Ϝ.N<=i⟩
theorem Sh (a it:Ϩ)(o:ğ)(Ϝ:Y (Y Ř×V))(C:μ EQ)(cw:B)(hv:o.Φ=.ï C cw):Bm Ϯ w K c5 (og a o Ϝ) [it] it (λi h=>h.ah0 it a i C.Ϥ cw) where
 OO:=by simp
 Oy:=λi h E b af=>by
  have e:b=it:=by simpa using af
  subst e;obtain⟨o,e,c,ϻ⟩:=E;exact⟨o,e,λv z=>by rw[ϻ]at z;cases z⟩
 ĭ:=λi h h' E k=>E.at λo e=>k it (by simp) o e
 Ov:=by
  intro X dk hw c9 ak i ϩ s J H ϵ I hf E bF;subst dk hw c9;obtain⟨ao,ai⟩:=bF;obtain⟨hg,z,hd,F,xz,bR,ec,o9,eA,CN,my,uU,uV⟩:=(show dG X.ϔ X.w H s.P a (.cW o (.bQ Ϝ)) from I.a9 a _ ao);rw[hg]at eA;cases eA;rw[hv]at my;cases my;obtain⟨bS,lN⟩:∃bS,Ϝ[i]?=O bS:=⟨_,ϡ ai⟩;obtain⟨q,CO,a3,b9,eV⟩:=ϋ.lM xz lN;have CP:C[i]?=O (È (TW (e0 X.ϔ X.w)) q):=by rw[alJ uU i,CO];rfl
  obtain⟨f0,f1,f2,dv,f4,dP⟩:=hf it (by simp);refine HZ E hg hv CP λh' f6 kC=>?_;have aK:Υ X ϩ J H { s with P:=h' }:=I.Á (t':=s.Χ) (λb o af e=>(kC.2 b af).Ϛ e) f0 f1 dv f4 dP
  obtain⟨ff,e,c,ϻ⟩:=id f6;exact⟨_,rfl,sk (s:={ s with P:=h' }) e c ϻ ∅ ⟨.Z q.2.1,H,aK,rfl,⟨rfl,q.2.1,bS.1,bS.2,rfl,lN,b9⟩,f6,λb af=>(hf b af).1⟩⟩
 done:=by
  intro X dk hw c9 ak i ϩ s J H ϵ I hf E bF;subst dk hw c9;obtain⟨ao,ai⟩:=bF;obtain⟨hg,z,hd,F,xz,bR,ec,o9,eA,CN,my,uU,uV⟩:=(show dG X.ϔ X.w H s.P a (.cW o (.bQ Ϝ)) from I.a9 a _ ao);rw[hg]at eA;cases eA;rw[hv]at my;cases my;have Oz:C.Ϥ=F.N:=F_ uU
  have aw:=ϋ.N xz
  obtain⟨f0,f1,f2,dv,f4,dP⟩:=hf it (by simp);exact H0 (I.R_ ak) E hg hv ⋯ λh' eb=>⟨rfl,I.Á (t':=s.Χ) (λb o af e=>eb b o af e) f0 f1 dv f4 dP⟩
 self:=λ_ _ _ _ _ E h=>ai8 E h
def zkn (bT:TE):TI:=λJ H R=>bT J H λx H1=>∃a Ϝ,x=.Z a/\H1 a=O (.bQ Ϝ)/\∀o,R (og a o Ϝ) (ſ H1 a (.cW o (.bQ Ϝ)))
theorem H3 {l:Ġ}(aw:PE X l e3):PI X c5 l (zkn e3):=by
 intro ϩ s J H R I h;refine bA (aw ϩ s J H _ I h) λv s1 ⟨x,H1,aK,bG,a3⟩=>?_;obtain⟨a,Ϝ,e,ao,q⟩:=a3;subst e;cases bG;obtain⟨z,hd,F,xz,dd⟩:=sv aK.a9 ao;obtain⟨o,C,cw,av,ak,hV,_⟩:=dd;refine CL hd av ak hV ?_;have bt:=aK.freeze ao av
 refine⟨s1.P.Ϡ.Ϥ,[s1.P.Ϡ.Ϥ],_,_,_,rfl,bt.XL (t':=s1.Χ) λb o e=>ϥ _ e,Sh a _ o Ϝ C cw hV,⟨_,σ _ rfl,rfl,rfl⟩,λb af=>?_,q o⟩;have e:b=s1.P.Ϡ.Ϥ:=by simpa using af
 subst e;exact bt.mb (B.ϑ _) (bt.a9.Ĳ (B.ϑ _))
def OH.q8 (϶:OH)(a:Ϩ)(Ϝ:Y (Y Ř×V)):OH where
 aP:=λJ H=>(∃o,H a=O (.cW o (.bQ Ϝ)))/\϶.aP J (ſ H a (.bQ Ϝ))
 iR:=λv H=>(∃o,H a=O (.cW o (.bQ Ϝ)))/\϶.iR v (ſ H a (.bQ Ϝ))
 bf:=λJ H=>(∃o,H a=O (.cW o (.bQ Ϝ)))/\϶.bf J (ſ H a (.bQ Ϝ))
 cb:=λJ H=>(∃o,H a=O (.cW o (.bQ Ϝ)))/\϶.cb J (ſ H a (.bQ Ϝ))
def CQ (t:dn):dn:=λ϶ J H=>∃a Ϝ,H a=O (.bQ Ϝ)/\t (϶.q8 a Ϝ) J H
theorem Si {t:dn}(h:PS X E t):PS X E (CQ t):=by
 intro ϩ s J H ϶ I q;obtain⟨a,Ϝ,e,q⟩:=q;have cB:∀o w,X.dy a≠O (.cW o w):=λo w z=>by
  have:=I.ϊ.gG a o w z
  rw[e]at ν;cases ν
 refine bA (h ϩ s J H _ I q) λf s' y=>?_;cases f with
 | next=>obtain⟨a7,U,eU,⟨o,z⟩,ϻ⟩:=y;exact⟨a7,_,eU.q8 z cB,ϻ⟩
 | Pa=>obtain⟨a7,U,eU,⟨o,z⟩,ϻ⟩:=y;exact⟨a7,_,eU.q8 z cB,ϻ⟩
 | Ou=>obtain⟨a7,U,eU,⟨o,z⟩,ϻ⟩:=y;exact⟨a7,_,eU.q8 z cB,ϻ⟩
 | b8 u=>obtain⟨v,a7,U,eU,ck,⟨o,z⟩,ϻ⟩:=y;exact⟨v,a7,_,eU.q8 z cB,ck,ϻ⟩
theorem Sj {o:ğ}{Ϻ:fq}(Pv:B->St->ag->Prop)(h0:Pv 0 J H)(aw:∀i J H,i<=Ϝ.N->Pv i J H->H a=O (.cW o (.bQ Ϝ)))(aH:∀i k v b J H,Ϝ[i]?=O (k,v)->H b=O (.Ţ (k.ϒ bH))->Pv i J H->Ϻ (.Z b) J H λdm aC=>a4 { ϶ with aP:=Pv (i+1),cb:=Pv (i+1),bf:=϶.aP } dm aC)(hd:∀J H,Pv Ϝ.N J H->϶.aP J H):
  ∃W:B->B->St->ag->Prop,(∃m,W 0 m J H)/\∀i m J H,W i m J H->
   ((og a o Ϝ).stop i H/\϶.aP J H)\/((og a o Ϝ).go i H/\∃ϰ:St->ag->Prop,(∀a7 U,ϰ a7 U->∃ba,ba<m/\W (i+1) ba a7 U)/\∀x U,(og a o Ϝ).fR i H x U->Ϻ x J U λdm aC=>a4 { ϶ with aP:=ϰ,cb:=ϰ,bf:=϶.aP } dm aC):=by
 refine⟨λi m J H=>m=Ϝ.N-i/\i<=Ϝ.N/\Pv i J H,⟨Ϝ.N,by simp,ł _,h0⟩,?_⟩;rintro i m J H ⟨rfl,aA,p⟩;by_cases cJ:i<Ϝ.N
 ·refine .Œ ⟨⟨aw i J H aA p,cJ⟩,Pv (i+1),λa7 U eB=>⟨Ϝ.N-(i+1),⋯,rfl,cJ,eB⟩,λx U y=>?_⟩;obtain⟨e,b,k,v,au,az,bY⟩:=y;subst e au;exact aH i k v b J _ az bY p
 ·have e:i=Ϝ.N:=⋯
  subst e;exact .ε ⟨⟨aw _ J H (B.ϑ _) p,B.ϑ _⟩,hd J H p⟩
section
variable {prog:Program}{w:World}{d:Addr}
end
theorem CR {k:B}(r:dw k Ϲ):Ϲ.õ+64+1<ä:=by have:=r.un;omega
theorem ints_of:∀{ns:Y G}{us:Y ϫ},ś (ns.ϒ V.M) us->∃F:Y (G×OE),us=F.ϒ (λp=>ϫ.M p.1 p.2)/\F.ϒ (·.1)=ns
 | [],_,r=>by rw[rc]at r;cases r;exact⟨[],rfl,rfl⟩
 | n::ns,_,r=>by
  rw[Ŷ]at r;cases r with
  | θ h t=>
   obtain⟨u,rfl⟩:=h;obtain⟨F,rfl,e⟩:=ints_of t;exact⟨(n,u)::F,rfl,by rw[Ŷ,e]⟩
theorem zq (F:Y (G×OE))(i:B):OL F.ϗ i=(F.ϒ (·.1)).œ i 0:=by
 unfold OL;rw[Ş,Ϙ];simp
section
variable {X:Cx}
end
theorem Sk {o:ğ}{F:μ ϫ}{k:B}{Q:ϣ ϫ->ϐ->Prop}(ai:s.P.ϛ a=O o)(ak:o.Ŝ=.χ "list")(hV:o.Φ=.XV F k)(hd:o.ï=none)(Sl:u_ (.χ "list") name=Ă none)(pO:(["__module__","__name__","__qualname__","__doc__","__annotations__"]:Y ϕ).Rh name=false)(hA:Ϲ.Ē=none)(h:∀h' tk e,Θ.NewExcOf s.P h' e "AttributeError"->Q none { s with P:=h',Χ:=tk })(Oz:name.N+100<=ϓ:=by size_fits):
  ϙ (ώ ϔ w) Ϲ (getAttr? (.Z a) name) Q ϵ s:=by
 obtain⟨c,zr,dat,a0⟩:=o;simp only at ak hV hd;subst ak hV hd;obtain⟨ay,Ϻ,ϻ,tk,os⟩:=s;have cP:∀nr,(⟨ay,Ϻ,ϻ,nr,os⟩:ϐ).Q_ (.Z a) "list":=λ_=>⟨_,ai,rfl⟩
 have f1:=sub_AttributeError
 have dv:=ϴ.y_.Ϣ
 have f4:=ϴ.y_.bind (.Z a)
 have dP:=am_list_getattr_none
 unfold getAttr? getAttrBy? getAttrBy;repeat (any_goals (first|assumption|exact cP _|((with_reducible show ϙ _ _ (WP (ϫ.ο "list.__getattribute__") _ _) _ _ _);refine alP ϴ.y_ (cP _) am_entry_list_getattribute (ϴ.args_list_getattribute_2 _ _) (meets_getattribute_miss_list a F k a0 name _ Sl pO Oz) ⟨ai,hA,λh' nr e pP=>?_⟩)|wp_step))
 obtain⟨t',l6,he⟩:=pP.ĩ;show ϙ _ _ (ajN _ _ _ _ _ _ _) _ _ _
 unfold ajN;repeat (any_goals (first|assumption|wp_step))
 exact h _ _ _ pP.of
theorem zt:plainId "dict.update.loop"=true:=∅
theorem H4:anI table "dict.update.loop"=O Builtin.«dict.update.loop»:=akC (by kernel_rfl)
section
variable {prog:Program}{w:World}{K:Type} [DecidableEq K]{knd:KeyKind prog w K}{A:Around}{R:Result->Shared->Prop}
def CS (i_:KeyKind ϔ w K)(h:Θ)(t:Ϩ)(p:K×ϫ):Prop:=∃u,h.BT t #[u,p.2]/\i_.is p.1 u=true
theorem Sm {ps:Y (K×ϫ)}(SB:ts.N=ps.N)(Sn:l≠it)(So:l≠ϻ)(CT:it≠ϻ)(res:ϫ)(hA:Ϲ.Ē=none):
  ∀(k i:B)(s:ϐ)(d:Y (K×ϫ))(n:G)(tk:OE),ts.N-i=k->i<=ts.N->s.P.É it l i->s.P.Ò l (ts.ϒ ϫ.Z).ϗ->
   (∀(j:B)(t:Ϩ)(p:K×ϫ),ts[j]?=O t->ps[j]?=O p->CS i_ s.P t p/\t≠it/\t≠ϻ)->s.P.im i_ ϻ d->d.N+(ts.N-i)<=ϓ->
   (∀h' nr,h'.im i_ ϻ (amZ d (ps.IR i))->(∀b o,b≠it->b≠ϻ->s.P.ϛ b=O o->h'.ϛ b=O o)->R (.ok (.b8 res)) { s with P:=h',Χ:=nr })->
   Ø (ώ ϔ w) Ϲ (.ο "dict.update.loop" ⟨[.Z ϻ,.Z it,.M n tk,res],[]⟩) R s:=by
 intro k;induction k with
 | HW=>
  intro i s d n tk aq aA SZ aw ay hd Oz e4;have mz:i=ts.N:=⋯
  refine Ů H4 ?_;rw[ŕ.Ľ zt _];show ϙ _ Ϲ.jp (Ħ (.Z it)>>=_) _ _ s
  refine ax (aiB (Ϲ:=Ϲ.jp) hA SZ aw (by simp[mz]) λh' e=>?_);show ϙ _ Ϲ.jp (π.x_.addKeywords ϻ []>>=_) _ _ _
  refine ax (bp (bp ?_));refine e4 h' s.Χ ?_ λb o af _ bq=>e b o af bq;rw[Y.akl ⋯];obtain⟨o,C,cw,av,r⟩:=hd;exact⟨o,C,cw,e ϻ o CT.symm av,by simpa [amZ] using r⟩
 | o0 k bB=>
  intro i s d n tk aq aA SZ aw ay hd Oz e4;have cJ:i<ts.N:=⋯
  obtain⟨t,bk⟩:∃t,ts[i]?=O t:=⟨_,ϡ cJ⟩;obtain⟨p,H5⟩:∃p,ps[i]?=O p:=⟨_,ϡ ⋯⟩;obtain⟨⟨u,cP,bK⟩,cz,cS⟩:=ay i t p bk H5;refine Ů H4 ?_;rw[ŕ.Ľ zt _];show ϙ _ Ϲ.jp (Ħ (.Z it)>>=_) _ _ s
  refine ax (U_ SZ aw (x:=.Z t) (by simp[bk]) λg Sp uW=>?_);have H6:g.BT t #[u,p.2]:=by
   obtain⟨o,av,r⟩:=cP;exact⟨o,(uW.2 t cz).Ϛ av,r⟩
  have zw:g.im i_ ϻ d:=by
   obtain⟨o,C,cw,av,r⟩:=hd;exact⟨o,C,cw,(uW.2 ϻ CT.symm).Ϛ av,r⟩
  obtain⟨o,av,ak,gI,hV⟩:=id H6;show ϙ _ Ϲ.jp (Î [ϫ.Z t] _>>=_) _ _ _
  refine ax (Ν (ax (Ŗ ?_)));unfold π.x_.pairItems;refine ax (LT ⟨o,av,ak⟩ ?_);rw[aS ∅];refine ax (Ŧ av hV (bp ?_));show ϙ _ Ϲ.jp (Î [u,p.2] (dictSet ϻ u p.2)) _ _ _
  have Sq:d.N<=ϓ:=⋯
  refine Ν (wpAny_dictSet_pairs (Oz:=Sq) bK zw λah hd2 zy=>?_);refine bp ⟨Ś zt _,bB (i+1) _ (an2 d p.1 p.2) (n+1) _ ⋯ ⋯ ?_ ?_ (λj t' eB q9 kJ=>?_) hd2 ?_ λaI CU lO k3=>?_⟩
  ·obtain⟨o,av,r⟩:=Sp;exact⟨o,(zy.2 it CT).Ϛ av,r⟩
  ·obtain⟨o,av,r⟩:=aw;exact⟨o,(zy.2 l So).Ϛ ((uW.2 l Sn).Ϛ av),r⟩
  ·obtain⟨⟨l6,⟨o,av,r⟩,Ss⟩,dH,di⟩:=ay j t' eB q9 kJ;exact⟨⟨l6,⟨o,(zy.2 t' di).Ϛ ((uW.2 t' dH).Ϛ av),r⟩,Ss⟩,dH,di⟩
  ·have:=stored_length_le d p.1 p.2
   omega
  ·refine e4 aI CU ?_ λb o ra jX e=>k3 b o ra jX ((zy.2 b jX).Ϛ ((uW.2 b ra).Ϛ e));rw[Y.lf (show i<ps.N by omega)];have cw:ps[i]'⋯=p:=(Y.Ϧ.mp H5).2
   rw[cw];simpa [amZ] using lO
end
theorem Su:u_ (.χ "list") (ϕ.ϝ "keys")=Ă none:=by rw[aix,wP];kernel_rfl
section
variable {prog:Program}{w:World}{K:Type} [DecidableEq K]{knd:KeyKind prog w K}{A:Around}{E:wvP}{s:Shared}
theorem Sv {ps:Y (K×ϫ)}(hA:Ϲ.Ē=none)(SB:ts.N=ps.N)(aw:s.P.Ò l (ts.ϒ ϫ.Z).ϗ)(HC:∀o,s.P.ϛ l=O o->o.ï=none)(ay:∀(j:B)(t:Ϩ)(p:K×ϫ),ts[j]?=O t->ps[j]?=O p->CS i_ s.P t p)(Oz:ps.N<=ϓ)(h:∀h' tk,h'.im i_ s.P.Ϡ.Ϥ (amZ [] ps)->(∀b o,s.P.ϛ b=O o->h'.ϛ b=O o)->Q (.Z s.P.Ϡ.Ϥ) { s with P:=h',Χ:=tk }):
  ϙ (ώ ϔ w) Ϲ (WP (.χ "dict") [.Z l]) Q ϵ s:=by
 refine ai1 (Q₁:=λOy eg=>Oy=.Z s.P.Ϡ.Ϥ/\eg={ s with P:=s.P.Ũ { Ŝ:=.χ "dict",Φ:=.ï #[] } }) ϴ.al5 (ϴ.ajO _) ϴ.ala (akH _ ⟨rfl,rfl⟩) ?_;rintro Oy eg ⟨rfl,rfl⟩;have rb:(s.P.Ũ { Ŝ:=.χ "dict",Φ:=.ï #[] }).im i_ s.P.Ϡ.Ϥ []:=Θ.im.OR s.P
 obtain⟨o,av,ak,n,hV⟩:=id aw;have eA:=ϥ { Ŝ:=.χ "dict",Φ:=.ï #[] } av
 refine⟨rb.Ÿ,ϴ.akI _ _,?_⟩;unfold Builtin.«dict.__init__»;refine ax ?_;unfold π.x_.selfAndRest;refine ax (S_ rb.Ÿ ?_);show ϙ _ _ (Ă (s.P.Ϡ.Ϥ,[ϫ.Z l])) _ _ _
 refine bp ?_;show ϙ _ _ (π.x_.ajJ "dict.__init__" s.P.Ϡ.Ϥ (.Z l) [] .none) _ _ _
 unfold π.x_.ajJ;refine ax (LT ⟨o,eA,ak⟩ ?_);rw[aS ∅];refine ax (Sk eA ak hV (HC o av) Su ∅ hA (λg tk e ai=>?_) (by rw[ρ];decide +Ė));have k1:∀b o,s.P.ϛ b=O o->g.ϛ b=O o:=λb o bq=>ai.å b o (ϥ _ bq)
 have zw:g.im i_ s.P.Ϡ.Ϥ []:=by
  obtain⟨o,C,cw,av,r⟩:=rb;exact⟨o,C,cw,ai.å _ _ av,r⟩
 have rd:g.Ò l (ts.ϒ ϫ.Z).ϗ:=⟨o,k1 _ _ av,ak,n,hV⟩
 have Sw:s.P.Ϡ.Ϥ<g.Ϡ.Ϥ:=by
  obtain⟨o,C,cw,av,r⟩:=zw;exact τ av
 rw[aS (show(none:ϣ ϫ).isNone=true from rfl)];refine ax (ì (ax (AC rd ?_)));have zz:∀b bR,g.ϛ b=O bR->(g.Ũ { Ŝ:=.χ "list_iterator",Φ:=.Ž #[.Z l,.M 0 0] }).ϛ b=O bR:=λb bR bq=>ϥ _ bq
 refine bp ⟨Ś zt _,Sm (i_:=i_) (Ϲ:=Ϲ.jp) (ts:=ts) (ps:=ps) (l:=l) (it:=g.Ϡ.Ϥ) (ϻ:=s.P.Ϡ.Ϥ) SB (Ι (τ (k1 _ _ av))) (Ι (τ av)) (À Sw) .none hA ts.N 0 _ [] 0 0 ⋯ (ł _) ⟨_,σ _ rfl,rfl,rfl⟩ ⟨o,zz _ _ (k1 _ _ av),ak,n,hV⟩ (λj t p a b=>?_) ?_ (by simp;omega) λaI CU lO k3=>?_⟩
 ·obtain⟨u,⟨bR,au,r⟩,bK⟩:=ay j t p a b;exact⟨⟨u,⟨bR,zz _ _ (k1 _ _ au),r⟩,bK⟩,Ι (τ (k1 _ _ au)),Ι (τ au)⟩
 ·obtain⟨bR,C,cw,au,r⟩:=zw;exact⟨bR,C,cw,zz _ _ au,r⟩
 ·exact⟨rfl,h aI CU (by simpa using lO) λb bR bq=>k3 b bR (Ι (τ (k1 _ _ bq))) (Ι (τ bq)) (zz _ _ (k1 _ _ bq))⟩
end
section
variable {X:Cx}
set_option tactic.hygienic true in
theorem Sx (ak:X.R_=true):ho X (.χ "dict") (λF H Q=>∃p ts Ϝ,F=[.Z p]/\H p=O (.Ť (ts.ϒ V.Z))/\ϋ (λt (bS:Ř×V)=>H t=O (.Ţ [bH bS.1,bS.2])) ts Ϝ/\∀ϻ,H ϻ=none->Q (.Z ϻ) (ſ H ϻ (.bL (kI [] Ϝ)))):=by
 intro ϩ s J H F us Q I r h;obtain⟨p,ts,Ϝ,rfl,e,pr,q⟩:=h;obtain⟨u,rfl,bc⟩:=wT r;cases bc;obtain⟨z,aL,n,ck,av⟩:=(show dG X.ϔ X.w H s.P p (.Ť (ts.ϒ V.Z)) from I.a9 p _ e);have ei:aL=ts.ϒ ϫ.Z:=by
  clear pr av z e;induction ts generalizing aL with
  | ń=>cases ck;rfl
  | θ t ts bB=>
   rw[Ŷ]at ck;cases ck with
   | θ a b=>
    cases (show _=ϫ.Z t from a);rw[bB _ b,Ŷ]
 subst ei;have Pj:∃ps:Y (Ř×ϫ),fp Ϝ ps/\∀(j:B)(t:Ϩ)(p:Ř×ϫ),ts[j]?=O t->ps[j]?=O p->CS (e0 X.ϔ X.w) s.P t p:=by
  clear ck av z e q;induction pr with
  | ń=>exact⟨[],.ń,λj t p a=>by simp at a⟩
  | @θ t bS ts Ϝ bj g6 bB=>
   obtain⟨ps,dU,ay⟩:=bB;obtain⟨af1,aL,ck,pl⟩:=(show dG X.ϔ X.w H s.P t (.Ţ [bH bS.1,bS.2]) from I.a9 t _ bj);cases ck with
   | θ a1 bG=>
    cases bG with
    | θ a2 bW=>
     cases bW;rename_i kg kQ;refine⟨(bS.1,kQ)::ps,.θ ⟨rfl,a2⟩ dU,λj t' eB g ah=>?_⟩;cases j with
     | HW=>
      cases g;cases ah;exact⟨kg,pl,n4 a1⟩
     | o0 j=>exact ay j t' eB g ah
 obtain⟨ps,dU,ay⟩:=Pj;have rd:=ϋ.N pr
 have BW:=dU.N
 rw[ϧ]at z;refine Sv (i_:=e0 X.ϔ X.w) (I.ok.hd ak) ⋯ ⟨_,av,rfl,n,rfl⟩ (λo kF=>by rw[av]at kF;cases kF;rfl) ay ⋯ λh' tk dd k=>⟨.Z s.P.Ϡ.Ϥ,_,?_,rfl,q _ (I.a9.Ĳ (B.ϑ _))⟩;have hz:(kI [] Ϝ).N<=ϓ:=by
  have g:=B5 Ϝ []
  rw[Ċ]at g;omega
 exact I.HV (t':=tk) k (B.ϑ _) (B2 hz (ĺ.ļ (Ne.symm (Ι I.big))) (dU.merge .ń) dd)
end
end L2
variable {sg:List Nat}
namespace Fl
open PySem L2
theorem H7:∀{l m:Y G},l.Id (· < ·)->m.Id (· < ·)->(∀x,x∈l↔x∈m)->l=m
 | [],[],_,_,_=>rfl
 | [],b::m,_,_,h=>by have:=(h b).ļ (by simp);simp at ν
 | a::l,[],_,_,h=>by have:=(h a).mp (by simp);simp at ν
 | a::l,b::m,aw,hm,h=>by
  obtain⟨eL,eM⟩:=Y.ajx.mp aw;obtain⟨dH,di⟩:=Y.ajx.mp hm;have e:a=b:=by
   rcases ς.mp ((h a).mp (by simp)) with z|z
   ·exact z
   ·rcases ς.mp ((h b).ļ (by simp)) with y|y
    ·exact y.symm
    ·have:=dH a z
     have:=eL b y
     omega
  subst e;congr 1
  refine H7 eM di λx=>⟨λai=>?_,λai=>?_⟩
  ·rcases ς.mp ((h x).mp (Η _ ai)) with z|z
   ·have:=eL x ai
    omega
   ·exact z
  ·rcases ς.mp ((h x).ļ (Η _ ai)) with z|z
   ·have:=dH x ai
    omega
   ·exact z
theorem Sy {x y:G}(h:x*x+y*y=1):(x=0/\(y=1\/y=-1))\/(y=0/\(x=1\/x=-1)):=by
 have Pj:∀z:G,z<=z*z/\-z<=z*z:=λz=>by
  by_cases hz:0<=z
  ·by_cases g:z=0
   ·subst g;decide
   ·have:=G.alS hz (show 0<=z-1 by omega)
    rw[G.am7,G.b_]at ν;omega
  ·have:=G.alS (show 0<=-z by omega) (show 0<=-z-1 by omega)
   rw[G.am7,G.ak1,G.b_]at ν;omega
 have k1:=Pj x
 have k2:=Pj y
 have cz:0<=x*x:=⋯
 have cS:0<=y*y:=⋯
 have ai:x=0\/x=1\/x=-1:=⋯
 have aU:y=0\/y=1\/y=-1:=⋯
 rcases ai with rfl|rfl|rfl<;>rcases aU with rfl|rfl|rfl<;>simp_all
theorem zA {w c b q:G}(hw:0<w)(h:c=w*b+q)(h0:0<=q)(g:q<w):c/w=b/\c%w=q:=by
 subst h;constructor
 ·rw[G.anP,G.add_mul_ediv_left _ _ ⋯,G.ediv_eq_zero_of_lt h0 g];omega
 ·rw[G.anP,G.add_mul_emod_self_left,G.emod_eq_of_lt h0 g]
def nt (c:B):Prop:=c=46\/c=35\/c=43\/c=126\/c=124
structure ħ (w h:B)(L:Y B):Prop where
 d0:1<=w
 fQ:w<=10
 h0:1<=h
 g:h<=10
 SC:L.N=w*h
 ok:∀c∈L,nt c
 φ:∃c∈L,c≠35
def txt (cs:Y B):ϕ:=⟨cs.ϗ⟩
def ib (w:B)(L:Y B)(j:B):ϕ:=txt ((L.IR (w*j)).ĵ w)
def ī (w h:B)(L:Y B):Y ϕ:=(Ć h).ϒ (ib w L)
theorem lP {w h:B}(Ϻ:ħ w h L):1<=L.N/\L.N<=100:=by
 rw[Ϻ.SC];exact⟨Ç Ϻ.d0 Ϻ.h0,Ç Ϻ.fQ Ϻ.g⟩
theorem kT (cs:Y B):(txt cs).N=cs.N:=by simp[txt,ϕ.N]
theorem rf (cs:Y B):(txt cs).Ch.Ω=cs:=by simp[txt]
theorem H8 {w h:B}(bg:j<h):w*j+w<=w*h:=by
 have:=B.mul_le_mul_left w (show j+1<=h from bg)
 rw[B.am8,B.b_]at ν;exact ν
theorem pQ {w h:B}(Ϻ:ħ w h L)(bg:j<h):(ib w L j).N=w:=by
 have:=H8 (w:=w) bg
 have:=Ϻ.SC
 unfold ib;rw[kT,Ģ,Y.akX];omega
theorem rg (w h:B)(L:Y B):(ī w h L).N=h:=by simp[ī]
theorem pR {w h:B}(bg:j<h):(ī w h L)[j]?=O (ib w L j):=by
 simp[ī,bg]
theorem H9 (w:B)(L:Y B):∀h:B,((Ć h).ϒ λj=>(L.IR (w*j)).ĵ w).flatten=L.ĵ (w*h)
 | 0=>by simp
 | h+1=>by
  rw[Y.alT,Ε,Y.flatten_append,H9 w L h,B.am8,B.b_];simp[Y.take_add]
theorem Ia:∀ys:Y ϕ,(Txt.join (ϕ.ϝ "") ys).Ch.Ω=(ys.ϒ (·.Ch.Ω)).flatten:=by
 have e:∀ys:Y ϕ,(ϕ.join (ϕ.ϝ "") ys).Ch.Ω=(ys.ϒ (·.Ch.Ω)).flatten:=by
  intro ys;have c6:(ϕ.ϝ "").Ch.Ω=[]:=∅
  induction ys with
  | ń=>rfl
  | θ x r bB=>
   cases r with
   | ń=>simp[ϕ.join]
   | θ y r=>
    show(x++ϕ.ϝ ""++ϕ.join (ϕ.ϝ "") (y::r)).Ch.Ω=_
    rw[Hu,Hu,c6,bB];simp
 intro ys;show(π.ϕ.glued (ϕ.ϝ "") ys).Ch.Ω=_
 rw[StrLaws.glued_eq_join,e]
theorem Ib {w h:B}(Ϻ:ħ w h L):Txt.join (ϕ.ϝ "") (ī w h L)=txt L:=by
 refine uE ?_;rw[Ia,rf];unfold ī;rw[ó];have:((λx:ϕ=>x.Ch.Ω) ∘ ib w L)=λj=>(L.IR (w*j)).ĵ w:=by
  funext j
  exact rf _
 rw[ν,H9,<- Ϻ.SC,İ]
theorem Ic {w h:B}(Ϻ:ħ w h L):((ī w h L).ϒ (·.N)).sum+(ī w h L).N*(ϕ.ϝ "").N<=16777216:=by
 have c6:(ϕ.ϝ "").N=0:=∅
 have:∀n,n<=h->(((Ć n).ϒ (ib w L)).ϒ (·.N)).sum=n*w:=by
  intro n;induction n with
  | HW=>intro _;simp
  | o0 n bB=>
   intro aF;rw[Y.alT,Ε,Ε,Y.alU,bB ⋯];simp[pQ Ϻ (show n<h by omega),B.add_mul]
 unfold ī;rw[c6,ν h (B.ϑ _)];have:=Ç Ϻ.g Ϻ.fQ
 omega
theorem Sz {w h:B}(Ϻ:ħ w h L):∀c∈(ib w L j).Ch.Ω,nt c:=by
 intro c ak;unfold ib at ak;rw[rf]at ak;exact Ϻ.ok c (Y.alb (Y.g_ ak))
def Ó (L:Y B)(i:G):B:=L.œ i.Ο 0
def eG (L:Y B)(i:G):δ:=decide (0<=i)&&decide (i<L.N)&&!decide (Ó L i=35)
def oh (L:Y B):V->δ
 | .M i=>eG L i
 | _=>false
def Is (L:Y B):Y G:=(Ć L.N).ϒ λi=>((i:B):G)
def Õ (L:Y B):Y G:=(Is L).ı λi=>!decide (Ó L i=35)
def oi (L:Y B):Y G:=(Is L).ı λi=>decide (Ó L i=43)
theorem CV {i:G}:i∈Is L↔0<=i/\i<L.N:=by
 unfold Is;rw[Ζ];constructor
 ·rintro⟨j,bg,rfl⟩;have:=ñ.mp bg
  omega
 ·intro h;exact⟨i.Ο,ñ.ļ ⋯,⋯⟩
theorem SA (L:Y B):(Is L).Id (· < ·):=by
 unfold Is;rw[Y.anj];exact Y.Id.Pg (λh=>by omega) Y.pairwise_lt_range
theorem Ie (L:Y B):Õ L=(Is L).ı (eG L):=by
 unfold Õ;refine Y.ank λi aA=>?_;have:=CV.mp aA
 unfold eG;rw[ι ν.1,ι ν.2];rfl
theorem ut {i:G}:i∈Õ L↔eG L i=true:=by
 rw[Ie,ĥ,CV];unfold eG;simp only[Ŵ,Μ];constructor
 ·intro h;exact h.2
 ·intro h;exact⟨h.1,h⟩
def nu (w:B)(c:G):Y G:=[c-w]++(if c%w>0 then [c-1] else [])++(if c%w<(w:G)-1 then [c+1] else [])++[c+w]
def fk (w:B)(L:Y B)(c:G):Y G:=(nu w c).ı (eG L)
def zB (w:B)(L:Y B)(c:G):Y G:=(Õ L).ı λo=>decide ((o/w-c/w)*(o/w-c/w)+(o%w-c%w)*(o%w-c%w)=1)
theorem CW {w h:B}(Ϻ:ħ w h L){c:G}(hx:0<=c)(cI:c<L.N):fk w L c=zB w L c:=by
 have d0:(0:G)<w:=by have:=Ϻ.d0;omega
 have dJ:=Pi c (show(w:G)≠0 by omega)
 have a3:=Y_ c d0
 have zC:=G.ahG c w
 refine H7 ?_ ?_ λo=>?_
 ·unfold fk nu;refine Y.Id.ı _ ?_;by_cases a1:c%w>0<;>by_cases a2:c%w<(w:G)-1<;>simp[a1,a2,Y.ajx]<;>omega
 ·unfold zB Õ;exact((SA L).ı _).ı _
 ·unfold fk zB;rw[ĥ,ĥ,ut,Μ];have OO:o∈nu w c↔o=c-w\/(c%w>0/\o=c-1)\/(c%w<(w:G)-1/\o=c+1)\/o=c+w:=by
   unfold nu;by_cases a1:c%w>0<;>by_cases a2:c%w<(w:G)-1<;>simp[a1,a2]
  rw[OO];constructor
  ·rintro⟨hm,av⟩;refine⟨av,?_⟩;rcases hm with rfl|⟨a1,rfl⟩|⟨a2,rfl⟩|rfl
   ·obtain⟨au,az⟩:=zA (c:=c-w) (b:=c/w-1) (q:=c%w) d0 (by rw[G.am7,G.b_];omega) dJ a3;rw[au,az,show c/(w:G)-1-c/w=-1 by omega,G.alK];rfl
   ·obtain⟨au,az⟩:=zA (c:=c-1) (b:=c/w) (q:=c%w-1) d0 ⋯ ⋯ ⋯;rw[au,az,show c%(w:G)-1-c%w=-1 by omega,G.alK];rfl
   ·obtain⟨au,az⟩:=zA (c:=c+1) (b:=c/w) (q:=c%w+1) d0 ⋯ ⋯ ⋯;rw[au,az,show c%(w:G)+1-c%w=1 by omega,G.alK];rfl
   ·obtain⟨au,az⟩:=zA (c:=c+w) (b:=c/w+1) (q:=c%w) d0 (by rw[G.am8,G.b_];omega) dJ a3;rw[au,az,show c/(w:G)+1-c/w=1 by omega,G.alK];rfl
  ·rintro⟨av,aH⟩;refine⟨?_,av⟩;have mq:=Pi o (show(w:G)≠0 by omega)
   have bG:=Y_ o d0
   have iy:=G.ahG o w
   rcases Sy aH with⟨x0,fW⟩|⟨zD,x1⟩
   ·have e:o/(w:G)=c/w:=⋯
    rw[e]at iy;rcases fW with fW|fW
    ·exact .Œ (.Œ (.ε ⟨⋯,⋯⟩))
    ·exact .Œ (.ε ⟨⋯,⋯⟩)
   ·rcases x1 with x1|x1
    ·have e:o/(w:G)=c/w+1:=⋯
     rw[e,G.am8,G.b_]at iy;exact .Œ (.Œ (.Œ ⋯))
    ·have e:o/(w:G)=c/w-1:=⋯
     rw[e,G.am7,G.b_]at iy;exact .ε ⋯
theorem SD {w h:B}(Ϻ:ħ w h L){c:G}(hx:0<=c)(cI:c<L.N):(c/w).Ο<h/\0<=c/w/\0<=c%w/\c%w<w/\(ib w L (c/w).Ο).Ch.Ω[(c%w).Ο]?=O (Ó L c):=by
 have d0:(0:G)<w:=by have:=Ϻ.d0;omega
 have dJ:=Pi c (show(w:G)≠0 by omega)
 have a3:=Y_ c d0
 have zC:=G.ahG c w
 have lQ:=G.ediv_nonneg hx (show(0:G)<=w by omega)
 obtain⟨j,bg⟩:=Ĺ lQ;obtain⟨r,aO⟩:=Ĺ dJ;rw[bg,aO]at zC ⊢;rw[aO]at a3;have SC:=Ϻ.SC
 have ak:c=((w*j+r:B):G):=by rw[<- zC];simp
 have SE:j<h:=by
  have:w*j<w*h:=⋯
  exact B.lt_of_mul_lt_mul_left ν
 refine⟨by simpa using SE,⋯,⋯,a3,?_⟩;unfold ib Ó;rw[rf,ak];simp only[ũ];rw[Y.aji ⋯,Y.getElem?_drop];have:w*j+r<L.N:=⋯
 simp[ν]
end Fl
variable {cI cE:List Int}
namespace Wy
open PySem L2
def fB (H:ag)(v:V)(b:G)(cs:Y G):Prop:=∃p q,v=.Z p/\H p=O (.Ţ [.M b,.Z q])/\H q=O (.Ţ (cs.ϒ V.M))
theorem fB.ű {b:G}(e:a5 H U)(h:fB H v b cs):fB U v b cs:=by
 obtain⟨p,q,g,ah,aI⟩:=h;exact⟨p,q,g,e _ _ ah,e _ _ aI⟩
def Bj (b:G)(cs:Y G)(t:G):G:=if (cs.N:G)-1<t-b then(cs.N:G)-1 else t-b
def cT (b:G)(cs:Y G)(t:G):V:=if t<b then .br else .M (cs.œ (Bj b cs t).Ο 0)
theorem Ig {b:G}{t:G}(h:b<=t)(ak:cs≠[]):0<=Bj b cs t/\Bj b cs t<cs.N:=by
 have:0<cs.N:=ě.ļ ak
 unfold Bj;split<;>omega
theorem oj (b:G)(cs:Y G)(t:G):cT b cs t=.br\/∃z,cT b cs t=.M z:=by
 unfold cT;split
 ·exact .ε rfl
 ·exact .Œ ⟨_,rfl⟩
theorem uX {b:G}{t:G}:cT b cs t=.br↔t<b:=by
 unfold cT;split
 ·simp_all
 ·simp_all
theorem zE {b:G}{t t':G}(ak:cs≠[])(h:b+(cs.N:G)-1<=t)(h':b+(cs.N:G)-1<=t'):cT b cs t=cT b cs t':=by
 have aw:0<cs.N:=ě.ļ ak
 have e:Bj b cs t=Bj b cs t':=by
  unfold Bj;split<;>split<;>omega
 unfold cT;rw[aD ⋯,aD ⋯,e]
def SF:ϕ:="at"
def SG:ϕ:="through"
def rh (p eB q bC:V):ϣ ϕ:=if p=q then O SF else if eB=q/\bC=p then O SG else none
theorem SH (p eB q bC:V):rh p eB q bC=rh q bC p eB:=by
 unfold rh;by_cases h:p=q
 ·rw[aS h,aS h.symm]
 ·rw[aD h,aD (show ¬q=p from λz=>h z.symm)];by_cases ah:eB=q/\bC=p
  ·rw[aS ah,aS ⟨ah.2,ah.1⟩]
  ·rw[aD ah,aD (λz=>ah ⟨z.2,z.1⟩)]
def ic (b1:G)(cI:Y G)(b2:G)(cE:Y G)(t:G):ϣ ϕ:=rh (cT b1 cI t) (cT b1 cI (t+1)) (cT b2 cE t) (cT b2 cE (t+1))
def jY (b1:G)(cI:Y G)(b2:G)(cE:Y G):ϣ (G×ϕ)->Prop
 | none=>∀t,b1<=t->b2<=t->ic b1 cI b2 cE t=none
 | O (t,w)=>b1<=t/\b2<=t/\ic b1 cI b2 cE t=O w/\∀t',b1<=t'->b2<=t'->t'<t->ic b1 cI b2 cE t'=none
theorem jY.O8 {b1:G}{b2:G}{o bR:ϣ (G×ϕ)}(h:jY b1 cI b2 cE o)(h':jY b1 cI b2 cE bR):o=bR:=by
 cases o with
 | none=>
  cases bR with
  | none=>rfl
  | O x=>
   obtain⟨t,w⟩:=x;obtain⟨g,ah,aI,_⟩:=h';rw[h t g ah]at aI;cases aI
 | O x=>
  obtain⟨t,w⟩:=x;obtain⟨g,ah,aI,bO⟩:=h;cases bR with
  | none=>
   rw[h' t g ah]at aI;cases aI
  | O y=>
   obtain⟨t',eS⟩:=y;obtain⟨g1,g2,g3,lR⟩:=h';have e:t=t':=by
    rcases G.lt_trichotomy t t' with z|z|z
    ·rw[lR t g ah z]at aI;cases aI
    ·exact z
    ·rw[bO t' g1 g2 z]at g3;cases g3
   subst e;rw[aI]at g3;cases g3;rfl
theorem jY.comm {b1:G}{b2:G}{o:ϣ (G×ϕ)}(h:jY b1 cI b2 cE o):jY b2 cE b1 cI o:=by
 have e:∀t,ic b2 cE b1 cI t=ic b1 cI b2 cE t:=λt=>SH _ _ _ _
 cases o with
 | none=>exactλt g ah=>by rw[e];exact h t ah g
 | O x=>
  obtain⟨t,w⟩:=x;obtain⟨g,ah,aI,bO⟩:=h;exact⟨ah,g,by rwa[e],λt' g1 g2 g3=>by rw[e];exact bO t' g2 g1 g3⟩
theorem SI {b1:G}{b2:G}{e t:G}(ri:cI≠[])(pw:cE≠[])(g:b1+(cI.N:G)-1<=e)(ah:b2+(cE.N:G)-1<=e)(bk:e<=t)(h:ic b1 cI b2 cE e=none):ic b1 cI b2 cE t=none:=by
 have a1:cT b1 cI t=cT b1 cI e:=zE ri ⋯ g
 have a2:cT b1 cI (t+1)=cT b1 cI (e+1):=zE ri ⋯ ⋯
 have gP:cT b2 cE t=cT b2 cE e:=zE pw ⋯ ah
 have iE:cT b2 cE (t+1)=cT b2 cE (e+1):=zE pw ⋯ ⋯
 unfold ic at h ⊢;rwa[a1,a2,gP,iE]
theorem jY.am4 {b1:G}{b2:G}{e:G}(ri:cI≠[])(pw:cE≠[])(g:b1+(cI.N:G)-1<=e)(ah:b2+(cE.N:G)-1<=e)(h:∀t,b1<=t->b2<=t->t<=e->ic b1 cI b2 cE t=none):jY b1 cI b2 cE none:=by
 have eL:0<cI.N:=ě.ļ ri
 have eM:0<cE.N:=ě.ļ pw
 intro t g1 g2;by_cases bk:t<=e
 ·exact h t g1 g2 bk
 ·exact SI ri pw g ah ⋯ (h e ⋯ ⋯ (G.ϑ _))
def SJ (H:ag)(r:V):ϣ (G×ϕ)->Prop
 | none=>r=.br
 | O (t,w)=>∃p,r=.Z p/\H p=O (.Ţ [.M t,.str w])
end Wy
namespace L2
open PySem PySem.Spec PyProof.Rows
theorem Ih {k:Ř}(h:(e0 Ϯ w).is k u=true):ţ (bH k) u:=by
 cases k with
 | ε i=>
  cases u<;>simp_all [e0,o5,ϫ.isInt,bH,ţ]
 | Œ x=>
  cases u<;>simp_all [e0,o5,ϫ.isStrOf,bH,ţ]
section
variable {X:Cx}{pins:List (Addr×Obj)}{J:St}{H:ag}{s:Shared}{a:Addr}
theorem Υ.SK {Ϝ:Y (Ř×V)}(I:Υ X ϩ J H s)(e:H a=O (.bL Ϝ)){o:ğ}(av:s.P.ϛ a=O o):Υ X ϩ J (ſ H a (.cW o (.bL Ϝ))) s:=by
 refine I.re e nofun nofun nofun (λo w z=>?_) ⟨av,(show dG X.ϔ X.w H s.P a (.bL Ϝ) from I.a9 a _ e)⟩;have:=I.ϊ.gG a o w z
 rw[e]at ν;cases ν
theorem Υ.thawK {Ϝ:Y (Ř×V)}{o:ğ}(I:Υ X ϩ J H s)(e:H a=O (.cW o (.bL Ϝ)))(cB:∀o w,X.dy a≠O (.cW o w)):Υ X ϩ J (ſ H a (.bL Ϝ)) s:=
 I.re e nofun nofun nofun cB (show dG X.ϔ X.w (ſ H a (.bL Ϝ)) s.P a (.bL Ϝ) from(show dG X.ϔ X.w H s.P a (.cW o (.bL Ϝ)) from I.a9 a _ e).2)
end
def zF (a:Ϩ)(o:ğ)(Ϝ:Y (Ř×V)):g7:=
 ⟨λi H=>H a=O (.cW o (.bL Ϝ))/\i<Ϝ.N,λi H x U=>U=H/\∃k v,x=bH k/\Ϝ[i]?=O (k,v),λi H=>H a=O (.cW o (.bL Ϝ))/\Ϝ.N<=i⟩
theorem pairs_at {C:Y EQ}{d:Y (Ř×ϫ)}(h:Pairs (e0 Ϯ w) C d):∀{i:B}{q:Ř×ϫ},d[i]?=O q->∃e,C[i]?=O e/\(e0 Ϯ w).is q.1 e.Pj=true:=by
 induction h with
 | ń=>intro i q e;cases e
 | θ h _ _ bB=>
  intro i q e;cases i with
  | HW=>cases e;exact⟨_,rfl,h⟩
  | o0 i=>rw[Y.ajM]at e ⊢;exact bB e
theorem Ii (a it:Ϩ)(o:ğ)(Ϝ:Y (Ř×V))(C:μ EQ)(cw:B)(hv:o.Φ=.ï C cw):Bm Ϯ w K c5 (zF a o Ϝ) [it] it (λi h=>h.ah0 it a i C.Ϥ cw) where
 OO:=by simp
 Oy:=λi h E b af=>by
  have e:b=it:=by simpa using af
  subst e;obtain⟨o,e,c,ϻ⟩:=E;exact⟨o,e,λv z=>by rw[ϻ]at z;cases z⟩
 ĭ:=λi h h' E k=>E.at λo e=>k it (by simp) o e
 Ov:=by
  intro X dk hw c9 ak i ϩ s J H ϵ I hf E bF;subst dk hw c9;obtain⟨ao,ai⟩:=bF;obtain⟨hg,z,hd,d,xz,bR,ec,o9,eA,CN,my,uU,uV,SM⟩:=(show dG X.ϔ X.w H s.P a (.cW o (.bL Ϝ)) from I.a9 a _ ao);rw[hg]at eA;cases eA;rw[hv]at my;cases my;obtain⟨bS,lN⟩:∃bS,Ϝ[i]?=O bS:=⟨_,ϡ ai⟩;obtain⟨q,CO,a3,b9⟩:=ϋ.lM xz lN;obtain⟨cy,CX,sJ⟩:=pairs_at uV CO;have CP:C[i]?=O cy:=by simpa using CX
  obtain⟨f0,f1,f2,dv,f4,dP⟩:=hf it (by simp);refine HZ E hg hv CP λh' f6 kC=>?_;have aK:Υ X ϩ J H { s with P:=h' }:=I.Á (t':=s.Χ) (λb o af e=>(kC.2 b af).Ϛ e) f0 f1 dv f4 dP
  obtain⟨ff,e,c,ϻ⟩:=id f6;exact⟨_,rfl,sk (s:={ s with P:=h' }) e c ϻ ∅ ⟨bH q.1,H,aK,Ih sJ,⟨rfl,bS.1,bS.2,by rw[a3],lN⟩,f6,λb af=>(hf b af).1⟩⟩
 done:=by
  intro X dk hw c9 ak i ϩ s J H ϵ I hf E bF;subst dk hw c9;obtain⟨ao,ai⟩:=bF;obtain⟨hg,z,hd,d,xz,bR,ec,o9,eA,CN,my,uU,uV,SM⟩:=(show dG X.ϔ X.w H s.P a (.cW o (.bL Ϝ)) from I.a9 a _ ao);rw[hg]at eA;cases eA;rw[hv]at my;cases my;have Oz:=uV.N
  have aw:=ϋ.N xz
  obtain⟨f0,f1,f2,dv,f4,dP⟩:=hf it (by simp);exact H0 (I.R_ ak) E hg hv (by simp only[μ.H_]at Oz;omega) λh' eb=>⟨rfl,I.Á (t':=s.Χ) (λb o af e=>eb b o af e) f0 f1 dv f4 dP⟩
 self:=λ_ _ _ _ _ E h=>ai8 E h
def ziq (bT:TE):TI:=λJ H R=>bT J H λx H1=>∃a Ϝ,x=.Z a/\((H1 a=O (.bL Ϝ)/\∀o,R (zF a o Ϝ) (ſ H1 a (.cW o (.bL Ϝ))))\/∃o,H1 a=O (.cW o (.bL Ϝ))/\R (zF a o Ϝ) H1)
theorem SN {l:Ġ}(aw:PE X l e3):PI X c5 l (ziq e3):=by
 intro ϩ s J H R I h;refine bA (aw ϩ s J H _ I h) λv s1 ⟨x,H1,aK,bG,a3⟩=>?_;obtain⟨a,Ϝ,e,q⟩:=a3;subst e;cases bG;rcases q with⟨ao,q⟩|⟨o,ao,q⟩
 ·obtain⟨z,hd,d,xz,dd⟩:=B1 aK.a9 ao;obtain⟨o,C,cw,av,ak,hV,_⟩:=dd;refine CL hd av ak hV ?_;have bt:=aK.SK ao av
  refine⟨s1.P.Ϡ.Ϥ,[s1.P.Ϡ.Ϥ],_,_,_,rfl,bt.XL (t':=s1.Χ) λb o e=>ϥ _ e,Ii a _ o Ϝ C cw hV,⟨_,σ _ rfl,rfl,rfl⟩,λb af=>?_,q o⟩;have e:b=s1.P.Ϡ.Ϥ:=by simpa using af
  subst e;exact bt.mb (B.ϑ _) (bt.a9.Ĳ (B.ϑ _))
 ·obtain⟨av,z,hd,d,xz,bR,C,cw,eA,ak,hV,_⟩:=(show dG X.ϔ X.w H1 s1.P a (.cW o (.bL Ϝ)) from aK.a9 a _ ao);rw[av]at eA;cases eA;refine CL hd av ak hV ?_;refine⟨s1.P.Ϡ.Ϥ,[s1.P.Ϡ.Ϥ],_,_,_,rfl,aK.XL (t':=s1.Χ) λb o e=>ϥ _ e,Ii a _ o Ϝ C cw hV,⟨_,σ _ rfl,rfl,rfl⟩,λb af=>?_,q⟩;have e:b=s1.P.Ϡ.Ϥ:=by simpa using af
  subst e;exact aK.mb (B.ϑ _) (aK.a9.Ĳ (B.ϑ _))
def OH.thawK (϶:OH)(a:Ϩ)(Ϝ:Y (Ř×V)):OH where
 aP:=λJ H=>(∃o,H a=O (.cW o (.bL Ϝ)))/\϶.aP J (ſ H a (.bL Ϝ))
 iR:=λv H=>(∃o,H a=O (.cW o (.bL Ϝ)))/\϶.iR v (ſ H a (.bL Ϝ))
 bf:=λJ H=>(∃o,H a=O (.cW o (.bL Ϝ)))/\϶.bf J (ſ H a (.bL Ϝ))
 cb:=λJ H=>(∃o,H a=O (.cW o (.bL Ϝ)))/\϶.cb J (ſ H a (.bL Ϝ))
def zjz (t:TE):TE:=λJ H Q=>(∃a Ϝ,H a=O (.bL Ϝ)/\t J H λv U=>(∃o,U a=O (.cW o (.bL Ϝ)))/\Q v (ſ U a (.bL Ϝ)))\/t J H Q
theorem SO {t:TE}(h:PE X e t):PE X e (zjz t):=by
 intro ϩ s J H Q I q;rcases q with⟨a,Ϝ,bq,q⟩|q
 ·have cB:∀o w,X.dy a≠O (.cW o w):=λo w z=>by
   have:=I.ϊ.gG a o w z
   rw[bq]at ν;cases ν
  refine bA (h ϩ s J H _ I q) λu s' ⟨v,U,eU,ck,⟨o,z⟩,ϻ⟩=>?_;exact⟨v,_,eU.thawK z cB,ck,ϻ⟩
 ·exact h ϩ s J H Q I q
theorem SP {o:ğ}{Ϝ:Y (Ř×V)}(h:H a=O (.cW o (.bL Ϝ))):sE (zF a o Ϝ) H (Ϝ.ϒ λbS=>bH bS.1):=
 ⟨λi aA=>⟨h,by simpa using aA⟩,λi x U aA y=>⟨y.1,by
  obtain⟨_,k,v,e,aq⟩:=y;rw[Ϙ,aq,e];rfl⟩,⟨h,by simp⟩⟩
theorem Υ.sorted {a e:B}{OX:μ ϫ}(I:Υ X ϩ J H s)(aq:∀b o,s.P.ϛ b=O o->h'.ϛ b=O o)(aN:s.P.Ϡ.Ϥ<=a)(hm:Ö OX.Ω ms)(hz:ms.N<=ϓ)(av:h'.ϛ a=O (PR "list" OX e)):Υ X ϩ J (ſ H a (.Ť (ms.ϒ V.M))) { s with P:=h',Χ:=tk }:=
 I.HV (t':=tk) aq aN (show dG X.ϔ X.w _ h' _ (.Ť (ms.ϒ V.M)) from⟨by rwa[ϧ],OX.Ω,e,yY hm,by rw[av]⟩)
section
variable {prog:Program}{w:World}{A:Around}{E:wvP}{s:Shared}{K:Type} [DecidableEq K]{knd:KeyKind prog w K}{d:Addr}{kvs:List (K×Value)}{cw:Nat}
theorem SQ {Q:Y ϫ->ϐ->Prop}(bj:Ϲ.Ē=none)(lo:(ϻ==Ŋ)=false)(hd:s.P.DictAt i_ ϻ Ϝ cw)(aF:Ϝ.N<=ϓ)(h:∀(h':Θ) tk (d:Y ϫ),(∀b o,s.P.ϛ b=O o->h'.ϛ b=O o)->s.P.Ϡ.Ϥ<h'.Ϡ.Ϥ->d.N=Ϝ.N->(∀(j:B)(v:ϫ),d[j]?=O v->∃k x,Ϝ[j]?=O (k,x)/\i_.is k v=true)->Q d { s with P:=h',Χ:=tk }):
  ϙ (ώ ϔ w) Ϲ (am6 (.Z ϻ)) Q ϵ s:=by
 have lt:=hd.τ
 have dq:(s.P.Ũ (PR "list" #[] 0)).ϛ s.P.Ϡ.Ϥ=O (PR "list" #[] 0):=σ _ rfl
 have qD:(s.P.Ũ (PR "list" #[] 0)).DictAt i_ ϻ Ϝ cw:=hd.Ũ _
 unfold am6;refine ax (aiX (Ů entry_proto_collect' (ax (amq (bp ⟨OP.ajy _ ∅,Ů entry_list_iadd' ?_⟩)))));show ϙ (ώ ϔ w) Ϲ.jp (π.Y.aiZ (.Z s.P.Ϡ.Ϥ) (.Z ϻ) (.Z s.P.Ϡ.Ϥ)) _ _ _
 have lay:∀{h':Θ}{tk:B}{wv:μ ϫ}{c:B},(∀b o,b≠s.P.Ϡ.Ϥ->(s.P.Ũ (PR "list" #[] 0)).ϛ b=O o->h'.ϛ b=O o)->h'.ϛ s.P.Ϡ.Ϥ=O { Ŝ:=.χ "list",ï:=none,Φ:=.XV wv c,ē:=#[] }->
   aln (λi v=>∃k x,Ϝ[i]?=O (k,x)/\i_.is k v=true) wv Ϝ.N->Q wv.Ω { s with P:=h',Χ:=tk }:=λ{h'} {tk} {wv} {c} aq aw kP=>
  h h' tk wv.Ω (λb o af=>aq b o (Ι (τ af)) (ϥ _ af)) (τ aw) (by rw[μ.H_];exact kP.1) λj v e=>kP.2 j v (by simpa using e)
 have R:=ϟ.W.kdl_extend (Ϲ:=Ϲ) (s:={ s with P:=s.P.Ũ (PR "list" #[] 0) }) (R:=λr s'=>r=.ok (.b8 (.Z s.P.Ϡ.Ϥ))/\∃wv c,s'.P.ϛ s.P.Ϡ.Ϥ=O { Ŝ:=.χ "list",ï:=none,Φ:=.XV wv c,ē:=#[] }/\Q wv.Ω s')
  (ϟ.W.kdl_dict lo) bj qD s.P.Ϡ.Ϥ (À lt) (À lt) (.Z s.P.Ϡ.Ϥ) 0 dq (λh' tk wv c aq aw kP=>⟨rfl,wv,c,aw,lay aq aw kP⟩) aF
 refine ů R (λf s' y=>?_) λe s' y=>by cases y.1
 cases f with
 | done f=>
  obtain⟨e,wv,c,aw,q⟩:=y;cases e;exact ax (aic aw (bp q))
 | amD aX=>
  refine⟨y.1,Wp y.2 λr s2 z=>?_⟩;obtain⟨e,wv,c,aw,q⟩:=z;subst e;exact ax (aic aw (bp q))
theorem SR (bj:Ϲ.Ē=none)(lo:(ϻ==Ŋ)=false)(hd:s.P.DictAt i_ ϻ Ϝ cw)(aF:Ϝ.N<64)(pJ:∀d:Y ϫ,d.N=Ϝ.N->(∀(j:B)(v:ϫ),d[j]?=O v->∃k x,Ϝ[j]?=O (k,x)/\i_.is k v=true)->Ö d ns)(h:∀(h':Θ)(tk:B)(a e:B)(OX:μ ϫ)(ms:Y G),(∀b o,s.P.ϛ b=O o->h'.ϛ b=O o)->s.P.Ϡ.Ϥ<=a->h'.ϛ a=O (PR "list" OX e)->Ö OX.Ω ms->ms.Perm ns->ms.Id (·<=·)->Q (.Z a) { s with P:=h',Χ:=tk }):
  ϙ (ώ ϔ w) Ϲ (WP (.ο "sorted") [.Z ϻ]) Q ϵ s:=by
 refine ê.call_function_entry kind_sorted plain_sorted entry_sorted (args_sorted1 (.Z ϻ)) (show ϙ _ _ (Builtin.«sorted» _) _ _ _ from ?_);unfold Builtin.«sorted»;refine ax (m:=checkCount "sorted" 1 1 _) (bp (ax (SQ bj lo hd (by rw[ρ];omega) λg tk d aq le aw aG=>ax (amq ?_))));have t4:(g.Ũ (PR "list" d.ϗ 0)).ϛ g.Ϡ.Ϥ=O (PR "list" d.ϗ 0):=σ _ rfl
 have he:∀OX:μ ϫ,∃e,(sortedHeap (g.Ũ (PR "list" d.ϗ 0)) g.Ϡ.Ϥ d OX).ϛ g.Ϡ.Ϥ=O (PR "list" OX e):=λOX=>sortedHeap_at t4
 have XL:∀(OX:μ ϫ) b o,s.P.ϛ b=O o->(sortedHeap (g.Ũ (PR "list" d.ϗ 0)) g.Ϡ.Ϥ d OX).ϛ b=O o:=λOX b o af=>by
  have eL:=τ (aq b o af)
  rw[sortedHeap_old (Ι eL) (by rw[size_push'];exact B.ahO eL)];exact ϥ _ (aq b o af)
 refine ax (Ν (Ż slot_list_sort ⟨_,t4,rfl⟩ entry_list_sort (list_sort_tree t4 (pJ d aw aG) ⋯ λOX ms p1 dp fU=>⟨.none,rfl,bp ⟨_,rfl,?_⟩⟩) (args_list_sort _)));obtain⟨e,he⟩:=he OX;exact h _ tk _ e OX ms (XL OX) (B.aiM le) he p1 dp fU
end
theorem Ij {Ϯ:Č}{w:Þ}:∀(ks:Y G)(us:Y ϫ),us.N=ks.N->(∀(j:B)(v:ϫ),us[j]?=O v->∃k,ks[j]?=O k/\(e0 Ϯ w).is (.ε k) v=true)->Ö us ks
 | [],[],_,_=>.ń
 | [],_::_,h,_=>by simp at h
 | _::_,[],h,_=>by simp at h
 | k::ks,u::us,h,f=>by
  obtain⟨ha,e,aq⟩:=f 0 u rfl;cases e;obtain⟨t,rfl⟩:=(show ∃t,u=ϫ.M k t from Ih aq);exact .θ k t (Ij ks us (by simpa using h) λj v e=>by
   obtain⟨ha,bq,h'⟩:=f (j+1) v (by simpa using e);exact⟨ha,by simpa using bq,h'⟩)
theorem SS {Ϝ:Y (G×V)}{d:Y (Ř×ϫ)}(xz:fp (Ϝ.ϒ λq=>((IZ.ε q.1:Ř),q.2)) d){k:Ř}{x:ϫ}(h:d[j]?=O (k,x)):∃n,(Ϝ.ϒ (·.1))[j]?=O n/\k=.ε n:=by
 obtain⟨q,ao,e,_⟩:=ϋ.Ph xz h;rw[Ϙ]at ao;obtain⟨p,ay,rfl⟩:=ξ.mp ao;exact⟨p.1,by rw[Ϙ,ay];rfl,e.symm⟩
theorem SU (ak:X.R_=true):ho X (.ο "sorted") (λF H Q=>∃p,∃Ϝ:Y (G×V),F=[.Z p]/\lq H p (.bL (Ϝ.ϒ λq=>((IZ.ε q.1:Ř),q.2)))/\Ϝ.N<64/\
  ∀ms:Y G,ms.Perm (Ϝ.ϒ (·.1))->ms.Id (·<=·)->∀l,H l=none->Q (.Z l) (ſ H l (.Ť (ms.ϒ V.M)))):=by
 intro ϩ s J H F us Q I r h;obtain⟨p,Ϝ,rfl,e,aw,q⟩:=h;obtain⟨u,rfl,bc⟩:=wT r;cases bc;obtain⟨z,hd,d,xz,o,C,cw,W_⟩:=n5 I.a9 e;have lv:d.N=Ϝ.N:=by rw[<- xz.N,ϧ]
 refine SR (i_:=e0 X.ϔ X.w) (ns:=Ϝ.ϒ (·.1)) (I.ok.hd ak) hd ⟨o,C,W_⟩ ⋯ (λws hw aG=>Ij (Ϯ:=X.ϔ) (w:=X.w) _ ws (by rw[hw,lv,ϧ]) λj v e=>?_) λh' tk a e OX ms aq aN av g ah aI=>?_
 ·obtain⟨k,x,ai,sJ⟩:=aG j v e;obtain⟨n,aF,rfl⟩:=SS xz ai;exact⟨n,aF,sJ⟩
 ·have hm:=ah.length_eq
  rw[ϧ]at hm;exact⟨.Z a,_,I.sorted (tk:=tk) aq aN g (by rw[ρ];omega) av,rfl,q ms ah aI _ (I.a9.Ĳ aN)⟩
end L2
variable {c aX:List Int}{cc cell:Int}
namespace Bk
open PySem L2 Wy
def pS (b:G)(c:Y G):Prop:=c≠[]/\c.N<=20000/\0<=b/\b<=20000
structure Ĕ where
 k:G
 v:V
 b:G
 c:Y G
def bS (C:Y Ĕ):Y (G×V):=C.ϒ λe=>(e.k,e.v)
def gB (C:Y Ĕ):Y (Ř×V):=(bS C).ϒ λq=>((IZ.ε q.1:Ř),q.2)
def SV (k:G):Prop:=0<=k/\k<=40
def Ik (H:ag)(e:Ĕ):Prop:=fB H e.v e.b e.c/\pS e.b e.c/\SV e.k
structure i4 (H:ag)(C:Y Ĕ):Prop where
 ok:∀e∈C,Ik H e
 nd:(C.ϒ (·.k)).Α
def fC (H U:ag):Prop:=∀b F,H b=O (.Ţ F)->U b=O (.Ţ F)
theorem mA (s:a5 H U):fC H U:=λb F h=>s b _ h
theorem fB.dh {b:G}(t:fC H U)(h:fB H v b c):fB U v b c:=by
 obtain⟨p,q,e,g,ah⟩:=h;exact⟨p,q,e,t _ _ g,t _ _ ah⟩
theorem i4.dh {C:Y Ĕ}(h:i4 H C)(t:fC H U):i4 U C:=⟨λe he=>⟨fB.dh t (h.ok e he).1,(h.ok e he).2⟩,h.nd⟩
theorem len_sub:∀{l m:Y G},l.Α->(∀x∈l,x∈m)->l.N<=m.N
 | [],m,_,_=>ł _
 | x::l,m,nd,h=>by
  have ai:=h x (by simp)
  have bB:=len_sub (l:=l) (m:=m.erase x) (ŉ.mp nd).2 λy aU=>(Y.alc (show y≠x from λz=>(ŉ.mp nd).1 (by rwa[<- z]))).ļ (h y (by simp[aU]))
  have e:=Y.ajj ai
  have:0<m.N:=Y.akm ai
  simp only[ŵ];omega
theorem i4.SC {C:Y Ĕ}(h:i4 H C):C.N<=41:=by
 have:=len_sub (m:=(Ć 41).ϒ λj:B=>(j:G)) h.nd (λx ai=>by
  obtain⟨e,he,rfl⟩:=Ζ.mp ai;obtain⟨h0,g⟩:=(h.ok e he).2.2;exact Ζ.ļ ⟨e.k.Ο,ñ.ļ ⋯,⋯⟩)
 simpa using ν
def zG (C:Y Ĕ)(n:G):Y Ĕ:=C.ı λe=>decide (e.k≠n)
def iF (C:Y Ĕ)(e:Ĕ):Y Ĕ:=if (C.J_ λx=>decide (x.k=e.k))=true then C.ϒ (λx=>if x.k=e.k then e else x) else C++[e]
theorem sL {C:Y Ĕ}{e:Ĕ}(nd:(C.ϒ (·.k)).Α)(he:e∈C):aW (gB C) (.ε e.k)=O e.v:=by
 induction C with
 | ń=>cases he
 | θ x C bB=>
  by_cases z:x.k=e.k
  ·rcases ς.mp he with rfl|he
   ·exact jS (p:=((IZ.ε e.k:Ř),e.v)) rfl
   ·exact bJ (Ζ.ļ ⟨e,he,z.symm⟩) (ŉ.mp nd).1
  ·rcases ς.mp he with rfl|he
   ·exact bJ rfl z
   ·exact(jT (p:=((IZ.ε x.k:Ř),x.v)) (λy=>z (IZ.ε.W1 y))).Ϛ (bB (ŉ.mp nd).2 he)
theorem Il {C:Y Ĕ}{e bq:Ĕ}(nd:(C.ϒ (·.k)).Α)(he:e∈C)(jr:bq∈C)(h:bq.k=e.k):bq=e:=by
 induction C with
 | ń=>cases he
 | θ x C bB=>
  obtain⟨aP,de⟩:=ŉ.mp nd;rcases ς.mp he with z|z<;>rcases ς.mp jr with y|y
  ·rw[z,y]
  ·exact bJ (Ζ.ļ ⟨bq,y,by rw[h,z]⟩) aP
  ·exact bJ (Ζ.ļ ⟨e,z,by rw[<- h,y]⟩) aP
  ·exact bB de z y
theorem Im (C:Y Ĕ):(gB C).N=C.N:=by simp[gB,bS]
theorem SW (C:Y Ĕ):(bS C).N=C.N:=by simp[bS]
theorem SX (C:Y Ĕ):(bS C).ϒ (·.1)=C.ϒ (·.k):=by simp[bS]
theorem SY (C:Y Ĕ)(n:G):((gB C).J_ λbS=>decide (bS.1=IZ.ε n))=C.J_ λx=>decide (x.k=n):=by
 unfold gB bS;rw[ó,Y.any_map];refine ż (λf=>Y.J_ C f) (funext λx=>?_);simp[alL.comp]
theorem S0 (C:Y Ĕ)(e:Ĕ):ß (gB C) (.ε e.k) e.v=gB (iF C e):=by
 unfold ß iF;rw[SY];split
 ·unfold gB bS;simp only[ó];refine Ù λx _=>?_;simp only[alL.comp];by_cases z:x.k=e.k
  ·rw[aS (by rw[z]),aS z,z]
  ·rw[aD (λy=>z (IZ.ε.W1 y)),aD z]
 ·simp[gB,bS]
theorem i4.put {C:Y Ĕ}{e:Ĕ}(h:i4 H C)(he:Ik H e):i4 H (iF C e):=by
 unfold iF;split
 ·refine⟨λx ai=>?_,?_⟩
  ·obtain⟨y,aU,rfl⟩:=Ζ.mp ai;split
   ·exact he
   ·exact h.ok y aU
  ·have:(C.ϒ λx=>if x.k=e.k then e else x).ϒ (·.k)=C.ϒ (·.k):=by
    rw[ó];refine Ù λx _=>?_;simp only[alL.comp];split
    ·rename_i z;exact z.symm
    ·rfl
   rw[ν];exact h.nd
 ·rename_i aF;refine⟨λx ai=>?_,?_⟩
  ·rcases κ.mp ai with z|z
   ·exact h.ok x z
   ·rwa[ϖ.mp z]
  ·rw[Ε];refine B8 h.nd λz=>aF ?_;obtain⟨y,aU,au⟩:=Ζ.mp z;exact ú.ļ ⟨y,aU,ι au⟩
theorem i4.IR {C:Y Ĕ}(n:G)(h:i4 H C):i4 H (zG C n):=
 ⟨λe he=>h.ok e (ĥ.mp he).1,(Y.Sublist.ϒ _ Y.filter_sublist).nodup h.nd⟩
def ie (b:G)(c:Y G)(cc:G)(aX:Y G):Prop:=∃x,jY b c cc aX (O x)
theorem Io {b:G}{o:ϣ (G×ϕ)}(h:jY b c cc aX o):ie b c cc aX↔o.Ĵ=true:=by
 constructor
 ·rintro⟨x,ai⟩;rw[h.O8 ai];rfl
 ·intro z;obtain⟨x,rfl⟩:=z_.mp z;exact⟨x,h⟩
def uY (C:Y Ĕ)(n b:G)(c:Y G):ϣ G->Prop
 | none=>∀e∈C,e.k≠n->¬ie b c e.b e.c
 | O k=>k≠n/\(∃e∈C,e.k=k/\ie b c e.b e.c)/\∀e∈C,e.k≠n->ie b c e.b e.c->k<=e.k
theorem S1 {C:Y Ĕ}{n b:G}(ay:ms.Perm (C.ϒ (·.k)))(h:∀e∈C,e.k∈ms.ĵ ms.N->e.k≠n->¬ie b c e.b e.c):uY C n b c none:=
 λe he aF=>h e he (by rw[İ];exact ay.mem_iff.ļ (Ζ.ļ ⟨e,he,rfl⟩)) aF
theorem S2 {C:Y Ĕ}{n b:G}{e:Ĕ}(ay:ms.Perm (C.ϒ (·.k)))(aH:ms.Id (·<=·))(aA:ms[i]?=O e.k)(he:e∈C)(aF:e.k≠n)(hm:ie b c e.b e.c)(h:∀e∈C,e.k∈ms.ĵ i->e.k≠n->¬ie b c e.b e.c):uY C n b c (O e.k):=by
 refine⟨aF,⟨e,he,rfl,hm⟩,λbq jr Bc mw=>?_⟩;have mz:bq.k∈ms:=ay.mem_iff.ļ (Ζ.ļ ⟨bq,jr,rfl⟩)
 obtain⟨j,bg⟩:=Y.s0.mp mz;by_cases z:j<i
 ·exact bJ mw (h bq jr (Y.s0.ļ ⟨j,by rwa[Y.getElem?_take,aS z]⟩) Bc)
 ·rcases B.anQ i j with y|y
  ·exact Y.k_.mp aH i j (Y.Ϧ.mp aA).1 (Y.Ϧ.mp bg).1 y |> λq=>by
    rw[(Y.Ϧ.mp aA).2,(Y.Ϧ.mp bg).2]at q;exact q
  ·obtain rfl:i=j:=⋯;have:=ϣ.O.W1 (aA.symm.Ϛ bg)
   omega
theorem Ip {C:Y Ĕ}{n b:G}{k:G}(aA:ms[i]?=O k)(h:∀e∈C,e.k∈ms.ĵ i->e.k≠n->¬ie b c e.b e.c)(ah:∀e∈C,e.k=k->e.k≠n->¬ie b c e.b e.c):∀e∈C,e.k∈ms.ĵ (i+1)->e.k≠n->¬ie b c e.b e.c:=λe he bk aF=>by
 rw[ė,aA]at bk;rcases κ.mp bk with z|z
 ·exact h e he z aF
 ·exact ah e he (by simpa using z) aF
def wl (ϻ:Ϩ):Y (ϕ×V):=cu "ways" (.Z ϻ) []
theorem rj (ϻ:Ϩ):(wl ϻ).Ϣ ("ways":ϕ)=O (.Z ϻ):=by unfold wl;rw[cL,aS rfl]
theorem js (ϻ:Ϩ){f:ϕ}(h:f≠"ways"):(wl ϻ).Ϣ f=none:=by unfold wl;rw[cL,aD h];rfl
structure nv (Ϸ:Ϩ)(H:ag)(p ϻ:Ϩ)(C:Y Ĕ):Prop where
 ob:∃dx,H p=O (.Â Ϸ dx (wl ϻ))
 a4:H ϻ=O (.bL (gB C))
def cM (k:Ϩ)(H U:ag):Prop:=∀b o,H b=O o->b≠k->U b=O o
theorem jt {k:Ϩ}(s:a5 H U):cM k H U:=λb o h _=>s b o h
theorem mB {k:Ϩ}{o:bb}(s:cM k H H1):cM k H (ſ H1 k o):=λb u h n=>by rw[aE n];exact s b u h n
theorem cM.OR {k:Ϩ}{o:bb}(s:cM k H H1)(nl:H1 l=none):cM k H (ſ H1 l o):=λb u h n=>(zj nl) b u (s b u h n)
theorem cM.dh {k:Ϩ}(s:cM k H U)(h:∀F,H k≠O (.Ţ F)):fC H U:=λb F e=>s b _ e λz=>h F (z ▸ e)
theorem nv.ű {C:Y Ĕ}(h:nv Ϸ H p ϻ C)(s:a5 H U):nv Ϸ U p ϻ C:=⟨by obtain⟨dx,e⟩:=h.ob;exact⟨dx,s _ _ e⟩,s _ _ h.a4⟩
structure Row where
 p:Ϩ
 ϻ:Ϩ
 e:Ϩ
 C:Y Ĕ
structure Apart (r s:Row):Prop where
 dd:r.ϻ≠s.ϻ
 af2:r.ϻ≠s.e
 Iq:r.e≠s.ϻ
 af3:r.e≠s.e
structure S3 (Ϸ:Ϩ)(H:ag)(r:Row):Prop where
 bf:nv Ϸ H r.p r.ϻ r.C
 dU:H r.e=O (.bL (gB r.C))
 cy:i4 H r.C
 ne:r.ϻ≠r.e
structure KK (Ϸ:Ϩ)(H:ag)(rs:Y Row):Prop where
 ok:∀r∈rs,S3 Ϸ H r
 ap:∀(i j:B)(r s:Row),rs[i]?=O r->rs[j]?=O s->i≠j->Apart r s
theorem Gj (f:Row->α){rs:Y Row}{w:B}{r cG:Row}(hw:rs[w]?=O r)(h:f cG=f r):(rs.mt w cG).ϒ f=rs.ϒ f:=by
 rw[am9,h];refine Y.akb λi=>?_;rw[Y.getElem?_set];by_cases z:w=i
 ·subst z;rw[aS rfl,Ϙ,hw];simp[(Y.Ϧ.mp hw).1]
 ·rw[aD z]
theorem made {x:Ϩ}{hy ff ig uZ:bb}(aP:H x=none)(lS:H dx=none)(nn:dx≠x)(h8:ſ (ſ H dx hy) x ff ϻ=none):a5 H (ſ (ſ (ſ (ſ H dx hy) x ff) ϻ ig) x uZ)/\ϻ≠x/\H ϻ=none:=by
 have sM:ϻ≠x:=λz=>by rw[z,aQ]at h8;cases h8
 have dd:ϻ≠dx:=λz=>by rw[aE sM,z,aQ]at h8;cases h8
 have hd:H ϻ=none:=by rw[aE sM,aE dd]at h8;exact h8
 refine⟨λb o e=>?_,sM,hd⟩;rwa[aE (cF e aP),aE (cF e hd),aE (cF e aP),aE (cF e lS)]
theorem S4 (b:G)(c:Y G)(cc:G)(aX:Y G):∃o,jY b c cc aX o:=by
 by_cases h:∃t,b<=t/\cc<=t/\ic b c cc aX t≠none
 ·obtain⟨t,g,ah,aI⟩:=h;have go:∀(n:B)(t:G),b<=t->cc<=t->(t-b).Ο<n->ic b c cc aX t≠none->∃o,jY b c cc aX o:=by
   intro n;induction n with
   | HW=>intro t _ _ aF _;omega
   | o0 n bB=>
    intro t g ah aF aI;by_cases z:∃t',b<=t'/\cc<=t'/\t'<t/\ic b c cc aX t'≠none
    ·obtain⟨t',g1,g2,g3,lR⟩:=z;exact bB t' g1 g2 ⋯ lR
    ·cases hw:ic b c cc aX t with
     | none=>exact bJ hw aI
     | O w=>exact⟨O (t,w),g,ah,hw,λt' g1 g2 g3=>TD.f_ λlR=>z ⟨t',g1,g2,g3,lR⟩⟩
  exact go _ t g ah (a_ _) aI
 ·exact⟨none,λt g ah=>TD.f_ λϺ=>h ⟨t,g,ah,Ϻ⟩⟩
theorem Ir {b:G}(h:¬ie b c cc aX):jY b c cc aX none:=by
 obtain⟨o,av⟩:=S4 b c cc aX;cases o with
 | none=>exact av
 | O x=>exact bJ ⟨x,av⟩ h
theorem S5 {b:G}(h:ie b c cc aX):ie cc aX b c:=by
 obtain⟨x,ai⟩:=h;exact⟨x,ai.comm⟩
def i5 (C:Y Ĕ):Prop:=∀e∈C,∀bq∈C,e.k≠bq.k->¬ie e.b e.c bq.b bq.c
theorem i5.put {C:Y Ĕ}{n b:G}(h:i5 C)(p:uY C n b c none):i5 (iF C ⟨n,v,b,c⟩):=by
 have OO:∀x∈iF C ⟨n,v,b,c⟩,x=⟨n,v,b,c⟩\/(x∈C/\x.k≠n):=λx ai=>by
  unfold iF at ai;split at ai
  ·obtain⟨y,aU,rfl⟩:=Ζ.mp ai;split
   ·exact .ε rfl
   ·rename_i z;exact .Œ ⟨aU,z⟩
  ·rename_i aF;rcases κ.mp ai with z|z
   ·exact .Œ ⟨z,λy=>aF (ú.ļ ⟨x,z,ι y⟩)⟩
   ·exact .ε (ϖ.mp z)
 intro e he bq jr bD hm;rcases OO e he with rfl|⟨dH,cz⟩<;>rcases OO bq jr with rfl|⟨di,cS⟩
 ·exact bD rfl
 ·exact p bq di cS hm
 ·exact p e dH cz (S5 hm)
 ·exact h e dH bq di bD hm
theorem i5.Pd {C aJ:Y Ĕ}(h:i5 C)(s:∀x∈aJ,x∈C):i5 aJ:=λe he bq jr bD hm=>h e (s e he) bq (s bq jr) bD hm
theorem S6 {b:G}{t z:G}(h:¬ie b c cc aX)(p:cT b c t=.M z)(q:cT cc aX t=.M z):Ō:=by
 have g:b<=t:=G.not_lt.mp λy=>by rw[uX.ļ y]at p;cases p
 have ah:cc<=t:=G.not_lt.mp λy=>by rw[uX.ļ y]at q;cases q
 have:=Ir h t g ah
 unfold ic rh at ν;rw[p,q,aS rfl]at ν;cases ν
def c7 (C:Y Ĕ)(n:G):Y Ĕ:=zG C n
theorem pT {C:Y Ĕ}{n:G}{e:Ĕ}:e∈c7 C n↔e∈C/\e.k≠n:=by simp[c7,zG]
structure mC (C:Y Ĕ)(t:G)(Ϝ:Y (Ř×V)):Prop where
 rk:∀(z:G)(v:V),aW Ϝ (IZ.ε z)=O v->∃e∈C,cT e.b e.c (t+1)=.M z/\cT e.b e.c t=v
 to:∀e∈C,∀z:G,cT e.b e.c (t+1)=.M z->(aW Ϝ (IZ.ε z)).Ĵ=true
 SC:Ϝ.N<=C.N
def zH (C:Y Ĕ)(φ Κ t:G):Prop:=∀e∈C,cT e.b e.c (t+1)≠.M Κ/\¬(cT e.b e.c t=.M Κ/\cT e.b e.c (t+1)=.M φ)
theorem S7 {C:Y Ĕ}{t Κ:G}{Ϝ:Y (Ř×V)}(h:mC C t Ϝ)(a:i5 C)(nd:(C.ϒ (·.k)).Α):(aW Ϝ (IZ.ε Κ)=none/\(aW Ϝ (IZ.ε φ)).œ .br≠.M Κ)↔zH C φ Κ t:=by
 constructor
 ·rintro⟨g,ah⟩ e he;refine⟨λz=>?_,λz=>?_⟩
  ·have:=h.to e he Κ z
   rw[g]at ν;cases ν
  ·obtain⟨cQ,da⟩:=z;obtain⟨v,aG⟩:=z_.mp (h.to e he φ da);obtain⟨az,di,dp,b9⟩:=h.rk φ v aG
   by_cases dK:az.k=e.k
   ·rw[Il nd he di dK,cQ]at b9;exact ah (by rw[aG,<- b9];rfl)
   ·exact S6 (a az di e he dK) dp da
 ·intro o;refine⟨?_,λz=>?_⟩
  ·cases aG:aW Ϝ (IZ.ε Κ) with
   | none=>rfl
   | O v=>
    obtain⟨e,he,p,_⟩:=h.rk Κ v aG
    exact bJ p (o e he).1
  ·cases aG:aW Ϝ (IZ.ε φ) with
   | none=>rw[aG]at z;cases z
   | O v=>
    rw[aG]at z;obtain⟨e,he,p,q⟩:=h.rk φ v aG
    exact(o e he).2 ⟨by rwa[q],p⟩
theorem S8 {t:G}:mC [] t []:=⟨λz v h=>(by cases h),λe he=>(by cases he),B.ϑ _⟩
theorem S9 {C:Y Ĕ}{t:G}{Ϝ:Y (Ř×V)}{e:Ĕ}(h:mC C t Ϝ)(p:cT e.b e.c (t+1)=.br):mC (C++[e]) t Ϝ:=by
 refine⟨λz v aG=>?_,λx ai z rl=>?_,by rw[υ];have:=h.SC;omega⟩
 ·obtain⟨x,ai,r⟩:=h.rk z v aG
  exact⟨x,κ.ļ (.ε ai),r⟩
 ·rcases κ.mp ai with y|y
  ·exact h.to x y z rl
  ·rw[ϖ.mp y,p]at rl;cases rl
theorem Ta {C:Y Ĕ}{t:G}{Ϝ zI:Y (Ř×V)}{e:Ĕ}{lT:G}(h:mC C t Ϝ)(p:cT e.b e.c (t+1)=.M lT)(aG:∀j,aW zI j=if j=IZ.ε lT then O (cT e.b e.c t) else aW Ϝ j)(aw:zI.N<=Ϝ.N+1):mC (C++[e]) t zI:=by
 refine⟨λz v hz=>?_,λx ai z rl=>?_,by rw[υ];have:=h.SC;simp;omega⟩
 ·rw[aG]at hz;split at hz
  ·rename_i y;cases y;exact⟨e,by simp,p,ϣ.O.W1 hz⟩
  ·obtain⟨x,ai,r⟩:=h.rk z v hz
   exact⟨x,κ.ļ (.ε ai),r⟩
 ·rw[aG];split
  ·rfl
  ·rename_i y;rcases κ.mp ai with w|w
   ·exact h.to x w z rl
   ·rw[ϖ.mp w,p]at rl;cases rl;exact bJ rfl y
def fu (c:Y G):G:=c.œ (c.N-1) 0
structure mD (C:Y Ĕ)(φ n:G):Prop where
 ŷ:0<=n
 low:∀e∈C,∀t,0<=t->cT e.b e.c t=.M φ->t<n
 SZ:n=0\/∃e∈C,cT e.b e.c (n-1)=.M φ
theorem mD.O8 {C:Y Ĕ}{n gI:G}(h:mD C φ n)(h':mD C φ gI):n=gI:=by
 have Pb:∀{n gI:G},mD C φ n->mD C φ gI->¬n<gI:=λ{n gI} h h' z=>by
  rcases h'.SZ with y|⟨e,he,p⟩
  ·have:=h.ŷ;omega
  ·have:=h.low e he (gI-1) (by have:=h.ŷ;omega) p
   omega
 have:=Pb h h'
 have:=Pb h' h
 omega
def om (C:Y Ĕ)(φ:G)(v:V):Prop:=(v=.br/\∃e∈C,fu e.c=φ)\/∃n,v=.M n/\(∀e∈C,fu e.c≠φ)/\mD C φ n
theorem om.O8 {C:Y Ĕ}{eT:V}(h:om C φ v)(h':om C φ eT):v=eT:=by
 rcases h with⟨g,e,he,ah⟩|⟨n,g,ah,aI⟩<;>rcases h' with⟨g1,bq,ge,g2⟩|⟨gI,g1,g2,g3⟩
 ·rw[g,g1]
 ·exact bJ ah (g2 e he)
 ·exact bJ g2 (ah bq ge)
 ·rw[g,g1,aI.O8 g3]
def u0 (b:G)(c:Y G)(φ n:G)(m:B):Prop:=(n=0/\∀i,i<m->c[i]?≠O φ)\/∃i,i<m/\c[i]?=O φ/\n=b+(i:B)+1/\∀j,i<j->j<m->c[j]?≠O φ
theorem Tb {b:G}{n x:G}{m:B}(h:u0 b c φ n m)(ai:c[m]?=O x):u0 b c φ (if x=φ then b+(m:B)+1 else n) (m+1):=by
 split
 ·rename_i z;subst z;exact .Œ ⟨m,a_ _,ai,rfl,λj g ah=>by omega⟩
 ·rename_i z;rcases h with⟨g,ah⟩|⟨i,g,ah,aI,bO⟩
  ·refine .ε ⟨g,λi aA y=>?_⟩;rcases B.j_.mp aA with w|w
   ·exact ah i w y
   ·rw[w,ai]at y;exact z (ϣ.O.W1 y)
  ·refine .Œ ⟨i,⋯,ah,aI,λj g1 g2 y=>?_⟩;rcases B.j_.mp g2 with w|w
   ·exact bO j g1 w y
   ·rw[w,ai]at y;exact z (ϣ.O.W1 y)
theorem Tc {b:G}{x:G}(aA:c[i]?=O x):cT b c (b+(i:B))=.M x:=by
 obtain⟨g,ah⟩:=Y.Ϧ.mp aA;have e:Bj b c (b+(i:B))=(i:B):=by
  unfold Bj;rw[aD ⋯];omega
 unfold cT;rw[aD ⋯,e,ũ,Ş,aA];rfl
theorem It {b:G}{t:G}(ak:c≠[])(aw:fu c≠φ)(h:cT b c t=.M φ):∃i:B,c[i]?=O φ/\t=b+(i:B):=by
 have ih:0<c.N:=ě.ļ ak
 have g:b<=t:=G.not_lt.mp λy=>by rw[uX.ļ y]at h;cases h
 have h':=h
 unfold cT at h';rw[aD ⋯]at h';by_cases z:(c.N:G)-1<t-b
 ·have e:Bj b c t=(c.N:G)-1:=by unfold Bj;rw[aS z]
  rw[e,show((c.N:G)-1).Ο=c.N-1 by omega]at h';exact bJ (V.M.W1 h') aw
 ·have e:Bj b c t=t-b:=by unfold Bj;rw[aD z]
  rw[e]at h';have aA:(t-b).Ο<c.N:=⋯
  refine⟨(t-b).Ο,?_,⋯⟩;rw[Ş,ϡ aA]at h';rw[ϡ aA];exact ż O (V.M.W1 h')
theorem Td:mD [] φ 0:=⟨G.ϑ _,λe he=>(by cases he),.ε rfl⟩
theorem Te {C:Y Ĕ}{n m:G}{e:Ĕ}(h:mD C φ n)(ak:e.c≠[])(i6:0<=e.b)(aw:fu e.c≠φ)(hm:u0 e.b e.c φ m e.c.N):mD (C++[e]) φ (if m>n then m else n):=by
 have OZ:∀{x:G},n<=x->(∀t,0<=t->cT e.b e.c t=.M φ->t<x)->∀y∈C++[e],∀t,0<=t->cT y.b y.c t=.M φ->t<x:=λ{x} g ah y aU t t0 p=>by
  rcases κ.mp aU with w|w
  ·have:=h.low y w t t0 p;omega
  ·rw[ϖ.mp w]at p;exact ah t t0 p
 have ay:=h.ŷ
 rcases hm with⟨g,ah⟩|⟨i,g,ah,aI,bO⟩
 ·rw[aD ⋯];refine⟨ay,OZ (G.ϑ _) (λt t0 p=>?_),h.SZ.Pg id λ⟨y,aU,r⟩=>⟨y,κ.ļ (.ε aU),r⟩⟩;obtain⟨i,aA,_⟩:=It ak aw p;exact bJ aA (ah i (Y.Ϧ.mp aA).1)
 ·have Đ:∀t,0<=t->cT e.b e.c t=.M φ->t<m:=λt t0 p=>by
   obtain⟨j,bg,kU⟩:=It ak aw p;by_cases z:i<j
   ·exact bJ bg (bO j z (Y.Ϧ.mp bg).1)
   ·omega
  by_cases z:m>n
  ·rw[aS z];refine⟨⋯,OZ ⋯ Đ,.Œ ⟨e,by simp,?_⟩⟩;rw[aI,show e.b+(i:B)+1-1=e.b+(i:B) by omega];exact Tc ah
  ·rw[aD z];exact⟨ay,OZ (G.ϑ _) (λt t0 p=>by have:=Đ t t0 p;omega),h.SZ.Pg id λ⟨y,aU,r⟩=>⟨y,κ.ļ (.ε aU),r⟩⟩
theorem u1 {b:G}{t:G}(ak:c≠[])(h:b+(c.N:G)-1<=t):cT b c t=.M (fu c):=by
 have ih:0<c.N:=ě.ļ ak
 unfold cT;rw[aD ⋯];have e:(Bj b c t).Ο=c.N-1:=by
  unfold Bj;split<;>omega
 rw[e];rfl
def u2 (n:G):V->δ
 | .M k=>decide (k≠n)
 | _=>true
def CY (C:Y Ĕ):V->V
 | .M k=>(aW (gB C) (IZ.ε k)).œ .br
 | _=>.br
theorem CZ (C:Y Ĕ):((gB C).ϒ λbS=>bH bS.1)=C.ϒ λe=>V.M e.k:=by
 unfold gB bS;rw[ó,ó];rfl
theorem Tf (C:Y Ĕ)(n:G)(f:V->V)(Ϻ:Ĕ->V)(h:∀e∈C,f (.M e.k)=Ϻ e):((((gB C).ϒ λbS=>bH bS.1).ı (u2 n)).ϒ f)=(c7 C n).ϒ Ϻ:=by
 rw[CZ];unfold c7 zG;rw[ahp,ó];have e:(u2 n ∘ λe:Ĕ=>V.M e.k)=λe:Ĕ=>decide (e.k≠n):=rfl
 rw[e];exact Ù λx ai=>h x (ĥ.mp ai).1
theorem Tg {aC:ag}{Ϝ:Y (Ř×V)}(h:H a=O (.bL Ϝ))(s:cM a H aC):a5 H (ſ aC a (.bL Ϝ)):=λb o e=>by
 by_cases z:b=a
 ·subst z;rw[h]at e;rw[aQ,e]
 ·rw[aE z];exact s b o e z
theorem Th {o:ğ}{C:Y Ĕ}{e:Ĕ}(hf:H ϻ=O (.cW o (.bL (gB C))))(nd:(C.ϒ (·.k)).Α)(he:e∈C):eK H ϻ (.M e.k) (O e.v):=by
 have:eK H ϻ (bH (IZ.ε e.k)) (aW (gB C) (IZ.ε e.k)):=.ε ⟨_,_,.Œ ⟨o,hf⟩,rfl,rfl⟩
 rw[sL nd he]at ν;exact ν
end Bk
variable {c:Int}
namespace Ly
open PySem L2
section
variable {bE:Type}[DecidableEq bE]
def sN (Ϝ:Y (bE×V))(k:bE)(ϻ:G):G:=match aW Ϝ k with
 | O (.M q)=>q
 | _=>ϻ
def hW (Ϝ:Y (bE×V))(p:bE×G):Y (bE×V):=if sN Ϝ p.1 (-1)<p.2 then ß Ϝ p.1 (.M p.2) else Ϝ
structure O9 (Ϝ:Y (bE×V)):Prop where
 nn:∀k v,aW Ϝ k=O v->∃q:G,v=.M q/\0<=q
 nd:(Ϝ.ϒ (·.1)).Α
theorem Ti:O9 ([]:Y (bE×V)):=⟨λk v h=>(by cases h),wf⟩
theorem Iu {Ϝ:Y (bE×V)}{k:bE}(h:(aW Ϝ k).Ĵ=true):(ß Ϝ k v).ϒ (·.1)=Ϝ.ϒ (·.1):=by
 unfold ß;rw[pB,aS h,ó];refine Ù λp _=>?_;show(if p.1=k then(p.1,v) else p).1=p.1
 split<;>rfl
theorem sO {Ϝ:Y (bE×V)}{k:bE}(aF:(Ϝ.ϒ (·.1)).Α):((ß Ϝ k v).ϒ (·.1)).Α:=by
 cases h:aW Ϝ k with
 | none=>exact QS v aF h
 | O x=>rwa[Iu (by rw[h];rfl)]
theorem zJ {Ϝ:Y (bE×V)}{k:bE}{j:bE}(h:j∈(ß Ϝ k v).ϒ (·.1)):j=k\/j∈Ϝ.ϒ (·.1):=by
 cases q:aW Ϝ k with
 | none=>
  rw[BZ v q,Ε]at h;rcases κ.mp h with y|y
  ·exact .Œ y
  ·exact .ε (by simpa using y)
 | O x=>rw[Iu (by rw[q];rfl)]at h;exact .Œ h
theorem O9.put {Ϝ:Y (bE×V)}{k:bE}{q:G}(h:O9 Ϝ)(h0:0<=q):O9 (ß Ϝ k (.M q)):=by
 refine⟨λj v aG=>?_,sO h.nd⟩;rw[jU]at aG;split at aG
 ·cases aG;exact⟨q,rfl,h0⟩
 ·exact h.nn j v aG
theorem O9.add {Ϝ:Y (bE×V)}{p:bE×G}(h:O9 Ϝ)(h0:0<=p.2):O9 (hW Ϝ p):=by
 unfold hW;split
 ·exact h.put h0
 ·exact h
theorem nx {Ϝ:Y (bE×V)}{p:bE×V}(nd:(Ϝ.ϒ (·.1)).Α)(ay:p∈Ϝ):aW Ϝ p.1=O p.2:=by
 induction Ϝ with
 | ń=>cases ay
 | θ x r bB=>
  obtain⟨cz,cS⟩:=ŉ.mp nd;rcases ς.mp ay with rfl|y
  ·exact jS rfl
  ·have ia:¬x.1=p.1:=λe=>cz (Ζ.ļ ⟨p,y,e.symm⟩)
   rw[jT ia];exact bB cS y
theorem Tj {Ϝ:Y (bE×V)}{p:bE×G}{j:bE}(h:j∈(hW Ϝ p).ϒ (·.1)):j=p.1\/j∈Ϝ.ϒ (·.1):=by
 unfold hW at h;split at h
 ·exact zJ h
 ·exact .Œ h
theorem sP:∀{l m:Y bE},l.Α->(∀x∈l,x∈m)->l.N<=m.N
 | [],_,_,_=>ł _
 | a::l,m,nd,h=>by
  obtain⟨cz,cS⟩:=ŉ.mp nd;have aN:a∈m:=h a ľ
  have:=sP (m:=m.erase a) cS λx ai=>(Y.alc (λe=>cz (by rwa[<- e]))).ļ (h x (Η _ ai))
  rw[Y.ajj aN]at ν;have:0<m.N:=Y.akm aN
  rw[ŵ];omega
end
def bD (m:B)(c:G):Y Ř:=[.ε (m:G),.ε c]
theorem lU {m ba:B}{aX:G}(h:bD m c=bD ba aX):m=ba/\c=aX:=by
 unfold bD at h;injection h with g ah
 injection ah with ah _
 injection g with g
 injection ah with ah
 exact⟨⋯,ah⟩
def rm (s n:B)(Ϝ:Y (Y Ř×V)):Prop:=∀k∈Ϝ.ϒ (·.1),∃(m:B)(c:G),k=bD m c/\m<=s/\0<=c/\c<(n:G)
def mE (s n:B):Y (Y Ř):=(Ć (s+1)).be λm=>(Ć n).ϒ λc=>bD m (c:B)
theorem Iv (s n:B):(mE s n).N=(s+1)*n:=by
 unfold mE;generalize s+1=r
 induction r with
 | HW=>simp
 | o0 r bB=>rw[Y.alT,Y.al6,υ,bB];simp[B.add_mul]
theorem Tn {s:B}(nd:(Ϝ.ϒ (·.1)).Α)(h:rm s n Ϝ):Ϝ.N<=(s+1)*n:=by
 have:=sP (m:=mE s n) nd λk aq=>by
  obtain⟨m,c,rfl,g,ah,aI⟩:=h k aq;obtain⟨j,rfl⟩:=Ĺ ah;exact á.ļ ⟨m,ñ.ļ ⋯,Ζ.ļ ⟨j,ñ.ļ ⋯,rfl⟩⟩
 rw[ϧ,Iv]at ν;exact ν
theorem C0 {s:B}(nd:(Ϝ.ϒ (·.1)).Α)(h:rm s n Ϝ)(aH:s<=100)(aF:n<=100):Ϝ.N<=10100:=
 B.Ķ (Tn nd h) (Ç (show s+1<=101 by omega) aF)
theorem To {s:B}{m:B}(h:rm s n Ϝ)(hm:m<=s)(h0:0<=c)(g:c<(n:G)):rm s n (ß Ϝ (bD m c) v):=λk aq=>by
 rcases zJ aq with z|z
 ·exact⟨m,c,z,hm,h0,g⟩
 ·exact h k z
theorem Iw {s:B}:rm s n []:=λk aq=>(by cases aq)
end Ly
variable {cs:L2.St}{q:Int->Prop}{nm:String}{C6:Option PySem.Addr}{dY:List L2.V}
namespace L2
open PySem PySem.Spec PyProof.Rows
section
variable {prog:Program}{w:World}{K:Type} [DecidableEq K]{knd:HeapKind prog w K}{A:Around}{E:wvP}{s:Shared}
theorem Iy {bE:Type}{f:bE->G}:∀{l:Y bE}{x:bE},(l.ϒ f).Α->x∈l->(l.ı λy=>f y==f x).N<=1
 | [],_,_,_=>ł _
 | a::l,x,nd,ai=>by
  obtain⟨cz,cS⟩:=ŉ.mp nd;rw[Y.filter_cons];by_cases e:f a=f x
  ·have none:(l.ı λy=>f y==f x)=[]:=Y.filter_eq_nil_iff.ļ λy aU=>by
    intro z;exact cz (by rw[e,<- amN z];exact Ζ.ļ ⟨y,aU,rfl⟩)
   rw[none];split<;>simp
  ·rw[aD (by simpa using e)];rcases ς.mp ai with rfl|y
   ·exact bJ rfl e
   ·exact Iy cS y
theorem Tp {id:è}{o:ğ}{C cw}{F:Y (K×Ϩ×ϫ)}{Q:μ EQ->ϐ->Prop}(av:s.P.ϛ ϻ=O o)(hd:o.Φ=.ï C cw)(he:C.Ω=F.ϒ (È i_))(bk:∀x∈F,s.Q_ (.Z x.2.1) "tuple")(bj:(F.ϒ λx=>i_.Oq x.1).Α)(h:Q C s):ϙ (ώ ϔ w) Ϲ (π.x_.ald id ϻ) Q ϵ s:=by
 unfold π.x_.ald;refine ax (Ņ av hd (ax ?_));rw[<- μ.forIn_toList];refine ah2 _ (λW_ _ s'=>s'=s/\∀e∈W_,e∈C.Ω) _ ?_ ?_ _ _ ⟨rfl,λe z=>z⟩
 ·rintro e W_ r s' ⟨rfl,aO⟩;have hm:=aO e ľ
  rw[he]at hm;obtain⟨x,ai,rfl⟩:=Ζ.mp hm;have qZ:¬(C.ı (·.Oq==(È i_ x).Oq)).Ϥ>1:=by
   have:=Iy (f:=λy:K×Ϩ×ϫ=>i_.Oq y.1) bj ai
   have az:(C.ı (·.Oq==(È i_ x).Oq)).Ω=(F.ı λy=>i_.Oq y.1==i_.Oq x.1).ϒ (È i_):=by
    rw[μ.toList_filter,he,ahp];rfl
   have bY:=ż N az
   rw[μ.H_,ϧ]at bY;omega
  refine ax (show ϙ _ _ (π.x_.quietEq (.Z x.2.1)) _ _ _ from ax (Uf (bk x ai) ϟ.ϴ.slot_tuple_eq.Ϣ (bp ?_)));have gi:(O (ϫ.ο "tuple.__eq__")==O (ϫ.ο "object.__eq__"))=false:=∅
  rw[gi];rw[aS (by rfl),aD qZ];exact bp ⟨rfl,λe z=>aO e (Η _ z)⟩
 ·rintro r s' ⟨rfl,_⟩;exact bp h
theorem Tq {o:Ϩ}{F:Y (K×Ϩ×ϫ)}{Q:O7->ϐ->Prop}(Tr:ϻ≠o)(C1:(o==Ŋ)=false)(hd:s.P.GM i_ ϻ [])(av:s.P.GM i_ o F)(bk:∀x∈F,s.Q_ (.Z x.2.1) "tuple")(bj:(F.ϒ λx=>i_.Oq x.1).Α)(Oz:F.N<=ϓ)(d6:∀h',h'.GM i_ ϻ F->Θ.N_ ϻ s.P h'->Q () { s with P:=h' }):
  ϙ (ώ ϔ w) Ϲ (π.x_.mergeDict nm ϻ o) Q ϵ s:=by
 obtain⟨cO,Ts,Tt,hg,e1,hv,Tu,af4,ny⟩:=id hd;obtain⟨lV,mF,Iz,rn,u3,sQ,kx,IA,zK⟩:=id av;have IB:mF.Ϥ=F.N:=F_ kx
 have C2:Ts=#[]:=by
  have:=F_ Tu
  exact μ.ahS ν
 unfold π.x_.mergeDict π.x_.alI;rw[aD (by simpa using Tr),aD (by rw[C1];exact δ.γ)];refine ax (bp (ax (Ņ rn sQ ?_)));dsimp only
 cases F with
 | ń=>
  have h0:mF=#[]:=μ.ahS IB
  subst h0;rw[aD (by simp)];refine ax (T_ rn sQ (ax (Ņ rn sQ (ax ?_))));rw[Std.Legacy.Range.aiC];show ϙ _ _ (forIn [] PUnit.unit _) _ _ _
  rw[Y.amP];exact bp (bp (d6 s.P hd (Θ.N_.Ô _ _)))
 | θ x r=>
  have C3:mF[0]?=O (È i_ x):=by rw[alJ kx 0];rfl
  have qZ:(decide (mF.Ϥ<=8)&&mF.IY λe=>(keyPart e.Pj).Ĵ)=false:=by
   have:(mF.IY λe=>(keyPart e.Pj).Ĵ)=false:=by
    rw[δ.anl];intro z;have:=μ.ù.mp z 0 (by rw[IB];simp)
    rw[(μ.Ϧ.mp C3).2]at ν;cases ν
   rw[ν,δ.and_false]
  rw[qZ];rw[aS (by rfl)];refine ax (Ņ hg hv ?_);subst C2;rw[aS (by rfl)];refine ax (Tp rn sQ kx bk bj ?_);have ne:(!mF.Í)=true:=by
   cases hz:mF.Í with
   | false=>rfl
   | true=>
    have:=μ.isEmpty_iff.mp hz
    rw[ν]at C3;cases C3
  rw[aS ne];refine ax (wpAny_updateDictKeysTo hg hv (bp (d6 _ ⟨_,_,Tt+1,š _ hg (ğ.isFreed_of_dict (ğ.akJ hv _)),e1.mapDictKeys _,ğ.akJ hv _,kx,λy aU=>i_.å (IA y aU) hg hv (Θ.N_.ý ..),zK⟩ (Θ.N_.ý ..))) (by show mF.Ϥ<=ϓ+1;omega))
theorem Tv {o:Ϩ}{F:Y (K×Ϩ×ϫ)}(C1:(o==Ŋ)=false)(av:s.P.GM i_ o F)(bk:∀x∈F,s.Q_ (.Z x.2.1) "tuple")(ay:∀x∈F,i_.is (s.P.Ũ { Ŝ:=.χ "dict",Φ:=.ï #[] }) x.1 x.2.1)(bj:(F.ϒ λx=>i_.Oq x.1).Α)(Oz:F.N<=ϓ)(h:∀h',h'.GM i_ s.P.Ϡ.Ϥ F->Θ.N_ s.P.Ϡ.Ϥ (s.P.Ũ { Ŝ:=.χ "dict",Φ:=.ï #[] }) h'->Q (.Z s.P.Ϡ.Ϥ) { s with P:=h' }):
  ϙ (ώ ϔ w) Ϲ (WP (.χ "dict") [.Z o]) Q ϵ s:=by
 refine ai1 (Q₁:=λOy eg=>Oy=.Z s.P.Ϡ.Ϥ/\eg={ s with P:=s.P.Ũ { Ŝ:=.χ "dict",Φ:=.ï #[] } }) ϟ.ϴ.al5 (ϟ.ϴ.ajO _) ϟ.ϴ.ala (akH _ ⟨rfl,rfl⟩) ?_;rintro Oy eg ⟨rfl,rfl⟩;have rb:(s.P.Ũ { Ŝ:=.χ "dict",Φ:=.ï #[] }).GM i_ s.P.Ϡ.Ϥ []:=Θ.GM.OR s.P
 obtain⟨lV,mF,Iz,rn,u3,sQ,kx,IA,zK⟩:=id av;have eA:(s.P.Ũ { Ŝ:=.χ "dict",Φ:=.ï #[] }).GM i_ o F:=⟨lV,mF,Iz,ϥ _ rn,u3,sQ,kx,ay,zK⟩
 have ia:s.P.Ϡ.Ϥ≠o:=λe=>bJ (τ rn) (by rw[e];exact B.ť _)
 refine⟨rb.Ÿ,ϟ.ϴ.akI _ _,?_⟩;unfold Builtin.«dict.__init__» π.x_.selfAndRest;refine ax (ax (S_ rb.Ÿ ?_));refine(show ϙ _ _ (Ă (s.P.Ϡ.Ϥ,[ϫ.Z o])) _ _ _ from bp ?_);show ϙ _ _ (π.x_.ajJ _ _ _ _ _) _ _ _
 unfold π.x_.ajJ;refine ax (LT eA.Ÿ ?_);rw[aD ∅];refine ax ?_;unfold π.x_.merge π.x_.readDirectly;refine ax (ax (u8 eA.Ÿ isSubtype_dict_dict ?_));simp only[δ.not_true,Ď,Ü];refine ax (Uf eA.Ÿ ϟ.ϴ.ai0.Ϣ (bp ?_));simp only[akK,NE];refine ax (bp (Tq ia C1 rb eA (λx ai=>?_) bj Oz λh' qD fV=>?_))
 ·obtain⟨ob,au,az⟩:=bk x ai;exact⟨ob,ϥ _ au,az⟩
 ·show ϙ _ _ (π.x_.addKeywords s.P.Ϡ.Ϥ []>>=_) _ _ _
  exact ax (bp (bp ⟨rfl,h h' qD fV⟩))
end
def sR:Y Ř->G:=λks=>reduceHash (π.w_.tupleHashOf (ks.ϒ λk=>match k with|.ε i=>hashInt i|.Œ _=>0))
def u4 (k:Y Ř):Prop:=∀x∈k,∃i:G,x=.ε i
theorem Tw {k:Y Ř}(h:u4 k):(TW (e0 Ϯ w)).Oq k=sR k:=by
 show reduceHash (π.w_.tupleHashOf (k.ϒ (FL w)))=_
 unfold sR;congr 2
 refine Ù λx ai=>?_;obtain⟨i,rfl⟩:=h x ai;rfl
theorem Tx  (r:KT H Ϝ F):F.ϒ (·.1)=Ϝ.ϒ (·.1):=by
 induction r with
 | ń=>rfl
 | θ h r bB=>rw[Ŷ,Ŷ,bB,h.1]
def zjc:Y V->ag->a8->Prop:=λF H Q=>∃p Ϝ,F=[.Z p]/\H p=O (.bQ Ϝ)/\(∀k∈Ϝ.ϒ (·.1),u4 k)/\((Ϝ.ϒ (·.1)).ϒ sR).Α/\∀l,H l=none->Q (.Z l) (ſ H l (.bQ Ϝ))
theorem Tz:ho X (.χ "dict") zjc:=by
 intro ϩ s J H F us Q I r h;obtain⟨p,Ϝ,rfl,e,C4,aF,q⟩:=h;obtain⟨u,rfl,bc⟩:=wT r;cases bc;obtain⟨z,hd,ys,xz,dd⟩:=sv I.a9 e;have dK:=Tx xz
 have Pj:∀x∈ys,∃t:Y V,H x.2.1=O (.Ţ t):=λx ai=>by
  obtain⟨i,aA⟩:=Ŏ ai;obtain⟨bS,_,_,az,_⟩:=ϋ.Ph xz aA;exact⟨_,az⟩
 have ix:(ys.ϒ λx=>(TW (e0 X.ϔ X.w)).Oq x.1)=(Ϝ.ϒ (·.1)).ϒ sR:=by
  rw[<- dK,ó];refine Ù λx ai=>?_;exact Tw (C4 _ (by rw[<- dK];exact Ζ.ļ ⟨x,ai,rfl⟩))
 obtain⟨_,_,_,_,_,_,_,sJ,_⟩:=id dd;refine Tv hd dd (λx ai=>?_) (λx ai=>?_) (by rwa[ix]) (by rwa[<- ϋ.N xz]) λh' mn aH=>⟨.Z s.P.Ϡ.Ϥ,_,?_,rfl,q _ (I.a9.Ĳ (B.ϑ _))⟩
 ·obtain⟨o,ž,n,g,ah,_⟩:=sJ x ai;exact⟨o,g,ah⟩
 ·obtain⟨o,ž,n,g,ah⟩:=sJ x ai;exact⟨o,ž,n,ϥ _ g,ah⟩
 ·obtain⟨o,C,cw,g,ah,aI,bO,_,d1⟩:=mn;refine I.HV (t':=s.Χ) (λb o af=>(aH.2 b (Ι (τ af))).Ϛ (ϥ _ af)) (B.ϑ _) ⟨z,ĺ.ļ (Ne.symm (Ι I.big)),ys,?_,o,C,cw,g,ah,aI,bO,d1⟩;refine ϋ.gq xz λa b y=>⟨y.1,?_,y.2.2⟩;rw[aE (cF y.2.1 (I.a9.Ĳ (B.ϑ _)))];exact y.2.1
section
variable {X:Cx}{K:Frag}
theorem IC (c9:X.K=K):BI X (yU K):=by subst c9;exact GH
theorem TA (c9:X.K=K):um X "str.join" (rJoin K):=by subst c9;exact Cv
theorem TB {o:Ġ}{to:TE}{t:du}{Re d7:Ox}{T id:è}{r:V->Y V->ag->a8->Prop}(c9:X.K=K)(mm:alO T)(If:Slot T name id)(lE:an0 (.ο id)=Ă (.χ "method_descriptor"))(hm:um X id r)(av:PE X o to)(aN:PA X (e::C) t)(g:Ϫ (Å o name X.ό (ŗ o X.ό)=ŗ o X.ό) dA._auto_1)(ah:Ϫ (((ĕ d7 (ω (e::C) X.ό)).IY (λx=>!x.1)&&(UV d7 (Ą [] X.ό)).IY (λx=>x.1.Ĵ)&&decide ((e::C).N+([]:Y TX).N+(if ([]:Y TX).Í then 0 else 1)<30))=true) dA._auto_1)(aI:Ϫ ((Re.alm==d7.cr)=true) dA._auto_1)(bO:Ϫ (ω (e::C) X.ό=(false,ŗ e X.ό)::ω C X.ό) dA._auto_1)(d1:Ϫ ((ĕ d7 (ω C X.ό)).J_ (·.1)=false) dA._auto_1):PE X (.č (.ŝ o name Re) (e::C) [] d7) (tBM K T r to t):=by subst c9;exact jR mm If lE hm av aN g ah aI bO d1
end
theorem TC {u v:B->V}(Pv:B->Y V->ag->Prop)(h0:Pv 0 [] H)(aw:∀i ys H,i<=ts.N->Pv i ys H->aM K H a (ts.ϒ V.Z))(bk:∀i ys H t,ts[i]?=O t->Pv i ys H->bN K H t [u i,v i])(aH:∀i ys H,i<ts.N->Pv i ys H->tt (O (u i)::O (v i)::cs) H λb bw=>if b=true then bT (O (u i)::O (v i)::cs) bw λy cK=>ys.N<=ϓ/\Pv (i+1) (ys++[y]) cK else Pv (i+1) ys bw)(hd:∀ys H,Pv ts.N ys H->ys.N<=ϓ/\ϴ ys H):∃W:B->B->Y V->ag->Prop,(∃m,W 0 m [] H)/\mr (mc K a) (sf K 2 (zgs (hN 0) (zgs (hN 1) sd))) tt bT (none::none::cs) W ϴ:=by
 refine⟨λi m ys U=>m=ts.N-i/\i<=ts.N/\Pv i ys U,⟨ts.N,by simp,ł _,h0⟩,?_⟩;rintro i m ys U ⟨rfl,aA,p⟩;have S:=UF (aw i ys U aA p)
 by_cases cJ:i<ts.N
 ·refine .Œ ⟨S.go i (by rwa[ϧ]),λi0 dt=>Pv (i+1) i0 dt,λi0 dt eB=>⟨ts.N-(i+1),⋯,rfl,cJ,eB⟩,λx dt y=>?_⟩;obtain⟨rfl,ai⟩:=S.fR i x dt (by rwa[ϧ]) y;rw[Ϙ]at ai;obtain⟨t,e,rfl⟩:=ξ.mp ai;refine⟨t,[u i,v i],rfl,bk i ys _ t e p,rfl,u i,[v i],rfl,v i,[],rfl,rfl,⟨by simp,λj z hz=>?_⟩,aH i ys _ cJ p⟩;match j,hz with
  | 0,hz=>cases hz
  | 1,hz=>cases hz
  | (j+2),hz=>exact hz
 ·have e:i=ts.N:=⋯
  subst e;exact .ε ⟨by have:=S.stop;rwa [ϧ]at ν,hd ys U p⟩
abbrev Db (x:ϕ):Prop:=(x==("__debug__":ϕ))=false
abbrev zL (E:Τ)(x:ϕ):Prop:=(bV E).Λ.Ϣ x=O .local
abbrev fK (E:Τ)(x:ϕ):Prop:=(bV E).Λ.Ϣ x=O .A_
section
variable {P:Program}{w:World}{K:Frag}{mg:Str->Option Value}{base:Heap}{x q:Str}{st:Stmt}{f:Addr}{aL:Array Value}{ps:List Str}
def jZ (K:ş)(x q:ϕ)(E:Τ)(f:Ϩ):Prop:=∃fd,kG K x q E f fd
def oo (K:ş)(x q:ϕ)(E:Τ)(f:Ϩ)(aL:μ ϫ):Prop:=∃fd,lL K x q E f fd aL
def FB (K:ş)(x q:ϕ)(E:Τ)(f:Ϩ)(ps:Y ϕ):Prop:=∃fd,kG K x q E f fd/\ô K fd ps []
def ID (K:ş)(x q:ϕ)(E:Τ)(f:Ϩ)(aL:μ ϫ)(ps:Y ϕ):Prop:=∃fd,lL K x q E f fd aL/\ô K fd ps []
def kV (Ϯ:Č)(w:Þ)(K:ş)(mg:ϕ->ϣ ϫ)(ϊ:Θ)(TF:iz)(k:B)(f:Ϩ)(ps:Y ϕ)(sp:ep):Prop:=∃fd:Ix,ô K fd ps []/\ft Ϯ w K mg ϊ TF k f fd ps sp
theorem zez {cO an:ϣ Ϩ}{bH:ϫ}(l:K.Ϣ f=O ⟨dI,cO,.OQ (I0 x q (hQ E) (fI E) (bV E) .none bH ST pm an Ë cb),eX⟩)(c:IW K Ë q=true)(k:Tk K (.Z f)=true):jZ K x q E f:=⟨_,QA l c k⟩
theorem jZ.dU (h:jZ K x q E f):Tk K (.Z f)=true:=let⟨_,h⟩:=h;h.dU
theorem oo.dU (h:oo K x q E f aL):Tk K (.Z f)=true:=let⟨_,h⟩:=h;h.dU
theorem jZ.b (h:jZ K x q E f)(b:∀(bH ST pm:ϫ) (an:ϣ Ϩ) (Ë cb:ϫ) (us:Y ϫ),us.N=ps.N->Ho (I0 x q (hQ E) (fI E) (bV E) .none bH ST pm an Ë cb) ⟨us,[]⟩=Ă (ps.OU us)):FB K x q E f ps:=
 let⟨fd,h⟩:=h;⟨fd,h,h.zv b⟩
theorem oo.b (h:oo K x q E f aL)(b:∀(T:Ϩ) (bH ST pm:ϫ) (an:ϣ Ϩ) (Ë cb:ϫ) (us:Y ϫ),(us++[]).N=ps.N->∃k:ϣ (μ ϫ)->Sem (Y (ϕ×ϫ)),
   Ho (I0 x q (hQ E) (fI E) (bV E) (.Z T) bH ST pm an Ë cb) ⟨us,[]⟩=(ć (.Z T)>>=k)/\k (O aL)=Ă (ps.OU (us++[]))):ID K x q E f aL ps:=
 let⟨fd,h⟩:=h;⟨fd,h,h.zv b⟩
theorem zxz {cO an:ϣ Ϩ}{bH:ϫ}{T:Ϩ}{C5:ϫ}{kA:μ (ϣ ϫ)}(l:K.Ϣ f=O ⟨dI,cO,.OQ (I0 x q (hQ E) (fI E) (bV E) (.Z T) bH ST pm an Ë cb),eX⟩)(c:IW K Ë q=true)(k:Tk K (.Z f)=true)(ϻ:K.Ϣ T=O ⟨C5,C6,.XV aL n,kA⟩):oo K x q E f aL:=⟨_,Sd l c k ϻ⟩
end
section
variable {X:Cx}{x n:Str}{C:Addr}{body af5:List Stmt}{uN:Stmt}{uO:List Stmt}{np pos q5:Pos}{a4:kR->dn}{iZ:Addr->Addr->Option Addr->dn}{bT:dn}
end
def lk:ϣ Ű->δ
 | O .local=>true
 | O .φ=>true
 | _=>false
def C7:ϣ Ű->δ
 | O .A_=>true
 | _=>false
abbrev nz (E:Τ)(x:ϕ):Prop:=(lk ((bV E).Λ.Ϣ x)&&!(x==("__debug__":ϕ))&&!(x==("__classdict__":ϕ)))=true
abbrev iG (E:Τ)(x:ϕ):Prop:=(C7 ((bV E).Λ.Ϣ x)&&!(x==("__debug__":ϕ))&&!(x==("__name__":ϕ)))=true
theorem kh {a b c:δ}(h:(a&&!b&&!c)=true):a=true/\b=false/\c=false:=by
 cases a<;>cases b<;>cases c<;>first|exact⟨rfl,rfl,rfl⟩|cases h
theorem u5 {o:ϣ Ű}(h:lk o=true):o=O .local\/o=O .φ:=by
 unfold lk at h;split at h
 ·exact .ε rfl
 ·exact .Œ rfl
 ·cases h
theorem TG {o:ϣ Ű}(h:C7 o=true):o=O .A_:=by
 unfold C7 at h;split at h
 ·rfl
 ·cases h
section
variable {X:Cx}{st:Stmt}{x:Str}{pos pos' p apos:Pos}{e o:Expr}{es:List Expr}{bT bo:TE}{t:du}{k k0:Nat}{f C:Addr}{ps:List Str}{sp:ep}{m:Str}{r:List V->ag->a8->Prop}{id T:String}
def tVr (i:B):TE:=λJ H Q=>match J[i]? with
 | O (O v)=>Q v H
 | _=>Ō
set_option tactic.hygienic true in
theorem TH {Q:a8}(h:tVr i J H Q):t5 i J H Q:=by
 unfold tVr at h;split at h
 ·rename_i v e;exact⟨v,e,h⟩
 ·exact h.Ę
theorem u6 (i:B)(h:nz E x)(cA:Ϫ (X.ϰ[i]?=O x) dA._auto_1)(au:Ϫ (X.ό.Ϟ=bV E) dA._auto_1):PE X (.ĸ x ŷ) (tVr i):=by
 obtain⟨a,b,c⟩:=kh h;exactλϩ s J H Q I q=>F0 cA (Rz ((u5 a).Pg id .ε) au) b c ϩ s J H Q I (TH q)
theorem TJ (i:B)(cA:X.ϰ.Α)(h:nz E x)(he:PE X e bT)(aA:Ϫ (X.ϰ[i]?=O x) dA._auto_1)(au:Ϫ (X.ό.Ϟ=bV E) dA._auto_1)(aH:Ϫ (wn e (O (.ĸ x OJ)) ŷ.cr X.ό=Ă false) dA._auto_1)(hf:Ϫ (X.fn x=true\/X.ό.Ϟ.Λ.Ϣ x=O .local) dD._auto_1):
  PS X (.ajC [.ĸ x OJ] e ŷ) (sh bT (hN i)):=alq cA aA (Cq (u5 (kh h).1) au) he aH hf
theorem TK (i:B){op:ahX}{jM:sb}(cA:X.ϰ.Α)(h:nz E x)(he:PE X e bT)(av:t7 X op jM)(aA:Ϫ (X.ϰ[i]?=O x) dA._auto_1)(au:Ϫ (X.ό.Ϟ=bV E) dA._auto_1)(hf:Ϫ (X.fn x=true\/X.ό.Ϟ.Λ.Ϣ x=O .local) dD._auto_1):
  PS X (.akw (.ĸ x OJ) op e ŷ) (t8 i bT jM):=ama cA aA (Cq (u5 (kh h).1) au) he av hf
theorem TL (i:B)(cA:X.ϰ.Α)(h:nz E x)(aA:Ϫ (X.ϰ[i]?=O x) dA._auto_1)(au:Ϫ (X.ό.Ϟ=bV E) dA._auto_1)(hf:Ϫ (X.fn x=true\/X.ό.Ϟ.Λ.Ϣ x=O .local) dD._auto_1):PG X (.ĸ x ŷ) (hN i):=gU cA aA (Cq (u5 (kh h).1) au) hf
theorem aj (aN:PE X e bT)(aO:PA X C t)(h:Ϫ (hS e=true) dA._auto_1):PA X (e::C) (zje bT t):=PT aN aO (el h)
theorem pU (h:iG E x)(au:Ϫ (X.ό.Ϟ=bV E) dA._auto_1):fb X x:=eQ (TG (kh h).1) au
theorem C8 (h:iG E x):x≠"__name__":=λz=>by
 have:=(kh h).2.2
 rw[z]at ν;exact bJ ν ∅
theorem IE (Ϭ:kV X.ϔ X.w X.K X.mg X.ϊ bx k f ps sp)(aO:dw k0 X.Ϲ)(Ϻ:iG E x)(hm:X.mg x=O (.Z f))(aq:Tk X.K (.Z f)=true)(aN:PA X (e::C) t)(g:Ϫ (k<=k0) dB._auto_1)(au:Ϫ (X.ό.Ϟ=bV E) dA._auto_1)(he:Ϫ (hS e=true) dA._auto_1)(Tm:Ϫ (é C=true) dA._auto_1):
  PE X (.č (.ĸ x p) (e::C) [] ŷ) (qR sp [] hc t):=
 let⟨_,af,ϴ⟩:=Ϭ
 Gq ϴ (aO.WF g) (pU Ϻ au) hm aq af .ń n3 aN (kh Ϻ).2.1 (el he) (eF Tm)
theorem TM (Ϭ:kV X.ϔ X.w X.K X.mg X.ϊ bx k f ps sp)(aO:dw k0 X.Ϲ)(hm:X.mg x=O (.Z f))(aq:Tk X.K (.Z f)=true)(ϻ:Db x)(aN:PA X (e::C) t)(g:Ϫ (k<=k0) dB._auto_1)(bF:Ϫ (fb X x) dA._auto_1)(he:Ϫ (hS e=true) dA._auto_1)(Tm:Ϫ (é C=true) dA._auto_1):
  PE X (.č (.ĸ x p) (e::C) [] ŷ) (qR sp [] hc t):=
 let⟨_,af,ϴ⟩:=Ϭ
 Gq ϴ (aO.WF g) bF hm aq af .ń n3 aN ϻ (el he) (eF Tm)
theorem TN (ϱ:h9 X.K Ϸ f)(Ϭ:kV X.ϔ X.w X.K X.mg X.ϊ bx k f ps sp)(aO:dw k0 X.Ϲ)(Ϻ:iG E x)(hm:X.mg x=O (.Z Ϸ))(aN:PA X (e::C) t)(g:Ϫ (k+1<=k0) dB._auto_1)(au:Ϫ (X.ό.Ϟ=bV E) dA._auto_1)(he:Ϫ (hS e=true) dA._auto_1)(Tm:Ϫ (é C=true) dA._auto_1):
  PE X (.č (.ĸ x p) (e::C) [] ŷ) (pq Ϸ sp [] hc t):=
 let⟨_,af,ϴ⟩:=Ϭ
 PW ϱ ϴ (aO.WF g) (pU Ϻ au) hm af .ń n3 aN (kh Ϻ).2.1 (el he) (eF Tm)
theorem TO (ϱ:h9 X.K Ϸ f)(Ϭ:kV X.ϔ X.w X.K X.mg X.ϊ bx k f ps sp)(aO:dw k0 X.Ϲ)(Ϻ:iG E x)(hm:X.mg x=O (.Z Ϸ))(g:Ϫ (k+1<=k0) dB._auto_1)(au:Ϫ (X.ό.Ϟ=bV E) dA._auto_1):PE X (.č (.ĸ x p) [] [] ŷ) (pq Ϸ sp [] hc lC):=
 let⟨_,af,ϴ⟩:=Ϭ
 PX ϱ ϴ (aO.WF g) (pU Ϻ au) hm af .ń n3 (kh Ϻ).2.1
theorem TP (ak:ho X (.ο id) r)(Ϻ:iG E x)(hm:X.mg x=none)(aG:æ x=O (.ο id))(aN:PA X (e::C) t)(au:Ϫ (X.ό.Ϟ=bV E) dA._auto_1)(he:Ϫ (hS e=true) dA._auto_1)(Tm:Ϫ (é C=true) dA._auto_1):PE X (.č (.ĸ x p) (e::C) [] ŷ) (tCB r t):=
 P0 ak (pU Ϻ au) hm aG aN (C8 Ϻ) (kh Ϻ).2.1 (el he) (eF Tm)
theorem TQ (ak:ho X (.χ T) r)(Ϻ:iG E x)(hm:X.mg x=none)(aG:æ x=O (.χ T))(aN:PA X (e::C) t)(au:Ϫ (X.ό.Ϟ=bV E) dA._auto_1)(he:Ϫ (hS e=true) dA._auto_1)(Tm:Ϫ (é C=true) dA._auto_1):PE X (.č (.ĸ x p) (e::C) [] ŷ) (tCB r t):=
 P1 ak (pU Ϻ au) hm aG aN (C8 Ϻ) (kh Ϻ).2.1 (el he) (eF Tm)
theorem df (he:PE X o bo)(c:fc X.K Ϸ)(hm:ŏ X.K Ϸ m f)(Ϭ:kV X.ϔ X.w X.K X.mg X.ϊ bx k f ps sp)(aO:dw k0 X.Ϲ)(aN:PA X (e::C) t)(g:Ϫ (k<=k0) dB._auto_1)(wE:Ϫ (hS e=true) dA._auto_1)(Tm:Ϫ (é C=true) dA._auto_1)(bk:Ϫ (ŗ (.č (.ŝ o m Re) (e::C) [] ŷ) X.ό=(ŗ o X.ό>>=λdT=>ss Re.akt>>=λ_=>Î [dT] (Ev dT m pl)>>=λr=>ol ŷ r.1 r.2 (ĕ ŷ (ω (e::C) X.ό)) (UV ŷ (Ą [] X.ό)))) dA._auto_1):PE X (.č (.ŝ o m Re) (e::C) [] ŷ) (ug Ϸ m sp [] hc bo t):=
 let⟨_,af,ϴ⟩:=Ϭ
 PV he c hm ϴ (aO.WF g) af .ń n3 aN (el wE) (eF Tm) bk
theorem ki (he:PE X o bo)(c:fc X.K Ϸ)(hm:ŏ X.K Ϸ m f)(Ϭ:kV X.ϔ X.w X.K X.mg X.ϊ bx k f ps sp)(aO:dw k0 X.Ϲ)(g:Ϫ (k<=k0) dB._auto_1)(bk:Ϫ (ŗ (.č (.ŝ o m Re) [] [] ŷ) X.ό=(ŗ o X.ό>>=λdT=>ss Re.akt>>=λ_=>Î [dT] (Ev dT m pl)>>=λr=>ol ŷ r.1 r.2 (ĕ ŷ (ω [] X.ό)) (UV ŷ (Ą [] X.ό)))) dA._auto_1):PE X (.č (.ŝ o m Re) [] [] ŷ) (ug Ϸ m sp [] hc bo lC):=
 let⟨_,af,ϴ⟩:=Ϭ
 Gr he c hm ϴ (aO.WF g) af .ń n3 bk
theorem cN  (cl:fc X.K Ϸ)(hm:ŏ X.K Ϸ m f)(Ϭ:kV X.ϔ X.w X.K X.mg X.ϊ bx j f ps sp)(g6:∀e∈Pe,q6 X m k ps e)(bg:Ϫ (j<=k) dB._auto_1):∀e∈(Ϸ,sp)::Pe,q6 X m k ps e:=
 let⟨_,af,ϴ⟩:=Ϭ
 Se cl hm ϴ bg af g6
theorem cR {a b:Ġ}{bo a4:TE}{r:gw}(av:eo X (ų op) r)(aN:PE X a bo)(af:PE X b a4)(hm:Ϫ (þ op b=false) dF._auto_1):iT X (.I8 a [op] [b] ŷ) (zne (tOp r bo a4)):=anT av aN af hm
theorem ju {a b:Ġ}{bo a4:TE}{r:gw}(av:eo X (ų op) r)(aN:PE X a bo)(af:PE X b a4)(hm:Ϫ (þ op b=false) dF._auto_1):PE X (.I8 a [op] [b] ŷ) (tOp r bo a4):=anA av aN af hm
theorem TR (Ϻ:iG E x)(hm:X.mg x=O u)(ck:ţ v u)(au:Ϫ (X.ό.Ϟ=bV E) dA._auto_1):PE X (.ĸ x ŷ) (tC v):=yA (pU Ϻ au) hm ck (kh Ϻ).2.1
theorem TS (Ϻ:iG E x)(hm:X.mg x=none)(aG:æ x=O u)(ck:ţ v u)(au:Ϫ (X.ό.Ϟ=bV E) dA._auto_1):PE X (.ĸ x ŷ) (tC v):=akP (pU Ϻ au) hm aG ck (C8 Ϻ) (kh Ϻ).2.1
end
theorem pV {F:Y V}{Ϻ:fq}(Pv:B->St->ag->Prop)(h0:Pv 0 J H)(aw:∀i J H,i<=F.N->Pv i J H->aM K H a F)(aH:∀i x J H (ϰ:St->ag->Prop),F[i]?=O x->Pv i J H->(∀a7 U,Pv (i+1) a7 U->ϰ a7 U)->Ϻ x J H λdm aC=>a4 { ϶ with aP:=ϰ,cb:=ϰ,bf:=϶.aP } dm aC)(hd:∀J H,Pv F.N J H->϶.aP J H):
  ∃W:B->B->St->ag->Prop,(∃m,W 0 m J H)/\∀i m J H,W i m J H->
   ((mc K a).stop i H/\϶.aP J H)\/((mc K a).go i H/\∃ϰ:St->ag->Prop,(∀a7 U,ϰ a7 U->∃ba,ba<m/\W (i+1) ba a7 U)/\∀x U,(mc K a).fR i H x U->Ϻ x J U λdm aC=>a4 { ϶ with aP:=ϰ,cb:=ϰ,bf:=϶.aP } dm aC):=
 ub Pv h0 aw (λi x J H ai p=>aH i x J H _ ai p λ_ _ z=>z) hd
theorem ro {Ϻ:fq}(Pv:B->St->ag->Prop)(h0:Pv 0 J H)(aH:∀i J H (ϰ:St->ag->Prop),i<n->Pv i J H->(∀a7 U,Pv (i+1) a7 U->ϰ a7 U)->Ϻ (.M (lo+i)) J H λdm aC=>a4 { ϶ with aP:=ϰ,cb:=ϰ,bf:=϶.aP } dm aC)(hd:∀J H,Pv n J H->϶.aP J H):
  ∃W:B->B->St->ag->Prop,(∃m,W 0 m J H)/\∀i m J H,W i m J H->
   ((lz lo n).stop i H/\϶.aP J H)\/((lz lo n).go i H/\∃ϰ:St->ag->Prop,(∀a7 U,ϰ a7 U->∃ba,ba<m/\W (i+1) ba a7 U)/\∀x U,(lz lo n).fR i H x U->Ϻ x J U λdm aC=>a4 { ϶ with aP:=ϰ,cb:=ϰ,bf:=϶.aP } dm aC):=
 F8 Pv h0 (λi J H aA p=>aH i J H _ aA p λ_ _ z=>z) hd
theorem TU {o:ğ}{Ϻ:fq}(Pv:B->St->ag->Prop)(h0:Pv 0 J H)(aw:∀i J H,i<=Ϝ.N->Pv i J H->H a=O (.cW o (.bQ Ϝ)))(aH:∀i k v b J H (ϰ:St->ag->Prop),Ϝ[i]?=O (k,v)->H b=O (.Ţ (k.ϒ bH))->Pv i J H->(∀a7 U,Pv (i+1) a7 U->ϰ a7 U)->Ϻ (.Z b) J H λdm aC=>a4 { ϶ with aP:=ϰ,cb:=ϰ,bf:=϶.aP } dm aC)(hd:∀J H,Pv Ϝ.N J H->϶.aP J H):
  ∃W:B->B->St->ag->Prop,(∃m,W 0 m J H)/\∀i m J H,W i m J H->
   ((og a o Ϝ).stop i H/\϶.aP J H)\/((og a o Ϝ).go i H/\∃ϰ:St->ag->Prop,(∀a7 U,ϰ a7 U->∃ba,ba<m/\W (i+1) ba a7 U)/\∀x U,(og a o Ϝ).fR i H x U->Ϻ x J U λdm aC=>a4 { ϶ with aP:=ϰ,cb:=ϰ,bf:=϶.aP } dm aC):=
 Sj Pv h0 aw (λi k v b J H aq af p=>aH i k v b J H _ aq af p λ_ _ z=>z) hd
abbrev rp (x q:ϕ)(E:Τ)(ps:Y ϕ)(us:Y ϫ):Prop:=∀(bH ST pm:ϫ)(an:ϣ Ϩ)(Ë cb:ϫ),Ho (I0 x q (hQ E) (fI E) (bV E) .none bH ST pm an Ë cb) ⟨us,[]⟩=Ă (ps.OU us)
section
variable {P:List Value->Prop}{us:List Value}
theorem C9 (h:Ϯ [])(e:us.N=0):Ϯ us:=by cases us with|ń=>exact h|θ a t=>cases e
theorem oq (h:∀a t,t.N=n->Ϯ (a::t))(e:us.N=n+1):Ϯ us:=by cases us with|ń=>cases e|θ a t=>exact h a t (B.o0.W1 e)
theorem a1 (h:∀a,Ϯ [a]):us.N=1->Ϯ us:=oq λa _=>C9 (Ϯ:=λt=>Ϯ (a::t)) (h a)
theorem a2 (h:∀a b,Ϯ [a,b]):us.N=2->Ϯ us:=oq λa _=>a1 (Ϯ:=λt=>Ϯ (a::t)) (h a)
theorem gP (h:∀a b c,Ϯ [a,b,c]):us.N=3->Ϯ us:=oq λa _=>a2 (Ϯ:=λt=>Ϯ (a::t)) (h a)
theorem iE (h:∀a b c ϻ,Ϯ [a,b,c,ϻ]):us.N=4->Ϯ us:=oq λa _=>gP (Ϯ:=λt=>Ϯ (a::t)) (h a)
theorem pW (h:∀a b c ϻ e,Ϯ [a,b,c,ϻ,e]):us.N=5->Ϯ us:=oq λa _=>iE (Ϯ:=λt=>Ϯ (a::t)) (h a)
theorem rq (h:∀a b c ϻ e f,Ϯ [a,b,c,ϻ,e,f]):us.N=6->Ϯ us:=oq λa _=>pW (Ϯ:=λt=>Ϯ (a::t)) (h a)
theorem sS (h:∀a b c ϻ e f Ϻ,Ϯ [a,b,c,ϻ,e,f,Ϻ]):us.N=7->Ϯ us:=oq λa _=>rq (Ϯ:=λt=>Ϯ (a::t)) (h a)
theorem Dc (h:∀a b c ϻ e f Ϻ i,Ϯ [a,b,c,ϻ,e,f,Ϻ,i]):us.N=8->Ϯ us:=oq λa _=>sS (Ϯ:=λt=>Ϯ (a::t)) (h a)
end
section
variable {K:Frag}{x q:Str}{st:Stmt}{f:Addr}{ps:List Str}(h:jZ K x q st f)
include h
theorem jZ.iH (b:∀us,us.N=ps.N->rp x q E ps us):FB K x q E f ps:=h.b λk ϻ p a c t us e=>b us e k ϻ p a c t
theorem jZ.b1 {p:ϕ}(b:Ϫ (∀a,rp x q E [p] [a]) dE._auto_1):FB K x q E f [p]:=h.iH λ_=>a1 b
theorem jZ.b2 {p dp:ϕ}(b:Ϫ (∀a b,rp x q E [p,dp] [a,b]) dE._auto_1):FB K x q E f [p,dp]:=h.iH λ_=>a2 b
theorem jZ.b3 {p dp fU:ϕ}(b:Ϫ (∀a b c,rp x q E [p,dp,fU] [a,b,c]) dE._auto_1):FB K x q E f [p,dp,fU]:=h.iH λ_=>gP b
theorem jZ.b4 {p dp fU lJ:ϕ}(b:Ϫ (∀a b c ϻ,rp x q E [p,dp,fU,lJ] [a,b,c,ϻ]) dE._auto_1):FB K x q E f [p,dp,fU,lJ]:=h.iH λ_=>iE b
theorem jZ.b5 {p dp fU lJ u7:ϕ}(b:Ϫ (∀a b c ϻ e,rp x q E [p,dp,fU,lJ,u7] [a,b,c,ϻ,e]) dE._auto_1):FB K x q E f [p,dp,fU,lJ,u7]:=h.iH λ_=>pW b
theorem jZ.b6 {p dp fU lJ u7 IF:ϕ}(b:Ϫ (∀a b c ϻ e f,rp x q E [p,dp,fU,lJ,u7,IF] [a,b,c,ϻ,e,f]) dE._auto_1):FB K x q E f [p,dp,fU,lJ,u7,IF]:=h.iH λ_=>rq b
end
def TV:Ű->δ
 | .Ź=>false
 | _=>true
def IG:ScopeKind->δ
 | .ā=>true
 | _=>false
def IH (ϰ Ϯ:Y ϕ)(E:Τ):δ:=
 IG (bV E).î&&(!(bV E).aiS&&(!(bV E).aiT&&(decide ϰ.Α&&(decide (ϰ.ĵ Ϯ.N=Ϯ)&&((bV E).Λ.IY (λy=>TV y.2)&&(Ϯ.IY (λx=>lk ((bV E).Λ.Ϣ x))&&ϰ.IY (λx=>lk ((bV E).Λ.Ϣ x)&&!(x==("__debug__":ϕ))&&!(x==("__classdict__":ϕ)))))))))
abbrev FS (ϰ Ϯ:Y ϕ)(E:Τ):Prop:=IH ϰ Ϯ E=true
theorem FS.sc {Ϯ:Y ϕ}(h:FS ϰ Ϯ E):n2 ϰ Ϯ (bV E)/\∀x∈ϰ,nz E x:=by
 unfold FS IH at h;simp only[Ŵ,ab_,Μ]at h;obtain⟨g,ah,aI,bO,d1,gY,Ce,mu⟩:=h;refine⟨⟨?_,ah,aI,bO,d1,λx ai=>u5 (ù.mp Ce x ai),λy aU z=>?_⟩,λx ai=>ù.mp mu x ai⟩
 ·unfold IG at g;split at g
  ·assumption
  ·cases g
 ·have k:=ù.mp gY y aU
  rw[z]at k;cases k
structure fD (k:B)(Ϲ:ŕ)(ϰ Ϯ:Y ϕ)(E:Τ):Prop where
 s:FS ϰ Ϯ E
 r:dw k Ϲ
abbrev ed (K:ş)(mg:ϕ->ϣ ϫ)(x:ϕ)(f:Ϩ):Prop:=mg x=O (.Z f)/\Tk K (.Z f)=true
abbrev hB (mg:ϕ->ϣ ϫ)(x:ϕ)(v:ϫ):Prop:=mg x=none/\æ x=O v
section
variable {k0:Nat}{A:Around}{N Y:List Str}{st:Stmt}
theorem fD.lv {x:ϕ}(R:fD k0 Ϲ ϰ ϭ E)(h:ϰ[i]?=O x):nz E x:=R.s.sc.2 x (ύ h)
theorem fD.nd (R:fD k0 Ϲ ϰ ϭ E):ϰ.Α:=R.s.sc.1.nd
variable {X:Cx}{x:Str}{pos pos' p apos:Pos}{e o:Expr}{es:List Expr}{bT bo:TE}{t:du}{k:Nat}{f C:Addr}{ps:List Str}{sp:ep}{m:Str}{r:List V->ag->a8->Prop}{id T:String}
theorem A (i:B)(R:fD k0 Ϲ ϰ ϭ E)(cA:Ϫ (ϰ[i]?=O x) dA._auto_1)(az:Ϫ (X.ϰ=ϰ) dA._auto_1)(au:Ϫ (X.ό.Ϟ=bV E) dA._auto_1):PE X (.ĸ x ŷ) (tVr i):=u6 i (R.lv cA) (az ▸ cA) au
theorem cv (i:B)(R:fD k0 Ϲ ϰ ϭ E)(he:PE X e bT)(aA:Ϫ (ϰ[i]?=O x) dA._auto_1)(az:Ϫ (X.ϰ=ϰ) dA._auto_1)(au:Ϫ (X.ό.Ϟ=bV E) dA._auto_1)(aH:Ϫ (wn e (O (.ĸ x OJ)) ŷ.cr X.ό=Ă false) dA._auto_1)(hf:Ϫ (X.fn x=true\/X.ό.Ϟ.Λ.Ϣ x=O .local) dD._auto_1):
  PS X (.ajC [.ĸ x OJ] e ŷ) (sh bT (hN i)):=TJ i (az ▸ R.nd) (R.lv aA) he (az ▸ aA) au aH hf
theorem Dd (i:B){op:ahX}{jM:sb}(R:fD k0 Ϲ ϰ ϭ E)(he:PE X e bT)(av:t7 X op jM)(aA:Ϫ (ϰ[i]?=O x) dA._auto_1)(az:Ϫ (X.ϰ=ϰ) dA._auto_1)(au:Ϫ (X.ό.Ϟ=bV E) dA._auto_1)(hf:Ϫ (X.fn x=true\/X.ό.Ϟ.Λ.Ϣ x=O .local) dD._auto_1):
  PS X (.akw (.ĸ x OJ) op e ŷ) (t8 i bT jM):=TK i (az ▸ R.nd) (R.lv aA) he av (az ▸ aA) au hf
theorem et (i:B)(R:fD k0 Ϲ ϰ ϭ E)(aA:Ϫ (ϰ[i]?=O x) dA._auto_1)(az:Ϫ (X.ϰ=ϰ) dA._auto_1)(au:Ϫ (X.ό.Ϟ=bV E) dA._auto_1)(hf:Ϫ (X.fn x=true\/X.ό.Ϟ.Λ.Ϣ x=O .local) dD._auto_1):PG X (.ĸ x ŷ) (hN i):=TL i (az ▸ R.nd) (R.lv aA) (az ▸ aA) au hf
theorem cU (Ϭ:kV X.ϔ X.w X.K X.mg X.ϊ bx k f ps sp)(R:fD k0 X.Ϲ ϰ ϭ E)(hm:ed X.K X.mg x f)(aN:PA X (e::C) t)(g:Ϫ (k<=k0) dB._auto_1)(au:Ϫ (X.ό.Ϟ=bV E) dA._auto_1)(he:Ϫ (hS e=true) dA._auto_1)(Tm:Ϫ (é C=true) dA._auto_1)(Ϻ:Ϫ (iG E x) dC._auto_1):
  PE X (.č (.ĸ x p) (e::C) [] ŷ) (qR sp [] hc t):=IE Ϭ R.r Ϻ hm.1 hm.2 aN g au he Tm
theorem hC (Ϭ:kV X.ϔ X.w X.K X.mg X.ϊ bx k f ps sp)(aO:dw k0 X.Ϲ)(hm:ed X.K X.mg x f)(ϻ:Db x)(aN:PA X (e::C) t)(g:Ϫ (k<=k0) dB._auto_1)(bF:Ϫ (fb X x) dA._auto_1)(he:Ϫ (hS e=true) dA._auto_1)(Tm:Ϫ (é C=true) dA._auto_1):
  PE X (.č (.ĸ x p) (e::C) [] ŷ) (qR sp [] hc t):=TM Ϭ aO hm.1 hm.2 ϻ aN g bF he Tm
theorem pX (ϱ:h9 X.K Ϸ f)(Ϭ:kV X.ϔ X.w X.K X.mg X.ϊ bx k f ps sp)(R:fD k0 X.Ϲ ϰ ϭ E)(hm:X.mg x=O (.Z Ϸ))(aN:PA X (e::C) t)(g:Ϫ (k+1<=k0) dB._auto_1)(au:Ϫ (X.ό.Ϟ=bV E) dA._auto_1)(he:Ϫ (hS e=true) dA._auto_1)(Tm:Ϫ (é C=true) dA._auto_1)(Ϻ:Ϫ (iG E x) dC._auto_1):
  PE X (.č (.ĸ x p) (e::C) [] ŷ) (pq Ϸ sp [] hc t):=TN ϱ Ϭ R.r Ϻ hm aN g au he Tm
theorem II (ϱ:h9 X.K Ϸ f)(Ϭ:kV X.ϔ X.w X.K X.mg X.ϊ bx k f ps sp)(R:fD k0 X.Ϲ ϰ ϭ E)(hm:X.mg x=O (.Z Ϸ))(g:Ϫ (k+1<=k0) dB._auto_1)(au:Ϫ (X.ό.Ϟ=bV E) dA._auto_1)(Ϻ:Ϫ (iG E x) dC._auto_1):PE X (.č (.ĸ x p) [] [] ŷ) (pq Ϸ sp [] hc lC):=TO ϱ Ϭ R.r Ϻ hm g au
theorem cX (ak:ho X (.ο id) r)(R:fD k0 Ϲ ϰ ϭ E)(hm:hB X.mg x (.ο id))(aN:PA X (e::C) t)(au:Ϫ (X.ό.Ϟ=bV E) dA._auto_1)(he:Ϫ (hS e=true) dA._auto_1)(Tm:Ϫ (é C=true) dA._auto_1)(Ϻ:Ϫ (iG E x) dC._auto_1):PE X (.č (.ĸ x p) (e::C) [] ŷ) (tCB r t):=TP ak Ϻ hm.1 hm.2 aN au he Tm
theorem u9 (ak:ho X (.χ T) r)(R:fD k0 Ϲ ϰ ϭ E)(hm:hB X.mg x (.χ T))(aN:PA X (e::C) t)(au:Ϫ (X.ό.Ϟ=bV E) dA._auto_1)(he:Ϫ (hS e=true) dA._auto_1)(Tm:Ϫ (é C=true) dA._auto_1)(Ϻ:Ϫ (iG E x) dC._auto_1):PE X (.č (.ĸ x p) (e::C) [] ŷ) (tCB r t):=TQ ak Ϻ hm.1 hm.2 aN au he Tm
theorem jv (R:fD k0 Ϲ ϰ ϭ E)(hm:X.mg x=O u)(ck:ţ v u)(au:Ϫ (X.ό.Ϟ=bV E) dA._auto_1)(Ϻ:Ϫ (iG E x) dC._auto_1):PE X (.ĸ x ŷ) (tC v):=TR Ϻ hm ck au
theorem rr (R:fD k0 Ϲ ϰ ϭ E)(hm:hB X.mg x u)(ck:ţ v u)(au:Ϫ (X.ό.Ϟ=bV E) dA._auto_1)(Ϻ:Ϫ (iG E x) dC._auto_1):PE X (.ĸ x ŷ) (tC v):=TS Ϻ hm.1 hm.2 ck au
end
theorem De {Ϯ:Y ϫ->Prop}(h:∀a b c ϻ e f Ϻ i j,Ϯ [a,b,c,ϻ,e,f,Ϻ,i,j]):us.N=9->Ϯ us:=oq λa _=>Dc (Ϯ:=λt=>Ϯ (a::t)) (h a)
def Hid (p:Prop):Prop:=p
theorem big:(100000:B)<=ϓ:=by rw[ρ];decide
theorem cj {k:B}(ϴ:FB K x Ρ E f ps)(S:FS ϰ ps E)(af:∀(Ë:ϫ)(Ϲ:ŕ)(Ϗ:Y OF)(s:ϐ)(H:ag)(d:Y V)(Q:a8)(ϵ:bz)(R:fD k (Ϲ.Ê (ŋ Ρ (bV E) s.P.Ϡ.Ϥ f Ë)) ϰ ps E)(h:sp d H Q ϵ)(eZ:Prop)(u:(∃t,Bf (hs bx Ϯ w K mg ϊ ϰ Ρ (bV E) f Ë Ϲ Ϗ s H ϵ).nox (fI E) t/\t { aP:=λ_ U=>Q .br U,iR:=Q } (ã ϰ d) H)->eZ),eZ)(SC:∀d H Q ϵ,sp d H Q ϵ->d.N=ps.N:=by walk_at "l"):kV Ϯ w K mg ϊ bx (k+1) f ps sp:=
 let⟨fd,ϳ,ϸ⟩:=ϴ
 ⟨fd,ϸ,ϳ.ok S.sc.1 SC λË Ϲ Ϗ s H d Q ϵ aO h=>af Ë Ϲ Ϗ s H d Q ϵ ⟨S,aO⟩ h _ λz=>z⟩
section
variable {K:Frag}{n q x:Str}{C f:Addr}{st:Stmt}{aJ:List Str}
structure Df (K:ş)(n:ϕ)(E:Τ)(f:Ϩ):Prop where
 a:nsIn K Ļ n=O (O (.Z f))
 l:jZ K n n E f
structure FM (K:ş)(Ϸ:Ϩ)(n q:ϕ)(E:Τ)(f:Ϩ):Prop where
 a:ü K (.Z Ϸ) n=O (O (.Z f))
 i:isFn K (.Z f)=true
 l:jZ K n q E f
theorem Df.Ϻ {h:Θ}(Ϻ:Df K n E f)(X:K.In h)(ϳ:h.Ns Ļ mg):ed K mg n f:=⟨anE X ϳ Ϻ.a,Ϻ.l.dU⟩
theorem FM.m (h:FM K Ϸ n q E f):ŏ K Ϸ n f:=⟨h.a,h.i,h.l.dU⟩
theorem FM.o {϶:Ϩ}(h:FM K Ϸ n q E f)(o:ü K (.Z ϶) n=O (O (.Z f))):ŏ K ϶ n f:=⟨o,h.i,h.l.dU⟩
structure ot (K:ş)(n:ϕ)(Ϸ:Ϩ)(aJ:Y ϕ):Prop where
 a:nsIn K Ļ n=O (O (.Z Ϸ))
 c:fc K Ϸ
 k:Tk K (.Z Ϸ)=true
 m:makesIn K Ϸ=true
 no:∀x∈aJ,ü K (.Z Ϸ) x=O none
theorem ot.h (c:ot K n Ϸ (x::aJ)):eC K Ϸ x:=c.no _ (.head _)
theorem ot.t (c:ot K n Ϸ (x::aJ)):ot K n Ϸ aJ:=⟨c.a,c.c,c.k,c.m,λ_ h=>c.no _ (.OW _ h)⟩
theorem ot.mk' (c:ot K n Ϸ aJ){q:ϕ}(m:FM K Ϸ "__init__" q E f):h9 K Ϸ f:=⟨c.m,m.a,m.i,c.k⟩
theorem ot.mo (c:ot K n Ϸ aJ){϶:Ϩ}{q:ϕ}(m:FM K ϶ "__init__" q E f)(o:ü K (.Z Ϸ) "__init__"=O (O (.Z f))):h9 K Ϸ f:=⟨c.m,o,m.i,c.k⟩
end
section
variable {β IJ TX af6:Sort _}{p:Addr}{n:Int}{c:Bool}{z:Str}
theorem ahx {q:Ϩ->Prop}:(∃a,V.Z p=.Z a/\q a)=q p:=ò ⟨λ⟨_,e,h⟩=>by cases e;exact h,λh=>⟨_,rfl,h⟩⟩
theorem ahy {q:Ϩ->β->Prop}:(∃a b,V.Z p=.Z a/\q a b)=∃b,q p b:=ò ⟨λ⟨_,_,e,h⟩=>by cases e;exact⟨_,h⟩,λ⟨_,h⟩=>⟨_,_,rfl,h⟩⟩
theorem ahz {q:Ϩ->β->IJ->Prop}:(∃a b c,V.Z p=.Z a/\q a b c)=∃b c,q p b c:=ò ⟨λ⟨_,_,_,e,h⟩=>by cases e;exact⟨_,_,h⟩,λ⟨_,_,h⟩=>⟨_,_,_,rfl,h⟩⟩
theorem ahA {q:Ϩ->β->IJ->ahB->Prop}:(∃a b c ϻ,V.Z p=.Z a/\q a b c ϻ)=∃b c ϻ,q p b c ϻ:=ò ⟨λ⟨_,_,_,_,e,h⟩=>by cases e;exact⟨_,_,_,h⟩,λ⟨_,_,_,h⟩=>⟨_,_,_,_,rfl,h⟩⟩
theorem ahC:(∃a,V.M n=.M a/\q a)=q n:=ò ⟨λ⟨_,e,h⟩=>by cases e;exact h,λh=>⟨_,rfl,h⟩⟩
theorem ahH {q:δ->Prop}:(∃a,V.bl c=.bl a/\q a)=q c:=ò ⟨λ⟨_,e,h⟩=>by cases e;exact h,λh=>⟨_,rfl,h⟩⟩
theorem ahI {q:ϕ->Prop}:(∃a,V.str z=.str a/\q a)=q z:=ò ⟨λ⟨_,e,h⟩=>by cases e;exact h,λh=>⟨_,rfl,h⟩⟩
theorem ahJ:(∃a,[V.M n]=[.M a]/\q a)=q n:=ò ⟨λ⟨_,e,h⟩=>by cases e;exact h,λh=>⟨_,rfl,h⟩⟩
theorem ahK {m:G}{q:G->G->Prop}:(∃a b,[V.M n,V.M m]=[.M a,.M b]/\q a b)=q n m:=ò ⟨λ⟨_,_,e,h⟩=>by cases e;exact h,λh=>⟨_,_,rfl,h⟩⟩
theorem ahL {q:Ϩ->Prop}:(∃a,[V.Z p]=[.Z a]/\q a)=q p:=ò ⟨λ⟨_,e,h⟩=>by cases e;exact h,λh=>⟨_,rfl,h⟩⟩
theorem ahM {q:Ϩ->β->Prop}:(∃a b,[V.Z p]=[.Z a]/\q a b)=∃b,q p b:=ò ⟨λ⟨_,_,e,h⟩=>by cases e;exact⟨_,h⟩,λ⟨_,h⟩=>⟨_,_,rfl,h⟩⟩
theorem ahT {q:V->Prop}:(∃a,[v]=[a]/\q a)=q v:=ò ⟨λ⟨_,e,h⟩=>by cases e;exact h,λh=>⟨_,rfl,h⟩⟩
theorem ahU {q:V->β->Prop}:(∃a b,[v]=[a]/\q a b)=∃b,q v b:=ò ⟨λ⟨_,_,e,h⟩=>by cases e;exact⟨_,h⟩,λ⟨_,h⟩=>⟨_,_,rfl,h⟩⟩
end
section
variable {C:Int->Int->Prop}{g:Int->Int->V}{i j:Int}{H:ag}{Q:a8}{K:Frag}{p:Addr}{v:V}{bo:TE}{f:Str}{J:St}
abbrev kf (K:ş)(f:ϕ)(H:ag)(a:Ϩ)(Ϯ:V->Prop):Prop:=∃Ϸ dx aJ,H a=O (.Â Ϸ dx aJ)/\fc K Ϸ/\eC K Ϸ f/\∃v,aJ.Ϣ f=O v/\Ϯ v
abbrev j0 (Ϸ:Ϩ)(m:ϕ)(H:ag)(a:Ϩ)(Ϯ:Prop):Prop:=∃dx aJ,H a=O (.Â Ϸ dx aJ)/\aJ.Ϣ m=none/\Ϯ
abbrev cY (K:ş)(H:ag)(p:Ϩ)(i:G)(Ϯ:V->Prop):Prop:=∃F,aM K H p F/\∃v,fH F i=O v/\Ϯ v
abbrev cP (K:ş)(H:ag)(p:Ϩ)(i:G)(Ϯ:V->Prop):Prop:=∃F,bN K H p F/\∃v,fH F i=O v/\Ϯ v
theorem ahV:rI Ϸ Ϻ (.M i) (.M j) H Q=(Ϸ i j/\Q (Ϻ i j) H):=ò ⟨λ⟨_,_,au,az,h⟩=>by cases au;cases az;exact h,λh=>⟨_,_,rfl,rfl,h⟩⟩
theorem ahW:mh Ϻ (.M i) (.M j) H Q=Q (Ϻ i j) H:=ò ⟨λ⟨_,_,au,az,h⟩=>by cases au;cases az;exact h,λh=>⟨_,_,rfl,rfl,h⟩⟩
theorem znx:uo K (.Z p) (.M i) H Q=cY K H p i λv=>Q v H:=ò ⟨λ⟨_,F,_,v,au,az,g,ah,h⟩=>by cases au;cases az;exact⟨F,g,v,ah,h⟩,λ⟨F,g,v,ah,h⟩=>⟨_,F,_,v,rfl,rfl,g,ah,h⟩⟩
theorem zni:ur K (.Z p) (.M i) H Q=cP K H p i λv=>Q v H:=ò ⟨λ⟨_,F,_,v,au,az,g,ah,h⟩=>by cases au;cases az;exact⟨F,g,v,ah,h⟩,λ⟨F,g,v,ah,h⟩=>⟨_,F,_,v,rfl,rfl,g,ah,h⟩⟩
theorem znu:yW (.Z p) [v] H Q=∃F,H p=O (.Ť F)/\F.N<ϓ/\Q .br (ſ H p (.Ť (F++[v]))):=ò ⟨λ⟨_,F,_,au,az,h⟩=>by cases au;cases az;exact⟨F,h⟩,λ⟨F,h⟩=>⟨_,F,_,rfl,rfl,h⟩⟩
theorem znp:Bw K bo f=λJ H Q=>bo J H λx H1=>∃a,x=.Z a/\kf K f H1 a λv=>Q v H1:=by
 funext J H Q
 refine ż (bo J H) (funext λx=>funext λH1=>ò ⟨?_,?_⟩)
 ·rintro⟨a,Ϸ,dx,aJ,v,g,ah,aI,bO,d1,gY⟩;exact⟨a,g,Ϸ,dx,aJ,ah,aI,bO,v,d1,gY⟩
 ·rintro⟨a,g,Ϸ,dx,aJ,ah,aI,bO,v,d1,gY⟩;exact⟨a,Ϸ,dx,aJ,v,g,ah,aI,bO,d1,gY⟩
theorem ah4 {Ϸ:Ϩ}{m:ϕ}{ϵ:bz}{t:du}:ug Ϸ m sp dY ϵ bo t=λJ H Q=>bo J H λx H1=>∃a,x=.Z a/\j0 Ϸ m H1 a (t J H1 λd aC=>sp (x::(d++dY)) aC Q ϵ):=by
 funext J H Q
 refine ż (bo J H) (funext λx=>funext λH1=>ò ⟨?_,?_⟩)
 ·rintro⟨a,dx,aJ,g,ah,aI,bO⟩;exact⟨a,g,dx,aJ,ah,aI,bO⟩
 ·rintro⟨a,g,dx,aJ,ah,aI,bO⟩;exact⟨a,dx,aJ,g,ah,aI,bO⟩
theorem zbn {Ϸ:Ϩ}{m:ϕ}{gg:kR}{t:du}:HP Ϸ m sp dY gg bo t=λJ H Q=>bo J H λx H1=>∃a,x=.Z a/\j0 Ϸ m H1 a (t J H1 λd aC=>sp (x::(d++dY)) aC Q (gg J)):=by
 funext J H Q
 refine ż (bo J H) (funext λx=>funext λH1=>ò ⟨?_,?_⟩)
 ·rintro⟨a,dx,aJ,g,ah,aI,bO⟩;exact⟨a,g,dx,aJ,ah,aI,bO⟩
 ·rintro⟨a,g,dx,aJ,ah,aI,bO⟩;exact⟨a,dx,aJ,g,ah,aI,bO⟩
theorem ah5 {f:α->β}{a:α}{l:Y α}:ϒ f (a::l)=f a::ϒ f l:=rfl
theorem ah6 {f:α->β}:ϒ f []=[]:=rfl
theorem ah7 {i j:G}:lA (.M i) (.M j)=true:=rfl
theorem ah8 {y:ϕ}:lA (.str x) (.str y)=true:=rfl
theorem ah9 {x y:δ}:lA (.bl x) (.bl y)=true:=rfl
theorem zzp {j:G}:lA .br (.M j)=true:=rfl
theorem ah_ {j:G}:lA (.M j) .br=true:=rfl
theorem zym {j:G}:lA (.M j) (.str x)=true:=rfl
theorem zyy:lA .br (.str x)=true:=rfl
theorem aia:lA (.str x) .br=true:=rfl
theorem zzl:lA .br .br=true:=rfl
theorem TY {i j:G}:jj (.M i) (.M j)=(i==j):=rfl
theorem TZ {y:ϕ}:jj (.str x) (.str y)=(x==y):=rfl
end
end L2
variable {xs:List L2.V}
namespace L2
open PySem PySem.Spec
section
variable {K:Frag}{H:ag}{r p:Addr}
theorem cp {f:ϕ}{aJ:Y (ϕ×V)}{Ϯ:V->Prop}(h:H r=O (.Â Ϸ dx aJ))(c:fc K Ϸ)(n:eC K Ϸ f)(l:aJ.Ϣ f=O v)(q:Ϯ v):kf K f H r Ϯ:=⟨Ϸ,dx,aJ,h,c,n,v,l,q⟩
theorem mG {i:G}{Ϯ:V->Prop}(h:aM K H p F)(e:fH F i=O v)(q:Ϯ v):cY K H p i Ϯ:=⟨F,h,v,e,q⟩
theorem dM {i:G}{Ϯ:V->Prop}(h:bN K H p F)(e:fH F i=O v)(q:Ϯ v):cP K H p i Ϯ:=⟨F,h,v,e,q⟩
theorem Ja {u w:V}{c y:ϫ}{b:δ}{Ϯ:δ->Prop}(e:uR w=O c)(t:hr K H u y)(k:IV K y c=O b)(q:Ϯ b):∃c,uR w=O c/\∃y,hr K H u y/\∃b,IV K y c=O b/\Ϯ b:=⟨c,e,y,t,b,k,q⟩
theorem Jb {u:V}{c y:ϫ}{b:δ}{Ϯ:δ->Prop}(t:hr K H u y)(k:IV K y c=O b)(q:Ϯ b):∃y,hr K H u y/\∃b,IV K y c=O b/\Ϯ b:=⟨y,t,b,k,q⟩
theorem T1 {u w:V}{ϻ e:Ŀ}{Ϯ:Ŀ->Ŀ->Prop}(h:Den K H u ϻ)(Ϻ:Den K H w e)(s:ĝ.ii ϻ=true)(z:ĝ.ii e=true)(q:Ϯ ϻ e):∃ϻ,Den K H u ϻ/\∃e,Den K H w e/\ĝ.ii ϻ=true/\ĝ.ii e=true/\Ϯ ϻ e:=⟨ϻ,h,e,Ϻ,s,z,q⟩
theorem dZ {f:ϕ}{aJ:Y (ϕ×V)}{Ϯ:Prop}(h:H r=O (.Â Ϸ dx aJ))(n:aJ.Ϣ f=none)(q:Ϯ):j0 Ϸ f H r Ϯ:=⟨dx,aJ,h,n,q⟩
end
section
variable {c a b:TT}{t u:dn}{D:Ends}{J:St}{H:ag}{Q:Bool->ag->Prop}
theorem Jc (eZ:ag->Prop)(h:∀q:δ->ag->Prop,(∀U,eZ U->q false U)->c J H q)(k:∀U,eZ U->u ϶ J U):yD c t u ϶ J H:=h _ λU x=>by
 rw[aD ∅];exact k U x
end
end L2
namespace L2
open PySem PySem.Spec PyProof.Rows
end L2
variable {r q:Int}
namespace Ly
open PySem L2
section
variable {bE:Type}[DecidableEq bE]
def Top (ps:Y (bE×G))(k:bE)(q:G):Prop:=(k,q)∈ps/\∀r,(k,r)∈ps->r<=q
theorem Top.O8 {ps:Y (bE×G)}{k:bE}(h:Top ps k q)(h':Top ps k r):q=r:=by
 have a:=h.2 _ h'.1
 have b:=h'.2 _ h.1
 omega
structure kW (ps:Y (bE×G))(Ϝ:Y (bE×V)):Prop where
 nd:(Ϝ.ϒ (·.1)).Α
 to:∀k v,aW Ϝ k=O v->∃q,v=.M q/\Top ps k q
 no:∀k,aW Ϝ k=none->∀q,(k,q) ∉ ps
theorem kW.add {ps:Y (bE×G)}{Ϝ:Y (bE×V)}{p:bE×G}(h:kW ps Ϝ)(zM:0<=p.2):kW (ps++[p]) (hW Ϝ p):=by
 obtain⟨k,q⟩:=p;have zM:0<=q:=zM
 unfold hW sN;cases e:aW Ϝ k with
 | none=>
  show kW _ (if (-1:G)<q then ß Ϝ k (.M q) else Ϝ)
  rw[aS ⋯];refine⟨sO h.nd,λj v aG=>?_,λj aG r aO=>?_⟩
  ·rw[jU]at aG;split at aG
   ·rename_i z;cases aG;subst z;refine⟨q,rfl,by simp,λr aO=>?_⟩;rcases κ.mp aO with y|y
    ·exact bJ y (h.no _ e r)
    ·have:=ż I1.snd (ϖ.mp y)
     simp only at ν;omega
   ·rename_i z;obtain⟨r,rfl,t1,fT⟩:=h.to j v aG;refine⟨r,rfl,by simp[t1],λs aH=>?_⟩;rcases κ.mp aH with y|y
    ·exact fT s y
    ·exact bJ (ż I1.fst (ϖ.mp y)) z
  ·rw[jU]at aG;split at aG
   ·cases aG
   ·rename_i z;rcases κ.mp aO with y|y
    ·exact h.no j aG r y
    ·exact z (ż I1.fst (ϖ.mp y))
 | O v=>
  obtain⟨r,rfl,t1,fT⟩:=h.to k v e;show kW _ (if r<q then ß Ϝ k (.M q) else Ϝ)
  by_cases z:r<q
  ·rw[aS z];refine⟨sO h.nd,λj v aG=>?_,λj aG s aH=>?_⟩
   ·rw[jU]at aG;split at aG
    ·rename_i y;cases aG;subst y;refine⟨q,rfl,by simp,λs aH=>?_⟩;rcases κ.mp aH with y|y
     ·have:=fT s y
      omega
     ·have:=ż I1.snd (ϖ.mp y)
      simp only at ν;omega
    ·rename_i y;obtain⟨s,rfl,kg,kQ⟩:=h.to j v aG;refine⟨s,rfl,by simp[kg],λs' aH=>?_⟩;rcases κ.mp aH with x|x
     ·exact kQ s' x
     ·exact bJ (ż I1.fst (ϖ.mp x)) y
   ·rw[jU]at aG;split at aG
    ·cases aG
    ·rename_i y;rcases κ.mp aH with x|x
     ·exact h.no j aG s x
     ·exact y (ż I1.fst (ϖ.mp x))
  ·rw[aD z];refine⟨h.nd,λj v aG=>?_,λj aG s aH=>?_⟩
   ·obtain⟨s,rfl,kg,kQ⟩:=h.to j v aG;refine⟨s,rfl,by simp[kg],λs' aH=>?_⟩;rcases κ.mp aH with x|x
    ·exact kQ s' x
    ·have au:j=k:=ż I1.fst (ϖ.mp x)
     have az:s'=q:=ż I1.snd (ϖ.mp x)
     subst au;have:=Top.O8 (ps:=ps) (k:=j) ⟨kg,kQ⟩ ⟨t1,fT⟩
     omega
   ·rcases κ.mp aH with x|x
    ·exact h.no j aG s x
    ·have au:j=k:=ż I1.fst (ϖ.mp x)
     rw[au,e]at aG;cases aG
theorem T2:kW ([]:Y (bE×G)) []:=⟨wf,λk v h=>(by cases h),λk _ q h=>(by cases h)⟩
theorem T3 {ps:Y (bE×G)}(h0:∀p∈ps,0<=p.2):kW ps (ps.alw hW []):=by
 have Pj:∀(rs gX:Y (bE×G))(Ϝ:Y (bE×V)),kW gX Ϝ->(∀p∈rs,0<=p.2)->kW (gX++rs) (rs.alw hW Ϝ):=by
  intro rs;induction rs with
  | ń=>intro gX Ϝ h _;rwa[ċ]
  | θ p r bB=>
   intro gX Ϝ h ay;have:=bB (gX++[p]) (hW Ϝ p) (h.add (ay p (by simp))) λx ai=>ay x (by simp[ai])
   rwa [Y.aij]at ν
 exact Pj ps [] [] T2 h0
def Dg (ps gX:Y (bE×G)):Prop:=∀k q,(k,q)∈ps->∃r,(k,r)∈gX/\q<=r
theorem kW.ű {ps gX:Y (bE×G)}{Ϝ Dh:Y (bE×V)}(h:kW ps Ϝ)(Ϻ:kW gX Dh)(ϻ:Dg ps gX)(d':Dg gX ps){k:bE}(aG:aW Ϝ k=O v):aW Dh k=O v:=by
 obtain⟨q,rfl,t1,fT⟩:=h.to k v aG;obtain⟨r,bG,bW⟩:=ϻ k q t1;cases e:aW Dh k with
 | none=>exact bJ bG (Ϻ.no k e r)
 | O u=>
  obtain⟨s,rfl,kg,kQ⟩:=Ϻ.to k u e;obtain⟨x,x1,fX⟩:=d' k s kg;have a1:=fT x x1
  have a2:=kQ r bG
  have:s=q:=⋯
  rw[ν]
end
end Ly
variable {N:Int}
namespace Sr
section
variable {α:Type}{E:α->α->Prop}{step:Int->α->α}{there:Int->α->Prop}{b q t t':Int}{f f0:α}
structure sT (ϵ:α->α->Prop)(ę:G->α->α)(ĩ:G->α->Prop):Prop where
 Ô:∀a,ϵ a a
 symm:∀{a c},ϵ a c->ϵ c a
 Ϛ:∀{a c ϻ},ϵ a c->ϵ c ϻ->ϵ a ϻ
 zN:∀{a c} t,ϵ a c->ϵ (ę t a) (ę t c)
 test:∀{a c} t,ϵ a c->ĩ t a->ĩ t c
def Jd (ę:G->α->α)(b:G)(f0:α):B->α
 | 0=>f0
 | k+1=>ę (b+(k:B)) (Jd ę b f0 k)
def fe (ę:G->α->α)(b:G)(f0:α)(t:G):α:=Jd ę b f0 (t-b).Ο
theorem Di (h:b<=t):fe ę b f0 (t+1)=ę t (fe ę b f0 t):=by
 unfold fe;rw[show(t+1-b).Ο=(t-b).Ο+1 by omega];show ę (b+((t-b).Ο:B)) _=_
 rw[show b+(((t-b).Ο:B):G)=t by omega]
theorem Dj:fe ę b f0 b=f0:=by
 unfold fe;rw[show(b-b).Ο=0 by omega];rfl
structure At (ϵ:α->α->Prop)(ę:G->α->α)(ĩ:G->α->Prop)(b q:G)(f0:α)(t:G)(f:α):Prop where
 le:b<=t
 eq:ϵ f (fe ę b f0 t)
 no:∀s,b<=s->s<t->¬ĩ s (fe ę b f0 s)
 ct:∀s,b<=s->q<=s->s<t->¬ϵ (fe ę b f0 s) (fe ę b f0 (s+1))
theorem At.ã (ϴ:sT ϵ ę ĩ):At ϵ ę ĩ b q f0 b f0:=⟨G.ϑ _,by rw[Dj];exact ϴ.Ô _,λs g ah=>by omega,λs g _ ah=>by omega⟩
theorem At.go (ϴ:sT ϵ ę ĩ)(h:At ϵ ę ĩ b q f0 t f)(n:¬ĩ t f)(m:¬ϵ (ę t f) f):At ϵ ę ĩ b q f0 (t+1) (ę t f):=by
 have e:ϵ (ę t f) (fe ę b f0 (t+1)):=by rw[Di h.le];exact ϴ.zN t h.eq
 refine⟨by have:=h.le;omega,e,λs g ah=>?_,λs g aI ah=>?_⟩
 ·by_cases z:s=t
  ·subst z;exactλy=>n (ϴ.test _ (ϴ.symm h.eq) y)
  ·exact h.no s g ⋯
 ·by_cases z:s=t
  ·subst z;exactλy=>m (ϴ.Ϛ e (ϴ.Ϛ (ϴ.symm y) (ϴ.symm h.eq)))
  ·exact h.ct s g aI ⋯
theorem gS (ϴ:sT ϵ ę ĩ)(af:b<=t)(he:ϵ f (fe ę b f0 t))(m:ϵ (ę t f) f)(E:∀s,t<=s->s<t'->ϵ (ę s f) (ę t f)):∀n:B,t+n<=t'->ϵ f (fe ę b f0 (t+n))
 | 0,_=>by rwa[show t+((0:B):G)=t by omega]
 | n+1,aF=>by
  have bB:=gS ϴ af he m E n ⋯
  rw[show t+((n+1:B):G)=t+n+1 by omega,Di ⋯];exact ϴ.Ϛ (ϴ.symm m) (ϴ.Ϛ (ϴ.symm (E (t+n) ⋯ ⋯)) (ϴ.zN _ bB))
theorem At.skip (ϴ:sT ϵ ę ĩ)(h:At ϵ ę ĩ b q f0 t f)(n:¬ĩ t f)(m:ϵ (ę t f) f)(l:t<t')(sU:t'<=q)(E:∀s,t<=s->s<t'->ϵ (ę s f) (ę t f))(jW:∀s,t<s->s<t'->¬ĩ s f):At ϵ ę ĩ b q f0 t' f:=by
 have af:=h.le
 have K:∀s,t<=s->s<=t'->ϵ f (fe ę b f0 s):=λs g ah=>by
  have:=gS ϴ af h.eq m E (s-t).Ο ⋯
  rw[show t+(((s-t).Ο:B):G)=s by omega]at ν;exact ν
 refine⟨⋯,K t' ⋯ (G.ϑ _),λs g ah=>?_,λs g aI ah=>by omega⟩;by_cases z:s<t
 ·exact h.no s g z
 ·by_cases y:s=t
  ·subst y;exactλw=>n (ϴ.test _ (ϴ.symm h.eq) w)
  ·exactλw=>jW s ⋯ ah (ϴ.test _ (ϴ.symm (K s ⋯ ⋯)) w)
structure Dk (ϵ:α->α->Prop)(ę:G->α->α)(ĩ:G->α->Prop)(b q:G)(f0:α)(t:G)(f:α):Prop where
 le:b<=t
 zO:q<=t
 eq:ϵ f (fe ę b f0 t)
 jk:ϵ (fe ę b f0 t) (fe ę b f0 (t+1))
 no:∀s,b<=s->s<=t->¬ĩ s (fe ę b f0 s)
 ct:∀s,b<=s->q<=s->s<t->¬ϵ (fe ę b f0 s) (fe ę b f0 (s+1))
theorem At.Dl (ϴ:sT ϵ ę ĩ)(h:At ϵ ę ĩ b q f0 t f)(n:¬ĩ t f)(m:ϵ (ę t f) f)(ao:q<=t):Dk ϵ ę ĩ b q f0 t f:=by
 refine⟨h.le,ao,h.eq,?_,λs g ah=>?_,h.ct⟩
 ·rw[Di h.le];exact ϴ.Ϛ (ϴ.symm h.eq) (ϴ.Ϛ (ϴ.symm m) (ϴ.zN t h.eq))
 ·by_cases z:s=t
  ·subst z;exactλy=>n (ϴ.test _ (ϴ.symm h.eq) y)
  ·exact h.no s g ⋯
end
section
variable {bE:Type}
def sV (ϰ:G):ϣ G->B
 | O q=>(ϰ-q).Ο
 | none=>(ϰ+1).Ο
def gr (ϰ:G)(ks:Y bE)(Ϻ:bE->ϣ G):B:=(ks.ϒ λk=>sV ϰ (Ϻ k)).sum
theorem Je {ks:Y bE}{Ϻ h:bE->ϣ G}(up:∀k q,Ϻ k=O q->∃r,h k=O r/\q<=r)(bd:∀k r,h k=O r->0<=r/\r<=ϰ):gr ϰ ks h<=gr ϰ ks Ϻ:=by
 induction ks with
 | ń=>exact B.ϑ _
 | θ k ks bB=>
  have Pb:sV ϰ (h k)<=sV ϰ (Ϻ k):=by
   cases e:Ϻ k with
   | O q=>
    obtain⟨r,az,l⟩:=up k q e;rw[az];show(ϰ-r).Ο<=(ϰ-q).Ο
    omega
   | none=>
    cases az:h k with
    | none=>exact B.ϑ _
    | O r=>
     have:=bd k r az
     show(ϰ-r).Ο<=(ϰ+1).Ο
     omega
  show(ϒ _ (k::ks)).sum<=(ϒ _ (k::ks)).sum
  rw[Ŷ,aiP,Ŷ,aiP];exact B.add_le_add Pb bB
theorem T4 {ks:Y bE}{Ϻ h:bE->ϣ G}(up:∀k q,Ϻ k=O q->∃r,h k=O r/\q<=r)(bd:∀k r,h k=O r->0<=r/\r<=ϰ)(ϻ:∃k∈ks,Ϻ k≠h k):gr ϰ ks h<gr ϰ ks Ϻ:=by
 obtain⟨k,aq,ne⟩:=ϻ;have Pj:sV ϰ (h k)<sV ϰ (Ϻ k):=by
  cases e:Ϻ k with
  | O q=>
   obtain⟨r,az,l⟩:=up k q e;have:=bd k r az
   have:q≠r:=λz=>ne (by rw[e,az,z])
   rw[az];show(ϰ-r).Ο<(ϰ-q).Ο
   omega
  | none=>
   cases az:h k with
   | none=>exact bJ (by rw[e,az]) ne
   | O r=>
    have:=bd k r az
    show(ϰ-r).Ο<(ϰ+1).Ο
    omega
 obtain⟨s,t,rfl⟩:=Y.append_of_mem aq;have a:=Je (ks:=s) up bd
 have c:=Je (ks:=t) up bd
 unfold gr at a c ⊢;rw[Ε,Y.alU,Ŷ,aiP,Ε,Y.alU,Ŷ,aiP];omega
end
end Sr
namespace Bk
open PySem L2 Wy
def OM (C:Y Ĕ)(t r:G):Prop:=∀e∈C,∀s,t<=s->s<=r->cT e.b e.c s=cT e.b e.c t
def va (v:V)(t:G):Prop:=∃n:G,v=.M n/\n<=t
theorem T5 {C:Y Ĕ}{t s:G}(f:om C φ v)(t0:0<=t)(h:OM C t r)(g:t<=s)(ah:s<=r)(y:va v s):va v t:=by
 obtain⟨n,rfl,aF⟩:=y;rcases f with⟨z,_⟩|⟨m,z,_,ok⟩
 ·cases z
 ·cases z;refine⟨n,rfl,?_⟩;by_cases bj:n<=t
  ·exact bj
  ·exfalso
   have p:=ok.ŷ
   rcases ok.SZ with w|⟨x,ai,e⟩
   ·omega
   ·have a:=h x ai (n-1) ⋯ ⋯
    have c:=h x ai n ⋯ ⋯
    have:=ok.low x ai n p (c.Ϛ (a.symm.Ϛ e))
    omega
theorem T6 {C:Y Ĕ}{t:G}(ak:∀e∈C,e.c≠[])(h:∀e∈C,e.b+(e.c.N:G)-1<=t)(r:G):OM C t r:=λe he s g _=>by
 rw[u1 (ak e he) (by have:=h e he;omega),u1 (ak e he) (h e he)]
end Bk
variable {bo:L2.du}{jq:Nat}{kc:PySem.Pos}
namespace L2
open PySem PySem.Spec PyProof.Rows
section
variable {prog:Program}{w:World}{A:Around}{E:wvP}{s:Shared}{d:Addr}
end
theorem fo.but {h:Θ}(ϻ:fo Ϲ h){ϲ:Y Ϩ}(cY:∀b∈ϲ,∃o n,h.ϛ b=O o/\o.Ŝ=.χ n)(k:∀b o,b ∉ ϲ->h.ϛ b=O o->h'.ϛ b=O o):fo Ϲ h':=by
 rcases ϻ with ϻ|⟨a6,Ϸ,dx,d,a0,d4,ea,h6⟩
 ·exact .ε ϻ
 ·refine .Œ ⟨a6,Ϸ,dx,d,a0,d4,k _ _ (λz=>?_) ea,h6⟩;obtain⟨o,n,av,ak⟩:=cY a6 z;rw[ea]at av;cases av;cases ak
section
variable {prog:Program}{w:World}{A:Around}{E:wvP}{s:Shared}
theorem zP (bj:fo Ϲ s.P)(SZ:s.P.É it l i)(aw:s.P.Ò l ž)(ai:ž[i]?=none)(gd:∀h' e,Θ.I2 it s.P h'->(∃o,h'.ϛ e=O o/\o.Ŝ=.χ "StopIteration")->ϵ (.Z e) { s with P:=h' }):ϙ (ώ ϔ w) Ϲ (π.Û.ajE (.Z it)) Q ϵ s:=by
 obtain⟨o,av,ak,hd⟩:=id SZ;obtain⟨_,kv,_,_,m4⟩:=aw;unfold π.Û.ajE;refine ax (Ψ (name:=ϕ.ϝ "__next__") SZ.Ÿ Fk (Ż Fk SZ.Ÿ ajg ?_ (ajK _)));refine ax (m:=IO (.Z it) 0) (Ξ av hd (x:=.Z l) rfl ?_);rw[aD (λz:(ϫ.Z l==ϫ.none)=true=>nomatch z)];refine ax (m:=IO (.Z it) 1) (Ξ av hd (x:=.M i 0) rfl (ax (m:=ć (.Z l)) (Ŧ kv m4 ?_)));simp only[ũ,ai];refine ax (ì (ax (į av hd (by simp) (nV (bj.ý (Ϲ:=Ϲ) av ak _) λh' e k1 k2=>gd h' e (λb o af z=>k1 b o ?_) k2))));rwa[ψ _ _ (Ne.symm af)]
theorem T7 {z TI gz fi f9 eL eM:Ϩ}{k1 k2:B}{F ys:μ ϫ}{a b:ϫ}{Q:ϣ ϫ->ϐ->Prop}(bj:fo Ϲ s.P)(϶:ZipApart z TI gz fi f9 eL eM)(hz:IsZip s.P z TI gz .none)(j1:am0 s.P TI (.Z fi) (.Z f9))(kX:am0 s.P gz a b)(g:s.P.É fi eL k1)(ah:s.P.É f9 eM k2)(rd:s.P.Ò eL F)(BW:s.P.Ò eM ys)(vb:F[k1]?=none\/ys[k2]?=none)(d6:∀h',(∀c o,c≠z->c≠gz->c≠fi->c≠f9->s.P.ϛ c=O o->h'.ϛ c=O o)->Q none { s with P:=h' }):ϙ (ώ ϔ w) Ϲ (Ħ (.Z z)) Q ϵ s:=by
 have cP:s.Q_ (.Z z) "zip":=⟨_,hz,rfl⟩
 have Jf:fo Ϲ.jp s.P:=bj
 unfold Ħ;refine ax (ď (Ψ (name:=ϕ.ϝ "__next__") cP ϟ.ϴ.amr (Ż ϟ.ϴ.amr cP ϟ.ϴ.entry_zip_next ?_ (ϟ.ϴ.args_zip_next_1 _))));have d_:∀h' e,(∀c o,c≠z->c≠gz->c≠fi->c≠f9->s.P.ϛ c=O o->h'.ϛ c=O o)->(∃o,h'.ϛ e=O o/\o.Ŝ=.χ "StopIteration")->ϙ (ώ ϔ w) Ϲ (do if <- ajF (.Z e) (.χ "StopIteration") then Ă none else throw (.Z e)) Q ϵ { s with P:=h' }:=λh' e aq he=>m3 he (d6 h' aq)
 refine ax (m:=IO (.Z z) 2) (Ξ hz rfl (x:=.Ã false) rfl (ax (m:=IO (.Z z) 3) (Ξ hz rfl (x:=.Z TI) rfl (ax (Ŧ j1 rfl ?_)))));refine ax (m:=π.Û.akL (.Z z)) ?_;unfold π.Û.akL;refine ax (Ξ hz rfl (x:=.none) rfl (bp ?_));simp only[NE];refine ax (ì (ax (Ξ hz rfl (x:=.Z gz) rfl (ax (ahr hz (by simp) λg1 fW b1=>?_)))));have fW:IsZip g1 z TI gz .anR:=fW
 obtain⟨hy,p1,cI,_⟩:=id g;obtain⟨ff,dp,cE,_⟩:=id ah;refine ax ?_;simp only[Y.zipIdx_cons,Y.zipIdx_nil,ajI,Y.amP];refine ax (ax (ams ?_));refine ax (m:=π.Û.ajE (.Z fi)) ?_;have d4:fo Ϲ.jp g1:=Jf.but (ϲ:=[z]) (λb af=>by rw[ϖ.mp af];exact⟨_,_,hz,rfl⟩) λb o af e=>b1.Β _ _ (λy=>af (by simp[y])) e
 cases ai:F[k1]? with
 | none=>
  refine zP (s:={ s with P:=g1 }) d4 (g.Β b1.Β ϶.i1z) (rd.Β b1.Β ϶.l1z) ai λg2 e b2 he=>?_;obtain⟨Dm,rt,vc⟩:=he;have fl:IsZip g2 z TI gz .anR:=b2 _ _ ϶.i1z.symm fW
  have vd:e≠z:=λy=>by rw[y,fl]at rt;cases rt;exact bJ (show ϫ.χ "zip"=ϫ.χ "StopIteration" from vc) ∅
  exact ahr fl (by simp) λg3 _ b3=>d_ g3 e (λc o cI _ sW _ y=>b3.Β _ _ cI (b2 _ _ sW (b1.Β _ _ cI y))) ⟨Dm,b3.Β _ _ vd rt,vc⟩
 | O x=>
  have aU:ys[k2]?=none:=by
   rcases vb with y|y
   ·rw[ai]at y;cases y
   ·exact y
  refine ain (g.Β b1.Β ϶.i1z) (rd.Β b1.Β ϶.l1z) ai λg2 af7 b2=>bp ?_;have b9:am0 g2 gz a b:=b2.Β _ _ ϶.TOi1 (b1.Β _ _ ϶.TOz kX)
  refine ax (Ŧ b9 rfl (ax (wpAny_updateSeq_pair b9 λg3 eV b3=>ax (ģ (bp (ax (ax (ams ?_))))))));refine ax (m:=π.Û.ajE (.Z f9)) ?_;have h6:fo Ϲ.jp g3:=Jf.but (ϲ:=[z,fi,gz]) (λb af=>by
    simp only[ς,ő,Ĩ]at af;rcases af with y|y|y
    ·rw[y];exact⟨_,_,hz,rfl⟩
    ·rw[y];exact⟨_,_,p1,cI⟩
    ·rw[y];exact⟨_,_,kX,rfl⟩) λb o af e=>b3.Β _ _ (λy=>af (by simp[y])) (b2.Β _ _ (λy=>af (by simp[y])) (b1.Β _ _ (λy=>af (by simp[y])) e))
  refine zP (s:={ s with P:=g3 }) h6 (((ah.Β b1.Β ϶.i2z).Β b2.Β ϶.i12.symm).Β b3.Β ϶.TOi2.symm) (((BW.Β b1.Β ϶.l2z).Β b2.Β ϶.l2i1).Β b3.Β ϶.l2TO) aU λlR e b4 he=>?_;obtain⟨Dm,rt,vc⟩:=he;have zQ:IsZip lR z TI gz .anR:=b4 _ _ ϶.i2z.symm (b3.Β _ _ ϶.TOz.symm (b2.Β _ _ ϶.i1z.symm fW))
  have vd:e≠z:=λy=>by rw[y,zQ]at rt;cases rt;exact bJ (show ϫ.χ "zip"=ϫ.χ "StopIteration" from vc) ∅
  exact ahr zQ (by simp) λDn _ b5=>d_ Dn e (λc o cI cE sW T8 y=>b5.Β _ _ cI (b4 _ _ T8 (b3.Β _ _ cE (b2.Β _ _ sW (b1.Β _ _ cI y))))) ⟨Dm,b5.Β _ _ vd rt,vc⟩
end
theorem Υ.an3 {T:Ϩ}{o:bb}{ch:Y Ϩ}(I:Υ X ϩ J H s)(hf:∀b∈ch,jO X ϩ H b)(k:∀b o,b ∉ ch->s.P.ϛ b=O o->h'.ϛ b=O o)(cP:s.P.Ϡ.Ϥ<=T)(OR:dG X.ϔ X.w (ſ H T o) h' T o):Υ X ϩ J (ſ H T o) { s with P:=h',Χ:=t' }:=by
 have aF:H T=none:=I.a9.Ĳ cP
 have hU:∀{b:Ϩ}{u:ğ},s.P.ϛ b=O u->b≠T:=λe=>Ι (Δ (τ e) cP)
 refine I.ę (g':=s.Ot) (d':=s.als) (ch:=ch) (λb af=>?_) (λb o _ _ ak e _=>k b o ak e) (λb o _ _ ak e _=>⟨o.ē,k b o ak e⟩) (λb o _ e n=>by rwa[aE (hU e)])
  (λb o ak e=>⟨o,k b o ak e⟩) (λb F e=>by rwa[aE (cF e aF)]) (λb o u e=>by rwa[aE (cF e aF)]) (λb ps e=>⟨#[],by rw[aE (cF e aF),e];simp⟩) (λm hm=>?_) (λb u e=>?_) I.Rs
 ·obtain⟨f0,f1,f2,dv,f4,dP⟩:=hf b af;exact⟨dv,f1,f4,dP⟩
 ·obtain⟨o,C,cw,av,r⟩:=hm;exact⟨o,C,cw,k _ o (λz=>(hf _ z).2.1 rfl) av,r⟩
 ·by_cases af:b=T
  ·subst af;rw[aQ]at e;cases e;exact OR
  ·rw[aE af]at e;refine(I.a9 b u e).gS (λc v ak q=>k c v (λz=>?_) q) (λc q=>by rwa[aE (cF q aF)]) λc F q=>by rwa[aE (cF q aF)]
   have dS:=(hf c z).1
   rcases ak with y|y
   ·rw[y,e]at dS;cases dS
   ·rw[dS]at y;cases y
theorem Υ.T9 {ch:Y Ϩ}(I:Υ X ϩ J H s)(hf:∀b∈ch,jO X ϩ H b)(k:∀b o,b ∉ ch->s.P.ϛ b=O o->h'.ϛ b=O o):Υ X ϩ J H { s with P:=h',Χ:=t' }:=by
 refine I.ę (g':=s.Ot) (d':=s.als) (ch:=ch) (λb af=>?_) (λb o _ _ ak e _=>k b o ak e) (λb o _ _ ak e _=>⟨o.ē,k b o ak e⟩) (λ_ _ _ _ n=>n) (λb o ak e=>⟨o,k b o ak e⟩) (λ_ _ e=>e) (λ_ _ _ e=>e) (λb ps e=>⟨#[],by rw[e];simp⟩) (λm hm=>?_) (λb u e=>?_) I.Rs
 ·obtain⟨f0,f1,f2,dv,f4,dP⟩:=hf b af;exact⟨dv,f1,f4,dP⟩
 ·obtain⟨o,C,cw,av,r⟩:=hm;exact⟨o,C,cw,k _ o (λz=>(hf _ z).2.1 rfl) av,r⟩
 ·refine(I.a9 b u e).gS (λc v ak q=>k c v (λz=>?_) q) (λ_ q=>q) λ_ _ q=>q;have dS:=(hf c z).1
  rcases ak with y|y
  ·rw[y,e]at dS;cases dS
  ·rw[dS]at y;cases y
def ou (K:ş)(a b:Ϩ):g7:=
 ⟨λi H=>∃F ys x y,aM K H a F/\aM K H b ys/\F[i]?=O x/\ys[i]?=O y,λi H v U=>∃T x y,v=.Z T/\H T=none/\U=ſ H T (.Ţ [x,y])/\∀F ys,aM K H a F->aM K H b ys->F[i]?=O x/\ys[i]?=O y,
  λi H=>∃F ys,aM K H a F/\aM K H b ys/\(F.N<=i\/ys.N<=i)⟩
theorem Ua (a b z TI gz fi f9:Ϩ)(϶:ZipApart z TI gz fi f9 a b):
  Bm Ϯ w K (.w_ C jq kc) (ou K a b) [z,TI,gz,fi,f9] z (λi h=>IsZip h z TI gz .none/\am0 h TI (.Z fi) (.Z f9)/\(∃x y,am0 h gz x y)/\h.É fi a i/\h.É f9 b i) where
 OO:=by simp
 Oy:=λi h E c ak=>by
  obtain⟨hz,j1,⟨x,y,kX⟩,⟨hy,p1,cI,au⟩,ff,dp,cE,az⟩:=E;simp only[ς,ő,Ĩ]at ak;rcases ak with q|q|q|q|q<;>subst q
  ·exact⟨_,hz,λv q=>by cases q⟩
  ·exact⟨_,j1,λv q=>by cases q⟩
  ·exact⟨_,kX,λv q=>by cases q⟩
  ·exact⟨hy,p1,λv q=>by rw[au]at q;cases q⟩
  ·exact⟨ff,dp,λv q=>by rw[az]at q;cases q⟩
 ĭ:=λi h h' E k=>by
  obtain⟨hz,j1,⟨x,y,kX⟩,g,ah⟩:=E;exact⟨k _ (by simp) _ hz,k _ (by simp) _ j1,⟨x,y,k _ (by simp) _ kX⟩,g.at λo e=>k _ (by simp) o e,ah.at λo e=>k _ (by simp) o e⟩
 Ov:=by
  intro X dk hw c9 ak i ϩ s J H ϵ I hf E bF;subst dk hw c9;obtain⟨F,ys,x,y,aN,af,ai,aU⟩:=bF;obtain⟨aL,ck,p,ve⟩:=I.ö aN;obtain⟨qV,zR,dp,vf⟩:=I.ö af;obtain⟨u,bK,fh⟩:=ck.O4 ai;obtain⟨v,aG,Ub⟩:=zR.O4 aU;obtain⟨hz,j1,⟨a3,b9,kX⟩,g,ah⟩:=id E;refine wpAny_pyNext_zip_item ϶ hz j1 kX g ah p.Ń dp.Ń (x:=u) (y:=v) (by simpa using bK) (by simpa using aG) λh' a1 a2 gP iE pW rq sS=>?_;have lt:∀{c:Ϩ}{o:ğ},s.P.ϛ c=O o->s.P.Ϡ.Ϥ≠c:=λe=>À (τ e)
  have aF:H s.P.Ϡ.Ϥ=none:=I.a9.Ĳ (B.ϑ _)
  have aK:Υ X ϩ J (ſ H s.P.Ϡ.Ϥ (.Ţ [x,y])) { s with P:=h' }:=I.an3 (t':=s.Χ) (ch:=[z,gz,fi,f9]) (λc ak=>hf c (by
    simp only[ς,ő,Ĩ]at ak ⊢;rcases ak with q|q|q|q<;>simp[q])) (λc o ak e=>sS c o (λq=>ak (by simp[q])) (λq=>ak (by simp[q])) (λq=>ak (by simp[q])) (λq=>ak (by simp[q])) e) (B.ϑ _)
   ⟨by rw[ρ];simp,[u,v],.θ fh (.θ Ub .ń),⟨_,pW,rfl,0,rfl⟩⟩
  refine⟨_,rfl,wpAny_letOwnedTupleGo_zip (s:={ s with P:=h' }) a1 λkJ ov fV=>?_⟩;have pY:∀c∈[z,TI,gz,fi,f9],ſ H s.P.Ϡ.Ϥ (.Ţ [x,y]) c=none:=λc ak=>by
   obtain⟨o,e,_⟩:∃o,s.P.ϛ c=O o/\Tl:=by
    obtain⟨_,p1,cI,au⟩:=id g;obtain⟨_,dp,cE,az⟩:=id ah;simp only[ς,ő,Ĩ]at ak;rcases ak with q|q|q|q|q<;>subst q
    ·exact⟨_,hz,trivial⟩
    ·exact⟨_,j1,trivial⟩
    ·exact⟨_,kX,trivial⟩
    ·exact⟨_,p1,trivial⟩
    ·exact⟨_,dp,trivial⟩
   rw[aE (Ne.symm (lt e))];exact(hf c ak).1
  obtain⟨f0,f1,f2,dv,f4,dP⟩:=hf z (by simp);have bt:Υ X ϩ J (ſ H s.P.Ϡ.Ϥ (.Ţ [x,y])) { s with P:=kJ }:=aK.Á (t':=s.Χ) (λc o ak e=>fV.Β c o ak e) (pY z (by simp)) f1 dv f4 dP
  refine⟨.Z s.P.Ϡ.Ϥ,_,bt,rfl,⟨_,x,y,rfl,aF,rfl,λJg i0 kj eh=>?_⟩,⟨ov,?_,⟨_,_,fV.Β _ _ ϶.TOz a2⟩,gP.Β fV.Β ϶.i1z,iE.Β fV.Β ϶.i2z⟩,pY⟩
  ·rw[I.t6 kj aN,I.t6 eh af];exact⟨ai,aU⟩
  ·exact fV.Β _ _ ϶.TIz (sS _ _ ϶.TIz ϶.TITO ϶.TIi1 ϶.TIi2 j1)
 done:=by
  intro X dk hw c9 ak i ϩ s J H ϵ I hf E bF;subst dk hw c9;obtain⟨F,ys,aN,af,vb⟩:=bF;obtain⟨aL,ck,p,ve⟩:=I.ö aN;obtain⟨qV,zR,dp,vf⟩:=I.ö af;have eL:=ck.N
  have eM:=zR.N
  obtain⟨hz,j1,⟨a3,b9,kX⟩,g,ah⟩:=id E;refine T7 (I.R_ ak) ϶ hz j1 kX g ah p.Ń dp.Ń (vb.Pg (λq=>by simp;omega) λq=>by simp;omega) λh' k=>⟨rfl,I.T9 (t':=s.Χ) (ch:=[z,gz,fi,f9]) (λc ak=>hf c (by
    simp only[ς,ő,Ĩ]at ak ⊢;rcases ak with q|q|q|q<;>simp[q])) λc o ak e=>k c o (λq=>ak (by simp[q])) (λq=>ak (by simp[q])) (λq=>ak (by simp[q])) (λq=>ak (by simp[q])) e⟩
 self:=λ_ _ _ _ _ E h=>akM E.1 h
def Dp (K:ş)(bo:du):TI:=λJ H R=>bo J H λd H1=>∃a b F ys,d=[.Z a,.Z b]/\aM K H1 a F/\aM K H1 b ys/\R (ou K a b) H1
theorem Jh {a b:Ġ}{p:Ox}(bF:fb X "zip")(hm:X.mg "zip"=none)(aN:PA X [a,b] bo)(aH:Ϫ (ω [a,b] X.ό=[(false,ŗ a X.ό),(false,ŗ b X.ό)]) dA._auto_1)(ix:Ϫ (ω [b] X.ό=[(false,ŗ b X.ό)]) dA._auto_1):
  PI X (.w_ C jq kc) (.č (.ĸ "zip" p) [a,b] [] ŷ) (Dp X.K bo):=by
 intro ϩ s J H R I h;refine OA (iU I bF hm PyProof.Rows.Boot.«zip» (Ĥ.KK.Į (bA (aN ŷ ϩ s J H _ I h) λus s1 ⟨d,H1,aK,bG,a3⟩=>?_) (by rw[aH,ix]) (by rw[ix];rfl)));obtain⟨a1,b1,F,ys,e,g,ah,q⟩:=a3;subst e;cases bG with
 | θ r g6=>
  cases g6 with
  | θ bW g6=>
   cases g6;cases r;cases bW;obtain⟨aL,ck,pl,hz⟩:=aK.ö g;obtain⟨qV,zR,Ji,vf⟩:=aK.ö ah;have eL:a1<s1.P.Ϡ.Ϥ:=by obtain⟨_,e,_⟩:=pl.Ń;exact τ e
   have eM:b1<s1.P.Ϡ.Ϥ:=by obtain⟨_,e,_⟩:=Ji.Ń;exact τ e
   refine call_zip_2 pl.Ń Ji.Ń λh' hz j1 kX Uc Ud Oz aq=>akM hz ?_;have bt:Υ X ϩ J H1 { s1 with P:=h' }:=aK.XL (t':=s1.Χ) aq
   refine⟨s1.P.Ϡ.Ϥ+4,[s1.P.Ϡ.Ϥ+4,s1.P.Ϡ.Ϥ+2,s1.P.Ϡ.Ϥ+3,s1.P.Ϡ.Ϥ,s1.P.Ϡ.Ϥ+1],_,_,H1,rfl,bt,Ua a1 b1 _ _ _ _ _ (zipApart_new eL eM),⟨hz,j1,⟨_,_,kX⟩,Uc,Ud⟩,λc ak=>?_,q⟩;have lc:s1.P.Ϡ.Ϥ<=c:=by
    simp only[ς,ő,Ĩ]at ak;rcases ak with q|q|q|q|q<;>rw[q]
    ·exact L_ _ _
    ·exact L_ _ _
    ·exact L_ _ _
    ·exact B.ϑ _
    ·exact L_ _ _
   exact aK.mb lc (aK.a9.Ĳ lc)
theorem Ue {b:Ϩ}{Ϻ:fq}(Pv:B->St->ag->Prop)(h0:Pv 0 J H)(aw:∀i J H,Pv i J H->aM K H a F/\aM K H b ys)(aH:∀i x y J H T,F[i]?=O x->ys[i]?=O y->Pv i J H->H T=none->Ϻ (.Z T) J (ſ H T (.Ţ [x,y])) λdm aC=>a4 { ϶ with aP:=Pv (i+1),cb:=Pv (i+1),bf:=϶.aP } dm aC)(hd:∀J H,Pv (min F.N ys.N) J H->϶.aP J H):
  ∃W:B->B->St->ag->Prop,(∃m,W 0 m J H)/\∀i m J H,W i m J H->
   ((ou K a b).stop i H/\϶.aP J H)\/((ou K a b).go i H/\∃ϰ:St->ag->Prop,(∀a7 U,ϰ a7 U->∃ba,ba<m/\W (i+1) ba a7 U)/\∀x U,(ou K a b).fR i H x U->Ϻ x J U λdm aC=>a4 { ϶ with aP:=ϰ,cb:=ϰ,bf:=϶.aP } dm aC):=by
 refine⟨λi m J H=>m=min F.N ys.N-i/\i<=min F.N ys.N/\Pv i J H,⟨min F.N ys.N,by simp,ł _,h0⟩,?_⟩;rintro i m J H ⟨rfl,aA,p⟩;obtain⟨a3,b9⟩:=aw i J H p;by_cases cJ:i<min F.N ys.N
 ·have lW:i<F.N:=⋯
  have bX:i<ys.N:=⋯
  refine .Œ ⟨⟨F,ys,F[i],ys[i],a3,b9,by simp[lW],by simp[bX]⟩,Pv (i+1),λa7 U eB=>⟨min F.N ys.N-(i+1),⋯,rfl,cJ,eB⟩,λv U y=>?_⟩;obtain⟨T,x,y,au,az,bY,dN⟩:=y;subst au bY;obtain⟨g1,g2⟩:=dN F ys a3 b9;exact aH i x y J H T g1 g2 p az
 ·have e:i=min F.N ys.N:=⋯
  subst e;exact .ε ⟨⟨F,ys,a3,b9,⋯⟩,hd J H p⟩
open AutoSeq1 (wpAny_loadPart')
section
variable {prog:Program}{w:World}{A:Around}{E:wvP}{s:Shared}
theorem Ug {t:Ϩ}{x:ϫ}(SZ:s.P.Da it t i)(bk:s.P.BT t ž)(ai:ž[i]?=O x)(d6:∀h',h'.Da it t (i+1)->Θ.N_ it s.P h'->Q x { s with P:=h' }):ϙ (ώ ϔ w) Ϲ (π.Û.ajE (.Z it)) Q ϵ s:=by
 obtain⟨o,av,ak,hd⟩:=id SZ;obtain⟨_,kv,_,_,m4⟩:=bk;unfold π.Û.ajE;refine ax (Ψ (name:=ϕ.ϝ "__next__") SZ.Ÿ ϴ.Ě (Ż ϴ.Ě SZ.Ÿ ϴ.KM ?_ (ϴ.On _)));refine ax (m:=IO (.Z it) 0) (Ξ av hd (x:=.Z t) rfl ?_);rw[aD (λz:(ϫ.Z t==ϫ.none)=true=>nomatch z)];refine ax (m:=IO (.Z it) 1) (Ξ av hd (x:=.M i 0) rfl (ax (m:=ć (.Z t)) (Ŧ kv m4 ?_)));simp only[ũ,ai];exact ax (į av hd (by simp) (bp ⟨x,rfl,bp (d6 _ ⟨_,š _ av (ğ.ahF (ğ.O_ hd _)),(ğ.amp ..).Ϛ ak,by rw[ğ.O_ hd];simp[đ]⟩ (Θ.N_.ý ..))⟩))
theorem Jj {t:Ϩ}(bj:fo Ϲ s.P)(SZ:s.P.Da it t i)(bk:s.P.BT t ž)(ai:ž[i]?=none)(gd:∀h' e,Θ.I2 it s.P h'->(∃o,h'.ϛ e=O o/\o.Ŝ=.χ "StopIteration")->ϵ (.Z e) { s with P:=h' }):ϙ (ώ ϔ w) Ϲ (π.Û.ajE (.Z it)) Q ϵ s:=by
 obtain⟨o,av,ak,hd⟩:=id SZ;obtain⟨_,kv,_,_,m4⟩:=bk;unfold π.Û.ajE;refine ax (Ψ (name:=ϕ.ϝ "__next__") SZ.Ÿ ϴ.Ě (Ż ϴ.Ě SZ.Ÿ ϴ.KM ?_ (ϴ.On _)));refine ax (m:=IO (.Z it) 0) (Ξ av hd (x:=.Z t) rfl ?_);rw[aD (λz:(ϫ.Z t==ϫ.none)=true=>nomatch z)];refine ax (m:=IO (.Z it) 1) (Ξ av hd (x:=.M i 0) rfl (ax (m:=ć (.Z t)) (Ŧ kv m4 ?_)));simp only[ũ,ai];refine ax (ì (ax (į av hd (by simp) (nV (bj.ý (Ϲ:=Ϲ) av ak _) λh' e k1 k2=>gd h' e (λb o af z=>k1 b o ?_) k2))));rwa[ψ _ _ (Ne.symm af)]
end
def vg (Ϲ:ŕ)(Ϻ:Ϩ)(h:Θ):Prop:=Ϲ.Ē=none\/∃(Ϸ:Ϩ)(dx:ϣ Ϩ)(d:μ ϫ)(a0:μ (ϣ ϫ)),Ϲ.Ē=O (.Z Ϻ)/\h.ϛ Ϻ=O ⟨.Z Ϸ,dx,.Ž d,a0⟩/\d[2]?=O ϫ.none
theorem vg.hd {Ϻ:Ϩ}{h:Θ}(x:vg Ϲ Ϻ h):fo Ϲ h:=by
 rcases x with x|⟨Ϸ,dx,d,a0,r⟩
 ·exact .ε x
 ·exact .Œ ⟨Ϻ,Ϸ,dx,d,a0,r⟩
theorem fo.at {h:Θ}(x:fo Ϲ h)(it:Ϩ):∃Ϻ,vg Ϲ Ϻ h/\(Ϻ=it\/∃(Ϸ:Ϩ)(o:ğ),h.ϛ Ϻ=O o/\o.Ŝ=.Z Ϸ):=by
 rcases x with x|⟨Ϻ,Ϸ,dx,d,a0,r⟩
 ·exact⟨it,.ε x,.ε rfl⟩
 ·exact⟨Ϻ,.Œ ⟨Ϸ,dx,d,a0,r⟩,.Œ ⟨Ϸ,_,r.2.1,rfl⟩⟩
theorem Uh (it l Ϻ:Ϩ)(ia:l≠it)(ž:μ ϫ):Draws ϔ w Ϲ it [it,l,Ϻ] ž.Ϥ (λi v=>ž[i]?=O v) (λi h=>h.Da it l i/\h.BT l ž/\vg Ϲ Ϻ h) where
 live:=λ_ _ E=>let⟨o,av,_⟩:=E.1;⟨o,av⟩
 or:=λ_ _ _ E aq=>⟨E.1.at λo e=>aq it (by simp) o e,let⟨o,av,r⟩:=E.2.1;⟨o,aq l (by simp) o av,r⟩,E.2.2.Pg id λ⟨Ϸ,dx,d,a0,g,ah,aI⟩=>⟨Ϸ,dx,d,a0,g,aq Ϻ (by simp) _ ah,aI⟩⟩
 Ov:=λi s Q ϵ aA E d6=>by
  refine Ug E.1 E.2.1 (x:=ž[i]) (by simp[aA]) λh' nq fV=>d6 _ h' s.Χ (by simp[aA]) ⟨nq,E.2.1.Β fV.Β ia,E.2.2.Pg id λ⟨Ϸ,dx,d,a0,g,ah,aI⟩=>⟨Ϸ,dx,d,a0,g,fV.Β Ϻ _ (λz=>?_) ah,aI⟩⟩ fV;obtain⟨o,av,ak,_⟩:=E.1;rw[z,av]at ah;cases ah;cases ak
 done:=λs Q ϵ E gd=>Jj E.2.2.hd E.1 E.2.1 (by simp) gd
theorem Ui {Q:δ->ϐ->Prop}{c:ϫ}(h:∀b,Q b s):ϙ (ώ ϔ w) Ϲ (π.Û.akn c) Q ϵ s:=by
 unfold π.Û.akn;exact ax (wpAny_stack_any λaf8=>bp (h _))
set_option tactic.hygienic true in
theorem Uj (l:Ϩ)(ž:μ ϫ)(n:B)(zr:ϣ Ϩ)(a0:μ (ϣ ϫ)):
  Meets (Builtin.«enumerate.__new__» ⟨[.χ "enumerate",.Z l],[]⟩) (λ_ R s=>s.P.ϛ l=O { Ŝ:=.χ "tuple",ï:=zr,Φ:=.XV ž n,ē:=a0 }/\
   R (.ok (.b8 (.Z (s.P.Ũ { Ŝ:=.χ "tuple_iterator",Φ:=.Ž #[.Z l,.M 0 0] }).Ϡ.Ϥ)))
    { s with P:=(s.P.Ũ { Ŝ:=.χ "tuple_iterator",Φ:=.Ž #[.Z l,.M 0 0] }).Ũ { Ŝ:=.χ "enumerate",Φ:=.Ž #[.none,.Ã false,.Z s.P.Ϡ.Ϥ,đ 0,.none,.none] } }):=
 .of_wp λϔ w Ϲ R s hz=>by
  obtain⟨ay,Ϻ,ϻ,tk,os⟩:=s;obtain⟨aw,aO⟩:=hz;have Uk:=sub_enumerate
  have cY:Θ.BT (ϐ.P ⟨ay,Ϻ,ϻ,tk,os⟩) l ž:=⟨_,aw,rfl,n,rfl⟩
  wp_walk using Gc aw,Ui
  intro b;cases b
  ·wp_walk using Gc aw,ajP cY
   exact⟨_,rfl,aO⟩
  ·wp_walk using Gc aw,ajP cY
   exact⟨_,rfl,aO⟩
theorem Ul (cY:s.P.BT l ž)(h:∀h',an4 h' (s.P.Ϡ.Ϥ+1) s.P.Ϡ.Ϥ 0 .none->h'.Da s.P.Ϡ.Ϥ l 0->(∀b o,s.P.ϛ b=O o->h'.ϛ b=O o)->Q (.Z (s.P.Ϡ.Ϥ+1)) { s with P:=h' }):
  ϙ (ώ ϔ w) Ϲ (WP (.χ "enumerate") [.Z l]) Q ϵ s:=by
 obtain⟨⟨c,zr,CB,a0⟩,aw,ak,n,hd⟩:=cY;obtain rfl:c=.χ "tuple":=ak;obtain rfl:CB=.XV ž n:=hd;refine callType_new ϴ.called_enumerate ∅ (ϴ.typeCall_enumerate_1 _) (ϴ.newCall_enumerate_1 _) (λOy=>ϴ.ajQ Oy _) ϴ.entry_enumerate_new (Uj l ž n zr a0) ⟨aw,?_⟩;have hz:(s.P.Ũ { Ŝ:=.χ "tuple_iterator",Φ:=.Ž #[.Z l,.M 0 0] }).Ϡ.Ϥ=s.P.Ϡ.Ϥ+1:=act ..
 show _/\_
 rw[hz];have he:an4 ((s.P.Ũ { Ŝ:=.χ "tuple_iterator",Φ:=.Ž #[.Z l,.M 0 0] }).Ũ { Ŝ:=.χ "enumerate",Φ:=.Ž #[.none,.Ã false,.Z s.P.Ϡ.Ϥ,đ 0,.none,.none] }) (s.P.Ϡ.Ϥ+1) s.P.Ϡ.Ϥ 0 .none:=by
  have:=σ (s.P.Ũ { Ŝ:=.χ "tuple_iterator",Φ:=.Ž #[.Z l,.M 0 0] }) (o:={ Ŝ:=.χ "enumerate",Φ:=.Ž #[.none,.Ã false,.Z s.P.Ϡ.Ϥ,đ 0,.none,.none] }) rfl
  rw[hz]at ν;exact ν
 exact⟨⟨_,he,rfl⟩,h _ he ⟨_,ϥ _ (σ _ rfl),rfl,rfl⟩ λb o x=>ϥ _ (ϥ _ x)⟩
def vh (K:ş)(a:Ϩ):g7:=
 ⟨λi H=>∃F x,bN K H a F/\F[i]?=O x,λi H v U=>∃T x,v=.Z T/\H T=none/\U=ſ H T (.Ţ [.M (i:B),x])/\∀F,bN K H a F->F[i]?=O x,λi H=>∃F,bN K H a F/\F.N<=i⟩
theorem Um (a e it:Ϩ)(ow:e≠it)(sX:a≠it):
  Bm Ϯ w K (.w_ C jq kc) (vh K a) [e,it] e (λi h=>(∃OZ,an4 h e it (i:B) OZ)/\h.Da it a i) where
 OO:=by simp
 Oy:=λi h E c ak=>by
  obtain⟨⟨OZ,he⟩,hy,p1,cI,au⟩:=E;simp only[ς,ő,Ĩ]at ak;rcases ak with q|q<;>subst q
  ·exact⟨_,he,λv q=>by cases q⟩
  ·exact⟨hy,p1,λv q=>by rw[au]at q;cases q⟩
 ĭ:=λi h h' E k=>by
  obtain⟨⟨OZ,he⟩,g⟩:=E;exact⟨⟨OZ,k _ (by simp) _ he⟩,g.at λo q=>k _ (by simp) o q⟩
 Ov:=by
  intro X dk hw c9 ak i ϩ s J H ϵ I hf E bF;subst dk hw c9;obtain⟨F,x,aN,ai⟩:=bF;obtain⟨aL,ck,p,ve⟩:=I.B_ aN;have p:s.P.BT a aL.ϗ:=p
  obtain⟨u,bK,fh⟩:=ck.O4 ai;obtain⟨⟨OZ,he⟩,g⟩:=id E;obtain⟨Ϻ,sY,ru⟩:=fo.at (Ϲ:=X.Ϲ.jp) (I.R_ ak) it;have aw:i<aL.ϗ.Ϥ:=by
   obtain⟨bj,_⟩:=Y.Ϧ.mp bK;simpa using bj
  have Dq:e ∉ [it,a,Ϻ]:=λz=>by
   simp only[ς,ő,Ĩ]at z;rcases z with z|z|z
   ·exact ow z
   ·obtain⟨o,av,kB,_⟩:=p;rw[<- z,he]at av;cases av;exact bJ (show ϫ.χ "enumerate"=ϫ.χ "tuple" from kB) ∅
   ·rcases ru with y|⟨Ϸ,o,av,kB⟩
    ·exact ow (z.Ϛ y)
    ·rw[<- z,he]at av;cases av;cases kB
  refine ah3 (Uh (Ϲ:=X.Ϲ.jp) it a Ϻ sX aL.ϗ) he ⟨g,p,sY⟩ aw ow Dq λy h' tk aU av fV cP Oz aq=>?_;obtain rfl:y=u:=by
   have:aL.ϗ[i]?=O u:=by simpa using bK
   rw[ν]at aU;exact(ϣ.O.W1 aU).symm
  have lt:∀{c:Ϩ}{o:ğ},s.P.ϛ c=O o->s.P.Ϡ.Ϥ≠c:=λe=>À (τ e)
  have aF:H s.P.Ϡ.Ϥ=none:=I.a9.Ĳ (B.ϑ _)
  have aK:Υ X ϩ J (ſ H s.P.Ϡ.Ϥ (.Ţ [.M (i:B),x])) { s with P:=h',Χ:=tk+1 }:=I.an3 (t':=tk+1) (ch:=[e,it]) hf (λc o ak q=>aq c o (λz=>ak (by simp[z])) (λz=>ak (by simp[z])) q) (B.ϑ _)
   ⟨by rw[ρ];simp,[.M i tk,y],.θ ⟨tk,rfl⟩ (.θ fh .ń),⟨_,cP,rfl,0,rfl⟩⟩
  refine⟨_,rfl,aht (s:={ s with P:=h',Χ:=tk+1 }) av λkJ ov ix=>?_⟩;have pY:∀c∈[e,it],ſ H s.P.Ϡ.Ϥ (.Ţ [.M (i:B),x]) c=none:=λc ak=>by
   obtain⟨o,q⟩:∃o,s.P.ϛ c=O o:=by
    obtain⟨_,p1,_⟩:=id g;simp only[ς,ő,Ĩ]at ak;rcases ak with q|q<;>subst q
    ·exact⟨_,he⟩
    ·exact⟨_,p1⟩
   rw[aE (Ne.symm (lt q))];exact(hf c ak).1
  obtain⟨f0,f1,f2,dv,f4,dP⟩:=hf e (by simp);have bt:Υ X ϩ J (ſ H s.P.Ϡ.Ϥ (.Ţ [.M (i:B),x])) { s with P:=kJ,Χ:=tk+1 }:=aK.Á (t':=tk+1) (λc o ak q=>ix.Β c o ak q) (pY e (by simp)) f1 dv f4 dP
  exact⟨.Z s.P.Ϡ.Ϥ,_,bt,rfl,⟨_,x,rfl,aF,rfl,λJg kj=>by rwa[I.ak6 kj aN]⟩,⟨⟨_,by simpa using ov⟩,fV.1.Β ix.Β ow.symm⟩,pY⟩
 done:=by
  intro X dk hw c9 ak i ϩ s J H ϵ I hf E bF;subst dk hw c9;obtain⟨F,aN,vb⟩:=bF;obtain⟨aL,ck,p,ve⟩:=I.B_ aN;have p:s.P.BT a aL.ϗ:=p
  have eL:=ck.N
  obtain⟨⟨OZ,he⟩,g⟩:=id E;have cP:s.Q_ (.Z e) "enumerate":=⟨_,he,rfl⟩
  obtain⟨f0,f1,f2,dv,f4,dP⟩:=hf it (by simp);unfold Ħ;refine ax (ď (Ψ (name:=ϕ.ϝ "__next__") cP ϴ.KB (Ż ϴ.KB cP ϴ.ai9 ?_ (ϴ.aiD _))));refine ax (m:=IO (.Z e) 2) (Ξ he rfl (x:=.Z it) rfl (ax (Jj (Ϲ:=X.Ϲ.jp) (I.R_ ak) g p (by simp;omega) λh' x eb ai=>?_)));exact m3 ai ⟨rfl,I.Á (t':=s.Χ) (λb o af q=>eb b o af q) f0 f1 dv f4 dP⟩
 self:=λ_ _ _ _ _ E h=>by
  obtain⟨⟨OZ,he⟩,_⟩:=E;exact zn he h
def Dr (K:ş)(bo:du):TI:=λJ H R=>bo J H λd H1=>∃a F,d=[.Z a]/\bN K H1 a F/\R (vh K a) H1
theorem Un {a:Ġ}{p:Ox}(bF:fb X "enumerate")(hm:X.mg "enumerate"=none)(aN:PA X [a] bo)(aH:Ϫ (ω [a] X.ό=[(false,ŗ a X.ό)]) dA._auto_1):
  PI X (.w_ C jq kc) (.č (.ĸ "enumerate" p) [a] [] ŷ) (Dr X.K bo):=by
 intro ϩ s J H R I h;refine OA (iU I bF hm Ĥ.KK.al7 (Ĥ.KK.Į (bA (aN ŷ ϩ s J H _ I h) λus s1 ⟨d,H1,aK,bG,a3⟩=>?_) (by rw[aH];rfl) rfl));obtain⟨a1,F,e,g,q⟩:=a3;subst e;obtain⟨u,rfl,r⟩:=wT bG;cases r;obtain⟨aL,ck,pl,hz⟩:=aK.B_ g;have pl:s1.P.BT a1 aL.ϗ:=pl
 have eL:a1<s1.P.Ϡ.Ϥ:=by obtain⟨_,e,_⟩:=pl;exact τ e
 refine Ul pl λh' he aA aq=>zn he ?_;have bt:Υ X ϩ J H1 { s1 with P:=h' }:=aK.XL (t':=s1.Χ) aq
 refine⟨s1.P.Ϡ.Ϥ+1,[s1.P.Ϡ.Ϥ+1,s1.P.Ϡ.Ϥ],_,_,H1,rfl,bt,Um a1 _ _ (B.akc _) (Ι eL),⟨⟨_,he⟩,aA⟩,λc ak=>?_,q⟩;have lc:s1.P.Ϡ.Ϥ<=c:=by
  simp only[ς,ő,Ĩ]at ak;rcases ak with q|q<;>rw[q]
  ·exact L_ _ _
  ·exact B.ϑ _
 exact aK.mb lc (aK.a9.Ĳ lc)
theorem Uo {Ϻ:fq}(Pv:B->St->ag->Prop)(h0:Pv 0 J H)(aw:∀i J H,Pv i J H->bN K H a F)(aH:∀(i:B) x J H T,F[i]?=O x->Pv i J H->H T=none->Ϻ (.Z T) J (ſ H T (.Ţ [.M (i:B),x])) λdm aC=>a4 { ϶ with aP:=Pv (i+1),cb:=Pv (i+1),bf:=϶.aP } dm aC)(hd:∀J H,Pv F.N J H->϶.aP J H):
  ∃W:B->B->St->ag->Prop,(∃m,W 0 m J H)/\∀i m J H,W i m J H->
   ((vh K a).stop i H/\϶.aP J H)\/((vh K a).go i H/\∃ϰ:St->ag->Prop,(∀a7 U,ϰ a7 U->∃ba,ba<m/\W (i+1) ba a7 U)/\∀x U,(vh K a).fR i H x U->Ϻ x J U λdm aC=>a4 { ϶ with aP:=ϰ,cb:=ϰ,bf:=϶.aP } dm aC):=by
 refine⟨λi m J H=>m=F.N-i/\i<=F.N/\Pv i J H,⟨F.N,by simp,ł _,h0⟩,?_⟩;rintro i m J H ⟨rfl,aA,p⟩;have a3:=aw i J H p
 by_cases cJ:i<F.N
 ·refine .Œ ⟨⟨F,F[i],a3,by simp[cJ]⟩,Pv (i+1),λa7 U eB=>⟨F.N-(i+1),⋯,rfl,cJ,eB⟩,λv U y=>?_⟩;obtain⟨T,x,au,az,bY,dN⟩:=y;subst au bY;exact aH i x J H T (dN F a3) p az
 ·have e:i=F.N:=⋯
  subst e;exact .ε ⟨⟨F,a3,B.ϑ _⟩,hd J H p⟩
section
variable {prog:Program}{w:World}{A:Around}{R:Result->Shared->Prop}{I:Addr}{cH wr:List Addr}{n:Nat}{P:Nat->Value->Prop}{St:Nat->Heap->Prop}{d:Value}
theorem Up (W:alx ϔ w Ϲ.jp I cH wr n Ϯ St)(eY:B->B->δ)(rv:anF ϔ w Ϲ.jp .Gt Ϯ eY)(S:Ϩ)(kY:S ∉ cH):
  ∀(k j:B)(s:ϐ)(fv:ϫ)(c:B),n-(j+1)=k->j+1<=n->St (j+1) s.P->Ϯ (ķ eY j) fv->s.P.ϛ S=O { Ŝ:=.χ "list",ï:=none,Φ:=.XV #[fv,fv] c,ē:=#[] }->
  (∀v h' tk,Ϯ (ķ eY (n-1)) v->(∀b o,b ∉ wr->b≠S->s.P.ϛ b=O o->h'.ϛ b=O o)->R (.ok (.b8 v)) { s with P:=h',Χ:=tk })->
  Ø (ώ ϔ w) Ϲ (.ο "max.loop" ⟨[.Z I,.none,.Z S],[("default",ϻ)]⟩) R s:=by
 have ox:S ∉ wr:=λh=>kY (W.Pd _ h)
 have kZ:(û "max"++û ".loop":è)="max.loop":=by decide
 intro k;induction k with
 | HW=>
  intro j s fv c aq bg wE oy dq e4;have mz:j+1=n:=⋯
  refine Ů ϴ.ai2 ?_;rw[ŕ.Ľ ϴ.X_ _];refine ax (m:=ć (.Z S)) (Ŧ dq rfl ?_);refine ax (m:=Z_ (Ħ (.Z I)) _) (Ŗ (W.done s _ _ (mz ▸ wE) λh' tk dR=>?_));exact ax (m:=ad_ S (λ_=>#[])) (ă (dR S _ ox dq) rfl (ax (ģ (bp (e4 fv _ tk (by rwa[<- mz]) λb o fE hD e=>(ψ _ _ (Ne.symm hD)).Ϛ (dR b o fE e))))))
 | o0 k bB=>
  intro j s fv c aq bg wE oy dq e4;have cJ:j+1<n:=⋯
  refine Ů ϴ.ai2 ?_;rw[ŕ.Ľ ϴ.X_ _];refine ax (m:=ć (.Z S)) (Ŧ dq rfl ?_);refine ax (m:=Z_ (Ħ (.Z I)) _) (Ŗ (W.Ov (j+1) s _ _ cJ wE λv h' tk dk oz dR=>?_));have i2:=dR S _ ox dq
  show ϙ _ Ϲ.jp (Z_ (Î [v,v] (ahD .Gt v fv>>=_)) _>>=_) _ _ _
  refine ax (Ŗ (Ν (ax (rv (j+1) (ķ eY j) v fv _ _ _ dk oy ?_))));refine ax (Ν (Ū (ax (ģ (bp ?_)))));cases af:eY (j+1) (ķ eY j) with
  | true=>
   simp only[NE];refine ax (ă i2 rfl (ax (ģ ?_)));rw[kZ];refine bp ⟨Ś ϴ.X_ _,bB (j+1) _ v _ ⋯ cJ (W.or _ _ _ oz λb rx o e=>(ψ _ _ (λh:S=b=>kY (by rwa[h]))).Ϛ e) (by simp only[ķ,af,NE];exact dk) (š _ i2 rfl) λeT mH mI mJ mK=>?_⟩;exact e4 eT mH mI mJ λb o fE hD e=>mK b o fE hD ((ψ _ _ (Ne.symm hD)).Ϛ (dR b o fE e))
  | false=>
   simp only[Ď,Ü];refine ax (ģ ?_);rw[kZ];exact bp ⟨Ś ϴ.X_ _,bB (j+1) _ fv c ⋯ cJ oz (by simp only[ķ,af,Ď,Ü];exact oy) i2 λeT mH mI mJ mK=>e4 eT mH mI mJ λb o fE hD e=>mK b o fE hD (dR b o fE e)⟩
theorem Ur (W:alx ϔ w Ϲ.jp I cH wr n Ϯ St)(eY:B->B->δ)(rv:anF ϔ w Ϲ.jp .Gt Ϯ eY)(S:Ϩ)(kY:S ∉ cH){c:B}(wE:St 0 s.P)(dq:s.P.ϛ S=O { Ŝ:=.χ "list",ï:=none,Φ:=.XV #[] c,ē:=#[] })(e4:∀v h' tk,((n=0/\v=ϻ)\/(0<n/\Ϯ (ķ eY (n-1)) v))->(∀b o,b ∉ wr->b≠S->s.P.ϛ b=O o->h'.ϛ b=O o)->R (.ok (.b8 v)) { s with P:=h',Χ:=tk }):
  Ø (ώ ϔ w) Ϲ (.ο "max.loop" ⟨[.Z I,.none,.Z S],[("default",ϻ)]⟩) R s:=by
 have ox:S ∉ wr:=λh=>kY (W.Pd _ h)
 have kZ:(û "max"++û ".loop":è)="max.loop":=by decide
 refine Ů ϴ.ai2 ?_;rw[ŕ.Ľ ϴ.X_ _];refine ax (m:=ć (.Z S)) (Ŧ dq rfl ?_);rcases B.al8 n with aF|aF
 ·refine ax (m:=Z_ (Ħ (.Z I)) _) (Ŗ (W.done s _ _ (aF ▸ wE) λh' tk dR=>?_));exact ax (ì (bp (e4 ϻ h' tk (.ε ⟨aF,rfl⟩) λb o fE hD e=>dR b o fE e)))
 ·refine ax (m:=Z_ (Ħ (.Z I)) _) (Ŗ (W.Ov 0 s _ _ aF wE λv h' tk dk oz dR=>?_));have i2:=dR S _ ox dq
  refine ax (m:=ad_ S (λ_=>#[v,v])) (ă i2 rfl ?_);rw[kZ];refine bp ⟨Ś ϴ.X_ _,Up W eY rv S kY _ 0 _ v _ rfl aF (W.or _ _ _ oz λb rx o e=>(ψ _ _ (λh:S=b=>kY (by rwa[h]))).Ϛ e) dk (š _ i2 rfl) λeT mH mI mJ mK=>?_⟩;exact e4 eT mH mI (.Œ ⟨aF,mJ⟩) λb o fE hD e=>mK b o fE hD ((ψ _ _ (Ne.symm hD)).Ϛ (dR b o fE e))
end
section
variable {prog:Program}{w:World}{A:Around}{E:wvP}{s:Shared}
theorem Jk {id:è}{b:π}{args:Y ϫ}(aq:builtinKind id=none)(ay:plainId id=true)(af:anI table id=O b)(aN:alE id ⟨args,kw⟩)(ak:ϙ (ώ ϔ w) Ϲ.jp (b ⟨args,kw⟩) (λd_ s'=>match d_ with
   | .done f=>(match (Except.ok f:anZ) with|.ok (.b8 v)=>Q v s'|.ok _=>Ō|.OK e=>ϵ e s')
   | .amD aX=>aX.quiet=true/\Ø (ώ ϔ w) Ϲ aX (λr s'=>match r with|.ok (.b8 v)=>Q v s'|.ok _=>Ō|.OK e=>ϵ e s') s') ϵ s):ϙ (ώ ϔ w) Ϲ (WP (.ο id) args kw) Q ϵ s:=by
 refine v_ (ai_ ay af ?_);simp only[akN,aq];cases Us:Manifest.signature? id with
 | none=>exact bp ak
 | O sig=>
  have ah:Bind.checkArgs id sig ⟨args,kw⟩=Ă ():=by simpa only[alE,Us] using aN
  simp only[ah];exact bp ak
theorem Ut (a ϻ:ϫ):alE "max" ⟨[a],[("default",ϻ)]⟩:=by unfold alE;kernel_rfl
theorem Uu {F:μ (G×OE)}{ϻ:ϫ}(bj:Ϲ.Ē=none)(aw:s.P.Ò l (P_ F))(h:∀v h' tk,((F.Ϥ=0/\v=ϻ)\/(0<F.Ϥ/\(P_ F)[ķ (λi j=>decide (OL F i>OL F j)) (F.Ϥ-1)]?=O v))->(∀b o,s.P.ϛ b=O o->h'.ϛ b=O o)->Q v { s with P:=h',Χ:=tk }):
  ϙ (ώ ϔ w) Ϲ (WP (.ο "max") [.Z l] [("default",ϻ)]) Q ϵ s:=by
 have kZ:(û "max"++û ".loop":è)="max.loop":=by decide
 refine Jk ϴ.kind_max ϴ.plain_max ϴ.entry_max (Ut _ _) ?_;refine ax (m:=π.aj7.aii "max" ["key","default"] 0 ⟨[],[("default",ϻ)]⟩) (nw (show π.aj7.aii "max" ["key","default"] 0 ⟨[],[("default",ϻ)]⟩=Ă [none,O ϻ] from rfl) ?_);refine ax (bp ?_);refine ax (anm aw λiV e E kK Ds=>?_);subst e;refine ax (Š ?_);have W:=alx.ö (ϔ:=ϔ) (w:=w) (Ϲ:=Ϲ.jp) bj _ l Ds (P_ F)
 rw[kZ];refine bp ⟨Ś ϴ.X_ _,Ur W _ (anF.ints_gt (OL F) (λ_ _=>aiV)) _ (λhm=>B.ť _ (kK _ hm)) (W.or _ _ _ E λb _ o e=>ϥ _ e) (σ _ rfl) λv h' tk dk aq=>?_⟩;refine h v h' tk (by simpa [P_] using dk) (old_kept (l:=l) λb o fE e=>?_);exact aq b o fE (Ι (τ e)) (ϥ _ e)
end
def pZ (ns:Y G)(z m:G):Prop:=(ns=[]/\m=z)\/(m∈ns/\∀a∈ns,a<=m)
theorem pZ.O8 {z m ba:G}(h:pZ ns z m)(h':pZ ns z ba):m=ba:=by
 rcases h with⟨g,ah⟩|⟨g,ah⟩<;>rcases h' with⟨g1,g2⟩|⟨g1,g2⟩
 ·rw[ah,g2]
 ·rw[g]at g1;cases g1
 ·rw[g1]at g;cases g
 ·have:=ah _ g1
  have:=g2 _ g
  omega
def zww (K:ş)(t:du)(eD:TE):TE:=λJ H Q=>t J H λd H1=>zje eD lC J H1 λzs aC=>∃p ns ϻ,d=[.Z p]/\zs=[.M ϻ]/\aM K aC p (ns.ϒ V.M)/\∀m,pZ ns ϻ m->Q (.M m) aC
theorem Uv {ϻ:Ġ}{p dU:Ox}{t:du}{eD:TE}(ak:X.R_=true)(bF:fb X "max")(hm:X.mg "max"=none)(aN:PA X [e] t)(hd:PE X ϻ eD)(aH:Ϫ (ω [e] X.ό=[(false,ŗ e X.ό)]) dA._auto_1):
  PE X (.č (.ĸ "max" p) [e] [⟨O "default",ϻ,dU⟩] ŷ) (zww X.K t eD):=by
 intro ϩ s J H Q I h;refine Ł (iU I bF hm PyProof.Rows.Boot.«max» ?_);refine Ĥ.KK.callWith_kw (bA (aN ŷ ϩ s J H _ I h) λus s1 ⟨d,H1,aK,bG,a3⟩=>?_) (by rw[aH];rfl) (by rw[aH];rfl);have aq:=Gv (nm:=O "default") (BE:=dU) hd (Gu (X:=X))
 refine bA (aq ŷ ϩ s1 J H1 _ aK a3) λws s2 bj=>IS λeZ uq=>?_;obtain⟨zs,aC,bt,bW,p,ns,ϻ,au,az,ao,q⟩:=bj;refine uq ?_;subst au az;obtain⟨u,rfl,bc⟩:=wT bG;cases bc;obtain⟨Uw,rfl,bu⟩:=wT bW;obtain⟨tk,rfl⟩:=bu;obtain⟨aL,cG,pl,hz⟩:=bt.ö ao;obtain⟨ps,rfl,rfl⟩:=ints_of cG;have aw:s2.P.Ò p (P_ ps.ϗ):=by
  have:=pl.Ń
  simpa [P_] using ν
 refine Uu (bt.ok.hd ak) aw λv h' nr aG dR=>?_;rcases aG with⟨h0,rfl⟩|⟨h0,aG⟩
 ·have c6:ps=[]:=by cases ps with
   | ń=>rfl
   | θ a b=>simp at h0
  exact⟨.M ϻ,aC,bt.XL (t':=nr) dR,⟨tk,rfl⟩,q ϻ (.ε ⟨by rw[c6];rfl,rfl⟩)⟩
 ·obtain⟨t,rfl⟩:=aiV aG;obtain⟨g,ah⟩:=argBest_gt (OL ps.ϗ) (ps.ϗ.Ϥ-1);have lt:∀{i:B},i<=ps.ϗ.Ϥ-1->i<(ps.ϒ (·.1)).N:=λ{i} h=>by rw[ϧ];simp only[ζ]at h h0;omega
  refine⟨.M _,aC,bt.XL (t':=nr) dR,⟨t,rfl⟩,q _ (.Œ ⟨?_,λa aN=>?_⟩)⟩
  ·rw[zq];exact getD_mem (lt g)
  ·obtain⟨j,bg,rfl⟩:=mem_getD aN;rw[<- zq];exact ah j (by rw[ϧ]at bg;simp only[ζ];omega)
section
variable {prog:Program}{w:World}{A:Around}{E:wvP}{s:Shared}
end
end L2
namespace L2
open PySem PySem.Spec PyProof.Rows PySem.W
section
variable {n:Nat}{lt:Nat->Nat->Bool}{cmp:Nat->Nat->(Bool->Shared->Prop)->Shared->Prop}{s:Shared}
abbrev lX (p:μ B)(i:B):B:=p.œ i 0
def cC (lt:B->B->δ)(p:μ B)(m:B):Prop:=∀i j,i<=j->j<m->lt (lX p j) (lX p i)=false
end
section
variable {M:Model}{A:Around}{E:wvP}{J:Type}{s:Shared}
theorem zS {a b c ϻ e f:Type}{Ϯ:a×b×c×ϻ×e×f->Prop}(h:∀x1 fX dg d8 ew c2,Ϯ (x1,fX,dg,d8,ew,c2)):∀x,Ϯ x:=λ⟨_,_,_,_,_,_⟩=>h _ _ _ _ _ _
end
section
variable {prog:Program}{w:World}{A:Around}{E:wvP}{bE:SortKind}{it:Array Keyed}{n:Nat}{lt:Nat->Nat->Bool}{s:Shared}{st:SortSt}
end
end L2
namespace L2
section
variable {lt:Nat->Nat->Bool}{u v o:List Nat}{gj gC:Nat}
def Ux (lt:B->B->δ)(l:Y B):Prop:=l.Id λx y=>lt y x=false
structure Dt (lt:B->B->δ)(u v o:Y B)(gj gC:B):Prop where
 pm:o.Perm (u.ĵ gj++v.ĵ gC)
 af9:Ux lt o
 fh:∀x∈o,∀y∈u.IR gj,lt y x=false
 ck:∀x∈o,∀y∈v.IR gC,lt y x=false
end
end L2
variable {ay:Nat->Nat->Prop}
namespace L2
open PySem PySem.Spec PyProof.Rows PySem.W
abbrev setG (E:am1)(Ϻ:B):am1:=am1.mk' (ŀ E) (arrOf E) (pendingOf E) Ϻ (failedOf E)
abbrev aL (it:μ alz)(l:Y B):μ alz:=(l.ϒ (kas_item it)).ϗ
section
variable {it:Array Keyed}{o l:List Nat}
end
section
variable {prog:Program}{w:World}{A:Around}{E:wvP}{bE:SortKind}{it:Array Keyed}{n:Nat}{lt:Nat->Nat->Bool}{s:Shared}{st:SortSt}
def Jl (lt:B->B->δ)(u v:Y B)(it:μ alz)(OX:μ alz)(gj gC:B):Prop:=∃o,OX=aL it o/\Dt lt u v o gj gC/\gj+1<u.N/\gC<v.N
theorem qK {u v:Y B}{T:Prop}{ϳ:ϣ (μ alz)×μ alz×B×B×B->am1->Prop}(k:∀gj gC mg o Ϻ,T->Dt lt u v o gj gC->gj+1<u.N->gC<v.N->ay gj gC->ϳ (none,aL it o,gj,gC,mg) (setG E Ϻ)):∀c f6,T->(c.1=none/\Jl lt u v it c.2.1 c.2.2.1 c.2.2.2.1/\ay c.2.2.1 c.2.2.2.1/\∃Ϻ,f6=setG E Ϻ)->ϳ c f6:=by
 rintro⟨r,OX,gj,gC,mg⟩ f6 bk ⟨rfl,⟨o,rfl,m,g,ah⟩,h,Ϻ,rfl⟩;exact k gj gC mg o Ϻ bk m g ah h
theorem y7 {u v:Y B}{T:Prop}{ϳ:ϣ (μ alz)×μ alz×B×B×B×B×B->am1->Prop}(k:∀gj gC ac ry o Ϻ,T->Dt lt u v o gj gC->gj+1<u.N->gC<v.N->ay gj gC->∀mg,ϳ (none,aL it o,gj,gC,mg,ac,ry) (setG E Ϻ)):∀c f6,T->(c.1=none/\Jl lt u v it c.2.1 c.2.2.1 c.2.2.2.1/\ay c.2.2.1 c.2.2.2.1/\∃Ϻ,f6=setG E Ϻ)->ϳ c f6:=by
 rintro⟨r,OX,gj,gC,mg,ac,ry⟩ f6 bk ⟨rfl,⟨o,rfl,m,g,ah⟩,h,Ϻ,rfl⟩;exact k gj gC ac ry o Ϻ bk m g ah h mg
end
end L2
set_option maxHeartbeats 4000000
namespace L2
open PySem PySem.Spec PyProof.Rows PySem.W
section
variable {it:Array Keyed}{o l p:List Nat}
end
section
variable {prog:Program}{w:World}{A:Around}{E:wvP}{bE:SortKind}{it:Array Keyed}{n:Nat}{lt:Nat->Nat->Bool}{s:Shared}{st:SortSt}
end
def seg (p:Y B)(a k:B):Y B:=(p.IR a).ĵ k
section
variable {lt:Nat->Nat->Bool}{p:List Nat}{a na nb k m:Nat}{r:List Nat}
end
section
variable {prog:Program}{w:World}{A:Around}{E:wvP}{bE:SortKind}{it:Array Keyed}{n:Nat}{lt:Nat->Nat->Bool}{s:Shared}
end
section
variable {lt:Nat->Nat->Bool}{f i3:Nat->Nat}{m:Nat}
end
section
variable {M:Model}{A:Around}{E:wvP}{J:Type}{s:Shared}
end
section
variable {lt:Nat->Nat->Bool}{p:Array Nat}{lo u v:Nat}
end
section
variable {prog:Program}{w:World}{A:Around}{E:wvP}{bE:SortKind}{it:Array Keyed}{n:Nat}{lt:Nat->Nat->Bool}{s:Shared}{pend:Array (Nat×Nat×Nat)}{g:Nat}{p:Array Nat}
end
section
variable {prog:Program}{w:World}{A:Around}{E:wvP}{bE:SortKind}{it:Array Keyed}{n:Nat}{lt:Nat->Nat->Bool}{s:Shared}{pend:Array (Nat×Nat×Nat)}{g:Nat}{p:Array Nat}
end
section
variable {lt:Nat->Nat->Bool}{l ue:List Nat}
end
section
variable {prog:Program}{w:World}{A:Around}{E:wvP}{bE:SortKind}{it:Array Keyed}{n:Nat}{lt:Nat->Nat->Bool}{s:Shared}
end
end L2
namespace Hq
open PySem L2
theorem Jm:∀a:Y G,HT.â a a=false
 | []=>rfl
 | x::a=>by rw[HT.yQ,aS rfl];exact Jm a
theorem Jn:∀{a b:Y G},HT.â a b=true->HT.â b a=false
 | [],[],h=>by cases h
 | [],_::_,_=>rfl
 | _::_,[],h=>by cases h
 | x::a,y::b,h=>by
  rw[HT.yQ]at h ⊢;by_cases e:x=y
  ·rw[aS e]at h;rw[aS e.symm];exact Jn h
  ·rw[aD e,Μ]at h;rw[aD (λz=>e z.symm)];exact Γ ⋯
def jw (a b:Y G):Prop:=HT.â b a=false
theorem jw.Ô (a:Y G):jw a a:=Jm a
theorem jw.of {a b:Y G}(h:HT.â a b=true):jw a b:=Jn h
theorem jw.Ϛ:∀{a b c:Y G},jw a b->jw b c->jw a c
 | [],_,[],_,_=>rfl
 | [],_,_::_,_,_=>rfl
 | _::_,[],_,h,_=>by cases h
 | _::_,_::_,[],_,h=>by cases h
 | x::a,y::b,z::c,g,ah=>by
  unfold jw at g ah ⊢;rw[HT.yQ]at g ah ⊢;by_cases au:y=x<;>by_cases az:z=y
  ·rw[aS au]at g;rw[aS az]at ah;rw[aS (az.Ϛ au)];exact jw.Ϛ (a:=a) (b:=b) g ah
  ·rw[aD az,ņ]at ah;rw[aD ⋯];exact Γ ⋯
  ·rw[aD au,ņ]at g;rw[aD ⋯];exact Γ ⋯
  ·rw[aD au,ņ]at g;rw[aD az,ņ]at ah;rw[aD ⋯];exact Γ ⋯
section
variable {α:Type}{k:α->List Int}{ts:List α}
end
end Hq
variable {vs:List PySem.Value}{ks:List (List Int)}
namespace L2
open PySem PySem.Spec PyProof.Rows PySem.W Hq
def vi (h:Θ)(v:ϫ)(k:Y G):Prop:=∃a o F m,v=.Z a/\h.ϛ a=O o/\o.Ŝ=.χ "tuple"/\o.Φ=.XV F m/\Ö F.Ω k
theorem vi.ĭ {h:Θ}{v:ϫ}{k:Y G}(t:vi h v k)(e:∀a o,h.ϛ a=O o->o.Ŝ=.χ "tuple"->h'.ϛ a=O o):vi h' v k:=by
 obtain⟨a,o,F,m,g,ah,aI,bO,d1⟩:=t;exact⟨a,o,F,m,g,e a o ah aI,aI,bO,d1⟩
section
variable {prog:Program}{w:World}{A:Around}{E:wvP}{s:Shared}
def fC (h:Θ)(d:Y ϫ)(ks:Y (Y G)):Prop:=ϋ (vi h) d ks
end
theorem Du:∀{ts:Y Ϩ}{us:Y ϫ},ś (ts.ϒ V.Z) us->us=ts.ϒ ϫ.Z
 | [],_,r=>by rw[rc]at r;cases r;rfl
 | t::ts,_,r=>by
  rw[Ŷ]at r;cases r with
  | θ h q=>rw[Ŷ,<- Du q];cases h;rfl
theorem ek.dh {Ϯ:Č}{w:Þ}{H:ag}{h:Θ}(ok:ek Ϯ w H h){k:Ϩ->Y G}:∀{ts:Y Ϩ},(∀t∈ts,H t=O (.Ţ ((k t).ϒ V.M)))->fC h (ts.ϒ ϫ.Z) (ts.ϒ k)
 | [],_=>.ń
 | t::ts,e=>.θ (by
   obtain⟨_,aL,r,o,au,az,m,bY⟩:=(show dG Ϯ w H h t (.Ţ ((k t).ϒ V.M)) from ok t _ (e t ľ));exact⟨t,o,aL.ϗ,m,rfl,au,az,bY,aie r⟩) (ek.dh ok λx ai=>e x (Η _ ai))
section
variable {prog:Program}{w:World}{A:Around}{E:wvP}
def vj (I l:Ϩ)(d:Y ϫ)(ks:Y (Y G))(i:B)(h:Θ):Prop:=h.É I l i/\h.Ò l d.ϗ/\fC h d ks
theorem vj.ĭ {I:Ϩ}{h:Θ}(E:vj I l d ks i h)(au:∀o,h.ϛ I=O o->h'.ϛ I=O o)(az:∀b o,b≠I->h.ϛ b=O o->o.Ŝ=.χ "list"/\b=l\/o.Ŝ=.χ "tuple"->h'.ϛ b=O o):vj I l d ks i h':=by
 obtain⟨⟨o,av,ak,hd⟩,⟨ff,ah,cE,ea⟩,cP⟩:=E;refine⟨⟨o,au o av,ak,hd⟩,⟨ff,az l ff (λz=>?_) ah (.ε ⟨cE,rfl⟩),cE,ea⟩,ϋ.gq cP λv k t=>t.ĭ λa u a6 gN=>az a u (λz=>?_) a6 (.Œ gN)⟩
 ·rw[z,av]at ah;cases ah;rw[ak]at cE;exact bJ cE ∅
 ·rw[z,av]at a6;cases a6;rw[ak]at gN;exact bJ gN ∅
theorem Uy (bj:Ϲ.Ē=none)(bK:Ϲ.jp.õ<ä){I S:Ϩ}(pK:S≠I)(Dv:S≠l):
  ∀(k j:B)(s:ϐ)(fv:ϫ)(c:B),d.N-(j+1)=k->j+1<=d.N->vj I l d ks (j+1) s.P->d[ķ (λi j=>HT.â (ks.œ i []) (ks.œ j [])) j]?=O fv->s.P.ϛ S=O { Ŝ:=.χ "list",ï:=none,Φ:=.XV #[fv,fv] c,ē:=#[] }->
  (∀v h' tk,d[ķ (λi j=>HT.â (ks.œ i []) (ks.œ j [])) (d.N-1)]?=O v->(∀b o,b≠I->b≠S->s.P.ϛ b=O o->h'.ϛ b=O o)->R (.ok (.b8 v)) { s with P:=h',Χ:=tk })->
  Ø (ώ ϔ w) Ϲ (.ο "min.loop" ⟨[.Z I,.none,.Z S],kw⟩) R s:=by
 have pO:(û "min"++û ".loop":è)="min.loop":=by decide
 intro k;induction k with
 | HW=>
  intro j s fv c aq bg E af dq e4;have mz:j+1=d.N:=⋯
  obtain⟨SZ,aw,cP⟩:=E;refine Ů ϟ.ϴ.Os ?_;rw[ŕ.Ľ ϟ.ϴ.ň _];refine ax (m:=ć (.Z S)) (Ŧ dq rfl (ax (m:=Z_ (Ħ (.Z I)) _) (Ŗ (aiB (show Ϲ.jp.Ē=none from bj) SZ aw (by simp;omega) λh' he=>?_))));have s2:=he S _ pK dq
  refine ax (m:=ad_ S (λ_=>#[])) ?_;refine ă s2 rfl (ax (ģ (bp ?_)));exact e4 fv _ s.Χ (by rwa[<- mz]) λb o b1 b2 e=>(ψ _ _ (Ne.symm b2)).Ϛ (he b o b1 e)
 | o0 k bB=>
  intro j s fv c aq bg E af dq e4;have cJ:j+1<d.N:=⋯
  obtain⟨SZ,aw,cP⟩:=id E;refine Ů ϟ.ϴ.Os ?_;rw[ŕ.Ľ ϟ.ϴ.ň _];refine ax (m:=ć (.Z S)) (Ŧ dq rfl (ax (m:=Z_ (Ħ (.Z I)) _) (Ŗ (U_ SZ aw (x:=d[j+1]) (by simp[cJ]) λh' nq fV=>?_))));have ex:=fV.Β
  have s2:=ex S _ pK dq
  have iW:vj I l d ks (j+1+1) h':=by
   obtain⟨o,av,ak,hd⟩:=id SZ;obtain⟨ff,ah,cE,ea⟩:=id aw;refine⟨nq,⟨ff,ex l ff (λz=>?_) ah,cE,ea⟩,ϋ.gq cP λv k t=>t.ĭ λa u a6 gN=>ex a u (λz=>?_) a6⟩
   ·rw[z,av]at ah;cases ah;rw[ak]at cE;exact bJ cE ∅
   ·rw[z,av]at a6;cases a6;rw[ak]at gN;exact bJ gN ∅
  have O4:∀(i:B)(v:ϫ),d[i]?=O v->vi h' v (ks.œ i []):=λi v e=>by
   obtain⟨k,au,az⟩:=ϋ.lM iW.2.2 e;have bY:ks.œ i []=k:=by simp[œ,au]
   rwa[bY]
  obtain⟨a,o,F,m,g,ah,aI,bO,d1⟩:=O4 (j+1) d[j+1] (by simp[cJ]);obtain⟨b,bR,ys,ba,g1,g2,g3,lR,Dn⟩:=O4 _ fv af;show ϙ _ Ϲ.jp (Z_ (Î [d[j+1],d[j+1]] (ahD .Lt d[j+1] fv>>=_)) _>>=_) _ _ _
  have cmp:∀(Q:Bh)(ϵ:Bh),Q (.Ã (HT.â (ks.œ (j+1) []) (ks.œ (ķ (λi j=>HT.â (ks.œ i []) (ks.œ j [])) j) []))) { s with P:=h' }->ϙ (ώ ϔ w) Ϲ.jp (ahD .Lt d[j+1] fv) Q ϵ { s with P:=h' }:=λQ ϵ q=>by
   rw[g,g1];exact HT.GF (s:={ s with P:=h' }) ⟨o,ah,aI,m,bO⟩ ⟨bR,g2,g3,ba,lR⟩ d1 Dn bK q
  refine ax (Ŗ (Ν (ax (cmp _ _ (ax (Ν (Ū (ax (ģ (bp ?_))))))))));cases Dw:HT.â (ks.œ (j+1) []) (ks.œ (ķ (λi j=>HT.â (ks.œ i []) (ks.œ j [])) j) []) with
  | true=>
   simp only[NE];refine ax (m:=ad_ S (λ_=>#[d[j+1],d[j+1]])) ?_;refine ă s2 rfl (ax (ģ ?_));rw[pO];have up:∀b o,b≠S->h'.ϛ b=O o->(h'.ý S (ğ.ajD λ_=>#[d[j+1],d[j+1]])).ϛ b=O o:=λb o b1 e=>(ψ _ _ (Ne.symm b1)).Ϛ e
   refine bp ⟨Ś ϟ.ϴ.ň _,bB (j+1) _ d[j+1] _ ⋯ cJ (iW.ĭ (λo e=>up I o (Ne.symm pK) e) λb o b1 e y=>up b o (λz=>?_) e) ?_ (š _ s2 rfl) λv ah tk aG vk=>e4 v ah tk aG λb o b1 b2 e=>vk b o b1 b2 (up b o b2 (ex b o b1 e))⟩
   ·rcases y with⟨_,y⟩|y
    ·exact Dv (z.symm.Ϛ y)
    ·rw[z,s2]at e;cases e;exact bJ (show ϫ.χ "list"=ϫ.χ "tuple" from y) ∅
   ·simp only[ķ,Dw,NE];simp[cJ]
  | false=>
   simp only[Ď,Ü];refine ax (ģ ?_);rw[pO];refine bp ⟨Ś ϟ.ϴ.ň _,bB (j+1) _ fv c ⋯ cJ iW ?_ s2 λv ah tk aG vk=>e4 v ah tk aG λb o b1 b2 e=>vk b o b1 b2 (ex b o b1 e)⟩;simp only[ķ,Dw,Ď,Ü];exact af
theorem Uz  (bj:Ϲ.Ē=none)(bK:Ϲ.jp.õ<ä)(aw:s.P.Ò l d.ϗ)(cP:fC s.P d ks)(aF:0<d.N)(h:∀v h' tk,d[ķ (λi j=>HT.â (ks.œ i []) (ks.œ j [])) (d.N-1)]?=O v->(∀b o,s.P.ϛ b=O o->h'.ϛ b=O o)->R (.ok (.b8 v)) { s with P:=h',Χ:=tk }):
  Ø (ώ ϔ w) Ϲ (.ο "min.loop" ⟨[.Z s.P.Ϡ.Ϥ,.none,.Z (s.P.Ũ { Ŝ:=.χ "list_iterator",Φ:=.Ž #[.Z l,.M 0 0] }).Ϡ.Ϥ],kw⟩) R { s with P:=(s.P.Ũ { Ŝ:=.χ "list_iterator",Φ:=.Ž #[.Z l,.M 0 0] }).Ũ { Ŝ:=.χ "list",Φ:=.XV #[] } }:=by
 have pO:(û "min"++û ".loop":è)="min.loop":=by decide
 have mL:l<s.P.Ϡ.Ϥ:=by obtain⟨_,e,_⟩:=aw;exact τ e
 have fP:(s.P.Ũ { Ŝ:=.χ "list_iterator",Φ:=.Ž #[.Z l,.M 0 0] }).Ϡ.Ϥ=s.P.Ϡ.Ϥ+1:=act ..
 have dq:=σ (h:=s.P.Ũ { Ŝ:=.χ "list_iterator",Φ:=.Ž #[.Z l,.M 0 0] }) (o:={ Ŝ:=.χ "list",Φ:=.XV #[] }) rfl
 have up:∀b o,s.P.ϛ b=O o->((s.P.Ũ { Ŝ:=.χ "list_iterator",Φ:=.Ž #[.Z l,.M 0 0] }).Ũ { Ŝ:=.χ "list",Φ:=.XV #[] }).ϛ b=O o:=λb o e=>ϥ _ (ϥ _ e)
 have pJ:=ϥ { Ŝ:=.χ "list",Φ:=.XV #[] } (σ (h:=s.P) (o:={ Ŝ:=.χ "list_iterator",Φ:=.Ž #[.Z l,.M 0 0] }) rfl)
 refine Ů ϟ.ϴ.Os ?_;rw[ŕ.Ľ ϟ.ϴ.ň _];rw[fP]at dq ⊢;generalize ((s.P.Ũ { Ŝ:=.χ "list_iterator",Φ:=.Ž #[.Z l,.M 0 0] }).Ũ { Ŝ:=.χ "list",Φ:=.XV #[] })=g at dq up pJ ⊢
 have rd:g.Ò l d.ϗ:=aw.at λo e=>up l o e
 have H6:fC g d ks:=ϋ.gq cP λv k t=>t.ĭ λa o e _=>up a o e
 have pK:s.P.Ϡ.Ϥ+1≠s.P.Ϡ.Ϥ:=B.akc _
 have Dv:s.P.Ϡ.Ϥ+1≠l:=À (B.ahO mL)
 refine ax (m:=ć (.Z (s.P.Ϡ.Ϥ+1))) (Ŧ dq rfl (ax (m:=Z_ (Ħ (.Z s.P.Ϡ.Ϥ)) _) (Ŗ (U_ (i:=0) ⟨_,pJ,rfl,rfl⟩ rd (x:=d[0]) (by simp[aF]) λh' nq fV=>?_))));have ex:=fV.Β
 have s2:=ex _ _ pK dq
 refine ax (m:=ad_ (s.P.Ϡ.Ϥ+1) (λ_=>#[d[0],d[0]])) ?_;refine ă s2 rfl ?_;rw[pO];have Jo:∀b o,b≠s.P.Ϡ.Ϥ+1->h'.ϛ b=O o->(h'.ý (s.P.Ϡ.Ϥ+1) (ğ.ajD λ_=>#[d[0],d[0]])).ϛ b=O o:=λb o b1 e=>(ψ _ _ (Ne.symm b1)).Ϛ e
 have ĭ:∀b o,s.P.ϛ b=O o->(h'.ý (s.P.Ϡ.Ϥ+1) (ğ.ajD λ_=>#[d[0],d[0]])).ϛ b=O o:=λb o e=>Jo b o (Ι (B.ahO (τ e))) (ex b o (Ι (τ e)) (up b o e))
 refine bp ⟨Ś ϟ.ϴ.ň _,Uy (I:=s.P.Ϡ.Ϥ) (l:=l) (d:=d) (ks:=ks) bj bK pK Dv _ 0 _ d[0] _ rfl aF ⟨?_,?_,?_⟩ (by simp[ķ,aF]) (š _ s2 rfl) λv ah tk aG vk=>h v ah tk aG λb o e=>vk b o (Ι (τ e)) (Ι (B.ahO (τ e))) (ĭ b o e)⟩
 ·obtain⟨o,av,ak,hd⟩:=nq;exact⟨o,Jo _ o (Ι (a_ _)) av,ak,hd⟩
 ·exact aw.at λo e=>ĭ l o e
 ·exact ϋ.gq cP λv k t=>t.ĭ λa o e _=>ĭ a o e
theorem UA (bj:Ϲ.Ē=none)(bK:Ϲ.jp.õ<ä)(aw:s.P.Ò l d.ϗ)(cP:fC s.P d ks)(aF:0<d.N)(h:∀v h' tk,d[ķ (λi j=>HT.â (ks.œ i []) (ks.œ j [])) (d.N-1)]?=O v->(∀b o,s.P.ϛ b=O o->h'.ϛ b=O o)->Q v { s with P:=h',Χ:=tk }):
  ϙ (ώ ϔ w) Ϲ (WP (.ο "min") [.Z l]) Q ϵ s:=by
 have pO:(û "min"++û ".loop":è)="min.loop":=by decide
 refine ϟ.call_function_tree ϟ.ϴ.kind_min ϟ.ϴ.plain_min ϟ.ϴ.entry_min (ϟ.ϴ.args_min1 _) (ax (m:=π.aj7.aii "min" ["key","default"] 0 ⟨[],[]⟩) (nw (a:=[none,none]) rfl (ax (bp (ax (AC aw ?_))))));refine ax (Š ?_);rw[pO];exact bp ⟨Ś ϟ.ϴ.ň _,Uz bj bK aw cP aF h⟩
theorem Jp (f:B->Y G):∀n,ķ (λi j=>HT.â (f i) (f j)) n<=n/\∀j,j<=n->jw (f (ķ (λi j=>HT.â (f i) (f j)) n)) (f j)
 | 0=>⟨B.ϑ _,λj h=>by
                    obtain rfl:j=0:=⋯;exact jw.Ô _⟩
 | n+1=>by
  obtain⟨g,ah⟩:=Jp f n;simp only[ķ];by_cases c:HT.â (f (n+1)) (f (ķ (λi j=>HT.â (f i) (f j)) n))=true
  ·rw[aS c];refine⟨B.ϑ _,λj h=>?_⟩;by_cases e:j=n+1
   ·rw[e];exact jw.Ô _
   ·exact(jw.of c).Ϛ (ah j ⋯)
  ·rw[aD c];refine⟨⋯,λj h=>?_⟩;by_cases e:j=n+1
   ·rw[e];exact δ.anl.ļ c
   ·exact ah j ⋯
end
theorem UB (ak:X.R_=true)(bK:X.Ϲ.õ+1<ä):ho X (.ο "min") (λF H Q=>∃(p:Ϩ)(ts:Y Ϩ)(k:Ϩ->Y G),F=[.Z p]/\aM X.K H p (ts.ϒ V.Z)/\ts≠[]/\(∀t∈ts,H t=O (.Ţ ((k t).ϒ V.M)))/\
  ∀r∈ts,(∀t∈ts,jw (k r) (k t))->Q (.Z r) H):=by
 intro ϩ s J H F us Q I r h;obtain⟨p,ts,k,rfl,ao,ia,aq,q⟩:=h;obtain⟨u,rfl,bc⟩:=wT r;cases bc;obtain⟨aL,cG,pl,hz⟩:=I.ö ao;obtain rfl:=Du cG;have aF:0<ts.N:=ě.ļ ia
 refine UA (I.ok.hd ak) bK pl.Ń (ek.dh I.a9 aq) (by rwa[ϧ]) λv h' tk aG dR=>?_;obtain⟨b1,b2⟩:=Jp (λi=>(ts.ϒ k).œ i []) ((ts.ϒ ϫ.Z).N-1);rw[Ϙ]at aG;obtain⟨t,bk,rfl⟩:=ξ.mp aG;refine⟨.Z t,H,I.XL (t':=tk) dR,rfl,q t (ύ bk) λx ai=>?_⟩;obtain⟨j,bg⟩:=Ŏ ai;have kk:=(Y.Ϧ.mp bg).1
 have au:(ts.ϒ k).œ (ķ (λi j=>HT.â ((ts.ϒ k).œ i []) ((ts.ϒ k).œ j [])) ((ts.ϒ ϫ.Z).N-1)) []=k t:=by
  rw[Ş,Ϙ,bk];rfl
 have az:(ts.ϒ k).œ j []=k x:=by
  rw[Ş,Ϙ,bg];rfl
 have:=b2 j (by rw[ϧ];omega)
 rw[au,az]at ν;exact ν
section
variable {prog:Program}{w:World}{A:Around}{E:wvP}{s:Shared}
end
section
variable {prog:Program}{w:World}{A:Around}{E:wvP}{s:Shared}
end
end L2
namespace L2
open PySem PySem.Spec PyProof.Rows
open AutoSeq1 (wpAny_loadPart')
theorem UC (it l Ϻ:Ϩ)(ia:l≠it)(ž:μ ϫ):Draws ϔ w Ϲ it [it,l,Ϻ] ž.Ϥ (λi v=>ž[i]?=O v) (λi h=>h.É it l i/\h.Ò l ž/\vg Ϲ Ϻ h) where
 live:=λ_ _ E=>let⟨o,av,_⟩:=E.1;⟨o,av⟩
 or:=λ_ _ _ E aq=>⟨E.1.at λo e=>aq it (by simp) o e,let⟨o,av,r⟩:=E.2.1;⟨o,aq l (by simp) o av,r⟩,E.2.2.Pg id λ⟨Ϸ,dx,d,a0,g,ah,aI⟩=>⟨Ϸ,dx,d,a0,g,aq Ϻ (by simp) _ ah,aI⟩⟩
 Ov:=λi s Q ϵ aA E d6=>by
  refine ain E.1 E.2.1 (x:=ž[i]) (by simp[aA]) λh' nq fV=>d6 _ h' s.Χ (by simp[aA]) ⟨nq,E.2.1.Β fV.Β ia,E.2.2.Pg id λ⟨Ϸ,dx,d,a0,g,ah,aI⟩=>⟨Ϸ,dx,d,a0,g,fV.Β Ϻ _ (λz=>?_) ah,aI⟩⟩ fV;obtain⟨o,av,ak,_⟩:=E.1;rw[z,av]at ah;cases ah;cases ak
 done:=λs Q ϵ E gd=>zP E.2.2.hd E.1 E.2.1 (by simp) gd
def p0 (K:ş)(a:Ϩ):g7:=
 ⟨λi H=>∃F x,aM K H a F/\F[i]?=O x,λi H v U=>∃T x,v=.Z T/\H T=none/\U=ſ H T (.Ţ [.M (i:B),x])/\∀F,aM K H a F->F[i]?=O x,λi H=>∃F,aM K H a F/\F.N<=i⟩
theorem UD (a e it:Ϩ)(ow:e≠it)(sX:a≠it):
  Bm Ϯ w K (.w_ C jq kc) (p0 K a) [e,it] e (λi h=>(∃OZ,an4 h e it (i:B) OZ)/\h.É it a i) where
 OO:=by simp
 Oy:=λi h E c ak=>by
  obtain⟨⟨OZ,he⟩,hy,p1,cI,au⟩:=E;simp only[ς,ő,Ĩ]at ak;rcases ak with q|q<;>subst q
  ·exact⟨_,he,λv q=>by cases q⟩
  ·exact⟨hy,p1,λv q=>by rw[au]at q;cases q⟩
 ĭ:=λi h h' E k=>by
  obtain⟨⟨OZ,he⟩,g⟩:=E;exact⟨⟨OZ,k _ (by simp) _ he⟩,g.at λo q=>k _ (by simp) o q⟩
 Ov:=by
  intro X dk hw c9 ak i ϩ s J H ϵ I hf E bF;subst dk hw c9;obtain⟨F,x,aN,ai⟩:=bF;obtain⟨aL,ck,p,ve⟩:=I.ö aN;have p:s.P.Ò a aL.ϗ:=p.Ń
  obtain⟨u,bK,fh⟩:=ck.O4 ai;obtain⟨⟨OZ,he⟩,g⟩:=id E;obtain⟨Ϻ,sY,ru⟩:=fo.at (Ϲ:=X.Ϲ.jp) (I.R_ ak) it;have aw:i<aL.ϗ.Ϥ:=by
   obtain⟨bj,_⟩:=Y.Ϧ.mp bK;simpa using bj
  have Dq:e ∉ [it,a,Ϻ]:=λz=>by
   simp only[ς,ő,Ĩ]at z;rcases z with z|z|z
   ·exact ow z
   ·obtain⟨o,av,kB,_⟩:=p;rw[<- z,he]at av;cases av;exact bJ (show ϫ.χ "enumerate"=ϫ.χ "list" from kB) ∅
   ·rcases ru with y|⟨Ϸ,o,av,kB⟩
    ·exact ow (z.Ϛ y)
    ·rw[<- z,he]at av;cases av;cases kB
  refine ah3 (UC (Ϲ:=X.Ϲ.jp) it a Ϻ sX aL.ϗ) he ⟨g,p,sY⟩ aw ow Dq λy h' tk aU av fV cP Oz aq=>?_;obtain rfl:y=u:=by
   have:aL.ϗ[i]?=O u:=by simpa using bK
   rw[ν]at aU;exact(ϣ.O.W1 aU).symm
  have lt:∀{c:Ϩ}{o:ğ},s.P.ϛ c=O o->s.P.Ϡ.Ϥ≠c:=λe=>À (τ e)
  have aF:H s.P.Ϡ.Ϥ=none:=I.a9.Ĳ (B.ϑ _)
  have aK:Υ X ϩ J (ſ H s.P.Ϡ.Ϥ (.Ţ [.M (i:B),x])) { s with P:=h',Χ:=tk+1 }:=I.an3 (t':=tk+1) (ch:=[e,it]) hf (λc o ak q=>aq c o (λz=>ak (by simp[z])) (λz=>ak (by simp[z])) q) (B.ϑ _)
   ⟨by rw[ρ];simp,[.M i tk,y],.θ ⟨tk,rfl⟩ (.θ fh .ń),⟨_,cP,rfl,0,rfl⟩⟩
  refine⟨_,rfl,aht (s:={ s with P:=h',Χ:=tk+1 }) av λkJ ov ix=>?_⟩;have pY:∀c∈[e,it],ſ H s.P.Ϡ.Ϥ (.Ţ [.M (i:B),x]) c=none:=λc ak=>by
   obtain⟨o,q⟩:∃o,s.P.ϛ c=O o:=by
    obtain⟨_,p1,_⟩:=id g;simp only[ς,ő,Ĩ]at ak;rcases ak with q|q<;>subst q
    ·exact⟨_,he⟩
    ·exact⟨_,p1⟩
   rw[aE (Ne.symm (lt q))];exact(hf c ak).1
  obtain⟨f0,f1,f2,dv,f4,dP⟩:=hf e (by simp);have bt:Υ X ϩ J (ſ H s.P.Ϡ.Ϥ (.Ţ [.M (i:B),x])) { s with P:=kJ,Χ:=tk+1 }:=aK.Á (t':=tk+1) (λc o ak q=>ix.Β c o ak q) (pY e (by simp)) f1 dv f4 dP
  exact⟨.Z s.P.Ϡ.Ϥ,_,bt,rfl,⟨_,x,rfl,aF,rfl,λJg kj=>by rwa[I.t6 kj aN]⟩,⟨⟨_,by simpa using ov⟩,fV.1.Β ix.Β ow.symm⟩,pY⟩
 done:=by
  intro X dk hw c9 ak i ϩ s J H ϵ I hf E bF;subst dk hw c9;obtain⟨F,aN,vb⟩:=bF;obtain⟨aL,ck,p,ve⟩:=I.ö aN;have p:s.P.Ò a aL.ϗ:=p.Ń
  have eL:=ck.N
  obtain⟨⟨OZ,he⟩,g⟩:=id E;have cP:s.Q_ (.Z e) "enumerate":=⟨_,he,rfl⟩
  obtain⟨f0,f1,f2,dv,f4,dP⟩:=hf it (by simp);unfold Ħ;refine ax (ď (Ψ (name:=ϕ.ϝ "__next__") cP ϴ.KB (Ż ϴ.KB cP ϴ.ai9 ?_ (ϴ.aiD _))));refine ax (m:=IO (.Z e) 2) (Ξ he rfl (x:=.Z it) rfl (ax (zP (Ϲ:=X.Ϲ.jp) (I.R_ ak) g p (by simp;omega) λh' x eb ai=>?_)));exact m3 ai ⟨rfl,I.Á (t':=s.Χ) (λb o af q=>eb b o af q) f0 f1 dv f4 dP⟩
 self:=λ_ _ _ _ _ E h=>by
  obtain⟨⟨OZ,he⟩,_⟩:=E;exact zn he h
def zjh (K:ş)(bo:du):TI:=λJ H R=>bo J H λd H1=>∃a F,d=[.Z a]/\aM K H1 a F/\R (p0 K a) H1
theorem UE {a:Ġ}{p:Ox}(bF:fb X "enumerate")(hm:X.mg "enumerate"=none)(aN:PA X [a] bo)(aH:Ϫ (ω [a] X.ό=[(false,ŗ a X.ό)]) dA._auto_1):
  PI X (.w_ C jq kc) (.č (.ĸ "enumerate" p) [a] [] ŷ) (zjh X.K bo):=by
 intro ϩ s J H R I h;refine OA (iU I bF hm Ĥ.KK.al7 (Ĥ.KK.Į (bA (aN ŷ ϩ s J H _ I h) λus s1 ⟨d,H1,aK,bG,a3⟩=>?_) (by rw[aH];rfl) rfl));obtain⟨a1,F,e,g,q⟩:=a3;subst e;obtain⟨u,rfl,r⟩:=wT bG;cases r;obtain⟨aL,ck,pl,hz⟩:=aK.ö g;have pl:s1.P.Ò a1 aL.ϗ:=pl.Ń
 have eL:a1<s1.P.Ϡ.Ϥ:=by obtain⟨_,e,_⟩:=pl;exact τ e
 refine call_enumerate_list pl λh' he aA _ aq=>zn he ?_;have bt:Υ X ϩ J H1 { s1 with P:=h' }:=aK.XL (t':=s1.Χ) aq
 refine⟨s1.P.Ϡ.Ϥ+1,[s1.P.Ϡ.Ϥ+1,s1.P.Ϡ.Ϥ],_,_,H1,rfl,bt,UD a1 _ _ (B.akc _) (Ι eL),⟨⟨_,he⟩,aA⟩,λc ak=>?_,q⟩;have lc:s1.P.Ϡ.Ϥ<=c:=by
  simp only[ς,ő,Ĩ]at ak;rcases ak with q|q<;>rw[q]
  ·exact L_ _ _
  ·exact B.ϑ _
 exact aK.mb lc (aK.a9.Ĳ lc)
theorem UG {Ϻ:fq}(Pv:B->St->ag->Prop)(h0:Pv 0 J H)(aw:∀i J H,Pv i J H->aM K H a F)(aH:∀(i:B) x J H T,F[i]?=O x->Pv i J H->H T=none->Ϻ (.Z T) J (ſ H T (.Ţ [.M (i:B),x])) λdm aC=>a4 { ϶ with aP:=Pv (i+1),cb:=Pv (i+1),bf:=϶.aP } dm aC)(hd:∀J H,Pv F.N J H->϶.aP J H):
  ∃W:B->B->St->ag->Prop,(∃m,W 0 m J H)/\∀i m J H,W i m J H->
   ((p0 K a).stop i H/\϶.aP J H)\/((p0 K a).go i H/\∃ϰ:St->ag->Prop,(∀a7 U,ϰ a7 U->∃ba,ba<m/\W (i+1) ba a7 U)/\∀x U,(p0 K a).fR i H x U->Ϻ x J U λdm aC=>a4 { ϶ with aP:=ϰ,cb:=ϰ,bf:=϶.aP } dm aC):=by
 refine⟨λi m J H=>m=F.N-i/\i<=F.N/\Pv i J H,⟨F.N,by simp,ł _,h0⟩,?_⟩;rintro i m J H ⟨rfl,aA,p⟩;have a3:=aw i J H p
 by_cases cJ:i<F.N
 ·refine .Œ ⟨⟨F,F[i],a3,by simp[cJ]⟩,Pv (i+1),λa7 U eB=>⟨F.N-(i+1),⋯,rfl,cJ,eB⟩,λv U y=>?_⟩;obtain⟨T,x,au,az,bY,dN⟩:=y;subst au bY;exact aH i x J H T (dN F a3) p az
 ·have e:i=F.N:=⋯
  subst e;exact .ε ⟨⟨F,a3,B.ϑ _⟩,hd J H p⟩
section
variable {prog:Program}{w:World}{A:Around}{R:Result->Shared->Prop}{I:Addr}{cH wr:List Addr}{n:Nat}{P:Nat->Value->Prop}{St:Nat->Heap->Prop}{d:Value}
theorem UH (W:alx ϔ w Ϲ.jp I cH wr n Ϯ St)(eY:B->B->δ)(rv:anF ϔ w Ϲ.jp .Lt Ϯ eY)(S:Ϩ)(kY:S ∉ cH):
  ∀(k j:B)(s:ϐ)(fv:ϫ)(c:B),n-(j+1)=k->j+1<=n->St (j+1) s.P->Ϯ (ķ eY j) fv->s.P.ϛ S=O { Ŝ:=.χ "list",ï:=none,Φ:=.XV #[fv,fv] c,ē:=#[] }->
  (∀v h' tk,Ϯ (ķ eY (n-1)) v->(∀b o,b ∉ wr->b≠S->s.P.ϛ b=O o->h'.ϛ b=O o)->R (.ok (.b8 v)) { s with P:=h',Χ:=tk })->
  Ø (ώ ϔ w) Ϲ (.ο "min.loop" ⟨[.Z I,.none,.Z S],[("default",ϻ)]⟩) R s:=by
 have ox:S ∉ wr:=λh=>kY (W.Pd _ h)
 have kZ:(û "min"++û ".loop":è)="min.loop":=by decide
 intro k;induction k with
 | HW=>
  intro j s fv c aq bg wE oy dq e4;have mz:j+1=n:=⋯
  refine Ů ϴ.Os ?_;rw[ŕ.Ľ ϴ.ň _];refine ax (m:=ć (.Z S)) (Ŧ dq rfl ?_);refine ax (m:=Z_ (Ħ (.Z I)) _) (Ŗ (W.done s _ _ (mz ▸ wE) λh' tk dR=>?_));exact ax (m:=ad_ S (λ_=>#[])) (ă (dR S _ ox dq) rfl (ax (ģ (bp (e4 fv _ tk (by rwa[<- mz]) λb o fE hD e=>(ψ _ _ (Ne.symm hD)).Ϛ (dR b o fE e))))))
 | o0 k bB=>
  intro j s fv c aq bg wE oy dq e4;have cJ:j+1<n:=⋯
  refine Ů ϴ.Os ?_;rw[ŕ.Ľ ϴ.ň _];refine ax (m:=ć (.Z S)) (Ŧ dq rfl ?_);refine ax (m:=Z_ (Ħ (.Z I)) _) (Ŗ (W.Ov (j+1) s _ _ cJ wE λv h' tk dk oz dR=>?_));have i2:=dR S _ ox dq
  show ϙ _ Ϲ.jp (Z_ (Î [v,v] (ahD .Lt v fv>>=_)) _>>=_) _ _ _
  refine ax (Ŗ (Ν (ax (rv (j+1) (ķ eY j) v fv _ _ _ dk oy ?_))));refine ax (Ν (Ū (ax (ģ (bp ?_)))));cases af:eY (j+1) (ķ eY j) with
  | true=>
   simp only[NE];refine ax (ă i2 rfl (ax (ģ ?_)));rw[kZ];refine bp ⟨Ś ϴ.ň _,bB (j+1) _ v _ ⋯ cJ (W.or _ _ _ oz λb rx o e=>(ψ _ _ (λh:S=b=>kY (by rwa[h]))).Ϛ e) (by simp only[ķ,af,NE];exact dk) (š _ i2 rfl) λeT mH mI mJ mK=>?_⟩;exact e4 eT mH mI mJ λb o fE hD e=>mK b o fE hD ((ψ _ _ (Ne.symm hD)).Ϛ (dR b o fE e))
  | false=>
   simp only[Ď,Ü];refine ax (ģ ?_);rw[kZ];exact bp ⟨Ś ϴ.ň _,bB (j+1) _ fv c ⋯ cJ oz (by simp only[ķ,af,Ď,Ü];exact oy) i2 λeT mH mI mJ mK=>e4 eT mH mI mJ λb o fE hD e=>mK b o fE hD (dR b o fE e)⟩
theorem UI (W:alx ϔ w Ϲ.jp I cH wr n Ϯ St)(eY:B->B->δ)(rv:anF ϔ w Ϲ.jp .Lt Ϯ eY)(S:Ϩ)(kY:S ∉ cH){c:B}(wE:St 0 s.P)(dq:s.P.ϛ S=O { Ŝ:=.χ "list",ï:=none,Φ:=.XV #[] c,ē:=#[] })(e4:∀v h' tk,((n=0/\v=ϻ)\/(0<n/\Ϯ (ķ eY (n-1)) v))->(∀b o,b ∉ wr->b≠S->s.P.ϛ b=O o->h'.ϛ b=O o)->R (.ok (.b8 v)) { s with P:=h',Χ:=tk }):
  Ø (ώ ϔ w) Ϲ (.ο "min.loop" ⟨[.Z I,.none,.Z S],[("default",ϻ)]⟩) R s:=by
 have ox:S ∉ wr:=λh=>kY (W.Pd _ h)
 have kZ:(û "min"++û ".loop":è)="min.loop":=by decide
 refine Ů ϴ.Os ?_;rw[ŕ.Ľ ϴ.ň _];refine ax (m:=ć (.Z S)) (Ŧ dq rfl ?_);rcases B.al8 n with aF|aF
 ·refine ax (m:=Z_ (Ħ (.Z I)) _) (Ŗ (W.done s _ _ (aF ▸ wE) λh' tk dR=>?_));exact ax (ì (bp (e4 ϻ h' tk (.ε ⟨aF,rfl⟩) λb o fE hD e=>dR b o fE e)))
 ·refine ax (m:=Z_ (Ħ (.Z I)) _) (Ŗ (W.Ov 0 s _ _ aF wE λv h' tk dk oz dR=>?_));have i2:=dR S _ ox dq
  refine ax (m:=ad_ S (λ_=>#[v,v])) (ă i2 rfl ?_);rw[kZ];refine bp ⟨Ś ϴ.ň _,UH W eY rv S kY _ 0 _ v _ rfl aF (W.or _ _ _ oz λb rx o e=>(ψ _ _ (λh:S=b=>kY (by rwa[h]))).Ϛ e) dk (š _ i2 rfl) λeT mH mI mJ mK=>?_⟩;exact e4 eT mH mI (.Œ ⟨aF,mJ⟩) λb o fE hD e=>mK b o fE hD ((ψ _ _ (Ne.symm hD)).Ϛ (dR b o fE e))
end
section
variable {prog:Program}{w:World}{A:Around}{E:wvP}{s:Shared}
theorem UJ (a ϻ:ϫ):alE "min" ⟨[a],[("default",ϻ)]⟩:=by unfold alE;kernel_rfl
theorem UK {F:μ (G×OE)}{ϻ:ϫ}(bj:Ϲ.Ē=none)(aw:s.P.Ò l (P_ F))(h:∀v h' tk,((F.Ϥ=0/\v=ϻ)\/(0<F.Ϥ/\(P_ F)[ķ (λi j=>decide (OL F i<OL F j)) (F.Ϥ-1)]?=O v))->(∀b o,s.P.ϛ b=O o->h'.ϛ b=O o)->Q v { s with P:=h',Χ:=tk }):
  ϙ (ώ ϔ w) Ϲ (WP (.ο "min") [.Z l] [("default",ϻ)]) Q ϵ s:=by
 have kZ:(û "min"++û ".loop":è)="min.loop":=by decide
 refine Jk ϴ.kind_min ϴ.plain_min ϴ.entry_min (UJ _ _) ?_;refine ax (m:=π.aj7.aii "min" ["key","default"] 0 ⟨[],[("default",ϻ)]⟩) (nw (show π.aj7.aii "min" ["key","default"] 0 ⟨[],[("default",ϻ)]⟩=Ă [none,O ϻ] from rfl) ?_);refine ax (bp ?_);refine ax (anm aw λiV e E kK Ds=>?_);subst e;refine ax (Š ?_);have W:=alx.ö (ϔ:=ϔ) (w:=w) (Ϲ:=Ϲ.jp) bj _ l Ds (P_ F)
 rw[kZ];refine bp ⟨Ś ϴ.ň _,UI W _ (anF.ints_lt (OL F) (λ_ _=>aiV)) _ (λhm=>B.ť _ (kK _ hm)) (W.or _ _ _ E λb _ o e=>ϥ _ e) (σ _ rfl) λv h' tk dk aq=>?_⟩;refine h v h' tk (by simpa [P_] using dk) (old_kept (l:=l) λb o fE e=>?_);exact aq b o fE (Ι (τ e)) (ϥ _ e)
end
def UL (ns:Y G)(z m:G):Prop:=(ns=[]/\m=z)\/(m∈ns/\∀a∈ns,m<=a)
def zvd (K:ş)(t:du)(eD:TE):TE:=λJ H Q=>t J H λd H1=>zje eD lC J H1 λzs aC=>∃p ns ϻ,d=[.Z p]/\zs=[.M ϻ]/\aM K aC p (ns.ϒ V.M)/\∀m,UL ns ϻ m->Q (.M m) aC
theorem UM {ϻ:Ġ}{p dU:Ox}{t:du}{eD:TE}(ak:X.R_=true)(bF:fb X "min")(hm:X.mg "min"=none)(aN:PA X [e] t)(hd:PE X ϻ eD)(aH:Ϫ (ω [e] X.ό=[(false,ŗ e X.ό)]) dA._auto_1):
  PE X (.č (.ĸ "min" p) [e] [⟨O "default",ϻ,dU⟩] ŷ) (zvd X.K t eD):=by
 intro ϩ s J H Q I h;refine Ł (iU I bF hm PyProof.Rows.Boot.«min» (Ĥ.KK.callWith_kw (bA (aN ŷ ϩ s J H _ I h) λus s1 ⟨d,H1,aK,bG,a3⟩=>?_) (by rw[aH];rfl) (by rw[aH];rfl)));refine bA (Gv (nm:=O "default") (BE:=dU) hd (Gu (X:=X)) ŷ ϩ s1 J H1 _ aK a3) λws s2 bj=>IS λeZ uq=>?_;obtain⟨zs,aC,bt,bW,p,ns,ϻ,au,az,ao,q⟩:=bj;refine uq ?_;subst au az;obtain⟨u,rfl,bc⟩:=wT bG;cases bc;obtain⟨Uw,rfl,bu⟩:=wT bW;obtain⟨eD,rfl⟩:=bu;obtain⟨aL,cG,pl,hz⟩:=bt.ö ao;obtain⟨ps,rfl,rfl⟩:=ints_of cG;refine UK (bt.ok.hd ak) (show s2.P.Ò p (P_ ps.ϗ) by simpa [P_] using pl.Ń) λv h' nr aG dR=>?_;rcases aG with⟨h0,rfl⟩|⟨h0,aG⟩
 ·have c6:ps=[]:=by cases ps with
   | ń=>rfl
   | θ a b=>simp at h0
  exact⟨.M ϻ,aC,bt.XL (t':=nr) dR,⟨eD,rfl⟩,q _ (.ε ⟨by rw[c6];rfl,rfl⟩)⟩
 ·obtain⟨t,rfl⟩:=aiV aG;obtain⟨g,ah⟩:=argBest_lt (OL ps.ϗ) (ps.ϗ.Ϥ-1);have lt:∀{i:B},i<=ps.ϗ.Ϥ-1->i<(ps.ϒ (·.1)).N:=λ{i} h=>by rw[ϧ];simp only[ζ]at h h0;omega
  refine⟨.M _,aC,bt.XL (t':=nr) dR,⟨t,rfl⟩,q _ (.Œ ⟨by rw[zq];exact getD_mem (lt g),λa aN=>?_⟩)⟩;obtain⟨j,bg,rfl⟩:=mem_getD aN;rw[<- zq];exact ah j (by rw[ϧ]at bg;simp only[ζ];omega)
end L2
variable {zs:List L2.V}
namespace L2
open PySem PySem.Spec PyProof.Rows PySem.W
def p2 (ϲ ϱ:Y (Ϩ×ğ))(aJ:Y Ϩ)(H:ag)(h:Θ):Prop:=(∀q∈ϲ,h.ϛ q.1=O q.2/\H q.1=none/\q.1 ∉ aJ)/\∀q∈ϱ,H q.1=O (.cW q.2 (.HF q.1))
section
variable {X:Cx}{pins:List (Addr×Obj)}{J:St}{H:ag}{s:Shared}{L M:List (Addr×Obj)}
theorem Υ.Dx (I:Υ X ϩ J H s){b:Ϩ}(g:b≠X.ό.í)(ah:b ∉ X.aJ):b ∉ eu X.ą:=λz=>(ς.mp (I.qE _ z)).Ę g ah
theorem Υ.Jq (I:Υ X ϩ J H s)(p:p2 ϲ ϱ X.aJ X.dy X.cf.P)(ex:X.ex=[]):p2 ϲ ϱ (eu X.ą) H s.P:=by
 refine⟨λq ao=>?_,λq ao=>I.ϊ.gG _ _ _ (p.2 q ao)⟩;obtain⟨a,b,c⟩:=p.1 q ao;refine⟨I.ϊ.ĭ _ _ a b c (by rw[ex];simp),I.ϊ.Ź _ _ a b (by rw[ex];simp),I.Dx (λz=>?_) c⟩;have g:=τ a
 have ah:=I.ok.IL
 rw[z]at g;exact bJ (Δ g ah) (B.ť _)
end
structure p3 (Ϯ:Č)(w:Þ)(K:ş)(mg:ϕ->ϣ ϫ)(ϊ:Θ)(dz:iz)(k:B)(f:Ϩ)(fd:Ix)(ps:Y ϕ)(sp:ep)(ϲ ϱ:Y (Ϩ×ğ)):Prop where
 SC:∀d H Q ϵ,sp d H Q ϵ->d.N=ps.N
 run:∀(Ϲ:ŕ)(Ϗ:Y OF)(s:ϐ)(H:ag)(args:Args)(us:Y ϫ)(d:Y V)(Q:a8)(ϵ:bz),dw k Ϲ->pn Ϯ w K mg ϊ Ϲ Ϗ s H->p2 ϲ ϱ (eu Ϗ) H s.P->bv s fd args (ps.OU us)->ś d us->sp d H Q ϵ->
  Ø (ώ Ϯ w) Ϲ (.WP (.Z f) args) (BC dz Ϗ Ϯ w H s Q ϵ) s
theorem Jr {Q:a8}{ϵ:bz}{aZ:Flow}(g:X.cf=s)(ah:X.dy=H)(aI:X.ex=[])(bO:X.Ϗ=Ϗ)(d1:X.ϔ=Ϯ)(gY:X.w=w)
  : iS X [] { aP:=λ_ U=>Q .br U,iR:=Q } aZ s'->BC dz Ϗ Ϯ w H s Q ϵ (.ok (.b8 (match aZ with|.b8 v=>v|_=>.none))) s':=by
 subst g ah bO d1 gY;intro aH;have d_:∀{a7:St}{U:ag}{v:V}{u:ϫ},Υ X [] a7 U s'->ţ v u->Q v U->yP X.Ϗ X.ϔ X.w X.dy X.cf Q u s':=λ{a7 U v u} cD ck q=>⟨v,U,cD.os,cD.Rs,aI ▸ cD.ϊ,cD.a9,ck,q⟩
 cases aZ with
 | b8 u=>
  obtain⟨v,a7,U,cD,ck,q⟩:=aH;exact d_ cD ck q
 | next=>
  obtain⟨a7,U,cD,q⟩:=aH;exact d_ (v:=V.br) (u:=ϫ.none) cD rfl q
 | Pa=>
  obtain⟨_,_,_,q⟩:=aH;exact Ō.Ę q
 | Ou=>
  obtain⟨_,_,_,q⟩:=aH;exact Ō.Ę q
section
variable {dz:iz}{P:Program}{w:World}{K:Frag}{mg:Str->Option Value}{base:Heap}{k:Nat}{f:Addr}{name qual:Str}{N ps:List Str}{sp:ep}{L M:List (Addr×Obj)}
theorem UN {nf bH:ϫ}{an cO:ϣ Ϩ}(lk:K.Ϣ f=O ⟨dI,cO,.OQ (I0 name Ρ ĳ p_ Ϟ nf bH ST pm an Ë cb),eX⟩)(e1:IW K Ë Ρ=true)(S:n2 ϰ ps Ϟ)(SC:∀d H Q ϵ,sp d H Q ϵ->d.N=ps.N)(jP:∀(Ϲ:ŕ)(Ϗ:Y OF)(s:ϐ)(H:ag)(d:Y V)(Q:a8)(ϵ:bz),dw k (Ϲ.Ê (ŋ Ρ Ϟ s.P.Ϡ.Ϥ f Ë))->p2 ϲ ϱ (eu Ϗ) H s.P->sp d H Q ϵ->
   ∃t,Bf (hs dz Ϯ w K mg ϊ ϰ Ρ Ϟ f Ë Ϲ Ϗ s H ϵ) p_ t/\t { aP:=λ_ U=>Q .br U,iR:=Q } (ã ϰ d) H):
  p3 Ϯ w K mg ϊ dz (k+1) f (I0 name Ρ ĳ p_ Ϟ nf bH ST pm an Ë cb) ps sp ϲ ϱ:=by
 refine⟨SC,λϹ Ϗ s H args us d Q ϵ aO c6 ay af r fS=>?_⟩;have KX:K.In s.P:=c6.Om.jf.å λb o e=>(c6.bs b o e).1
 refine wS aO.Ol (KX _ _ lk) rfl S.co S.gen rfl (codeRec_of KX e1) (af _ _ _ _ ?_);refine ahs S.î (λ⟨n,v⟩ aU=>(S.par n (ahn aU).1).Pg id λq=>⟨q,aiY _ _ _ (.ε q)⟩) λό he s1 x=>?_;subst he;refine⟨(c6.Om.alk.å λb o e=>(c6.bs b o e).1).å x.anK.ĭ,aj_ ?_⟩;obtain⟨t,bk,ao⟩:=jP Ϲ Ϗ s H d Q ϵ (aO.Ê _) ay fS;exact ů (bk [] s1 (ã ϰ d) H _ (GB S aO.hd c6 (SC _ _ _ _ fS) r x) ao) (λaZ s' aH=>Jr (X:=hs dz Ϯ w K mg ϊ ϰ Ρ Ϟ f Ë Ϲ Ϗ s H ϵ) rfl rfl rfl rfl rfl rfl aH) λe s' aH=>aH
theorem kG.UO (ϴ:kG K name Ρ E f fd)(S:n2 ϰ ps (bV E))(SC:∀d H Q ϵ,sp d H Q ϵ->d.N=ps.N)(jP:∀(Ë:ϫ)(Ϲ:ŕ)(Ϗ:Y OF)(s:ϐ)(H:ag)(d:Y V)(Q:a8)(ϵ:bz),dw k (Ϲ.Ê (ŋ Ρ (bV E) s.P.Ϡ.Ϥ f Ë))->p2 ϲ ϱ (eu Ϗ) H s.P->sp d H Q ϵ->
   ∃t,Bf (hs bx Ϯ w K mg ϊ ϰ Ρ (bV E) f Ë Ϲ Ϗ s H ϵ).nox (fI E) t/\t { aP:=λ_ U=>Q .br U,iR:=Q } (ã ϰ d) H):p3 Ϯ w K mg ϊ bx (k+1) f fd ps sp ϲ ϱ:=by
 obtain⟨dI,cO,bH,ST,pm,an,Ë,cb,eX,rfl,lk,e1⟩:=ϴ.ex;exact UN lk e1 S SC λϹ Ϗ s H d Q ϵ aO ay fS=>(jP Ë Ϲ Ϗ s H d Q ϵ aO ay fS).Pg λt h=>⟨h.1.nox,h.2⟩
def zT (dz:iz)(Ϯ:Č)(w:Þ)(K:ş)(mg:ϕ->ϣ ϫ)(ϊ:Θ)(ϰ:Y ϕ)(Ρ:ϕ)(Ϟ:IK)(f:Ϩ)(cd:ϫ)(cl:Y (ϕ×Ϩ))(Ϲ:ŕ)(Ϗ:Y OF)(s:ϐ)(H:ag)(ϵ:bz):Cx where
 ϔ:=Ϯ
 w:=w
 K:=K
 mg:=mg
 ϊ:=ϊ
 Ϲ:=Ϲ.Ê (envX Ρ Ϟ s.P.Ϡ.Ϥ f cd cl)
 ϰ:=ϰ
 cf:=s
 dy:=H
 ό:=envX Ρ Ϟ s.P.Ϡ.Ϥ f cd cl
 Ϗ:=Ϗ
 ą:=envX Ρ Ϟ s.P.Ϡ.Ϥ f cd cl::Ϗ
 ex:=[]
 R_:=true
 fn:=λ_=>false
 ez:=[]
 c0:=λe s'=>ϙ (ώ Ϯ w) (Ϲ.Ê (envX Ρ Ϟ s.P.Ϡ.Ϥ f cd cl)) (bi (envX Ρ Ϟ s.P.Ϡ.Ϥ f cd cl) e) (λ_ qS=>dz Ϗ H s ϵ e qS) (λbq qS=>dz Ϗ H s ϵ bq qS) s'
structure Js (ps fr:Y ϕ)(sc:IK):Prop where
 î:sc.î=.ā
 co:sc.aiS=false
 gen:sc.aiT=false
 nd:ps.Α
 par:∀x∈ps,sc.Λ.Ϣ x=O .local
 q0:∀y∈sc.Λ,y.2≠.φ
 Ź:∀y∈sc.Λ,y.2=.Ź->y.1∈fr
 UP:∀y∈fr,sc.Λ.Ϣ y=O .Ź
structure rz (E:Τ)(name Ρ:ϕ)(f c:Ϩ)(cl:Y (ϕ×Ϩ))(fr:Y ϕ)(zs:Y V)(fd:Ix)(ϲ ϱ:Y (Ϩ×ğ)):Prop where
 fn:∃ST pm hh,fd=fnX name Ρ (hQ E) (fI E) (bV E) cl .none .none ST pm none (.Z c) hh/\(f,aku name Ρ (hQ E) (fI E) (bV E) cl ST pm c hh)∈ϲ
 code:∃co d t,(c,co)∈ϱ/\co.Φ=.Ž d/\d[1]?=O (.str Ρ t)
 Ý:∀y a,cl.Ϣ y=O a->∃o v,(a,o)∈ϲ/\o.Φ=.φ v
 vals:∀(i:B) y v,fr[i]?=O y->zs[i]?=O v->∃a u o,cl.Ϣ y=O a/\(a,o)∈ϲ/\o.Φ=.φ (O u)/\ţ v u
 W1:∀x y a,cl.Ϣ x=O a->cl.Ϣ y=O a->x=y
 SC:zs.N=fr.N
theorem Jt {y:ϕ}{u:ϫ}:∀{ps:Y ϕ}{us:Y ϫ}{i:B},ps.Α->ps[i]?=O y->us[i]?=O u->(ps.OU us).Ĭ.Ϣ y=O u
 | [],_,_,_,h,_=>by simp at h
 | _::_,[],_,_,_,h=>by simp at h
 | p::ps,w::us,0,nd,g,ah=>by
  simp at g ah;subst g ah;rw[Y.ahN,aa_,Y.amt,Y.lookup_eq_none_iff.ļ (λq ao=>by
   have h:=(ahn (Y.mem_reverse.mp ao)).1
   have:q.1≠p:=λz=>(ŉ.mp nd).1 (z ▸ h)
   simpa using λz=>ν z.symm)]
  simp
 | p::ps,w::us,i+1,nd,g,ah=>by
  rw[Y.ahN,aa_,Y.amt,Jt (i:=i) (ŉ.mp nd).2 (by simpa using g) (by simpa using ah)];rfl
theorem UQ {c:Ϩ}{fr:Y ϕ}(Ϸ:rz E name Ρ f c cl fr zs fd ϲ ϱ)(S:Js ps fr (bV E))(SC:∀d H Q ϵ,sp d H Q ϵ->d.N=ps.N)(jP:∀(Ϲ:ŕ)(Ϗ:Y OF)(s:ϐ)(H:ag)(d:Y V)(Q:a8)(ϵ:bz),dw k (Ϲ.Ê (envX Ρ (bV E) s.P.Ϡ.Ϥ f (.Z c) cl))->sp d H Q ϵ->
   ∃t,Bf (zT bx Ϯ w K mg ϊ (ps++fr) Ρ (bV E) f (.Z c) cl Ϲ Ϗ s H ϵ).nox (fI E) t/\t { aP:=λ_ U=>Q .br U,iR:=Q } ((d++zs).ϒ O) H):
  p3 Ϯ w K mg ϊ bx (k+1) f fd ps sp ϲ ϱ:=by
 refine⟨SC,λϹ Ϗ s H args us d Q ϵ aO c6 ay af r fS=>?_⟩;obtain⟨ST,pm,hh,rfl,hf⟩:=Ϸ.fn;obtain⟨co,UR,US,ak,e1,UT⟩:=Ϸ.code;have lv:=SC _ _ _ _ fS
 have lim:s.P.am2:=c6.Om.alk.å λb o e=>(c6.bs b o e).1
 refine wS aO.Ol (ay.1 _ hf).1 rfl S.co S.gen rfl ⟨c,co,UR,US,rfl,(c6.a9 _ _ (ay.2 _ ak)).1,e1,UT⟩ (af _ _ _ _ ?_);refine ai7 S.q0 (λ⟨n,v⟩ aU=>S.par n (ahn aU).1) (λh' aF aH=>?_) S.î;have aq:∀b o,s.P.ϛ b=O o->h'.ϛ b=O o:=λb o e=>(aH.2 b (Ι (τ e))).Ϛ (ϥ _ e)
 refine⟨lim.å aq,aj_ ?_⟩;obtain⟨t,bk,ao⟩:=jP Ϲ Ϗ s H d Q ϵ (aO.Ê _) fS;have bk:=bk.nox
 have qT:∀b:Ϩ,b ∉ (zT bx Ϯ w K mg ϊ (ps++fr) Ρ (bV E) f (.Z c) cl Ϲ Ϗ s H ϵ).ex:=λb z=>bJ (show b∈([]:Y Ϩ) from z) (by simp)
 have φ:∀y a,cl.Ϣ y=O a->∃o v,h'.ϛ a=O o/\o.Φ=.φ v/\H a=none:=λy a e=>by
  obtain⟨o,v,g,ah⟩:=Ϸ.Ý y a e;exact⟨o,v,aq _ _ (ay.1 _ g).1,ah,(ay.1 _ g).2.1⟩
 have I:Υ (zT bx Ϯ w K mg ϊ (ps++fr) Ρ (bV E) f (.Z c) cl Ϲ Ϗ s H ϵ) [] ((d++zs).ϒ O) H { s with P:=h',Χ:=s.Χ+(ps.OU us).N }:=by
  refine⟨⟨c6.Om,S.î,rfl,rfl,B.ϑ _,Ϸ.W1,λy aU=>?_,λy c z=>(nomatch z),λ_=>aO.hd,ŕ.amj c6.ç,.Œ ⟨rfl,rfl⟩,λb z=>bJ z (qT b),c6.bs,c6.ky,λb _ _=>qT b,λb z=>bJ z (qT b),c6.hK,c6.kz⟩,
   rfl,c6.Rs,f5.XL aq,⟨_,aF,λi y v g ah aI=>?_⟩,λy c h=>?_,c6.a9.Ĳ (B.ϑ _),λy c h=>?_,λp ay=>bJ (show p∈([]:Y (Ϩ×ğ)) from ay) (by simp),c6.a9.XL aq,?_⟩
  ·have aU:(bV E).Λ.Ϣ y=O .φ\/(bV E).Λ.Ϣ y=O .Ź:=aU
   rcases aU with aU|aU
   ·exact bJ rfl (S.q0 _ (ϟ.Ĝ aU))
   ·obtain⟨i,aA,rfl⟩:=Y.getElem_of_mem (S.Ź _ (ϟ.Ĝ aU) rfl);obtain⟨a,_,_,h,_⟩:=Ϸ.vals i _ (zs[i]'(by rwa[Ϸ.SC])) (ϡ aA) (ϡ _);exact⟨a,h⟩
  ·by_cases aA:i<d.N
   ·have g:(ps++fr)[i]?=O y:=g
    rw[Ϙ,Ŭ aA]at ah;rw[Ŭ ⋯]at g;cases e:d[i]? with
    | none=>rw[e]at ah;cases ah
    | O a=>
     rw[e]at ah;cases ah;obtain⟨u,bK,ck⟩:=r.O4 e;exact⟨u,ck,.ε ⟨S.par y (ύ g),Jt S.nd g bK⟩⟩
   ·have g:(ps++fr)[i]?=O y:=g
    rw[Ϙ,Ő ⋯]at ah;rw[Ő ⋯]at g;rw[lv]at ah;cases e:zs[i-ps.N]? with
    | none=>rw[e]at ah;cases ah
    | O a=>
     rw[e]at ah;cases ah;obtain⟨ca,u,o,a3,b9,eV,kD⟩:=Ϸ.vals _ y _ g e;exact⟨u,kD,.Œ ⟨.Œ (S.UP y (ύ g)),ca,a3,o,aq _ _ (ay.1 _ b9).1,eV⟩⟩
  ·obtain⟨o,v,g,ah,_⟩:=φ y c h;exact⟨v,o,g,ah⟩
  ·obtain⟨o,v,_,_,g⟩:=φ y c h;exact g
  ·show _=(ps++fr).N
   rw[ϧ,υ,υ,lv,Ϸ.SC]
 exact ů (bk [] _ _ H _ I ao) (λaZ s' aH=>Jr (X:=zT bx Ϯ w K mg ϊ (ps++fr) Ρ (bV E) f (.Z c) cl Ϲ Ϗ s H ϵ) rfl rfl rfl rfl rfl rfl aH) λe s' aH=>aH
end
section
variable {X:Cx}{k:Nat}{f:Addr}{fd:FuncData}{ps:List Str}{sp:ep}{L M:List (Addr×Obj)}{x:Str}{p pos:Pos}{e:Expr}{es:List Expr}{t:du}
theorem Ju {Q:a8}{d:Y V}(ϴ:p3 X.ϔ X.w X.K X.mg X.ϊ bx k f fd ps sp ϲ ϱ)(aO:dw k X.Ϲ)(af:us.N=ps.N->bv s fd ⟨us,[]⟩ (ps.OU us))(I:Υ X ϩ J H s)(ay:p2 ϲ ϱ (eu X.ą) H s.P)(r:ś d us)(h:sp d H Q hc):ϙ (ώ X.ϔ X.w) X.Ϲ (WP (.Z f) us) (gs X ϩ J Q) X.c0 s:=by
 have aw:us.N=ps.N:=by rw[<- r.N];exact ϴ.SC _ _ _ _ h
 refine v_ (Wp (ϴ.run X.Ϲ X.ą s H ⟨us,[]⟩ us d Q hc aO I.uf ay (af aw) r h) λr s' ao=>?_);cases r with
 | OK e=>exact Ō.Ę ao
 | ok aZ=>
  cases aZ with
  | b8 u=>exact I.amE ao
  | next=>exact Ō.Ę ao
  | Pa=>exact Ō.Ę ao
  | Ou=>exact Ō.Ę ao
def Dy (i:B)(f:Ϩ)(sp:ep)(t:du):TE:=λJ H Q=>J[i]?=O (O (.Z f))/\t J H λd H1=>sp d H1 Q hc
theorem Jv (i:B)(ϴ:p3 X.ϔ X.w X.K X.mg X.ϊ bx k f fd ps sp ϲ ϱ){k0:B}(aO:dw k0 X.Ϲ)(af:∀(s:ϐ)(us:Y ϫ),us.N=ps.N->bv s fd ⟨us,[]⟩ (ps.OU us))(ay:p2 ϲ ϱ X.aJ X.dy X.cf.P)(av:∃o,(f,o)∈ϲ/\∃dI cO fd a0,o=⟨dI,cO,.OQ fd,a0⟩)(h:nz E x)(aN:PA X (e::C) t)(g:Ϫ (k<=k0) dB._auto_1)(ex:Ϫ (X.ex=[]) dA._auto_1)(cA:Ϫ (X.ϰ[i]?=O x) dA._auto_1)(au:Ϫ (X.ό.Ϟ=bV E) dA._auto_1)(he:Ϫ (hS e=true) dA._auto_1)(Tm:Ϫ (é C=true) dA._auto_1):PE X (.č (.ĸ x p) (e::C) [] ŷ) (Dy i f sp t):=by
 intro ϩ s J H Q I ao;obtain⟨o,j2,dI,cO,vl,a0,rfl⟩:=av;have fa:∀{J H s},Υ X ϩ J H s->FnAt f s.P:=λcD=>⟨dI,cO,vl,a0,((cD.Jq ay ex).1 _ j2).1⟩
 have cx:=u6 (X:=X) (ŷ:=p) i h cA au ϩ s J H (λv U=>v=.Z f/\U=H) I (by unfold tVr;rw[ao.1];exact⟨rfl,rfl⟩)
 refine Ł (bA cx λu s1 ⟨v,U,aK,r,au,az⟩=>?_);subst au az;obtain rfl:u=.Z f:=r;refine callWith_F (fa aK) (bA (aN ŷ ϩ s1 J U _ aK ao.2) λus s2 ⟨d,H1,bt,bW,q⟩=>⟨fa bt,?_⟩) (el he) (eF Tm);exact Ju ϴ (aO.WF g) (af _ _) bt (bt.Jq ay ex) bW q
end
section
variable {st:Stmt}{name qual:Str}{f c:Addr}{cl:List (Str×Addr)}{fr ps:List Str}{zs:List V}{fd:FuncData}{L M:List (Addr×Obj)}
theorem UU (Ϸ:rz E name Ρ f c cl fr zs fd ϲ ϱ)(h:∀(us:Y ϫ) (ST pm hh:ϫ),us.N=ps.N->Ho (fnX name Ρ (hQ E) (fI E) (bV E) cl .none .none ST pm none (.Z c) hh) ⟨us,[]⟩=Ă (ps.OU us))(s:ϐ)(us:Y ϫ)(aw:us.N=ps.N):bv s fd ⟨us,[]⟩ (ps.OU us):=by
 obtain⟨ST,pm,hh,rfl,_⟩:=Ϸ.fn;exact .of_eq (h us ST pm hh aw)
theorem UW (Ϸ:rz E name Ρ f c cl fr zs fd ϲ ϱ):∃o,(f,o)∈ϲ/\∃dI cO fd a0,o=(⟨dI,cO,.OQ fd,a0⟩:ğ):=by
 obtain⟨ST,pm,hh,_,h⟩:=Ϸ.fn;exact⟨_,h,_,_,_,_,rfl⟩
end
def jx (s:Τ):Ox:=Τ.ŷ s
def Jw (Ρ:ϕ)(co:ğ):Prop:=∃d t,co.Φ=.Ž d/\d[1]?=O (.str Ρ t)
def e5 (ŷ:Ox)(Ρ:ϕ)(Ϯ:Ϩ)(H:ag):Prop:=
 ∃a4,H Ϯ=O (.f3 a4)/\akB a4.Ω/\(codeAmong ŷ a4.Ω=none\/∃c co,codeAmong ŷ a4.Ω=O (.Z c)/\H c=O (.cW co (.HF c))/\Jw Ρ co)
def sZ (Ϯ:Ϩ)(H U:ag):Prop:=∀b o,b≠Ϯ->H b=O o->U b=O o
theorem e5.ű {Ϯ:Ϩ}(t:e5 ŷ Ρ Ϯ H)(s:a5 H U):e5 ŷ Ρ Ϯ U:=
 let⟨a4,a,b,c⟩:=t
 ⟨a4,s _ _ a,b,c.Pg id λ⟨c,co,x,y,z⟩=>⟨c,co,x,s _ _ y,z⟩⟩
def oA (mg:ϕ->ϣ ϫ)(ϊ:Θ):Prop:=∃bm ob,mg "__builtins__"=O (.Z bm)/\bm≠aid/\ϊ.ϛ bm=O ob/\ob.Ŝ=.χ "module"/\ob.ï=O aid/\ob.Φ=.plain
theorem UX {a b:G}{t u:OE}{c:ϫ}(l:Y ϫ)(h:akB l):akB (l++[.M a t,.M b u,c]):=by
 fun_induction akB l with
 | case1=>trivial
 | case2 _ _ _ _ _ W_ bB=>exact bB h
 | case3=>exact h.Ę
section
variable {X:Cx}{pins:List (Addr×Obj)}{J:St}{H:ag}{s:Shared}{name qual:Str}{params:Arguments}{body:List Stmt}{scope:Scope}{gQ:Pos}{c P:Addr}{cl:List (Str×Addr)}
theorem made (I:Υ X ϩ J H s)(a4:e5 gQ Ρ Ϯ H)(e1:X.ό.code=.Z c)(Ϸ:CodeHd X.ϊ c Ϯ)(ke:oA X.mg X.ϊ)(gc:aig Ϟ X.ό=Ă cl)(h:∀f c co ST pm hh H1 s1,Υ X (ϩ++[(f,aku name Ρ ĳ p_ Ϟ cl ST pm c hh)]) J H1 s1->sZ Ϯ H H1->e5 gQ Ρ Ϯ H1->H1 f=none->H1 c=O (.cW co (.HF c))->Jw Ρ co->Q (.Z f) s1):
  ϙ (ώ X.ϔ X.w) X.Ϲ (makeFunction name Ρ ĳ (.stmts p_) Ϟ X.ό [] [] [] gQ gQ.cr) Q X.c0 s:=by
 obtain⟨a4,dk,bk,ak⟩:=a4;have vm:s.P.ϛ Ϯ=O (an5 a4):=I.a9 _ _ dk
 obtain⟨bm,ob,b1,b2,b3,b4,b5,b6⟩:=ke;have zU:s.P.Ns Ļ X.mg:=I.Om.OG.å I.bf
 have vn:=I.bf _ _ b3
 have UY:Ļ≠Ϯ:=λq=>by
  obtain⟨o,C,cw,e,hd,_⟩:=zU;rw[q,vm]at e;cases e;cases hd
 have UZ:bm≠Ϯ:=λq=>by rw[q,vm]at vn;cases vn;cases b4
 have U0:bm≠Ļ:=λq=>by
  obtain⟨o,C,cw,e,hd,_⟩:=zU;rw[q,e]at vn;cases vn;rw[hd]at b6;cases b6
 have Jx:s.P.BuiltinsAt X.mg Ϯ:=⟨bm,ob,b1,b2,U0,UZ,vn,b4,b5,b6⟩
 have Jy:=Ϸ.å I.bf
 have Ps:=τ vm
 have d_:∀{H1:ag}{h':Θ}{tk:B}{jy:ğ},Υ X ϩ J H1 { s with P:=h'.Ũ jy,Χ:=tk }->s.P.Ϡ.Ϥ<=h'.Ϡ.Ϥ->H1 h'.Ϡ.Ϥ=none->(∀v,jy.Φ≠.φ v)->jy.isFreed=false->Υ X (ϩ++[(h'.Ϡ.Ϥ,jy)]) J H1 { s with P:=h'.Ũ jy,Χ:=tk }:=λ{H1 h' tk jy} aK z n ϻ ea=>
  aK.t2 λq ao=>(κ.mp ao).Ę (λz=>aK.ON q (ź _ z)) λy=>by
   obtain rfl:=ϖ.mp y;exact⟨σ _ ea,n,À (Δ I.lt z),I.yu z,ϻ⟩
 rcases ak with aF|⟨aX,co,hf,u3,ok⟩
 ·refine makeFunction_K (mg:=X.mg) gc I.ok.OG zU e1 Jy vm bk aF UY Jx λaX hh ST h' tk ai uT cJ U1 oB=>?_;obtain⟨cE,co,d,t,az,kB,hd,aG⟩:=U1;cases az;have gk:H aX=none:=I.a9.Ĳ uT
  have U2:aX≠Ϯ:=λz=>by rw[z,dk]at gk;cases gk
  generalize zV:aku name Ρ ĳ p_ Ϟ cl ST ((X.mg "__name__").œ .none) aX hh=jy
  have ex:∀b o,b≠Ϯ->s.P.ϛ b=O o->(h'.Ũ jy).ϛ b=O o:=λb o n e=>ϥ _ (ai b o n e)
  have Jz:ſ (ſ H Ϯ (.f3 (a4++#[đ gQ.cr,đ gQ.col,.Z aX]))) aX (.cW co (.HF aX)) Ϯ=O (.f3 (a4++#[đ gQ.cr,đ gQ.col,.Z aX])):=by rw[aE (Ne.symm U2),aQ]
  have bar:sZ Ϯ H (ſ (ſ H Ϯ (.f3 (a4++#[đ gQ.cr,đ gQ.col,.Z aX]))) aX (.cW co (.HF aX))):=λb o af e=>by rwa[aE (cF e gk),aE af]
  have vo:∀{b:Ϩ}{o:bb},H b=O o->(∀t,o≠.f3 t)->b≠Ϯ:=λe n z=>by rw[z,dk]at e;cases e;exact n _ rfl
  have Dz:∀{b:Ϩ},H b=none->b≠Ϯ:=λe z=>by rw[z,dk]at e;cases e
  have un:f5 X.aJ [] H (ſ (ſ H Ϯ (.f3 (a4++#[đ gQ.cr,đ gQ.col,.Z aX]))) aX (.cW co (.HF aX))) s.P (h'.Ũ jy):=
   ⟨λb o e n _ _=>ex b o (Dz n) e,λb o e n _ _=>⟨o.ē,ex b o (Dz n) e⟩,λb o e n _=>by rwa[aE (Ι (Δ (τ e) uT)),aE (Dz n)],
    λb o e _=>by
     by_cases af:b=Ϯ
     ·exact⟨_,af ▸ ϥ _ oB⟩
     ·exact⟨o,ex b o af e⟩,
    λb F e=>bar b _ (vo e λ_ z=>nomatch z) e,λb o u e=>bar b _ (vo e λ_ z=>nomatch z) e,λb ps e=>by
     by_cases af:b=Ϯ
     ·subst af;rw[dk]at e;cases e;exact⟨_,Jz⟩
     ·exact⟨#[],by rw[μ.append_empty];exact bar b _ af e⟩⟩
  have a9:ek X.ϔ X.w (ſ (ſ H Ϯ (.f3 (a4++#[đ gQ.cr,đ gQ.col,.Z aX]))) aX (.cW co (.HF aX))) (h'.Ũ jy):=λb o e=>by
   by_cases af:b=aX
   ·subst af;rw[aQ]at e;cases e;exact⟨ϥ _ kB,co,ϥ _ kB⟩
   ·rw[aE af]at e;by_cases jX:b=Ϯ
    ·subst jX;rw[aQ]at e;cases e;exact ϥ _ oB
    ·rw[aE jX]at e;exact(I.a9 b o e).gS (λϻ u hd bq=>ex ϻ u (hd.Ę (λz=>z ▸ jX) λz=>vo z λ_ y=>nomatch y) bq) (λϻ bq=>bar ϻ _ (vo bq λ_ y=>nomatch y) bq) λϻ F bq=>bar ϻ _ (vo bq λ_ y=>nomatch y) bq
  have zs:s.P.Ϡ.Ϥ<=h'.Ϡ.Ϥ:=B.Ķ uT (B.aiM cJ)
  have cB:(ſ (ſ H Ϯ (.f3 (a4++#[đ gQ.cr,đ gQ.col,.Z aX]))) aX (.cW co (.HF aX))) h'.Ϡ.Ϥ=none:=by
   rw[aE (À cJ),aE (À (Δ Ps zs))];exact I.a9.Ĳ zs
  have aK:=d_ (I.un (t':=tk) un a9) zs cB (by subst zV;intro v z;cases z) (by subst zV;rfl)
  rw[<- zV]at aK;rw[<- zV];refine h _ aX co ST _ hh _ _ aK bar ⟨_,Jz,?_,.Œ ⟨aX,co,?_,aQ,d,t,hd,aG⟩⟩ cB aQ ⟨d,t,hd,aG⟩
  ·rw[μ.amu];exact UX _ bk
  ·rw[μ.amu];exact codeAmong_snoc _ bk aF
 ·refine makeFunction_hit (mg:=X.mg) gc I.ok.OG zU e1 Jy vm bk hf Jx λhh ST h' tk aq Oz=>?_;have cB:H h'.Ϡ.Ϥ=none:=I.a9.Ĳ Oz
  exact h _ aX co ST _ hh _ _ (d_ (I.XL (t':=tk) λb u e=>ϥ _ (aq b u e)) Oz cB (λv z=>nomatch z) rfl) (λ_ _ _ e=>e) ⟨a4,dk,bk,.Œ ⟨aX,co,hf,u3,ok⟩⟩ cB u3 ok
end
def U3 (i:B)(Ϯ:Ϩ)(gQ:Ox)(Ρ:ϕ)(s6:Y B)(sp:Ϩ->Y V->ep)(bo:du):dn:=λ϶ J H=>e5 gQ Ρ Ϯ H/\∃zs:Y V,s6.ϒ (λj=>J[j]?)=zs.ϒ (λz=>O (O z))/\
 ∀f H1,sZ Ϯ H H1->e5 gQ Ρ Ϯ H1->H1 f=none->bo (J.mt i (O (.Z f))) H1 λd aC=>a5 H1 aC/\sp f zs d aC ϶.iR hc
section
variable {X:Cx}{name qual:Str}{params:Arguments}{body:List Stmt}{scope:Scope}{gQ p pos U4:Pos}{c P fa:Addr}{cl:List (Str×Addr)}{fr:List Str}{s6:List Nat}{k k0:Nat}{ps:List Str}{sp:Addr->List V->ep}{x:Str}{e:Expr}{es:List Expr}{bo:du}
theorem U5 (i:B)(cA:X.ϰ.Α)(e1:X.ό.code=.Z c)(Ϸ:CodeHd X.ϊ c Ϯ)(ke:oA X.mg X.ϊ)(gc:aig Ϟ X.ό=Ă cl)(kM:∀(m:B) y,fr[m]?=O y->∃j,s6[m]?=O j/\X.ϰ[j]?=O y/\X.ό.Ϟ.Λ.Ϣ y=O .φ/\cl.Ϣ y=X.ό.Ý.Ϣ y)(U6:s6.N=fr.N)(jV:∀q∈cl,X.ό.Ý.Ϣ q.1=O q.2)(qF:∀y,X.fn y=true)(ϴ:∀f c zs fd ϲ ϱ,rz (.l_ name ĳ p_ [] none [] Ϟ none name gQ) name Ρ f c cl fr zs fd ϲ ϱ->∃vl,ô X.K vl ps []/\p3 X.ϔ X.w X.K X.mg X.ϊ bx k fa vl ps (sp f zs) ϲ ϱ)(aO:dw k0 X.Ϲ)(Ϻ:fb X x)(hm:X.mg x=O (.Z fa))(aq:Tk X.K (.Z fa)=true)(Oo:(x==("__debug__":ϕ))=false)(U7:PA X (e::C) bo)(g:Ϫ (k<=k0) dB._auto_1)(aA:Ϫ (X.ϰ[i]?=O name) dA._auto_1)(aw:Ϫ (X.ό.Ϟ.Λ.Ϣ name=O .local) dA._auto_1)(C2:Ϫ (ĳ.aj4=[]) dA._auto_1)(U8:Ϫ (ĳ.kw_defaults=[]) dA._auto_1)(aN:Ϫ (annTrees ĳ none X.ό=[]) dA._auto_1)(U9:Ϫ (qualnameIn X.ό name name=Ρ) dA._auto_1)(he:Ϫ (hS e=true) dA._auto_1)(Tm:Ϫ (é C=true) dA._auto_1):
  Bf X [.l_ name ĳ p_ [] none [] Ϟ none name gQ,.Return (O (.č (.ĸ x p) (e::C) [] ŷ)) aib] (U3 i Ϯ gQ Ρ s6 sp bo):=by
 intro ϩ s J H ϶ I ao;obtain⟨a4,zs,hz,ao⟩:=ao;refine t_ (nestDef_K C2 U8 aN ?_);rw[U9];refine made I a4 e1 Ϸ ke gc λf c co ST pm hh H1 s1 aK bar Va cB ri Vb=>?_;refine yx aK cA aA (.ε aw) (v:=.Z f) rfl (λs2 bt=>?_) (.Œ aw);refine t_ (akg (Ł (pb bt Ϻ hm ?_ Oo)));refine ahm (h₀:=X.ϊ) I.ok.Om.jf aq (bA (U7 ŷ _ s2 _ H1 _ bt (ao f H1 bar Va cB)) λus s3 ⟨d,aC,dc,r,mM,q⟩=>⟨dc.en,?_⟩) (el he) (eF Tm);have DA:∀{y:ϕ}{a:Ϩ},cl.Ϣ y=O a->X.ό.Ý.Ϣ y=O a:=λh=>jV _ (ϟ.Ĝ h)
 have vp:zs.N=s6.N:=by
  have:=ż N hz
  rw[ϧ,ϧ]at ν;exact ν.symm
 have JA:∀{y:ϕ}{a:Ϩ}{o:ğ},cl.Ϣ y=O a->s3.P.ϛ a=O o->(a,o)∈(f,aku name Ρ ĳ p_ Ϟ cl ST pm c hh)::cl.Ğ (λq=>(s3.P.ϛ q.2).ϒ λo=>(q.2,o)):=λg ah=>
  Η _ (Ŕ.ļ ⟨_,ϟ.Ĝ g,by rw[ah];rfl⟩)
 have Vc:rz (.l_ name ĳ p_ [] none [] Ϟ none name gQ) name Ρ f c cl fr zs (fnX name Ρ ĳ p_ Ϟ cl .none .none ST pm none (.Z c) hh) ((f,aku name Ρ ĳ p_ Ϟ cl ST pm c hh)::cl.Ğ (λq=>(s3.P.ϛ q.2).ϒ λo=>(q.2,o))) [(c,co)]:=by
  obtain⟨d,t,cI,cE⟩:=Vb;refine⟨⟨ST,pm,hh,rfl,ľ⟩,⟨co,d,t,ϖ.ļ rfl,cI,cE⟩,λy a e=>?_,λm y v au az=>?_,λy fl a au az=>I.ok.W1 y fl a (DA au) (DA az),by rw[vp,U6]⟩
  ·obtain⟨v,o,g,ah⟩:=dc.φ y a (DA e);exact⟨o,v,JA e g,ah⟩
  ·obtain⟨j,rA,rB,zW,JB⟩:=kM m y au;have aG:J[j]?=O (O v):=by
    have:=ż (λl=>l[m]?) hz
    simp only[Ϙ,rA,az,aj5]at ν;exact ϣ.O.W1 ν
   have Vd:i≠j:=λz=>by
    subst z;rw[aA]at rB;cases rB;rw[aw]at zW;cases zW
   obtain⟨p4,_,mL⟩:=dc.Bi;obtain⟨u,fh,lk⟩:=mL j y v rB (by rwa[Y.aiv Vd]) (.Œ (.ε zW));rcases lk with⟨aq,_⟩|⟨_,a,aN,o,av,hd⟩
   ·have aq:X.ό.Ϟ.Λ.Ϣ y=O .local:=aq
    rw[zW]at aq;cases aq
   ·exact⟨a,u,o,JB.Ϛ aN,JA (JB.Ϛ aN) av,hd,fh⟩
 have ez:p2 ((f,aku name Ρ ĳ p_ Ϟ cl ST pm c hh)::cl.Ğ (λq=>(s3.P.ϛ q.2).ϒ λo=>(q.2,o))) [(c,co)] (eu X.ą) aC s3.P:=by
  refine⟨λq ao=>?_,λq ao=>?_⟩
  ·rcases ς.mp ao with rfl|ao
   ·obtain⟨a1,a2,gP,iE,_⟩:=dc.ON (f,aku name Ρ ĳ p_ Ϟ cl ST pm c hh) (ź _ (ź _ (ϖ.ļ rfl)));exact⟨a1,a2,dc.Dx gP iE⟩
   ·obtain⟨⟨y,a⟩,dH,di⟩:=Ŕ.mp ao;cases av:s3.P.ϛ a with
    | none=>rw[show(s3.P.ϛ (y,a).2)=none from av]at di;cases di
    | O o=>
     rw[show(s3.P.ϛ (y,a).2)=O o from av]at di;cases di;have aw:=jV _ dH
     refine⟨av,dc.iw _ _ aw,dc.Dx (dc.o7 _ _ aw) λaf=>?_⟩;obtain⟨_,ob,a3,_⟩:=I.ok.hK.OO af;exact bJ (Δ (τ a3) (I.ok.o6 _ _ (qF _) aw)) (B.ť _)
  ·obtain rfl:=ϖ.mp ao;exact mM _ _ ri
 obtain⟨vl,af,DB⟩:=ϴ f c zs _ _ _ Vc;refine bA (Ju DB (aO.WF g) (λaw=>by have:=af s3 us dc.en (by rwa[ċ]);rw[ċ]at ν;exact ν) dc ez r q) λu s4 ⟨v,bw,hl,ck,kD⟩=>⟨v,_,bw,hl.ua,ck,kD⟩
end
structure DC (T:Ϩ)(H:ag):Prop where
 Pe:H T=O (.f3 #[])
 W_:∀b,b≠T->H b=none\/∃o F,H b=O (.cW o (.Ť F))
theorem Ve {lr:ϕ->ϣ ϫ}{k:B}{fa c T:Ϩ}(KX:K.In s.P)(bF:s.P.Ns Ļ mg)(af:s.P.Ns aid lr)(vq:∀x:ϕ,x≠"__name__"->lr x=æ x)(Vf:s.P.am2)(Vg:s.Ot=#[])(aN:s.P.ϛ a=O { Ŝ:=.χ "list",Φ:=.XV d.ϗ })(aA:Ö d ns)(aw:ns.N<=ϓ)(aO:dw k aje)(cP:s.P.ϛ T=O (an5 #[]))(Ϸ:CodeHd s.P c T)(hU:K.Ϣ T=none)(ke:oA mg s.P)(ϴ:∀ϊ:Θ,K.In ϊ->ϊ.Ns Ļ mg->oA mg ϊ->ft Ϯ w K mg ϊ bx k fa fd [x] sp)(Vh:∀(s:ϐ)(u:ϫ),bv s fd ⟨[u],[]⟩ [(x,u)])(fS:∀H:ag,DC T H->aM K H a (ns.ϒ V.M)->sp [.Z a] H (λv _=>v=.bl true) λ_ _ _=>Ō):
  Ø (ώ Ϯ w) aje (.WP (.Z fa) ⟨[.Z a],[]⟩) (λr s'=>r=.ok (.b8 (.Ã true))/\OldK s.P s'.P/\s'.os=s.os/\sw s'.Ot) s:=by
 have Vi:a≠T:=λz=>by rw[z,cP]at aN;cases aN
 have core:∀H:ag,DC T H->aM K H a (ns.ϒ V.M)->ek Ϯ w H s.P->(∀b,H b≠none->(b=a/\K.Ϣ a=none)\/b=T)->
   Ø (ώ Ϯ w) aje (.WP (.Z fa) ⟨[.Z a],[]⟩) (λr s'=>r=.ok (.b8 (.Ã true))/\OldK s.P s'.P/\s'.os=s.os/\sw s'.Ot) s:=by
  intro H rC dq a9 hA;have un:∀{b:Ϩ}{o:ğ},s.P.ϛ b=O o->(∀v n,o.Φ≠.XV v n)->(∀v,o.Φ≠.Ž v)->(nY s.P H).ϛ b=O o:=λ{b o} e cz cS=>FO e (by
   by_cases q:H b=none
   ·exact q
   ·rcases hA b q with⟨z,_⟩|z
    ·rw[z,aN]at e;cases e;exact bJ rfl (cz _ _)
    ·rw[z,cP]at e;cases e;exact bJ rfl (cS _))
  have mj:∀{b:Ϩ}{m:ϕ->ϣ ϫ},s.P.Ns b m->(nY s.P H).Ns b m:=λ{b m} ⟨o,C,cw,e,ϻ,r⟩=>⟨o,C,cw,un e (λv n z=>by rw[ϻ]at z;cases z) (λv z=>by rw[ϻ]at z;cases z),ϻ,r⟩
  have hX:K.In (nY s.P H):=λb o e=>FO (KX b o e) (by
   by_cases q:H b=none
   ·exact q
   ·rcases hA b q with⟨z,y⟩|z
    ·rw[z,y]at e;cases e
    ·rw[z,hU]at e;cases e)
  have bm:oA mg (nY s.P H):=let⟨bm,ob,b1,b2,b3,b4,b5,b6⟩:=ke;⟨bm,ob,b1,b2,un b3 (λv n z=>by rw[b6]at z;cases z) (λv z=>by rw[b6]at z;cases z),b4,b5,b6⟩
  have c6:pn Ϯ w K mg (nY s.P H) aje [] s H:=⟨rfl,⟨hX,mj bF,⟨lr,mj af,vq⟩,Vf.Ę λDD z=>⟨DD,mj z.1,z.2⟩⟩,λb o e=>ajZ e,B.le_of_eq (ajY _ _),trivial,λb z=>(nomatch (show b∈([]:Y Ϩ) from z)),a9,sw.of_eq Vg⟩
  refine Wp ((ϴ _ hX (mj bF) bm).run aje [] s H _ [.Z a] [.Z a] _ _ aO c6 (Vh s _) (.θ rfl .ń) (fS H rC dq)) λr s' h=>?_;cases r with
  | OK e=>exact Ō.Ę h
  | ok aZ=>
   cases aZ with
   | next=>exact Ō.Ę h
   | Pa=>exact Ō.Ę h
   | Ou=>exact Ō.Ę h
   | b8 u=>
    obtain⟨v,U,os,Rs,kg,JC,cG,q⟩:=h;obtain rfl:v=.bl true:=q;obtain rfl:u=ϫ.Ã true:=cG;obtain⟨IT,hm⟩:=kg.iv T #[] rC.Pe;have JD:s'.P.ϛ T=O { Ŝ:=.none,Φ:=.Ž (#[]++IT) }:=JC _ _ hm
    have ĭ:∀b o,b≠T->s.P.ϛ b=O o->s'.P.ϛ b=O o:=λb o n e=>by
     rcases rC.W_ b n with z|⟨ob,F,z⟩
     ·exact kg.ĭ b o e z (λy=>nomatch (show b∈([]:Y Ϩ) from y)) (λy=>nomatch y)
     ·have cQ:s.P.ϛ b=O ob:=(a9 b _ z).1
      have da:s'.P.ϛ b=O ob:=(JC b _ (kg.gG b ob _ z)).1
      rw[e]at cQ;cases cQ;exact da
    refine⟨rfl,⟨λb o e=>?_,λb o e=>?_⟩,os,Rs⟩
    ·by_cases af:b=T
     ·subst af;rw[cP]at e;cases e;exact .Œ (.ε ⟨(Ϸ.Pe cP).isCodeTable,rfl,#[],IT,rfl,JD⟩)
     ·exact .ε (ĭ b o af e)
    ·by_cases af:b=T
     ·exact⟨_,af ▸ JD⟩
     ·exact⟨o,ĭ b o af e⟩
 cases aq:K.Ϣ a with
 | O o=>
  have e:=KX a o aq
  rw[aN]at e;cases e;refine core (ſ (λ_=>none) T (.f3 #[])) ⟨aQ,λb n=>.ε (aE n)⟩ (.Œ ⟨_,d.ϗ,_,aq,rfl,rfl,rfl,by rwa[ζ,aA.N],by simpa using yY aA⟩) (λb u z=>?_) λb z=>.Œ ?_
  ·by_cases af:b=T
   ·subst af;rw[aQ]at z;cases z;exact cP
   ·rw[aE af]at z;cases z
  ·by_cases af:b=T
   ·exact af
   ·exact bJ (aE af) z
 | none=>
  have a6:ſ (ſ (λ_=>none) T (.f3 #[])) a (.cW { Ŝ:=.χ "list",Φ:=.XV d.ϗ } (.Ť (ns.ϒ V.M))) a=O (.cW { Ŝ:=.χ "list",Φ:=.XV d.ϗ } (.Ť (ns.ϒ V.M))):=aQ
  refine core _ ⟨by rw[aE (Ne.symm Vi),aQ],λb n=>?_⟩ (.ε (.Œ ⟨_,a6⟩)) (λb u z=>?_) λb z=>?_
  ·by_cases af:b=a
   ·subst af;exact .Œ ⟨_,_,a6⟩
   ·exact .ε (by rw[aE af,aE n])
  ·by_cases af:b=a
   ·subst af;rw[a6]at z;cases z;exact⟨aN,by rwa[ϧ],d,_,yY aA,aN⟩
   ·rw[aE af]at z;by_cases jX:b=T
    ·subst jX;rw[aQ]at z;cases z;exact cP
    ·rw[aE jX]at z;cases z
  ·by_cases af:b=a
   ·exact .ε ⟨af,aq⟩
   ·by_cases jX:b=T
    ·exact .Œ jX
    ·exact bJ (by rw[aE af,aE jX]) z
theorem Vj {l:ajc}{k:B}{q:Č}{ϻ:DefRec}{K:an1->ş}{sp:Þ->ep}{T:Ϩ}(aF:l.most=O n)(pk:n<=ϓ)(uH:ϻ.ĳ.aj4=[])(aO:dw k aje)(DE:∀(w:Þ)(h:Θ),pL w h->(K w.ĳ).In h/\h.ϛ T=O (an5 #[]))(hU:∀w:Þ,(K w.ĳ).Ϣ T=none)(ϴ:∀(w:Þ)(mg:ϕ->ϣ ϫ)(fa:Ϩ)(h:Θ),(K w.ĳ).In h->h.Ns Ļ mg->mg ϻ.name=O (.Z fa)->
   ∃fd:Ix,(∃c,ahY (K w.ĳ) c T=true)/\(∀(s:ϐ)(u:ϫ),bv s fd ⟨[u],[]⟩ [(x,u)])/\∀ϊ:Θ,(K w.ĳ).In ϊ->ϊ.Ns Ļ mg->oA mg ϊ->ft l.ϔ w (K w.ĳ) mg ϊ bx k fa fd [x] (sp w))(fS:∀(w:Þ)(H:ag)(a:Ϩ)(ns:Y G),ns.N<=n->(∀i∈ns,zf i)->DC T H->aM (K w.ĳ) H a (ns.ϒ V.M)->sp w [.Z a] H (λv _=>v=.bl true) λ_ _ _=>Ō):
  WalkO q loose sF pL l.row.alC ϻ [] (λf d=>ϟ.WP f d):=by
 refine RA aF uH λw cf s mg lr fa o pm cd ST a d ns ϳ ϭ av hd e1 hmg Cr hints SB Vk bF=>?_;obtain⟨KX,cP⟩:=DE w _ ϭ;obtain⟨fd,⟨c,ak⟩,af,kf⟩:=ϴ w mg fa _ KX ϳ.T.Ϻ hmg;exact Ve KX ϳ.T.Ϻ ϳ.T.b ϳ.T.builtins ϳ.T.alk bF Cr hints (B.Ķ SB pk) aO cP (codeHd_of_K KX ak) (hU w) ϳ.T.bmain kf af λH rC dq=>fS w H a ns SB Vk rC dq
inductive p5 (K:ş)(x q:ϕ)(E:Τ)(f:Ϩ)(aL:μ ϫ)(c T:Ϩ):Prop
 | mk (dI:ϫ)(cO:ϣ Ϩ)(bH ST pm:ϫ)(an:ϣ Ϩ)(cb:ϫ)(eX:μ (ϣ ϫ))(oC:Ϩ)(jm:ğ)(n:B)(_:K.Ϣ f=O ⟨dI,cO,.OQ (I0 x q (hQ E) (fI E) (bV E) (.Z oC) bH ST pm an (.Z c) cb),eX⟩)(_:IW K (.Z c) q=true)(_:K.Ϣ oC=O jm)(_:jm.Φ=.XV aL n)(_:Tk K (.Z f)=true)(_:ahY K c T=true)
def JE (K:ş)(x q:ϕ)(E:Τ)(f:Ϩ)(c T:Ϩ)(ps:Y ϕ):Prop:=∃fd,ô K fd ps []/\ahY K c T=true/\∃(dI:ϫ)(cO:ϣ Ϩ)(nf bH ST pm:ϫ)(an:ϣ Ϩ)(cb:ϫ)(eX:μ (ϣ ϫ)),
 fd=I0 x q (hQ E) (fI E) (bV E) nf bH ST pm an (.Z c) cb/\K.Ϣ f=O ⟨dI,cO,.OQ fd,eX⟩/\IW K (.Z c) q=true
section
variable {K:Frag}{x q:Str}{st:Stmt}{f c T:Addr}{aL:Array Value}{ps:List Str}
theorem zu3 {cO an:ϣ Ϩ}{kA:μ (ϣ ϫ)}{bH C5:ϫ}{oC:Ϩ}(l:K.Ϣ f=O ⟨dI,cO,.OQ (I0 x q (hQ E) (fI E) (bV E) (.Z oC) bH ST pm an (.Z c) cb),eX⟩)(j3:IW K (.Z c) q=true)(k:Tk K (.Z f)=true)(ϻ:K.Ϣ oC=O ⟨C5,C6,.XV aL n,kA⟩)(h:ahY K c T=true):p5 K x q E f aL c T:=⟨dI,cO,bH,ST,pm,an,cb,eX,oC,_,n,l,j3,ϻ,rfl,k,h⟩
theorem p5.dU (h:p5 K x q E f aL c T):Tk K (.Z f)=true:=by cases h;assumption
theorem p5.ch (h:p5 K x q E f aL c T):∃c,ahY K c T=true:=by cases h;exact⟨c,by assumption⟩
theorem p5.b (h:p5 K x q E f aL c T)(b:∀(T:Ϩ) (bH ST pm:ϫ) (an:ϣ Ϩ) (Ë cb:ϫ) (us:Y ϫ),(us++[]).N=ps.N->∃k:ϣ (μ ϫ)->Sem (Y (ϕ×ϫ)),
   Ho (I0 x q (hQ E) (fI E) (bV E) (.Z T) bH ST pm an Ë cb) ⟨us,[]⟩=(ć (.Z T)>>=k)/\k (O aL)=Ă (ps.OU (us++[]))):JE K x q E f c T ps:=by
 obtain⟨dI,cO,bH,ST,pm,an,cb,eX,oC,jm,n,l,j3,cP,hd,k,h⟩:=h;refine⟨_,λs us KX aw=>?_,h,dI,cO,.Z oC,bH,ST,pm,an,cb,eX,rfl,l,j3⟩;obtain⟨k,g,ah⟩:=b oC bH ST pm an (.Z c) cb us aw;exact .of_defaults (k:=k) rfl (KX _ _ cP) hd g ah
end
end L2
variable {mN:PySem.Str->Option PySem.Value}
namespace L2
open PySem PySem.Spec PyProof.Rows
section
variable {prog:Program}{w:World}{K:Type} [DecidableEq K]{knd:HeapKind prog w K}{A:Around}{E:wvP}{s:Shared}
theorem Vl {b:Ϩ}{gm i7:Y (K×Ϩ×ϫ)}{Q:δ->ϐ->Prop}(f:K×Ϩ×ϫ->δ)(aN:(a==Ŋ)=false)(af:(b==Ŋ)=false)(bK:i_.room Ϲ)(ij:s.P.GM i_ a gm)(db:s.P.GM i_ b i7)(hits:∀x∈gm,((∀(j:B)(p:Ϩ×ϫ),i7[j]?≠O (x.1,p))/\f x=false)\/((∃(j:B)(p:Ϩ×ϫ),i7[j]?=O (x.1,p))/\∀(j:B)(p:Ϩ×ϫ),i7[j]?=O (x.1,p)->ĝ.c_ Ϲ s x.2.2 p.2 (f x)))(h:Q (decide (gm.N=i7.N)&&gm.IY f) s):
  ϙ (ώ ϔ w) Ϲ (π.x_.samePairs nm a b) Q ϵ s:=by
 obtain⟨aga,C,cw,zX,_,zY,sX,JF,_⟩:=ij;obtain⟨ob,ec,o9,sA,_,Oo,zZ,JG,nb⟩:=db;have DF:C.Ϥ=gm.N:=F_ sX
 have JH:ec.Ϥ=i7.N:=F_ zZ
 unfold π.x_.samePairs π.x_.alI;rw[aD (show ¬(a==Ŋ)=true by rw[aN];exact δ.γ),aD (show ¬(b==Ŋ)=true by rw[af];exact δ.γ)];refine ax (bp (ax (bp (ax (Ņ zX zY ?_)))));dsimp only
 refine ax (Ņ sA Oo ?_);by_cases Oz:C.Ϥ=ec.Ϥ
 case neg=>
  rw[aS (by simpa using Oz)];rw[Γ (by rwa[<- DF,<- JH]),δ.akx]at h;exact ax (ì (bp h))
 rw[ι (by rwa[<- DF,<- JH]),δ.aj8]at h;have no:∀{y:K×Ϩ×ϫ},y∈gm->f y=false->Q false s:=λ{y} hm e=>by
  have:gm.IY f=false:=by rw[Y.ann];exact⟨y,hm,by rw[e];exact δ.γ⟩
  rw[ν]at h;exact h
 rw[aD (by rw[Oz];simp)];refine ax (T_ zX zY (ax ?_));rw[Std.Legacy.Range.aiC];simp only[Std.Legacy.Range.Ϥ,B.sub_zero,B.add_sub_cancel,B.div_one];refine ah2 _ (λW_ q s'=>s'=s/\q=(none,())/\∃i,W_=range' i (C.Ϥ-i)/\i<=C.Ϥ/\∀y∈gm.ĵ i,f y=true) _ ?_ ?_ _ _ ⟨rfl,rfl,0,by simp,ł _,by simp⟩
 ·rintro x W_ q s' ⟨rfl,rfl,i,aO,aA,al⟩;have cJ:i<C.Ϥ:=(B.anQ i C.Ϥ).Ę id λh=>by rw[B.sub_eq_zero_of_le h]at aO;cases aO
  obtain⟨rfl,BH⟩:x=i/\W_=range' (i+1) (C.Ϥ-(i+1)):=by
   rw[show C.Ϥ-i=(C.Ϥ-(i+1))+1 by omega,Y.ak0]at aO;injection aO with g ah
   exact⟨g,ah⟩
  refine ax (Ņ zX zY ?_);obtain⟨y,aU⟩:∃y,gm[x]?=O y:=⟨_,ϡ ⋯⟩;rw[show C[x]?=O (È i_ y) by rw[alJ sX x,aU];rfl];have hm:y∈gm:=ύ aU
  show ϙ _ _ (Î [(È i_ y).Pj,(È i_ y).val] _>>=_) _ _ _
  rcases hits y hm with⟨ms,BO⟩|⟨⟨vr,zM,z0⟩,eqs⟩
  ·refine ax (Ν (ax (ajk bK (JF y hm) sA Oo zZ JG nb (λ_=>bp ?_) λj p bg=>bJ bg (ms j p))));show ϙ _ _ (if (!false)=true then _ else _) _ _ _
   rw[aS ∅];exact bp (bp (no hm BO))
  ·refine ax (Ν (ax (ajk bK (JF y hm) sA Oo zZ JG nb (λaF=>bJ z0 (aF vr zM)) λj p bg=>?_)));refine ax (Ņ sA Oo ?_);rw[show ec[j]?=O (È i_ (y.1,p)) by rw[alJ zZ j,bg];rfl];refine Ν (eqs j p bg ϔ w _ _ ?_);show ϙ _ _ (if (!(f y))=true then _ else _) _ _ _
   cases e:f y with
   | false=>
    rw[aS ∅];exact bp (bp (no hm e))
   | true=>
    rw[aD ∅];refine ax (T_ zX zY ?_);rw[aD (by simp)];refine bp ⟨rfl,rfl,x+1,BH,cJ,λz hz=>?_⟩;rw[ė,aU]at hz;rcases κ.mp hz with hz|hz
    ·exact al z hz
    ·obtain rfl:=ϖ.mp hz;exact e
 ·rintro q s' ⟨rfl,rfl,i,aO,aA,al⟩;have ei:i=C.Ϥ:=by
   rcases B.anQ i C.Ϥ with z|z
   ·rw[show C.Ϥ-i=(C.Ϥ-(i+1))+1 by omega,Y.ak0]at aO;cases aO
   ·omega
  rw[ei,DF,İ]at al;rw[ù.ļ al]at h;exact bp h
end
theorem JI [akT bE]{Ϝ:Y (bE×V)}{k:bE}(h:aW Ϝ k=none):∀p∈Ϝ,p.1≠k:=by
 induction Ϝ with
 | ń=>intro p ay;cases ay
 | θ q r bB=>
  intro p ay e;by_cases z:q.1=k
  ·rw[jS z]at h;cases h
  ·rw[jT z]at h;rcases ς.mp ay with rfl|ay
   ·exact z e
   ·exact bB h p ay e
def JJ (mO hX:Y (Y Ř×V)):Prop:=mO.N=hX.N/\∀p∈mO,aW hX p.1=O p.2
def DG (neg:δ):gw:=λx y H Q=>∃a b mO hX,x=.Z a/\y=.Z b/\H a=O (.bQ mO)/\H b=O (.bQ hX)/\(∀p∈mO,∃i,p.2=.M i)/\(∀p∈hX,∃i,p.2=.M i)/\∀r:δ,(r=true↔JJ mO hX)->Q (.bl (if neg then !r else r)) H
open Classical in
theorem Vm (I:Υ X ϩ J H s)(bK:X.Ϲ.õ+64+1<ä){mO hX:Y (Y Ř×V)}{gm i7:Y (Y Ř×Ϩ×ϫ)}{b:Ϩ}{i_:HeapKind X.ϔ X.w (Y Ř)}(lI:KT H mO gm)(mv:KT H hX i7)(db:s.P.GM i_ b i7)(gj:∀p∈mO,∃i,p.2=.M i)(gC:∀p∈hX,∃i,p.2=.M i):
  ∃f:Y Ř×Ϩ×ϫ->δ,(gm.IY f=true↔∀p∈mO,aW hX p.1=O p.2)/\∀x∈gm,((∀(j:B)(p:Ϩ×ϫ),i7[j]?≠O (x.1,p))/\f x=false)\/((∃(j:B)(p:Ϩ×ϫ),i7[j]?=O (x.1,p))/\∀(j:B)(p:Ϩ×ϫ),i7[j]?=O (x.1,p)->ĝ.c_ X.Ϲ.jp s x.2.2 p.2 (f x)):=by
 refine⟨λx=>decide (∃i t,x.2.2=.M i t/\aW hX x.1=O (.M i)),?_,λx ai=>?_⟩
 ·rw[ù];constructor
  ·intro h p ay;obtain⟨i,aA⟩:=Ŏ ay;obtain⟨x,ai,au,_,bY⟩:=ϋ.lM lI aA;obtain⟨n,t,g,ah⟩:=ð (h x (ύ ai));obtain⟨m,em⟩:=gj p ay;rw[em]at bY ⊢;obtain⟨t',dN⟩:=bY;rw[g]at dN;cases dN;rwa[au]
  ·intro h x ai;obtain⟨i,aA⟩:=Ŏ ai;obtain⟨p,ay,au,_,bY⟩:=ϋ.Ph lI aA;have hm:=ύ ay
   obtain⟨m,em⟩:=gj p hm;have aG:=h p hm
   rw[em]at bY aG;obtain⟨t',dN⟩:=bY;exact ι ⟨m,t',dN,by rwa[<- au]⟩
 ·obtain⟨i,aA⟩:=Ŏ ai;obtain⟨p,ay,au,_,bY⟩:=ϋ.Ph lI aA;obtain⟨m,em⟩:=gj p (ύ ay);rw[em]at bY;obtain⟨t1,dN⟩:=bY;cases aG:aW hX x.1 with
  | none=>
   refine .ε ⟨λj q ao=>?_,Γ λ⟨_,_,_,z⟩=>by rw[aG]at z;cases z⟩;obtain⟨y,aU,f1,_,_⟩:=ϋ.Ph mv ao;have f1:y.1=x.1:=f1
   have:=JI aG y (ύ aU)
   exact ν f1
  | O v=>
   obtain⟨vr,z0⟩:=CK aG;obtain⟨n,cy⟩:=gC _ (ύ z0);have cy:v=.M n:=cy
   subst cy;obtain⟨⟨a3,b9⟩,ao,f1,_,dv⟩:=ϋ.lM mv z0;have f1:x.1=a3:=f1
   subst f1;obtain⟨fT,f4⟩:=dv;refine .Œ ⟨⟨vr,b9,ao⟩,λj r aO=>?_⟩;obtain⟨_,_,_,_,_,_,_,_,nd⟩:=db;have kU:j=vr:=by
    have a1:(i7.ϒ (·.1))[j]?=O x.1:=by rw[Ϙ,aO];rfl
    have a2:(i7.ϒ (·.1))[vr]?=O x.1:=by rw[Ϙ,ao];rfl
    exact(Y.getElem?_inj (Y.Ϧ.mp a1).1 nd).mp (a1.Ϛ a2.symm)
   subst kU;rw[ao]at aO;cases aO;have f4:b9.2=.M n fT:=f4
   rw[f4];have k:=ϟ.W.keq_at (Ϲ:=X.Ϲ) (s:=s) (aly.M (h:=s.P) m t1) (aly.M (h:=s.P) n fT) rfl rfl bK
   have iC:decide (∃i t,ϫ.M m t1=ϫ.M i t/\O (V.M n)=O (V.M i))=Ŀ.Bo (.M m) (.M n):=by
    by_cases z:m=n
    ·subst z;rw[ι ⟨m,t1,rfl,rfl⟩];exact(akK m).symm
    ·rw[Γ λ⟨i,t,a1,a2⟩=>by cases a1;cases a2;exact z rfl];exact(ĺ.ļ z).symm
   rw[dN];show ĝ.c_ X.Ϲ.jp s (ϫ.M m t1) (ϫ.M n fT) (decide (∃i t,x.2.2=ϫ.M i t/\aW hX x.1=O (V.M i)))
   rwa[show decide (∃i t,x.2.2=ϫ.M i t/\aW hX x.1=O (V.M i))=decide (∃i t,ϫ.M m t1=ϫ.M i t/\O (V.M n)=O (V.M i)) by rw[dN,aG],iC]
section
variable {X:Cx}(bK:X.A.units+64+1<cLine)
include bK
theorem Vn:eo X (ų .NotEq) (DG true):=by
 intro ϩ s J H x y v u Q I bc bu h;obtain⟨a,b,mO,hX,rfl,rfl,a6,eb,gj,gC,q⟩:=h;cases bc;cases bu;obtain⟨_,aN,gm,lI,ij⟩:=sv I.a9 a6;obtain⟨_,af,i7,mv,db⟩:=sv I.a9 eb;obtain⟨f,f1,f2⟩:=Vm I bK lI mv db gj gC;refine wpAny_richCompare_same_room (op:=.NotEq) ij.Ÿ db.Ÿ ϟ.ϴ.ano (Ż ϟ.ϴ.ano ij.Ÿ ϟ.ϴ.entry_dict_ne ?_ (ϟ.ϴ.args_dict_ne_2 _ _)) ⋯;show ϙ _ _ (π.x_.anp "__ne__" ⟨[.Z a,.Z b],[]⟩>>=_) _ _ s
 unfold π.x_.anp;refine ax (ax (S_ ij.Ÿ (show ϙ _ _ (Ă (ϫ.Z a,ϫ.Z b)) _ _ s from bp (ax (u8 (T:="dict") db.Ÿ ϟ.ϴ.sub_dict_dict ?_)))));simp only[δ.not_true,Ď,Ü];refine ax (bp (ax (bp (ax (Vl f aN af (ÿ ⋯) ij db f2 (bp ⟨_,rfl,λx=>(nomatch x),?_⟩))))));refine eJ I (q (decide (gm.N=i7.N)&&gm.IY f) ?_) (by cases (decide (gm.N=i7.N)&&gm.IY f)<;>rfl);rw[Ŵ,f1,V_,<- ϋ.N lI,<- ϋ.N mv];exact Iff.rfl
end
def zkb (t:TE):TE:=λJ H Q=>∃a Ϝ,H a=O (.bQ Ϝ)/\t J H λv U=>(∃o,U a=O (.cW o (.bQ Ϝ)))/\Q v (ſ U a (.bQ Ϝ))
theorem Vo {t:TE}(h:PE X e t):PE X e (zkb t):=by
 intro ϩ s J H Q I ⟨a,Ϝ,bq,q⟩;refine bA (h ϩ s J H _ I q) λu s' ⟨v,U,eU,ck,⟨o,z⟩,ϻ⟩=>⟨v,_,eU.q8 z (λo w y=>?_),ck,ϻ⟩;have:=I.ϊ.gG a o w y
 rw[bq]at ν;cases ν
theorem Vp {o:ğ}(Pv:B->Y V->ag->Prop)(h0:Pv 0 [] H)(aw:∀i ys H,i<=Ϝ.N->Pv i ys H->H a=O (.cW o (.bQ Ϝ)))(aH:∀i k v b ys H,Ϝ[i]?=O (k,v)->H b=O (.Ţ (k.ϒ bH))->Pv i ys H->tt (O (.Z b)::cs) H λr bw=>if r=true then bT (O (.Z b)::cs) bw λy cK=>ys.N<=ϓ/\Pv (i+1) (ys++[y]) cK else Pv (i+1) ys bw)(hd:∀ys H,Pv Ϝ.N ys H->ys.N<=ϓ/\ϴ ys H):∃W:B->B->Y V->ag->Prop,(∃m,W 0 m [] H)/\mr (og a o Ϝ) (hN 0) tt bT (none::cs) W ϴ:=by
 refine⟨λi m ys H=>m=Ϝ.N-i/\i<=Ϝ.N/\Pv i ys H,⟨_,rfl,ł _,h0⟩,λi m ys H ⟨hm,aA,p⟩=>?_⟩;subst hm;by_cases cJ:i<Ϝ.N
 ·refine .Œ ⟨⟨aw i ys H aA p,cJ⟩,Pv (i+1),λi0 U h=>⟨Ϝ.N-(i+1),⋯,rfl,cJ,h⟩,λy U oc=>?_⟩;obtain⟨e,b,k,v,au,az,bY⟩:=oc;subst e au;exact⟨zc,aH i k v b ys _ az bY p⟩
 ·obtain rfl:i=Ϝ.N:=⋯;exact .ε ⟨⟨aw _ ys H (B.ϑ _) p,B.ϑ _⟩,(hd ys H p).1,(hd ys H p).2⟩
section
variable {prog:Program}{w:World}{A:Around}{E:wvP}{s:Shared}
open AutoSeq1 (wpAny_loadPart') in
theorem Vq {I:Ϩ}(bj:Ϲ.Ē=none)(SZ:s.P.adr I l ((ž.Ϥ:G)-1))(aw:s.P.Ò l ž)(ia:l≠I)(aF:ž.Ϥ<=ϓ)(d6:∀s' wv,Moved [I] (λa b=>b=a) s s'->aln (λi v=>ž[ž.Ϥ-1-i]?=O v) wv ž.Ϥ->Q (.Z s'.P.Ϡ.Ϥ) { s' with P:=s'.P.Ũ { Ŝ:=.χ "tuple",Φ:=.XV wv } }):ϙ (ώ ϔ w) Ϲ (WP (.χ "tuple") [.Z I]) Q ϵ s:=by
 refine ai1 (Q₁:=λOy eg=>eg.Q_ Oy "tuple"/\Q Oy eg) ϴ.akd (ϴ.typeCall_tuple_1 _) ϴ.entry_object_init (ale ?_) λOy eg gp=>⟨gp.1,ϴ.ajQ Oy _,object_init_meets ϴ.akd.init.Ϣ ϴ.akd.made ∅ ϔ w Ϲ.jp _ eg ⟨gp.1,rfl,gp.2⟩⟩;show ϙ _ Ϲ.jp.jp (do akN "tuple.__new__" ⟨[.χ "tuple",.Z I],[]⟩;amD (.ο "tuple.__new__" ⟨[.χ "tuple",.Z I],[]⟩)) _ _ s
 refine ax (nw (ϴ.newCall_tuple_1 _) (bp ⟨Ś ϴ.alf _,Ů ϴ.entry_tuple_new ?_⟩));rw[ŕ.Ľ ϴ.alf _];have Uk:=sub_tuple_self
 have agb:=init_tuple_lookup
 have agc:=madeHere_tuple
 have j1:=SZ.Ÿ
 wp_walk using LT j1,Rv (Ϲ:=Ϲ.jp.jp) (show Ϲ.jp.jp.Ē=none from bj) SZ aw ia aF
 intro s' wv hm kP;show ϙ _ _ (π.w_.aih wv.Ω.ϗ>>=λv=>b8 v) _ _ _
 unfold π.w_.aih;refine ax (Š (bp ?_) (by show wv.Ω.ϗ.Ϥ<=ϓ;simp only[μ.toArray_toList];rwa[kP.1]));rw[show wv.Ω.ϗ=wv by simp];exact⟨⟨_,σ _ rfl,rfl⟩,d6 s' wv hm kP⟩
end
section
variable {X:Cx}
def zds (K:ş)(bT:TE):TE:=λJ H Q=>bT J H λy H1=>∃l F,y=.Z l/\aM K H1 l F/\∀p,H1 p=none->Q (.Z p) (ſ H1 p (.Ţ F.Ĭ))
theorem Vr {np p1 rD:Ox}(ak:X.R_=true)(bF:fb X "reversed")(hm:X.mg "reversed"=none)(ru:fb X "tuple")(z1:X.mg "tuple"=none)(he:PE X e bT)(aH:Ϫ (ω [.č (.ĸ "reversed" np) [e] [] p1] X.ό=[(false,ŗ (.č (.ĸ "reversed" np) [e] [] p1) X.ό)]) dA._auto_1)(rE:Ϫ (ω [e] X.ό=[(false,ŗ e X.ό)]) dA._auto_1):
  PE X (.č (.ĸ "tuple" rD) [.č (.ĸ "reversed" np) [e] [] p1] [] ŷ) (zds X.K bT):=by
 intro ϩ s J H Q I h;refine OA (iU I ru z1 PyProof.Rows.Boot.«tuple» (Ĥ.KK.Į ?_ aH rfl));rw[aH];refine ê.Ì (OA (iU I bF hm PyProof.Rows.Boot.«reversed» (Ĥ.KK.Į ?_ rE rfl)));rw[rE];refine ê.Ì (bA (he ϩ s J H _ I h) λCf s2 ⟨y,aC,bt,bu,b9⟩=>ê.PP ?_);obtain⟨l,F,rfl,ao,q⟩:=b9;cases bu;obtain⟨aL,ck,pl,hz⟩:=bt.ö ao;obtain⟨o,kv,_⟩:=id pl.Ń;refine ajR pl.Ń (ê.PP ?_);have vp:aL.ϗ.Ϥ<=ϓ:=by rwa[ζ,<- ck.N]
 refine Vq (bt.ok.hd ak) ⟨_,σ _ rfl,rfl,rfl⟩ (pl.Ń.at λo e=>ϥ _ e) (Ι (τ kv)) vp λs' wv DH kP=>?_;obtain⟨Oz,DI⟩:=HA kP;have a6:wv.Ω=aL.Ĭ:=by
  refine Y.akb λj=>?_;rw[μ.aiw];by_cases bg:j<aL.N
  ·cases e:wv[j]? with
   | none=>exact bJ (μ.getElem?_eq_none_iff.mp e) (by rw[Oz,ζ];omega)
   | O v=>
    have:=DI j v e
    rw[Y.s_ bg];simpa using ν.symm
  ·rw[μ.K_ (by rw[Oz,ζ];omega),Y.K_ (by rw[Ú];omega)]
 obtain⟨Vs,mg,Vt,mo,aip⟩:=DH;obtain⟨bj,Vu,dd,tt,lV⟩:=s';obtain rfl:lV=s2.os:=mo;obtain rfl:Vu=s2.Ot:=mg;obtain rfl:dd=s2.als:=Vt;have up:∀b ob,s2.P.ϛ b=O ob->bj.ϛ b=O ob:=λb ob e=>Vs b ob (λz=>by
  have cJ:=τ e
  rw[ϖ.mp z]at cJ;exact B.ť _ cJ) (ϥ _ e)
 have dc:Υ X ϩ J aC { s2 with P:=bj,Χ:=tt }:=bt.XL up
 exact⟨.Z bj.Ϡ.Ϥ,_,dc.HV (o:=.Ţ F.Ĭ) (t':=tt) (λb u e=>ϥ _ e) (B.ϑ _) ⟨by rwa[Ú],aL.Ĭ,ck.Ĭ,⟨_,σ _ rfl,rfl,0,by rw[<- a6]⟩⟩,rfl,q _ (dc.a9.Ĳ (B.ϑ _))⟩
theorem Vv {Q:ϣ ϫ->ϐ->Prop}(bj:fo Ϲ s.P)(SZ:s.P.adr it l (-1))(d6:∀h',Θ.I2 it s.P h'->Q none { s with P:=h' }):ϙ (ώ ϔ w) Ϲ (Ħ (.Z it)) Q ϵ s:=by
 obtain⟨o,av,ak,hd⟩:=id SZ;unfold Ħ;refine ax (ď (Ψ (name:=ϕ.ϝ "__next__") SZ.Ÿ ϴ.amv (Ż ϴ.amv SZ.Ÿ ϴ.entry_lri_next ?_ (ϴ.args_lri_next_1 _))));unfold Builtin.«list_reverseiterator.__next__»;refine ax (nw (a:=(ϫ.Z it,[])) rfl (ax (Ξ av hd (x:=đ (-1)) rfl ?_)));show ϙ _ _ (if (-1:G)<0 then _ else _) _ _ s
 rw[aS ∅];refine ax (ì ?_);refine ax ?_;refine nV bj λh' e k1 k2=>?_;exact m3 k2 (d6 h' λb o _ z=>k1 b o z)
def vt (K:ş)(a:Ϩ)(n:B):g7:=
 ⟨λi H=>i<n/\∃F,aM K H a F/\F.N=n,λi H x U=>U=H/\∀F,aM K H a F->F[n-1-i]?=O x,λi H=>i=n⟩
theorem Vw (a it:Ϩ)(n:B):Bm Ϯ w K c5 (vt K a n) [it] it (λi h=>h.adr it a ((n:G)-1-(i:B))) where
 OO:=ϖ.ļ rfl
 Oy:=λi h E b af=>by
  obtain rfl:=ϖ.mp af;obtain⟨o,e,c,ϻ⟩:=E;exact⟨o,e,λv z=>by rw[ϻ]at z;cases z⟩
 ĭ:=λi h h' E k=>E.at λo e=>k it (ϖ.ļ rfl) o e
 Ov:=by
  intro X dk hw c9 ak i ϩ s J H ϵ I hf E ⟨aA,F,ao,aF⟩;subst dk hw c9 aF;obtain⟨aL,ck,p,hz⟩:=I.ö ao;have ai:F[F.N-1-i]?=O (F[F.N-1-i]'⋯):=ϡ ⋯
  obtain⟨u,bK,fh⟩:=ck.O4 ai;obtain⟨f0,f1,f2,dv,f4,dP⟩:=hf it (ϖ.ļ rfl);rw[show(F.N:G)-1-(i:B)=((F.N-1-i:B):G) by omega]at E;refine wpAny_pyNext_rev_item E p.Ń (x:=u) (by simpa using bK) λh' f6 kC=>?_;have aK:Υ X ϩ J H { s with P:=h' }:=I.Á (t':=s.Χ) (λb o af e=>(kC.2 b af).Ϛ e) f0 f1 dv f4 dP
  obtain⟨o,e,c,ϻ⟩:=id f6;rw[show((F.N-1-i:B):G)-1=(F.N:G)-1-((i+1:B):G) by omega]at f6;exact⟨u,rfl,sk (s:={ s with P:=h' }) e c ϻ ∅ ⟨_,H,aK,fh,⟨rfl,λys aU=>by rwa[I.t6 aU ao]⟩,f6,λb af=>(hf b af).1⟩⟩
 done:=by
  intro X dk hw c9 ak i ϩ s J H ϵ I hf E aA;subst dk hw c9;obtain rfl:i=n:=aA;obtain⟨f0,f1,f2,dv,f4,dP⟩:=hf it (ϖ.ļ rfl);rw[show(i:G)-1-(i:B)=-1 by omega]at E;exact Vv (I.R_ ak) E λh' eb=>⟨rfl,I.Á (t':=s.Χ) (λb o af e=>eb b o af e) f0 f1 dv f4 dP⟩
 self:=λ_ _ _ _ _ E h=>lw E h
def DJ (K:ş)(e3:TE):TI:=λJ H R=>e3 J H λx H1=>∃a F,x=.Z a/\aM K H1 a F/\R (vt K a F.N) H1
theorem Vx {l:Ġ}{np p1:Ox}(bF:fb X "reversed")(hm:X.mg "reversed"=none)(aw:PE X l e3)(rE:Ϫ (ω [l] X.ό=[(false,ŗ l X.ό)]) dA._auto_1):PI X c5 (.č (.ĸ "reversed" np) [l] [] p1) (DJ X.K e3):=by
 intro ϩ s J H R I h;refine OA (iU I bF hm PyProof.Rows.Boot.«reversed» (Ĥ.KK.Į ?_ rE rfl));rw[rE];refine ê.Ì (bA (aw ϩ s J H _ I h) λCf s2 ⟨y,aC,bt,bu,b9⟩=>ê.PP ?_);obtain⟨a,F,rfl,ao,q⟩:=b9;cases bu;obtain⟨aL,ck,pl,hz⟩:=bt.ö ao;refine ajR pl.Ń ?_;have SZ:(s2.P.Ũ (revObj a ((aL.ϗ.Ϥ:G)-1))).adr s2.P.Ϡ.Ϥ a ((aL.ϗ.Ϥ:G)-1):=⟨_,σ _ rfl,rfl,rfl⟩
 refine lw SZ ?_;refine⟨s2.P.Ϡ.Ϥ,[s2.P.Ϡ.Ϥ],_,_,aC,rfl,bt.XL (t':=s2.Χ) λb o e=>ϥ _ e,Vw a _ F.N,?_,λb af=>?_,q⟩
 ·rw[ck.N,show(aL.N:G)-1-((0:B):G)=(aL.ϗ.Ϥ:G)-1 by rw[ζ];omega];exact SZ
 ·obtain rfl:=ϖ.mp af;exact bt.mb (B.ϑ _) (bt.a9.Ĳ (B.ϑ _))
theorem Vy {Ϻ:fq}(Pv:B->St->ag->Prop)(h0:Pv 0 J H)(aw:∀i J H,i<=F.N->Pv i J H->aM K H a F)(aH:∀i x J H (ϰ:St->ag->Prop),i<F.N->F[F.N-1-i]?=O x->Pv i J H->(∀a7 U,Pv (i+1) a7 U->ϰ a7 U)->Ϻ x J H λdm aC=>a4 { ϶ with aP:=ϰ,cb:=ϰ,bf:=϶.aP } dm aC)(hd:∀J H,Pv F.N J H->϶.aP J H):
  ∃W:B->B->St->ag->Prop,(∃m,W 0 m J H)/\∀i m J H,W i m J H->
   ((vt K a F.N).stop i H/\϶.aP J H)\/((vt K a F.N).go i H/\∃ϰ:St->ag->Prop,(∀a7 U,ϰ a7 U->∃ba,ba<m/\W (i+1) ba a7 U)/\∀x U,(vt K a F.N).fR i H x U->Ϻ x J U λdm aC=>a4 { ϶ with aP:=ϰ,cb:=ϰ,bf:=϶.aP } dm aC):=by
 refine⟨λi m J H=>i<=F.N/\m=F.N-i/\Pv i J H,⟨_,ł _,rfl,h0⟩,λi m J H ⟨aA,hm,p⟩=>?_⟩;by_cases e:i=F.N
 ·subst e;exact .ε ⟨rfl,hd J H p⟩
 ·refine .Œ ⟨⟨⋯,F,aw i J H aA p,rfl⟩,Pv (i+1),λa7 U q=>⟨F.N-(i+1),⋯,⋯,rfl,q⟩,λx U ⟨au,az⟩=>?_⟩;subst au;exact aH i x J U _ ⋯ (az F (aw i J U aA p)) p λ_ _ z=>z
end
section
variable {prog:Program}{w:World}{A:Around}{E:wvP}{h:Heap}{g:Array GenState}{d:Drawn}{t:Nat}{os:OsState}
variable {nm q:Str}{C N:Addr}{bs bm z2:List Value}{hdct:Bool}{sn:List Str}{sub:List Value}{ab:Bool}{col:Option Bool}{dd:Option Addr}{k0 k1 k2 k3 k5:Option Value}{B newId JK:String}
theorem Vz (ϴ:anq ϸ anG JK z2)(T:OwnTail h z2 bm){W_:Y ϫ}{rF:Ϩ}{nj:ğ}{Q:ϟ.Fin->ϐ->Prop}(hC:h.ϛ Ϸ=O (ak2 nm q Ϸ ϰ bs bm hdct sn Pd ab col dd k0 k1 k2 k3 k5 anG))(aF:h.Ns ϰ mN)(aA:mN "__init__"=O (.Z rF))(vu:h.ϛ rF=O nj)(DK:nj.Ŝ=.χ "function")(hz:W_.N<=ϓ)(ao:∀h' e,h.Ϡ.Ϥ<=e->Θ.amO h h' e (.Z Ϸ) W_->ϙ (ώ ϔ w) Ϲ (WP (.Z rF) (.Z e::W_)) (λr s'=>r=.none/\Q (.done (.b8 (.Z e))) s') ϵ ⟨h',Ϻ,ϻ,t,os⟩):
  ϙ (ώ ϔ w) Ϲ (Builtin.«type.__call__» ⟨.Z Ϸ::W_,[]⟩) Q ϵ ⟨h,Ϻ,ϻ,t,os⟩:=by
 repeat (first|with_reducible refine SL hC ?_|with_reducible refine wpAny_madeBy_exc hC ?_|wp_step)
 refine codeAny_call_builtin_code (OP.ajy _ ϴ.quiet) (wpAny_check_new_subT ϴ T hC (codeAny_exc_new_subT ϴ T hC ?_ hz));show ϙ _ _ _ _ _ _
 have up:∀b o,h.ϛ b=O o->((h.Ũ { Ŝ:=.χ "tuple",Φ:=.XV W_.ϗ }).Ũ { Ŝ:=.Z Ϸ,Φ:=.Ž #[.Z h.Ϡ.Ϥ,.none,.none,.none,.Ã false,.none] }).ϛ b=O o:=λb o e=>ϥ _ (ϥ _ e)
 have JL:=up _ _ hC
 have VA:=up _ _ vu
 have VB:=aF.å up
 have VC:=T.å up
 have ce:((h.Ũ { Ŝ:=.χ "tuple",Φ:=.XV W_.ϗ }).Ũ { Ŝ:=.Z Ϸ,Φ:=.Ž #[.Z h.Ϡ.Ϥ,.none,.none,.none,.Ã false,.none] }).ϛ (h.Ϡ.Ϥ+1)=O { Ŝ:=.Z Ϸ,Φ:=.Ž #[.Z h.Ϡ.Ϥ,.none,.none,.none,.Ã false,.none] }:=by heap_get
 have VD:(ϫ.Z Ϸ::bm).Rh (.Z Ϸ)=true:=by simp
 unfold ajF;repeat (first|with_reducible refine SL ce ?_|(with_reducible refine ajl JL ?_;rw[VD])|wp_step)
 show ϙ _ _ (u_ (.Z Ϸ) _) _ _ _
 refine wpAny_typeLookup_tail JL VB VC ϴ.mroIs ϴ.init.Ϣ ?_;rw[aA];refine Ν (ax ?_);unfold bindSpecial;refine ax (LT (T:="function") ⟨_,VA,DK⟩ ?_);rw[aS ∅];refine bp (ax (ů (ao _ (h.Ϡ.Ϥ+1) (am5 _) ⟨up,Θ.h_ (am5 _),h.Ϡ.Ϥ,ce,Θ.h_ (B.ϑ _),ϥ _ (Θ.anr rfl rfl)⟩) (λr s' aO=>?_) λ_ _ x=>x));obtain⟨rfl,d6⟩:=aO;wp_walk
 exact d6
theorem VE (ϴ:anq ϸ anG JK z2)(T:OwnTail h z2 bm){W_:Y ϫ}{rF:Ϩ}{nj:ğ}(hC:h.ϛ Ϸ=O (ak2 nm q Ϸ ϰ bs bm hdct sn Pd ab col dd k0 k1 k2 k3 k5 anG))(aF:h.Ns ϰ mN)(aA:mN "__init__"=O (.Z rF))(vu:h.ϛ rF=O nj)(DK:nj.Ŝ=.χ "function")(hz:W_.N<=ϓ)(ao:∀h' e,h.Ϡ.Ϥ<=e->Θ.amO h h' e (.Z Ϸ) W_->ϙ (ώ ϔ w) (Ϲ.OT (.ο "type.__call__" ⟨.Z Ϸ::W_,[]⟩)) (WP (.Z rF) (.Z e::W_)) (λr s'=>r=.none/\Q (.Z e) s') ϵ ⟨h',Ϻ,ϻ,t,os⟩):
  ϙ (ώ ϔ w) Ϲ (WP (.Z Ϸ) W_) Q ϵ ⟨h,Ϻ,ϻ,t,os⟩:=by
 have f1:=tc_lookup
 have f2:=tc_bind (.Z Ϸ)
 have HX:(⟨h,Ϻ,ϻ,t,os⟩:ϐ).Q_ (.Z Ϸ) "type":=⟨_,hC,rfl⟩
 refine v_ (ale ?_);show ϙ _ _ (callAny (.Z Ϸ) _) _ _ _
 repeat (any_goals (first|assumption|with_reducible refine SL hC ?_|wp_step))
 exact⟨rfl,codeAny_call_builtin_at (OP.ajy _ ∅) entry_typeCall (wpAny_check_type_call_sub hC (Vz ϴ T hC aF aA vu DK hz λh' e he hm=>ao h' e he hm))⟩
end
section
open PySem.W
variable {prog:Program}{w:World}{A:Around}{E:wvP}{s:Shared}{K:Frag}{x C:Addr}
def DL:ϫ->δ
 | .Z _=>true
 | _=>false
def rG (l:Y ϫ):δ:=l.dropWhile DL==sG
theorem VF (self:ϫ):alV self "__setattr__" sG=Ă ():=by kernel_rfl
theorem JM {Ϯ:Y ϫ->Prop}(h0:Ϯ sG)(g:∀c r,Ϯ r->Ϯ (.Z c::r)):∀{l:Y ϫ},rG l=true->Ϯ l:=by
 intro l;induction l with
 | ń=>intro e;cases e
 | θ v r bB=>
  intro e;by_cases aG:DL v=true
  ·cases v with
   | Z c=>exact g c r (bB e)
   | _=>cases aG
  ·have z:(v::r).dropWhile DL=sG:=Ā.mp e
   rw[Y.dropWhile_cons_of_neg aG]at z;rwa[z]
theorem VG (self:ϫ):∀{l:Y ϫ},rG l=true->alV self "__setattr__" l=Ă ():=JM (Ϯ:=λl=>alV self "__setattr__" l=Ă ()) (VF self) λc r h=>by rwa[refuseLoop_ref]
theorem VH:∀{l:Y ϫ},rG l=true->l.Rh (.χ "object")=true:=JM (Ϯ:=λl=>l.Rh (.χ "object")=true) rfl λc r h=>by rw[Y.amw,h,δ.or_true]
theorem VI {v:ϫ}{Q:O7->ϐ->Prop}{aJ:μ ϫ}(X:K.In s.P)(I:InstAt s.P x ⟨.Z Ϸ,none,.Ž aJ,a0⟩ Ϸ none)(aH:ü K (.Z Ϸ) "__setattr__"=O (O (.ο "object.__setattr__")))(ay:(OD K Ϸ).J_ (λcd=>rG cd.Pc)=true)(bk:ü K (.Z Ϸ) name=O none)(bj:(OD K Ϸ).J_ (·.aj2)=true)(h:∀h' tk,h'.ϛ x=O ⟨.Z Ϸ,O s.P.Ϡ.Ϥ,.Ž aJ,a0⟩->h'.Ns1 s.P.Ϡ.Ϥ (λy=>if y=name then O v else none)->(∀b o,b≠x->s.P.ϛ b=O o->h'.ϛ b=O o)->Q () { s with P:=h',Χ:=tk }):
  ϙ (ώ ϔ w) Ϲ (setAttr (.Z x) name v) Q ϵ s:=by
 refine set_plain X I aH ?_;have vv:=ϟ.ϴ.store_object
 obtain⟨cd,ak,av⟩:=anJ ay;obtain⟨VJ,hL,VK⟩:=anJ bj;obtain rfl:cd=VJ:=ϣ.O.W1 (ak.symm.Ϛ hL);have ne:cd.Pc.Í=false:=by cases q:cd.Pc with|ń=>rw[q]at av;cases av|θ _ _=>rfl
 have s1:Looks (ώ ϔ w) s.P (ajF (.Z x) (.χ "object")) true:=I.χ.andThen (looks_mroIn X (by unfold mroIn;rw[ak,ϣ.bind_some,aD (by rw[ne];decide),VH av]))
 refine ai_ vv.If.plain vv.entry (@check_slot (ώ ϔ w) _ _ { s with Χ:=s.Χ+1 } "object.__setattr__" "object" "__setattr__" (.Z x) [.str name s.Χ,v] [] _ vv.î vv.split s1 (vv.args (.Z x) (.str name s.Χ) v) ?_);have hm:Looks (ώ ϔ w) s.P (mroOf (.Z Ϸ)) cd.Pc:=(akV X ak).andThen .now
 rw[osa_eq,refuse_eq];refine ax (ax (I.χ.here (s:={ s with Χ:=s.Χ+1 }) (ax (hm.here (s:={ s with Χ:=s.Χ+1 }) ?_))));rw[VG _ av];refine bp (ax (I.χ.here (s:={ s with Χ:=s.Χ+1 }) (ax ((ang X bk).here (s:={ s with Χ:=s.Χ+1 }) (ax (bp ?_))))));obtain⟨ai,gc,zK,_⟩:=id I;have JN:x≠s.P.Ϡ.Ϥ:=Ι (τ ai)
 refine ax (bp (ax (ax (alZ ai (ax ((akV X ak).here (s:={ s with Χ:=s.Χ+1 }) ?_))))));rw[VK];have JO:(s.P.Ũ { Ŝ:=.χ "dict",Φ:=.ï #[] }).ϛ x=O ⟨.Z Ϸ,none,.Ž aJ,a0⟩:=ϥ _ ai
 refine ax (m:=alloc { Ŝ:=.χ "dict",Φ:=.ï #[] }) (wpAny_alloc (ax (ana JO (bp ?_))));have Iq:((s.P.Ũ { Ŝ:=.χ "dict",Φ:=.ï #[] }).ý x λo=>{ Ŝ:=o.Ŝ,ï:=O s.P.Ϡ.Ϥ,Φ:=o.Φ,ē:=o.ē }).ϛ s.P.Ϡ.Ϥ=O { Ŝ:=.χ "dict",Φ:=.ï #[] }:=(Θ.al9 _ _ _ _ JN.symm).Ϛ (Θ.anr rfl rfl)
 have nd:((s.P.Ũ { Ŝ:=.χ "dict",Φ:=.ï #[] }).ý x λo=>{ Ŝ:=o.Ŝ,ï:=O s.P.Ϡ.Ϥ,Φ:=o.Φ,ē:=o.ē }).Ns s.P.Ϡ.Ϥ (λ_=>none):=⟨_,#[],_,Iq,rfl,λe he=>bJ he (by simp),λ_=>rfl⟩
 show ϙ _ _ (π.alW.storeInDict s.P.Ϡ.Ϥ (.str name s.Χ) name v) _ _ _
 unfold π.alW.storeInDict π.alW.newKeyGuard;refine ax (bp (ax (anf (Θ.Ns1.of_empty nd) λh' cz b1=>?_)));obtain⟨Pu,Pw,Px,cI,cE,sW⟩:=cz.count (alA.θ name v alA.ń);refine ax (akD cI (by rw[cE];exact akE (B.Ķ sW (by rw[ŵ,Ċ,ρ];omega))) ?_);refine bp (h h' _ ((b1.2 x JN).Ϛ (š _ JO rfl)) cz λb o s7 e=>?_);exact(b1.2 b (Ι (τ e))).Ϛ ((Θ.al9 _ _ _ _ s7).Ϛ (ϥ _ e))
end
def i8 (x Ϸ:Ϩ)(ϻ:ϣ Ϩ)(aJ:μ ϫ)(a0:μ (ϣ ϫ)):Θ->Prop:=λh=>h.ϛ x=O ⟨.Z Ϸ,ϻ,.Ž aJ,a0⟩
theorem JP {h:Θ}{x:Ϩ}{ϻ:ϣ Ϩ}{aJ:μ ϫ}(e:h.ϛ x=O ⟨.Z Ϸ,ϻ,.Ž aJ,a0⟩):dG Ϯ w H h x (.ext (i8 x Ϸ ϻ aJ a0)):=
 ⟨e,⟨_,e⟩,λg ah au k=>k _ au⟩
structure VL (K:ş)(Ϸ:Ϩ):Prop where
 Bu:ü K (.Z Ϸ) "__setattr__"=O (O (.ο "object.__setattr__"))
 Pc:(OD K Ϸ).J_ (λcd=>rG cd.Pc)=true
 ï:(OD K Ϸ).J_ (·.aj2)=true
def DM (K:ş)(bo fy:TE)(f:ϕ):dn:=λ϶ J H=>fy J H λv H1=>bo J H1 λx aC=>∃a Ϸ aJ a0,x=.Z a/\aC a=O (.ext (i8 a Ϸ none aJ a0))/\VL K Ϸ/\ü K (.Z Ϸ) f=O none/\
 ∀dx,aC dx=none->dx≠a->϶.aP J (ſ (ſ aC dx (.m5 (cu f v []))) a (.ext (i8 a Ϸ (O dx) aJ a0)))
theorem JQ {o IN:Ġ}{f:ϕ}{bo fy:TE}(aN:PE X o bo)(aG:PE X IN fy)(aH:wn IN (O (.ŝ o f OJ)) ŷ.cr X.ό=Ă false):PS X (.ajC [.ŝ o f OJ] IN ŷ) (DM X.K bo fy f):=by
 intro ϩ s J H ϶ I h;refine xL (bA (aG ϩ s J H _ I h) λu s1 ⟨y,H1,aK,bu,q⟩=>bA (aN ϩ s1 J H1 _ aK q) λdT s2 bj=>IS λeZ uq=>?_) aH;obtain⟨x,aC,bt,bc,a,Ϸ,aJ,a0,ex,a6,c,cB,b9⟩:=bj;refine uq ?_;subst ex;cases (show dT=ϫ.Z a from bc);obtain⟨ga,_,_⟩:=(show dG X.ϔ X.w aC s2.P a (.ext (i8 a Ϸ none aJ a0)) from bt.a9 a _ a6);have ga:s2.P.ϛ a=O ⟨.Z Ϸ,none,.Ž aJ,a0⟩:=ga
 have VM:=τ ga
 have nd:aC s2.P.Ϡ.Ϥ=none:=bt.a9.Ĳ (B.ϑ _)
 have VN:s2.P.Ϡ.Ϥ≠a:=À VM
 refine VI bt.en ⟨ga,rfl,rfl,trivial⟩ c.Bu c.Pc cB c.ï λh' tk au az bY=>⟨J,_,?_,b9 _ nd VN⟩;have na:∀{b:Ϩ}{u:bb},aC b=O u->b≠s2.P.Ϡ.Ϥ:=λe=>cF e nd
 refine bt.ę (g':=s2.Ot) (d':=s2.als) (ch:=[]) nofun (λb o _ _ _ e n=>bY b o (λz=>by rw[z,a6]at n;cases n) e) (λb o _ _ _ e n=>⟨o.ē,bY b o (λz=>by rw[z,a6]at n;cases n) e⟩) (λb o _ e n=>?_) (λb o _ e=>?_) (λb F e=>?_) (λb bR u e=>?_) (λb ps e=>⟨#[],?_⟩) (λm hm=>?_) (λb u e=>?_) bt.Rs
 ·rwa[aE (λz=>by rw[z,a6]at n;cases n),aE (Ι (τ e))]
 ·by_cases z:b=a
  ·rw[z];exact⟨_,au⟩
  ·exact⟨o,bY b o z e⟩
 ·rwa[aE (bM e a6 (λz=>by cases z)),aE (na e)]
 ·rwa[aE (bM e a6 (λz=>by cases z)),aE (na e)]
 ·rw[aE (bM e a6 (λz=>by cases z)),aE (na e),e];simp
 ·obtain⟨o,C,cw,av,r⟩:=hm;exact⟨o,C,cw,bY _ o (λz=>by have:=bt.Ź;rw[z,a6]at ν;cases ν) av,r⟩
 ·by_cases z:b=a
  ·subst z;rw[aQ]at e;cases e;exact JP au
  ·rw[aE z]at e;by_cases da:b=s2.P.Ϡ.Ϥ
   ·subst da;rw[aQ]at e;cases e;refine⟨_,az,λϺ=>?_⟩;rw[cL];by_cases z3:Ϻ=f
    ·rwa[aS z3,aS z3]
    ·rw[aD z3,aD z3];trivial
   ·rw[aE da]at e;refine(bt.a9 b u e).gS (λc v ak q=>bY c v (λy=>?_) q) (λc q=>?_) λc F q=>?_
    ·rcases ak with fl|fl
     ·exact z (fl.symm.Ϛ y)
     ·rw[y,a6]at fl;cases fl
    ·rwa[aE (bM q a6 (λz=>by cases z)),aE (na q)]
    ·rwa[aE (bM q a6 (λz=>by cases z)),aE (na q)]
def del (H:ag)(a:Ϩ):ag:=λb=>if b=a then none else H b
theorem mP {b:Ϩ}(h:b≠a):del H a b=H b:=aD h
theorem z4:del H a a=none:=aS rfl
theorem VO {b:Ϩ}{o:bb}(h:del H a b=O o):b≠a/\H b=O o:=by
 by_cases e:b=a
 ·rw[e,z4]at h;cases h
 ·rw[mP e]at h;exact⟨e,h⟩
theorem VP {h:Θ}{nX:Θ->Prop}(ok:ek Ϯ w H h)(a6:H a=O (.ext nX)):ek Ϯ w (del H a) h:=λb u e=>by
 obtain⟨ne,e⟩:=VO e;exact(ok b u e).gS (λ_ _ _ q=>q) (λc q=>by rwa[mP (λz=>by rw[z,a6]at q;cases q)]) λc F q=>by rwa[mP (λz=>by rw[z,a6]at q;cases q)]
structure JR (X:Cx)(gg:kR):Prop where
 anD:∀(ϩ:Y (Ϩ×ğ))(J:St)(H:ag)(s:ϐ)(e Ϸ dx:Ϩ)(aJ:μ ϫ)(a0:μ (ϣ ϫ)),Υ X ϩ J H s->H e=O (.ext (i8 e Ϸ (O dx) aJ a0))->aJ[1]?=O ϫ.none->aJ[2]?=O ϫ.none->X.cf.P.ϛ e=none->
  gg J (.Z Ϸ) (O dx) (del H e)->X.c0 (.Z e) s
section
variable {P:Program}{w:World}{K:Frag}{mg:Str->Option Value}{base:Heap}{N:List Str}{qual:Str}{scope:Scope}{f:Addr}{cd:Value}{A:Around}{outer:List Env}{cf:Shared}{dy:ag}{E:bz}
theorem JS:JR (hs (ht Ϯ w) Ϯ w K mg ϊ ϰ Ρ Ϟ f cd Ϲ Ϗ cf dy ϵ) (λ_=>ϵ) where
 anD:=λϩ J H s e Ϸ dx aJ a0 I a6 f1 f2 OR gd=>by
  have wE:(hs (ht Ϯ w) Ϯ w K mg ϊ ϰ Ρ Ϟ f cd Ϲ Ϗ cf dy ϵ).ą=ŋ Ρ Ϟ cf.P.Ϡ.Ϥ f cd::Ϗ:=rfl
  have uK:=I.yv
  have uL:=I.ą
  rw[wE]at uK uL;have he:s.P.ϛ e=O ⟨.Z Ϸ,O dx,.Ž aJ,a0⟩:=(show dG Ϯ w H s.P e (.ext (i8 e Ϸ (O dx) aJ a0)) from I.a9 e _ a6).1
  have jo:∀b o,cf.P.ϛ b=O o->b ∉ eu Ϗ->b ∉ e::eu (ŋ Ρ Ϟ cf.P.Ϡ.Ϥ f cd::Ϗ):=λb o q n z=>by
   rcases ς.mp z with z|z
   ·rw[z,show cf.P.ϛ e=none from OR]at q;cases q
   ·rcases ς.mp (show b∈cf.P.Ϡ.Ϥ::eu Ϗ from z) with z|z
    ·exact bJ (τ q) (by rw[z];exact B.ť _)
    ·exact n z
  have aF:(IP s.P (e::eu (ŋ Ρ Ϟ cf.P.Ϡ.Ϥ f cd::Ϗ))).ϛ e=none:=ϟ.W.anb _ ľ
  have Cz:s.P.ZB (IP s.P (e::eu (ŋ Ρ Ϟ cf.P.Ϡ.Ϥ f cd::Ϗ))) (ŋ Ρ Ϟ cf.P.Ϡ.Ϥ f cd::Ϗ):=
   ϟ.W.al3 uL λό he a aN=>Η _ (Ŕ.ļ ⟨ό,he,aN⟩)
  show ϙ (ώ Ϯ w) (Ϲ.Ê (ŋ Ρ Ϟ cf.P.Ϡ.Ϥ f cd)) (bi (ŋ Ρ Ϟ cf.P.Ϡ.Ϥ f cd) (.Z e)) _ _ _
  refine HM (s:=s) (ϸ:=IP s.P (e::eu (ŋ Ρ Ϟ cf.P.Ϡ.Ϥ f cd::Ϗ))) (ό:=ŋ Ρ Ϟ cf.P.Ϡ.Ϥ f cd) (Ϗ:=Ϗ) (ϲ:=cf.P.Ϡ.Ϥ) I.ok.ç rfl (λb o q=>ϟ.W.ajG _ q) aF Cz he f2 f1 λah aZ up=>?_;refine⟨e,.Z Ϸ,O dx,del H e,_,rfl,I.os,I.Rs,aZ,HO (VP I.a9 a6) (λb af=>?_),⟨λb o q n cB=>m_ _ (I.ϊ.ĭ b o q n cB (λz=>nomatch z)) (jo b o q cB),λb o q n=>?_,λb o q cB=>?_,λb F q=>?_,λb o u q=>?_,λb ps q=>?_⟩,λb o af q=>?_,gd⟩
  ·rcases ς.mp af with z|z
   ·rw[z];exact z4
   ·by_cases y:b=e
    ·rw[y];exact z4
    ·rw[mP y];exact uK b z
  ·by_cases y:b=e
   ·rw[y];exact z4
   ·rw[mP y];exact I.ϊ.Ź b o q n (λz=>nomatch z)
  ·obtain⟨bR,bC⟩:=I.ϊ.ĩ b o q (λz=>nomatch z);exact⟨bR,m_ _ bC (jo b o q cB)⟩
  ·have z:=I.ϊ.dh b F q
   rwa[mP (bM z a6 (λy=>by cases y))]
  ·have z:=I.ϊ.gG b o u q
   rwa[mP (bM z a6 (λy=>by cases y))]
  ·obtain⟨IT,z⟩:=I.ϊ.iv b ps q;exact⟨IT,by rwa[mP (bM z a6 (λy=>by cases y))]⟩
  ·obtain⟨_,bR,bC,cB⟩:=I.ok.hK.OO af;obtain rfl:o=bR:=ϣ.O.W1 ((show cf.P.ϛ b=O o from q).symm.Ϛ bC);obtain⟨o4,z⟩:=I.ϊ.If b o q (I.ok.kz b af) af (λz=>nomatch z);exact up b { o with ē:=o4 } z cB
end
section
open PySem.W
variable {M:Model}{A:Around}{E:wvP}{s:Shared}{env:Env}
variable {nm q:Str}{C N:Addr}{bs bm:List Value}{hdct:Bool}{sn:List Str}{sub:List Value}{ab:Bool}{col:Option Bool}{dd:Option Addr}{k0 k1 k2 k3 k5:Option Value}{newId:String}
theorem VQ {x:Sem ϫ}{Q:Flow->ϐ->Prop}(af:bm.Rh (.χ "BaseException")=true)(bj:Ϲ.Ē=none)(h:ϙ ϱ Ϲ x (λv eg=>∃e dx t,v=.Z e/\eg.P.ϛ Ϸ=O (ak2 nm q Ϸ ϰ bs bm hdct sn Pd ab col dd k0 k1 k2 k3 k5 anG)/\eg.P.ϛ e=O ⟨.Z Ϸ,O dx,.Ž #[.Z t,.none,.none,.none,.Ã false,.none],#[]⟩/\ϵ (.Z e) eg) ϵ s):
  ϙ ϱ Ϲ (raiseStmt ό (O x) none) Q ϵ s:=by
 have VR:(ϫ.Z Ϸ::bm).Rh (.χ "BaseException")=true:=by rw[Y.amw,af,δ.or_true]
 unfold raiseStmt;refine ax (ů h (λv eg gp=>?_) λ_ _ x=>x);obtain⟨e,dx,t,rfl,hC,ce,gd⟩:=gp;obtain⟨ay,Ϻ,ϻ,tk,os⟩:=eg;repeat (first|with_reducible refine SL ce ?_|with_reducible refine SL hC ?_|(with_reducible refine ajl hC ?_;rw[VR])|wp_step)
 exact wpAny_raiseNew_none bj gd
def DN (K:ş)(Ϸ f:Ϩ):δ:=CC K Ϸ (O (.Z f))
end
section
open PySem.W
set_option tactic.hygienic true in
theorem VS {h:Θ}{ϰ:Ϩ}{m:ϕ->ϣ ϫ}{n:ϕ}{v:ϫ}(X:K.In h)(ϳ:h.Ns ϰ m)(e:nsIn K ϰ n=O (O v)):m n=O v:=by
 obtain⟨o,C,cw,av,hd,_,hf⟩:=ϳ;unfold nsIn at e;split at e
 ·rename_i c ϻ agd cS a0 lk;have z:=X _ _ lk
  rw[av]at z;cases z;cases hd;split at e
  ·rename_i cy CX;cases e;rw[<- hf];unfold nsFind findBy;rw[<- μ.ane,CX];rfl
  ·split at e<;>cases e
 ·cases e
variable {X:Cx}{gg:kR}{k:Nat}{f C:Addr}{fd:FuncData}{ps:List Str}{sp:ep}{dY:List V}{ds:List Value}{x:Str}{pos:Pos}{e:Expr}{es:List Expr}{t:du}
def zcc (gg:kR)(Ϸ:Ϩ)(sp:ep)(dY:Y V)(t:du):dn:=λ϶ J H=>t J H λd H1=>d.N<=ϓ/\∀a aJ a0,H1 a=none->
 sp (.Z a::(d++dY)) (ſ H1 a (.ext (i8 a Ϸ none aJ a0))) (λv aC=>v=.br/\∃dx,aC a=O (.ext (i8 a Ϸ (O dx) aJ a0))/\gg J (.Z Ϸ) (O dx) (del aC a)) hc
set_option tactic.hygienic true in
theorem JT {np d7:Ox}(ai:JR X gg)(ak:X.R_=true)(bF:fb X x)(hm:X.mg x=O (.Z Ϸ))(er:DN X.K Ϸ f=true)(qF:isFn X.K (.Z f)=true)(ϴ:ft X.ϔ X.w X.K X.mg X.ϊ (ht X.ϔ X.w) k f fd ps sp)(aO:dw (k+1) X.Ϲ)(af:ô X.K fd ps ds)(hd:ś dY ds)(aN:PA X (e::C) t)(Oo:Ϫ ((x==("__debug__":ϕ))=false) dB._auto_1)(he:Ϫ (ω (e::C) X.ό=(false,ŗ e X.ό)::ω C X.ό) dA._auto_1)(Tm:Ϫ ((ĕ d7 (ω C X.ό)).J_ (·.1)=false) dA._auto_1):
  PS X (.Raise (O (.č (.ĸ x np) (e::C) [] d7)) none ŷ) (zcc gg Ϸ sp dY t):=by
 intro ϩ s J H ϶ I h;obtain⟨dd,cd,k0,k1,k2,k3,k5,av,bk,a9,CE⟩:=HQ er;have T:=tail_of_in I.ok.Om.jf bk
 have pl:(ĕ d7 (ω (e::C) X.ό)).J_ (·.1)=false:=by rw[he];show(false||(ĕ d7 (ω C X.ό)).J_ (·.1))=false;rw[Tm];rfl
 rw[arm_exec_Raise];refine ax (Æ (VQ (Ϸ:=Ϸ) (nm:=cd.name) (q:=cd.qualname) (ϰ:=cd.ns) (bs:=cd.bases) (bm:=cd.Pc.OW) (hdct:=cd.aj2) (sn:=cd.slotNames) (Pd:=cd.subclasses) (ab:=cd.abstract) (col:=cd.collection) (dd:=dd) (k0:=k0) (k1:=k1) (k2:=k2) (k3:=k3) (k5:=k5) (anG:="ValueError.__new__") (T.hasType ϟ.ϴ.E_.hasBase) (I.ok.hd ak) ?_));refine ax (ů (wpAny_Call_ofName (pb I bF hm ?_ Oo)) (λv jN sx=>ax (Æ (bp sx))) λ_ _ x=>x);have ay:=aN d7 ϩ s J H _ I h
 rw[he]at ay;unfold ol;rw[pl,he];refine ax (Ν (ê.AT (ů ay (λus s1 z=>ax (Æ ?_)) λ_ _ z=>z)));obtain⟨d,H1,aK,ck,hz,hw⟩:=z;have hC:s1.P.ϛ Ϸ=_:=aK.en _ _ av
 have aF:s1.P.Ns cd.ns (X.ϊ.nsMap cd.ns):=(Θ.Ns.of_isNs (alR I.ok.Om.jf a9)).å aK.bf
 obtain⟨vw,g1,d4,t1,VT⟩:=s1;refine ax (wpAny_keeperOf_exc hC ?_);obtain⟨nj,VU,vu⟩:∃nj,X.K.Ϣ f=O nj/\nj.Ŝ=.χ "function":=ξ.mp (Ā.mp qF);refine ax (m:=WP (.Z Ϸ) us) (VE ϟ.ϴ.E_ (T.å aK.bf) hC aF (VS I.ok.Om.jf (Θ.Ns.of_isNs (alR I.ok.Om.jf a9)) CE) (aK.en _ _ VU) vu (by rwa[<- ck.N]) λh' a6 hle mk=>?_);obtain⟨tt,VV,_,_⟩:=mk.ĩ;have VW:H1 a6=none:=aK.a9.Ĳ hle
 have bt:Υ X ϩ J (ſ H1 a6 (.ext (i8 a6 Ϸ none #[.Z tt,.none,.none,.none,.Ã false,.none] #[]))) ⟨h',g1,d4,t1,VT⟩:=aK.HV (t':=t1) (λb u e=>mk.å b u e) hle (JP VV)
 have ao:=hw a6 #[.Z tt,.none,.none,.none,.Ã false,.none] #[] VW
 have bW:ś (V.Z a6::(d++dY)) (ϫ.Z a6::(us++ds)):=.θ rfl (ck.I4 hd)
 have aw:(ϫ.Z a6::us++ds).N=ps.N:=by
  have e:=bW.N
  rw[ϴ.SC _ _ _ _ ao]at e;exact e.symm
 refine v_ (Wp (ϴ.run _ X.ą _ _ ⟨ϫ.Z a6::us,[]⟩ (ϫ.Z a6::(us++ds)) _ _ hc (aO.make Ϸ us []) (bt.uf.make Ϸ us []) (af _ (ϫ.Z a6::us) bt.en aw) bW ao) λr s' dV=>?_);cases r with
 | OK e=>
  obtain⟨_,_,_,_,_,_,_,_,_,_,_,_,z⟩:=dV;exact z.Ę
 | ok aZ=>cases aZ with
  | b8 u=>
   obtain⟨v,U,dc,VX,ev,dx,JU,VY⟩:=bt.amE dV;subst ev;refine⟨VX,ax (Ν (wpAny_point (bp ⟨a6,dx,tt,rfl,dc.en _ _ av,(show dG X.ϔ X.w U s'.P a6 _ from dc.a9 a6 _ JU).1,?_⟩)))⟩;exact ai.anD ϩ J U s' a6 Ϸ dx _ _ dc JU rfl rfl (Θ.h_ (B.Ķ aK.fP hle)) VY
  | next=>exact dV.Ę
  | Pa=>exact dV.Ę
  | Ou=>exact dV.Ę
end
section
open PySem.W
variable {X:Cx}{a6 C d:Addr}{ob:Obj}
end
theorem JV (ns:Y G)(nd:ns.Α):∀i,i<=ns.N->(firstMet (λi=>ns.œ i 0) i).N=i
 | 0,_=>rfl
 | i+1,aA=>by
  rw[firstMet_succ,step_length,firstMet_any,JV ns nd i ⋯,aD];intro h;obtain⟨y,aU,e⟩:=ú.mp h;obtain⟨j,bg,rfl⟩:=Ζ.mp aU;have bg:=ñ.mp bg
  have e:=amN e
  have au:ns[j]'⋯=ns[i]'⋯:=by
   have a1:ns.œ j 0=ns[j]'⋯:=by simp[show j<ns.N by omega]
   have a2:ns.œ i 0=ns[i]'⋯:=by simp[show i<ns.N by omega]
   rwa[<- a1,<- a2]
  exact Y.k_.mp nd j i ⋯ ⋯ bg au
def zek (K:ş)(t:du):TE:=λJ H Q=>t J H λd H1=>∃(p:Ϩ)(ns:Y G),d=[.Z p]/\aM K H1 p (ns.ϒ V.M)/\ns.N<=1000/\ns.Α/\Q (.M (ns.N:B)) H1
theorem VZ {a:Ġ}{p np p1:Ox}(ak:X.R_=true)(aw:fb X "len")(DO:X.mg "len"=none)(bF:fb X "set")(hm:X.mg "set"=none)(aN:PA X [a] bo)(aH:ω [.č (.ĸ "set" np) [a] [] p1] X.ό=[(false,ŗ (.č (.ĸ "set" np) [a] [] p1) X.ό)])(ix:ω [a] X.ό=[(false,ŗ a X.ό)]):
  PE X (.č (.ĸ "len" p) [.č (.ĸ "set" np) [a] [] p1] [] ŷ) (zek X.K bo):=by
 intro ϩ s J H Q I h;refine Ł (iU I aw DO PyProof.Rows.Boot.«len» (Ĥ.KK.aki ?_ aH rfl));rw[aH];refine ê.Ì ?_;refine OA (iU I bF hm PyProof.Rows.Boot.«set» (Ĥ.KK.Į (bA (aN p1 ϩ s J H _ I h) λus s1 ⟨d,H1,aK,bG,a3⟩=>?_) (by rw[ix];rfl) (by rfl)));obtain⟨l,ns,e,ao,hz,nd,q⟩:=a3;subst e;obtain⟨u,rfl,bc⟩:=wT bG;cases bc;obtain⟨aL,cG,pl,_⟩:=aK.ö ao;have ln:=cG.N
 rw[ϧ]at ln;refine call_set_list (aK.ok.hd ak) pl.Ń (aie cG) (by rw[ζ,<- ln];exact B.lt_of_le_of_lt (B.succ_le_succ hz) ∅) λh' tk dq aq=>?_;have vd:aL.ϗ.Ϥ=ns.N:=by rw[ζ,ln]
 rw[vd,JV ns nd _ (B.ϑ _)]at dq;obtain⟨o,C,cw,t,av,hex,hd,_,_,age,hf,aF⟩:=dq;refine ê.PP ?_;refine call_len_set (s:={ s1 with P:=h',Χ:=tk }) av hex hd hf (by rw[aF];omega) ?_;exact⟨.M _,H1,aK.XL (t':=tk+1+1) (λb o e=>aq b o (τ e) e),⟨_,rfl⟩,by rwa[aF]⟩
def z5 (K:ş):gw:=λx y H Q=>∃(r p:Ϩ)(ts:Y Ϩ)(ϻ:Ϩ->Ŀ),x=.Z r/\y=.Z p/\aM K H p (ts.ϒ V.Z)/\(∀t,t=r\/t∈ts->Den K H (.Z t) (ϻ t)/\ĝ.ii (ϻ t)=true)/\Q (.bl (ts.J_ λt=>(ϻ t).Bo (ϻ r))) H
theorem V0 (bK:X.Ϲ.õ+64+1<ä):eo X (ų .In) (z5 X.K):=by
 intro ϩ s J H x y v u Q I bc bu h;obtain⟨r,p,ts,ϻ,rfl,rfl,ao,hd,q⟩:=h;cases bc;cases bu;obtain⟨aL,cG,pl,hz⟩:=I.ö ao;obtain rfl:=Du cG;refine ĝ.in_listAt (λu=>match u with|.Z t=>(ϻ t).Bo (ϻ r)|_=>false) pl.Ń (λw hw=>?_) ⟨.bl _,H,I,rfl,?_⟩
 ·obtain⟨t,bk,rfl⟩:=Ζ.mp (show w∈ts.ϒ ϫ.Z by simpa using hw);obtain⟨g,ah⟩:=hd t (.Œ bk);obtain⟨g1,g2⟩:=hd r (.ε rfl);by_cases ű:t=r
  ·subst ű;rw[show(match (ϫ.Z t) with|.Z x=>(ϻ x).Bo (ϻ t)|_=>false)=true from aiq _ (ĝ.canLay_of_shaped ah)];exact .ű _
  ·refine .of_refs ű λϔ w ϵ Q ao=>?_;obtain⟨as,lI⟩:=g.Be I (u:=.Z t) rfl;obtain⟨bs,mv⟩:=g1.Be I (u:=.Z r) rfl;exact eq_dataH lI mv ah g2 (by show X.Ϲ.õ+1+64<ä;omega) ao
 ·rwa[show((ts.ϒ ϫ.Z).ϗ.J_ λu=>match u with|.Z t=>(ϻ t).Bo (ϻ r)|_=>false)=ts.J_ λt=>(ϻ t).Bo (ϻ r) by simp[alL.comp_def]]
theorem JW (c9:X.K=K)(bK:X.Ϲ.õ+64+1<ä):eo X (ų .In) (z5 K):=by subst c9;exact V0 bK
end L2
namespace L2
open PySem PySem.Spec PyProof.Rows PySem.W Hq
end L2
namespace L2
open PySem PySem.Spec PyProof.Rows PySem.W
section
variable {P:Program}{w:World}{K:Frag}{mg:Str->Option Value}{base:Heap}{k:Nat}{f:Addr}{name qual x y:Str}{sp:ep}{L M:List (Addr×Obj)}
end
section
variable {K:Frag}{x q:Str}{st:Stmt}{f c T:Addr}{ps:List Str}
end
end L2
namespace L2
open PySem PySem.Spec PyProof.Rows PySem.W Hq
open PySem.SeqAt PySem.MeetsSeq
open PySem.AutoSeq1 (wpAny_loadPart')
end L2
namespace L2
open PySem PySem.Spec PyProof.Rows
theorem V1 {as:Y α}{u Ϻ:α->V}(S:sE cD H (as.ϒ u))(p:α->δ)(oa:∀x∈as,∀Q:δ->ag->Prop,Q (p x) H->tt (O (u x)::cs) H Q)(Ck:∀x∈as,p x=true->∀Q:a8,Q (Ϻ x) H->bT (O (u x)::cs) H Q)(aF:as.N<=ϓ)(kf:ϴ ((as.ı p).ϒ Ϻ) H):∃W:B->B->Y V->ag->Prop,(∃m,W 0 m [] H)/\mr cD (hN 0) tt bT (none::cs) W ϴ:=by
 refine⟨λi m ys U=>m=as.N-i/\i<=as.N/\U=H/\ys=((as.ĵ i).ı p).ϒ Ϻ,⟨as.N,by simp,ł _,rfl,by simp⟩,?_⟩;rintro i m ys U ⟨rfl,aA,rfl,rfl⟩;have SB:(((as.ĵ i).ı p).ϒ Ϻ).N<=ϓ:=by
  rw[ϧ];refine B.Ķ (à _ _) ?_;rw[Ģ];omega
 by_cases cJ:i<as.N
 ·refine .Œ ⟨S.go i (by rwa[ϧ]),λi0 dt=>dt=U/\i0=((as.ĵ (i+1)).ı p).ϒ Ϻ,λi0 dt h=>⟨as.N-(i+1),⋯,rfl,cJ,h.1,h.2⟩,λx dt y=>?_⟩;obtain⟨rfl,ai⟩:=S.fR i x dt (by rwa[ϧ]) y;rw[Ϙ]at ai;obtain⟨a,aN,rfl⟩:=ξ.mp ai;have qQ:as.ĵ (i+1)=as.ĵ i++[a]:=by
   rw[ė,aN];rfl
  refine⟨zc,oa a (ύ aN) _ ?_⟩;rw[qQ,Y.ajv,Ε];cases ay:p a with
  | true=>
   rw[aS rfl];refine Ck a (ύ aN) ay _ ⟨SB,rfl,?_⟩;simp[ay]
  | false=>
   rw[aD ∅];refine⟨rfl,?_⟩;simp[ay]
 ·have e:i=as.N:=⋯
  subst e;have E:=S.stop
  rw[ϧ]at E;refine .ε ⟨E,SB,?_⟩;rw[İ];exact kf
section
variable {X:Cx}
def zkh (bo:du):TE:=λJ H Q=>bo J H λd H1=>∃j:G,d=[.M j]/\(-(2^62)<=j/\j<2^62)/\j.Ο<=1000000/\∀p,H1 p=none->Q (.Z p) (ſ H1 p (.Ť ((Ć j.Ο).ϒ λk=>V.M ((k:B):G))))
theorem V2 {b:Ġ}{p np p1:Ox}(ak:X.R_=true)(aw:fb X "list")(DO:X.mg "list"=none)(bF:fb X "range")(hm:X.mg "range"=none)(aN:PA X [b] bo)(aH:ω [.č (.ĸ "range" np) [b] [] p1] X.ό=[(false,ŗ (.č (.ĸ "range" np) [b] [] p1) X.ό)])(rE:ω [b] X.ό=[(false,ŗ b X.ό)]):
  PE X (.č (.ĸ "list" p) [.č (.ĸ "range" np) [b] [] p1] [] ŷ) (zkh bo):=by
 intro ϩ s J H Q I h;refine OA (iU I aw DO PyProof.Rows.Boot.«list» (Ĥ.KK.Į ?_ aH rfl));rw[aH];refine ê.Ì ?_;refine OA (iU I bF hm alN (Ĥ.KK.Į (bA (aN p1 ϩ s J H _ I h) λus s1 ⟨d,H1,aK,bG,a3⟩=>?_) (by rw[rE];rfl) rfl));obtain⟨j,e,⟨eV,kD⟩,aF,q⟩:=a3;subst e;cases bG with
 | θ r g6=>
   cases g6;obtain⟨t,rfl⟩:=r;refine and ?_;refine ê.PP ?_;have bt:Υ X ϩ J H1 { s1 with P:=s1.P.Ũ { Ŝ:=.χ "range",Φ:=.Ž #[.M 0 s1.Χ,.M j t,.M 1 (s1.Χ+1)] },Χ:=s1.Χ+1+1 }:=aK.XL (t':=s1.Χ+1+1) λb o e=>ϥ _ e
   refine call_list_range (n:=j.Ο) (bt.ok.hd ak) (IsRange.OR ..) (small_one ⋯ ⋯ eV kD) (by rw[amh];split<;>omega) ⋯ λh' tk DP aX aq i2 kP=>?_;obtain⟨Oz,DI⟩:=HA kP;have aG:ś ((Ć j.Ο).ϒ λk=>V.M ((k:B):G)) DP.Ω:=by
    have:=HH (i:=0) DP.Ω 0 λm v e=>by
     obtain⟨t,az⟩:=DI m v (by simpa using e);exact⟨t,by rw[az,G.b_,B.aj9]⟩
    rw[μ.H_,Oz]at ν;rw[Y.range_eq_range'];simpa only[G.aj9] using ν
   refine⟨.Z _,_,bt.HV (t':=tk) (o:=.Ť ((Ć j.Ο).ϒ λk=>V.M ((k:B):G))) aq (B.ϑ _) ?_,rfl,q _ (bt.a9.Ĳ (B.ϑ _))⟩;refine⟨?_,DP.Ω,aX,aG,by simpa using i2⟩;rw[ϧ,Ī];have:(1000000:B)<=ϓ:=by rw[ρ];decide
   omega
end
section
variable {prog:Program}{w:World}{A:Around}{E:wvP}{s:Shared}{a:Bool}{b:Int}{u:Tok}
end
section
variable {X:Cx}
def gC:V->ϣ G
 | .M i=>O i
 | .bl b=>O (if b=true then 1 else 0)
 | _=>none
end
theorem V3:ś [V.br] [ϫ.none]:=.θ rfl .ń
end L2
variable {e:Bk.Ent}{us:List PySem.Addr}{u:L2.bb}{w:Nat}{s:PySem.Str}{op:Int->Int->Bool}{f:Nat->Int->Int->List (List L2.Key×Int)}{st:List Int}{es:List Bk.Ent}{a4 ay bI:PySem.Addr}{R:Int->Nat->Int->Int->List (List L2.Key×Int)}{ps:List (List L2.Key×Int)}{ks:List (L2.Key×L2.V)}{rs:List (Nat×Int)}{c3:List (List L2.Key×L2.V)}{fM:L2.ag}{r0:PySem.FuncData}
namespace Pf
open PySem L2
abbrev HS:Y ϕ:=["self","number"]
abbrev I_:Y ϕ:=["self"]
abbrev Pk:Y ϕ:=["self","floor","cell","other"]
abbrev q03:Y ϕ:=["self","number","stops","least"]
abbrev O5:Y ϕ:=["self","sign"]
abbrev O6:Y ϕ:=["self","cell"]
abbrev q06:Y ϕ:=["_law_lines_here","_law_kind","_law_full","_law_charge","_law_cell","_law_other"]
abbrev q07:Y ϕ:=["floor","carrier","book","number","begin","start","charge","stops","least"]
abbrev q08:Y ϕ:=["_law_lines_here","_law_kind","_law_full","_law_cell","_law_charge"]
abbrev q09:Y ϕ:=["self","floor","carrier","book","number","stops"]
abbrev q10:Y ϕ:=["floor","carrier","book","number","begin","start","charge","stops","least","goal","free","there"]
abbrev q11:Y ϕ:=["floor","carrier"]
abbrev q12:Y ϕ:=["_law_lines_here","_law_kind","_law_cell","_law_other"]
abbrev q13:Y ϕ:=["_law_lines_here","_law_fleet","_law_mixed_here"]
abbrev q14:Y ϕ:=["self","number","cell"]
abbrev q15:Y ϕ:=["spread","begin","layer","there"]
abbrev q16:Y ϕ:=["floor","carrier","cell","other","charge"]
abbrev q17:Y ϕ:=["_law_lines_here","_law_cell"]
abbrev q18:Y ϕ:=["self","number","time","end"]
abbrev q19:Y ϕ:=["self","book","number","stops","least"]
abbrev q20:Y ϕ:=["_law_kind","_law_sign_here"]
abbrev q21:Y ϕ:=["self","time","layer","node","charge"]
abbrev q22:Y ϕ:=["self","kind","full","cell","charge"]
abbrev q23:Y ϕ:=["way","time"]
abbrev q24:Y ϕ:=["_law_one","_law_other","_law_now"]
abbrev q25:Y ϕ:=["floor","carrier","cell"]
abbrev q26:Y ϕ:=["comings","cell","other"]
abbrev q27:Y ϕ:=["stops","start","charge"]
abbrev q28:Y ϕ:=["self","comings","node","charge"]
abbrev q29:Y ϕ:=["needs","booked","charges","movers","now","floor"]
abbrev q30:Y ϕ:=["self","moment","layer"]
abbrev q31:Y ϕ:=["self","number","stops"]
abbrev q32:Y ϕ:=["_law_fleet"]
abbrev q33:Y ϕ:=["thing","least","most"]
abbrev q34:Y ϕ:=["self","sign","charge"]
abbrev q35:Y ϕ:=["spread","marks","time","node"]
abbrev q36:Y ϕ:=["_law_script","_law_k"]
abbrev q37:Y ϕ:=["_law_lines_here","_law_fleet"]
abbrev q38:Y ϕ:=["_law_way","_law_time"]
abbrev q39:Y ϕ:=["self","ticks"]
abbrev q40:Y ϕ:=["goal","free","least"]
abbrev q41:Y ϕ:=["self","node","cell"]
abbrev q42:Y ϕ:=["self","path","left"]
abbrev q43:Y ϕ:=["floor","carrier","goals"]
abbrev q44:Y ϕ:=["way","time","end"]
abbrev q45:Y ϕ:=["_law_script"]
abbrev q46:Y ϕ:=["self","number","time"]
abbrev q47:Y ϕ:=["self","place","other"]
abbrev q48:Y ϕ:=["self","floor","cell"]
abbrev q49:Y ϕ:=["self","number","way"]
abbrev q50:Y ϕ:=["stops","many","cell"]
abbrev q51:Y ϕ:=["self","time","layer"]
abbrev q52:Y ϕ:=["one","other","time"]
abbrev q53:Y ϕ:=["_law_cell","_law_k"]
abbrev q54:Y ϕ:=["self","other"]
abbrev q55:Y ϕ:=["self","lines"]
abbrev q56:Y ϕ:=["self","thing"]
abbrev q57:Y ϕ:=["self","floor"]
abbrev q58:Y ϕ:=["self","shut"]
abbrev q59:Y ϕ:=["line","wide"]
abbrev q60:Y ϕ:=["self","full"]
abbrev q61:Y ϕ:=["free","time"]
abbrev q62:Y ϕ:=["kind","full"]
def Đ (i:B):Τ:=ϟ.amQ.pw_floorways_k24_whole_fleets_never_meet.main.p_.œ i (.Pass ⟨0,0,0,0⟩)
abbrev JX:Τ:=η (Đ 11) 0
abbrev JY:Τ:=η (Đ 15) 0
abbrev JZ:Τ:=Đ 17
abbrev J0:Τ:=Đ 18
abbrev DQ:Τ:=Đ 27
abbrev DR:Τ:=Đ 28
abbrev J1:Τ:=η (Đ 29) 0
abbrev J2:Τ:=η (Đ 29) 1
abbrev J3:Τ:=η (Đ 29) 2
abbrev J4:Τ:=η (Đ 29) 3
abbrev J5:Τ:=η (Đ 29) 4
abbrev z6:Τ:=η (Đ 29) 5
abbrev z7:Τ:=η (Đ 29) 6
abbrev DS:Τ:=η (Đ 29) 7
abbrev J6:Τ:=η (Đ 34) 0
abbrev J7:Τ:=η (Đ 34) 1
abbrev J8:Τ:=η (Đ 34) 2
abbrev J9:Τ:=η (Đ 34) 3
abbrev Ka:Τ:=η (Đ 34) 4
abbrev vx:Τ:=η (Đ 34) 6
abbrev Kb:Τ:=η (Đ 34) 7
abbrev Kc:Τ:=η (Đ 34) 8
abbrev Kd:Τ:=η (Đ 35) 0
abbrev Ke:Τ:=η (Đ 36) 0
abbrev Kf:Τ:=η (Đ 36) 1
abbrev Kg:Τ:=η (Đ 36) 2
abbrev Kh:Τ:=η (Đ 36) 3
abbrev Ki:Τ:=η (Đ 37) 0
abbrev Kj:Τ:=η (Đ 37) 1
abbrev Kk:Τ:=η (Đ 37) 2
abbrev DT:Τ:=Đ 38
abbrev Kl:Τ:=Đ 39
abbrev Km:Τ:=Đ 41
abbrev Kn:Τ:=Đ 42
abbrev Ko:Τ:=Đ 43
abbrev DU:Τ:=Đ 44
abbrev Kp:Τ:=Đ 45
abbrev DV:Τ:=Đ 46
abbrev Kq:Τ:=Đ 47
abbrev Kr:Τ:=η (Đ 49) 0
abbrev DW:Τ:=η (Đ 49) 1
abbrev Ks:Τ:=η (Đ 49) 3
abbrev Kt:Τ:=η (Đ 49) 4
abbrev Ku:Τ:=η (Đ 49) 8
abbrev z8:Τ:=η (Đ 49) 9
abbrev Kv:Τ:=η (Đ 49) 10
abbrev z9:Τ:=η (Đ 49) 11
abbrev DX:Τ:=η (Đ 49) 12
abbrev Kw:Τ:=η (Đ 49) 13
abbrev Kx:Τ:=Đ 50
abbrev DY:Τ:=Đ 51
abbrev Ky:Τ:=η (Đ 53) 0
abbrev Kz:Τ:=η (Đ 53) 1
abbrev KA:Τ:=η (Đ 53) 2
abbrev KC:Τ:=η (Đ 53) 3
abbrev KD:Τ:=η (Đ 53) 4
abbrev KG:Τ:=η (Đ 53) 6
abbrev KH:Τ:=η (Đ 53) 7
abbrev KI:Τ:=η (Đ 53) 8
abbrev KJ:Τ:=η (Đ 53) 9
abbrev KL:Τ:=Đ 55
abbrev DZ:Τ:=Đ 56
abbrev KN:Τ:=Đ 57
abbrev Aa:Τ:=Đ 58
abbrev KO:Τ:=Đ 60
abbrev KP:Τ:=Đ 61
abbrev KQ:Τ:=η (Đ 62) 0
abbrev KR:Τ:=η (Đ 62) 1
abbrev D0:Τ:=η (Đ 62) 2
abbrev KS:Τ:=η (Đ 62) 3
abbrev D1:Τ:=η (Đ 62) 4
abbrev KU:Τ:=η (Đ 62) 5
abbrev KV:Τ:=η (Đ 64) 0
abbrev KW:Τ:=η (Đ 65) 0
abbrev oD:Τ:=Đ 66
abbrev KY:Τ:=Đ 67
abbrev D2:Τ:=Đ 68
abbrev Ab:Τ:=Đ 69
abbrev KZ:Τ:=η (Đ 73) 0
abbrev K0:Τ:=η (Đ 73) 1
abbrev Ac:Τ:=η (Đ 73) 2
abbrev Ad:Τ:=η (Đ 73) 3
abbrev K1:Τ:=η (Đ 73) 4
abbrev K2:Τ:=η (Đ 73) 5
abbrev K3:Τ:=η (Đ 73) 6
abbrev K4:Τ:=η (Đ 73) 7
abbrev K5:Τ:=η (Đ 73) 8
abbrev Ae:Τ:=η (Đ 73) 10
abbrev Af:Τ:=η (Đ 73) 11
abbrev vy:Τ:=η (Đ 73) 12
abbrev K6:Τ:=η (Đ 73) 13
abbrev K7:Τ:=η (Đ 73) 14
abbrev D3:Τ:=η (Đ 73) 15
abbrev K8:Τ:=η (Đ 73) 17
abbrev Ag:Τ:=η (Đ 73) 18
abbrev K9:Τ:=Đ 75
abbrev La:Τ:=Đ 76
abbrev vz:Τ:=Đ 77
abbrev Lb:Τ:=Đ 78
abbrev Lc:Τ:=Đ 79
abbrev Ld:Τ:=Đ 81
abbrev Le:Τ:=Đ 82
abbrev Lf:Τ:=Đ 83
abbrev Lg:Τ:=Đ 84
abbrev oE:Τ:=Đ 85
abbrev Lh:Τ:=Đ 86
abbrev D4:Τ:=Đ 87
abbrev vA:Τ:=Đ 88
abbrev D5:Τ:=Đ 89
abbrev s8:Τ:=Đ 90
abbrev gZ:Τ:=(fI oD).œ 2 (.Pass ⟨0,0,0,0⟩)
abbrev bZ:=B->Ϩ
structure nA where
 ar:bZ
 jz:Č
 jA:Þ
 bP:ş
 nB:ϕ->ϣ ϫ
 nC:Θ
 Ah:Ϩ
 gR:Ϩ
abbrev b0 (D:nA):=kV D.jz D.jA D.bP D.nB D.nC
def Li (K:ş)(ϱ:ϕ->ϣ ϫ)(lT cQ da fj k4 gD ik vB vC vD vE vF vG vH rH vI rJ s9 ta p6 p7 p8 vJ vK vL vM vN vO vP vQ vR vS vT vU vV vW vX vY vZ v3 v5 v7 v8 v9 wa wb wc wd we wg wh wi wj wk wm wo wq wt wu wx wy wz wA wB wC wD wF wG wH wI wJ wK wL wM wN wO wQ wR wU wV wW wX wY wZ w0 w1 w2 w3 w4 w5 w6 w7 w8 w9 xa xb xc xd xe xf xg xh xi xj xk xl xm xn xo xp i9 kl km kn k6 mQ k7 jB ja j4 fL tb td te tf tg mR mS mT xq xr:Ϩ):Y Prop:=[ϱ "Carrier"=O (.Z k6),
 ϱ "Floor"=O (.Z i9),
 ϱ "Cart"=O (.Z kl),
 ϱ "Crawler"=O (.Z km),
 ϱ "Runner"=O (.Z kn),
 ϱ "Found"=O (.Z mQ),
 ϱ "Shut"=O (.Z k7),
 ϱ "Book"=O (.Z jB),
 ϱ "Spread"=O (.Z ja),
 ϱ "Heap"=O (.Z j4),
 ϱ "Fleet"=O (.Z fL),
 ϱ "BadCell"=O (.Z tb),
 ϱ "Taken"=O (.Z td),
 ϱ "BadStops"=O (.Z te),
 ϱ "Busy"=O (.Z tf),
 ϱ "NoReserve"=O (.Z tg),
 ϱ "FloorError"=O (.Z mR),
 ϱ "Meets"=O (.Z mS),
 ϱ "Closed"=O (.Z mT),
 ∃u,ϱ "WALL"=O u/\ţ (V.str (ϕ.ϝ "#")) u,
 ∃u,ϱ "CHARGER"=O u/\ţ (V.str (ϕ.ϝ "+")) u,
 ∃u,ϱ "ROUGH"=O u/\ţ (V.str (ϕ.ϝ "~")) u,
 ∃u,ϱ "LANE"=O u/\ţ (V.str (ϕ.ϝ "|")) u,
 ∃u,ϱ "SIGNS"=O u/\ţ (V.str (ϕ.ϝ ".#+~|")) u,
 ∃u,ϱ "MOST_ROWS"=O u/\ţ (V.M 10) u,
 ∃u,ϱ "MOST_SIGNS"=O u/\ţ (V.M 10) u,
 ∃u,ϱ "KINDS"=O u/\ţ (.Z xq) u,
 ∃u,ϱ "MOST_FULL"=O u/\ţ (V.M 60) u,
 ∃u,ϱ "COMMON_SIGNS"=O u/\ţ (.Z xr) u,
 ∃u,ϱ "MOST_CARRIERS"=O u/\ţ (V.M 8) u,
 ∃u,ϱ "MOST_STOPS"=O u/\ţ (V.M 4) u,
 ed K ϱ "is_whole" da,
 ed K ϱ "is_among" fj,
 ed K ϱ "check_row" k4,
 ed K ϱ "check_floor" gD,
 ed K ϱ "carrier_of" vR,
 ed K ϱ "stands_at" vS,
 ed K ϱ "last_time" vT,
 ed K ϱ "index_at" vU,
 ed K ϱ "place_at" vV,
 ed K ϱ "stays_till" vW,
 ed K ϱ "meeting_word" vX,
 ed K ϱ "first_meeting" vY,
 ed K ϱ "next_charge" vZ,
 ed K ϱ "is_clear" wg,
 ed K ϱ "left_from" wh,
 ed K ϱ "steps_into" wy,
 ed K ϱ "standing_cells" wz,
 ed K ϱ "costs_to" wA,
 ed K ϱ "needs_of" wB,
 ed K ϱ "stops_met" wC,
 ed K ϱ "first_layer" wD,
 ed K ϱ "sought" wN,
 ed K ϱ "is_free" wO,
 ed K ϱ "searched" wQ,
 ed K ϱ "traced" wR,
 ed K ϱ "_law_at" xb,
 ed K ϱ "_law_mixed" xc,
 ed K ϱ "_law_lines" xd,
 ed K ϱ "_law_sign" xe,
 ed K ϱ "_law_stands" xf,
 ed K ϱ "_law_cost" xg,
 ed K ϱ "_law_stayed" xh,
 ed K ϱ "_law_after" xi,
 ed K ϱ "_law_told" xj,
 ed K ϱ "_law_tick" xk,
 ed K ϱ "_law_place" xl,
 ed K ϱ "_law_apart" xm,
 ed K ϱ "_law_all_apart" xn,
 ed K ϱ "_law_deed" xo,
 ŏ K i9 "has" vB,
 ŏ K i9 "sign" vC,
 ŏ K i9 "column" vD,
 ŏ K i9 "row" vE,
 ŏ K i9 "cells" vF,
 ŏ K i9 "chargers" vG,
 ŏ K i9 "beside" vH,
 ŏ K k6 "kind" vI,
 ŏ K k6 "may_stand" rJ,
 ŏ K k6 "gain" s9,
 ŏ K k6 "fare" ta,
 ŏ K k6 "steps" p6,
 ŏ K k6 "stayed" p7,
 ŏ K k6 "fare_if_standing" p8,
 ŏ K kl "kind" vJ,
 ŏ K km "kind" vK,
 ŏ K km "may_stand" vL,
 ŏ K km "gain" vM,
 ŏ K km "fare" vN,
 ŏ K kn "kind" vO,
 ŏ K kn "gain" vP,
 ŏ K kn "fare" vQ,
 ŏ K jB "put" v5,
 ŏ K jB "way" v7,
 ŏ K jB "numbers" v8,
 ŏ K jB "comings" v9,
 ŏ K jB "quiet" wa,
 ŏ K jB "free_from" wb,
 ŏ K jB "still_till" wc,
 ŏ K jB "ways_beside" wd,
 ŏ K jB "check_number" we,
 ŏ K j4 "put" wj,
 ŏ K j4 "least" wk,
 ŏ K j4 "take" wm,
 ŏ K j4 "size" wo,
 ŏ K j4 "lift_last" wq,
 ŏ K j4 "sink_first" wt,
 ŏ K j4 "lesser_below" wu,
 ŏ K j4 "swap" wx,
 ŏ K ja "layer_behind" wG,
 ŏ K ja "node_ahead" wH,
 ŏ K ja "reached" wI,
 ŏ K ja "steps_from" wJ,
 ŏ K ja "node_at" wK,
 ŏ K fL "time" wV,
 ŏ K fL "add" wW,
 ŏ K fL "numbers" wX,
 ŏ K fL "carrier" wY,
 ŏ K fL "place" wZ,
 ŏ K fL "charge" w0,
 ŏ K fL "way" w1,
 ŏ K fL "is_idle" w2,
 ŏ K fL "sees" w3,
 ŏ K fL "send" w4,
 ŏ K fL "pass_time" w5,
 ŏ K fL "charge_behind" w6,
 ŏ K fL "sought_by" w7,
 ŏ K fL "need" w8,
 ŏ K fL "check_number" w9,
 ŏ K fL "check_stops" xa,
 ŏ K kl "may_stand" rJ,
 ŏ K kl "gain" s9,
 ŏ K kl "fare" ta,
 ŏ K kl "steps" p6,
 ŏ K kl "stayed" p7,
 ŏ K kl "fare_if_standing" p8,
 ŏ K km "steps" p6,
 ŏ K km "stayed" p7,
 ŏ K km "fare_if_standing" p8,
 ŏ K kn "may_stand" rJ,
 ŏ K kn "steps" p6,
 ŏ K kn "stayed" p7,
 ŏ K kn "fare_if_standing" p8,
 h9 K i9 ik,
 h9 K kl rH,
 h9 K km rH,
 h9 K kn rH,
 h9 K mQ wL,
 h9 K k7 wM,
 h9 K jB v3,
 h9 K ja wF,
 h9 K j4 wi,
 h9 K fL wU,
 ü K (.Z mS) "__init__"=O (O (.Z lT)),
 ü K (.Z mT) "__init__"=O (O (.Z cQ)),
 ü K (.Z mS) "__setattr__"=O (O (.ο "object.__setattr__")),
 ü K (.Z mS) "other"=O none,
 ü K (.Z mQ) "__class__"=O (O (.ο "object.__class__")),
 ü K (.Z k7) "__class__"=O (O (.ο "object.__class__")),
 ü K (.Z mT) "__setattr__"=O (O (.ο "object.__setattr__")),
 ü K (.Z mT) "shut"=O none,
 hB ϱ "len" (.ο "len"),
 hB ϱ "range" (.χ "range"),
 hB ϱ "isinstance" (.ο "isinstance"),
 hB ϱ "all" (.ο "all"),
 hB ϱ "int" (.χ "int"),
 hB ϱ "bool" (.χ "bool"),
 hB ϱ "str" (.χ "str"),
 hB ϱ "list" (.χ "list"),
 hB ϱ "tuple" (.χ "tuple"),
 hB ϱ "dict" (.χ "dict"),
 hB ϱ "min" (.ο "min"),
 hB ϱ "max" (.ο "max"),
 hB ϱ "sorted" (.ο "sorted"),
 hB ϱ "enumerate" (.χ "enumerate"),
 hB ϱ "reversed" (.χ "reversed"),
 hB ϱ "zip" (.χ "zip"),
 hB ϱ "set" (.χ "set"),
 hB ϱ "abs" (.ο "abs"),
 fc K i9,
 eC K i9 "wide",
 eC K i9 "high",
 eC K i9 "lines",
 eC K i9 "signs",
 fc K kl,
 eC K kl "full",
 fc K km,
 eC K km "full",
 fc K kn,
 eC K kn "full",
 fc K k6,
 eC K k6 "full",
 fc K mQ,
 eC K mQ "path",
 eC K mQ "left",
 fc K k7,
 eC K k7 "moment",
 eC K k7 "layer",
 fc K jB,
 eC K jB "ways",
 fc K ja,
 eC K ja "floor",
 eC K ja "mover",
 eC K ja "booked",
 eC K ja "number",
 eC K ja "stops",
 eC K ja "known",
 fc K j4,
 eC K j4 "things",
 fc K fL,
 eC K fL "floor",
 eC K fL "now",
 eC K fL "movers",
 eC K fL "charges",
 eC K fL "booked",
 eC K fL "needs",
 sH K tb,
 sH K td,
 sH K te,
 sH K tf,
 sH K tg,
 I5 K (.Z tb) (.Z mR)=O true,
 I5 K (.Z td) (.Z mR)=O true,
 I5 K (.Z te) (.Z mR)=O true,
 I5 K (.Z tf) (.Z mR)=O true,
 I5 K (.Z tg) (.Z mR)=O true,
 I5 K (.Z mS) (.Z mR)=O true,
 I5 K (.Z mT) (.Z mR)=O true,
 specialIn K (.ο "object.__class__") "__get__"=O (O (.ο "getset_descriptor.__get__")),
 takesIn K (.ο "object.__class__")=O true,
 DN K mS lT=true,
 isFn K (.Z lT)=true,
 (OD K mS).J_ (λcd=>rG cd.Pc)=true,
 (OD K mS).J_ (·.aj2)=true,
 mroIn K mQ (.χ "object")=O true,
 IV K (.Z mQ) (.Z k7)=O false,
 mroIn K k7 (.χ "object")=O true,
 IV K (.Z k7) (.Z k7)=O true,
 DN K mT cQ=true,
 isFn K (.Z cQ)=true,
 (OD K mT).J_ (λcd=>rG cd.Pc)=true,
 (OD K mT).J_ (·.aj2)=true,
 FB K "__init__" "Meets.__init__" JX lT q54,
 FB K "__init__" "Closed.__init__" JY cQ q58,
 FB K "is_whole" "is_whole" JZ da ["thing"],
 FB K "is_among" "is_among" J0 fj q33,
 FB K "check_row" "check_row" DQ k4 q59,
 FB K "check_floor" "check_floor" DR gD ["lines"],
 FB K "__init__" "Floor.__init__" J1 ik q55,
 FB K "has" "Floor.has" J2 vB O6,
 FB K "sign" "Floor.sign" J3 vC O6,
 FB K "column" "Floor.column" J4 vD O6,
 FB K "row" "Floor.row" J5 vE O6,
 FB K "cells" "Floor.cells" z6 vF I_,
 FB K "chargers" "Floor.chargers" z7 vG I_,
 FB K "beside" "Floor.beside" DS vH O6,
 FB K "__init__" "Carrier.__init__" J6 rH q60,
 FB K "kind" "Carrier.kind" J7 vI I_,
 FB K "may_stand" "Carrier.may_stand" J8 rJ O5,
 FB K "gain" "Carrier.gain" J9 s9 O5,
 FB K "fare" "Carrier.fare" Ka ta Pk,
 FB K "steps" "Carrier.steps" vx p6 q48,
 FB K "stayed" "Carrier.stayed" Kb p7 q34,
 FB K "fare_if_standing" "Carrier.fare_if_standing" Kc p8 Pk,
 FB K "kind" "Cart.kind" Kd vJ I_,
 FB K "kind" "Crawler.kind" Ke vK I_,
 FB K "may_stand" "Crawler.may_stand" Kf vL O5,
 FB K "gain" "Crawler.gain" Kg vM O5,
 FB K "fare" "Crawler.fare" Kh vN Pk,
 FB K "kind" "Runner.kind" Ki vO I_,
 FB K "gain" "Runner.gain" Kj vP O5,
 FB K "fare" "Runner.fare" Kk vQ Pk,
 FB K "stands_at" "stands_at" Kl vS q25,
 FB K "last_time" "last_time" Km vT ["way"],
 FB K "index_at" "index_at" Kn vU q23,
 FB K "place_at" "place_at" Ko vV q23,
 FB K "stays_till" "stays_till" DU vW q44,
 FB K "meeting_word" "meeting_word" Kp vX q52,
 FB K "first_meeting" "first_meeting" DV vY ["one","other"],
 FB K "next_charge" "next_charge" Kq vZ q16,
 FB K "__init__" "Book.__init__" Kr v3 I_,
 FB K "put" "Book.put" DW v5 q49,
 FB K "way" "Book.way" Ks v7 HS,
 FB K "numbers" "Book.numbers" Kt v8 I_,
 FB K "comings" "Book.comings" Ku v9 q46,
 FB K "quiet" "Book.quiet" z8 wa HS,
 FB K "free_from" "Book.free_from" Kv wb q14,
 FB K "still_till" "Book.still_till" z9 wc q18,
 FB K "ways_beside" "Book.ways_beside" DX wd HS,
 FB K "check_number" "Book.check_number" Kw we HS,
 FB K "is_clear" "is_clear" Kx wg q26,
 FB K "left_from" "left_from" DY wh ["way","cell"],
 FB K "__init__" "Heap.__init__" Ky wi I_,
 FB K "put" "Heap.put" Kz wj q56,
 FB K "least" "Heap.least" KA wk I_,
 FB K "take" "Heap.take" KC wm I_,
 FB K "size" "Heap.size" KD wo I_,
 FB K "lift_last" "Heap.lift_last" KG wq I_,
 FB K "sink_first" "Heap.sink_first" KH wt I_,
 FB K "lesser_below" "Heap.lesser_below" KI wu ["self","place"],
 FB K "swap" "Heap.swap" KJ wx q47,
 FB K "steps_into" "steps_into" KL wy q11,
 FB K "standing_cells" "standing_cells" DZ wz q11,
 FB K "costs_to" "costs_to" KN wA q43,
 FB K "needs_of" "needs_of" Aa wB q11,
 FB K "stops_met" "stops_met" KO wC q50,
 FB K "first_layer" "first_layer" KP wD q27,
 FB K "__init__" "Spread.__init__" KQ wF q09,
 FB K "layer_behind" "Spread.layer_behind" KR wG q51,
 FB K "node_ahead" "Spread.node_ahead" D0 wH q21,
 FB K "reached" "Spread.reached" KS wI q28,
 FB K "steps_from" "Spread.steps_from" D1 wJ ["self","node"],
 FB K "node_at" "Spread.node_at" KU wK q41,
 FB K "__init__" "Found.__init__" KV wL q42,
 FB K "__init__" "Shut.__init__" KW wM q30,
 FB K "is_free" "is_free" KY wO q61,
 FB K "searched" "searched" D2 wQ q15,
 FB K "traced" "traced" Ab wR q35,
 FB K "__init__" "Fleet.__init__" KZ wU q57,
 FB K "time" "Fleet.time" K0 wV I_,
 FB K "add" "Fleet.add" Ac wW q22,
 FB K "numbers" "Fleet.numbers" Ad wX I_,
 FB K "carrier" "Fleet.carrier" K1 wY HS,
 FB K "place" "Fleet.place" K2 wZ HS,
 FB K "charge" "Fleet.charge" K3 w0 HS,
 FB K "way" "Fleet.way" K4 w1 HS,
 FB K "is_idle" "Fleet.is_idle" K5 w2 HS,
 FB K "charge_behind" "Fleet.charge_behind" K6 w6 HS,
 FB K "sought_by" "Fleet.sought_by" K7 w7 q19,
 FB K "need" "Fleet.need" D3 w8 q14,
 FB K "check_number" "Fleet.check_number" K8 w9 HS,
 FB K "check_stops" "Fleet.check_stops" Ag xa q31,
 FB K "_law_at" "_law_at" K9 xb q36,
 FB K "_law_mixed" "_law_mixed" La xc q53,
 FB K "_law_lines" "_law_lines" vz xd ["_law_cell"],
 FB K "_law_sign" "_law_sign" Lb xe q17,
 FB K "_law_stands" "_law_stands" Lc xf q20,
 FB K "_law_cost" "_law_cost" Ld xg q12,
 FB K "_law_stayed" "_law_stayed" Le xh q08,
 FB K "_law_after" "_law_after" Lf xi q06,
 FB K "_law_told" "_law_told" Lg xj q32,
 FB K "_law_tick" "_law_tick" oE xk q37,
 FB K "_law_place" "_law_place" Lh xl q38,
 FB K "_law_apart" "_law_apart" D4 xm q24,
 FB K "_law_all_apart" "_law_all_apart" vA xn q32,
 FB K "_law_deed" "_law_deed" D5 xo q13]
def Txt (D:nA):Prop:=∀i:B,(oA D.nB D.nC::D.bP.In D.nC::(∀H,bN D.bP H (D.ar 129) [V.str (ϕ.ϝ "cart"),V.str (ϕ.ϝ "crawler"),V.str (ϕ.ϝ "runner")])::(∀H,bN D.bP H (D.ar 130) [V.str (ϕ.ϝ "."),V.str (ϕ.ϝ "+"),V.str (ϕ.ϝ "|")])::(∃aL,ID D.bP "carrier_of" "carrier_of" DT (D.ar 30) aL q62)::(JE D.bP "sought" "sought" oD (D.ar 74) D.Ah D.gR q07)::(∃fd,lL D.bP "sees" "Fleet.sees" Ae (D.ar 87) fd #[.none]/\ô D.bP fd q03 []/\ô D.bP fd q03 [.none])::(∃fd,lL D.bP "send" "Fleet.send" Af (D.ar 88) fd #[.none]/\ô D.bP fd q03 []/\ô D.bP fd q03 [.none])::(∃t fd,lL D.bP "pass_time" "Fleet.pass_time" vy (D.ar 89) fd #[.M 1 t]/\ô D.bP fd q39 []/\ô D.bP fd q39 [.M 1 t])::Li D.bP D.nB (D.ar 0) (D.ar 1) (D.ar 2) (D.ar 3) (D.ar 4) (D.ar 5) (D.ar 6) (D.ar 7) (D.ar 8) (D.ar 9) (D.ar 10) (D.ar 11) (D.ar 12) (D.ar 13) (D.ar 14) (D.ar 15) (D.ar 16) (D.ar 17) (D.ar 18) (D.ar 19) (D.ar 20) (D.ar 21) (D.ar 22) (D.ar 23) (D.ar 24) (D.ar 25) (D.ar 26) (D.ar 27) (D.ar 28) (D.ar 29) (D.ar 30) (D.ar 31) (D.ar 32) (D.ar 33) (D.ar 34) (D.ar 35) (D.ar 36) (D.ar 37) (D.ar 38) (D.ar 39) (D.ar 40) (D.ar 41) (D.ar 42) (D.ar 43) (D.ar 44) (D.ar 45) (D.ar 46) (D.ar 47) (D.ar 48) (D.ar 49) (D.ar 50) (D.ar 51) (D.ar 52) (D.ar 53) (D.ar 54) (D.ar 55) (D.ar 56) (D.ar 57) (D.ar 58) (D.ar 59) (D.ar 60) (D.ar 61) (D.ar 62) (D.ar 63) (D.ar 64) (D.ar 65) (D.ar 66) (D.ar 67) (D.ar 68) (D.ar 69) (D.ar 70) (D.ar 71) (D.ar 72) (D.ar 73) (D.ar 74) (D.ar 75) (D.ar 76) (D.ar 77) (D.ar 78) (D.ar 79) (D.ar 80) (D.ar 81) (D.ar 82) (D.ar 83) (D.ar 84) (D.ar 85) (D.ar 86) (D.ar 87) (D.ar 88) (D.ar 89) (D.ar 90) (D.ar 91) (D.ar 92) (D.ar 93) (D.ar 94) (D.ar 95) (D.ar 96) (D.ar 97) (D.ar 98) (D.ar 99) (D.ar 100) (D.ar 101) (D.ar 102) (D.ar 103) (D.ar 104) (D.ar 105) (D.ar 106) (D.ar 107) (D.ar 108) (D.ar 109) (D.ar 110) (D.ar 111) (D.ar 112) (D.ar 113) (D.ar 114) (D.ar 115) (D.ar 116) (D.ar 117) (D.ar 118) (D.ar 119) (D.ar 120) (D.ar 121) (D.ar 122) (D.ar 123) (D.ar 124) (D.ar 125) (D.ar 126) (D.ar 127) (D.ar 128) (D.ar 129) (D.ar 130)).œ i Tl
theorem tc {p:Prop}{l:Y Prop}(h:p)(t:∀i:B,l.œ i Tl):∀i:B,(p::l).œ i Tl:=λi=>B.casesOn i h t
open Bk
def Ai:V->δ
 | .M _=>true
 | _=>false
def Aj:V->δ
 | .M _=>true
 | .bl _=>true
 | _=>false
def D6:V->δ
 | .bl _=>true
 | _=>false
def D7 (K:ş)(H:ag)(x:V):Prop:=∃n,hr K H x (.χ n)
theorem V4 {x:V}{n:è}(h:hr K H x (.χ n)):IV K (.χ n) (.χ "int")=O (Aj x):=by
 cases h<;>rfl
theorem V5 {x:V}{n:è}(h:hr K H x (.χ n)):IV K (.χ n) (.χ "bool")=O (D6 x):=by
 cases h<;>rfl
inductive V6 (K:ş)(d:Y V)(H:ag)(Q:a8)(ϵ:bz):Prop
 | mk (x:_)(_:d=[x])(_:D7 K H x)(_:Q (.bl (Ai x)) H)
theorem zu {t u:dn}(ϱ:St->ag->Prop)(g:∀aP:St->ag->Prop,(∀a7 U,ϱ a7 U->aP a7 U)->t { ϶ with aP:=aP } J H)(ah:∀eZ:St->ag->Prop,(∀a7 U,u ϶ a7 U->eZ a7 U)->∀a7 U,ϱ a7 U->eZ a7 U):Bg t u ϶ J H:=g (u ϶) (ah (u ϶) λ_ _ z=>z)
theorem IS (h:∀eZ:Prop,(ϳ->eZ)->eZ):ϳ:=h ϳ id
def k8:V->G->G->δ
 | .M i,lo,aA=>decide (lo<=i)&&decide (i<=aA)
 | _,_,_=>false
inductive V7 (K:ş)(d:Y V)(H:ag)(Q:a8)(ϵ:bz):Prop
 | mk (x lo aA:_)(_:d=[x,.M lo,.M aA])(_:D7 K H x)(_:Q (.bl (k8 x lo aA)) H)
open Fl
def fY (w h:B)(l:Ϩ)(L:Y B):Y (ϕ×V):=cu "signs" (.str (txt L)) (cu "lines" (.Z l) (cu "high" (.M (h:G)) (cu "wide" (.M (w:G)) [])))
theorem xt (w h:B)(l:Ϩ)(L:Y B):(fY w h l L).Ϣ ("wide":ϕ)=O (.M (w:G)):=by
 unfold fY;rw[cL,aD ∅,cL,aD ∅,cL,aD ∅,cL,aS rfl]
theorem th (w h:B)(l:Ϩ)(L:Y B):(fY w h l L).Ϣ ("signs":ϕ)=O (.str (txt L)):=by
 unfold fY;rw[cL,aS rfl]
theorem Ak (w h:B)(l:Ϩ)(L:Y B){m:ϕ}(g:¬m="signs")(ah:¬m="lines")(aI:¬m="high")(bO:¬m="wide"):(fY w h l L).Ϣ m=none:=by
 unfold fY;rw[cL,aD g,cL,aD ah,cL,aD aI,cL,aD bO];rfl
def jC (H:ag)(l:Ϩ)(w h:B)(L:Y B):Prop:=H l=O (.Ť ((ī w h L).ϒ V.str))
structure gE (Ϸ:Ϩ)(H:ag)(p:Ϩ)(w h:B)(L:Y B):Prop where
 ob:∃dx l,H p=O (.Â Ϸ dx (fY w h l L))/\jC H l w h L
theorem gE.ű {h:B}(ϴ:gE Ϸ H p w h L)(s:a5 H U):gE Ϸ U p w h L:=by
 obtain⟨dx,l,g,ah⟩:=ϴ.ob;exact⟨⟨dx,l,s _ _ g,s _ _ ah⟩⟩
theorem V8 {c:B}(h:nt c):c∈(ϕ.ϝ ".#+~|").Ch.Ω:=by
 have e:(ϕ.ϝ ".#+~|").Ch.Ω=[46,35,43,126,124]:=∅
 rw[e];rcases h with z|z|z|z|z<;>simp[z]
def Lj:V->V
 | .str z=>.bl (decide (z.Ch.œ 0 0∈(ϕ.ϝ ".#+~|").Ch.Ω))
 | _=>.bl false
def D8:V->V
 | .str z=>.bl (decide (z=ϕ.ϝ "#"))
 | _=>.bl false
theorem Lk (c:B):((⟨#[c]⟩:ϕ)=ϕ.ϝ "#")↔c=35:=by
 have e:(ϕ.ϝ "#").Ch=#[35]:=∅
 constructor
 ·intro h;have:=ż ϕ.Ch h
  rw[e]at ν;simpa using ν
 ·intro h;subst h;exact uE (by rw[e])
theorem V9 (c:B):((⟨#[c]⟩:ϕ)=ϕ.ϝ "+")↔c=43:=by
 have e:(ϕ.ϝ "+").Ch=#[43]:=∅
 constructor
 ·intro h;have:=ż ϕ.Ch h
  rw[e]at ν;simpa using ν
 ·intro h;subst h;exact uE (by rw[e])
theorem D9 (hx:0<=c)(cI:c<L.N):fH (txt L).Ch.Ω c=O (Ó L c):=by
 obtain⟨j,rfl⟩:=Ĺ hx;have bg:j<L.N:=⋯
 refine gW ?_;rw[rf];unfold Ó;simp[bg]
def Ea (L:Y B):V->δ
 | .M i=>decide (Ó L i=43)
 | _=>false
inductive Wa (d:Y V)(H:ag)(Q:a8)(ϵ:bz):Prop
 | mk (x:ϕ)(n:B)(_:d=[.str x,.M (n:G)])(_:x.N=n)(_:n<=10)(_:(∀c∈x.Ch.Ω,nt c))(_:∀U,a5 H U->Q .br U)
inductive Wb (d:Y V)(H:ag)(Q:a8)(ϵ:bz):Prop
 | mk (l:Ϩ)(w h:B)(L:Y B)(_:d=[.Z l])(_:jC H l w h L)(_:ħ w h L)(_:∀U,a5 H U->Q .br U)
inductive Wc (Ϸ:Ϩ)(d:Y V)(H:ag)(Q:a8)(ϵ:bz):Prop
 | mk (p dx l:Ϩ)(w h:B)(L:Y B)(_:d=[.Z p,.Z l])(_:H p=O (.Â Ϸ dx []))(_:jC H l w h L)(_:ħ w h L)(_:∀U iY eM,H eM=none->U p=O (.Â Ϸ iY (fY w h eM L))->jC U eM w h L->(∀b o,H b=O o->b≠p->U b=O o)->Q .br U)
inductive Wd (K:ş)(Ϸ:Ϩ)(d:Y V)(H:ag)(Q:a8)(ϵ:bz):Prop
 | mk (p:Ϩ)(w h:B)(L:Y B)(x:V)(_:d=[.Z p,x])(_:gE Ϸ H p w h L)(_:ħ w h L)(_:D7 K H x)(_:Q (.bl (oh L x)) H)
inductive Ll (Ϸ:Ϩ)(d:Y V)(H:ag)(Q:a8)(ϵ:bz):Prop
 | mk (p:Ϩ)(w h:B)(L:Y B)(c:G)(_:d=[.Z p,.M c])(_:gE Ϸ H p w h L)(_:ħ w h L)(_:0<=c)(_:c<L.N)(_:Q (eE (Ó L c)) H)
inductive We (Ϸ:Ϩ)(d:Y V)(H:ag)(Q:a8)(ϵ:bz):Prop
 | mk (p:Ϩ)(w h:B)(L:Y B)(c:G)(_:d=[.Z p,.M c])(_:gE Ϸ H p w h L)(_:ħ w h L)(_:Q (.M (c%w)) H)
inductive Wf (Ϸ:Ϩ)(d:Y V)(H:ag)(Q:a8)(ϵ:bz):Prop
 | mk (p:Ϩ)(w h:B)(L:Y B)(c:G)(_:d=[.Z p,.M c])(_:gE Ϸ H p w h L)(_:ħ w h L)(_:Q (.M (c/w)) H)
def Gives (H:ag)(Q:a8)(F:Y G):Prop:=∀r U,H r=none->a5 H U->U r=O (.Ť (F.ϒ V.M))->Q (.Z r) U
inductive Wg (Ϸ:Ϩ)(d:Y V)(H:ag)(Q:a8)(ϵ:bz):Prop
 | mk (p:Ϩ)(w h:B)(L:Y B)(_:d=[.Z p])(_:gE Ϸ H p w h L)(_:ħ w h L)(_:Gives H Q (Õ L))
inductive Wh (Ϸ:Ϩ)(d:Y V)(H:ag)(Q:a8)(ϵ:bz):Prop
 | mk (p:Ϩ)(w h:B)(L:Y B)(_:d=[.Z p])(_:gE Ϸ H p w h L)(_:ħ w h L)(_:Gives H Q (oi L))
inductive Wi (Ϸ:Ϩ)(d:Y V)(H:ag)(Q:a8)(ϵ:bz):Prop
 | mk (p:Ϩ)(w h:B)(L:Y B)(c:G)(_:d=[.Z p,.M c])(_:gE Ϸ H p w h L)(_:ħ w h L)(_:Gives H Q (fk w L c))
inductive Wj (d:Y V)(H:ag)(Q:a8)(ϵ:bz):Prop
 | mk (l:Ϩ)(w h:B)(L:Y B)(c:G)(_:d=[.Z l,.M c])(_:jC H l w h L)(_:ħ w h L)(_:0<=c)(_:c<L.N)(_:Q (eE (Ó L c)) H)
theorem Wk (L:Y B):oi L=(Õ L).ı λi=>decide (Ó L i=43):=by
 unfold oi Õ;rw[Y.filter_filter];refine Y.ank λi _=>?_;by_cases h:Ó L i=43
 ·rw[ι h,h];decide
 ·rw[Γ h];rfl
theorem xu {h:B}(Ϻ:ħ w h L):(Õ L).N<=100:=by
 have:=lP Ϻ
 unfold Õ Is;refine B.Ķ (à _ _) ?_;rw[ϧ,Ī];omega
theorem Lm {h:B}(Ϻ:ħ w h L):(oi L).N<=100:=by
 have:=lP Ϻ
 unfold oi Is;refine B.Ķ (à _ _) ?_;rw[ϧ,Ī];omega
def iI:Y ϕ:=["cart","crawler","runner","carrier"]
def d5 (D:bZ):B->Ϩ
 | 0=>(D 111)
 | 1=>(D 112)
 | 2=>(D 113)
 | _=>(D 114)
def hE (D:bZ)(H:ag)(p:Ϩ)(i:B)(n:G):Prop:=∃dx,H p=O (.Â (d5 D i) dx (cu "full" (.M n) []))
theorem hE.ű {D:bZ}{n:G}(s:a5 H U)(h:hE D H p i n):hE D U p i n:=let⟨dx,e⟩:=h;⟨dx,s _ _ e⟩
def IX (c:B):δ:=decide (c=46\/c=43\/c=124)
def dO (i c:B):δ:=IX c||(decide (i=1)&&decide (c=126))
def fZ (i c:B):G:=if c=43 then(match i with|1=>1|2=>3|_=>2) else 0
def j5 (i w:B)(L:Y B)(φ Κ:G):ϣ G:=match i with
 | 1=>O (if Ó L Κ=126 then 3 else 1)
 | 2=>if φ/w=Κ/w then O 1 else if Ó L φ=124\/Ó L Κ=124 then O 2 else none
 | _=>O 1
def rK:ϣ G->V
 | O i=>.M i
 | none=>.br
def KF (i w:B)(L:Y B)(φ Κ:G):ϣ G:=if dO i (Ó L φ)&&dO i (Ó L Κ) then j5 i w L φ Κ else none
def p9 (i w:B)(L:Y B)(φ Κ:G):ϣ G:=if dO i (Ó L Κ) then j5 i w L φ Κ else none
def No (f:G->ϣ G)(os:Y G):Y (G×G):=os.Ğ λo=>(f o).ϒ λk=>(o,k)
def jb (i w:B)(L:Y B)(φ:G):Y (G×G):=No (KF i w L φ) (fk w L φ)
def xv (H:ag)(t:Ϩ)(p:G×G):Prop:=H t=O (.Ţ [.M p.1,.M p.2])
def Wl (H:ag)(r:Ϩ)(ps:Y (G×G)):Prop:=∃ts:Y Ϩ,H r=O (.Ť (ts.ϒ V.Z))/\ϋ (xv H) ts ps
def ee (L:Y B)(c:G):Prop:=0<=c/\c<L.N
inductive Ln (D:bZ)(d:Y V)(H:ag)(Q:a8)(ϵ:bz):Prop
 | mk (p dx:Ϩ)(n:G)(i:B)(_:d=[.Z p,.M n])(_:H p=O (.Â (d5 D i) dx []))(_:Q .br (ſ H p (.Â (d5 D i) dx (cu "full" (.M n) []))))
inductive ko (z:ϕ)(d:Y V)(H:ag)(Q:a8)(ϵ:bz):Prop
 | mk (x:_)(_:d=[x])(_:Q (.str z) H)
inductive j6 (i:B)(d:Y V)(H:ag)(Q:a8)(ϵ:bz):Prop
 | mk (x c:_)(_:d=[x,eE c])(_:Q (.bl (dO i c)) H)
inductive oF (i:B)(d:Y V)(H:ag)(Q:a8)(ϵ:bz):Prop
 | mk (x c:_)(_:d=[x,eE c])(_:Q (.M (fZ i c)) H)
inductive oG (Ϸ:Ϩ)(i:B)(d:Y V)(H:ag)(Q:a8)(ϵ:bz):Prop
 | mk (x:V)(aZ:Ϩ)(w h:B)(L:Y B)(φ Κ:G)(_:d=[x,.Z aZ,.M φ,.M Κ])(_:gE Ϸ H aZ w h L)(_:ħ w h L)(_:ee L φ)(_:ee L Κ)(_:∀U,a5 H U->Q (rK (j5 i w L φ Κ)) U)
inductive Lo (D:bZ)(d:Y V)(H:ag)(Q:a8)(ϵ:bz):Prop
 | mk (p aZ:Ϩ)(i:B)(n:G)(w h:B)(L:Y B)(φ Κ:G)(_:d=[.Z p,.Z aZ,.M φ,.M Κ])(_:hE D H p i n)(_:i<=3)(_:gE (D 110) H aZ w h L)(_:ħ w h L)(_:ee L φ)(_:ee L Κ)(_:∀U,a5 H U->Q (rK (KF i w L φ Κ)) U)
inductive Al (D:bZ)(d:Y V)(H:ag)(Q:a8)(ϵ:bz):Prop
 | mk (p aZ:Ϩ)(i:B)(n:G)(w h:B)(L:Y B)(φ:G)(_:d=[.Z p,.Z aZ,.M φ])(_:hE D H p i n)(_:i<=3)(_:gE (D 110) H aZ w h L)(_:ħ w h L)(_:ee L φ)(_:∀r U,H r=none->a5 H U->Wl U r (jb i w L φ)->Q (.Z r) U)
inductive Eb (D:bZ)(d:Y V)(H:ag)(Q:a8)(ϵ:bz):Prop
 | mk (p:Ϩ)(i:B)(n:G)(c:B)(k:G)(_:d=[.Z p,eE c,.M k])(_:hE D H p i n)(_:i<=3)(_:Q (.M (min (k+fZ i c) n)) H)
inductive Wm (D:bZ)(d:Y V)(H:ag)(Q:a8)(ϵ:bz):Prop
 | mk (i:B)(x:ϕ)(n:G)(_:d=[.str x,.M n])(_:i<3)(_:iI[i]?=O x)(_:1<=n)(_:n<=60)(_:∀p U,a5 H U->H p=none->hE D U p i n->Q (.Z p) U)
inductive Wn (d:Y V)(H:ag)(Q:a8)(ϵ:bz):Prop
 | mk (i c:B)(x:ϕ)(_:d=[.str x,eE c])(_:iI[i]?=O x)(_:Q (.bl (dO i c)) H)
theorem Ec {D:nA}(T:Txt D):∀i,fc D.bP (d5 D.ar i)
 | 0=>(T 193)
 | 1=>(T 195)
 | 2=>(T 197)
 | (_+3)=>(T 199)
theorem Ed {D:nA}(T:Txt D):∀i,eC D.bP (d5 D.ar i) "full"
 | 0=>(T 194)
 | 1=>(T 196)
 | 2=>(T 198)
 | (_+3)=>(T 200)
theorem Lp (n:G):(cu "full" (V.M n) []).Ϣ ("full":ϕ)=O (.M n):=by rw[cL,aS rfl]
theorem jD (n:G){m:ϕ}(h:¬m="full"):(cu "full" (V.M n) []).Ϣ m=none:=by rw[cL,aD h];rfl
theorem xw {c k:B}(aH:s.Ch=#[k]):(eE c=V.str s)↔c=k:=by
 constructor
 ·intro h;have g:(⟨#[c]⟩:ϕ)=s:=V.str.W1 h
  have ah:=ż ϕ.Ch g
  rw[aH]at ah;simpa using ah
 ·intro h;subst h;exact ż V.str (uE (by rw[aH]))
theorem qa {c:B}:(eE c=V.str (ϕ.ϝ "~"))↔c=126:=xw ∅
theorem oH {c:B}:(eE c=V.str (ϕ.ϝ "+"))↔c=43:=xw ∅
theorem Am {c:B}:(eE c=V.str (ϕ.ϝ "|"))↔c=124:=xw ∅
theorem Ee {c k:B}(aH:s.Ch=#[k]):jj (V.str s) (eE c)=decide (c=k):=by
 have e:jj (V.str s) (eE c)=(s==(⟨#[c]⟩:ϕ)):=rfl
 rw[e,δ.ë,Ā,V_];constructor
 ·intro h;exact(xw aH).mp (ż V.str h.symm)
 ·intro h;exact(V.str.W1 ((xw aH).ļ h)).symm
theorem Lq {c:B}:lD (eE c) [V.str (ϕ.ϝ "."),V.str (ϕ.ϝ "+"),V.str (ϕ.ϝ "|")]=IX c:=by
 simp only[lD,on,am_,δ.Ĩ,IX];rw[Ee (k:=46) ∅,Ee (k:=43) ∅,Ee (k:=124) ∅,ah1,ah1]
theorem ti {h:B}(Ϻ:ħ w h L){o:G}(av:o∈fk w L c):ee L o:=by
 unfold fk at av;have h:=(ĥ.mp av).2
 unfold eG at h;simp only[Ŵ,Μ]at h;exact⟨h.1.1,h.1.2⟩
theorem xx:(fk w L c).N<=4:=by
 unfold fk;refine B.Ķ (à _ _) ?_;unfold nu;split<;>split<;>simp
def qU (f:G->ϣ G)(H:ag)(t:Ϩ)(o:G):Prop:=H t=O (.Ţ [.M o,rK (f o)])
def xy (H:ag):V->δ
 | .Z t=>(match H t with
  | O (.Ţ [_,y])=>!decide (y=.br)
  | _=>false)
 | _=>false
theorem Lr {f:G->ϣ G}{H:ag}:∀{ts:Y Ϩ}{os:Y G},ϋ (qU f H) ts os->∃us:Y Ϩ,(ts.ϒ V.Z).ı (xy H)=us.ϒ V.Z/\ϋ (xv H) us (No f os)
 | _,_,.ń=>⟨[],rfl,.ń⟩
 | _,_,.θ (a:=t) (b:=o) (l₁:=ts) (l₂:=os) h r=>by
  obtain⟨us,e,q⟩:=Lr r;have h:H t=O (.Ţ [.M o,rK (f o)]):=h
  rw[Ŷ,Y.filter_cons];cases z:f o with
  | none=>
   rw[aD (by simp[xy,h,z,rK]),e];refine⟨us,rfl,?_⟩;unfold No at q ⊢;rwa[ĉ,z]
  | O k=>
   rw[aS (by simp[xy,h,z,rK]),e];refine⟨t::us,rfl,?_⟩;unfold No at q ⊢;rw[ĉ,z];exact .θ (by rw[z]at h;exact h) q
def Ef:Y ϕ:=["cart","crawler","runner"]
theorem Wo:lD (.str x) [V.str (ϕ.ϝ "cart"),V.str (ϕ.ϝ "crawler"),V.str (ϕ.ϝ "runner")]=decide (x∈Ef):=by
 have e:∀a:ϕ,(a==x)=decide (x=a):=λa=>by
  rw[δ.ë,Ā,V_];exact eq_comm
 simp only[lD,TY,TZ,on,am_,δ.Ĩ,Ef,ς,ő,Ĩ];rw[e,e,e,ah1,ah1]
theorem jc {h:B}{m:ϕ}(a:¬m="signs")(b:¬m="lines")(c:¬m="high")(ϻ:¬m="wide"):(fY w h l L).Ϣ m=none:=Ak _ _ _ _ a b c ϻ
theorem tj {D:bZ}{sp:ep}:∀i,i<=3->(d5 D i,sp)∈[((D 111),sp),((D 112),sp),((D 113),sp),((D 114),sp)]
 | 0,_=>by simp[d5]
 | 1,_=>by simp[d5]
 | 2,_=>by simp[d5]
 | 3,_=>by simp[d5]
 | (_+4),h=>by omega
theorem An {D:bZ}:∀i,i<=3->∃j,(d5 D i,j6 j)∈[((D 111),j6 0),((D 112),j6 1),((D 113),j6 0),((D 114),j6 0)]/\∀c,dO j c=dO i c
 | 0,_=>⟨0,by simp[d5],λ_=>rfl⟩
 | 1,_=>⟨1,by simp[d5],λ_=>rfl⟩
 | 2,_=>⟨0,by simp[d5],λ_=>rfl⟩
 | 3,_=>⟨0,by simp[d5],λ_=>rfl⟩
 | (_+4),h=>by omega
theorem Wq {D:bZ}:∀i,i<=3->∃j,(d5 D i,oF j)∈[((D 111),oF 0),((D 112),oF 1),((D 113),oF 2),((D 114),oF 0)]/\∀c,fZ j c=fZ i c
 | 0,_=>⟨0,by simp[d5],λ_=>rfl⟩
 | 1,_=>⟨1,by simp[d5],λ_=>rfl⟩
 | 2,_=>⟨2,by simp[d5],λ_=>rfl⟩
 | 3,_=>⟨0,by simp[d5],λ_=>rfl⟩
 | (_+4),h=>by omega
theorem Wr {D:bZ}{Ϸ:Ϩ}:∀i,i<=3->∃j,(d5 D i,oG Ϸ j)∈[((D 111),oG Ϸ 0),((D 112),oG Ϸ 1),((D 113),oG Ϸ 2),((D 114),oG Ϸ 0)]/\∀w L a b,j5 j w L a b=j5 i w L a b
 | 0,_=>⟨0,by simp[d5],λ_ _ _ _=>rfl⟩
 | 1,_=>⟨1,by simp[d5],λ_ _ _ _=>rfl⟩
 | 2,_=>⟨2,by simp[d5],λ_ _ _ _=>rfl⟩
 | 3,_=>⟨0,by simp[d5],λ_ _ _ _=>rfl⟩
 | (_+4),h=>by omega
theorem Ws {R:α->β->Prop}{ts:Y α}{os:Y β}(p:ϋ R ts os){t:α}(bk:t∈ts):∃o,R t o:=by
 induction p with
 | ń=>cases bk
 | θ h r bB=>rcases ς.mp bk with rfl|z;exact⟨_,h⟩;exact bB z
theorem Ls {c:B}:c∈(ϕ.ϝ ".+|").Ch.Ω↔IX c=true:=by
 have e:(ϕ.ϝ ".+|").Ch.Ω=[46,43,124]:=∅
 rw[e];simp[IX]
theorem oI:∀(i:B)(x:ϕ),iI[i]?=O x->(x=ϕ.ϝ "crawler"↔i=1)/\(x=ϕ.ϝ "runner"↔i=2)/\i<=3
 | 0,_,h=>by cases h;decide +Ė
 | 1,_,h=>by cases h;decide +Ė
 | 2,_,h=>by cases h;decide +Ė
 | 3,_,h=>by cases h;decide +Ė
 | (i+4),_,h=>by simp[iI]at h
theorem Wt {o:G}(h:dO i (Ó L c)=true):KF i w L c o=p9 i w L c o:=by
 unfold KF p9;rw[h,δ.aj8]
theorem Lu {f:G->ϣ G}{os:Y G}:(No f os).N<=os.N:=Y.dl _ _
theorem Lv (Pv:B->Y V->ag->Prop)(h0:Pv 0 [] H)(aH:∀i ys H,i<n->Pv i ys H->tt (O (.M (0+(i:G)))::cs) H λb bw=>if b=true then bT (O (.M (0+(i:G)))::cs) bw λy cK=>ys.N<=ϓ/\Pv (i+1) (ys++[y]) cK else Pv (i+1) ys bw)(hd:∀ys H,Pv n ys H->ys.N<=ϓ/\ϴ ys H):∃W:B->B->Y V->ag->Prop,(∃m,W 0 m [] H)/\mr (lz 0 n) (hN 0) tt bT (none::cs) W ϴ:=
 zd (x:=λi=>.M (0+(i:G))) Pv h0 (λi ys H aA _=>⟨aA,λy U e=>⟨e.1,e.2⟩⟩) (λ_ _ _=>B.ϑ _) aH hd
open Wy
inductive Wu (d:Y V)(H:ag)(Q:a8)(ϵ:bz):Prop
 | mk (v b cs:_)(_:d=[v])(_:fB H v b cs)(_:Q (.M (b+(cs.N:G)-1)) H)
inductive Wv (d:Y V)(H:ag)(Q:a8)(ϵ:bz):Prop
 | mk (v b cs t:_)(_:d=[v,.M t])(_:fB H v b cs)(_:Q (.M (Bj b cs t)) H)
inductive Ww (d:Y V)(H:ag)(Q:a8)(ϵ:bz):Prop
 | mk (v b cs t:_)(_:d=[v,.M t])(_:fB H v b cs)(_:cs≠[])(_:Q (cT b cs t) H)
def Eg:ϣ ϕ->V
 | O w=>.str w
 | none=>.br
inductive Wx (d:Y V)(H:ag)(Q:a8)(ϵ:bz):Prop
 | mk (v b c eT cc aX t:_)(_:d=[v,eT,.M t])(_:fB H v b c)(_:fB H eT cc aX)(_:c≠[])(_:aX≠[])(_:Q (Eg (ic b c cc aX t)) H)
theorem Ao {x:V}(ai:x=.br\/∃z,x=.M z)(aU:y=.br\/∃z,y=.M z):lA x y=true:=by
 rcases ai with rfl|⟨z,rfl⟩<;>rcases aU with rfl|⟨w,rfl⟩<;>rfl
open Bk
def ħ (b:G)(c:Y G):Prop:=c≠[]/\c.N<=100000/\0<=b/\b<=10^15
inductive Wz (d:Y V)(H:ag)(Q:a8)(ϵ:bz):Prop
 | mk (v b c eT cc aX:_)(_:d=[v,eT])(_:fB H v b c)(_:fB H eT cc aX)(_:ħ b c)(_:ħ cc aX)(_:∀r U o,a5 H U->SJ U r o->jY b c cc aX o->Q r U)
inductive WA (D:bZ)(d:Y V)(H:ag)(Q:a8)(ϵ:bz):Prop
 | mk (x:Ϩ)(k:G)(aJ:μ ϫ)(a0:μ (ϣ ϫ))(_:d=[.Z x,.M k])(_:H x=O (.ext (i8 x (D 127) none aJ a0)))(_:∀dx,H dx=none->dx≠x->Q .br (ſ (ſ H dx (.m5 (cu "other" (.M k) []))) x (.ext (i8 x (D 127) (O dx) aJ a0))))
inductive WB (D:bZ)(d:Y V)(H:ag)(Q:a8)(ϵ:bz):Prop
 | mk (p dx:Ϩ)(_:d=[.Z p])(_:H p=O (.Â (D 117) dx []))(_:∀ϻ,H ϻ=none->Q .br (ſ (ſ H ϻ (.bL [])) p (.Â (D 117) dx (wl ϻ))))
inductive WC (D:bZ)(d:Y V)(H:ag)(Q:a8)(ϵ:bz):Prop
 | mk (p ϻ:Ϩ)(C:Y Ĕ)(_:d=[.Z p])(_:nv (D 117) H p ϻ C)(_:C.N<64)(_:∀(l:Ϩ)(ms:Y G),H l=none->ms.Perm (C.ϒ (·.k))->ms.Id (·<=·)->Q (.Z l) (ſ H l (.Ť (ms.ϒ V.M))))
inductive WD (D:bZ)(d:Y V)(H:ag)(Q:a8)(ϵ:bz):Prop
 | mk (p ϻ:Ϩ)(C:Y Ĕ)(n:G)(v:V)(b:G)(c:Y G)(_:d=[.Z p,.M n,v])(_:nv (D 117) H p ϻ C)(_:i4 H C)(_:fB H v b c)(_:pS b c)(_:∀U,a5 H U->(uY C n b c none->Q .br (ſ U ϻ (.bL (gB (iF C ⟨n,v,b,c⟩)))))/\∀k x,uY C n b c (O k)->U x=O (.m5 (cu "other" (.M k) []))->ϵ (.Z (D 127)) (O x) U)
theorem Eh {c:Y G}(h:c≠[]):fH (c.ϒ V.M) (-1)=O (.M (fu c)):=by
 have ih:0<c.N:=ě.ļ h
 unfold fH kd;rw[aD ∅,aS (by rw[ϧ];omega)];show(c.ϒ V.M)[((-1:G)+((c.ϒ V.M).N:G)).Ο]?=_
 rw[ϧ,show(-1+(c.N:G)).Ο=c.N-1 by omega,Ϙ,ϡ ⋯];unfold fu;rw[Ş,ϡ ⋯];rfl
theorem WE:∀e∈C.ĵ 0,fu e.c≠φ:=λe he=>by rw[Y.amR]at he;cases he
theorem WG:mD (C.ĵ 0) φ 0:=by rw[Y.amR];exact Td
def hi (Ϸ:Ϩ)(H:ag)(p ϻ:Ϩ)(C:Y Ĕ):Prop:=nv Ϸ H p ϻ C/\i4 H C
theorem hi.ű (h:hi Ϸ H p ϻ C)(s:a5 H U):hi Ϸ U p ϻ C:=⟨h.1.ű s,h.2.dh (mA s)⟩
inductive WH (D:bZ)(d:Y V)(H:ag)(Q:a8)(ϵ:bz):Prop
 | mk (p ϻ:Ϩ)(C:Y Ĕ)(n:G)(_:d=[.Z p,.M n])(_:hi (D 117) H p ϻ C)(_:∀l U,H l=none->a5 H U->U l=O (.Ť ((c7 C n).ϒ (·.v)))->Q (.Z l) U)
inductive WI (D:bZ)(d:Y V)(H:ag)(Q:a8)(ϵ:bz):Prop
 | mk (p ϻ:Ϩ)(C:Y Ĕ)(n t:G)(_:d=[.Z p,.M n,.M t])(_:hi (D 117) H p ϻ C)(_:∀l Ϝ U,H l=none->a5 H U->U l=O (.bL Ϝ)->mC (c7 C n) t Ϝ->Q (.Z l) U)
inductive WJ (d:Y V)(H:ag)(Q:a8)(ϵ:bz):Prop
 | mk (l:Ϩ)(Ϝ:Y (Ř×V))(φ Κ:G)(_:d=[.Z l,.M φ,.M Κ])(_:H l=O (.bL Ϝ))(_:(∀(z:G) v,aW Ϝ (.ε z)=O v->v=.br\/∃i,v=.M i))(_:∀b:δ,(b=true↔(aW Ϝ (.ε Κ)=none/\(aW Ϝ (.ε φ)).œ .br≠.M Κ))->Q (.bl b) H)
def iJ (e:Ĕ):G:=e.b+(e.c.N:G)-1
inductive WK (D:bZ)(d:Y V)(H:ag)(Q:a8)(ϵ:bz):Prop
 | mk (p ϻ:Ϩ)(C:Y Ĕ)(n:G)(_:d=[.Z p,.M n])(_:hi (D 117) H p ϻ C)(_:∀U m,a5 H U->pZ ((c7 C n).ϒ iJ) 0 m->Q (.M m) U)
inductive WL (d:Y V)(H:ag)(Q:a8)(ϵ:bz):Prop
 | mk (v:V)(b:G)(c:Y G)(φ:G)(_:d=[v,.M φ])(_:fB H v b c)(_:∀U n,a5 H U->u0 b c φ n c.N->Q (.M n) U)
inductive WM (D:bZ)(d:Y V)(H:ag)(Q:a8)(ϵ:bz):Prop
 | mk (p ϻ:Ϩ)(C:Y Ĕ)(n φ:G)(_:d=[.Z p,.M n,.M φ])(_:hi (D 117) H p ϻ C)(_:∀U v,a5 H U->om (c7 C n) φ v->Q v U)
theorem WN:i5 []:=λe he=>by cases he
def Hq (F:Y G)(m:B)(c:G):B:=m+((F.IR m).amS λx=>decide (x=c)).N
inductive WO (K:ş)(d:Y V)(H:ag)(Q:a8)(ϵ:bz):Prop
 | mk (a:Ϩ)(F:Y G)(m:B)(c:G)(_:d=[.Z a,.M (m:G),.M c])(_:aM K H a (F.ϒ V.M))(_:m<=F.N)(_:F.N<=100)(_:Q (.M (Hq F m c:B)) H)
inductive WQ (K:ş)(d:Y V)(H:ag)(Q:a8)(ϵ:bz):Prop
 | mk (a:Ϩ)(F:Y G)(E ch:G)(_:d=[.Z a,.M E,.M ch])(_:aM K H a (F.ϒ V.M))(_:F.N<=100)(_:∀p U,a5 H U->H p=none->U p=O (.bQ [([.ε (Hq F 0 E:B),.ε E],.M ch)])->Q (.Z p) U)
theorem WR {F:Y G}(h:F[n]?=O c):Hq F n c=Hq F (n+1) c:=by
 have aw:=(Y.Ϧ.mp h).1
 have e:F.IR n=c::F.IR (n+1):=by
  rw[Y.lf aw];have:=(Y.Ϧ.mp h).2
  rw[ν]
 unfold Hq;rw[e,Y.al_,aS (by simp),ŵ];omega
theorem WS {F:Y G}{x:G}(h:F[n]?=O x)(ai:x≠c):Hq F n c=n:=by
 have aw:=(Y.Ϧ.mp h).1
 have e:F.IR n=x::F.IR (n+1):=by
  rw[Y.lf aw];have:=(Y.Ϧ.mp h).2
  rw[ν]
 unfold Hq;rw[e,Y.al_,aD (by simp[ai]),Ċ];rfl
theorem WT {F:Y G}(h:F.N<=n):Hq F n c=n:=by
 unfold Hq;rw[Y.akl h];rfl
open Ly
structure il where
 aZ:Ϩ
 ct:Ϩ
 bf:Ϩ
 n:G
 a0:Ϩ
 bI:Ϩ
def j7 (S:il):Y (ϕ×V):=cu "known" (.Z S.bI) (cu "stops" (.Z S.a0) (cu "number" (.M S.n) (cu "booked" (.Z S.bf) (cu "mover" (.Z S.ct) (cu "floor" (.Z S.aZ) [])))))
theorem Ei (S:il):(j7 S).Ϣ ("known":ϕ)=O (.Z S.bI):=by unfold j7;rw[cL,aS rfl]
theorem WU (S:il):(j7 S).Ϣ ("stops":ϕ)=O (.Z S.a0):=by unfold j7;rw[cL,aD ∅,cL,aS rfl]
theorem Ap (S:il):(j7 S).Ϣ ("number":ϕ)=O (.M S.n):=by unfold j7;rw[cL,aD ∅,cL,aD ∅,cL,aS rfl]
theorem Aq (S:il):(j7 S).Ϣ ("booked":ϕ)=O (.Z S.bf):=by unfold j7;rw[cL,aD ∅,cL,aD ∅,cL,aD ∅,cL,aS rfl]
theorem Lw (S:il):(j7 S).Ϣ ("mover":ϕ)=O (.Z S.ct):=by unfold j7;rw[cL,aD ∅,cL,aD ∅,cL,aD ∅,cL,aD ∅,cL,aS rfl]
theorem Ej (S:il):(j7 S).Ϣ ("floor":ϕ)=O (.Z S.aZ):=by unfold j7;rw[cL,aD ∅,cL,aD ∅,cL,aD ∅,cL,aD ∅,cL,aD ∅,cL,aS rfl]
theorem rL (S:il){m:ϕ}(h:∀x∈(["known","stops","number","booked","mover","floor"]:Y ϕ),¬m=x):(j7 S).Ϣ m=none:=by
 unfold j7;rw[cL,aD (h _ (by simp)),cL,aD (h _ (by simp)),cL,aD (h _ (by simp)),cL,aD (h _ (by simp)),cL,aD (h _ (by simp)),cL,aD (h _ (by simp))];rfl
def Ek (D:bZ)(H:ag)(p:Ϩ)(S:il):Prop:=∃dx,H p=O (.Â (D 118) dx (j7 S))
def hF (i w:B)(L:Y B)(E:Y G)(m:B)(c:G):Y (Y Ř×G):=(jb i w L c).ϒ λo=>(bD (Hq E m o.1) o.1,o.2)
def j8 (H:ag)(t:Ϩ)(p:Y Ř×G):Prop:=∃b,H t=O (.Ţ [.Z b,.M p.2])/\H b=O (.Ţ (p.1.ϒ bH))
def mU (H:ag)(r:Ϩ)(ps:Y (Y Ř×G)):Prop:=∃ts:Y Ϩ,H r=O (.Ť (ts.ϒ V.Z))/\ϋ (j8 H) ts ps
theorem j8.dh {t:Ϩ}{p:Y Ř×G}(s:fC H U)(h:j8 H t p):j8 U t p:=let⟨b,g,ah⟩:=h;⟨b,s _ _ g,s _ _ ah⟩
def fF (H:ag)(bI:Ϩ)(i w:B)(L:Y B)(E:Y G):Prop:=∃Ϝ,H bI=O (.bQ Ϝ)/\(Ϝ.ϒ (·.1)).Α/\rm E.N L.N Ϝ/\∀m c v,aW Ϝ (bD m c)=O v->∃l,v=.Z l/\mU H l (hF i w L E m c)
theorem mU.ĭ  (s:fC H U)(aw:∀F,H l=O (.Ť F)->U l=O (.Ť F))(h:mU H l ps):mU U l ps:=let⟨ts,g,ah⟩:=h;⟨ts,aw _ g,ϋ.gq ah λ_ _ z=>z.dh s⟩
theorem fF.ű (s:a5 H U)(h:fF H bI i w L E):fF U bI i w L E:=by
 refine IS λUq uq=>?_;obtain⟨Ϝ,g,ah,aI,bO⟩:=h;exact uq (⟨Ϝ,s _ _ g,ah,aI,λm c v aG=>let⟨l,e,q⟩:=bO m c v aG;⟨l,e,q.ĭ (mA s) λ_ z=>s _ _ z⟩⟩)
def qb (H:ag)(bI z:Ϩ):Prop:=∀Ϝ k l,H bI=O (.bQ Ϝ)->aW Ϝ k=O (.Z l)->l≠z
theorem fF.but {z:Ϩ}(h:fF H bI i w L E)(aF:qb H bI z)(hz:H z=O (.Ť F))(s:cM z H U):fF U bI i w L E:=by
 obtain⟨Ϝ,g,ah,aI,bO⟩:=h;refine⟨Ϝ,s _ _ g (bM g hz nofun),ah,aI,λm c v aG=>?_⟩;obtain⟨l,rfl,q⟩:=bO m c v aG;exact⟨l,rfl,q.ĭ (s.dh (λys y=>by rw[hz]at y;cases y)) λ_ y=>s _ _ y (aF Ϝ _ l g aG)⟩
theorem fF.no {z:Ϩ}(h:fF H bI i w L E)(nD:H z=none)(s:a5 H U):qb U bI z:=by
 obtain⟨Ϝ,g,ah,aI,bO⟩:=h;intro bS k l e aG;rw[s _ _ g]at e;cases e;obtain⟨m,c,rfl,_⟩:=aI k (sz aG);obtain⟨ue,e,ts,q,_⟩:=bO m c _ aG;cases e;exact cF q nD
structure fG (D:bZ)(K:ş)(H:ag)(p:Ϩ)(S:il)(i:B)(n:G)(w h:B)(L:Y B)(E:Y G):Prop where
 sp:Ek D H p S
 tl:hE D H S.ct i n
 e6:i<=3
 rM:gE (D 110) H S.aZ w h L
 Ϻ:Fl.ħ w h L
 Ar:aM K H S.a0 (E.ϒ V.M)
 d3:E.N<=100
 hY:fF H S.bI i w L E
section
variable {ad:bZ}{K:Frag}{H U:ag}{p:Addr}{S:il}{i:Nat}{n:Int}{w h:Nat}{sg:List Nat}{st:List Int}
theorem fG.ű (o:fG D K H p S i n w h L E)(s:a5 H U):fG D K U p S i n w h L E:=
 ⟨let⟨dx,e⟩:=o.sp;⟨dx,s _ _ e⟩,o.tl.ű s,o.e6,o.rM.ű s,o.Ϻ,s.XV o.Ar,o.d3,o.hY.ű s⟩
structure Tab (u:bb):Prop where
 i:∀Ϸ dx aJ,.Â Ϸ dx aJ≠u
 l:∀F,.Ť F≠u
 f:∀o F,.cW o (.Ť F)≠u
 t:∀F,.Ţ F≠u
theorem Lx:Tab (.bQ Ϝ):=⟨λ_ _ _ z=>(nomatch z),λ_ z=>(nomatch z),λ_ _ z=>(nomatch z),λ_ z=>(nomatch z)⟩
theorem Lz {o:ğ}:Tab (.cW o (.bQ Ϝ)):=⟨λ_ _ _ z=>(nomatch z),λ_ z=>(nomatch z),λ_ _ z=>(by cases z),λ_ z=>(nomatch z)⟩
theorem LA {k:Ϩ}(h:aM K H a F)(aq:H k=O u)(bK:Tab u)(s:cM k H U):aM K U a F:=by
 rcases h with(h|⟨o,h⟩)|h
 ·exact .ε (.ε (s _ _ h (bM h aq (bK.l _))))
 ·exact .ε (.Œ ⟨o,s _ _ h (bM h aq (bK.f _ _))⟩)
 ·exact .Œ h
theorem fG.eY {k:Ϩ}(o:fG D K H p S i n w h L E)(aq:H k=O u)(bK:Tab u)(s:cM k H U)(bI:fF U S.bI i w L E):fG D K U p S i n w h L E:=by
 obtain⟨dx,e⟩:=o.sp;obtain⟨ey,az⟩:=o.tl;obtain⟨hj,l,bY,dN⟩:=o.rM.ob;exact⟨⟨dx,s _ _ e (bM e aq (bK.i _ _ _))⟩,⟨ey,s _ _ az (bM az aq (bK.i _ _ _))⟩,o.e6,⟨⟨hj,l,s _ _ bY (bM bY aq (bK.i _ _ _)),s _ _ dN (bM dN aq (bK.l _))⟩⟩,o.Ϻ,LA o.Ar aq bK s,o.d3,bI⟩
theorem fG.b (o:fG D K H p S i n w h L E)(s:cM S.bI H U)(bI:fF U S.bI i w L E):fG D K U p S i n w h L E:=
 let⟨_,e,_⟩:=o.hY
 o.eY e Lx s bI
theorem fG.El {k:Ϩ}(o:fG D K H p S i n w h L E)(aq:H k=O u)(bK:Tab u)(ne:S.bI≠k)(s:cM k H U):fG D K U p S i n w h L E:=by
 obtain⟨bS,g,ah,aI,bO⟩:=id o.hY;refine o.eY aq bK s ⟨bS,s _ _ g ne,ah,aI,λm c v aG=>?_⟩;obtain⟨l,rfl,q⟩:=bO m c v aG;exact⟨l,rfl,q.ĭ (s.dh (λys y=>by rw[aq]at y;exact bK.t _ (ϣ.O.W1 y).symm)) λ_ y=>s _ _ y (bM y aq (bK.l _))⟩
theorem fG.Κ {k:Ϩ}(o:fG D K H p S i n w h L E)(aq:H k=O (.bQ Ϝ))(ne:S.bI≠k)(s:cM k H U):fG D K U p S i n w h L E:=o.El aq Lx ne s
end
def e7 (Ϝ:Y (Ř×V))(φ Κ:G):δ:=(aW Ϝ (.ε Κ)).isNone&&!decide ((aW Ϝ (.ε φ)).œ .br=.M Κ)
theorem LB {Ϝ:Y (Ř×V)}{Κ:G}:e7 Ϝ φ Κ=true↔(aW Ϝ (.ε Κ)=none/\(aW Ϝ (.ε φ)).œ .br≠.M Κ):=by
 unfold e7;rw[Ŵ,ϣ.isNone_iff_eq_none,ab_,ņ]
def fm (C:Y Ĕ)(t φ Κ:G):δ:=C.IY λe=>!decide (cT e.b e.c (t+1)=.M Κ)&&!(decide (cT e.b e.c t=.M Κ)&&decide (cT e.b e.c (t+1)=.M φ))
theorem xA {t Κ:G}:fm C t φ Κ=true↔zH C φ Κ t:=by
 unfold fm zH;rw[ù];refine ahP λe=>ahP λ_=>?_;rw[Ŵ,ab_,ab_,ņ,δ.and_eq_false_iff,ņ,ņ,TD.not_and_iff_not_or_not]
theorem LC {t Κ:G}{Ϝ:Y (Ř×V)}(h:mC C t Ϝ)(a:i5 C)(nd:(C.ϒ (·.k)).Α):e7 Ϝ φ Κ=fm C t φ Κ:=
 δ.ë.ļ (LB.Ϛ ((S7 h a nd).Ϛ xA.symm))
def anB:Y Ř->G
 | [_,.ε c]=>c
 | _=>0
def oJ (op:G->G->δ)(c q:G)(p:Y Ř×G):ϣ (Y Ř×G):=if p.2<=q/\op c (anB p.1)=true then O (p.1,q-p.2) else none
def ŧ (op:G->G->δ)(i w:B)(L:Y B)(E:Y G)(n:G)(m:B)(c q:G):Y (Y Ř×G):=
 (if op c c=true then [(bD (Hq E m c) c,min (q+fZ i (Ó L c)) n)] else [])++(hF i w L E m c).Ğ (oJ op c q)
def oK (i w:B)(L:Y B)(n c o q:G):G:=if o=c then min n (q+fZ i (Ó L c)) else match p9 i w L c o with
 | none=>-1
 | O k=>q-k
def rN (op:G->G->δ)(i w:B)(L:Y B)(E:Y G)(n:G)(m:B)(c q o:G):ϣ (Y Ř×G):=if op c o=true/\0<=oK i w L n c o q then O (bD (Hq E m o) o,oK i w L n c o q) else none
def kp (op:G->G->δ)(i w:B)(L:Y B)(E:Y G)(n:G)(m:B)(c q:G):Y (Y Ř×G):=([c]++fk w L c).Ğ (rN op i w L E n m c q)
theorem xB (i c:B):0<=fZ i c:=by
 unfold fZ;split
 ·split<;>decide
 ·decide
theorem LD {o:G}(d0:1<=w)(h:o∈fk w L c):o≠c:=by
 have g:=(ĥ.mp h).1
 unfold nu at g;simp only[κ,ς,ő,Ĩ]at g;rcases g with((rfl|g)|g)|rfl
 ·omega
 ·split at g
  ·have:o=c-1:=by simpa using g
   omega
  ·cases g
 ·split at g
  ·have:o=c+1:=by simpa using g
   omega
  ·cases g
 ·omega
theorem WV {f Ϻ:α->ϣ β}{l:Y α}(h:∀x∈l,f x=Ϻ x):l.Ğ f=l.Ğ Ϻ:=by
 induction l with
 | ń=>rfl
 | θ a r bB=>rw[ĉ,ĉ,h a (by simp),bB λx ai=>h x (by simp[ai])]
theorem LF {f:α->ϣ β}{e:α}(h:f e=none):[e].Ğ f=[]:=by simp[h]
theorem WW {f:α->ϣ β}{e:α}{y:β}(h:f e=O y):[e].Ğ f=[y]:=by simp[h]
theorem WX {h:B}{n:G}{m:B}(Ϻ:Fl.ħ w h L)(aH:dO i (Ó L c)=true)(dS:0<=n)(dJ:0<=q):ŧ op i w L E n m c q=kp op i w L E n m c q:=by
 unfold ŧ kp;rw[Y.akO];have xC:=xB i (Ó L c)
 congr 1
 ·rw[ĉ,Y.amx];unfold rN oK;rw[aS rfl];by_cases z:op c c=true
  ·rw[aS z,aS ⟨z,⋯⟩,G.min_comm]
  ·rw[aD z,aD (λy=>z y.1)]
 ·unfold hF jb No;rw[Y.filterMap_map,Y.filterMap_filterMap];refine WV λo av=>?_;have ne:=LD Ϻ.d0 av
  unfold rN oK;rw[aD ne,Wt aH];cases p9 i w L c o with
  | none=>exact(aD (λy=>bJ (show(0:G)<=-1 from y.2) ∅)).symm
  | O k=>
   show(if k<=q/\op c o=true then _ else none)=if op c o=true/\0<=q-k then O (bD (Hq E m o) o,q-k) else none
   by_cases z:k<=q/\op c o=true
   ·rw[aS z,aS ⟨z.2,⋯⟩]
   ·rw[aD z,aD (λy=>z ⟨⋯,y.1⟩)]
def nE (f:B->G->G->Y (Y Ř×G)):Y Ř×V->Y (Y Ř×G)
 | ([.ε m,.ε c],.M q)=>f m.Ο c q
 | _=>[]
def Ñ (f:B->G->G->Y (Y Ř×G))(c3:Y (Y Ř×V)):Y (Y Ř×V):=(c3.be (nE f)).alw hW []
structure eN (E:Y G)(L:Y B)(c3:Y (Y Ř×V)):Prop where
 nd:(c3.ϒ (·.1)).Α
 ok:∀x∈c3,∃(m:B)(c q:G),x=(bD m c,.M q)/\m<=E.N/\ee L c/\0<=q
theorem WY {m:B}(h:c3[j]?=O (bD m c,.M q)):Ñ f (c3.ĵ (j+1))=(f m c q).alw hW (Ñ f (c3.ĵ j)):=by
 unfold Ñ;rw[ė,h,Y.al6,Y.ans];show((nE f (bD m c,.M q))++[]).alw hW _=_
 rw[ċ];rfl
def KK (E:Y G)(L:Y B)(ps:Y (Y Ř×G)):Prop:=∀x∈ps,0<=x.2/\∃(m:B)(c:G),x.1=bD m c/\m<=E.N/\ee L c
structure mV (E:Y G)(L:Y B)(Ϝ:Y (Y Ř×V)):Prop where
 hG:O9 Ϝ
 Em:rm E.N L.N Ϝ
theorem mV.add {x:Y Ř×G}(t:mV E L Ϝ)(h:0<=x.2/\∃(m:B)(c:G),x.1=bD m c/\m<=E.N/\ee L c):mV E L (hW Ϝ x):=by
 obtain⟨h0,m,c,e,hm,ak⟩:=h;refine⟨t.hG.add h0,λk aq=>?_⟩;rcases Tj aq with z|z
 ·exact⟨m,c,z.Ϛ e,hm,ak.1,ak.2⟩
 ·exact t.Em k z
theorem mV.fold {E:Y G}{L:Y B}:∀{ps:Y (Y Ř×G)}{Ϝ:Y (Y Ř×V)},mV E L Ϝ->KK E L ps->mV E L (ps.alw hW Ϝ)
 | [],_,t,_=>t
 | x::r,Ϝ,t,h=>mV.fold (ps:=r) (Ϝ:=hW Ϝ x) (t.add (h x (by simp))) λy aU=>h y (by simp[aU])
theorem WZ:mV E L []:=⟨Ti,Iw⟩
theorem As {F:Y G}{m:B}(h:m<=F.N):Hq F m c<=F.N:=by
 unfold Hq;have g:=(Y.takeWhile_sublist (p:=λx=>decide (x=c)) (l:=F.IR m)).length_le
 rw[Y.akX]at g;omega
theorem En {h:B}{m:B}(Ϻ:Fl.ħ w h L)(hm:m<=E.N):∀x∈hF i w L E m c,∃(ba:B)(o:G),x.1=bD ba o/\ba<=E.N/\ee L o/\o∈fk w L c:=by
 intro x ai;obtain⟨⟨o,k⟩,av,rfl⟩:=Ζ.mp ai;obtain⟨bR,eA,e⟩:=Ŕ.mp av;cases hf:KF i w L c bR with
 | none=>rw[hf]at e;cases e
 | O ha=>
  rw[hf]at e;cases e;exact⟨_,_,rfl,As hm,ti Ϻ eA,eA⟩
theorem Au {h:B}{n:G}{m:B}(Ϻ:Fl.ħ w h L)(hm:m<=E.N)(ak:ee L c)(dS:0<=n)(dJ:0<=q):KK E L (ŧ op i w L E n m c q):=by
 intro x ai;have xC:=xB i (Ó L c)
 rcases κ.mp ai with y|y
 ·split at y
  ·have e:x=_:=ϖ.mp y
   subst e;exact⟨by show 0<=min (q+fZ i (Ó L c)) n;omega,_,c,rfl,As hm,ak⟩
  ·cases y
 ·obtain⟨z,hz,e⟩:=Ŕ.mp y;unfold oJ at e;split at e
  ·rename_i ao;cases e;obtain⟨ba,o,au,az,bY,_⟩:=En Ϻ hm z hz;exact⟨by show 0<=q-z.2;omega,ba,o,au,az,bY⟩
  ·cases e
theorem mV.bX  (t:mV E L Ϝ):eN E L Ϝ:=by
 refine⟨t.hG.nd,λx ai=>?_⟩;obtain⟨q,ao,dJ⟩:=t.hG.nn x.1 x.2 (nx t.hG.nd ai);obtain⟨m,c,e,hm,hx,cI⟩:=t.Em x.1 (Ζ.ļ ⟨x,ai,rfl⟩);exact⟨m,c,q,I1.ext e ao,hm,⟨hx,cI⟩,dJ⟩
theorem tm  (l:eN E L c3)(h:∀m c q,m<=E.N->ee L c->0<=q->KK E L (f m c q)):mV E L (Ñ f c3):=by
 unfold Ñ;refine WZ.fold λx ai=>?_;obtain⟨y,aU,ai⟩:=á.mp ai;obtain⟨m,c,q,rfl,hm,ak,dJ⟩:=l.ok y aU;exact h m c q hm ak dJ x ai
theorem eN.ĵ  (l:eN E L c3)(j:B):eN E L (c3.ĵ j):=
 ⟨by rw[Y.map_take];exact l.nd.sublist (Y.anh _ _),λx ai=>l.ok x (Y.g_ ai)⟩
theorem W0 {p:Y Ř×G}(h:sN Ϝ p.1 (-1)<p.2):hW Ϝ p=ß Ϝ p.1 (.M p.2):=aS h
theorem W2 {p:Y Ř×G}(h:¬sN Ϝ p.1 (-1)<p.2):hW Ϝ p=Ϝ:=aD h
theorem W3 {k:Y Ř}{ϻ:G}(h:O9 Ϝ):(aW Ϝ k).œ (.M ϻ)=.M (sN Ϝ k ϻ):=by
 unfold sN;cases e:aW Ϝ k with
 | none=>rfl
 | O v=>
  obtain⟨q,rfl,_⟩:=h.nn k v e;rfl
inductive W4 (D:bZ)(d:Y V)(H:ag)(Q:a8)(ϵ:bz):Prop
 | mk (p dx aZ ct bf a0:Ϩ)(n:G)(_:d=[.Z p,.Z aZ,.Z ct,.Z bf,.M n,.Z a0])(_:H p=O (.Â (D 118) dx []))(_:∀bI U,H bI=none->Ek D U p ⟨aZ,ct,bf,n,a0,bI⟩->U bI=O (.bQ [])->(∀b o,H b=O o->b≠p->U b=O o)->Q .br U)
inductive W5 (D:bZ)(K:ş)(d:Y V)(H:ag)(Q:a8)(ϵ:bz):Prop
 | mk (p b:Ϩ)(S:il)(m:B)(hx c:G)(E:Y G)(_:d=[.Z p,.Z b,.M c])(_:Ek D H p S)(_:H b=O (.Ţ ((bD m hx).ϒ bH)))(_:aM K H S.a0 (E.ϒ V.M))(_:m<=E.N)(_:E.N<=100)(_:∀r,H r=none->Q (.Z r) (ſ H r (.Ţ ((bD (Hq E m c) c).ϒ bH))))
inductive W6 (D:bZ)(K:ş)(d:Y V)(H:ag)(Q:a8)(ϵ:bz):Prop
 | mk (p b:Ϩ)(S:il)(i:B)(n:G)(w h:B)(L:Y B)(E:Y G)(m:B)(c:G)(_:d=[.Z p,.Z b])(_:fG D K H p S i n w h L E)(_:H b=O (.Ţ ((bD m c).ϒ bH)))(_:m<=E.N)(_:ee L c)(_:∀r U,cM S.bI H U->fF U S.bI i w L E->(∀z,qb H S.bI z->H z≠none->qb U S.bI z/\r≠z)->mU U r (hF i w L E m c)->Q (.Z r) U)
inductive W7 (D:bZ)(K:ş)(d:Y V)(H:ag)(Q:a8)(ϵ:bz):Prop
 | mk (p b eH:Ϩ)(S:il)(i:B)(n:G)(w h:B)(L:Y B)(E:Y G)(m:B)(c q:G)(Ϝ:Y (Ř×V))(_:d=[.Z p,.Z eH,.Z b,.M q])(_:fG D K H p S i n w h L E)(_:H b=O (.Ţ ((bD m c).ϒ bH)))(_:m<=E.N)(_:ee L c)(_:H eH=O (.bL Ϝ))(_:(∀(z:G) v,aW Ϝ (.ε z)=O v->v=.br\/∃i,v=.M i))(_:∀r U,cM S.bI H U->fF U S.bI i w L E->H r=none->mU U r (ŧ (e7 Ϝ) i w L E n m c q)->Q (.Z r) U)
inductive W8 (D:bZ)(K:ş)(d:Y V)(H:ag)(Q:a8)(ϵ:bz):Prop
 | mk (p bX ϻ:Ϩ)(S:il)(i:B)(n t:G)(w h:B)(L:Y B)(E:Y G)(C:Y Ĕ)(c3:Y (Y Ř×V))(_:d=[.Z p,.M t,.Z bX])(_:fG D K H p S i n w h L E)(_:hi (D 117) H S.bf ϻ C)(_:i5 C)(_:0<=n)(_:H bX=O (.bQ c3))(_:eN E L c3)(_:bX≠S.bI)(_:∀r U,cM S.bI H U->fF U S.bI i w L E->H r=none->U r=O (.bQ (Ñ (ŧ (fm (c7 C S.n) t) i w L E n) c3))->Q (.Z r) U)
theorem W9 {c:B}(h:c=35):dO i c=false:=by
 subst h;unfold dO IX;simp
theorem Xa {m:B}:u4 (bD m c):=λx ai=>by
 rcases ς.mp ai with rfl|y
 ·exact⟨_,rfl⟩
 ·rw[ϖ.mp y];exact⟨_,rfl⟩
theorem LG {α β:Type}{f:α->β}:∀{m:Y α}{x y:α},(m.ϒ f).Α->x∈m->y∈m->f x=f y->x=y
 | a::m,x,y,nd,ai,aU,e=>by
  obtain⟨cz,cS⟩:=ŉ.mp nd;rcases ς.mp ai with au|g<;>rcases ς.mp aU with az|ah
  ·rw[au,az]
  ·exact bJ (by rw[<- au,e];exact Ζ.ļ ⟨y,ah,rfl⟩) cz
  ·exact bJ (by rw[<- az,<- e];exact Ζ.ļ ⟨x,g,rfl⟩) cz
  ·exact LG cS g ah e
theorem LH {α β:Type}{f:α->β}{m:Y α}(hm:(m.ϒ f).Α):∀{l:Y α},l.Α->(∀x∈l,x∈m)->(l.ϒ f).Α
 | [],_,_=>wf
 | a::l,nd,h=>by
  obtain⟨cz,cS⟩:=ŉ.mp nd;refine ŉ.ļ ⟨λz=>?_,LH hm cS λx ai=>h x (Η _ ai)⟩;obtain⟨b,af,e⟩:=Ζ.mp z;rw[LG hm (h b (Η _ af)) (h a ľ) e]at af;exact cz af
theorem eN.Oq  (l:eN E L c3)(g:E.N<=4)(ah:L.N<=9):(∀k∈c3.ϒ (·.1),u4 k)/\((c3.ϒ (·.1)).ϒ sR).Α:=by
 refine⟨λk aq=>?_,LH (m:=mE 4 9) ∅ l.nd λk aq=>?_⟩
 ·obtain⟨x,ai,rfl⟩:=Ζ.mp aq;obtain⟨m,c,q,rfl,_⟩:=l.ok x ai;exact Xa
 ·obtain⟨x,ai,rfl⟩:=Ζ.mp aq;obtain⟨m,c,q,rfl,hm,ak,_⟩:=l.ok x ai;obtain⟨j,rfl⟩:=Ĺ ak.1;have:=ak.2
  exact á.ļ ⟨m,ñ.ļ ⋯,Ζ.ļ ⟨j,ñ.ļ ⋯,rfl⟩⟩
inductive Xb (d:Y V)(H:ag)(Q:a8)(ϵ:bz):Prop
 | mk (v:V)(t:G)(_:d=[v,.M t])(_:(v=.br\/∃n:G,v=.M n))(_:∀b:δ,(b=true↔va v t)->Q (.bl b) H)
inductive Xc (d:Y V)(H:ag)(Q:a8)(ϵ:bz):Prop
 | mk (v:V)(b:G)(c:Y G)(t e:G)(_:d=[v,.M t,.M e])(_:fB H v b c)(_:ħ b c)(_:0<=t)(_:t<=e)(_:e<=10^16)(_:∀r:G,t<=r->r<=e->(∀s,t<=s->s<=r->cT b c s=cT b c t)->Q (.M r) H)
inductive Xd (D:bZ)(d:Y V)(H:ag)(Q:a8)(ϵ:bz):Prop
 | mk (p ϻ:Ϩ)(C:Y Ĕ)(n t e:G)(_:d=[.Z p,.M n,.M t,.M e])(_:hi (D 117) H p ϻ C)(_:0<=t)(_:t<=e)(_:e<=10^16)(_:∀U r,a5 H U->t<=r->r<=e->OM (c7 C n) t r->Q (.M r) U)
def k9 (C:Y Ĕ)(E:Y G)(c3:Y (Y Ř×V))(t ū:G):Prop:=∃(q:G)(v:V),aW c3 (bD E.N (fu E))=O (.M q)/\ū<=q/\om C (fu E) v/\va v t
theorem qc {h:B}{n:G}(Ϻ:Fl.ħ w h L):∀(m:B)(c q:G),m<=E.N->ee L c->0<=q->KK E L (kp op i w L E n m c q):=λm c q hm ak dJ z hz=>by
 obtain⟨o,av,au⟩:=Ŕ.mp hz;unfold rN at au;split at au
 ·rename_i bF;cases au;refine⟨bF.2,_,o,rfl,As hm,?_⟩;rcases κ.mp av with y|y
  ·rwa[ϖ.mp y]
  ·exact ti Ϻ y
 ·cases au
abbrev hZ (C:Y Ĕ)(i w:B)(L:Y B)(E:Y G)(n:G):G->Y (Y Ř×V)->Y (Y Ř×V):=λt f=>Ñ (kp (fm C t) i w L E n) f
inductive Xe (D:bZ)(d:Y V)(H:ag)(Q:a8)(ϵ:bz):Prop
 | mk (x dx bX:Ϩ)(k:G)(E:Y G)(L:Y B)(c3:Y (Y Ř×V))(_:d=[.Z x,.M k,.Z bX])(_:H x=O (.Â (D 116) dx []))(_:H bX=O (.bQ c3))(_:eN E L c3)(_:(∀k∈c3.ϒ (·.1),u4 k))(_:((c3.ϒ (·.1)).ϒ sR).Α)(_:∀r U,H r=none->U x=O (.Â (D 116) dx [("moment",.M k),("layer",.Z r)])->U r=O (.bQ c3)->(∀b,b≠x->b≠r->U b=H b)->Q .br U)
theorem rO {l:Y (Y Ř×V)}{k:Y Ř}(h:aW l k=O v):(k,v)∈l:=by
 unfold aW at h;cases e:l.find? λbS=>decide (bS.1=k) with
 | none=>rw[e]at h;cases h
 | O x=>
  rw[e]at h;have g:=Y.mem_of_find?_eq_some e
  have ah:=Y.find?_some e
  have aI:x.1=k:=ð ah
  have bO:x.2=v:=ϣ.O.W1 h
  rwa[<- aI,<- bO]
theorem LI {eL eM:Y (Y Ř×V)}(nd:(eL.ϒ (·.1)).Α)(h:∀k,aW eL k=aW eM k):Dg (eL.be (nE f)) (eM.be (nE f)):=λk q aq=>by
 obtain⟨x,ai,aq⟩:=á.mp aq;have:=nx nd ai
 rw[h]at ν;exact⟨q,á.ļ ⟨_,rO ν,aq⟩,G.ϑ _⟩
theorem tp {l:Y (Y Ř×V)}(lo:eN E L l)(h:∀m c q,m<=E.N->ee L c->0<=q->KK E L (f m c q)):kW (l.be (nE f)) (Ñ f l):=by
 refine T3 λx ai=>?_;obtain⟨y,aU,ai⟩:=á.mp ai;obtain⟨m,c,q,rfl,hm,ak,dJ⟩:=lo.ok y aU;exact(h m c q hm ak dJ x ai).1
theorem Xf {eL eM:Y (Y Ř×V)}(hy:eN E L eL)(ff:eN E L eM)(h:∀k,aW eL k=aW eM k)(ji:∀m c q,m<=E.N->ee L c->0<=q->KK E L (f m c q))(k:Y Ř):aW (Ñ f eL) k=aW (Ñ f eM) k:=by
 have dH:=tp hy ji
 have di:=tp ff ji
 have d4:=LI (f:=f) hy.nd h
 have ea:=LI (f:=f) ff.nd λk=>(h k).symm
 cases e:aW (Ñ f eL) k with
 | O v=>exact(dH.ű di d4 ea e).symm
 | none=>
  cases az:aW (Ñ f eM) k with
  | none=>rfl
  | O v=>
   have:=di.ű dH ea d4 az
   rw[e]at ν;cases ν
theorem Xg {t s:G}(h:OM C t r)(g:t<=s)(ah:s<r):fm C s=fm C t:=by
 funext a c
 rw[δ.ë,xA,xA];unfold zH;exact ahP λe=>ahP λhe=>by rw[h e he s g ⋯,h e he (s+1) ⋯ ⋯,h e he (t+1) ⋯ ⋯]
theorem Xh (p:α->δ)(l:Y α):(l.IR (l.amS p).N).amS p=[]:=by
 induction l with
 | ń=>rfl
 | θ a t bB=>
  by_cases h:p a=true
  ·rwa[Y.takeWhile_cons_of_pos h,ŵ,Y.drop_succ_cons]
  ·rw[Y.aiE h];exact Y.aiE h
theorem Xi (E:Y G)(m:B)(c:G):Hq E (Hq E m c) c=Hq E m c:=by
 unfold Hq;rw[<- Y.drop_drop,Xh];rfl
def Rest (C:Y Ĕ)(E:Y G)(n t:G)(f:Y (Y Ř×V)):Prop:=∀(m:B)(c q:G),aW f (bD m c)=O (.M q)->Hq E m c=m/\q<=n/\∀e∈C,cT e.b e.c t≠.M c
theorem grow {h:B}{n t:G}{f:Y (Y Ř×V)}(Ϻ:Fl.ħ w h L)(dS:0<=n)(lo:eN E L f)(re:Rest C E n t f)(aH:OM C t (t+1)){m:B}(aG:aW f (bD m c)=O (.M q)):
  ∃r,aW (hZ C i w L E n t f) (bD m c)=O (.M r)/\q<=r:=by
 obtain⟨au,az,bY⟩:=re m c q aG;have kq:=tp (f:=kp (fm C t) i w L E n) lo (qc Ϻ)
 have hm:=rO aG
 obtain⟨ba,aX,bC,ex,_,_,dJ⟩:=lo.ok _ hm;obtain⟨dN,iC⟩:=I1.IQ.mp ex;obtain⟨rfl,rfl⟩:=lU dN;cases iC;have op:fm C t c c=true:=xA.ļ λe he=>by
  have a:=aH e he (t+1) ⋯ (G.ϑ _)
  have:=bY e he
  exact⟨by rwa[a],λz=>ν z.1⟩
 have xC:=xB i (Ó L c)
 have LJ:(bD m c,min n (q+fZ i (Ó L c)))∈f.be (nE (kp (fm C t) i w L E n)):=by
  refine á.ļ ⟨_,hm,?_⟩;show _∈kp (fm C t) i w L E n ((m:G)).Ο c q
  rw[ũ];refine Ŕ.ļ ⟨c,by simp,?_⟩;have l:oK i w L n c c q=min n (q+fZ i (Ó L c)):=aS rfl
  unfold rN;rw[aS ⟨op,by rw[l];omega⟩,l,au]
 cases ev:aW (hZ C i w L E n t f) (bD m c) with
 | none=>exact bJ LJ (kq.no _ ev _)
 | O v=>
  obtain⟨r,rfl,_,lY⟩:=kq.to _ _ ev;exact⟨r,rfl,by have:=lY _ LJ;omega⟩
theorem LK {h:B}{n t:G}{f:Y (Y Ř×V)}(Ϻ:Fl.ħ w h L)(lo:eN E L f)(le:∀k q,aW f k=O (.M q)->q<=n)(Xj:∀c o k,p9 i w L c o=O k->0<=k):Rest C E n (t+1) (hZ C i w L E n t f):=by
 intro m c q aG;have kq:=tp (f:=kp (fm C t) i w L E n) lo (qc Ϻ)
 obtain⟨r,e,lY,_⟩:=kq.to _ _ aG;cases e;obtain⟨x,ai,aq⟩:=á.mp lY;obtain⟨ba,aX,bC,rfl,_,_,dJ⟩:=lo.ok _ ai;have ao:=le _ _ (nx lo.nd ai)
 have aq:(bD m c,q)∈kp (fm C t) i w L E n ((ba:G)).Ο aX bC:=aq
 rw[ũ]at aq;obtain⟨o,av,oL⟩:=Ŕ.mp aq;unfold rN at oL;split at oL
 ·rename_i bF;obtain⟨au,az⟩:=I1.IQ.mp (ϣ.O.W1 oL);obtain⟨bY,dN⟩:=lU au;subst dN;refine⟨by rw[<- bY,Xi],?_,λe he=>((xA.mp bF.1) e he).1⟩;have az:oK i w L n aX o bC=q:=az
  rw[<- az];unfold oK;split
  ·omega
  ·split
   ·rename_i z;have h0:=bF.2
    unfold oK at h0;rw[aD ‹_›,z]at h0;omega
   ·rename_i k z;have:=Xj _ _ _ z
    omega
 ·cases oL
theorem LL:∀c o k,p9 i w L c o=O k->0<=k:=λc o k h=>by
 unfold p9 at h;split at h
 ·unfold j5 at h;repeat' (split at h)
  all_goals first
   | (cases h;done)
   | (have:=ϣ.O.W1 h;omega)
 ·cases h
def qd (f:Y (Y Ř×V))(k:Y Ř):ϣ G:=match aW f k with
 | O (.M q)=>O q
 | _=>none
set_option tactic.hygienic true in
theorem qe {f:Y (Y Ř×V)}{k:Y Ř}:qd f k=O q↔aW f k=O (.M q):=by
 unfold qd;split
 ·rename_i r e;rw[e];exact⟨λz=>by cases z;rfl,λz=>by cases z;rfl⟩
 ·rename_i z;exact⟨λy=>(by cases y),λy=>bJ y (z q)⟩
theorem nF {f:Y (Y Ř×V)}(lo:eN E L f){k:Y Ř}(h:aW f k=O v):∃(m:B)(c q:G),k=bD m c/\v=.M q/\0<=q/\k∈mE E.N L.N:=by
 obtain⟨m,c,q,ex,hm,ak,dJ⟩:=lo.ok _ (rO h);obtain⟨au,az⟩:=I1.IQ.mp ex;have au:k=bD m c:=au
 refine⟨m,c,q,au,az,dJ,?_⟩;rw[au];refine á.ļ ⟨m,ñ.ļ ⋯,Ζ.ļ ⟨c.Ο,ñ.ļ (by have:=ak.1;have:=ak.2;omega),?_⟩⟩;rw[G.aiy ak.1]
theorem Xk {h:B}{n t:G}{f:Y (Y Ř×V)}(Ϻ:Fl.ħ w h L)(dS:0<=n)(lo:eN E L f)(re:Rest C E n t f)(aH:OM C t (t+1))(ϻ:¬∀k,aW f k=aW (hZ C i w L E n t f) k):
  Sr.gr n (mE E.N L.N) (qd (hZ C i w L E n t f))<Sr.gr n (mE E.N L.N) (qd f):=by
 have qf:eN E L (hZ C i w L E n t f):=(tm lo (qc Ϻ)).bX
 have le:∀k q,aW f k=O (.M q)->q<=n:=λk q aG=>by
  obtain⟨m,c,r,rfl,e,_⟩:=nF lo aG;exact(re m c q aG).2.1
 have xD:=LK (C:=C) (t:=t) (E:=E) (n:=n) Ϻ lo le (LL (i:=i) (w:=w) (L:=L))
 refine Sr.T4 (λk q aq=>?_) (λk r aq=>?_) ?_
 ·have aG:=qe.mp aq
  obtain⟨m,c,r,rfl,e,_⟩:=nF lo aG;obtain⟨r,g,ah⟩:=grow (i:=i) Ϻ dS lo re aH aG;exact⟨r,qe.ļ g,ah⟩
 ·have aG:=qe.mp aq
  obtain⟨m,c,q,rfl,e,dJ,_⟩:=nF qf aG;cases e;exact⟨dJ,(xD m c r aG).2.1⟩
 ·obtain⟨k,aq⟩:=TD.not_forall.mp ϻ;refine⟨k,?_,λz=>aq ?_⟩
  ·cases e:aW f k with
   | O v=>obtain⟨_,_,_,_,_,_,hm⟩:=nF lo e;exact hm
   | none=>
    cases az:aW (hZ C i w L E n t f) k with
    | O v=>obtain⟨_,_,_,_,_,_,hm⟩:=nF qf az;exact hm
    | none=>exact bJ (e.Ϛ az.symm) aq
  ·cases e:aW f k with
   | O v=>
    obtain⟨_,_,q,_,rfl,_⟩:=nF lo e;rw[qe.ļ e]at z;exact(qe.mp z.symm).symm
   | none=>
    cases az:aW (hZ C i w L E n t f) k with
    | none=>rfl
    | O v=>
     obtain⟨_,_,q,_,rfl,_⟩:=nF qf az;rw[qe.ļ az]at z;rw[qe.mp z]at e;cases e
abbrev la (E:Y G)(L:Y B):={f:Y (Y Ř×V) // eN E L f}
abbrev amF (a c:la E L):Prop:=∀k,aW a.1 k=aW c.1 k
def IM (C:Y Ĕ)(i:B){h:B}(E:Y G)(n:G)(Ϻ:Fl.ħ w h L)(t:G)(f:la E L):la E L:=⟨hZ C i w L E n t f.1,(tm f.2 (qc Ϻ)).bX⟩
theorem tq {h:B}{n ū:G}(Ϻ:Fl.ħ w h L):Sr.sT amF (IM C i E n Ϻ) (λt (f:la E L)=>k9 C E f.1 t ū) where
 Ô:=λ_ _=>rfl
 symm:=λh k=>(h k).symm
 Ϛ:=λh h' k=>(h k).Ϛ (h' k)
 zN:=λ{a c} t h k=>Xf a.2 c.2 h (qc Ϻ) k
 test:=λt h=>λ⟨q,v,g,ah⟩=>⟨q,v,by rwa[<- h],ah⟩
def nG (i:B)(L:Y B)(f:Y (Y Ř×V)):Prop:=∀(m:B)(c q:G),(bD m c,V.M q)∈f->dO i (Ó L c)=true
theorem Xl {h:B}{n:G}{f:Y (Y Ř×V)}(Ϻ:Fl.ħ w h L)(dS:0<=n)(lo:eN E L f)(s:nG i L f):Ñ (ŧ op i w L E n) f=Ñ (kp op i w L E n) f:=by
 unfold Ñ;congr 1
 have:∀l:Y (Y Ř×V),(∀x∈l,x∈f)->l.be (nE (ŧ op i w L E n))=l.be (nE (kp op i w L E n)):=by
  intro l;induction l with
  | ń=>intro _;rfl
  | θ x r bB=>
   intro aw;rw[Y.ant,Y.ant,bB λy aU=>aw y (by simp[aU])];congr 1
   have ai:=aw x (by simp)
   obtain⟨m,c,q,rfl,hm,ak,dJ⟩:=lo.ok x ai;exact WX Ϻ (s m c q ai) dS dJ
 exact ν f λ_ h=>h
theorem Xm {h:B}{n:G}{f:Y (Y Ř×V)}(Ϻ:Fl.ħ w h L)(lo:eN E L f)(s:nG i L f):nG i L (Ñ (kp op i w L E n) f):=λm c q hm=>by
 have kq:=tp (f:=kp op i w L E n) lo (qc Ϻ)
 obtain⟨r,e,lY,_⟩:=kq.to _ _ (nx kq.nd hm);obtain⟨x,ai,aq⟩:=á.mp lY;obtain⟨ba,aX,bC,rfl,_,_,dJ⟩:=lo.ok _ ai;have aq:(bD m c,r)∈kp op i w L E n ((ba:G)).Ο aX bC:=aq
 obtain⟨o,av,oL⟩:=Ŕ.mp aq;unfold rN at oL;split at oL
 ·rename_i bF;obtain⟨au,_⟩:=I1.IQ.mp (ϣ.O.W1 oL);obtain⟨_,dN⟩:=lU au;subst dN;by_cases z:o=aX
  ·rw[z];exact s ba aX bC ai
  ·have h0:=bF.2
   unfold oK at h0;rw[aD z]at h0;unfold p9 at h0;split at h0
   ·rename_i y;split at y
    ·assumption
    ·omega
   ·rename_i y;split at y
    ·assumption
    ·cases y
 ·cases oL
inductive Xn (D:bZ)(d:Y V)(H:ag)(Q:a8)(ϵ:bz):Prop
 | mk (x dx:Ϩ)(v:V)(k:G)(_:d=[.Z x,v,.M k])(_:H x=O (.Â (D 115) dx []))(_:Q .br (ſ H x (.Â (D 115) dx [("path",v),("left",.M k)])))
theorem Xo {h:B}(Ϻ:Fl.ħ w h L){o:G}(ak:ee L c)(aF:Ó L c≠35)(av:o∈fk w L c):c∈fk w L o:=by
 have io:=ti Ϻ av
 rw[CW Ϻ ak.1 ak.2]at av;rw[CW Ϻ io.1 io.2];unfold zB at av ⊢;obtain⟨g,ah⟩:=ĥ.mp av;refine ĥ.ļ ⟨ut.ļ ?_,?_⟩
 ·unfold eG;rw[ι ak.1,ι ak.2,Γ aF];rfl
 ·rw[Μ]at ah ⊢;have e:∀a b:G,(a-b)*(a-b)=(b-a)*(b-a):=λa b=>by rw[show a-b=-(b-a) by omega,G.ak1]
  rwa[e,e (c%w)]
abbrev dr:=Y (Y Ř×V)
abbrev jd (C:Y Ĕ)(i w:B)(L:Y B)(E:Y G)(n:G):G->dr->dr:=λt f=>Ñ (ŧ (fm C t) i w L E n) f
structure jE (sp:G->dr->dr)(ϴ:G->dr)(T:G)(ms:Y (G×dr)):Prop where
 Đ:∀t f,ms[0]?=O (t,f)->t<=T/\(∀s,t<=s->s<T->∀k,aW (sp s f) k=aW f k)/\∀s,t<=s->s<=T->∀k,aW (ϴ s) k=aW f k
 Av:∀(i:B) t f t' i3,ms[i]?=O (t,f)->ms[i+1]?=O (t',i3)->t'<t/\f=sp (t-1) i3/\(∀s,t'<=s->s<t-1->∀k,aW (sp s i3) k=aW i3 k)/\∀s,t'<=s->s<t->∀k,aW (ϴ s) k=aW i3 k
section
variable {sp:Int->dr->dr}{F:Int->dr}{b T qg t t':Int}{f i3:dr}{ms:List (Int×dr)}{k ha:List Key}{q bC:Int}{i:Nat}
theorem jE.ã (kf:∀k,aW (ϴ b) k=aW f k):jE sp ϴ b [(b,f)]:=⟨λt f e=>by cases e;exact⟨G.ϑ _,λs g ah=>by omega,λs g ah=>by rw[show s=b by omega];exact kf⟩,λi t f t' i3 _ e=>by cases e⟩
theorem jE.go (h:jE sp ϴ T ((t,f)::ms))(kf:∀k,aW (ϴ (T+1)) k=aW (sp T f) k):jE sp ϴ (T+1) ((T+1,sp T f)::(t,f)::ms):=by
 obtain⟨g,ah,aI⟩:=h.Đ t f rfl;refine⟨λt f e=>by cases e;exact⟨G.ϑ _,λs g ah=>by omega,λs g ah=>by rw[show s=T+1 by omega];exact kf⟩,λi u Ϻ l6 g' e bq=>?_⟩;cases i with
 | HW=>
  cases e;cases bq;exact⟨⋯,by rw[show T+1-1=T by omega],λs a b=>ah s a ⋯,λs a b=>aI s a ⋯⟩
 | o0 i=>exact h.Av i u Ϻ l6 g' e bq
theorem jE.skip (h:jE sp ϴ T ((t,f)::ms))(l:T<=qg)(E:∀s,T<=s->s<qg->∀k,aW (sp s f) k=aW f k)(kf:∀s,T<=s->s<=qg->∀k,aW (ϴ s) k=aW f k):jE sp ϴ qg ((t,f)::ms):=by
 obtain⟨g,ah,aI⟩:=h.Đ t f rfl;refine⟨λu Ϻ e=>?_,h.Av⟩;cases e;refine⟨⋯,λs a b=>?_,λs a b=>?_⟩
 ·by_cases z:s<T
  ·exact ah s a z
  ·exact E s ⋯ b
 ·by_cases z:s<T
  ·exact aI s a ⋯
  ·exact kf s ⋯ b
structure qh (sp:G->dr->dr)(ϴ:G->dr)(t:G)(f:dr)(T:G)(k:Y Ř)(q:G):Prop where
 le:t<=T
 now:T=t->aW f k=O (.M q)
 Xp:t<T->aW (sp (T-1) f) k=O (.M q)
 gS:∀s,t<=s->s<T-1->∀k,aW (sp s f) k=aW f k
 xE:∀s,t<=s->s<T->∀k,aW (ϴ s) k=aW f k
theorem qh.back (h:qh sp ϴ t f T k q)(l:t<T)(v:aW f ha=O (.M bC)):qh sp ϴ t f (T-1) ha bC:=
 ⟨⋯,λ_=>v,λz=>by rwa[h.gS (T-1-1) ⋯ ⋯],λs a b=>h.gS s a ⋯,λs a b=>h.xE s a ⋯⟩
theorem jE.first (h:jE sp ϴ T ms)(e:ms[0]?=O (t,f))(v:aW f k=O (.M q)):qh sp ϴ t f T k q:=by
 obtain⟨g,ah,aI⟩:=h.Đ t f e;exact⟨g,λ_=>v,λz=>by rwa[ah (T-1) ⋯ ⋯],λs a b=>ah s a ⋯,λs a b=>aI s a ⋯⟩
theorem jE.next (h:jE sp ϴ T ms)(e:ms[i]?=O (t,f))(bq:ms[i+1]?=O (t',i3))(v:aW f k=O (.M q)):qh sp ϴ t' i3 t k q:=by
 obtain⟨g,ah,aI,bO⟩:=h.Av i t f t' i3 e bq;exact⟨⋯,λz=>by omega,λz=>by rwa[<- ah],aI,bO⟩
end
def LM (R:B->G->G->Y (Y Ř×G))(f:dr)(k:Y Ř)(q:G)(x:B×G):Prop:=∃bC,aW f (bD x.1 x.2)=O (.M bC)/\(k,q)∈R x.1 x.2 bC
def tr (R:B->G->G->Y (Y Ř×G))(f:dr)(k:Y Ř)(q:G)(x:B×G):Prop:=LM R f k q x/\∀y,LM R f k q y->air.jw [(x.1:G),x.2] [(y.1:G),y.2]
theorem tr.ű {R:B->G->G->Y (Y Ř×G)}{f i3:dr}{k:Y Ř}{x:B×G}(h:tr R f k q x)(e:∀k,aW i3 k=aW f k):tr R i3 k q x:=
 ⟨let⟨a,b,c⟩:=h.1;⟨a,by rwa[e],c⟩,λy ⟨a,b,c⟩=>h.2 y ⟨a,by rwa[<- e],c⟩⟩
structure lb (R:G->B->G->G->Y (Y Ř×G))(ϴ:G->dr)(T:G)(k:B×G)(rs:Y (B×G)):Prop where
 hd:rs[0]?=O k
 E:∀(j:B) x y,rs[j]?=O y->rs[j+1]?=O x->∃q,aW (ϴ (T-j)) (bD y.1 y.2)=O (.M q)/\tr (R (T-j-1)) (ϴ (T-j-1)) (bD y.1 y.2) q x
theorem lb.Pb {ϴ:G->dr}{T:G}{k:B×G}:lb R ϴ T k [k]:=⟨rfl,λj x y _ e=>by cases e⟩
theorem lb.O2 {ϴ:G->dr}{T eZ:G}{k x y:B×G}(h:lb R ϴ T k rs)(lZ:rs.aiQ=O y)(Aw:(rs.N:G)=T-eZ+1)(v:aW (ϴ eZ) (bD y.1 y.2)=O (.M q))(l:tr (R (eZ-1)) (ϴ (eZ-1)) (bD y.1 y.2) q x):lb R ϴ T k (rs++[x]):=by
 have ln:0<rs.N:=(Y.Ϧ.mp h.hd).1
 refine⟨by rw[Ŭ ln];exact h.hd,λj a b e bq=>?_⟩;have kk:=(Y.Ϧ.mp bq).1
 rw[υ,LE]at kk;rw[Ŭ ⋯]at e;by_cases z:j+1<rs.N
 ·rw[Ŭ z]at bq;exact h.E j a b e bq
 ·have kU:j=rs.N-1:=⋯
  rw[Ő ⋯,show j+1-rs.N=0 by omega]at bq;cases bq;rw[Y.aja,<- kU,e]at lZ;cases lZ;rw[show T-(j:G)=eZ by omega];exact⟨q,v,l⟩
theorem hi.eY {k:Ϩ}{a4:μ ϫ}(h:hi Ϸ H p ϻ C)(aq:H k=O (.f3 a4))(s:cM k H U):hi Ϸ U p ϻ C:=by
 obtain⟨⟨⟨dx,e⟩,t⟩,cy⟩:=h;exact⟨⟨⟨dx,s _ _ e (bM e aq nofun)⟩,s _ _ t (bM t aq nofun)⟩,cy.dh (s.dh (λF z=>by rw[aq]at z;cases z))⟩
theorem Xq {a4:μ ϫ}:Tab (.f3 a4):=⟨λ_ _ _ z=>(nomatch z),λ_ z=>(nomatch z),λ_ _ z=>(nomatch z),λ_ z=>(nomatch z)⟩
theorem e5.b {k:Ϩ}{bS:dr}(h:e5 ŷ Ρ a4 H)(aq:H k=O (.bQ bS))(s:cM k H U):e5 ŷ Ρ a4 U:=by
 obtain⟨t,a,b,c⟩:=h;refine⟨t,s _ _ a (bM a aq nofun),b,c.Pg id λ⟨x,co,au,az,bY⟩=>⟨x,co,au,s _ _ az (bM az aq nofun),bY⟩⟩
theorem hi.b {k:Ϩ}{bS:dr}(h:hi Ϸ H p ϻ C)(aq:H k=O (.bQ bS))(s:cM k H U):hi Ϸ U p ϻ C:=by
 obtain⟨⟨⟨dx,e⟩,a4⟩,cy⟩:=h;exact⟨⟨⟨dx,s _ _ e (bM e aq nofun)⟩,s _ _ a4 (bM a4 aq nofun)⟩,cy.dh (s.dh (λF z=>by rw[aq]at z;cases z))⟩
theorem fF.ints {z:Ϩ}{cs:Y G}(h:fF H bI i w L E)(hz:H z=O (.Ť (cs.ϒ V.M)))(ak:cs≠[]):qb H bI z:=by
 obtain⟨Ϝ,g,ah,aI,bO⟩:=h;intro bS k l e aG y;rw[g]at e;cases e;obtain⟨m,c,rfl,_⟩:=aI k (sz aG);obtain⟨ue,e,ts,q,_⟩:=bO m c _ aG;cases e;rw[y,hz]at q;injection q with q
 injection q with q
 cases cs with
 | ń=>exact ak rfl
 | θ a r=>
  cases ts with
  | ń=>cases q
  | θ t ts=>cases (Y.θ.W1 q).1
theorem jE.SC {sp:G->dr->dr}{ϴ:G->dr}{T b:G}{ms:Y (G×dr)}(h:jE sp ϴ T ms)(af:∀x∈ms,b<=x.1):(ms.N:G)<=T-b+1\/ms=[]:=by
 have low:∀(i:B) t f,ms[i]?=O (t,f)->t+i<=T:=by
  intro i;induction i with
  | HW=>intro t f e;have:=(h.Đ t f e).1;omega
  | o0 i bB=>
   intro t f e;have aA:i<ms.N:=by have:=(Y.Ϧ.mp e).1;omega
   have bq:ms[i]?=O ((ms[i]'aA).1,(ms[i]'aA).2):=ϡ aA
   have:=(h.Av i _ _ t f bq e).1
   have:=bB _ _ bq
   omega
 cases ms with
 | ń=>exact .Œ rfl
 | θ x r=>
  have aA:r.N<(x::r).N:=by rw[ŵ];omega
  have e:(x::r)[r.N]?=O (((x::r)[r.N]'aA).1,((x::r)[r.N]'aA).2):=ϡ aA
  have:=low _ _ _ e
  have:=af _ (Y.getElem_mem aA)
  rw[ŵ];exact .ε ⋯
theorem ϋ.O2 {R:α->β->Prop}{l:Y α}{m:Y β}{a:α}{b:β}(p:ϋ R l m)(h:R a b):ϋ R (l++[a]) (m++[b]):=by
 induction p with
 | ń=>exact .θ h .ń
 | θ k r bB=>exact .θ k bB
def qi (H:ag)(bI a:Ϩ)(x:G×dr):Prop:=∃bX,H a=O (.Ţ [.M x.1,.Z bX])/\H bX=O (.bQ x.2)/\bX≠bI
theorem qi.b {z:Ϩ}{x:G×dr}(h:qi H bI a x)(s:cM z H U)(nD:∀bX,H bX=O (.bQ x.2)->bX≠bI->bX≠z)(jW:∀F,H z≠O (.Ţ F)):qi U bI a x:=by
 refine IS λUq uq=>?_;obtain⟨bX,g,ah,aI⟩:=h;exact uq (⟨bX,s _ _ g (λy=>jW _ (y ▸ g)),s _ _ ah (nD bX ah aI),aI⟩)
theorem Xr {h:B}{n:G}(Ϻ:Fl.ħ w h L){m ba:B}{aX bC:G}(hm:ba<=E.N)(ak:ee L aX)(aH:dO i (Ó L aX)=true)(aq:(bD m c,q)∈ŧ op i w L E n ba aX bC):aX∈fk w L c\/aX=c:=by
 rcases κ.mp aq with y|y
 ·split at y
  ·obtain⟨au,_⟩:=I1.IQ.mp (ϖ.mp y);exact .Œ (lU au).2.symm
  ·cases y
 ·obtain⟨z,hz,e⟩:=Ŕ.mp y;unfold oJ at e;split at e
  ·obtain⟨au,_⟩:=I1.IQ.mp (ϣ.O.W1 e);obtain⟨di,o,az,_,_,bY⟩:=En Ϻ hm z hz;have au:z.1=bD m c:=au
   rw[az]at au;obtain⟨_,rfl⟩:=lU au;exact .ε (Xo Ϻ ak (λz=>by rw[W9 z]at aH;cases aH) bY)
  ·cases e
theorem Xs {n:G}{f:dr}(lo:eN E L f){m:B}(aq:(bD m c,q)∈f.be (nE (ŧ op i w L E n))):
  ∃(j ba:B)(aX bC:G),f[j]?=O (bD ba aX,.M bC)/\(bD m c,q)∈ŧ op i w L E n ba aX bC:=by
 obtain⟨x,ai,aq⟩:=á.mp aq;obtain⟨ba,aX,bC,rfl,hm,ak,dJ⟩:=lo.ok x ai;obtain⟨j,bg⟩:=Ŏ ai;have aq:(bD m c,q)∈ŧ op i w L E n ((ba:G)).Ο aX bC:=aq
 rw[ũ]at aq;exact⟨j,ba,aX,bC,bg,aq⟩
theorem j8.Pb {t:Ϩ}{x y:Y Ř×G}(h:j8 H t x)(h':j8 H t y):x=y:=by
 obtain⟨b,g,ah⟩:=h;obtain⟨cc,aI,bO⟩:=h';rw[g]at aI;injection aI with aI
 injection aI with aI
 injection aI with au az
 injection au with au
 injection az with az _
 injection az with az
 rw[<- au,ah]at bO;injection bO with bO
 injection bO with bO
 exact I1.ext (GQ bO) az
def nH (x:Y Ř×G):Ŀ:=.B_ [.B_ (x.1.ϒ λk=>match k with|.ε i=>.M i|.Œ s=>.str s),.M x.2]
open Classical in
theorem pick {p1:Ϩ}{x1:Y Ř×G}(g:j8 H p1 x1)(ay:ϋ (j8 H) ts ps)(k1:∃(m:B)(c:G),x1.1=bD m c)(ks:∀x∈ps,∃(m:B)(c:G),x.1=bD m c):
  ∃ϻ:Ϩ->Ŀ,(∀t,t=p1\/t∈ts->Den K H (.Z t) (ϻ t)/\ĝ.ii (ϻ t)=true)/\((ts.J_ λt=>(ϻ t).Bo (ϻ p1))=true↔x1∈ps):=by
 let Ϻ:Ϩ->Y Ř×G:=λt=>if h:∃x,j8 H t x then choose h else([],0)
 have xF:∀{t x},j8 H t x->Ϻ t=x:=λ{t x} h=>by
  show(if h:∃x,j8 H t x then choose h else([],0))=x
  rw[dif_pos ⟨x,h⟩];exact(choose_spec (⟨x,h⟩:∃x,j8 H t x)).Pb h
 have Pb:∀{t x},j8 H t x->(∃(m:B)(c:G),x.1=bD m c)->Den K H (.Z t) (nH (Ϻ t))/\ĝ.ii (nH (Ϻ t))=true:=λ{t x} h ⟨m,c,e⟩=>by
  rw[xF h];obtain⟨b,g,ah⟩:=h;obtain⟨k,q⟩:=x;have e:k=bD m c:=e
  subst e;exact⟨.Ţ (bN.of g) (.θ (.Ţ (bN.of ah) (.θ (.M _) (.θ (.M _) .ń))) (.θ (.M _) .ń)),rfl⟩
 have eq:∀{x y:Y Ř×G},(∃(m:B)(c:G),x.1=bD m c)->(∃(m:B)(c:G),y.1=bD m c)->((nH x).Bo (nH y)=true↔x=y):=λ{x y} ⟨m,c,e⟩ ⟨ba,aX,bq⟩=>by
  obtain⟨k,q⟩:=x;obtain⟨ha,bC⟩:=y;have e:k=bD m c:=e
  have bq:ha=bD ba aX:=bq
  subst e bq;simp only[nH,bD,Ŷ,rc,Ŀ.Bo,Ŀ.eqvAll,Ŵ,Ā,anN,I1.mk.anH,Y.θ.anH,IZ.ε.anH]
 refine⟨λt=>nH (Ϻ t),λt bk=>?_,?_⟩
 ·rcases bk with rfl|bk
  ·exact Pb g k1
  ·obtain⟨j,bg⟩:=Ŏ bk;obtain⟨x,ai,aF⟩:=ϋ.lM ay bg;exact Pb aF (ks x (ύ ai))
 ·rw[ú];constructor
  ·rintro⟨t,bk,e⟩;obtain⟨j,bg⟩:=Ŏ bk;obtain⟨x,ai,aF⟩:=ϋ.lM ay bg;have hm:=ύ ai
   have e:(nH (Ϻ t)).Bo (nH (Ϻ p1))=true:=e
   rw[xF aF,xF g]at e;rwa[<- (eq (ks x hm) k1).mp e]
  ·intro hm;obtain⟨j,bg⟩:=Ŏ hm;obtain⟨t,bk,aF⟩:=ϋ.Ph ay bg;exact⟨t,ύ bk,by show(nH (Ϻ t)).Bo (nH (Ϻ p1))=true;rw[xF aF,xF g];exact(eq k1 k1).ļ rfl⟩
inductive Xt (D:bZ)(K:ş)(d:Y V)(H:ag)(Q:a8)(ϵ:bz):Prop
 | mk (p bX ϻ nd:Ϩ)(S:il)(i:B)(n t:G)(w h:B)(L:Y B)(E:Y G)(C:Y Ĕ)(c3:dr)(m:B)(c q:G)(_:d=[.Z p,.M t,.Z bX,.Z nd,.M q])(_:fG D K H p S i n w h L E)(_:hi (D 117) H S.bf ϻ C)(_:i5 C)(_:0<=n)(_:H bX=O (.bQ c3))(_:eN E L c3)(_:bX≠S.bI)(_:nG i L c3)(_:H nd=O (.Ţ ((bD m c).ϒ bH)))(_:ee L c)(_:(bD m c,q)∈c3.be (nE (ŧ (fm (c7 C S.n) t) i w L E n)))(_:∀r U (ba:B) (aX bC:G),cM S.bI H U->fF U S.bI i w L E->U r=O (.Ţ ((bD ba aX).ϒ bH))->aW c3 (bD ba aX)=O (.M bC)->tr (ŧ (fm (c7 C S.n) t) i w L E n) c3 (bD m c) q (ba,aX)->Q (.Z r) U)
theorem Xu {F:Y α}{v:α}(h:F[F.N-1]?=O v):fH F (-1)=O v:=by
 have l:=(Y.Ϧ.mp h).1
 have e:kd F.N (-1)=O (F.N-1):=by
  unfold kd;rw[aD ∅,aS ⋯];exact ż O ⋯
 unfold fH;rwa[e]
inductive Xv (D:bZ)(K:ş)(d:Y V)(H:ag)(Q:a8)(ϵ:bz):Prop
 | mk (p mk nd ϻ:Ϩ)(S:il)(i:B)(n T b:G)(w h:B)(L:Y B)(E:Y G)(C:Y Ĕ)(m:B)(c q:G)(as:Y Ϩ)(ms:Y (G×dr))(ϴ:G->dr)(_:d=[.Z p,.Z mk,.M T,.Z nd])(_:fG D K H p S i n w h L E)(_:hi (D 117) H S.bf ϻ C)(_:i5 C)(_:0<=n)(_:H mk=O (.Ť (as.ϒ V.Z)))(_:ϋ (qi H S.bI) as ms.Ĭ)(_:(∀x∈ms,eN E L x.2/\nG i L x.2/\b<=x.1))(_:jE (jd (c7 C S.n) i w L E n) ϴ T ms)(_:(∃f,ms.aiQ=O (b,f)))(_:(∃t f,ms[0]?=O (t,f)/\aW f (bD m c)=O (.M q)))(_:H nd=O (.Ţ ((bD m c).ϒ bH)))(_:T<=b+100000)(_:∀r U (rs:Y (B×G)),cM S.bI H U->fF U S.bI i w L E->H r=none->U r=O (.Ţ ((rs.ϒ (·.2)).Ĭ.ϒ V.M))->(rs.N:G)=T-b+1->lb (λu=>ŧ (fm (c7 C S.n) u) i w L E n) ϴ T (m,c) rs->Q (.Z r) U)
theorem Xw {a c:dr}(q7:eN E L a)(lc:eN E L c):JJ a c↔∀k,aW a k=aW c k:=by
 constructor
 ·rintro⟨aw,h⟩ k;cases e:aW a k with
  | O v=>exact(h _ (rO e)).symm
  | none=>
   cases az:aW c k with
   | none=>rfl
   | O v=>
    have bD:k ∉ a.ϒ (·.1):=λz=>by
     obtain⟨x,ai,bY⟩:=Ζ.mp z;exact JI e x ai bY
    have:=sP (m:=c.ϒ (·.1)) (ŉ.ļ ⟨bD,q7.nd⟩) λx ai=>by
     rcases ς.mp ai with rfl|ai
     ·exact sz az
     ·obtain⟨y,aU,rfl⟩:=Ζ.mp ai;exact sz (h y aU)
    rw[ŵ,ϧ,ϧ]at ν;omega
 ·intro h;have Pd:∀{x y:dr},eN E L x->(∀k,aW x k=aW y k)->x.N<=y.N:=λ{x y} lW h=>by
   have:=sP (m:=y.ϒ (·.1)) lW.nd λk aq=>by
    obtain⟨z,hz,rfl⟩:=Ζ.mp aq;have e:=nx lW.nd hz
    rw[h]at e;exact sz e
   rw[ϧ,ϧ]at ν;exact ν
  have g:=Pd q7 h
  have ah:=Pd lc λk=>(h k).symm
  exact⟨⋯,λp ay=>by rw[<- h];exact nx q7.nd ay⟩
def nI (E:Y G)(L:Y B)(n:G):B:=(E.N+1)*L.N*(n+1).Ο
abbrev rP (E:Y G)(L:Y B)(n:G)(f:dr):B:=Sr.gr n (mE E.N L.N) (qd f)
theorem Xx {n:G}{f:dr}(lo:eN E L f):rP E L n f<=nI E L n:=by
 unfold nI;rw[<- Iv];show Sr.gr n (mE E.N L.N) (qd f)<=(mE E.N L.N).N*(n+1).Ο
 generalize mE E.N L.N=ks
 induction ks with
 | ń=>exact ł _
 | θ k ks bB=>
  have Pb:Sr.sV n (qd f k)<=(n+1).Ο:=by
   cases e:qd f k with
   | none=>exact B.ϑ _
   | O q=>
    obtain⟨_,_,r,_,az,mq,_⟩:=nF lo (qe.mp e);cases az;show(n-q).Ο<=_
    omega
  rw[ŵ,B.succ_mul];unfold Sr.gr at bB ⊢;rw[Ŷ,aiP];omega
structure Sc (C:Y Ĕ)(i:B){w h:B}{L:Y B}(E:Y G) (n:G) (d9:Fl.ħ w h L) (b q ū:G) (f0:la E L) (t:G) (f:dr) (ms:Y (G×dr)) (m:B):Prop where
 lo:eN E L f
 gh:nG i L f
 le:∀k q,aW f k=O (.M q)->q<=n
 at':Sr.At amF (IM C i E n d9) (λt (f:la E L)=>k9 C E f.1 t ū) b q f0 t ⟨f,lo⟩
 seg:jE (jd C i w L E n) (λu=>(Sr.fe (IM C i E n d9) b f0 u).1) t ms
 hd:∃t1 r,ms=(t1,f)::r
 IY:∀x∈ms,eN E L x.2/\nG i L x.2/\b<=x.1
 last:∃Ϻ,ms.aiQ=O (b,Ϻ)
 bd:(t<=q/\m=(q+1-t).Ο+nI E L n+1)\/(q<t/\Rest C E n t f/\t+rP E L n f<=q+1+nI E L n/\m=rP E L n f)
section
variable {es:List Ent}{i:Nat}{w h:Nat}{sg:List Nat}{st:List Int}{n:Int}{d9:Fl.Good w h sg}{b q least:Int}{f0:la st sg}{t:Int}{f:dr}{ms:List (Int×dr)}{m:Nat}
theorem Sc.ã (gh:nG i L f0.1)(le:∀k q,aW f0.1 k=O (.M q)->q<=n)(xG:b<=q):Sc C i E n d9 b q ū f0 b f0.1 [(b,f0.1)] ((q+1-b).Ο+nI E L n+1):=
 ⟨f0.2,gh,le,Sr.At.ã (tq d9),.ã (λk=>by show aW (Sr.fe (IM C i E n d9) b f0 b).1 k=_;rw[Sr.Dj]),⟨b,[],rfl⟩,λx ai=>by rw[ϖ.mp ai];exact⟨f0.2,gh,G.ϑ _⟩,⟨f0.1,rfl⟩,.ε ⟨xG,rfl⟩⟩
theorem Sc.Đ (s:Sc C i E n d9 b q ū f0 t f ms m)(xG:b<=q):b<=t/\t<=q+1+nI E L n:=⟨s.at'.le,by rcases s.bd with⟨z,_⟩|⟨_,_,z,_⟩<;>omega⟩
theorem Sc.eq (s:Sc C i E n d9 b q ū f0 t f ms m)(dS:0<=n)(u:G):jd C i w L E n u f=hZ C i w L E n u f:=Xl d9 dS s.lo s.gh
theorem Sc.go (s:Sc C i E n d9 b q ū f0 t f ms m)(dS:0<=n)(zO:∀u,q<=u->OM C u (u+1))(no:¬k9 C E f t ū)(ϻ:¬∀k,aW (jd C i w L E n t f) k=aW f k):
  ∃ba,ba<m/\Sc C i E n d9 b q ū f0 (t+1) (jd C i w L E n t f) ((t+1,jd C i w L E n t f)::ms) ba:=by
 have e:=s.eq dS t
 have qf:eN E L (hZ C i w L E n t f):=(tm s.lo (qc d9)).bX
 have xD:=LK (C:=C) (t:=t) (E:=E) (n:=n) d9 s.lo s.le (LL (i:=i) (w:=w) (L:=L))
 have LN:nG i L (hZ C i w L E n t f):=Xm d9 s.lo s.gh
 have bm:=Xx (n:=n) qf
 rw[e]at ϻ;have ok:∀ba,((t+1<=q/\ba=(q+1-(t+1)).Ο+nI E L n+1)\/(q<t+1/\Rest C E n (t+1) (hZ C i w L E n t f)/\t+1+rP E L n (hZ C i w L E n t f)<=q+1+nI E L n/\ba=rP E L n (hZ C i w L E n t f)))->Sc C i E n d9 b q ū f0 (t+1) (jd C i w L E n t f) ((t+1,jd C i w L E n t f)::ms) ba:=λba bd=>by
  obtain⟨t1,r,rfl⟩:=s.hd;have Ph:=s.at'.go (tq d9) no ϻ
  have LO:=s.seg.go λk=>by rw[e];exact(Ph.eq k).symm
  rw[e]at LO ⊢;refine⟨qf,LN,λk x aG=>?_,Ph,LO,⟨_,_,rfl⟩,λx ai=>?_,?_,bd⟩
  ·obtain⟨p4,c,y,rfl,fJ,_⟩:=nF qf aG;exact(xD p4 c x aG).2.1
  ·rcases ς.mp ai with rfl|ai
   ·exact⟨qf,LN,by have:=s.at'.le;show b<=t+1;omega⟩
   ·exact s.IY x ai
  ·obtain⟨Ϻ,bF⟩:=s.last;exact⟨Ϻ,by rw[Y.getLast?_cons,bF];rfl⟩
 rcases s.bd with⟨z,rfl⟩|⟨z,re,da,rfl⟩
 ·by_cases y:t+1<=q
  ·exact⟨_,⋯,ok _ (.ε ⟨y,rfl⟩)⟩
  ·exact⟨_,⋯,ok _ (.Œ ⟨⋯,xD,⋯,rfl⟩)⟩
 ·have:=Xk (i:=i) d9 dS s.lo re (zO t ⋯) λy=>ϻ λk=>(y k).symm
  exact⟨_,ν,ok _ (.Œ ⟨⋯,xD,by have:rP E L n (hZ C i w L E n t f)<rP E L n f:=ν;omega,rfl⟩)⟩
theorem Sc.skip (s:Sc C i E n d9 b q ū f0 t f ms m)(dS:0<=n)(i6:0<=b)(nJ:om C (fu E) v)(no:¬k9 C E f t ū)(ϻ:∀k,aW (jd C i w L E n t f) k=aW f k)(xH:t<q)(bG:t<=r)(bW:r<=q)(a0:OM C t r):∃ba,ba<m/\Sc C i E n d9 b q ū f0 (max (t+1) r) f ms ba:=by
 have eY:=s.at'.le
 have e:=s.eq dS
 have op:∀u,t<=u->u<max (t+1) r->jd C i w L E n u f=jd C i w L E n t f:=λu g ah=>by
  by_cases z:u=t
  ·rw[z]
  ·show Ñ (ŧ (fm C u) i w L E n) f=Ñ (ŧ (fm C t) i w L E n) f
   rw[Xg a0 g ⋯]
 have dH:amF (IM C i E n d9 t ⟨f,s.lo⟩) ⟨f,s.lo⟩:=λk=>by
  show aW (hZ C i w L E n t f) k=_
  rw[<- e];exact ϻ k
 have di:∀u,t<=u->u<max (t+1) r->amF (IM C i E n d9 u ⟨f,s.lo⟩) (IM C i E n d9 t ⟨f,s.lo⟩):=λu g ah k=>by
  show aW (hZ C i w L E n u f) k=aW (hZ C i w L E n t f) k
  rw[<- e,<- e,op u g ah]
 refine⟨(q+1-max (t+1) r).Ο+nI E L n+1,?_,s.lo,s.gh,s.le,?_,?_,s.hd,s.IY,s.last,.ε ⟨⋯,rfl⟩⟩
 ·rcases s.bd with⟨z,rfl⟩|⟨z,_⟩<;>omega
 ·refine s.at'.skip (tq d9) no dH ⋯ ⋯ di λu g ah y=>no ?_;obtain⟨x,eT,a1,a2,gP,iE⟩:=y;exact⟨x,eT,a1,a2,gP,T5 gP ⋯ a0 ⋯ ⋯ iE⟩
 ·obtain⟨t1,rs,rfl⟩:=s.hd;refine s.seg.skip ⋯ (λu g ah k=>by rw[op u g ah];exact ϻ k) λu g ah k=>?_;have:=Sr.gS (tq (ū:=ū) d9) eY s.at'.eq dH di (u-t).Ο ⋯ k
  rw[show t+(((u-t).Ο:B):G)=u by omega]at ν;exact ν.symm
theorem Sc.Dl (s:Sc C i E n d9 b q ū f0 t f ms m)(dS:0<=n)(no:¬k9 C E f t ū)(ϻ:∀k,aW (jd C i w L E n t f) k=aW f k)(xH:q<=t):Sr.Dk amF (IM C i E n d9) (λt (f:la E L)=>k9 C E f.1 t ū) b q f0 t ⟨f,s.lo⟩:=
 s.at'.Dl (tq d9) no (λk=>by show aW (hZ C i w L E n t f) k=_;rw[<- s.eq dS];exact ϻ k) xH
theorem Sc.found (s:Sc C i E n d9 b q ū f0 t f ms m)(y:k9 C E f t ū):k9 C E (Sr.fe (IM C i E n d9) b f0 t).1 t ū:=(tq (ū:=ū) (C:=C) (i:=i) (n:=n) d9).test t (c:=Sr.fe (IM C i E n d9) b f0 t) s.at'.eq y
end
def qj (E:Y G)(f:dr)(v:V)(t ū:G):Prop:=∃q:G,aW f (bD E.N (fu E))=O (.M q)/\ū<=q/\va v t
theorem LP {f:dr}{t ū:G}(nJ:om C (fu E) v):k9 C E f t ū↔qj E f v t ū:=
 ⟨λ⟨q,u,g,ah,aI,bO⟩=>⟨q,g,ah,by rwa[<- aI.O8 nJ]⟩,λ⟨q,g,ah,aI⟩=>⟨q,v,g,ah,nJ,aI⟩⟩
inductive LQ (zs:Y V)(d:Y V)(H:ag)(Q:a8)(ϵ:bz):Prop
 | mk (t:G)(bX Ϻ:Ϩ)(v:V)(ū:G)(E:Y G)(L:Y B)(f:dr)(_:d=[.M t,.Z bX])(_:zs=[.Z Ϻ,v,.M ū])(_:H bX=O (.bQ f))(_:eN E L f)(_:H Ϻ=O (.Ţ ((bD E.N (fu E)).ϒ bH)))(_:(v=.br\/∃n:G,v=.M n))(_:(qj E f v t ū->Q (.Z Ϻ) H))(_:(¬qj E f v t ū->Q .br H))
theorem Eo {d:Y V}{Q:a8}{ϵ:bz}(h:∃(t:G)(bX Ϻ:Ϩ)(v:V)(ū:G)(E:Y G)(L:Y B)(f:dr),d=[.M t,.Z bX]/\zs=[.Z Ϻ,v,.M ū]/\H bX=O (.bQ f)/\eN E L f/\H Ϻ=O (.Ţ ((bD E.N (fu E)).ϒ bH))/\(v=.br\/∃n:G,v=.M n)/\∀hH,((hH=.Z Ϻ/\qj E f v t ū)\/(hH=.br/\¬qj E f v t ū))->Q hH H):LQ zs d H Q ϵ:=by
 obtain⟨t,bX,Ϻ,v,ū,E,L,f,a1,a2,gP,iE,pW,rq,k⟩:=h;exact⟨t,bX,Ϻ,v,ū,E,L,f,a1,a2,gP,iE,pW,rq,λy=>k _ (.ε ⟨rfl,y⟩),λy=>k _ (.Œ ⟨rfl,y⟩)⟩
theorem fF.marks {z:Ϩ}{as:Y Ϩ}{ms:Y (G×dr)}(h:fF H bI i w L E)(hz:H z=O (.Ť (as.ϒ V.Z)))(pm:ϋ (qi H bI) as ms)(ne:ms≠[]):qb H bI z:=by
 obtain⟨Ϝ,g,ah,aI,bO⟩:=h;intro bS k l e aG y;rw[g]at e;cases e;obtain⟨m,c,rfl,_⟩:=aI k (sz aG);obtain⟨ue,e,ts,q,ez⟩:=bO m c _ aG;cases e;rw[y,hz]at q;injection q with q
 injection q with q
 generalize hF i w L E m c=no at ez
 cases pm with
 | ń=>exact ne rfl
 | θ hm _=>
  cases ez with
  | ń=>cases q
  | θ aF _=>
   injection q with a3 _
   injection a3 with a3
   subst a3;obtain⟨bX,dH,_⟩:=hm;obtain⟨b,di,_⟩:=aF;rw[dH]at di;cases di
def Xy (fM:ag)(p fa mk h1:Ϩ)(S:il)(i:B){h:B}(E:Y G)(C:Y Ĕ)(n:G)(d9:Fl.ħ w h L)(b q ū:G)(v:V)(f0:la E L)(m:B)(J:St)(H:ag):Prop:=
 ∃(t:G)(bX:Ϩ)(f:dr)(as:Y Ϩ)(ms:Y (G×dr))(hH:V)(iK:ϣ V),Sc (c7 C S.n) i E n d9 b q ū f0 t f ms m/\cM S.bI fM H/\fF H S.bI i w L E/\H bX=O (.bQ f)/\bX≠S.bI/\H mk=O (.Ť (as.ϒ V.Z))/\ϋ (qi H S.bI) as ms.Ĭ/\((hH=.Z h1/\qj E f v t ū)\/(hH=.br/\¬qj E f v t ū))/\
  J=[O (.Z p),O (.M b),O (.Z bX),O (.Z fa),O (.M q),O (.M t),O (.Z mk),O hH,iK]
def Xz (D:bZ)(H:ag)(r:Ϩ)(C:Y Ĕ)(i w:B)(L:Y B)(E:Y G)(n b:G)(ϴ:G->dr)(T:G):Prop:=∃(dx pp j3:Ϩ)(k:G)(rs:Y (B×G)),H r=O (.Â (D 115) dx [("path",.Z pp),("left",.M k)])/\H pp=O (.Ţ [.M b,.Z j3])/\H j3=O (.Ţ ((rs.ϒ (·.2)).Ĭ.ϒ V.M))/\(rs.N:G)=T-b+1/\lb (λu=>ŧ (fm C u) i w L E n) ϴ T (E.N,fu E) rs/\aW (ϴ T) (bD E.N (fu E))=O (.M k)
def XA (D:bZ)(fM H:ag)(r:Ϩ)(T:G)(f:dr):Prop:=∃(dx bW:Ϩ),H r=O (.Â (D 116) dx [("moment",.M T),("layer",.Z bW)])/\H bW=O (.bQ f)/\fM bW=none
def LR (D:bZ)(fM H:ag)(r:Ϩ)(C:Y Ĕ)(i:B){w h:B}{L:Y B}(E:Y G)(n:G)(Ϻ:Fl.ħ w h L)(b q ū:G)(f0:la E L):Prop:=
 (∃T,Xz D H r C i w L E n b (λu=>(Sr.fe (IM C i E n Ϻ) b f0 u).1) T/\b<=T/\T<=q+1000/\k9 C E (Sr.fe (IM C i E n Ϻ) b f0 T).1 T ū/\∀u,b<=u->u<T->¬k9 C E (Sr.fe (IM C i E n Ϻ) b f0 u).1 u ū)\/
 ∃(T:G)(f:la E L),XA D fM H r T f.1/\T<=q+1000/\Sr.Dk amF (IM C i E n Ϻ) (λt (f:la E L)=>k9 C E f.1 t ū) b q f0 T f
inductive XB (D:bZ)(K:ş)(fa:Ϩ)(zs:Y V)(d:Y V)(H:ag)(Q:a8)(ϵ:bz):Prop
 | mk (p bX ϻ h1:Ϩ)(S:il)(i:B)(n b ū m0:G)(w h:B)(L:Y B)(E:Y G)(C:Y Ĕ)(f0:dr)(v:V)(d9:Fl.ħ w h L)(lo:eN E L f0)(_:d=[.Z p,.M b,.Z bX,.Z fa])(_:zs=[.Z h1,v,.M ū])(_:fG D K H p S i n w h L E)(_:hi (D 117) H S.bf ϻ C)(_:i5 C)(_:0<=n)(_:n<=20)(_:H bX=O (.bQ f0))(_:bX≠S.bI)(_:nG i L f0)(_:(∀k q,aW f0 k=O (.M q)->q<=n))(_:H h1=O (.Ţ ((bD E.N (fu E)).ϒ bH)))(_:om (c7 C S.n) (fu E) v)(_:0<=b)(_:b<=20000)(_:pZ ((c7 C S.n).ϒ iJ) 0 m0)(_:m0<=20000)(_:E.N<=4)(_:L.N<=9)(_:∀r U,cM S.bI H U->fF U S.bI i w L E->H r=none->LR D H U r (c7 C S.n) i E n d9 b (max b m0) ū ⟨f0,lo⟩->Q (.Z r) U)
inductive XC (D:bZ)(K:ş)(a4:Ϩ)(d:Y V)(H:ag)(Q:a8)(ϵ:bz):Prop
 | mk (aZ ct bf a0 ϻ:Ϩ)(i:B)(n num b ã ch ū m0:G)(w h:B)(L:Y B)(E:Y G)(C:Y Ĕ)(d9:Fl.ħ w h L)(f0:la E L)(_:d=[.Z aZ,.Z ct,.Z bf,.M num,.M b,.M ã,.M ch,.Z a0,.M ū])(_:f0.1=[(bD (Hq E 0 ã) ã,.M ch)])(_:hE D H ct i n)(_:i<=3)(_:gE (D 110) H aZ w h L)(_:aM K H a0 (E.ϒ V.M))(_:E≠[])(_:E.N<=4)(_:L.N<=9)(_:hi (D 117) H bf ϻ C)(_:i5 C)(_:0<=n)(_:n<=20)(_:ch<=n)(_:dO i (Ó L ã)=true)(_:0<=b)(_:b<=20000)(_:pZ ((c7 C num).ϒ iJ) 0 m0)(_:m0<=20000)(_:e5 (jx gZ) "sought.<locals>.there" a4 H)(_:∀r U,sZ a4 H U->e5 (jx gZ) "sought.<locals>.there" a4 U->H r=none->LR D H U r (c7 C num) i E n d9 b (max b m0) ū f0->Q (.Z r) U)
open Fl
open Hq
theorem h2 (l:Ϩ):(cu "things" (V.Z l) []).Ϣ ("things":ϕ)=O (.Z l):=by rw[cL,aS rfl]
theorem mW (l:Ϩ){m:ϕ}(h:¬m="things"):(cu "things" (V.Z l) []).Ϣ m=none:=by rw[cL,aD h];rfl
inductive XD (D:bZ)(d:Y V)(H:ag)(Q:a8)(ϵ:bz):Prop
 | mk (p dx:Ϩ)(_:d=[.Z p])(_:H p=O (.Â (D 119) dx []))(_:∀l,H l=none->Q .br (ſ (ſ H l (.Ť [])) p (.Â (D 119) dx (cu "things" (.Z l) []))))
theorem LS {p:B}(h:p<n):kd n (p:G)=O p:=by
 unfold kd;rw[aS ⋯,aS ⋯];simp
theorem oM {p:B}{x:Ϩ}(h:ts[p]?=O x):fH (ts.ϒ V.Z) (p:G)=O (V.Z x):=gW (by rw[Ϙ,h];rfl)
def xI (i:B)(L:Y B):Y G:=(Õ L).ı λc=>dO i (Ó L c)
inductive XE (D:bZ)(d:Y V)(H:ag)(Q:a8)(ϵ:bz):Prop
 | mk (p aZ:Ϩ)(i:B)(n:G)(w h:B)(L:Y B)(_:d=[.Z aZ,.Z p])(_:hE D H p i n)(_:i<=3)(_:gE (D 110) H aZ w h L)(_:Fl.ħ w h L)(_:Gives H Q (xI i L))
def Ep (i:B)(L:Y B):V->δ
 | .M o=>dO i (Ó L o)
 | _=>false
theorem LU (h:c∈Õ L):ee L c:=by
 have:=ut.mp h
 unfold eG at ν;simp only[Ŵ,Μ]at ν;exact ν.1
theorem XF (h:c∈oi L):ee L c:=CV.mp (ĥ.mp h).1
theorem LV (i:B)(L:Y B)(cs:Y G):(((cs.ϒ V.M).ı (Ep i L)).ϒ λv=>v)=(cs.ı λc=>dO i (Ó L c)).ϒ V.M:=by
 rw[alo,ahp];rfl
theorem XG {h:B}(Ϻ:Fl.ħ w h L)(i:B):(xI i L).N<=100:=B.Ķ (à _ _) (xu Ϻ)
theorem XH:(jb i w L c).N<=4:=by
 unfold jb No;exact B.Ķ (Y.dl _ _) xx
theorem XI {o k:G}(h:(o,k)∈jb i w L c):o∈Õ L:=by
 unfold jb No at h;obtain⟨x,ai,e⟩:=Ŕ.mp h;obtain⟨y,_,az⟩:=ξ.mp e;cases az;unfold fk at ai;exact ut.ļ (ĥ.mp ai).2
theorem XJ {o k:G}(h:j5 i w L c o=O k):1<=k:=by
 unfold j5 at h;split at h
 ·cases h;split<;>decide
 ·split at h
  ·cases h;decide
  ·split at h
   ·cases h;decide
   ·cases h
 ·cases h;decide
theorem LW {H:ag}:∀{ts:Y Ϩ}{ps:Y (G×G)},ϋ (xv H) ts ps->ϋ (λt (bS:Ř×V)=>H t=O (.Ţ [bH bS.1,bS.2])) ts (ps.ϒ λq=>(.ε q.1,.M q.2))
 | _,_,.ń=>.ń
 | _,_,.θ h r=>.θ h (LW r)
theorem Er {f:G->ϣ G}{o:G}:∀(os:Y G)(wv:Y (Ř×V)),aW (kI wv ((No f os).ϒ λq=>(.ε q.1,.M q.2))) (.ε o)=if o∈os/\(f o).Ĵ=true then(f o).ϒ V.M else aW wv (.ε o)
 | [],wv=>by rw[aD (by simp)];rfl
 | x::os,wv=>by
  unfold No;rw[ĉ];cases z:f x with
  | none=>
   have bB:=Er (f:=f) (o:=o) os wv
   unfold No at bB;show aW (kI wv (((os.Ğ _)).ϒ _)) _=_
   rw[bB];by_cases e:o=x
   ·subst e;rw[z,aD (by simp),aD (by simp)]
   ·have az:(o∈x::os/\(f o).Ĵ=true)↔(o∈os/\(f o).Ĵ=true):=by simp[e]
    by_cases h:o∈os/\(f o).Ĵ=true
    ·rw[aS h,aS (az.ļ h)]
    ·rw[aD h,aD (λy=>h (az.mp y))]
  | O y=>
   have bB:=Er (f:=f) (o:=o) os (ß wv (.ε x) (.M y))
   unfold No at bB;show aW (kI (ß wv (.ε x) (.M y)) (((os.Ğ _)).ϒ _)) _=_
   rw[bB,jU];by_cases e:o=x
   ·subst e;rw[z,aS rfl,aS (show o∈o::os/\(O y).Ĵ=true by simp)];split<;>rfl
   ·have az:(o∈x::os/\(f o).Ĵ=true)↔(o∈os/\(f o).Ĵ=true):=by simp[e]
    rw[aD (λh=>e (IZ.ε.W1 h))];by_cases h:o∈os/\(f o).Ĵ=true
    ·rw[aS h,aS (az.ļ h)]
    ·rw[aD h,aD (λy=>h (az.mp y))]
def kr (i w:B)(L:Y B)(full:G)(c o k:G):ϣ G:=if o=c then O (min (k+fZ i (Ó L c)) full) else if o∈fk w L c then(KF i w L c o).ϒ λx=>k-x else none
inductive XK (D:bZ)(d:Y V)(H:ag)(Q:a8)(ϵ:bz):Prop
 | mk (p aZ:Ϩ)(i:B)(n:G)(w h:B)(L:Y B)(c:G)(_:d=[.Z aZ,.Z p,.M c])(_:hE D H p i n)(_:i<=3)(_:gE (D 110) H aZ w h L)(_:Fl.ħ w h L)(_:Q (.bl (eG L c&&dO i (Ó L c))) H)
inductive XM (D:bZ)(d:Y V)(H:ag)(Q:a8)(ϵ:bz):Prop
 | mk (p aZ:Ϩ)(i:B)(n:G)(w h:B)(L:Y B)(c o k x:G)(_:d=[.Z aZ,.Z p,.M c,.M o,.M k])(_:hE D H p i n)(_:i<=3)(_:gE (D 110) H aZ w h L)(_:Fl.ħ w h L)(_:ee L c)(_:kr i w L n c o k=O x)(_:∀U,a5 H U->Q (.M x) U)
inductive XN (D:bZ)(d:Y V)(H:ag)(Q:a8)(ϵ:bz):Prop
 | mk (p ϻ:Ϩ)(C:Y Ĕ)(n:G)(_:d=[.Z p,.M n])(_:nv (D 117) H p ϻ C)(_:(C.ϒ (·.k)).Α)(_:(∃e∈C,e.k=n))(_:Q .br H)
inductive XO (D:bZ)(d:Y V)(H:ag)(Q:a8)(ϵ:bz):Prop
 | mk (p ϻ:Ϩ)(C:Y Ĕ)(e:Ĕ)(_:d=[.Z p,.M e.k])(_:nv (D 117) H p ϻ C)(_:(C.ϒ (·.k)).Α)(_:e∈C)(_:Q e.v H)
def cV (b:G)(c:Y G)(s:G):G:=c.œ (Bj b c s).Ο 0
theorem rQ {b s:G}{c:Y G}(h:b<=s):cT b c s=.M (cV b c s):=aD ⋯
def ip (i w:B)(L:Y B)(n b:G)(c:Y G)(t q:G):Prop:=∃f:B->G,f 0=q/\∀j:B,0<=f j/\f j<=n/\ee L (cV b c (t+j))/\dO i (Ó L (cV b c (t+j)))=true/\kr i w L n (cV b c (t+j)) (cV b c (t+j+1)) (f j)=O (f (j+1))
theorem ip.now {n b t:G}{c:Y G}(h:ip i w L n b c t q):0<=q/\q<=n/\ee L (cV b c t)/\dO i (Ó L (cV b c t))=true:=by
 obtain⟨f,rfl,h⟩:=h;obtain⟨g,ah,aI,bO,_⟩:=h 0;rw[show t+((0:B):G)=t by omega]at aI bO;exact⟨g,ah,aI,bO⟩
theorem ip.next {n b t:G}{c:Y G}(h:ip i w L n b c t q):∃bC,kr i w L n (cV b c t) (cV b c (t+1)) q=O bC/\ip i w L n b c (t+1) bC:=by
 obtain⟨f,rfl,h⟩:=h;obtain⟨_,_,_,_,d1⟩:=h 0;rw[show t+((0:B):G)=t by omega]at d1;refine⟨f 1,d1,λj=>f (j+1),rfl,λj=>?_⟩;have:=h (j+1)
 rw[show t+((j+1:B):G)=t+1+j by omega]at ν;exact ν
structure dW where
 i:B
 n:G
 q:G
structure ef where
 aZ:Ϩ
 ct:Ϩ
 ch:Ϩ
 bf:Ϩ
 nd:Ϩ
 ϻ:Ϩ
def g0 (S:ef)(t:G):Y (ϕ×V):=cu "needs" (.Z S.nd) (cu "booked" (.Z S.bf) (cu "charges" (.Z S.ch) (cu "movers" (.Z S.ct) (cu "now" (.M t) (cu "floor" (.Z S.aZ) [])))))
section
variable (S:ef)(t:Int)
theorem Ax:(g0 S t).Ϣ ("needs":ϕ)=O (.Z S.nd):=by unfold g0;rw[cL,aS rfl]
theorem tu:(g0 S t).Ϣ ("booked":ϕ)=O (.Z S.bf):=by unfold g0;rw[cL,aD ∅,cL,aS rfl]
theorem Ay:(g0 S t).Ϣ ("charges":ϕ)=O (.Z S.ch):=by unfold g0;rw[cL,aD ∅,cL,aD ∅,cL,aS rfl]
theorem oN:(g0 S t).Ϣ ("movers":ϕ)=O (.Z S.ct):=by unfold g0;rw[cL,aD ∅,cL,aD ∅,cL,aD ∅,cL,aS rfl]
theorem oO:(g0 S t).Ϣ ("now":ϕ)=O (.M t):=by unfold g0;rw[cL,aD ∅,cL,aD ∅,cL,aD ∅,cL,aD ∅,cL,aS rfl]
theorem xJ:(g0 S t).Ϣ ("floor":ϕ)=O (.Z S.aZ):=by unfold g0;rw[cL,aD ∅,cL,aD ∅,cL,aD ∅,cL,aD ∅,cL,aD ∅,cL,aS rfl]
theorem h3 {m:ϕ}(h:∀x∈(q29:Y ϕ),¬m=x):(g0 S t).Ϣ m=none:=by
 unfold g0;rw[cL,aD (h _ (by simp)),cL,aD (h _ (by simp)),cL,aD (h _ (by simp)),cL,aD (h _ (by simp)),cL,aD (h _ (by simp)),cL,aD (h _ (by simp))];rfl
end
def Az (H U:ag):Prop:=∀b o,H b=O o->(∀t,o≠.f3 t)->U b=O o
theorem hI (s:a5 H U):Az H U:=λb o h _=>s b o h
theorem XP {t:μ ϫ}(h:H a4=O (.f3 t))(b:sZ a4 H U):Az H U:=λc o ak n=>b c o (λz=>by rw[z,h]at ak;cases ak;exact n _ rfl) ak
structure dj (D:bZ)(H:ag)(p:Ϩ)(S:ef)(w h:B)(L:Y B)(t:G)(rs:Y dW)(C:Y Ĕ):Prop where
 ob:∃dx,H p=O (.Â (D 120) dx (g0 S t))
 aZ:gE (D 110) H S.aZ w h L
 Ϻ:Fl.ħ w h L
 gf:L.N<=9
 ct:∃ms:Y Ϩ,H S.ct=O (.Ť (ms.ϒ V.Z))/\ϋ (λm (r:dW)=>hE D H m r.i r.n/\r.i<3/\1<=r.n/\r.n<=20) ms rs
 ch:H S.ch=O (.Ť (rs.ϒ λr=>.M r.q))
 bf:hi (D 117) H S.bf S.ϻ C
 ap:i5 C
 cy:C.N=rs.N/\∀(k:B) e r,C[k]?=O e->rs[k]?=O r->e.k=(k:G)/\e.b<=t/\ip r.i w L r.n e.b e.c t r.q
 nd:∃Ϝ,H S.nd=O (.bL Ϝ)/\((Ϝ.ϒ (·.1)).Α/\∀k∈Ϝ.ϒ (·.1),∃x∈iI,k=.Œ x)/\∀x v,aW Ϝ (.Œ x)=O v->∃(a:Ϩ)(ks:Y (Ř×V)),v=.Z a/\a≠S.nd/\a≠S.ϻ/\H a=O (.bL ks)/\∀c v,aW ks (.ε c)=O v->∃i,v=.M i
 ne:S.ct≠S.ch/\S.nd≠S.ϻ
 hk:rs.N<=3
 t0:0<=t/\t<=1000
theorem fC.kt (s:Az H U):fC H U:=λa F h=>s _ _ h λ_ z=>nomatch z
theorem dj.kt {D:bZ}{S:ef}{h:B}{t:G}{rs:Y dW}(ϴ:dj D H p S w h L t rs C)(s:Az H U):dj D U p S w h L t rs C:=by
 obtain⟨dx,au⟩:=ϴ.ob;obtain⟨hj,l,bY,dN⟩:=ϴ.aZ.ob;obtain⟨ms,iC,pm⟩:=ϴ.ct;obtain⟨⟨⟨ey,rR⟩,rS⟩,tv⟩:=ϴ.bf;obtain⟨Ϝ,oP,lk,al⟩:=ϴ.nd;exact⟨⟨dx,s _ _ au nofun⟩,⟨⟨hj,l,s _ _ bY nofun,s _ _ dN nofun⟩⟩,ϴ.Ϻ,ϴ.gf,⟨ms,s _ _ iC nofun,ϋ.gq pm λm r ⟨⟨ij,x⟩,y⟩=>⟨⟨ij,s _ _ x nofun⟩,y⟩⟩,s _ _ ϴ.ch nofun,
  ⟨⟨⟨ey,s _ _ rR nofun⟩,s _ _ rS nofun⟩,tv.dh (fC.kt s)⟩,ϴ.ap,ϴ.cy,⟨Ϝ,s _ _ oP nofun,lk,λx v aG=>let⟨a,ks,bG,bW,hb,iX,hn⟩:=al x v aG;⟨a,ks,bG,bW,hb,s _ _ iX nofun,hn⟩⟩,ϴ.ne,ϴ.hk,ϴ.t0⟩
inductive XQ (D:bZ)(d:Y V)(H:ag)(Q:a8)(ϵ:bz):Prop
 | mk (p:Ϩ)(S:ef)(w h:B)(L:Y B)(t:G)(rs:Y dW)(C:Y Ĕ)(_:d=[.Z p])(_:dj D H p S w h L t rs C)(_:Q (.M t) H)
inductive XR (D:bZ)(d:Y V)(H:ag)(Q:a8)(ϵ:bz):Prop
 | mk (p:Ϩ)(S:ef)(w h:B)(L:Y B)(t:G)(rs:Y dW)(C:Y Ĕ)(_:d=[.Z p])(_:dj D H p S w h L t rs C)(_:∀l,H l=none->Q (.Z l) (ſ H l (.Ť ((Ć rs.N).ϒ λk=>V.M ((k:B):G)))))
inductive XS (D:bZ)(d:Y V)(H:ag)(Q:a8)(ϵ:bz):Prop
 | mk (p:Ϩ)(S:ef)(w h:B)(L:Y B)(t:G)(rs:Y dW)(C:Y Ĕ)(k:B)(_:d=[.Z p,.M (k:G)])(_:dj D H p S w h L t rs C)(_:k<rs.N)(_:Q .br H)
inductive XT (D:bZ)(d:Y V)(H:ag)(Q:a8)(ϵ:bz):Prop
 | mk (p:Ϩ)(S:ef)(w h:B)(L:Y B)(t:G)(rs:Y dW)(C:Y Ĕ)(k:B)(r:dW)(_:d=[.Z p,.M (k:G)])(_:dj D H p S w h L t rs C)(_:rs[k]?=O r)(_:∀m,hE D H m r.i r.n->r.i<3->1<=r.n->r.n<=20->Q (.Z m) H)
inductive XU (D:bZ)(d:Y V)(H:ag)(Q:a8)(ϵ:bz):Prop
 | mk (p:Ϩ)(S:ef)(w h:B)(L:Y B)(t:G)(rs:Y dW)(C:Y Ĕ)(k:B)(r:dW)(_:d=[.Z p,.M (k:G)])(_:dj D H p S w h L t rs C)(_:rs[k]?=O r)(_:Q (.M r.q) H)
inductive XW (D:bZ)(d:Y V)(H:ag)(Q:a8)(ϵ:bz):Prop
 | mk (p:Ϩ)(S:ef)(w h:B)(L:Y B)(t:G)(rs:Y dW)(C:Y Ĕ)(k:B)(e:Ĕ)(_:d=[.Z p,.M (k:G)])(_:dj D H p S w h L t rs C)(_:C[k]?=O e)(_:Q e.v H)
inductive XX (D:bZ)(d:Y V)(H:ag)(Q:a8)(ϵ:bz):Prop
 | mk (p:Ϩ)(S:ef)(w h:B)(L:Y B)(t:G)(rs:Y dW)(C:Y Ĕ)(k:B)(e:Ĕ)(_:d=[.Z p,.M (k:G)])(_:dj D H p S w h L t rs C)(_:C[k]?=O e)(_:Q (.M (cV e.b e.c t)) H)
inductive XY (D:bZ)(d:Y V)(H:ag)(Q:a8)(ϵ:bz):Prop
 | mk (p:Ϩ)(S:ef)(w h:B)(L:Y B)(t:G)(rs:Y dW)(C:Y Ĕ)(k:B)(e:Ĕ)(_:d=[.Z p,.M (k:G)])(_:dj D H p S w h L t rs C)(_:C[k]?=O e)(_:Q (.bl (decide (e.b+(e.c.N:G)-1<=t))) H)
inductive XZ (D:bZ)(d:Y V)(H:ag)(Q:a8)(ϵ:bz):Prop
 | mk (p:Ϩ)(S:ef)(w h:B)(L:Y B)(t:G)(rs:Y dW)(C:Y Ĕ)(k:B)(e:Ĕ)(r:dW)(_:d=[.Z p,.M (k:G)])(_:dj D H p S w h L t rs C)(_:C[k]?=O e)(_:rs[k]?=O r)(_:∀U bC,a5 H U->kr r.i w L r.n (cV e.b e.c t) (cV e.b e.c (t+1)) r.q=O bC->Q (.M bC) U)
theorem dj.ent {D:bZ}{S:ef}{h:B}{t:G}{rs:Y dW}(ϴ:dj D H p S w h L t rs C){k:B}(he:C[k]?=O e):e∈C/\e.k=(k:G)/\e.b<=t/\fB H e.v e.b e.c/\pS e.b e.c/\∃r,rs[k]?=O r/\ip r.i w L r.n e.b e.c t r.q:=by
 have hm:=ύ he
 have lk:k<rs.N:=by rw[<- ϴ.cy.1];exact(Y.Ϧ.mp he).1
 have aO:=ϡ lk
 obtain⟨g,ah,aI⟩:=ϴ.cy.2 k e _ he aO;obtain⟨bO,d1,_⟩:=ϴ.bf.2.ok e hm;exact⟨hm,g,ah,bO,d1,_,aO,aI⟩
def tw (w:B)(L:Y B)(t:G)(C:Y Ĕ)(rs cZ:Y dW):Prop:=cZ.N=rs.N/\∀(k:B) e r cG,C[k]?=O e->rs[k]?=O r->cZ[k]?=O cG->cG.i=r.i/\cG.n=r.n/\kr r.i w L r.n (cV e.b e.c t) (cV e.b e.c (t+1)) r.q=O cG.q
inductive X0 (D:bZ)(d:Y V)(H:ag)(Q:a8)(ϵ:bz):Prop
 | mk (p:Ϩ)(S:ef)(w h:B)(L:Y B)(t:G)(rs:Y dW)(C:Y Ĕ)(_:d=[.Z p,.M 1])(_:dj D H p S w h L t rs C)(_:t<=999)(_:∀U fN cZ,cM p H U->H fN=none->dj D U p ⟨S.aZ,S.ct,fN,S.bf,S.nd,S.ϻ⟩ w h L (t+1) cZ C->tw w L t C rs cZ->Q .br U)
theorem X1 (S:ef)(t:G)(c:Ϩ):cu "charges" (.Z c) (g0 S t)=g0 ⟨S.aZ,S.ct,c,S.bf,S.nd,S.ϻ⟩ t:=by rfl
theorem X2 (S:ef)(t u:G):cu "now" (.M u) (g0 S t)=g0 S u:=by rfl
theorem LX {fA iY:Ϩ}{aJ fs':Y (ϕ×V)}(h:aJ.N≠fs'.N):bb.Â Ϸ dx aJ≠.Â fA iY fs':=λz=>by
 injection z with _ _ z
 exact h (ż N z)
theorem X3 {R:α->β->Prop}{l:Y α}{m:Y β}(e:l.N=m.N)(h:∀(k:B) a b,l[k]?=O a->m[k]?=O b->R a b):ϋ R l m:=by
 induction l generalizing m with
 | ń=>cases m with
  | ń=>exact .ń
  | θ b m=>cases e
 | θ a l bB=>cases m with
  | ń=>cases e
  | θ b m=>exact .θ (h 0 a b rfl rfl) (bB (B.o0.W1 e) λk x y g ah=>h (k+1) x y g ah)
theorem dj.tick {D:bZ}{fN:Ϩ}{S:ef}{h:B}{t:G}{rs cZ:Y dW}(ϴ:dj D H p S w h L t rs C)(sB:cM p H U)(ay:U p=O (.Â (D 120) dx (g0 ⟨S.aZ,S.ct,fN,S.bf,S.nd,S.ϻ⟩ (t+1))))(ak:U fN=O (.Ť (cZ.ϒ λr=>.M r.q)))(gk:H fN=none)(tk:tw w L t C rs cZ)(t1:t<=999):dj D U p ⟨S.aZ,S.ct,fN,S.bf,S.nd,S.ϻ⟩ w h L (t+1) cZ C:=by
 obtain⟨agf,au⟩:=ϴ.ob;obtain⟨hj,l,bY,dN⟩:=ϴ.aZ.ob;obtain⟨ms,iC,pm⟩:=ϴ.ct;obtain⟨⟨⟨ey,rR⟩,rS⟩,tv⟩:=ϴ.bf;obtain⟨Ϝ,oP,lk,al⟩:=ϴ.nd;have up:∀{b o},H b=O o->(∀Ϸ dx aJ,o≠.Â Ϸ dx aJ)->U b=O o:=λg ah=>sB _ _ g (bM g au (ah _ _ _))
 have Es:∀{b:Ϩ}{Ϸ dx:Ϩ}{aJ:Y (ϕ×V)},H b=O (.Â Ϸ dx aJ)->aJ.N≠6->U b=O (.Â Ϸ dx aJ):=λg ah=>sB _ _ g (bM g au (LX ah))
 have lY:fC H U:=λa F h=>up h (λ_ _ _ z=>nomatch z)
 refine⟨⟨dx,ay⟩,⟨⟨hj,l,Es bY (by show(4:B)≠6;decide),up dN (λ_ _ _ z=>nomatch z)⟩⟩,ϴ.Ϻ,ϴ.gf,⟨ms,up iC (λ_ _ _ z=>nomatch z),?_⟩,ak,⟨⟨⟨ey,Es rR (by show(1:B)≠6;decide)⟩,up rS (λ_ _ _ z=>nomatch z)⟩,tv.dh lY⟩,ϴ.ap,⟨by rw[tk.1];exact ϴ.cy.1,λk e cG he h4=>?_⟩,⟨Ϝ,up oP (λ_ _ _ z=>nomatch z),lk,λx v aG=>let⟨a,ks,bG,bW,hb,iX,hn⟩:=al x v aG;⟨a,ks,bG,bW,hb,up iX (λ_ _ _ z=>nomatch z),hn⟩⟩,⟨(λz=>by rw[show S.ct=fN from z,gk]at iC;cases iC),ϴ.ne.2⟩,by rw[tk.1];exact ϴ.hk,by have:=ϴ.t0;omega⟩
 ·have lm:=ϋ.N pm
  refine X3 (by rw[lm,tk.1]) λk m cG hm h4=>?_;obtain⟨r,aO,⟨ij,x⟩,fW,fl,xK⟩:=ϋ.lM pm hm;have le:k<C.N:=by rw[ϴ.cy.1];exact(Y.Ϧ.mp aO).1
  obtain⟨fi,f9,_⟩:=tk.2 k _ r cG (ϡ le) aO h4;rw[fi,f9];exact⟨⟨ij,Es x (by show(1:B)≠6;decide)⟩,fW,fl,xK⟩
 ·have aq:k<rs.N:=by rw[<- ϴ.cy.1];exact(Y.Ϧ.mp he).1
  have aO:=ϡ aq
  obtain⟨k1,k2,k3⟩:=ϴ.cy.2 k e _ he aO;obtain⟨fi,f9,e6⟩:=tk.2 k e _ cG he aO h4;obtain⟨bC,cz,cS⟩:=k3.next
  rw[cz]at e6;rw[fi,f9,<- ϣ.O.W1 e6];exact⟨k1,⋯,cS⟩
def iL (H U:ag)(p Ϸ dx:Ϩ)(aJ:Y (ϕ×V)):Prop:=(∀b o,H b=O o->b≠p->U b=O o)/\U p=O (.Â Ϸ dx aJ)
theorem iL.mt {aJ fs':Y (ϕ×V)}(h:iL H U p Ϸ dx aJ):iL H (ſ U p (.Â Ϸ dx fs')) p Ϸ dx fs':=⟨λb o e n=>by rw[aE n];exact h.1 b o e n,aQ⟩
theorem iL.ne {q:Ϩ}{aJ:Y (ϕ×V)}(h:iL H U p Ϸ dx aJ)(gi:U q=none):q≠p:=λz=>by rw[z,h.2]at gi;cases gi
theorem iL.fr {q:Ϩ}{aJ:Y (ϕ×V)}(h:iL H U p Ϸ dx aJ)(gi:U q=none):H q=none:=by
 cases e:H q with
 | none=>rfl
 | O o=>rw[h.1 q o e (h.ne gi)]at gi;cases gi
theorem iL.OR {q:Ϩ}{aJ:Y (ϕ×V)}(h:iL H U p Ϸ dx aJ)(gi:U q=none){o:bb}:iL H (ſ U q o) p Ϸ dx aJ:=⟨λb bR e n=>by rw[aE (λz=>by rw[z,h.fr gi]at e;cases e)];exact h.1 b bR e n,by rw[aE (λz=>h.ne gi z.symm)];exact h.2⟩
theorem iL.put {q:Ϩ}{aJ:Y (ϕ×V)}(h:iL H U p Ϸ dx aJ)(gi:H q=none)(np:q≠p){o:bb}:iL H (ſ U q o) p Ϸ dx aJ:=⟨λb bR e n=>by rw[aE (λz=>by rw[z,gi]at e;cases e)];exact h.1 b bR e n,by rw[aE np.symm];exact h.2⟩
inductive X4 (D:bZ)(d:Y V)(H:ag)(Q:a8)(ϵ:bz):Prop
 | mk (p dx aZ:Ϩ)(w h:B)(L:Y B)(_:d=[.Z p,.Z aZ])(_:H p=O (.Â (D 120) dx []))(_:gE (D 110) H aZ w h L)(_:Fl.ħ w h L)(_:L.N<=9)(_:∀U S,cM p H U->(∀b∈[S.ct,S.ch,S.bf,S.nd,S.ϻ],H b=none)->dj D U p S w h L 0 [] []->Q .br U)
theorem lg {b:Ϩ}{o:bb}(n:H a=none)(h:H b=O o):a≠b:=λz=>by rw[z,h]at n;cases n
theorem ip.θ {i w:B}{L:Y B}{n b t q bC:G}{c:Y G}(h0:0<=q)(g:q<=n)(ah:ee L (cV b c t))(aI:dO i (Ó L (cV b c t))=true)(bO:kr i w L n (cV b c t) (cV b c (t+1)) q=O bC)(d1:ip i w L n b c (t+1) bC):ip i w L n b c t q:=by
 obtain⟨f,rfl,h⟩:=d1;refine⟨λj=>match j with|0=>q|j+1=>f j,rfl,λj=>?_⟩;cases j with
 | HW=>
  rw[show t+((0:B):G)=t by omega];exact⟨h0,g,ah,aI,bO⟩
 | o0 j=>
  rw[show t+((j+1:B):G)=t+1+j by omega];exact h j
def tx (Ϻ n q:G):B->G
 | 0=>q
 | j+1=>min (tx Ϻ n q j+Ϻ) n
theorem ip.gS {n b t x:G}{c:Y G}(ai:∀j:B,cV b c (t+j)=x)(h0:0<=q)(g:q<=n)(ah:ee L x)(aI:dO i (Ó L x)=true):ip i w L n b c t q:=by
 refine⟨tx (fZ i (Ó L x)) n q,rfl,λj=>?_⟩;have Ϻ:=xB i (Ó L x)
 have b:∀j,0<=tx (fZ i (Ó L x)) n q j/\tx (fZ i (Ó L x)) n q j<=n:=λj=>by
  induction j with
  | HW=>exact⟨h0,g⟩
  | o0 j bB=>show 0<=min (tx _ n q j+_) n/\min (tx _ n q j+_) n<=n;omega
 have:=ai (j+1)
 rw[show t+((j+1:B):G)=t+j+1 by omega]at ν;rw[ai j,ν];exact⟨(b j).1,(b j).2,ah,aI,aS rfl⟩
theorem X5 (b t x:G):cV b [x] t=x:=by
 have:(Bj b [x] t).Ο=0:=by unfold Bj;simp only[ŵ,Ċ];omega
 unfold cV;rw[ν];rfl
theorem X6 (h:∀x∈C,x.k≠e.k):iF C e=C++[e]:=by
 unfold iF;rw[aD];rw[ú];rintro⟨x,ai,z⟩;exact h x ai (ð z)
theorem LY (h:eG L c=true):ee L c:=by
 unfold eG at h;simp only[Ŵ,Μ]at h;exact h.1
theorem LZ {h:B}{f:α->V}{F:Y α}(Ϻ:Fl.ħ w h L)(g:jC H l w h L)(ah:H a=O (.Ť (F.ϒ f)))(hf:∀x s,f x≠.str s):l≠a:=λz=>by
 unfold jC at g;rw[z,ah]at g;injection g with g
 injection g with g
 have aw:=rg w h L
 have h0:=Ϻ.h0
 generalize ī w h L=ls at g aw
 cases ls with
 | ń=>simp only[Ċ]at aw;omega
 | θ s ls=>
  cases F with
  | ń=>cases g
  | θ x F=>
   rw[Ŷ,Ŷ]at g;injection g with g _
   exact hf x s g
theorem ϋ.X7 {R:α->β->Prop}{l:Y α}{m:Y β}{a:α}{b:β}(p:ϋ R l m)(h:R a b):ϋ R (l++[a]) (m++[b]):=by
 induction p with
 | ń=>exact .θ h .ń
 | θ k r bB=>exact .θ k bB
def Fr (H U:ag)(S:ef):Prop:=∀b o,H b=O o->b≠S.ct->b≠S.ch->b≠S.ϻ->b≠S.nd->U b=O o
theorem dj.O3 {D:bZ}{S:ef}{h:B}{t:G}{rs:Y dW}(ϴ:dj D H p S w h L t rs C)(he:e∈C):∃k:B,C[k]?=O e/\k<rs.N/\e.k=(k:G):=by
 obtain⟨k,aq⟩:=Ŏ he;obtain⟨_,dK,_⟩:=ϴ.ent aq;exact⟨k,aq,by rw[<- ϴ.cy.1];exact(Y.Ϧ.mp aq).1,dK⟩
inductive X8 (D:bZ)(d:Y V)(H:ag)(Q:a8)(ϵ:bz):Prop
 | mk (p:Ϩ)(S:ef)(w h:B)(L:Y B)(t:G)(rs:Y dW)(C:Y Ĕ)(i:B)(x:ϕ)(n c q:G)(_:d=[.Z p,.str x,.M n,.M c,.M q])(_:dj D H p S w h L t rs C)(_:rs.N<3)(_:i<3)(_:iI[i]?=O x)(_:1<=n)(_:n<=20)(_:0<=q)(_:q<=n)(_:(∀U,a5 H U->ϵ (.Z (D 121)) none U/\ϵ (.Z (D 122)) none U/\∀y,ϵ (.Z (D 127)) (O y) U))(_:∀U e,Fr H U S->iJ e<=t->dj D U p S w h L t (rs++[⟨i,n,q⟩]) (C++[e])->Q (.M (rs.N:G)) U)
inductive X9 (D:bZ)(d:Y V)(H:ag)(Q:a8)(ϵ:bz):Prop
 | mk (p:Ϩ)(S:ef)(w h:B)(L:Y B)(t:G)(rs:Y dW)(C:Y Ĕ)(k:B)(r:dW)(a0:Ϩ)(E:Y G)(_:d=[.Z p,.M (k:G),.Z a0])(_:dj D H p S w h L t rs C)(_:rs[k]?=O r)(_:H a0=O (.Ť (E.ϒ V.M)))(_:1<=E.N)(_:E.N<=4)(_:(∀U,a5 H U->ϵ (.Z (D 123)) none U))(_:∀U,a5 H U->(∀c∈E,ee L c/\dO r.i (Ó L c)=true)->Q .br U)
inductive Ya (D:bZ)(d:Y V)(H:ag)(Q:a8)(ϵ:bz):Prop
 | mk (p:Ϩ)(S:ef)(w h:B)(L:Y B)(t:G)(rs:Y dW)(C:Y Ĕ)(k:B)(r:dW)(c:G)(_:d=[.Z p,.M (k:G),.M c])(_:dj D H p S w h L t rs C)(_:rs[k]?=O r)(_:(∀U,cM S.nd H U->dj D U p S w h L t rs C->ϵ (.Z (D 125)) none U/\∀i,Q (.M i) U))
theorem L0 {D:bZ}(e:iI[i]?=O x)(h:i<3):(d5 D i,ko x)∈[((D 111),ko (ϕ.ϝ "cart")),((D 112),ko (ϕ.ϝ "crawler")),((D 113),ko (ϕ.ϝ "runner")),((D 114),ko (ϕ.ϝ "carrier"))]:=by
 match i,h,e with
 | 0,_,e=>cases e;exact .head _
 | 1,_,e=>cases e;exact .OW _ (.head _)
 | 2,_,e=>cases e;exact .OW _ (.OW _ (.head _))
theorem dj.Yb {D:bZ}{S:ef}{h:B}{t:G}{rs:Y dW}(ϴ:dj D H p S w h L t rs C)(s:cM S.nd H U)(aF:∃Ϝ,U S.nd=O (.bL Ϝ)/\((Ϝ.ϒ (·.1)).Α/\∀k∈Ϝ.ϒ (·.1),∃x∈iI,k=.Œ x)/\∀x v,aW Ϝ (.Œ x)=O v->∃(a:Ϩ)(ks:Y (Ř×V)),v=.Z a/\a≠S.nd/\a≠S.ϻ/\U a=O (.bL ks)/\∀c v,aW ks (.ε c)=O v->∃i,v=.M i):dj D U p S w h L t rs C:=by
 obtain⟨dx,au⟩:=ϴ.ob;obtain⟨hj,l,bY,dN⟩:=ϴ.aZ.ob;obtain⟨ms,iC,pm⟩:=ϴ.ct;obtain⟨⟨⟨ey,rR⟩,rS⟩,tv⟩:=ϴ.bf;obtain⟨Ϝ,oP,_⟩:=ϴ.nd;have k:∀b o,H b=O o->(∀ks,o≠.bL ks)->U b=O o:=λb o af no=>s _ _ af (bM af oP (no _))
 exact⟨⟨dx,k _ _ au nofun⟩,⟨⟨hj,l,k _ _ bY nofun,k _ _ dN nofun⟩⟩,ϴ.Ϻ,ϴ.gf,⟨ms,k _ _ iC nofun,ϋ.gq pm λm r ⟨⟨ij,x⟩,y⟩=>⟨⟨ij,k _ _ x nofun⟩,y⟩⟩,k _ _ ϴ.ch nofun,
  ⟨⟨⟨ey,k _ _ rR nofun⟩,s _ _ rS ϴ.ne.2.symm⟩,tv.dh λa F ai=>k _ _ ai nofun⟩,ϴ.ap,ϴ.cy,aF,ϴ.ne,ϴ.hk,ϴ.t0⟩
theorem Yc {h:B}{n:G}(Ϻ:Fl.ħ w h L){m ba:B}{aX bC:G}(dJ:0<=bC)(a3:bC<=n)(ak:ee L aX)(aH:dO i (Ó L aX)=true)(aq:(bD m c,q)∈ŧ op i w L E n ba aX bC):kr i w L n aX c bC=O q/\0<=q/\q<=n/\ee L c/\dO i (Ó L c)=true:=by
 unfold ŧ at aq;rcases κ.mp aq with z|z
 ·split at z
  ·have e:=ϖ.mp z
   injection e with au az
   obtain⟨_,rfl⟩:=lU au;have:=xB i (Ó L c)
   exact⟨by unfold kr;rw[aS rfl,az],⋯,⋯,ak,aH⟩
  ·cases z
 ·obtain⟨p,ay,e⟩:=Ŕ.mp z;unfold hF at ay;obtain⟨o,av,rfl⟩:=Ζ.mp ay;unfold jb No at av;obtain⟨bR,g,ah⟩:=Ŕ.mp av;obtain⟨k,aI,rfl⟩:=ξ.mp ah;unfold oJ at e;split at e
  ·rename_i y;injection e with e
   injection e with au az
   obtain⟨_,rfl⟩:=lU au;have ne:=LD Ϻ.d0 g
   have bO:=aI
   unfold KF at bO;split at bO
   ·rename_i x;rw[Ŵ]at x;have:=XJ bO
    have fW:k<=bC:=y.1
    have bY:bC-k=q:=az
    refine⟨?_,⋯,⋯,ti Ϻ g,x.2⟩;unfold kr;rw[aD ne,aS g,aI,<- bY];rfl
   ·cases bO
  ·cases e
theorem Et {T b s:G}{ϻ:B}{x:B×G}(SC:(rs.N:G)=T-b+1)(ai:rs[ϻ]?=O x)(aH:s=T-ϻ\/(ϻ=0/\T<=s)):cV b ((rs.ϒ (·.2)).Ĭ) s=x.2:=by
 have hd:=(Y.Ϧ.mp ai).1
 have e:(Bj b ((rs.ϒ (·.2)).Ĭ) s).Ο=rs.N-1-ϻ:=by
  unfold Bj;rw[Ú,ϧ];omega
 unfold cV;rw[e,Ş,Y.s_ (by rw[ϧ];omega),ϧ,show rs.N-1-(rs.N-1-ϻ)=ϻ by omega,Ϙ,ai];rfl
theorem Yd {h:B}{n T b ã ch:G}{ϴ:G->dr}{k:B×G}(Ϻ:Fl.ħ w h L)(tk:lb (λu=>ŧ (fm C u) i w L E n) ϴ T k rs)(SC:(rs.N:G)=T-b+1)(cP:∃q,aW (ϴ T) (bD k.1 k.2)=O (.M q))(af:∀(x:B×G) q,aW (ϴ b) (bD x.1 x.2)=O (.M q)->x.2=ã/\q=ch)(hx:0<=ch)(cI:ch<=n)(g4:ee L ã)(sc:dO i (Ó L ã)=true):ip i w L n b ((rs.ϒ (·.2)).Ĭ) b ch:=by
 have IY:∀(ϻ:B) x q,rs[ϻ]?=O x->aW (ϴ (T-ϻ)) (bD x.1 x.2)=O (.M q)->0<=q->q<=n->ee L x.2->dO i (Ó L x.2)=true->ip i w L n b ((rs.ϒ (·.2)).Ĭ) (T-ϻ) q:=λϻ=>by
  induction ϻ with
  | HW=>
   intro x q ai aG dJ a3 aA aH;exact ip.gS (x:=x.2) (λj=>Et SC ai (.Œ ⟨rfl,⋯⟩)) dJ a3 aA aH
  | o0 ϻ bB=>
   intro x q ai aG dJ a3 aA aH;have hd:=(Y.Ϧ.mp ai).1
   have aU:=ϡ (show ϻ<rs.N by omega)
   obtain⟨AA,v1,⟨bC,v2,p4⟩,_⟩:=tk.E ϻ x _ aU ai;have au:T-((ϻ+1:B):G)=T-ϻ-1:=⋯
   rw[au]at aG ⊢;rw[aG]at v2;cases v2;obtain⟨cz,cS,h8,Eu,jF⟩:=Yc Ϻ dJ a3 aA aH p4;have a1:=Et (s:=T-ϻ-1) SC ai (.ε ⋯)
   have a2:=Et (s:=T-ϻ-1+1) SC aU (.ε ⋯)
   refine ip.θ dJ a3 (by rwa[a1]) (by rwa[a1]) (by rwa[a1,a2]) ?_;rw[show T-(ϻ:G)-1+1=T-ϻ by omega];exact bB _ AA aU v1 cS h8 Eu jF
 have d_:∃x q,rs[rs.N-1]?=O x/\aW (ϴ b) (bD x.1 x.2)=O (.M q):=by
  have mX:=(Y.Ϧ.mp tk.hd).1
  by_cases z:rs.N=1
  ·obtain⟨q,ao⟩:=cP;refine⟨k,q,?_,?_⟩
   ·rw[z];exact tk.hd
   ·rwa[show b=T by omega]
  ·have ai:=ϡ (show rs.N-1<rs.N by omega)
   have aU:=ϡ (show rs.N-2<rs.N by omega)
   obtain⟨AA,v1,⟨bC,v2,p4⟩,_⟩:=tk.E (rs.N-2) _ _ aU (by rwa[show rs.N-2+1=rs.N-1 by omega]);refine⟨_,bC,ai,?_⟩;have e:T-((rs.N-2:B):G)-1=b:=⋯
   rw[e]at v2;exact v2
 obtain⟨x,q,ai,aG⟩:=d_;obtain⟨au,rfl⟩:=af x q aG;have mX:=(Y.Ϧ.mp tk.hd).1
 have:=IY (rs.N-1) x q ai (by rwa[show T-((rs.N-1:B):G)=b by omega]) hx cI (by rwa[au]) (by rwa[au])
 rw[show T-((rs.N-1:B):G)=b by omega]at ν;exact ν
theorem L1:∀(ns:Y G)(z:G),∃m,pZ ns z m
 | [],z=>⟨z,.ε ⟨rfl,rfl⟩⟩
 | a::r,z=>by
  obtain⟨m,h⟩:=L1 r z;refine⟨if r=[] then a else max a m,.Œ ?_⟩;rcases h with⟨rfl,_⟩|⟨g,ah⟩
  ·exact⟨by simp,λx ai=>by simp at ai;simp[ai]⟩
  ·have ne:r≠[]:=λz=>by rw[z]at g;cases g
   rw[aD ne];refine⟨?_,λx ai=>?_⟩
   ·by_cases z:a<=m
    ·rw[show max a m=m by omega];exact .OW _ g
    ·rw[show max a m=a by omega];exact .head _
   ·rcases ς.mp ai with rfl|y
    ·omega
    ·have:=ah x y;omega
theorem Ye {m:B}(hm:m<=E.N)(ak:ee L c)(dJ:0<=q):eN E L [(bD m c,.M q)]:=⟨ŉ.ļ ⟨ő,wf⟩,λx ai=>⟨m,c,q,ϖ.mp ai,hm,ak,dJ⟩⟩
def L3 (D:bZ)(H:ag)(a:Ϩ)(r:dW)(w:B)(L:Y B)(t ϱ:G):Prop:=∃(dx pp j3:Ϩ)(k:G)(c:Y G),H a=O (.Â (D 115) dx [("path",.Z pp),("left",.M k)])/\H pp=O (.Ţ [.M t,.Z j3])/\H j3=O (.Ţ (c.ϒ V.M))/\c≠[]/\t+(c.N:G)<=ϱ+1001/\ip r.i w L r.n t c t r.q
def L4 (D:bZ)(H:ag)(a:Ϩ):Prop:=∃(dx bW:Ϩ)(k:G),H a=O (.Â (D 116) dx [("moment",.M k),("layer",.Z bW)])
inductive Yf (D:bZ)(K:ş)(a4:Ϩ)(d:Y V)(H:ag)(Q:a8)(ϵ:bz):Prop
 | mk (p:Ϩ)(S:ef)(w h:B)(L:Y B)(t:G)(rs:Y dW)(C:Y Ĕ)(k:B)(r:dW)(e:Ĕ)(a0:Ϩ)(E:Y G)(ū ϱ:G)(_:d=[.Z p,.Z S.bf,.M (k:G),.Z a0,.M ū])(_:dj D H p S w h L t rs C)(_:rs[k]?=O r)(_:C[k]?=O e)(_:H a0=O (.Ť (E.ϒ V.M)))(_:E≠[])(_:E.N<=4)(_:(∀x∈C,iJ x<=ϱ))(_:t<=ϱ)(_:ϱ<=18000)(_:e5 (jx gZ) "sought.<locals>.there" a4 H)(_:∀a U,sZ a4 H U->e5 (jx gZ) "sought.<locals>.there" a4 U->H a=none->(L3 D U a r w L t ϱ\/L4 D U a)->Q (.Z a) U)
theorem L5 {Ϯ k:Ϩ}(t:e5 ŷ Ρ Ϯ H)(s:cM k H U)(aq:H k=O (.bL ks)):e5 ŷ Ρ Ϯ U:=by
 refine IS λUq uq=>?_;obtain⟨a4,a,b,c⟩:=t;exact uq (⟨a4,s _ _ a (bM a aq (λz=>nomatch z)),b,c.Pg id λ⟨c,co,x,y,z⟩=>⟨c,co,x,s _ _ y (bM y aq (λz=>nomatch z)),z⟩⟩)
def xM (H U:ag)(S:ef)(a4:Ϩ):Prop:=∀b o,H b=O o->b≠S.nd->b≠a4->U b=O o
inductive Yg (D:bZ)(K:ş)(a4:Ϩ)(d:Y V)(H:ag)(Q:a8)(ϵ:bz):Prop
 | mk (p:Ϩ)(S:ef)(w h:B)(L:Y B)(t:G)(rs:Y dW)(C:Y Ĕ)(k:B)(r:dW)(e:Ĕ)(a0:Ϩ)(E:Y G)(ϱ:G)(_:d=[.Z p,.M (k:G),.Z a0,.br])(_:dj D H p S w h L t rs C)(_:rs[k]?=O r)(_:C[k]?=O e)(_:H a0=O (.Ť (E.ϒ V.M)))(_:1<=E.N)(_:E.N<=4)(_:(∀x∈C,iJ x<=ϱ))(_:t<=ϱ)(_:ϱ<=18000)(_:e5 (jx gZ) "sought.<locals>.there" a4 H)(_:∀U,xM H U S a4->e5 (jx gZ) "sought.<locals>.there" a4 U->dj D U p S w h L t rs C->ϵ (.Z (D 123)) none U/\ϵ (.Z (D 124)) none U/\ϵ (.Z (D 125)) none U/\∀a,H a=none->(L3 D U a r w L t ϱ\/L4 D U a)->Q (.Z a) U)
theorem dj.Yh {D:bZ}{S:ef}{h:B}{t:G}{rs:Y dW}{ec:Y Ĕ}(ϴ:dj D H p S w h L t rs C)(s:cM S.ϻ H U)(hd:U S.ϻ=O (.bL (gB ec)))(cy:i4 U ec)(ap:i5 ec)(ok:ec.N=rs.N/\∀(k:B) e r,ec[k]?=O e->rs[k]?=O r->e.k=(k:G)/\e.b<=t/\ip r.i w L r.n e.b e.c t r.q):dj D U p S w h L t rs ec:=by
 obtain⟨dx,au⟩:=ϴ.ob;obtain⟨hj,l,bY,dN⟩:=ϴ.aZ.ob;obtain⟨ms,iC,pm⟩:=ϴ.ct;obtain⟨⟨⟨ey,rR⟩,rS⟩,tv⟩:=ϴ.bf;obtain⟨Ϝ,oP,Yi,De⟩:=ϴ.nd;have k:∀b o,H b=O o->(∀ks,o≠.bL ks)->U b=O o:=λb o af no=>s _ _ af (bM af rS (no _))
 exact⟨⟨dx,k _ _ au nofun⟩,⟨⟨hj,l,k _ _ bY nofun,k _ _ dN nofun⟩⟩,ϴ.Ϻ,ϴ.gf,⟨ms,k _ _ iC nofun,ϋ.gq pm λm r ⟨⟨ij,x⟩,y⟩=>⟨⟨ij,k _ _ x nofun⟩,y⟩⟩,k _ _ ϴ.ch nofun,
  ⟨⟨⟨ey,k _ _ rR nofun⟩,hd⟩,cy⟩,ap,ok,⟨Ϝ,s _ _ oP ϴ.ne.2,Yi,λx v aG=>let⟨a,ks,bG,bW,hb,iX,hn⟩:=De x v aG;⟨a,ks,bG,bW,hb,s _ _ iX hb,hn⟩⟩,ϴ.ne,ϴ.hk,ϴ.t0⟩
theorem Yj {k:B}(aq:∀(j:B) x,C[j]?=O x->x.k=(j:G))(lk:k<C.N)(dK:e.k=(k:G)):(iF C e).N=C.N/\∀(j:B) x,(iF C e)[j]?=O x->(j=k/\x=e)\/(j≠k/\C[j]?=O x):=by
 have aU:=ϡ lk
 have J_:(C.J_ λx=>decide (x.k=e.k))=true:=ú.ļ ⟨_,ύ aU,by rw[Μ,aq k _ aU,dK]⟩
 unfold iF;rw[aS J_];refine⟨ϧ ..,λj x ai=>?_⟩;rw[Ϙ]at ai;cases bg:C[j]? with
 | none=>rw[bg]at ai;cases ai
 | O y=>
  rw[bg]at ai;have ai:(if y.k=e.k then e else y)=x:=ϣ.O.W1 ai
  have agg:=aq j y bg
  by_cases z:j=k
  ·subst z;rw[aS ⋯]at ai;exact .ε ⟨rfl,ai.symm⟩
  ·rw[aD ⋯]at ai;exact .Œ ⟨z,by rw[ai]⟩
inductive Yk (D:bZ)(d:Y V)(H:ag)(Q:a8)(ϵ:bz):Prop
 | mk (x a:Ϩ)(aJ:μ ϫ)(a0:μ (ϣ ϫ))(_:d=[.Z x,.Z a])(_:H x=O (.ext (i8 x (D 128) none aJ a0)))(_:∀dx,H dx=none->dx≠x->Q .br (ſ (ſ H dx (.m5 (cu "shut" (.Z a) []))) x (.ext (i8 x (D 128) (O dx) aJ a0))))
inductive Yl (D:bZ)(K:ş)(a4:Ϩ)(d:Y V)(H:ag)(Q:a8)(ϵ:bz):Prop
 | mk (p:Ϩ)(S:ef)(w h:B)(L:Y B)(t:G)(rs:Y dW)(C:Y Ĕ)(k:B)(r:dW)(e:Ĕ)(a0:Ϩ)(E:Y G)(ϱ:G)(_:d=[.Z p,.M (k:G),.Z a0,.br])(_:dj D H p S w h L t rs C)(_:rs[k]?=O r)(_:C[k]?=O e)(_:H a0=O (.Ť (E.ϒ V.M)))(_:1<=E.N)(_:E.N<=4)(_:(∀x∈C,iJ x<=ϱ))(_:t<=ϱ)(_:ϱ<=18000)(_:e5 (jx gZ) "sought.<locals>.there" a4 H)(_:(∀U,xM H U S a4->e5 (jx gZ) "sought.<locals>.there" a4 U->dj D U p S w h L t rs C->ϵ (.Z (D 123)) none U/\ϵ (.Z (D 124)) none U/\ϵ (.Z (D 125)) none U/\∀y,ϵ (.Z (D 128)) (O y) U/\ϵ (.Z (D 127)) (O y) U))(_:∀U ec v,(∀b o,H b=O o->b≠S.nd->b≠S.ϻ->b≠a4->U b=O o)->e5 (jx gZ) "sought.<locals>.there" a4 U->dj D U p S w h L t rs ec->(∀x∈ec,iJ x<=ϱ+1001)->Q v U)
inductive Ym (K:ş)(d:Y V)(H:ag)(Q:a8)(ϵ:bz):Prop
 | mk (a:Ϩ)(ns:Y G)(k:G)(_:d=[.Z a,.M k])(_:aM K H a (ns.ϒ V.M))(_:0<=k)(_:∀r:G,Q (.M r) H)
inductive Yn (d:Y V)(H:ag)(Q:a8)(ϵ:bz):Prop
 | mk (c k:G)(_:d=[.M c,.M k])(_:0<=k)(_:k<=200)(_:∀r:G,0<=r->r<10^9->Q (.M r) H)
inductive Yo (d:Y V)(H:ag)(Q:a8)(ϵ:bz):Prop
 | mk (c:G)(_:d=[.M c])(_:∀l U w h L,a5 H U->H l=none->jC U l w h L->Fl.ħ w h L->L.N<=9->Q (.Z l) U)
inductive Yp (d:Y V)(H:ag)(Q:a8)(ϵ:bz):Prop
 | mk (l:Ϩ)(w h:B)(L:Y B)(i:B)(x:ϕ)(c o k:G)(_:d=[.Z l,.str x,.M c,.M o])(_:jC H l w h L)(_:Fl.ħ w h L)(_:i<3)(_:iI[i]?=O x)(_:ee L c)(_:o∈fk w L c)(_:dO i (Ó L o)=true)(_:j5 i w L c o=O k)(_:∀U,a5 H U->Q (.M k) U)
inductive Yq (d:Y V)(H:ag)(Q:a8)(ϵ:bz):Prop
 | mk (l:Ϩ)(w h:B)(L:Y B)(i:B)(x:ϕ)(n c q:G)(_:d=[.Z l,.str x,.M n,.M c,.M q])(_:jC H l w h L)(_:Fl.ħ w h L)(_:i<3)(_:iI[i]?=O x)(_:ee L c)(_:∀U,a5 H U->Q (.M (min (q+fZ i (Ó L c)) n)) U)
inductive Yr (d:Y V)(H:ag)(Q:a8)(ϵ:bz):Prop
 | mk (l:Ϩ)(w h:B)(L:Y B)(i:B)(x:ϕ)(n q c o bC:G)(_:d=[.Z l,.str x,.M n,.M q,.M c,.M o])(_:jC H l w h L)(_:Fl.ħ w h L)(_:i<3)(_:iI[i]?=O x)(_:ee L c)(_:kr i w L n c o q=O bC)(_:0<=bC)(_:∀U,a5 H U->Q (.M bC) U)
theorem Ys {a b:G}(h:a*a+b*b=1):(if a<0 then -a else a)+(if b<0 then -b else b)=1:=by
 have L6:∀x:G,x*x=((x.I6*x.I6:B):G):=λx=>(G.natAbs_mul_self).symm
 have ah:a.I6*a.I6+b.I6*b.I6=1:=by rw[L6 a,L6 b]at h;exact_mod_cast h
 have bd:∀m n:B,m*m+n*n=1->m<=1:=λm n e=>TD.f_ λz=>by
  have:=Ç (show 2<=m by omega) (show 2<=m by omega)
  omega
 have a1:=bd _ _ ah
 have b1:=bd _ _ (by rwa[B.anP])
 have a2:a.I6=0\/a.I6=1:=⋯
 have b2:b.I6=0\/b.I6=1:=⋯
 rcases a2 with a2|a2<;>rcases b2 with b2|b2<;>rw[a2,b2]at ah<;>first|(exfalso;omega)|(split<;>split<;>omega)
theorem Yt {h:B}(Ϻ:Fl.ħ w h L){o:G}(g4:ee L c)(av:o∈fk w L c):((if c/(w:G)-o/(w:G)<0 then -(c/(w:G)-o/(w:G)) else c/(w:G)-o/(w:G))+if c%(w:G)-o%(w:G)<0 then -(c%(w:G)-o%(w:G)) else c%(w:G)-o%(w:G))=1:=by
 rw[Fl.CW Ϻ g4.1 g4.2]at av;have:=ð (ĥ.mp av).2
 have nn:∀x y:G,(x-y)*(x-y)=(y-x)*(y-x):=λx y=>by rw[<- G.neg_sub y x,G.ak1]
 exact Ys (by rwa[nn (c/(w:G)),nn (c%(w:G))])
theorem Ew {b s:G}{c:Y G}(nm:¬ie b c cc aX)(h:b<=s)(h':cc<=s):cV b c s≠cV cc aX s/\¬(cV b c (s+1)=cV cc aX s/\cV cc aX (s+1)=cV b c s):=by
 have:=Ir nm s h h'
 unfold ic rh at ν;rw[rQ h,rQ h',rQ ⋯,rQ ⋯]at ν;split at ν
 ·cases ν
 ·rename_i z;split at ν
  ·cases ν
  ·rename_i y;exact⟨λe=>z (by rw[e]),λe=>y ⟨by rw[e.1],by rw[e.2]⟩⟩
theorem Yu (c9:X.K=K){e:Ġ}{dp fU lJ:Ox}{j}(he:PE X e bT):PE X (.M_ e (.OB none none (O (.aj1 .USub (.aiN (.M 1) j fU) lJ)) dp) ŷ) (zrl K bT):=by subst c9;exact RG he
def OY (H:ag)(l:Ϩ)(t:G)(rs:Y dW)(C:Y Ĕ):Prop:=∃ts:Y Ϩ,H l=O (.Ť (ts.ϒ V.Z))/\ts.N=rs.N/\∀(k:B) a r e,ts[k]?=O a->rs[k]?=O r->C[k]?=O e->∃x,iI[r.i]?=O x/\H a=O (.Ţ [.str x,.M r.n,.M (cV e.b e.c t),.M r.q])
theorem OY.ĭ {t:G}{rs:Y dW}(h:OY H l t rs C)(s:∀q F,H q=O (.Ť F)->U q=O (.Ť F))(u:fC H U):OY U l t rs C:=by
 refine IS λUq uq=>?_;obtain⟨ts,a,b,c⟩:=h;exact uq (⟨ts,s _ _ a,b,λk a r e g ah aI=>let⟨x,y,z⟩:=c k a r e g ah aI;⟨x,y,u _ _ z⟩⟩)
theorem OY.ű {t:G}{rs:Y dW}(h:OY H l t rs C)(s:a5 H U):OY U l t rs C:=h.ĭ (λ_ _ z=>s _ _ z) (mA s)
theorem Yv {b:Ϩ}{Ϻ:fq}{a4:dn}(Pv:B->St->ag->Prop)(h0:Pv 0 J H)(aw:∀i J H,Pv i J H->aM K H a F/\aM K H b ys)(aH:∀i x y J H T (ϰ:St->ag->Prop),F[i]?=O x->ys[i]?=O y->Pv i J H->H T=none->(∀a7 U,Pv (i+1) a7 U->ϰ a7 U)->Ϻ (.Z T) J (ſ H T (.Ţ [x,y])) λdm aC=>a4 { ϶ with aP:=ϰ,cb:=ϰ,bf:=϶.aP } dm aC)(hd:∀J H,Pv (min F.N ys.N) J H->϶.aP J H):
  ∃W:B->B->St->ag->Prop,(∃m,W 0 m J H)/\∀i m J H,W i m J H->
   ((ou K a b).stop i H/\϶.aP J H)\/((ou K a b).go i H/\∃ϰ:St->ag->Prop,(∀a7 U,ϰ a7 U->∃ba,ba<m/\W (i+1) ba a7 U)/\∀x U,(ou K a b).fR i H x U->Ϻ x J U λdm aC=>a4 { ϶ with aP:=ϰ,cb:=ϰ,bf:=϶.aP } dm aC):=
 Ue Pv h0 aw (λi x y J H T ai aU p n=>aH i x y J H T _ ai aU p n λ_ _ z=>z) hd
theorem Yw {b:Ϩ}(Pv:B->Y V->ag->Prop)(h0:Pv 0 [] H)(aw:∀i zs H,Pv i zs H->aM K H a F/\aM K H b ys)(aH:∀i x y zs H T,F[i]?=O x->ys[i]?=O y->Pv i zs H->H T=none->tt (O x::O y::cs) (ſ H T (.Ţ [x,y])) λiH bw=>if iH=true then bT (O x::O y::cs) bw λv cK=>zs.N<=ϓ/\Pv (i+1) (zs++[v]) cK else Pv (i+1) zs bw)(hd:∀zs H,Pv (min F.N ys.N) zs H->zs.N<=ϓ/\ϴ zs H):
  ∃W:B->B->Y V->ag->Prop,(∃m,W 0 m [] H)/\mr (ou K a b) (sf K 2 (zgs (hN 0) (zgs (hN 1) sd))) tt bT (none::none::cs) W ϴ:=by
 refine⟨λi m zs H=>m=min F.N ys.N-i/\i<=min F.N ys.N/\Pv i zs H,⟨min F.N ys.N,by simp,ł _,h0⟩,?_⟩;rintro i m zs H ⟨rfl,aA,p⟩;obtain⟨a3,b9⟩:=aw i zs H p;by_cases cJ:i<min F.N ys.N
 ·have lW:i<F.N:=⋯
  have bX:i<ys.N:=⋯
  refine .Œ ⟨⟨F,ys,F[i],ys[i],a3,b9,by simp[lW],by simp[bX]⟩,Pv (i+1),λagh U eB=>⟨min F.N ys.N-(i+1),⋯,rfl,cJ,eB⟩,λv U y=>?_⟩;obtain⟨T,x,y,au,az,bY,dN⟩:=y;subst au bY;obtain⟨g1,g2⟩:=dN F ys a3 b9;refine⟨T,[x,y],rfl,bN.of aQ,rfl,x,[y],rfl,y,[],rfl,rfl,⟨by simp,λj z hz=>?_⟩,aH i x y zs H T g1 g2 p az⟩;match j,hz with
  | 0,hz=>cases hz
  | 1,hz=>cases hz
  | (j+2),hz=>exact hz
 ·have e:i=min F.N ys.N:=⋯
  subst e;obtain⟨cQ,da⟩:=hd zs H p;exact .ε ⟨⟨F,ys,a3,b9,⋯⟩,cQ,da⟩
def Ex:V->Ŀ
 | .M i=>.M i
 | _=>.none
def rT:ϣ bb->Ŀ
 | O (.Ţ [x,y])=>.B_ [Ex x,Ex y]
 | _=>.none
def oQ (H:ag)(ps:Y Ϩ)(t:G)(C:Y Ĕ):Prop:=∀(k:B) a e,ps[k]?=O a->C[k]?=O e->H a=O (.Ţ [.M (cV e.b e.c t),.M (cV e.b e.c (t+1))])
theorem oQ.ű {ps:Y Ϩ}{t:G}(h:oQ H ps t C)(s:a5 H U):oQ U ps t C:=λk a e g ah=>s _ _ (h k a e g ah)
theorem Yx {Ϯ k:Ϩ}{aJ:Y (ϕ×V)}(t:e5 ŷ Ρ Ϯ H)(s:cM k H U)(aq:H k=O (.Â Ϸ dx aJ)):e5 ŷ Ρ Ϯ U:=by
 refine IS λUq uq=>?_;obtain⟨a4,a,b,c⟩:=t;exact uq (⟨a4,s _ _ a (bM a aq (λz=>nomatch z)),b,c.Pg id λ⟨c,co,x,y,z⟩=>⟨c,co,x,s _ _ y (bM y aq (λz=>nomatch z)),z⟩⟩)
theorem L7 {K:ş}{H:ag}:∀ks:Y B,ni K H (ks.ϒ λk=>V.M ((k:B):G)) (ks.ϒ λk=>Ŀ.M ((k:B):G))
 | []=>.ń
 | k::r=>.θ (.M _) (L7 r)
theorem Yy (ks:Y B)(h:ks.N<=1000):ĝ.ii (.ö (ks.ϒ λk=>Ŀ.M ((k:B):G)))=true:=by
 have a:Ŀ.canLayAll0 (ks.ϒ λk=>Ŀ.M ((k:B):G))=true/\Ŀ.anS (ks.ϒ λk=>Ŀ.M ((k:B):G))<=1:=by
  clear h;induction ks with
  | ń=>exact⟨rfl,by simp[Ŀ.anS]⟩
  | θ k r bB=>exact⟨by simp[Ŀ.canLayAll0,Ŀ.canLay0,bB.1],by have:=bB.2;simp only[Ŷ,Ŀ.anS,Ŀ.Ol]at ν ⊢;omega⟩
 have au:Ŀ.canLay0 (.ö (ks.ϒ λk=>Ŀ.M ((k:B):G)))=true:=by simp only[Ŀ.canLay0];exact a.1
 have az:Ŀ.Ol (.ö (ks.ϒ λk=>Ŀ.M ((k:B):G)))<=64:=by simp only[Ŀ.Ol];omega
 simp[ĝ.ii,au,az]
theorem Yz {D:bZ}{Ϯ:Ϩ}{S:ef}{h:B}{u:G}{rs:Y dW}(t:e5 ŷ Ρ Ϯ H)(fr:Fr H U S)(ϴ:dj D H p S w h L u rs C):e5 ŷ Ρ Ϯ U:=
 let⟨a4,a,b,c⟩:=t
 let⟨_,dH,_⟩:=ϴ.ct
 let⟨_,d4,_⟩:=ϴ.nd
 ⟨a4,fr _ _ a (bM a dH (λz=>nomatch z)) (bM a ϴ.ch (λz=>nomatch z)) (bM a ϴ.bf.1.2 (λz=>nomatch z)) (bM a d4 (λz=>nomatch z)),b,c.Pg id λ⟨c,co,x,y,z⟩=>⟨c,co,x,fr _ _ y (bM y dH (λz=>nomatch z)) (bM y ϴ.ch (λz=>nomatch z)) (bM y ϴ.bf.1.2 (λz=>nomatch z)) (bM y d4 (λz=>nomatch z)),z⟩⟩
theorem YA {t:OE}:ś [V.M 1] [ϫ.M 1 t]:=.θ ⟨_,rfl⟩ .ń
inductive YB (D:bZ)(d:Y V)(H:ag)(Q:a8)(ϵ:bz):Prop
 | mk (p:Ϩ)(S:ef)(w h:B)(L:Y B)(t:G)(rs:Y dW)(C:Y Ĕ)(_:d=[.Z p])(_:dj D H p S w h L t rs C)(_:∀l U,a5 H U->H l=none->OY U l t rs C->Q (.Z l) U)
inductive YC (d:Y V)(H:ag)(Q:a8)(ϵ:bz):Prop
 | mk (v:V)(b:G)(c:Y G)(s:G)(_:d=[v,.M s])(_:fB H v b c)(_:c≠[])(_:c.N<=20000)(_:b<=s)(_:Q (.M (cV b c s)) H)
inductive YD (d:Y V)(H:ag)(Q:a8)(ϵ:bz):Prop
 | mk (v:V)(b:G)(c:Y G)(eT:V)(cc:G)(aX:Y G)(t:G)(_:d=[v,eT,.M t])(_:fB H v b c)(_:pS b c)(_:fB H eT cc aX)(_:pS cc aX)(_:b<=t)(_:cc<=t)(_:t<=1000)(_:¬ie b c cc aX)(_:∀U,a5 H U->Q (.bl true) U)
inductive YE (D:bZ)(d:Y V)(H:ag)(Q:a8)(ϵ:bz):Prop
 | mk (p:Ϩ)(S:ef)(w h:B)(L:Y B)(t:G)(rs:Y dW)(C:Y Ĕ)(_:d=[.Z p])(_:dj D H p S w h L t rs C)(_:∀U,a5 H U->Q (.bl true) U)
def AB (H:ag)(S:ef)(U:ag)(gF:ef):Prop:=∀q F,H q=O (.Ť F)->q≠S.ct->q≠S.ch->U q=O (.Ť F)/\q≠gF.ct/\q≠gF.ch
inductive YF (D:bZ)(a4:Ϩ)(d:Y V)(H:ag)(Q:a8)(ϵ:bz):Prop
 | mk (l p:Ϩ)(S:ef)(w h:B)(L:Y B)(t:G)(rs:Y dW)(C:Y Ĕ)(_:d=[.Z l,.Z p])(_:dj D H p S w h L t rs C)(_:jC H l w h L)(_:t<=999)(_:e5 (jx gZ) "sought.<locals>.there" a4 H)(_:∀U gF cZ,AB H S U gF->e5 (jx gZ) "sought.<locals>.there" a4 U->dj D U p gF w h L (t+1) cZ C->Q (.bl true) U)
inductive YG (D:bZ)(K:ş)(a4:Ϩ)(d:Y V)(H:ag)(Q:a8)(ϵ:bz):Prop
 | mk (l p:Ϩ)(S:ef)(w h:B)(L:Y B)(t:G)(rs:Y dW)(C:Y Ĕ)(m ϱ:G)(_:d=[.Z l,.Z p,.M m])(_:dj D H p S w h L t rs C)(_:jC H l w h L)(_:0<=m)(_:(∀x∈C,iJ x<=ϱ))(_:t<=ϱ)(_:ϱ<=18000)(_:e5 (jx gZ) "sought.<locals>.there" a4 H)(_:∀v U cZ ec,AB H S U S->e5 (jx gZ) "sought.<locals>.there" a4 U->dj D U p S w h L t cZ ec->(∀x∈ec,iJ x<=ϱ+1001)->Q v U)
theorem YH {Ϻ:fq}{a4:dn}(Pv:B->St->ag->Prop)(h0:Pv 0 J H)(aw:∀i J H,Pv i J H->aM K H a F)(aH:∀(i:B) x J H T (ϰ:St->ag->Prop),F[i]?=O x->Pv i J H->H T=none->(∀a7 U,Pv (i+1) a7 U->ϰ a7 U)->Ϻ (.Z T) J (ſ H T (.Ţ [.M (i:B),x])) λdm aC=>a4 { ϶ with aP:=ϰ,cb:=ϰ,bf:=϶.aP } dm aC)(hd:∀J H,Pv F.N J H->϶.aP J H):
  ∃W:B->B->St->ag->Prop,(∃m,W 0 m J H)/\∀i m J H,W i m J H->
   ((p0 K a).stop i H/\϶.aP J H)\/((p0 K a).go i H/\∃ϰ:St->ag->Prop,(∀a7 U,ϰ a7 U->∃ba,ba<m/\W (i+1) ba a7 U)/\∀x U,(p0 K a).fR i H x U->Ϻ x J U λdm aC=>a4 { ϶ with aP:=ϰ,cb:=ϰ,bf:=϶.aP } dm aC):=
 UG Pv h0 aw (λi x J H T ai p n=>aH i x J H T _ ai p n λ_ _ z=>z) hd
def lX (H:ag)(S:ef)(q:Ϩ)(F:Y V):Prop:=H q=O (.Ť F)/\q≠S.ct/\q≠S.ch
theorem lX.lk {S gF:ef}{q:Ϩ}(k:lX H S q F)(h:AB H S U gF):lX U gF q F:=h q F k.1 k.2.1 k.2.2
theorem lX.ű {S:ef}{q:Ϩ}(k:lX H S q F)(h:a5 H U):lX U S q F:=⟨h _ _ k.1,k.2⟩
structure lh (D:bZ)(a4:Ϩ)(H:ag)(p l q:Ϩ)(w h:B)(L:Y B)(F:Y V)(ϱ eZ:G):Prop where
 mk::
 ex:∃S t rs C,dj D H p S w h L t rs C/\e5 (jx gZ) "sought.<locals>.there" a4 H/\(∀x∈C,iJ x<=ϱ)/\t<=eZ/\lX H S l ((Fl.ī w h L).ϒ V.str)/\lX H S q F
theorem lh.ű {D:bZ}{q:Ϩ}{h:B}{ϱ eZ:G}(y:lh D a4 H p l q w h L F ϱ eZ)(s:a5 H U):lh D a4 U p l q w h L F ϱ eZ:=by
 refine IS λUq uq=>?_;obtain⟨S,t,rs,C,a,b,c,ϻ,e,f⟩:=y.ex;exact uq (⟨S,t,rs,C,a.kt (hI s),b.ű s,c,ϻ,e.ű s,f.ű s⟩)
theorem lh.XV {D:bZ}{q:Ϩ}{h:B}{ϱ eZ:G}(y:lh D a4 H p l q w h L F ϱ eZ):H q=O (.Ť F):=by
 refine IS λUq uq=>?_;obtain⟨_,_,_,_,_,_,_,_,_,f⟩:=y.ex;exact uq (f.1)
theorem YI {lo aA:ϣ G}(h:v∈jh F lo aA):v∈F:=Y.alb (Y.g_ h)
inductive xN (K:ş)(a4:Ϩ)(d:Y V)(H:ag)(Q:a8)(ϵ:bz):Prop
 | mk (a:Ϩ)(ns:Y G)(_:d=[.Z a])(_:aM K H a (ns.ϒ V.M))(_:ns.N<=63)(_:(∀i∈ns,zf i))(_:e5 (jx gZ) "sought.<locals>.there" a4 H)(_:∀U,Q (.bl true) U)
structure fO (D:bZ)(L:Y B)(H:ag)(ay l:Ϩ)(n:B):Prop where
 ob:∃dx,H ay=O (.Â (D 119) dx (cu "things" (.Z l) []))
 ex:∃ts:Y Ϩ,H l=O (.Ť (ts.ϒ V.Z))/\ts.N=n/\∀t∈ts,∃a c,eG L c=true/\H t=O (.Ţ [.M a,.M c])
theorem fO.mt {D:bZ}{m:B}(h:fO D L H ay l n)(bK:∀t∈us,∃a c,eG L c=true/\H t=O (.Ţ [.M a,.M c]))(e:us.N=m):cM l H (ſ H l (.Ť (us.ϒ V.Z)))/\fO D L (ſ H l (.Ť (us.ϒ V.Z))) ay l m:=by
 obtain⟨dx,au⟩:=h.ob;obtain⟨ts,az,_⟩:=h.ex;refine⟨λb o af nb=>by rwa[aE nb],⟨dx,by rwa[aE (bM au az (λz=>nomatch z))]⟩,us,aQ,e,λt bk=>?_⟩;obtain⟨a,c,ak,g⟩:=bK t bk;exact⟨a,c,ak,by rwa[aE (bM g az (λz=>nomatch z))]⟩
theorem fO.at {D:bZ}(h:fO D L H ay l n):∃(dx:Ϩ)(ts:Y Ϩ),H ay=O (.Â (D 119) dx (cu "things" (.Z l) []))/\H l=O (.Ť (ts.ϒ V.Z))/\ts.N=n/\(∀t∈ts,∃a c,eG L c=true/\H t=O (.Ţ [.M a,.M c]))/\∀i:B,i<n->∃x a c,ts[i]?=O x/\eG L c=true/\H x=O (.Ţ ([a,c].ϒ V.M)):=by
 obtain⟨dx,au⟩:=h.ob;obtain⟨ts,az,bY,dN⟩:=h.ex;refine⟨dx,ts,au,az,bY,dN,λi aA=>?_⟩;have ai:=ϡ (show i<ts.N by omega)
 obtain⟨a,c,g,ah⟩:=dN _ (ύ ai);exact⟨_,a,c,ai,g,ah⟩
theorem fO.off {D:bZ}{k:Ϩ}(h:fO D L H ay l n)(aq:H k=O (.bL ks))(s:cM k H U):fO D L U ay l n:=by
 obtain⟨dx,au⟩:=h.ob;obtain⟨ts,az,bY,dN⟩:=h.ex;refine⟨⟨dx,s _ _ au (bM au aq (λz=>nomatch z))⟩,ts,s _ _ az (bM az aq (λz=>nomatch z)),bY,λt bk=>?_⟩;obtain⟨a,c,g,ah⟩:=dN t bk;exact⟨a,c,g,s _ _ ah (bM ah aq (λz=>nomatch z))⟩
theorem fO.ű {D:bZ}(h:fO D L H ay l n)(s:a5 H U):fO D L U ay l n:=by
 obtain⟨dx,au⟩:=h.ob;obtain⟨ts,az,bY,dN⟩:=h.ex;refine⟨⟨dx,s _ _ au⟩,ts,s _ _ az,bY,λt bk=>?_⟩;obtain⟨a,c,g,ah⟩:=dN t bk;exact⟨a,c,g,s _ _ ah⟩
theorem tA {aC:ag}(a:cM l H H1)(b:cM l H1 aC):cM l H aC:=λx o h n=>b _ _ (a _ _ h n) n
inductive YJ (D:bZ)(d:Y V)(H:ag)(Q:a8)(ϵ:bz):Prop
 | mk (ay l:Ϩ)(L:Y B)(n p a:B)(_:d=[.Z ay,.M (p:G),.M (a:G)])(_:fO D L H ay l n)(_:p<n)(_:a<n)(_:∀U,cM l H U->fO D L U ay l n->Q .br U)
inductive YK (D:bZ)(d:Y V)(H:ag)(Q:a8)(ϵ:bz):Prop
 | mk (ay l:Ϩ)(L:Y B)(n p:B)(_:d=[.Z ay,.M (p:G)])(_:fO D L H ay l n)(_:Q .br H)(_:∀b:B,p<b->b<n->Q (.M (b:G)) H)
inductive L8 (D:bZ)(d:Y V)(H:ag)(Q:a8)(ϵ:bz):Prop
 | mk (ay l:Ϩ)(L:Y B)(n:B)(_:d=[.Z ay])(_:fO D L H ay l (n+1))(_:∀U,cM l H U->fO D L U ay l (n+1)->Q .br U)
inductive YL (D:bZ)(d:Y V)(H:ag)(Q:a8)(ϵ:bz):Prop
 | mk (ay l:Ϩ)(L:Y B)(n:B)(_:d=[.Z ay])(_:fO D L H ay l (n+1))(_:∀(t:Ϩ)(a c:G),eG L c=true->H t=O (.Ţ [.M a,.M c])->Q (.Z t) H)
inductive YM (D:bZ)(d:Y V)(H:ag)(Q:a8)(ϵ:bz):Prop
 | mk (ay l t:Ϩ)(L:Y B)(n:B)(a c:G)(_:d=[.Z ay,.Z t])(_:fO D L H ay l n)(_:n<=80000)(_:eG L c=true)(_:H t=O (.Ţ [.M a,.M c]))(_:∀U,cM l H U->fO D L U ay l (n+1)->Q .br U)
inductive YN (D:bZ)(d:Y V)(H:ag)(Q:a8)(ϵ:bz):Prop
 | mk (ay l:Ϩ)(L:Y B)(n:B)(_:d=[.Z ay])(_:fO D L H ay l (n+1))(_:∀(t:Ϩ) (a c:G) U,eG L c=true->U t=O (.Ţ [.M a,.M c])->cM l H U->fO D L U ay l n->Q (.Z t) U)
inductive YO (D:bZ)(d:Y V)(H:ag)(Q:a8)(ϵ:bz):Prop
 | mk (ay l:Ϩ)(L:Y B)(n:B)(_:d=[.Z ay])(_:fO D L H ay l n)(_:Q (.M (n:G)) H)
def xO (L:Y B)(H:ag)(a:Ϩ)(ϰ:B):Prop:=∃ts:Y Ϩ,H a=O (.Ť (ts.ϒ V.Z))/\ts.N<=ϰ/\∀t∈ts,∃o k,eG L o=true/\H t=O (.Ţ [.M o,.M k])
theorem xO.ű {ϰ ϱ:B}(h:xO L H a ϰ)(s:a5 H U)(l:ϰ<=ϱ):xO L U a ϱ:=by
 refine IS λUq uq=>?_;obtain⟨ts,g,ah,aI⟩:=h;exact uq (⟨ts,s _ _ g,B.Ķ ah l,λt bk=>let⟨o,k,x,y⟩:=aI t bk;⟨o,k,x,s _ _ y⟩⟩)
def L9 (L:Y B)(H:ag)(ϻ:Ϩ)(Ϝ:Y (Ř×V)):Prop:=H ϻ=O (.bL Ϝ)/\∀c,eG L c=true->∃a,aW Ϝ (.ε c)=O (.Z a)/\xO L H a 400
def oR (L:Y B)(fM H:ag)(Ϝ:Y (Ř×V))(r bW:Ϩ)(ϰ:B):Prop:=∀c v,aW Ϝ (.ε c)=O v->∃a,v=.Z a/\fM a=none/\a≠r/\a≠bW/\xO L H a ϰ
theorem oR.ű {Ϝ:Y (Ř×V)}{r bW:Ϩ}{ϰ ϱ:B}(h:oR L fM H Ϝ r bW ϰ)(s:a5 H U)(l:ϰ<=ϱ):oR L fM U Ϝ r bW ϱ:=λc v aG=>
 let⟨a,e,n,x,y,Ϻ⟩:=h c v aG
 ⟨a,e,n,x,y,Ϻ.ű s l⟩
theorem oR.app {Ϝ:Y (Ř×V)}{r bW t jG:Ϩ}{ϰ:B}{o k:G}(h:oR L fM H Ϝ r bW ϰ)(jW:H t=none)(av:eG L o=true)(aN:H jG=O (.Ť (us.ϒ V.Z)))(rV:us.N<=ϰ)(oS:∀t∈us,∃o k,eG L o=true/\H t=O (.Ţ [.M o,.M k])):oR L fM (ſ (ſ H t (.Ţ [.M o,.M k])) jG (.Ť (us.ϒ V.Z++[.Z t]))) Ϝ r bW (ϰ+1):=λc v aG=>by
 obtain⟨a,e,n,x,y,ts,g1,g2,g3⟩:=h c v aG;have s:=zj (o:=bb.Ţ [V.M o,V.M k]) jW
 have tk:∀{b F},H b=O (.Ţ F)->ſ (ſ H t (.Ţ [.M o,.M k])) jG (.Ť (us.ϒ V.Z++[.Z t])) b=O (.Ţ F):=λ{b F} af=>by
  rw[aE (bM af aN (λz=>nomatch z))];exact s _ _ af
 refine⟨a,e,n,x,y,?_⟩;by_cases z:a=jG
 ·subst z;refine⟨us++[t],by rw[aQ,Ε];rfl,by rw[υ];exact B.add_le_add_right rV 1,λu bK=>?_⟩;rcases κ.mp bK with z|z
  ·obtain⟨bR,ha,a3,b9⟩:=oS u z;exact⟨bR,ha,a3,tk b9⟩
  ·refine⟨o,k,av,?_⟩;rw[ϖ.mp z,aE (lg jW aN)];exact aQ
 ·refine⟨ts,by rw[aE z];exact s _ _ g1,B.le_succ_of_le g2,λu bK=>?_⟩;obtain⟨bR,ha,a3,b9⟩:=g3 u bK;exact⟨bR,ha,a3,tk b9⟩
inductive YP (D:bZ)(d:Y V)(H:ag)(Q:a8)(ϵ:bz):Prop
 | mk (p aZ:Ϩ)(i:B)(n:G)(w h:B)(L:Y B)(_:d=[.Z aZ,.Z p])(_:hE D H p i n)(_:i<=3)(_:gE (D 110) H aZ w h L)(_:Fl.ħ w h L)(_:∀(r:Ϩ) (Ϝ:Y (Ř×V)) U,H r=none->a5 H U->L9 L U r Ϝ->Q (.Z r) U)
def Ey (Ϝ:Y (Ř×V)):Prop:=∀c v,aW Ϝ (.ε c)=O v->∃i,v=.M i
inductive YQ (D:bZ)(d:Y V)(H:ag)(Q:a8)(ϵ:bz):Prop
 | mk (p aZ l:Ϩ)(i:B)(n:G)(w h:B)(L:Y B)(rW:Y G)(_:d=[.Z aZ,.Z p,.Z l])(_:hE D H p i n)(_:i<=3)(_:gE (D 110) H aZ w h L)(_:Fl.ħ w h L)(_:H l=O (.Ť (rW.ϒ V.M)))(_:rW.N<=200)(_:(∀Ϻ∈rW,eG L Ϻ=true))(_:∀(r:Ϩ) (Ϝ:Y (Ř×V)) U,H r=none->a5 H U->U r=O (.bL Ϝ)->Ey Ϝ->Q (.Z r) U)
inductive YR (D:bZ)(d:Y V)(H:ag)(Q:a8)(ϵ:bz):Prop
 | mk (p aZ:Ϩ)(i:B)(n:G)(w h:B)(L:Y B)(_:d=[.Z aZ,.Z p])(_:hE D H p i n)(_:i<=3)(_:gE (D 110) H aZ w h L)(_:Fl.ħ w h L)(_:∀(r:Ϩ) (Ϝ:Y (Ř×V)) U,H r=none->a5 H U->U r=O (.bL Ϝ)->Ey Ϝ->Q (.Z r) U)
structure iM (D:bZ)(L:Y B)(H1 H:ag)(cd ay aw:Ϩ)(ks:Y (Ř×V))(n:B):Prop where
 s:a5 H1 H
 c:H cd=O (.bL ks)
 hw:fO D L H ay aw n
 nd:(ks.ϒ (·.1)).Α
 tD:∀k∈ks.ϒ (·.1),k∈(Õ L).ϒ IZ.ε
 it:Ey ks
theorem iM.P {D:bZ}{cd aw:Ϩ}{m:B}(t:iM D L H1 H cd ay aw ks n)(nl:H1 aw=none)(b:cM aw H U)(h:fO D L U ay aw m):iM D L H1 U cd ay aw ks m:=by
 obtain⟨ts,e,_⟩:=t.hw.ex;exact⟨λx o ai=>b _ _ (t.s _ _ ai) (lg nl ai).symm,b _ _ t.c (bM t.c e (λz=>nomatch z)),h,t.nd,t.tD,t.it⟩
theorem iM.OR {D:bZ}{cd aw:Ϩ}(t:iM D L H1 H cd ay aw ks n)(s:a5 H U):iM D L H1 U cd ay aw ks n:=⟨t.s.Ϛ s,s _ _ t.c,t.hw.ű s,t.nd,t.tD,t.it⟩
theorem iM.SC {D:bZ}{h:B}{cd aw:Ϩ}(t:iM D L H1 H cd ay aw ks n)(Ϻ:Fl.ħ w h L):ks.N<=100:=by
 have:=sP t.nd t.tD
 rw[ϧ,ϧ]at ν;exact B.Ķ ν (xu Ϻ)
theorem iM.cost {D:bZ}{cd aw:Ϩ}{a:G}(t:iM D L H1 H cd ay aw ks n)(gk:H1 cd=none)(ak:eG L c=true):iM D L H1 (ſ H cd (.bL (ß ks (.ε c) (.M a)))) cd ay aw (ß ks (.ε c) (.M a)) n:=
 ⟨λx o ai=>by rw[aE (lg gk ai).symm];exact t.s _ _ ai,aQ,t.hw.off t.c λx o ai aP=>by rwa[aE aP],sO t.nd,λk aq=>(zJ aq).Ę (λz=>z ▸ Ζ.ļ ⟨c,ut.ļ ak,rfl⟩) (t.tD k),λx v aG=>by
  rw[jU]at aG;split at aG
  ·cases aG;exact⟨a,rfl⟩
  ·exact t.it x v aG⟩
def Ma (D:bZ)(L:Y B)(H1:ag)(aZ p l ϻ cd ay aw:Ϩ)(m:B)(J:St)(H:ag):Prop:=∃(n:B)(ks:Y (Ř×V))(c2 gV iK hJ lj:ϣ V),m=n+401*(100-ks.N)/\iM D L H1 H cd ay aw ks n/\n<=200+400*ks.N/\J=[O (V.Z aZ),O (V.Z p),O (V.Z l),O (V.Z ϻ),O (V.Z cd),O (V.Z ay),c2,gV,iK,hJ,lj]
structure AD (L:Y B)(w:B)(H:ag)(a gx:Ϩ)(t:G)(e:Ĕ):Prop where
 mk::
 ex:∃(x nK:ϕ)(j:B)(n gI q bC:G),H a=O (.Ţ [.str x,.M n,.M (cV e.b e.c t),.M q])/\H gx=O (.Ţ [.str nK,.M gI,.M (cV e.b e.c (t+1)),.M bC])/\j<3/\iI[j]?=O x/\ee L (cV e.b e.c t)/\kr j w L n (cV e.b e.c t) (cV e.b e.c (t+1)) q=O bC/\0<=bC/\bC<=n
theorem YS {D:bZ}{bw:ag}{eB hu iq:Ϩ}{S gF:ef}{h:B}{t:G}{rs cZ:Y dW}(aR:dj D fM p S w h L t rs C)(mY:dj D bw eB gF w h L (t+1) cZ C)(tk:tw w L t C rs cZ)(a4:OY bw hu t rs C)(iZ:OY bw iq (t+1) cZ C):∃qk ql:Y Ϩ,bw hu=O (.Ť (qk.ϒ V.Z))/\bw iq=O (.Ť (ql.ϒ V.Z))/\qk.N=C.N/\ql.N=C.N/\∀(i:B) a gx,qk[i]?=O a->ql[i]?=O gx->∃e,C[i]?=O e/\AD L w bw a gx t e:=by
 obtain⟨qk,af,AE,YT⟩:=a4;obtain⟨ql,bj,Ez,YU⟩:=iZ;have le:=aR.cy.1
 have mL:=tk.1
 refine⟨qk,ql,af,bj,⋯,⋯,λi a gx aN kj=>?_⟩;have YV:i<rs.N:=by rw[<- AE];exact(Y.Ϧ.mp aN).1
 have aO:=ϡ YV
 have h4:=ϡ (show i<cZ.N by omega)
 have he:=ϡ (show i<C.N by omega)
 obtain⟨x,dK,ob⟩:=YT i a _ _ aN aO he;obtain⟨nK,_,YW⟩:=YU i gx _ _ kj h4 he;obtain⟨fi,f9,aP⟩:=tk.2 i _ _ _ he aO h4;obtain⟨_,_,YX⟩:=mY.cy.2 i _ _ he h4;obtain⟨_,_,YY⟩:=aR.cy.2 i _ _ he aO;obtain⟨dJ,a3,_⟩:=YX.now;obtain⟨ms,_,AF⟩:=aR.ct;obtain⟨_,_,_,e6,_,_⟩:=ϋ.Ph AF aO;exact⟨_,he,⟨x,nK,_,_,_,_,_,ob,YW,e6,dK,YY.now.2.2.1,aP,dJ,by rwa[<- f9]⟩⟩
theorem AD.ű {gx:Ϩ}{t:G}(r:AD L w H a gx t e)(s:a5 H U):AD L w U a gx t e:=by
 refine IS λUq uq=>?_;obtain⟨x,nK,j,n,gI,q,bC,g,ah,aI⟩:=r.ex;exact uq (⟨x,nK,j,n,gI,q,bC,s _ _ g,s _ _ ah,aI⟩)
theorem YZ {D:bZ}{hR:ag}{S:ef}{h:B}{t:G}{rs:Y dW}{ps:Y Ϩ}{r:Ϩ}(aR:dj D fM p S w h L t rs C)(al:oQ hR ps t C)(ih:ps.N=C.N)(he:C[i]?=O e)(aO:hR r=O (.Ţ [.M (cV e.b e.c (t+1)),.M (cV e.b e.c t)]))(ne:¬V.M (cV e.b e.c t)=V.M (cV e.b e.c (t+1))):(∀b,b=r\/b∈ps->Den K hR (.Z b) (rT (hR b))/\ĝ.ii (rT (hR b))=true)/\¬(ps.J_ λb=>(rT (hR b)).Bo (rT (hR r)))=true:=by
 have iy:∀{b:Ϩ},b∈ps->∃(k:B)(e:Ĕ),C[k]?=O e/\hR b=O (.Ţ [.M (cV e.b e.c t),.M (cV e.b e.c (t+1))]):=λ{b} af=>by
  obtain⟨k,aq⟩:=Ŏ af;have dR:=ϡ (show k<C.N by rw[<- ih];exact(Y.Ϧ.mp aq).1)
  exact⟨k,_,dR,al k b _ aq dR⟩
 have sM:∀{b x y},hR b=O (.Ţ [.M x,.M y])->Den K hR (.Z b) (rT (hR b))/\ĝ.ii (rT (hR b))=true:=λ{b x y} af=>by
  rw[af];exact⟨.Ţ (bN.of af) (.θ (.M _) (.θ (.M _) .ń)),rfl⟩
 refine⟨λb af=>?_,λaU=>?_⟩
 ·rcases af with rfl|af
  ·exact sM aO
  ·obtain⟨k,e,_,mu⟩:=iy af;exact sM mu
 ·obtain⟨b,af,az⟩:=ú.mp aU;obtain⟨k,bq,jr,mu⟩:=iy af;rw[mu,aO]at az;simp only[rT,Ex,Ŀ.Bo,Ŀ.eqvAll,δ.anN,Ŵ,Ā,Μ]at az;obtain⟨dH,k1,b1,_⟩:=aR.ent he;obtain⟨di,k2,b2,_⟩:=aR.ent jr;by_cases z:k=i
  ·subst z;rw[he]at jr;cases jr;exact ne (ż V.M az.1)
  ·exact(Ew (aR.ap _ dH _ di ⋯) b1 b2).2 ⟨az.1.symm,az.2⟩
theorem Y0 {D:bZ}{S:ef}{h:B}{t:G}{rs:Y dW}(aR:dj D fM p S w h L t rs C):(C.ϒ λe=>cV e.b e.c (t+1)).Α:=by
 refine Y.anj.ļ (Y.k_.ļ λi j aA bg agi=>?_);obtain⟨dH,k1,b1,_⟩:=aR.ent (ϡ aA);obtain⟨di,k2,b2,_⟩:=aR.ent (ϡ bg);exact(Ew (aR.ap _ dH _ di ⋯) ⋯ ⋯).1
theorem oQ.O2 {ps:Y Ϩ}{q:Ϩ}{t:G}(h:oQ H ps t C)(ih:ps.N=i)(he:C[i]?=O e)(s:a5 H U)(ao:U q=O (.Ţ [.M (cV e.b e.c t),.M (cV e.b e.c (t+1))])):oQ U (ps++[q]) t C:=λk b bq g ah=>by
 by_cases z:k<ps.N
 ·rw[Ŭ z]at g;exact s _ _ (h k b bq g ah)
 ·have:=(Y.Ϧ.mp g).1
  rw[υ]at ν;have:k<ps.N+1:=ν
  have e:k=i:=⋯
  subst e;rw[Ő ⋯,show k-ps.N=0 by omega]at g;cases g;rw[he]at ah;cases ah;exact ao
set_option hygiene false
local macro_rules|`(tactic|left)=>`(tactic|refine oqq λUq uq=>?_)
local macro_rules|`(tactic|nofun)=>`(tactic|refine bh _ _ ?_)
local macro_rules|`(tactic|right)=>`(tactic|refine uq ?_)
local macro_rules|`(tactic| walk_at "h")=>`(tactic| (have EA:Hid _:=HR.PR;have HU:Hid _:=HR.units;have hA:=HR.hd;have hz:=big))
local macro_rules|`(tactic| and_intros)=>`(tactic| (intro cdv A outer s H vs Q E R h Uq uq;have HR:=R.r;walk_at "h";have ND:=R.nd))
local macro_rules|`(tactic| rfl')=>`(tactic| try dsimp only[hs,Cx.nox,Cx.wish])
set_option hygiene true
theorem Y1:Db "BadCell":=∅
theorem Mb:Db "BadStops":=∅
theorem Y2:Db "Busy":=∅
theorem Y3:Db "CHARGER":=∅
theorem Y4:Db "Closed":=∅
theorem Y5:Db "FloorError":=∅
theorem Y6:Db "Meets":=∅
theorem Y7:Db "NoReserve":=∅
theorem Y8:Db "SIGNS":=∅
theorem Y9:Db "Taken":=∅
theorem Za:Db "WALL":=∅
theorem Zb:Db "_law_mixed":=∅
theorem Zc:Db "last_time":=∅
theorem Zd:Db "stands_at":=∅
theorem Ze:Db "stays_till":=∅
theorem Zf:nz gZ "time":=∅
theorem Mc:nz gZ "layer":=∅
theorem Zg:zL vx "pairs":=∅
theorem Zh:zL vA "_law_ways":=∅
theorem Zi:zL Aa "chargers":=∅
theorem Zj:zL oE "_law_through":=∅
theorem Md:nz D2 "there":=∅
theorem Zk:fK DW "Meets":=∅
theorem Zl:fK z8 "max":=∅
theorem Zm:fK z9 "min":=∅
theorem Zn:fK Ac "BadCell":=∅
theorem Zo:fK Ac "Taken":=∅
theorem Me:fK Ag "BadStops":=∅
theorem Zp:fK D3 "NoReserve":=∅
theorem Zq:fK Ad "list":=∅
theorem Zr:fK Ad "range":=∅
theorem Zs:fK vy "range":=∅
theorem Zt:fK Ae "Busy":=∅
theorem Zu:fK Af "Closed":=∅
theorem Zv:fK z6 "range":=∅
theorem Zw:fK z7 "range":=∅
theorem Mf:fK vA "range":=∅
theorem Zx:fK D4 "range":=∅
theorem Zy:fK D5 "FloorError":=∅
theorem Mg:fK vz "range":=∅
theorem Zz:fK oE "len":=∅
theorem ZA:fK oE "set":=∅
theorem Mh:fK oE "zip":=∅
theorem ZC:fK DV "range":=∅
theorem ZD:fK s8 "enumerate":=∅
theorem Mi:fK s8 "range":=∅
theorem ZE:fK DY "enumerate":=∅
theorem Mj:iG oD "searched":=∅
theorem ZF:fK DU "range":=∅
theorem ZG:iG gZ "is_free":=∅
theorem Mk:fK Ab "reversed":=∅
theorem ZH:fK Ab "tuple":=∅
theorem Ml:FS q54 q54 JX:=∅
theorem Mm:FS q58 q58 JY:=∅
theorem ZI:FS ["thing"] ["thing"] JZ:=∅
theorem ZJ:FS q59 q59 DQ:=∅
theorem ZK:FS O6 O6 J3:=∅
theorem ZL:FS O6 O6 J4:=∅
theorem ZM:FS O6 O6 J5:=∅
theorem ZN:FS I_ I_ z7:=∅
theorem ZO:FS q60 q60 J6:=∅
theorem ZP:FS I_ I_ J7:=∅
theorem ZQ:FS O5 O5 J8:=∅
theorem ZR:FS O5 O5 J9:=∅
theorem ZS:FS Pk Pk Ka:=∅
theorem ZT:FS I_ I_ Kd:=∅
theorem ZU:FS I_ I_ Ke:=∅
theorem ZV:FS O5 O5 Kf:=∅
theorem ZW:FS O5 O5 Kg:=∅
theorem ZX:FS I_ I_ Ki:=∅
theorem ZY:FS O5 O5 Kj:=∅
theorem ZZ:FS ["way"] ["way"] Km:=∅
theorem Z0:FS q23 q23 Kn:=∅
theorem Z1:FS I_ I_ Kr:=∅
theorem Z2:FS I_ I_ Kt:=∅
theorem Z3:FS HS HS DX:=∅
theorem Z4:FS q26 q26 Kx:=∅
theorem Z5:FS ["way","cell","left","index","place"] ["way","cell"] DY:=∅
theorem Z6:FS I_ I_ Ky:=∅
theorem Z7:FS I_ I_ KA:=∅
theorem Z8:FS I_ I_ KD:=∅
theorem Z9:FS ["self","place","below"] ["self","place"] KI:=∅
theorem aaa:FS ["self","place","other","kept"] q47 KJ:=∅
theorem aab:FS ["stops","many","cell","met"] q50 KO:=∅
theorem aac:FS q09 q09 KQ:=∅
theorem aad:FS q42 q42 KV:=∅
theorem aae:FS q30 q30 KW:=∅
theorem aaf:FS q61 q61 KY:=∅
theorem aag:FS I_ I_ K0:=∅
theorem aah:FS I_ I_ Ad:=∅
theorem aai:FS q36 q36 K9:=∅
theorem aaj:FS ["_law_cell","_law_k","_law_mixed_here"] q53 La:=∅
theorem aak:FS q17 q17 Lb:=∅
theorem aal:FS q20 q20 Lc:=∅
theorem aam:FS q38 q38 Lh:=∅
theorem aan:FS q33 q33 J0:=∅
theorem aao:FS q34 q34 Kb:=∅
theorem aap:FS Pk Pk Kh:=∅
theorem aaq:FS Pk Pk Kk:=∅
theorem aar:FS q23 q23 Ko:=∅
theorem aas:FS HS HS z8:=∅
theorem aat:FS ["self","number","cell","free","way"] q14 Kv:=∅
theorem aau:FS HS HS Kw:=∅
theorem aav:FS ["self","place","above"] I_ KG:=∅
theorem aaw:FS ["self","place","below"] I_ KH:=∅
theorem aax:FS q27 q27 KP:=∅
theorem aay:FS q41 q41 KU:=∅
theorem aaz:FS ["_law_cell","_law_wide","_law_high","_law_signs"] ["_law_cell"] vz:=∅
theorem aaA:FS ["_law_lines_here","_law_kind","_law_cell","_law_other","_law_wide","_law_down","_law_across","_law_sign_here"] q12 Ld:=∅
theorem aaB:FS ["_law_lines_here","_law_kind","_law_full","_law_cell","_law_charge","_law_gain"] q08 Le:=∅
theorem aaC:FS ["_law_one","_law_other","_law_now","_law_end","_law_time","_law_here","_law_there"] q24 D4:=∅
theorem aaD:Js ["time","layer"] q40 (bV gZ):=⟨rfl,rfl,rfl,∅,∅,∅,∅,∅⟩
theorem aaE:FS ["lines","line"] ["lines"] DR:=∅
theorem aaF:FS O6 O6 J2:=∅
theorem aaG:FS Pk Pk Kc:=∅
theorem Mn:FS q62 q62 DT:=∅
theorem aaH:FS ["way","time","end","place","later"] q44 DU:=∅
theorem aaI:FS ["one","other","time","place","far"] q52 Kp:=∅
theorem aaJ:FS HS HS Ks:=∅
theorem aaK:FS ["self","number","time","places","way","later"] q46 Ku:=∅
theorem aaL:FS q56 q56 Kz:=∅
theorem aaM:FS ["self","first","last"] I_ KC:=∅
theorem aaN:FS q57 q57 KZ:=∅
theorem aaO:FS ["_law_lines_here","_law_kind","_law_full","_law_charge","_law_cell","_law_other","_law_cost_here"] q06 Lf:=∅
theorem aaP:FS q55 q55 J1:=∅
theorem aaQ:FS I_ I_ z6:=∅
theorem aaR:FS ["self","cell","near"] O6 DS:=∅
theorem aaS:FS q25 q25 Kl:=∅
theorem aaT:FS ["one","other","begin","end","time","word"] ["one","other"] DV:=∅
theorem aaU:FS q18 q18 z9:=∅
theorem aaV:FS HS HS K4:=∅
theorem aaW:FS HS HS K8:=∅
theorem aaX:FS ["self","floor","cell","pairs"] q48 vx:=∅
theorem Mo:FS ["self","number","way","other"] q49 DW:=∅
theorem aaY:FS q11 q11 DZ:=∅
theorem aaZ:FS HS HS K1:=∅
theorem aa0:FS HS HS K2:=∅
theorem aa1:FS HS HS K3:=∅
theorem aa2:FS HS HS K5:=∅
theorem Mp:FS q31 q31 Ag:=∅
theorem aa3:FS ["_law_fleet","_law_ways","_law_one","_law_other"] q32 vA:=∅
theorem aa4:FS ["floor","carrier","into","cell","other","cost"] q11 KL:=∅
theorem aa5:FS ["self","node","steps"] ["self","node"] D1:=∅
theorem Mq:FS ["self","kind","full","cell","charge","mover","number"] q22 Ac:=∅
theorem aa6:FS ["_law_fleet","_law_found","_law_number","_law_one"] q32 Lg:=∅
theorem aa7:FS ["floor","carrier","cell","other","charge","cost"] q16 Kq:=∅
theorem aa8:FS ["floor","carrier","goals","into","costs","heap","goal","taken","cell","other","cost"] q43 KN:=∅
theorem aa9:FS ["self","comings","node","charge","cell","pairs","other","cost"] q28 KS:=∅
theorem aba:FS ["floor","carrier","chargers"] q11 Aa:=∅
theorem abb:FS ["self","time","layer","comings","behind","node","other","charge"] q51 KR:=∅
theorem abc:FS ["self","time","layer","node","charge","comings","near"] q21 D0:=∅
theorem abd:FS ["self","number","way","here"] HS K6:=∅
theorem abe:FS ["spread","marks","time","node","charge","cells","first","layer"] q35 Ab:=∅
theorem Mr:FS ["self","ticks","tick"] q39 vy:=∅
theorem Ms:FS ["self","number","cell","mover"] q14 D3:=∅
theorem abf:FS ["_law_lines_here","_law_fleet","_law_before","_law_behind","_law_one","_law_other","_law_kind","_law_full","_law_cell","_law_charge","_law_steps","_law_through"] q37 oE:=∅
theorem Mt:FS ["spread","begin","layer","there","quiet","time","marks","node","behind"] q15 D2:=∅
theorem Mu:FS q10 q07 oD:=∅
theorem abg:FS ["self","book","number","stops","least","here"] q19 K7:=∅
theorem Mv:FS ["self","number","stops","least","reserve"] q03 Ae:=∅
theorem Mw:FS ["self","number","stops","least","told"] q03 Af:=∅
theorem abh:FS ["_law_lines_here","_law_fleet","_law_mixed_here","_law_many","_law_numbers","_law_full","_law_kind","_law_stops"] q13 D5:=∅
theorem Mx:FS ["_law_script","_law_lines_here","_law_fleet","_law_k","_law_cell","_law_mixed_here","_law_turn"] q45 s8:=∅
seal PA PE PS PSs PI PG
section
def xP (e:nA):Prop:=∀fd:Ix,kG e.bP "law" "law" s8 (e.ar 109) fd->ft e.jz e.jA e.bP e.nB e.nC bx 18 (e.ar 109) fd q45 (xN e.bP e.gR)
theorem My:Nonempty nA:=⟨⟨λ_=>0,default,⟨λ_ _=>0,{ strHash:=λ_=>0,shareClass:=λ_=>0,mergeTok:=id,idOf:=λ_=>0,idOfShared:=λ_ _=>0,followText:=λ_=>true,idOfImm:=λ_=>0 }⟩,default,λ_=>none,default,0,0⟩⟩
def D:nA:=@TD.epsilon nA My λe=>Txt e/\¬xP e
theorem Mz {e:nA}(T:Txt e)(n:¬xP e):Txt D/\¬xP D:=TD.epsilon_spec_aux My (λe=>Txt e/\¬xP e) ⟨e,T,n⟩
seal ad
variable (T:Txt ad)
include T
local macro_rules|`(tactic|ext)=>do let f:=λs:String=>(s.splitOn " ").toArray.map λs=>Lean.mkIdent s.toName;let x:=f "Bj HD zsa Bo sf zgs sd zrl BV rJoin zgu zvu zcn Cc zwz HS HV HW zlc t8 ipI CG B3 zdv uz zwh zcc DM Dp Dr zww zjz ziq Ends.thawK zjh zek B7 CJ CQ zkn B4 zjc tVr zvd zkb zds DJ DG Dy z5 zkh zcy Bz BK znp Bg zbn CD sh tOp tUn t5 tC mh rI rU zne yD ztg Bi Bh hN tCB zje lC zvp Bf ztm Bd tOr Be tB tIf yN qR tBM BQ BB BA zdi ztq tSl yU rIn uo ur BN rEq rNe I5 I6 I7 zzp I8 zym zyy I9 zzl yW BU Bx I2 pq uz Bm zve Cg zta nh Cm zvc uF cxK cxA Hn Ho L2.start I3 I4 length_cons length_nil List.replicate_succ List.replicate_zero List.cons_append List.nil_append append_nil Nat.reduceAdd Nat.reduceSub List.set_cons_zero List.set_cons_succ List.getElem?_cons_zero List.getElem?_cons_succ Option.getD_some getD_none Option.some.injEq V.int.injEq V.ref.injEq V.bl.injEq V.str.injEq V.ty.injEq exists_eq_left' exists_eq_left exists_and_left and_assoc List.cons.injEq and_true true_and decide_eq_true_eq not_eq_true' decide_eq_false_iff_not false_eq_true if_false if_true reduceIte Bool.not_true Bool.not_false beq_self_eq_true";let y:=f "IK IL IM IP IQ IS IT I0 I1 znx zni IU IV IW IX IY IZ znu";`(tactic|simp only[$[$x:term],*,$[↓$y:term],*])
theorem abi:b0 D (ht D.jz D.jA) 1 (D.ar 0) q54 (WA D.ar):=by
 obtain⟨fd,ϴ,ϸ⟩:=(T 251);refine⟨fd,ϸ,?_⟩;refine ϴ.oe Ml.sc.1 ?_ (λË Ϲ Ϗ s H d Q ϵ HR h=>IS λUq uq=>?_);walk_at "l"
 have R:fD _ _ _ _ _:=⟨Ml,HR⟩
 have ND:=R.nd
 walk_at "h"
 obtain⟨x,k,aJ,a0,rfl,ai,ao⟩:=h;refine uq ⟨_,(aT (JQ (A 0 R) (A 1 R) rfl)),?_⟩;rfl';ext;exact⟨_,_,_,ai,⟨(T 164),(T 241),(T 242)⟩,(T 165),λdx cz cS=>ao dx cz cS⟩
theorem abj:b0 D (ht D.jz D.jA) 1 (D.ar 1) q58 (Yk D.ar):=by
 obtain⟨fd,ϴ,ϸ⟩:=(T 252);refine⟨fd,ϸ,?_⟩;refine ϴ.oe Mm.sc.1 ?_ (λË Ϲ Ϗ s H d Q ϵ HR h=>IS λUq uq=>?_);walk_at "l"
 have R:fD _ _ _ _ _:=⟨Mm,HR⟩
 have ND:=R.nd
 walk_at "h"
 obtain⟨x,a,aJ,a0,rfl,ai,ao⟩:=h;refine uq ⟨_,(aT (JQ (A 0 R) (A 1 R) rfl)),?_⟩;rfl';ext;exact⟨_,_,_,ai,⟨(T 168),(T 249),(T 250)⟩,(T 169),λdx cz cS=>ao dx cz cS⟩
theorem MA:b0 D bx 1 (D.ar 2) ["thing"] (V6 D.bP):=by
 refine cj (T 253) ZI ?_;and_intros;obtain⟨x,rfl,ty,ao⟩:=h;refine uq ⟨_,(aT (zx (pd (cX q2 R (T 172) (aj (A 0 R) (aj (rr (v:=.ty "int") R (T 174) rfl) aB))) (m9 (ak4 (cX q2 R (T 172) (aj (A 0 R) (aj (rr (v:=.ty "bool") R (T 175) rfl) aB)))))))),?_⟩;rfl';obtain⟨n,ty⟩:=ty;have au:=V4 ty
 have az:=V5 ty
 ext;refine⟨_,ty,_,au,?_⟩;cases af:Aj x with
 | true=>
  rw[aS rfl];refine⟨_,ty,_,az,?_⟩;cases x<;>simp_all [Ai,D6,Aj]
 | false=>
  rw[aD (by decide)];cases x<;>simp_all [Ai,D6,Aj]
theorem abk:b0 D bx 1 (D.ar 4) q59 (Wa):=by
 refine cj (T 255) ZJ ?_;and_intros;obtain⟨x,n,rfl,aF,Hi,ok,ao⟩:=h;obtain⟨agj,abl,abm⟩:=(T 32);refine uq ⟨_,(aY (c1 (e9.pt (m8 (gH (e2 (cX q2 R (T 172) (aj (A 0 R) (aj (rr (v:=.ty "str") R (T 176) rfl) aB))))) (m7 (cR mi (cX ml R (T 170) (aj (A 0 R) aB)) (A 1 R)))))
 ly
 c4)
 (aT (c1 (gH (e2 (cX Cn R (T 173) (aj (iB (fz.of (gA:=bV DQ) (tn:=["sign"]) (cn:=[]) (dQ:=[]) rfl rfl ∅ ∅ ∅ ∅ rfl) (c8 rfl)  (Hp (A 0 R))
 (λ_ _ _ _ _=>(gU (i:=0) (show(["sign"]:Y ϕ).Α by decide +Ė) rfl (Or.ε rfl))) (λ_ _ _ _ _=>kN) (λ_ _ _ _ _=>(ju Hs (cx 0) (yA (v:=V.str (ϕ.ϝ ".#+~|")) (by rfl) abl abm (hd:=Y8))))) aB))))
 ly
 c4))),?_⟩
 rfl';ext;refine⟨_,.str _,true,rfl,?_⟩;rw[aD (by decide)];refine⟨⋯,?_⟩;rw[aD ⋯];refine n9 Hr (λ_=>true) Lj (λy aU Q h=>h) (λy aU _ Q h=>?_) (by rw[ϧ,Hv];omega) ?_
 ·left;obtain⟨c,ak,rfl⟩:=Ζ.mp aU;right;ext;exact⟨c,rfl,h⟩
 ·intro ϶ eP;have fJ:((x.Ch.Ω.ϒ eE).ı λ_=>true).ϒ Lj=(x.Ch.Ω.ϒ λc=>decide (c∈(ϕ.ϝ ".#+~|").Ch.Ω)).ϒ V.bl:=by
   rw[Y.ai3.ļ (λ_ _=>rfl),ó,ó];rfl
  rw[fJ];refine⟨hA,_,aM.of aQ,?_⟩;have az:(x.Ch.Ω.ϒ λc=>decide (c∈(ϕ.ϝ ".#+~|").Ch.Ω)).IY id=true:=by
   rw[all_map,ù];intro c ak;exact ι (V8 (ok c ak))
  rw[az,aD (by decide)];exact ao _ (zj eP)
theorem nL:b0 D bx 1 (D.ar 8) O6 (Ll (D.ar 110)):=by
 refine cj (T 259) ZK ?_;and_intros;obtain⟨p,w,h,L,c,rfl,aR,Ϻ,hx,cI,ao⟩:=h;refine uq ⟨_,(aT (zx (cm uu (cq (A 0 R) (by rfl)) (A 1 R) (λ_ _=>rfl)))),?_⟩;rfl';left;obtain⟨dx,l,g,ah⟩:=aR.ob;have l0:=lP Ϻ
 right;ext;exact(cp g (T 188) (T 192) (th _ _ _ _) ⟨_,rfl,by rw[kT];omega,_,D9 hx cI,ao⟩)
theorem MB:b0 D bx 1 (D.ar 9) O6 (We (D.ar 110)):=by
 refine cj (T 260) ZL ?_;and_intros;obtain⟨p,w,h,L,c,rfl,aR,Ϻ,ao⟩:=h;refine uq ⟨_,(aT (zx (bU hO (A 1 R) (cq (A 0 R) (by rfl))))),?_⟩;rfl';left;obtain⟨dx,l,g,ah⟩:=aR.ob;have d0:=Ϻ.d0
 right;ext;exact(cp g (T 188) (T 189) (xt _ _ _ _) ⟨_,rfl,⋯,ao⟩)
theorem MC:b0 D bx 1 (D.ar 10) O6 (Wf (D.ar 110)):=by
 refine cj (T 261) ZM ?_;and_intros;obtain⟨p,w,h,L,c,rfl,aR,Ϻ,ao⟩:=h;refine uq ⟨_,(aT (zx (bU hq (A 1 R) (cq (A 0 R) (by rfl))))),?_⟩;rfl';left;obtain⟨dx,l,g,ah⟩:=aR.ob;have d0:=Ϻ.d0
 have fQ:=Ϻ.fQ
 right;ext;exact(cp g (T 188) (T 189) (xt _ _ _ _) ⟨_,rfl,⟨⋯,⋯⟩,ao⟩)
theorem abn:b0 D bx 1 (D.ar 12) I_ (Wh (D.ar 110)):=by
 refine cj (T 263) ZN ?_;and_intros;obtain⟨p,w,h,L,rfl,aR,Ϻ,ao⟩:=h;obtain⟨EB,rX,rY⟩:=(T 29);refine uq ⟨_,(aT (zx (iB (fz.of (gA:=bV z7) (tn:=["place"]) (cn:=I_) (dQ:=[0]) rfl rfl ∅ ∅ ∅ ∅ rfl) (c8 rfl)  (nZ (eQ Zw) (T 171).1 (aj (cX ml R (T 170) (aj (cq (A 0 R) (by rfl)) aB)) aB) (d3 rfl))
 (
 λ_ _ _ _ _=>(gU (i:=0) (show(["place","self"]:Y ϕ).Α by decide +Ė) rfl (Or.ε rfl))) (λ_ _ _ _ _=>(n7 (cR fx (cm uu (zg (K:=D.bP) rfl (cx 1) (by rfl)) (cx 0) (λ_ _=>rfl)) (yA (v:=V.str (ϕ.ϝ "+")) (by rfl) rX rY (hd:=Y3))))) (λ_ _ _ _ _=>(cx 0))))),?_⟩
 rfl';left;obtain⟨dx,l,g,ah⟩:=aR.ob;have l0:=lP Ϻ
 right;ext;refine(cp g (T 188) (T 192) (th _ _ _ _) ⟨_,rfl,by rw[kT];omega,⋯,by rw[kT];omega,?_⟩);rw[kT,ũ];refine n9 amM (Ea L) (λv=>v) (λy aU Q bj=>?_) (λy aU _ Q bj=>?_) (by rw[ϧ,Ī];omega) ?_
 ·left;obtain⟨i,aA,rfl⟩:=Ζ.mp aU;have pF:=ñ.mp aA
  right;ext;refine(cp g (T 188) (T 192) (th _ _ _ _) ⟨_,rfl,by rw[kT];omega,_,D9 ⋯ ⋯,?_⟩);have e:Ea L (V.M (0+((i:B):G)))=decide ((⟨#[Ó L (0+((i:B):G))]⟩:ϕ)=ϕ.ϝ "+"):=sK.ļ (V9 _).symm
  rw[e]at bj;exact bj
 ·ext;exact bj
 ·intro ϶ eP;have e:((((Ć L.N).ϒ λi=>V.M (0+((i:B):G))).ı (Ea L)).ϒ λv=>v)=(oi L).ϒ V.M:=by
   rw[alo,oi,Is];have:((Ć L.N).ϒ λi=>V.M (0+((i:B):G)))=((Ć L.N).ϒ λi=>((i:B):G)).ϒ V.M:=by
    rw[ó];refine Ù λi _=>?_;simp
   rw[ν,ahp];rfl
  rw[e];exact ao ϶ _ eP (zj eP) aQ
theorem EC:b0 D bx 1 (D.ar 14) q60 (Ln D.ar):=by
 refine cj (T 265) ZO ?_;and_intros;obtain⟨p,dx,n,i,rfl,ay,ao⟩:=h;refine uq ⟨_,(aT (gL (A 0 R) (A 1 R) rfl)),?_⟩;rfl';ext;exact⟨_,_,_,ay,Ec T i,Ed T i,by simp,ao⟩
theorem xQ:b0 D bx 1 (D.ar 15) I_ (ko "carrier"):=by
 refine cj (T 266) ZP ?_;and_intros;obtain⟨x,rfl,ao⟩:=h;refine uq ⟨_,(aT (zx v6)),?_⟩;rfl';ext;exact ao
theorem j9:b0 D bx 1 (D.ar 16) O5 (j6 0):=by
 refine cj (T 267) ZQ ?_;and_intros;obtain⟨x,c,rfl,ao⟩:=h;obtain⟨abo,ED,EE⟩:=(T 37);refine uq ⟨_,(aT (zx (ju ux (A 1 R) (jv (v:=.Z (D.ar 130)) R ED EE)))),?_⟩;rfl';ext;refine⟨_,.Œ ((T 3) H),rfl,rfl,?_⟩;rw[Lq];have e:dO 0 c=IX c:=by simp[dO]
 rwa[<- e]
theorem MD:b0 D bx 1 (D.ar 17) O5 (oF 0):=by
 refine cj (T 268) ZR ?_;and_intros;obtain⟨x,c,rfl,ao⟩:=h;obtain⟨EB,rX,rY⟩:=(T 29);refine uq ⟨_,(aT (zx (pe (cR fx (A 1 R) (jv (v:=V.str (ϕ.ϝ "+")) R rX rY)) aV aV))),?_⟩;rfl';ext;refine⟨rfl,?_⟩;unfold fZ at ao;by_cases e:c=43
 ·rw[aS (oH.ļ e)];rw[aS e]at ao;exact ao
 ·rw[aD (λz=>e (oH.mp z))];rw[aD e]at ao;exact ao
theorem ME:b0 D bx 1 (D.ar 18) Pk (oG (D.ar 110) 0):=by
 refine cj (T 269) ZS ?_;and_intros;obtain⟨x,aZ,w,h,L,φ,Κ,rfl,aR,Ϻ,ll,oT,ao⟩:=h;refine uq ⟨_,(aT (zx aV)),?_⟩;rfl';ext;exact ao _ (a5.Ô _)
theorem xR:b0 D bx 1 (D.ar 22) I_ (ko "cart"):=by
 refine cj (T 273) ZT ?_;and_intros;obtain⟨x,rfl,ao⟩:=h;refine uq ⟨_,(aT (zx v6)),?_⟩;rfl';ext;exact ao
theorem xS:b0 D bx 1 (D.ar 23) I_ (ko "crawler"):=by
 refine cj (T 274) ZU ?_;and_intros;obtain⟨x,rfl,ao⟩:=h;refine uq ⟨_,(aT (zx v6)),?_⟩;rfl';ext;exact ao
theorem xT:b0 D bx 1 (D.ar 24) O5 (j6 1):=by
 refine cj (T 275) ZV ?_;and_intros;obtain⟨x,c,rfl,ao⟩:=h;obtain⟨abp,EF,EG⟩:=(T 30);obtain⟨abo,ED,EE⟩:=(T 37);refine uq ⟨_,(aT (zx (F1 (ju fx (A 1 R) (jv (v:=V.str (ϕ.ϝ "~")) R EF EG)) (m9 (ju ux (A 1 R) (jv (v:=.Z (D.ar 130)) R ED EE)))))),?_⟩;rfl';ext;refine⟨rfl,?_⟩;by_cases e:c=126
 ·rw[aS (qa.ļ e)];have az:dO 1 c=true:=by simp[dO,e]
  rwa[<- az]
 ·rw[aD (λz=>e (qa.mp z))];refine⟨_,.Œ ((T 3) H),rfl,rfl,?_⟩;rw[Lq];have az:dO 1 c=IX c:=by simp[dO,e]
  rwa[<- az]
theorem abq:b0 D bx 1 (D.ar 25) O5 (oF 1):=by
 refine cj (T 276) ZW ?_;and_intros;obtain⟨x,c,rfl,ao⟩:=h;obtain⟨EB,rX,rY⟩:=(T 29);refine uq ⟨_,(aT (zx (pe (cR fx (A 1 R) (jv (v:=V.str (ϕ.ϝ "+")) R rX rY)) aV aV))),?_⟩;rfl';ext;refine⟨rfl,?_⟩;unfold fZ at ao;by_cases e:c=43
 ·rw[aS (oH.ļ e)];rw[aS e]at ao;exact ao
 ·rw[aD (λz=>e (oH.mp z))];rw[aD e]at ao;exact ao
theorem xU:b0 D bx 1 (D.ar 27) I_ (ko "runner"):=by
 refine cj (T 278) ZX ?_;and_intros;obtain⟨x,rfl,ao⟩:=h;refine uq ⟨_,(aT (zx v6)),?_⟩;rfl';ext;exact ao
theorem abr:b0 D bx 1 (D.ar 28) O5 (oF 2):=by
 refine cj (T 279) ZY ?_;and_intros;obtain⟨x,c,rfl,ao⟩:=h;obtain⟨EB,rX,rY⟩:=(T 29);refine uq ⟨_,(aT (zx (pe (cR fx (A 1 R) (jv (v:=V.str (ϕ.ϝ "+")) R rX rY)) aV aV))),?_⟩;rfl';ext;refine⟨rfl,?_⟩;unfold fZ at ao;by_cases e:c=43
 ·rw[aS (oH.ļ e)];rw[aS e]at ao;exact ao
 ·rw[aD (λz=>e (oH.mp z))];rw[aD e]at ao;exact ao
theorem tE:b0 D bx 1 (D.ar 32) ["way"] (Wu):=by
 refine cj (T 282) ZZ ?_;and_intros;obtain⟨v,b,cs,rfl,hw,ao⟩:=h;refine uq ⟨_,(aT (zx (bU hp (bU eW (cm d2 (A 0 R) aV (λ_ _=>rfl)) (cX gM R (T 170) (aj (cm d2 (A 0 R) aV (λ_ _=>rfl)) aB))) aV))),?_⟩;rfl';left;obtain⟨p,q,rfl,g,ah⟩:=hw;right;ext;exact(dM (bN.of g) rfl (dM (bN.of g) rfl ⟨_,rfl,_,.Œ (bN.of ah),_,rfl,by rwa[ϧ]⟩))
theorem abt:b0 D bx 1 (D.ar 33) q23 (Wv):=by
 refine cj (T 283) Z0 ?_;and_intros;obtain⟨v,b,cs,t,rfl,hw,ao⟩:=h;refine uq ⟨_,(aT (zx (cX (sq rfl) R (T 180) (aj (bU hp (A 1 R) (cm d2 (A 0 R) aV (λ_ _=>rfl))) (aj (bU hp (cX gM R (T 170) (aj (cm d2 (A 0 R) aV (λ_ _=>rfl)) aB)) aV) aB))))),?_⟩;rfl';left;obtain⟨p,q,rfl,g,ah⟩:=hw;right;ext;exact(dM (bN.of g) rfl ⟨_,rfl,dM (bN.of g) rfl ⟨_,rfl,_,.Œ (bN.of ah),by rwa[ϧ]⟩⟩)
theorem abu:b0 D bx 1 (D.ar 39) I_ (WB D.ar):=by
 refine cj (T 289) Z1 ?_;and_intros;obtain⟨p,dx,rfl,ay,ao⟩:=h;refine uq ⟨_,(aT (gL (A 0 R) uA rfl)),?_⟩;rfl';ext;exactλϻ nd=>⟨_,_,_,(zj nd) _ _ ay,(T 207),(T 208),by show 0<1000;decide,ao ϻ nd⟩
theorem abv:b0 D bx 1 (D.ar 42) I_ (WC D.ar):=by
 refine cj (T 292) Z2 ?_;and_intros;obtain⟨p,ϻ,C,rfl,af,aw,ao⟩:=h;refine uq ⟨_,(aT (zx (cX (SU rfl) R (T 182) (aj (cq (A 0 R) (by rfl)) aB)))),?_⟩;rfl';left;obtain⟨⟨dx,g⟩,ah⟩:=id af;right;ext;exact(cp g (T 207) (T 208) (rj ϻ) ⟨ϻ,rfl,bS C,.ε ah,by rwa[SW],λms ay aH l nl=>ao l ms nl (by rw[SX]at ay;exact ay) aH⟩)
theorem AG:b0 D bx 1 (D.ar 47) HS (WH D.ar):=by
 refine cj (T 297) Z3 ?_;and_intros;obtain⟨p,ϻ,C,n,rfl,af,ao⟩:=h;refine uq ⟨_,(aT (zx (SO (iB (fz.of (gA:=bV DX) (tn:=["other"]) (cn:=HS) (dQ:=[0,1]) rfl rfl ∅ ∅ ∅ ∅ rfl) (c8 rfl)  (SN (cq (A 0 R) (by rfl)))
 (
 λ_ _ _ _ _=>(gU (i:=0) (show(["other","self","number"]:Y ϕ).Α by decide +Ė) rfl (Or.ε rfl))) (λ_ _ _ _ _=>(n7 (cR mi (cx 0) (cx 2)))) (λ_ _ _ _ _=>(jl (eR HU) (zg (K:=D.bP) rfl (cx 1) (by rfl)) (cx 0) (λ_ _=>rfl))))))),?_⟩
 rfl';left;obtain⟨⟨⟨dx,g⟩,ah⟩,cy⟩:=id af;have jW:∀F,H ϻ≠O (.Ţ F):=λF z=>by rw[ah]at z;cases z
 have lZ:=cy.SC
 right;ext;refine .ε ⟨ϻ,gB C,ah,cp g (T 207) (T 208) (rj ϻ) ⟨ϻ,rfl,gB C,.ε ⟨ah,λo=>n9 (SP aQ) (u2 n) (CY C) (λy aU jK bj=>?_) (λy aU aF jK bj=>?_) (by rw[ϧ,Im];omega) (λ϶ eI=>?_)⟩⟩⟩
 ·left;rw[CZ]at aU;obtain⟨e,he,rfl⟩:=Ζ.mp aU;right;ext;rwa[show(!decide (e.k=n))=u2 n (V.M e.k) by simp[u2]]
 ·left;rw[CZ]at aU;obtain⟨e,he,rfl⟩:=Ζ.mp aU;right;ext;rw[show CY C (.M e.k)=e.v by show(aW (gB C) (IZ.ε e.k)).œ .br=_;rw[sL cy.nd he];rfl]at bj;exact(cp (by rwa[aE (bM g ah nofun)]) (T 207) (T 208) (rj ϻ) ⟨ϻ,rfl,e.v,Th aQ cy.nd he,bj⟩)
 ·have EH:϶≠ϻ:=λz=>by rw[z,aQ]at eI;cases eI
  have abw:H ϶=none:=by rw[aE EH]at eI;exact eI
  rw[Tf C n (CY C) (·.v) (λe he=>by show(aW (gB C) (IZ.ε e.k)).œ .br=_;rw[sL cy.nd he];rfl)];refine⟨⟨o,by rw[aE EH.symm,aQ]⟩,ao ϶ _ abw (Tg ah ((mB (jt (a5.Ô _))).OR eI)) (by rw[aE EH,aQ])⟩
theorem MF:b0 D bx 1 (D.ar 49) q26 (WJ):=by
 refine cj (T 299) Z4 ?_;and_intros;obtain⟨l,Ϝ,φ,Κ,rfl,aw,aG,ao⟩:=h;refine uq ⟨_,(aT (zx (pd (akQ (sy (eR HU) (A 2 R) (A 0 R)) (by with_unfolding_all rfl)) (m9 (ju (Rr HU) (G2 (eR HU) (A 0 R) (A 1 R) ⟨rfl,rfl,rfl,rfl⟩) (A 2 R)))))),?_⟩;rfl';have xV:∀z:G,eK H l (.M z) (aW Ϝ (.ε z)):=λz=>eK.k (k:=.ε z) aw
 ext;refine⟨_,xV Κ,?_⟩;cases g:aW Ϝ (.ε Κ) with
 | O x=>
  rw[aD (by simp)];exact ao false (by rw[g];simp)
 | none=>
  rw[aS (by rfl)];refine⟨.ε ⟨_,.ε aw⟩,_,xV φ,?_⟩;have abx:(aW Ϝ (.ε φ)).œ .br=.br\/∃i,(aW Ϝ (.ε φ)).œ .br=.M i:=by
   cases ah:aW Ϝ (.ε φ) with
   | none=>exact .ε rfl
   | O v=>exact aG φ v ah
  rcases abx with e|⟨i,e⟩<;>rw[e]
  ·refine⟨_,.br,_,.M Κ,rfl,rfl,?_⟩;exact ao true (by rw[g,e];simp)
  ·refine⟨_,.M i,_,.M Κ,rfl,rfl,?_⟩;have:(!Ŀ.Bo (.M i) (.M Κ))=decide (i≠Κ):=by show(!(i==Κ))=_;by_cases z:i=Κ<;>simp[z]
   rw[ν];exact ao _ (by rw[g,e];simp)
theorem aby:b0 D bx 1 (D.ar 50) ["way","cell"] (WL):=by
 refine cj (T 300) Z5 ?_;and_intros;obtain⟨v,b,c,φ,rfl,hw,ao⟩:=h;refine uq ⟨_,(aY (cv 2 R aV)
 (aY (ul Ų.Ï (c8 rfl) (Un (eQ ZE) (T 183).1 (aj (cm d2 (A 0 R) aV (λ_ _=>rfl)) aB) (d3 rfl)) (l9 (n:=2) (c8 rfl) (gJ (et 3 R) (gJ (et 4 R) l8)))
 (aT (c1 (cR fx (A 4 R) (A 1 R))
 (aT (cv 2 R (bU eW (bU eW (cm d2 (A 0 R) aV (λ_ _=>rfl)) (A 3 R)) aV)))
 c4)))
 (
 aT (zx (A 2 R))))),?_⟩
 rfl';left;obtain⟨q,w,rfl,g,ah⟩:=id hw;right;ext;refine(dM (bN.of g) rfl ⟨w,rfl,_,bN.of ah,Uo (F:=c.ϒ V.M) (λi J U=>∃(k:G)(x y:ϣ V),a5 H U/\u0 b c φ k i/\J=[O (V.Z q),O (V.M φ),O (V.M k),x,y]) ⟨0,none,none,a5.Ô _,.ε ⟨rfl,λi aA=>bJ aA (B.aiW i)⟩,rfl⟩ (λi J U ⟨_,_,_,s,_⟩=>bN.of (s _ _ ah)) ?_ ?_⟩)
 ·rintro i x J U qg ai cg hU;left;obtain⟨k,x0,zD,s,aw,rfl⟩:=cg;rw[Ϙ]at ai;obtain⟨z,hz,rfl⟩:=ξ.mp ai;have E:=Tb aw hz
  have s':=s.Ϛ (zj (o:=bb.Ţ [V.M (i:B),V.M z]) hU)
  right;ext;refine⟨_,bN.of aQ,rfl,_,_,rfl,_,_,rfl,rfl,rfl,?_⟩;split
  ·rename_i y;rw[aS (V.M.W1 y)]at E;exact(dM (bN.of (s' _ _ g)) rfl ⟨b,rfl,_,rfl,s',_,E,rfl,_,rfl⟩)
  ·rename_i y;rw[aD (λw=>y (by rw[w]))]at E;exact⟨s',_,E,rfl,_,rfl⟩
 ·rintro J U cg;left;obtain⟨k,x0,zD,s,aw,rfl⟩:=cg;rw[ϧ]at aw;right;ext;exact ao _ k s aw
theorem abz:b0 D bx 1 (D.ar 51) I_ (XD D.ar):=by
 refine cj (T 301) Z6 ?_;and_intros;obtain⟨p,dx,rfl,ay,ao⟩:=h;refine uq ⟨_,(aT (gL (A 0 R) (jg aB) rfl)),?_⟩;rfl';ext;refine⟨ł _,λl nl=>⟨_,_,_,(zj nl) _ _ ay,(T 216),(T 217),by show 0<1000;decide,ao l nl⟩⟩
theorem abA:b0 D bx 1 (D.ar 53) I_ (YL D.ar):=by
 refine cj (T 303) Z7 ?_;and_intros;obtain⟨ay,l,L,n,rfl,bj,ao⟩:=h;refine uq ⟨_,(aY (c1 (gH (Gh (cq (A 0 R) (by rfl)) (λ_=>rfl)))
 ly
 c4)
 (
 aT (zx (cm eO (cq (A 0 R) (by rfl)) aV (λ_ _=>rfl))))),?_⟩
 rfl';left;obtain⟨dx,ts,au,az,lt,al,gt⟩:=bj.at;obtain⟨x,gm,tF,ai,x1,fX⟩:=gt 0 ⋯;right;ext;refine(cp au (T 216) (T 217) (h2 l) ⟨_,.ε ⟨_,aM.of az,rfl⟩,?_⟩);rw[aD (by cases ts with|ń=>cases lt|θ t r=>simp)];exact(cp au (T 216) (T 217) (h2 l) ⟨l,rfl,_,aM.of az,_,oM (p:=0) ai,ao x gm tF x1 fX⟩)
theorem abB:b0 D bx 1 (D.ar 55) I_ (YO D.ar):=by
 refine cj (T 305) Z8 ?_;and_intros;obtain⟨ay,l,L,n,rfl,bj,ao⟩:=h;refine uq ⟨_,(aT (zx (cX gM R (T 170) (aj (cq (A 0 R) (by rfl)) aB)))),?_⟩;rfl';left;obtain⟨dx,ts,au,az,lt,al,gt⟩:=bj.at;right;ext;refine(cp au (T 216) (T 217) (h2 l) ⟨l,rfl,_,.ε (aM.of az),?_⟩);rwa[ϧ,lt]
theorem MG:b0 D bx 1 (D.ar 58) ["self","place"] (YK D.ar):=by
 refine cj (T 308) Z9 ?_;and_intros;obtain⟨ay,l,L,n,p,rfl,bj,aF,ao⟩:=h;refine uq ⟨_,(aY (cv 2 R (bU eW (bU sl aV (A 1 R)) aV))
 (aY (c1 (cR yL (A 2 R) (cX gM R (T 170) (aj (cq (A 0 R) (by rfl)) aB)))
 (aT (zx hM))
 c4)
 (aY (c1 (e9.pt (jL (cR qM (bU eW (A 2 R) aV) (cX gM R (T 170) (aj (cq (A 0 R) (by rfl)) aB))) (kb (cR (BL EA) (cm eO (cq (A 0 R) (by rfl)) (bU eW (A 2 R) aV) (λ_ _=>rfl)) (cm eO (cq (A 0 R) (by rfl)) (A 2 R) (λ_ _=>rfl))))))
 (aT (zx (bU eW (A 2 R) aV)))
 c4)
 (
 aT (zx (A 2 R)))))),?_⟩
 rfl';left;obtain⟨dx,ts,au,az,lt,al,gt⟩:=bj.at;have lm:(ts.ϒ V.Z).N=n:=by rw[ϧ,lt]
 right;ext;refine⟨.ε ⟨by decide,by decide⟩,cp au (T 216) (T 217) (h2 l) ⟨l,rfl,_,.ε (aM.of az),?_⟩⟩;rw[lm];split
 ·exact aF
 refine(cp au (T 216) (T 217) (h2 l) ⟨l,rfl,_,.ε (aM.of az),?_⟩);rw[lm];have cI:2*(p:G)+1=((2*p+1:B):G):=⋯
 have cE:2*(p:G)+1+1=((2*p+2:B):G):=⋯
 have hy:=ao (2*p+1) ⋯ ⋯
 rw[cI];split
 ·left;obtain⟨x,gm,tF,ai,_,fX⟩:=gt (2*p+1) ⋯;obtain⟨y,xW,xX,aU,_,fl⟩:=gt (2*p+2) ⋯;have ff:=ao (2*p+2) ⋯ ⋯
  right;rw[<- cI,cE];refine(cp au (T 216) (T 217) (h2 l) ⟨l,rfl,_,aM.of az,_,oM aU,cp au (T 216) (T 217) (h2 l) ⟨l,rfl,_,aM.of az,_,by rw[cI];exact oM ai,y,rfl,x,rfl,_,bN.of fl,_,bN.of fX,?_⟩⟩);split
  ·exact ff
  ·rwa[cI]
 ·exact hy
theorem MH:b0 D bx 1 (D.ar 59) q47 (YJ D.ar):=by
 refine cj (T 309) aaa ?_;and_intros;obtain⟨ay,l,L,n,p,a,rfl,bj,vw,MI,ao⟩:=h;refine uq ⟨_,(aY (cv 3 R (cm eO (cq (A 0 R) (by rfl)) (A 1 R) (λ_ _=>rfl)))
 (aY (si (cm eO (cq (A 0 R) (by rfl)) (A 2 R) (λ_ _=>rfl)) (yF (cq (A 0 R) (by rfl)) (A 1 R) aj3))
 (
 aT (si (A 3 R) (yF (cq (A 0 R) (by rfl)) (A 2 R) aj3))))),?_⟩
 rfl';left;obtain⟨dx,ts,au,az,lt,al,gt⟩:=bj.at;obtain⟨x,gm,tF,ai,x1,fX⟩:=gt p vw;obtain⟨y,xW,xX,aU,fW,fl⟩:=gt a MI;have lm:(ts.ϒ V.Z).N=n:=by rw[ϧ,lt]
 right;refine zu (λJ U=>U=H/\J=[O (V.Z ay),O (V.M (p:G)),O (V.M (a:G)),O (V.Z x)]) (λaP aq=>?_) ?_
 ·ext;exact(cp au (T 216) (T 217) (h2 l) ⟨l,rfl,_,aM.of az,_,oM ai,aq _ _ ⟨rfl,rfl⟩⟩)
 rintro cC bh J H1 ⟨rfl,rfl⟩;nofun;obtain⟨s1,g⟩:=bj.mt (us:=ts.mt p y) (λt bk=>(Y.Op bk).Ę (al t) λz=>z ▸ ⟨xW,xX,fW,fl⟩) (by rw[aif,lt]);refine zu (λJ U=>U=ſ H1 l (.Ť ((ts.mt p y).ϒ V.Z))/\J=[O (V.Z ay),O (V.M (p:G)),O (V.M (a:G)),O (V.Z x)]) (λaP aq=>?_) ?_
 ·ext;exact(cp au (T 216) (T 217) (h2 l) ⟨l,rfl,_,aM.of az,_,oM aU,cp au (T 216) (T 217) (h2 l) ⟨l,rfl,_,az,_,by rw[lm];exact LS vw,aq _ _ ⟨by rw[am9],rfl⟩⟩⟩)
 rintro cC bh J aC ⟨rfl,rfl⟩;nofun;obtain⟨MJ,f1⟩:=g.ob;ext;refine(cp f1 (T 216) (T 217) (h2 l) ⟨l,rfl,_,aQ,_,by rw[ϧ,aif,lt];exact LS MI,?_⟩);obtain⟨s3,aI⟩:=bj.mt (us:=(ts.mt p y).mt a x) (m:=n) (λt bk=>(Y.Op bk).Ę (λz=>(Y.Op z).Ę (al t) λz=>z ▸ ⟨xW,xX,fW,fl⟩) λz=>z ▸ ⟨gm,tF,x1,fX⟩) (by rw[aif,aif,lt]);rw[<- am9,Bb];exact ao _ s3 aI
theorem MK:b0 D bx 1 (D.ar 64) q50 (WO D.bP):=by
 refine cj (T 314) aab ?_;and_intros;obtain⟨a,F,m,c,rfl,dq,hm,ai,ao⟩:=h;refine uq ⟨_,(aY (cv 3 R (A 1 R))
 (aY (sj Ų.Ï (e9.pt (jL (cR qM (A 3 R) (cX gM R (T 170) (aj (A 0 R) aB))) (kb (cR fx (cm eO (A 0 R) (A 3 R) (λ_ _=>rfl)) (A 2 R)))))
 (aT (Dd 3 R aV F3)))
 (
 aT (zx (A 3 R))))),?_⟩
 rfl';ext;refine⟨λk J U=>∃j:B,k=F.N-j/\j<=F.N/\Hq F j c=Hq F m c/\U=H/\J=[O (V.Z a),O (V.M (m:G)),O (V.M c),O (V.M (j:G))],⟨_,m,rfl,hm,rfl,rfl,rfl⟩,?_⟩;rintro k J U cg;left;obtain⟨j,rfl,bg,e,rfl,rfl⟩:=cg;right;ext;refine⟨_,.ε dq,?_⟩;rw[ϧ];by_cases h:(j:G)<(F.N:G)
 ·rw[aS h];obtain⟨x,pP⟩:∃x,F[j]?=O x:=⟨_,ϡ ⋯⟩;refine⟨_,dq,V.M x,gW (by rw[Ϙ,pP];rfl),rfl,?_⟩;by_cases ak:x=c
  ·subst ak;rw[aS rfl];refine⟨λa7 H1=>H1=U/\a7=[O (V.Z a),O (V.M (m:G)),O (V.M x),O (V.M ((j:G)+1))],λa7 H1 ⟨au,az⟩=>⟨F.N-(j+1),⋯,j+1,rfl,⋯,(WR pP).symm.Ϛ e,au,az⟩,rfl,rfl⟩
  ·rw[aD (λz=>ak (V.M.W1 z))];rw[<- e,WS pP ak]at ao;exact ao
 ·rw[aD h];rw[<- e,WT ⋯]at ao;exact ao
theorem abC:b0 D bx 1 (D.ar 66) q09 (W4 D.ar):=by
 refine cj (T 316) aac ?_;and_intros;obtain⟨p,dx,aZ,ct,bf,a0,n,rfl,ay,ao⟩:=h;refine uq ⟨_,(aY (gL (A 0 R) (A 1 R) rfl)
 (aY (gL (A 0 R) (A 2 R) rfl)
 (aY (gL (A 0 R) (A 3 R) rfl)
 (aY (gL (A 0 R) (A 4 R) rfl)
 (aY (gL (A 0 R) (A 5 R) rfl)
 (
 aT (gL (A 0 R) GX rfl))))))),?_⟩
 rfl';ext;refine⟨_,_,_,ay,(T 209),(T 210),by show 0<1000;decide,_,_,_,aQ,(T 209),(T 211),by show 1<1000;decide,_,_,_,aQ,(T 209),(T 212),by show 2<1000;decide,_,_,_,aQ,(T 209),(T 213),by show 3<1000;decide,_,_,_,aQ,(T 209),(T 214),by show 4<1000;decide,λbI nn=>?_⟩;have np:bI≠p:=λz=>by rw[z,aQ]at nn;cases nn
 refine⟨_,_,_,by rw[aE np.symm,aQ],(T 209),(T 215),by show 5<1000;decide,?_⟩;rw[aE np,aE np,aE np,aE np,aE np]at nn;refine ao bI _ nn ⟨dx,aQ⟩ (by rw[aE np,aQ]) λb o af nb=>?_;rwa[aE nb,aE (cF af nn),aE nb,aE nb,aE nb,aE nb,aE nb]
theorem abD:b0 D bx 1 (D.ar 72) q42 (Xn D.ar):=by
 refine cj (T 322) aad ?_;and_intros;obtain⟨x,dx,v,k,rfl,ai,ao⟩:=h;refine uq ⟨_,(aY (gL (A 0 R) (A 1 R) rfl)
 (
 aT (gL (A 0 R) (A 2 R) rfl))),?_⟩
 rfl';ext;refine⟨_,_,_,ai,(T 201),(T 202),by decide,_,_,_,aQ,(T 201),(T 203),by show(cu _ _ []).N<1000;exact(by decide:(1:B)<1000),?_⟩;rwa[Bb]
theorem abE:b0 D bx 1 (D.ar 73) q30 (Xe D.ar):=by
 refine cj (T 323) aae ?_;and_intros;obtain⟨x,dx,bX,k,E,L,c3,rfl,ai,gn,lo,C4,bj,ao⟩:=h;refine uq ⟨_,(aY (gL (A 0 R) (A 1 R) rfl)
 (
 aT (gL (A 0 R) (u9 Tz R (T 179) (aj (A 2 R) aB)) rfl))),?_⟩
 rfl';have abF:bX≠x:=λz=>by rw[z,ai]at gn;cases gn
 ext;refine⟨_,_,_,ai,(T 204),(T 205),by decide,c3,by rwa[aE abF],C4,bj,λr de=>?_⟩;have bc:r≠x:=λz=>by rw[z,aQ]at de;cases de
 have abG:H r=none:=by rw[aE bc]at de;exact de
 exact⟨_,_,_,by rw[aE (Ne.symm bc),aQ],(T 204),(T 206),(by show(cu _ _ []).N<1000;exact(by decide:(1:B)<1000)),ao r _ abG aQ (by rw[aE bc,aQ]) λb b1 b2=>by rw[aE b1,aE b2,aE b1]⟩
theorem ML:b0 D bx 1 (D.ar 75) q61 (Xb):=by
 refine cj (T 324) aaf ?_;and_intros;obtain⟨v,t,rfl,av,ao⟩:=h;refine uq ⟨_,(aT (zx (pd (ju so (A 0 R) hM) (m9 (ju sm (A 0 R) (A 1 R)))))),?_⟩;rfl';ext;split
 ·rename_i z;rcases av with rfl|⟨n,rfl⟩
  ·exact bJ rfl z
  ·exact⟨n,rfl,ao _ (by rw[Μ];exact⟨λy=>⟨n,rfl,y⟩,λ⟨m,e,y⟩=>by cases e;exact y⟩)⟩
 ·rename_i z;obtain rfl:=TD.not_not.mp z;exact ao _ ⟨λy=>(by cases y),λ⟨m,e,_⟩=>(by cases e)⟩
theorem abH:b0 D bx 1 (D.ar 79) I_ (XQ D.ar):=by
 refine cj (T 328) aag ?_;and_intros;obtain⟨p,S,w,h,L,t,rs,C,rfl,aR,ao⟩:=h;refine uq ⟨_,(aT (zx (cq (A 0 R) (by rfl)))),?_⟩;rfl';obtain⟨dx,av⟩:=aR.ob;ext;exact(cp av (T 218) (T 220) (oO S t) ao)
theorem AH:b0 D bx 1 (D.ar 81) I_ (XR D.ar):=by
 refine cj (T 330) aah ?_;and_intros;obtain⟨p,S,w,h,L,t,rs,C,rfl,aR,ao⟩:=h;refine uq ⟨_,(aT (zx (V2 rfl (eQ Zq) (T 177).1 (eQ Zr) (T 171).1 (aj (cX gM R (T 170) (aj (cq (A 0 R) (by rfl)) aB)) aB) (d3 rfl) (d3 rfl)))),?_⟩;rfl';left;obtain⟨dx,av⟩:=aR.ob;obtain⟨ms,hm,pm⟩:=aR.ct;have lm:(ms.ϒ V.Z).N=rs.N:=by rw[ϧ];exact ϋ.N pm
 have hk:=aR.hk
 right;ext;refine(cp av (T 218) (T 221) (oN S t) ⟨S.ct,rfl,_,.ε (aM.of hm),?_⟩);rw[lm];exact⟨⋯,⋯,⋯,λl nl=>ao l nl⟩
theorem abI:b0 D bx 1 (D.ar 95) q36 (Ym D.bP):=by
 refine cj (T 341) aai ?_;and_intros;obtain⟨a,ns,k,rfl,dq,k0,ao⟩:=h;refine uq ⟨_,(aY (c1 (cR qM (A 1 R) (cX gM R (T 170) (aj (A 0 R) aB)))
 (aT (zx (cm eO (A 0 R) (A 1 R) (λ_ _=>rfl))))
 c4)
 (
 aT (zx aV))),?_⟩
 rfl';ext;refine⟨_,.ε dq,?_⟩;split
 ·rename_i z;rw[ϧ]at z;exact⟨_,dq,V.M (ns.œ k.Ο 0),HE k0 z,ao _⟩
 ·exact ao 0
theorem MM:b0 D bx 1 (D.ar 96) q53 (Yn):=by
 refine cj (T 342) aaj ?_;and_intros;obtain⟨c,k,rfl,k0,k1,ao⟩:=h;refine uq ⟨_,(aY (cv 2 R (bU eW (bU hO (bU uG (bU eW (A 0 R) aV) aV) aV) (bU uG aV (A 1 R))))
 (
 aT (zx (bU hq (bU hO (bU uG (A 2 R) (bU eW aV (bU uG (bU uG aV (A 1 R)) (A 1 R)))) aV) aV)))),?_⟩
 rfl';ext;have m0:=Pi ((c+7)*48271) (show(2147483647:G)≠0 by decide)
 have dH:=Y_ ((c+7)*48271) (show(0:G)<2147483647 by decide)
 have agk:0<=1013*k*k:=G.alS ⋯ k0
 have agl:1013*k*k<=1013*200*200:=G.Ç ⋯ k1 k0 (by decide)
 have dS:=Pi (((c+7)*48271%2147483647+3*k)*(16807+1013*k*k)) (show(2147483629:G)≠0 by decide)
 have cz:=Y_ (((c+7)*48271%2147483647+3*k)*(16807+1013*k*k)) (show(0:G)<2147483629 by decide)
 refine⟨ph.ok (.Œ ⟨by decide,by decide⟩),by decide,ph.ok (.ε ⟨by decide,by decide⟩),ph.ok (.ε ⟨by decide,by decide⟩),ph.ok (.Œ ⟨⋯,⋯⟩),ph.ok (.ε ⟨⋯,⋯⟩),by decide,?_,ao _ ?_ ?_⟩
 ·exact⟨by decide,by decide⟩
 ·omega
 ·omega
theorem EI:b0 D bx 1 (D.ar 98) q17 (Wj):=by
 refine cj (T 344) aak ?_;and_intros;obtain⟨l,w,h,L,c,rfl,cY,Ϻ,hx,cI,ao⟩:=h;refine uq ⟨_,(aT (zx (cm uu (cm eO (A 0 R) (bU hq (A 1 R) (cX ml R (T 170) (aj (cm eO (A 0 R) aV (λ_ _=>rfl)) aB))) (λ_ _=>rfl)) (bU hO (A 1 R) (cX ml R (T 170) (aj (cm eO (A 0 R) aV (λ_ _=>rfl)) aB))) (λ_ _=>rfl)))),?_⟩;rfl';left;have d0:=Ϻ.d0
 have fQ:=Ϻ.fQ
 have h0:=Ϻ.h0
 obtain⟨rA,lQ,dJ,a3,e⟩:=SD Ϻ hx cI;have c6:fH ((ī w h L).ϒ V.str) 0=O (V.str (ib w L 0)):=gW (j:=0) (by rw[Ϙ,pR ⋯];rfl)
 have iN:=pQ Ϻ (show 0<h by omega)
 have abJ:=pQ Ϻ rA
 have gN:fH ((ī w h L).ϒ V.str) (c/w)=O (V.str (ib w L (c/w).Ο)):=by
  obtain⟨j,bg⟩:=Ĺ lQ;rw[bg]at rA ⊢;exact gW (by rw[Ϙ,pR (by simpa using rA)];rfl)
 have er:fH (ib w L (c/w).Ο).Ch.Ω (c%w)=O (Ó L c):=by
  obtain⟨r,aO⟩:=Ĺ dJ;rw[aO]at e ⊢;exact gW (by simpa using e)
 right;ext;refine⟨_,aM.of cY,_,c6,_,rfl,by rw[iN];omega,?_⟩;rw[iN];refine⟨⟨⋯,⋯⟩,_,aM.of cY,_,gN,_,aM.of cY,_,c6,_,rfl,by rw[iN];omega,?_⟩;rw[iN];exact⟨⋯,_,rfl,by rw[abJ];omega,_,er,ao⟩
theorem abK:b0 D bx 1 (D.ar 99) q20 (Wn):=by
 refine cj (T 345) aal ?_;and_intros;obtain⟨i,c,x,rfl,aA,ao⟩:=h;refine uq ⟨_,(aT (zx (F1 (ju Hs (A 1 R) v6) (m9 (pd (ju fx (A 0 R) v6) (m9 (ju fx (A 1 R) v6))))))),?_⟩;rfl';left;obtain⟨k1,k2,k3⟩:=oI i x aA;right;ext;refine⟨c,rfl,?_⟩;by_cases e:IX c=true
 ·rw[aS (Ls.ļ e)];have az:dO i c=true:=by simp[dO,e]
  rwa[<- az]
 ·rw[aD (λz=>e (Ls.mp z))];rw[Cl]at e;by_cases au:i=1
  ·rw[aS (k1.ļ au)];refine⟨rfl,?_⟩;have az:decide (eE c=V.str (ϕ.ϝ "~"))=dO i c:=by
    simp only[dO,e,δ.false_or,ι au,δ.aj8];exact sK.ļ qa
   rwa[az]
  ·rw[aD (λz=>au (k1.mp z))];have az:dO i c=false:=by simp[dO,e,au]
   rwa[<- az]
theorem AI:b0 D bx 1 (D.ar 105) q38 (YC):=by
 refine cj (T 351) aam ?_;and_intros;obtain⟨v,b,c,s,rfl,hw,hx,cI,bs,ao⟩:=h;refine uq ⟨_,(aT (zx (cm d2 (cm d2 (A 0 R) aV (λ_ _=>rfl)) (cX (sq rfl) R (T 180) (aj (bU hp (A 1 R) (cm d2 (A 0 R) aV (λ_ _=>rfl))) (aj (bU hp (cX gM R (T 170) (aj (cm d2 (A 0 R) aV (λ_ _=>rfl)) aB)) aV) aB))) (λ_ _=>rfl)))),?_⟩;rfl';left;obtain⟨p,q,rfl,g,ah⟩:=id hw;obtain⟨EJ,fi⟩:=Ig bs hx;have e:fH (c.ϒ V.M) (Bj b c s)=O (.M (cV b c s)):=by
  have lt:(Bj b c s).Ο<c.N:=⋯
  have:=gW (F:=c.ϒ V.M) (j:=(Bj b c s).Ο) (v:=.M (cV b c s)) (by
   rw[Ϙ,ϡ lt];unfold cV;rw[Ş,ϡ lt];rfl)
  rwa [G.aiy EJ]at ν
 right;ext;refine(dM (bN.of g) rfl (dM (bN.of g) rfl ⟨_,rfl,dM (bN.of g) rfl ⟨_,rfl,_,.Œ (bN.of ah),_,rfl,_,bN.of ah,.M (cV b c s),?_,ao⟩⟩));rwa[ϧ]
theorem rZ:b0 D bx 2 (D.ar 3) q33 (V7 D.bP):=by
 refine cj (T 254) aan ?_;and_intros;obtain⟨x,lo,aA,rfl,ty,ao⟩:=h;refine uq ⟨_,(aT (zx (pd (cU (MA T) R (T 40) (aj (A 0 R) aB)) (m9 (anU sm sm (A 1 R) (A 0 R) (A 2 R)))))),?_⟩;rfl';ext;refine⟨x,rfl,ty,?_⟩;ext;cases x<;>simp_all [Ai,k8]
 split<;>simp_all
theorem qm:b0 D bx 2 (D.ar 20) q34 (Eb D.ar):=by
 refine cj (T 271) aao ?_;and_intros;obtain⟨p,i,n,c,k,rfl,ak,aA,ao⟩:=h;refine uq ⟨_,(aT (zx (cX (sq rfl) R (T 180) (aj (bU eW (A 2 R) (kS (k:=1) (A 0 R) (cN (T 193) (T 140) (MD T) (cN (T 195) (T 96) (abq T) (cN (T 197) (T 99) (abr T) (cN (T 199) (T 88) (MD T) iD)))) (HR.WF (by decide)) (aj (A 1 R) aB) (wE:=el rfl) (Tm:=eF rfl))) (aj (cq (A 0 R) (by rfl)) aB))))),?_⟩;rfl';left;obtain⟨gb,ay⟩:=id ak;obtain⟨j,bg,kU⟩:=Wq (D:=D.ar) i aA;have EK:(cu "full" (V.M n) []).Ϣ ("gain":ϕ)=none:=jD n ∅
 right;ext;refine⟨p,gb,_,(d5 D.ar i,oF j),bg,rfl,ay,EK,_,c,rfl,_,rfl,_,_,_,ay,Ec T i,Ed T i,_,Lp n,_,rfl,?_⟩;rw[kU];have e:(if n<k+fZ i c then n else k+fZ i c)=min (k+fZ i c) n:=by split<;>omega
 rwa[e]
theorem abL:b0 D bx 2 (D.ar 26) Pk (oG (D.ar 110) 1):=by
 refine cj (T 277) aap ?_;and_intros;obtain⟨x,aZ,w,h,L,φ,Κ,rfl,aR,Ϻ,ll,oT,ao⟩:=h;obtain⟨abp,EF,EG⟩:=(T 30);refine uq ⟨_,(aT (zx (pe (cR fx (df (A 1 R) (T 188) (T 80) (nL T) HR (aj (A 3 R) aB)) (jv (v:=V.str (ϕ.ϝ "~")) R EF EG)) aV aV))),?_⟩;rfl';left;obtain⟨dx,l,g,ah⟩:=id aR.ob;right;ext;refine(dZ g (jc ∅ ∅ ∅ ∅) ⟨aZ,w,h,L,Κ,rfl,aR,Ϻ,oT.1,oT.2,rfl,?_⟩);simp only[j5]at ao;by_cases e:Ó L Κ=126
 ·rw[aS (qa.ļ e)];rw[aS e]at ao;exact ao _ (a5.Ô _)
 ·rw[aD (λz=>e (qa.mp z))];rw[aD e]at ao;exact ao _ (a5.Ô _)
theorem abM:b0 D bx 2 (D.ar 29) Pk (oG (D.ar 110) 2):=by
 refine cj (T 280) aaq ?_;and_intros;obtain⟨x,aZ,w,h,L,φ,Κ,rfl,aR,Ϻ,ll,oT,ao⟩:=h;obtain⟨agm,abN,abO⟩:=(T 31);refine uq ⟨_,(aY (c1 (cR fx (df (A 1 R) (T 188) (T 82) (MC T) HR (aj (A 2 R) aB)) (df (A 1 R) (T 188) (T 82) (MC T) HR (aj (A 3 R) aB)))
 (aT (zx aV))
 c4)
 (aY (c1 (cR ux (jv (v:=V.str (ϕ.ϝ "|")) R abN abO) (fs (aj (df (A 1 R) (T 188) (T 80) (nL T) HR (aj (A 2 R) aB)) (aj (df (A 1 R) (T 188) (T 80) (nL T) HR (aj (A 3 R) aB)) aB))))
 (aT (zx aV))
 c4)
 (
 aT (zx hM)))),?_⟩
 rfl';left;obtain⟨dx,l,g,ah⟩:=id aR.ob;have de:(fY w h l L).Ϣ ("row":ϕ)=none:=jc ∅ ∅ ∅ ∅
 have ns:(fY w h l L).Ϣ ("sign":ϕ)=none:=jc ∅ ∅ ∅ ∅
 right;ext;refine⟨_,_,g,de,aZ,w,h,L,φ,rfl,aR,Ϻ,_,_,g,de,aZ,w,h,L,Κ,rfl,aR,Ϻ,rfl,?_⟩;simp only[j5]at ao;by_cases e:φ/(w:G)=Κ/(w:G)
 ·rw[aS (ż V.M e)];rw[aS e]at ao;exact ao _ (a5.Ô _)
 ·rw[aD (λz=>e (V.M.W1 z))];rw[aD e]at ao;refine⟨_,_,g,ns,aZ,w,h,L,φ,rfl,aR,Ϻ,ll.1,ll.2,_,_,g,ns,aZ,w,h,L,Κ,rfl,aR,Ϻ,oT.1,oT.2,?_⟩;show 2<=ϓ/\_
  refine⟨⋯,λp ay=>⟨_,.Œ (bN.of aQ),rfl,rfl,?_⟩⟩;have az:lD (V.str (ϕ.ϝ "|")) [eE (Ó L φ),eE (Ó L Κ)]=decide (Ó L φ=124\/Ó L Κ=124):=by
   have q:∀c:B,jj (eE c) (V.str (ϕ.ϝ "|"))=decide (c=124):=λc=>by
    have e:jj (eE c) (V.str (ϕ.ϝ "|"))=((⟨#[c]⟩:ϕ)==ϕ.ϝ "|"):=rfl
    rw[e,δ.ë,Ā,V_];exact⟨λz=>Am.mp (ż V.str z),λz=>V.str.W1 (Am.ļ z)⟩
   simp only[lD,on,am_,δ.Ĩ];rw[q,q,ah1]
  rw[az];by_cases bY:Ó L φ=124\/Ó L Κ=124
  ·rw[aS (ι bY)];rw[aS bY]at ao;exact ao _ (zj ay)
  ·rw[aD (λz=>bY (ð z))];rw[aD bY]at ao;exact ao _ (zj ay)
theorem mZ:b0 D bx 2 (D.ar 34) q23 (Ww):=by
 refine cj (T 284) aar ?_;and_intros;obtain⟨v,b,cs,t,rfl,hw,ak,ao⟩:=h;refine uq ⟨_,(aY (c1 (cR qM (A 1 R) (cm d2 (A 0 R) aV (λ_ _=>rfl)))
 (aT (zx hM))
 c4)
 (
 aT (zx (cm d2 (cm d2 (A 0 R) aV (λ_ _=>rfl)) (cU (abt T) R (T 47) (aj (A 0 R) (aj (A 1 R) aB))) (λ_ _=>rfl))))),?_⟩
 rfl';left;obtain⟨p,q,rfl,g,ah⟩:=id hw;right;ext;refine(dM (bN.of g) rfl ⟨_,rfl,?_⟩);unfold cT at ao;split
 ·rename_i h;rw[aS h]at ao;exact ao
 ·rename_i h;rw[aD h]at ao;obtain⟨EJ,fi⟩:=Ig (b:=b) (cs:=cs) (t:=t) ⋯ ak;exact(dM (bN.of g) rfl ⟨_,b,cs,t,rfl,hw,_,rfl,_,_,rfl,bN.of ah,_,HE EJ fi,ao⟩)
theorem abP:b0 D bx 2 (D.ar 44) HS (WK D.ar):=by
 refine cj (T 294) aas ?_;and_intros;obtain⟨p,ϻ,C,n,rfl,af,ao⟩:=h;refine uq ⟨_,(aT (zx (Uv rfl (eQ Zl) (T 181).1 (aj (iB (fz.of (gA:=bV z8) (tn:=["way"]) (cn:=[]) (dQ:=[]) rfl rfl ∅ ∅ ∅ ∅ rfl) (c8 rfl)  (gu (df (A 0 R) (T 207) (T 108) (AG T) HR (aj (A 1 R) aB)))
 (
 λ_ _ _ _ _=>(gU (i:=0) (show(["way"]:Y ϕ).Α by decide +Ė) rfl (Or.ε rfl))) (λ_ _ _ _ _=>kN) (λ_ _ _ _ _=>(hC (tE T) HR (T 46) Zc (aj (cx 0) aB)))) aB) aV (d3 rfl)))),?_⟩
 rfl';left;obtain⟨⟨⟨dx,g⟩,ah⟩,cy⟩:=id af;have jW:∀F,H ϻ≠O (.Ţ F):=λF z=>by rw[ah]at z;cases z
 have lZ:=cy.SC
 right;ext;refine(dZ g (js ϻ ∅) ⟨p,ϻ,C,n,rfl,af,λl H1 nl s1 aw=>⟨l,rfl,⟨_,aM.of aw⟩,V1 (as:=c7 C n) (u:=(·.v)) (Ϻ:=λe=>.M (iJ e)) (UF (aM.of aw)) (λ_=>true) (λy aU jK bj=>bj) (λe he _ jK bj=>?_) (by have:=(cy.IR n).SC;unfold c7;omega) λ϶ eI=>?_⟩⟩)
 ·have hm:=(pT.mp he).1
  ext;exact⟨_,e.b,e.c,rfl,(cy.ok e hm).1.ű s1,bj⟩
 ·rw[Y.ai3.ļ (λ_ _=>rfl)];refine⟨(c7 C n).ϒ iJ,aM.of (by rw[aQ,ó];rfl),λm hm=>ao _ m (s1.Ϛ (zj eI)) hm⟩
theorem MN:b0 D bx 2 (D.ar 45) q14 (WM D.ar):=by
 refine cj (T 295) aat ?_;and_intros;obtain⟨p,ϻ,C,n,φ,rfl,af,ao⟩:=h;refine uq ⟨_,(aY (cv 3 R aV)
 (aY (ul Ų.Ï (c8 rfl) (gu (df (A 0 R) (T 207) (T 108) (AG T) HR (aj (A 1 R) aB))) (et 4 R)
 (aY (c1 (cR fx (cm d2 (cm d2 (A 4 R) aV (λ_ _=>rfl)) (n0 n1 aV) (λ_ _=>rfl)) (A 2 R))
 (aT (zx hM))
 c4)
 (aT (cv 3 R (cX (pj rfl) R (T 181) (aj (A 3 R) (aj (cU (aby T) R (T 54) (aj (A 4 R) (aj (A 2 R) aB))) aB)))))))
 (
 aT (zx (A 3 R))))),?_⟩
 rfl';left;obtain⟨⟨⟨dx,g⟩,ah⟩,cy⟩:=id af;have jW:∀F,H ϻ≠O (.Ţ F):=λF z=>by rw[ah]at z;cases z
 right;ext;refine(dZ g (js ϻ ∅) ⟨p,ϻ,C,n,rfl,af,λl H1 nl s1 aw=>⟨l,rfl,⟨_,aM.of aw⟩,ub (F:=(c7 C n).ϒ (·.v)) (λi J U=>∃(k:G)(x:ϣ V),a5 H1 U/\mD ((c7 C n).ĵ i) φ k/\(∀e∈(c7 C n).ĵ i,fu e.c≠φ)/\J=[O (V.Z p),O (V.M n),O (V.M φ),O (V.M k),x]) ⟨0,none,a5.Ô _,WG,WE,rfl⟩ ?_ ?_ ?_⟩⟩)
 ·rintro i J U _ ⟨k,x,s,jy,xY,rfl⟩;exact aM.of (s _ _ aw)
 ·rintro i x J U ai cg;left;obtain⟨k,x0,s,jy,xY,rfl⟩:=cg;rw[Ϙ]at ai;obtain⟨e,he,rfl⟩:=ξ.mp ai;have MO:=ύ he
  have hm:=(pT.mp MO).1
  obtain⟨cn,_,i6,_⟩:=(cy.ok e hm).2.1;have qn:=(cy.ok e hm).1.ű (s1.Ϛ s)
  obtain⟨q,w,ev,aI,bO⟩:=id qn;have tk:(c7 C n).ĵ (i+1)=(c7 C n).ĵ i++[e]:=by rw[ė,he];rfl
  right;rw[tk];ext;refine⟨q,ev,dM (bN.of aI) rfl ⟨w,rfl,dM (bN.of bO) (Eh cn) ⟨rfl,?_⟩⟩⟩;split
  ·rename_i z;exact ao _ _ (s1.Ϛ s) (.ε ⟨rfl,e,MO,V.M.W1 z⟩)
  ·rename_i z;have gT:fu e.c≠φ:=λy=>z (by rw[y])
   refine⟨e.v,e.b,e.c,φ,rfl,qn,λaC m s2 cY=>⟨m,rfl,s.Ϛ s2,_,Te jy cn i6 gT cY,λy aU=>?_,rfl,_,rfl⟩⟩;rcases κ.mp aU with EL|EL
   ·exact xY y EL
   ·rwa[ϖ.mp EL]
 ·rintro J U cg;left;obtain⟨k,x0,s,jy,xY,rfl⟩:=cg;rw[ϧ,İ]at jy xY;right;ext;exact ao _ _ (s1.Ϛ s) (.Œ ⟨k,rfl,xY,jy⟩)
theorem abQ:b0 D bx 2 (D.ar 48) HS (XN D.ar):=by
 refine cj (T 298) aau ?_;and_intros;obtain⟨p,ϻ,C,n,rfl,af,nd,he,ao⟩:=h;refine uq ⟨_,(aT (c1 (e9.pt (m8 (gH (e2 (cU (MA T) R (T 40) (aj (A 1 R) aB)))) (m7 (sa (sy (eR HU) (A 1 R) (cq (A 0 R) (by rfl))) (by with_unfolding_all rfl)))))
 ly
 c4)),?_⟩
 rfl';left;obtain⟨⟨dx,g⟩,ah⟩:=id af;obtain⟨e,he,rfl⟩:=he;right;ext;refine⟨V.M e.k,rfl,⟨_,.M _⟩,true,rfl,?_⟩;rw[aD (by decide)];refine(cp g (T 207) (T 208) (rj ϻ) ⟨ϻ,rfl,O e.v,by rw[<- sL nd he];exact eK.k (k:=.ε e.k) ah,?_⟩);rwa[aD (by simp)]
theorem abR:b0 D bx 2 (D.ar 56) I_ (L8 D.ar):=by
 refine cj (T 306) aav ?_;and_intros;obtain⟨ay,l,L,n,rfl,bj,ao⟩:=h;refine uq ⟨_,(aY (cv 1 R (bU hp (cX gM R (T 170) (aj (cq (A 0 R) (by rfl)) aB)) aV))
 (aY (cv 2 R (bU hq (bU hp (A 1 R) aV) aV))
 (aT (sj Ų.Ï (e9.pt (jL (cR uc (A 1 R) aV) (kb (cR (BL EA) (cm eO (cq (A 0 R) (by rfl)) (A 1 R) (λ_ _=>rfl)) (cm eO (cq (A 0 R) (by rfl)) (A 2 R) (λ_ _=>rfl))))))
 (aY (fg (df (A 0 R) (T 216) (T 117) (MH T) HR (aj (A 1 R) (aj (A 2 R) aB))))
 (aY (cv 1 R (A 2 R))
 (
 aT (cv 2 R (bU hq (bU hp (A 1 R) aV) aV))))))))),?_⟩
 rfl';left;obtain⟨dx,ts,au,az,lt,al,gt⟩:=bj.at;right;refine zu (λJ U=>U=H/\J=[O (V.Z ay),O (V.M (n:G)),none]) (λaP aq=>?_) ?_
 ·ext;refine(cp au (T 216) (T 217) (h2 l) ⟨l,rfl,_,.ε (aM.of az),aq _ _ ⟨rfl,?_⟩⟩);rw[ϧ,lt];simp
 rintro cC bh J H1 ⟨rfl,rfl⟩;nofun;refine zu (λJ U=>U=H1/\J=[O (V.Z ay),O (V.M (n:G)),O (V.M (((n:G)-1)/2))]) (λaP aq=>?_) ?_
 ·ext;exact⟨⟨by decide,by decide⟩,aq _ _ ⟨rfl,rfl⟩⟩
 rintro cC bh J aC ⟨rfl,rfl⟩;nofun;ext;refine⟨λm J U=>m<=n/\cM l aC U/\fO D.ar L U ay l (n+1)/\J=[O (V.Z ay),O (V.M (m:G)),O (V.M (((m:G)-1)/2))],⟨n,B.ϑ _,λ_ _ z _=>z,bj,rfl⟩,?_⟩;rintro p J U cg;left;obtain⟨ez,sB,h',rfl⟩:=cg;obtain⟨iY,us,f1,f2,rV,abS,oS⟩:=h'.at;right;ext;split
 ·left;have ca:((p:G)-1)/2=(((p-1)/2:B):G):=⋯
  obtain⟨x,gm,tF,ai,_,fX⟩:=oS p ⋯;obtain⟨y,xW,xX,aU,_,fl⟩:=oS ((p-1)/2) ⋯;right;rw[ca];refine(cp f1 (T 216) (T 217) (h2 l) ⟨l,rfl,_,aM.of f2,_,oM ai,cp f1 (T 216) (T 217) (h2 l) ⟨l,rfl,_,aM.of f2,_,oM aU,x,rfl,y,rfl,_,bN.of fX,_,bN.of fl,?_⟩⟩);split
  ·refine⟨λa7 dt=>cM l aC dt/\fO D.ar L dt ay l (n+1)/\a7=[O (V.Z ay),O (V.M (((p-1)/2:B):G)),O (V.M (((((p-1)/2:B):G)-1)/2))],λa7 dt ⟨g,ah,aI⟩=>⟨(p-1)/2,⋯,⋯,g,ah,aI⟩,?_⟩;exact⟨_,_,f1,mW l ∅,ay,l,L,n+1,p,(p-1)/2,rfl,h',⋯,⋯,λbw s3 aI=>⟨⟨by decide,by decide⟩,tA sB s3,aI,rfl⟩⟩
  ·exact ao _ sB h'
 ·exact ao _ sB h'
theorem abT:b0 D bx 2 (D.ar 57) I_ (L8 D.ar):=by
 refine cj (T 307) aaw ?_;and_intros;obtain⟨ay,l,L,n,rfl,bj,ao⟩:=h;refine uq ⟨_,(aY (cv 1 R aV)
 (aY (cv 2 R (df (A 0 R) (T 216) (T 116) (MG T) HR (aj (A 1 R) aB)))
 (aT (sj Ų.Ï (e9.pt (jL (cR so (A 2 R) hM) (kb (cR (BL EA) (cm eO (cq (A 0 R) (by rfl)) (A 2 R) (λ_ _=>rfl)) (cm eO (cq (A 0 R) (by rfl)) (A 1 R) (λ_ _=>rfl))))))
 (aY (fg (df (A 0 R) (T 216) (T 117) (MH T) HR (aj (A 1 R) (aj (A 2 R) aB))))
 (aY (cv 1 R (A 2 R))
 (
 aT (cv 2 R (df (A 0 R) (T 216) (T 116) (MG T) HR (aj (A 1 R) aB)))))))))),?_⟩
 rfl';left;obtain⟨dx,ts,au,az,lt,al,gt⟩:=bj.at;right;refine zu (λJ U=>U=H/\J=[O (V.Z ay),O (V.M ((0:B):G)),none]) (λaP aq=>?_) ?_
 ·ext;exact aq _ _ ⟨rfl,rfl⟩
 rintro cC bh J H1 ⟨rfl,rfl⟩;nofun;refine zu (λJ U=>∃v,U=H1/\(v=V.br\/∃b:B,v=V.M (b:G)/\0<b/\b<n+1)/\J=[O (V.Z ay),O (V.M ((0:B):G)),O v]) (λaP dR=>?_) ?_
 ·ext;exact⟨_,_,au,mW l ∅,ay,l,L,n+1,0,rfl,bj,dR _ _ ⟨_,rfl,.ε rfl,rfl⟩,λb i6 af=>dR _ _ ⟨_,rfl,.Œ ⟨b,rfl,i6,af⟩,rfl⟩⟩
 rintro cC bh J aC ⟨v0,rfl,abU,rfl⟩;nofun;ext;refine⟨λm J U=>∃(p:B)(v:V),m+p=n+1/\p<n+1/\cM l aC U/\fO D.ar L U ay l (n+1)/\(v=V.br\/∃b:B,v=V.M (b:G)/\p<b/\b<n+1)/\J=[O (V.Z ay),O (V.M (p:G)),O v],⟨n+1,0,v0,rfl,⋯,λ_ _ z _=>z,bj,abU,rfl⟩,?_⟩;rintro m J U cg;left;obtain⟨p,v,mp,pl,sB,h',aG,rfl⟩:=cg;obtain⟨iY,us,f1,f2,rV,abS,oS⟩:=h'.at;right;ext;rcases aG with rfl|⟨b,rfl,zp,bl⟩
 ·rw[aD (by simp)];exact ao _ sB h'
 ·rw[aS (by simp)];left;obtain⟨x,gm,tF,ai,_,fX⟩:=oS b bl;obtain⟨y,xW,xX,aU,_,fl⟩:=oS p pl;right;refine(cp f1 (T 216) (T 217) (h2 l) ⟨l,rfl,_,_,rfl,aM.of f2,_,oM ai,cp f1 (T 216) (T 217) (h2 l) ⟨l,rfl,_,aM.of f2,_,oM aU,x,rfl,y,rfl,_,bN.of fX,_,bN.of fl,?_⟩⟩);split
  ·refine⟨λa7 dt=>∃v,cM l aC dt/\fO D.ar L dt ay l (n+1)/\(v=V.br\/∃c:B,v=V.M (c:G)/\b<c/\c<n+1)/\a7=[O (V.Z ay),O (V.M (b:G)),O v],λa7 dt ⟨v,g,ah,aI,bO⟩=>⟨n+1-b,⋯,b,⋯,bl,g,ah,v,aI,bO⟩,?_⟩;refine⟨_,_,f1,mW l ∅,ay,l,L,n+1,p,b,rfl,h',pl,bl,λbw s3 aI=>?_⟩;obtain⟨MP,g1⟩:=aI.ob;exact⟨_,_,g1,mW l ∅,ay,l,L,n+1,b,rfl,aI,⟨_,tA sB s3,aI,.ε rfl,rfl⟩,λc ry ak=>⟨_,tA sB s3,aI,.Œ ⟨c,rfl,ry,ak⟩,rfl⟩⟩
  ·exact ao _ sB h'
theorem abV:b0 D bx 2 (D.ar 65) q27 (WQ D.bP):=by
 refine cj (T 315) aax ?_;and_intros;obtain⟨a,F,E,ch,rfl,dq,ai,ao⟩:=h;refine uq ⟨_,(aT (zx (Sg (eR HU) (fs (aj (cU (MK T) R (T 59) (aj (A 0 R) (aj aV (aj (A 1 R) aB)))) (aj (A 1 R) aB))) (A 2 R)))),?_⟩;rfl';ext;intro p ay;refine⟨a,F,0,E,rfl,a5.XV (zj ay) dq,ł _,ai,⋯,λt bk=>?_⟩;have abW:p≠t:=λz=>by rw[<- z,aQ]at bk;cases bk
 refine⟨by rw[aE abW,aQ],[.ε (Hq F 0 E:B),.ε E],aQ,ao p _ (λb o e=>?_) ay aQ⟩;rw[aE (cF e ay)];exact(zj bk) _ _ ((zj ay) _ _ e)
theorem MQ:b0 D bx 2 (D.ar 71) q41 (W5 D.ar D.bP):=by
 refine cj (T 321) aay ?_;and_intros;obtain⟨p,b,S,m,hx,c,E,rfl,aH,af,dq,hm,aw,ao⟩:=h;refine uq ⟨_,(aT (zx (fs (aj (cU (MK T) R (T 59) (aj (cq (A 0 R) (by rfl)) (aj (cm d2 (A 1 R) aV (λ_ _=>rfl)) (aj (A 2 R) aB)))) (aj (A 2 R) aB))))),?_⟩;rfl';obtain⟨dx,g⟩:=id aH;ext;exact(cp g (T 209) (T 214) (WU S) (dM (bN.of af) rfl ⟨S.a0,E,m,c,rfl,dq,hm,aw,⋯,λr de=>ao r de⟩))
local macro_rules|`(tactic| walk_at "RDS")=>do let f:=λs:String=>(s.splitOn " ").toArray.map λs=>Lean.mkIdent s.toName;let x:=f "Bj HD zsa Bo sf zgs sd zrl BV rJoin zgu zvu zcn Cc zwz HS HV HW zlc t8 ipI CG B3 zdv uz zwh zcc DM Dp Dr zww zjz ziq Ends.thawK zjh zek B7 CJ CQ zkn B4 zjc tVr zvd zkb zds DJ DG Dy z5 zkh zcy Bz BK znp zbn CD sh tOp tUn t5 tC mh rI rU zne yD ztg Bi Bh hN tCB zje lC zvp Bf ztm Bd tOr Be tB tIf yN qR tBM BQ BB BA zdi ztq tSl yU rIn uo ur BN rEq rNe I5 I6 I7 zzp I8 zym zyy I9 zzl yW BU Bx I2 pq uz Bm zve Cg zta nh Cm zvc uF cxK cxA Hn Ho L2.start I3 I4 length_cons length_nil List.replicate_succ List.replicate_zero List.cons_append List.nil_append append_nil Nat.reduceAdd Nat.reduceSub List.set_cons_zero List.set_cons_succ List.getElem?_cons_zero List.getElem?_cons_succ Option.getD_some getD_none Option.some.injEq V.int.injEq V.ref.injEq V.bl.injEq V.str.injEq V.ty.injEq exists_eq_left' exists_eq_left exists_and_left and_assoc List.cons.injEq and_true true_and decide_eq_true_eq not_eq_true' decide_eq_false_iff_not false_eq_true if_false if_true reduceIte Bool.not_true Bool.not_false beq_self_eq_true";let y:=f "IK IL IM IP IQ IS IT I0 I1 znx zni IU IV IW IX IY IZ znu";`(tactic|simp only[$[$x:term],*,$[↓$y:term],*])
theorem abX:b0 D bx 2 (D.ar 97) ["_law_cell"] (Yo):=by
 refine cj (T 343) aaz ?_;and_intros;obtain⟨c,rfl,ao⟩:=h;refine uq ⟨_,(aY (si (cm eO (jg (aj (fs (aj aV (aj aV aB))) (aj (fs (aj aV (aj aV aB))) (aj (fs (aj aV (aj aV aB))) (aj (fs (aj aV (aj aV aB))) (aj (fs (aj aV (aj aV aB))) (aj (fs (aj aV (aj aV aB))) (aj (fs (aj aV (aj aV aB))) (aj (fs (aj aV (aj aV aB))) aB))))))))) (bU hO (A 0 R) aV) (λ_ _=>rfl)) (l9 (n:=2) (c8 rfl) (gJ (et 1 R) (gJ (et 2 R) l8))))
 (aY (cv 3 R (iB (fz.of (gA:=bV vz) (tn:=["_law_k"]) (cn:=["_law_cell"]) (dQ:=[0]) rfl rfl ∅ ∅ ∅ ∅ rfl) (c8 rfl)  (nZ (eQ Mg) (T 171).1 (aj (bU sl (A 1 R) (A 2 R)) aB) (d3 rfl))
 (λ_ _ _ _ _=>(gU (i:=0) (show(["_law_k","_law_cell"]:Y ϕ).Α by decide +Ė) rfl (Or.ε rfl))) (λ_ _ _ _ _=>kN) (λ_ _ _ _ _=>(cm uu v6 (bU hO (hC (MM T) HR (T 66) Zb (aj (bU hq (cx 1) aV) (aj (cx 0) aB))) aV) (λ_ _=>rfl)))))
 (aY (si v6 (yF (A 3 R) (bU hO (bU hq (A 0 R) aV) (bU sl (A 1 R) (A 2 R))) aj3))
 (aT (zx (iB (fz.of (gA:=bV vz) (tn:=["_law_row"]) (cn:=["_law_signs","_law_wide"]) (dQ:=[3,1]) rfl rfl ∅ ∅ ∅ ∅ rfl) (c8 rfl)  (nZ (eQ Mg) (T 171).1 (aj (A 2 R) aB) (d3 rfl))
 (
 λ_ _ _ _ _=>(gU (i:=0) (show(["_law_row","_law_signs","_law_wide"]:Y ϕ).Α by decide +Ė) rfl (Or.ε rfl))) (λ_ _ _ _ _=>kN) (λ_ _ _ _ _=>(TB (K:=D.bP) rfl ϟ.ϴ.ai4 ϟ.ϴ.ajz ϟ.ϴ.ajA (TA (K:=D.bP) rfl) v6 (aj (BJ (IC (K:=D.bP) rfl) (cx 1) (uk (bU sl (cx 0) (cx 2))) (uk (bU eW (bU sl (cx 0) (cx 2)) (cx 2)))) aB))))))))),?_⟩
 rfl';have Pe:∀ϻ:G,∃c:B,nt c/\fH (ϕ.ϝ ".+.|.~#.").Ch.Ω (ϻ%8)=O c:=λϻ=>by
  have mu:ϻ%8=0\/ϻ%8=1\/ϻ%8=2\/ϻ%8=3\/ϻ%8=4\/ϻ%8=5\/ϻ%8=6\/ϻ%8=7:=⋯
  unfold nt;rcases mu with z|z|z|z|z|z|z|z<;>rw[z]
  ·exact⟨46,by decide,∅⟩
  ·exact⟨43,by decide,∅⟩
  ·exact⟨46,by decide,∅⟩
  ·exact⟨124,by decide,∅⟩
  ·exact⟨46,by decide,∅⟩
  ·exact⟨126,by decide,∅⟩
  ·exact⟨35,by decide,∅⟩
  ·exact⟨46,by decide,∅⟩
 have mu:c%8=0\/c%8=1\/c%8=2\/c%8=3\/c%8=4\/c%8=5\/c%8=6\/c%8=7:=⋯
 refine zu (λJ U=>∃w h:B,1<=w/\w<=5/\1<=h/\h<=5/\w*h<=9/\a5 H U/\J=[O (.M c),O (.M (w:G)),O (.M (h:G)),none]) (λaP aq=>?_) ?_
 ·walk_at "RDS"
  refine⟨⋯,λa1 cz=>⟨⋯,λa2 cS=>⟨⋯,λgP h8=>⟨⋯,λiE Eu=>⟨⋯,λpW jF=>⟨⋯,λrq MR=>⟨⋯,λsS qL=>⟨⋯,λDc MS=>⟨⋯,λp np=>?_⟩⟩⟩⟩⟩⟩⟩⟩⟩;have MT:=zj (o:=bb.Ť [V.Z a1,V.Z a2,V.Z gP,V.Z iE,V.Z pW,V.Z rq,V.Z sS,V.Z Dc]) np
  have MU:=(zj (o:=bb.Ţ [V.M 1,V.M 3]) MS).Ϛ MT
  have pN:=(zj (o:=bb.Ţ [V.M 5,V.M 1]) qL).Ϛ MU
  have MV:=(zj (o:=bb.Ţ [V.M 1,V.M 4]) MR).Ϛ pN
  have MW:=(zj (o:=bb.Ţ [V.M 2,V.M 3]) jF).Ϛ MV
  have t3:=(zj (o:=bb.Ţ [V.M 3,V.M 2]) Eu).Ϛ MW
  have fT:=(zj (o:=bb.Ţ [V.M 4,V.M 1]) h8).Ϛ t3
  have t1:=(zj (o:=bb.Ţ [V.M 3,V.M 1]) cS).Ϛ fT
  have t0:=(zj (o:=bb.Ţ [V.M 2,V.M 2]) cz).Ϛ t1
  refine⟨by decide,_,aM.of aQ,?_⟩;rcases mu with z|z|z|z|z|z|z|z<;>rw[z]
  ·exact⟨_,rfl,_,rfl,_,bN.of (t1 _ _ aQ),rfl,_,_,rfl,_,_,rfl,rfl,aq _ _ ⟨2,2,by decide,by decide,by decide,by decide,by decide,t0,rfl⟩⟩
  ·exact⟨_,rfl,_,rfl,_,bN.of (fT _ _ aQ),rfl,_,_,rfl,_,_,rfl,rfl,aq _ _ ⟨3,1,by decide,by decide,by decide,by decide,by decide,t0,rfl⟩⟩
  ·exact⟨_,rfl,_,rfl,_,bN.of (t3 _ _ aQ),rfl,_,_,rfl,_,_,rfl,rfl,aq _ _ ⟨4,1,by decide,by decide,by decide,by decide,by decide,t0,rfl⟩⟩
  ·exact⟨_,rfl,_,rfl,_,bN.of (MW _ _ aQ),rfl,_,_,rfl,_,_,rfl,rfl,aq _ _ ⟨3,2,by decide,by decide,by decide,by decide,by decide,t0,rfl⟩⟩
  ·exact⟨_,rfl,_,rfl,_,bN.of (MV _ _ aQ),rfl,_,_,rfl,_,_,rfl,rfl,aq _ _ ⟨2,3,by decide,by decide,by decide,by decide,by decide,t0,rfl⟩⟩
  ·exact⟨_,rfl,_,rfl,_,bN.of (pN _ _ aQ),rfl,_,_,rfl,_,_,rfl,rfl,aq _ _ ⟨1,4,by decide,by decide,by decide,by decide,by decide,t0,rfl⟩⟩
  ·exact⟨_,rfl,_,rfl,_,bN.of (MU _ _ aQ),rfl,_,_,rfl,_,_,rfl,rfl,aq _ _ ⟨5,1,by decide,by decide,by decide,by decide,by decide,t0,rfl⟩⟩
  ·exact⟨_,rfl,_,rfl,_,bN.of (MT _ _ aQ),rfl,_,_,rfl,_,_,rfl,rfl,aq _ _ ⟨1,3,by decide,by decide,by decide,by decide,by decide,t0,rfl⟩⟩
 rintro cC bh J H1 ⟨w,h,d0,fQ,h0,g,qG,s1,rfl⟩;nofun;have agn:1<=w*h:=Ç d0 h0
 have em:((w:G)*(h:G))=((w*h:B):G):=by simp
 refine zu (λJ U=>∃(q:Ϩ)(L:Y B),L.N=w*h/\(∀c∈L,nt c)/\a5 H U/\H q=none/\U q=O (.Ť (L.ϒ eE))/\J=[O (.M c),O (.M (w:G)),O (.M (h:G)),O (.Z q)]) (λaP aq=>?_) ?_
 ·walk_at "RDS"
  refine⟨.ε ⟨⋯,⋯⟩,by rw[em];omega,by rw[em];omega,?_⟩;rw[em,ũ];refine Lv (λi ys U=>U=H1/\∃L:Y B,L.N=i/\(∀c∈L,nt c)/\ys=L.ϒ eE) ⟨rfl,[],rfl,λc h=>(nomatch h),rfl⟩ ?_ ?_
  ·rintro i ys U aA cg;left;obtain⟨rfl,L,ls,ok,rfl⟩:=cg;right;ext;refine⟨⟨by decide,by decide⟩,_,_,rfl,⋯,⋯,λr mq bG=>?_⟩;left;obtain⟨k,abY,dK⟩:=Pe r;right;refine⟨r,rfl,by decide,by rw[ρ];decide +Ė,k,dK,by rw[ϧ];omega,rfl,L++[k],by simp[ls],λc ak=>?_,by rw[Ε];rfl⟩;rcases κ.mp ak with y|y
   ·exact ok c y
   ·rwa[ϖ.mp y]
  ·rintro ys U cg;left;obtain⟨rfl,L,ls,ok,rfl⟩:=cg;right;exact⟨by rw[ϧ];omega,λ϶ eP=>aq _ _ ⟨϶,L,ls,ok,s1.Ϛ (zj eP),s1.Ź eP,aQ,rfl⟩⟩
 rintro cC bh J aC ⟨q,tG,xZ,abZ,s2,gi,ab0,rfl⟩;nofun;refine zu (λJ U=>∃(L:Y B),L.N=w*h/\(∀c∈L,nt c)/\43∈L/\a5 H U/\U q=O (.Ť (L.ϒ eE))/\J=[O (.M c),O (.M (w:G)),O (.M (h:G)),O (.Z q)]) (λaP aq=>?_) ?_
 ·walk_at "RDS"
  have au:=Pi (c/8) (show((w*h:B):G)≠0 by omega)
  have az:=Y_ (c/8) (show(0:G)<((w*h:B):G) by omega)
  obtain⟨j,bg⟩:=Ĺ au;rw[bg]at az;refine⟨⟨by decide,by decide⟩,.ε ⟨⋯,⋯⟩,by rw[em];omega,_,ab0,j,?_,aq _ _ ⟨tG.mt j 43,by simp[xZ],λc ak=>?_,?_,uI s2 gi,?_,rfl⟩⟩
  ·rw[em,bg,ϧ,xZ];unfold kd;rw[aS ⋯,aS ⋯];simp
  ·rcases Y.Op ak with z|z
   ·exact abZ c z
   ·rw[z];unfold nt;decide
  ·exact Y.mem_set ⋯ _
  ·rw[aQ,am9,oH.ļ rfl]
 rintro cC bh J bw ⟨L,xZ,ok,ab1,s3,tH,rfl⟩;nofun;have Ϻ:Fl.ħ w h L:=⟨d0,⋯,h0,⋯,xZ,ok,43,ab1,by decide⟩
 ext;refine⟨⋯,⋯,?_⟩;rw[ũ];refine Lv (λi ys U=>a5 bw U/\ys=((Fl.ī w h L).ĵ i).ϒ V.str) ⟨a5.Ô _,rfl⟩ ?_ ?_
 ·rintro i ys U aA ⟨i1,rfl⟩;ext;have gN:jh (L.ϒ eE) (O ((0+(i:G))*(w:G))) (O ((0+(i:G))*(w:G)+(w:G)))=(((L.IR (w*i)).ĵ w).ϒ λc=>(⟨#[c]⟩:ϕ)).ϒ V.str:=by
   have fi:((0+(i:G))*(w:G))=((w*i:B):G):=by rw[G.aj9,G.mul_comm];simp
   have li:=H8 (w:=w) aA
   rw[fi,show((w*i:B):G)+(w:G)=((w*i+w:B):G) by simp];unfold jh;rw[HT.yS,HT.yS,ϧ,B.min_eq_left ⋯,B.min_eq_left ⋯,B.add_sub_cancel_left,ó,<- Y.map_drop,<- Y.map_take];rfl
  have kU:Txt.join (ϕ.ϝ "") (((L.IR (w*i)).ĵ w).ϒ λc=>(⟨#[c]⟩:ϕ))=ib w L i:=by
   refine uE ?_;rw[Ia,ó];unfold ib;rw[rf];generalize (L.IR (w*i)).ĵ w=l
   induction l with
   | ń=>rfl
   | θ x r bB=>rw[Ŷ,Y.flatten_cons,bB];rfl
  have C:((((L.IR (w*i)).ĵ w).ϒ λc=>(⟨#[c]⟩:ϕ)).ϒ (·.N)).sum+(((L.IR (w*i)).ĵ w).ϒ λc=>(⟨#[c]⟩:ϕ)).N*(ϕ.ϝ "").N<=16777216:=by
   have c6:(ϕ.ϝ "").N=0:=∅
   rw[c6,B.mul_zero,B.add_zero,ó];have:∀l:Y B,(l.ϒ ((λx:ϕ=>x.N) ∘ λc=>(⟨#[c]⟩:ϕ))).sum=l.N:=by
    intro l;induction l with
    | ń=>rfl
    | θ x r bB=>rw[Ŷ,aiP,bB,ŵ];show 1+r.N=_;omega
   rw[ν,Ģ];omega
  refine⟨rfl,.Œ ⟨⋯,⋯⟩,.Œ ⟨⋯,⋯⟩,_,aM.of (i1 _ _ tH),λp np=>⟨((L.IR (w*i)).ĵ w).ϒ λc=>(⟨#[c]⟩:ϕ),by rw[gN];exact aM.of aQ,C,by rw[ϧ,Ģ,rg];omega,i1.Ϛ (zj np),?_⟩⟩;rw[kU,ė,pR aA,Ε];rfl
 ·rintro ys U ⟨i1,rfl⟩;have e:(Fl.ī w h L).ĵ h=Fl.ī w h L:=Y.ake (by rw[rg];exact B.ϑ _)
  rw[e];refine⟨by rw[ϧ,rg];omega,λ϶ eP=>ao ϶ _ w h L (s3.Ϛ (i1.Ϛ (zj eP))) (s3.Ź (i1.Ź eP)) aQ Ϻ (by rwa[xZ])⟩
theorem ab2:b0 D bx 2 (D.ar 100) q12 (Yp):=by
 refine cj (T 346) aaA ?_;and_intros;obtain⟨l,w,h,L,i,x,c,o,k,rfl,cY,Ϻ,e6,ai,g4,ob,x2,fa,ao⟩:=h;refine uq ⟨_,(aY (cv 4 R (cX ml R (T 170) (aj (cm eO (A 0 R) aV (λ_ _=>rfl)) aB)))
 (aY (cv 5 R (cX Gi R (T 187) (aj (bU hp (bU hq (A 2 R) (A 4 R)) (bU hq (A 3 R) (A 4 R))) aB)))
 (aY (cv 6 R (cX Gi R (T 187) (aj (bU hp (bU hO (A 2 R) (A 4 R)) (bU hO (A 3 R) (A 4 R))) aB)))
 (aY (cv 7 R (cU (EI T) R (T 68) (aj (A 0 R) (aj (A 3 R) aB))))
 (aY (c1 (e9.pt (m8 (cR mi (bU eW (A 5 R) (A 6 R)) aV) (m7 (gH (e2 (cU (abK T) R (T 69) (aj (A 1 R) (aj (A 7 R) aB))))))))
 (aT (zx hM))
 c4)
 (aY (c1 (e9.pt (jL (cR fx (A 1 R) v6) (kb (cR mi (bU hq (A 2 R) (A 4 R)) (bU hq (A 3 R) (A 4 R))))))
 (aT (zx (pe (cR ux v6 (jg (aj (A 7 R) (aj (cU (EI T) R (T 68) (aj (A 0 R) (aj (A 2 R) aB))) aB)))) aV hM)))
 c4)
 (
 aT (zx (pe (cR fx (A 7 R) v6) aV aV))))))))),?_⟩
 rfl';left;obtain⟨k1,k2,k3⟩:=oI i x ai;have d0:=Ϻ.d0
 have fQ:=Ϻ.fQ
 have h0:=Ϻ.h0
 have fP:=ρ
 have c6:fH ((Fl.ī w h L).ϒ V.str) 0=O (V.str (ib w L 0)):=gW (j:=0) (by rw[Ϙ,pR ⋯];rfl)
 have iN:=pQ Ϻ (show 0<h by omega)
 have io:=ti Ϻ ob
 right;ext;refine⟨_,aM.of cY,_,c6,_,rfl,by rw[iN];omega,?_⟩;rw[iN];refine⟨⟨⋯,⋯⟩,⟨⋯,⋯⟩,⋯,⋯,l,w,h,L,o,rfl,cY,Ϻ,io.1,io.2,?_⟩;rw[aD (λz=>z (Yt Ϻ g4 ob))];refine⟨i,_,x,rfl,ai,_,rfl,?_⟩;rw[x2,aD (by decide)];have last:∀{U},a5 H U->(i=2->c/(w:G)=o/(w:G))->(if eE (Ó L o)=V.str (ϕ.ϝ "~") then Q (V.M 3) U else Q (V.M 1) U):=λ{U} s hz=>by
  have hP:=ao U s
  by_cases cI:i=1
  ·subst cI;simp only[j5,ϣ.O.anH]at fa;subst fa;by_cases e:Ó L o=126
   ·rw[aS (qa.ļ e)];rw[aS e]at hP;exact hP
   ·rw[aD (λz=>e (qa.mp z))];rw[aD e]at hP;exact hP
  ·have e:Ó L o≠126:=λz=>by
    rw[z]at x2;unfold dO IX at x2;rw[Γ cI]at x2;exact bJ x2 (by decide)
   rw[aD (λz=>e (qa.mp z))];by_cases cE:i=2
   ·subst cE;simp only[j5,aS (hz rfl),ϣ.O.anH]at fa;rwa[fa]
   ·have:i=0:=⋯
    subst ν;simp only[j5,ϣ.O.anH]at fa;rwa[fa]
 by_cases cE:i=2
 ·rw[aS (k2.ļ cE)];refine⟨⟨⋯,⋯⟩,⟨⋯,⋯⟩,?_⟩;by_cases e:c/(w:G)=o/(w:G)
  ·rw[aD (λz=>z e)];exact⟨rfl,last (a5.Ô _) λ_=>e⟩
  ·rw[aS e];refine⟨l,w,h,L,c,rfl,cY,Ϻ,g4.1,g4.2,⋯,λp np=>⟨_,.ε (aM.of aQ),rfl,rfl,?_⟩⟩;have az:lD (V.str (ϕ.ϝ "|")) [eE (Ó L o),eE (Ó L c)]=decide (Ó L o=124\/Ó L c=124):=by
    have q:∀c:B,jj (eE c) (V.str (ϕ.ϝ "|"))=decide (c=124):=λc=>by
     have e:jj (eE c) (V.str (ϕ.ϝ "|"))=((⟨#[c]⟩:ϕ)==ϕ.ϝ "|"):=rfl
     rw[e,δ.ë,Ā,V_];exact⟨λz=>Am.mp (ż V.str z),λz=>V.str.W1 (Am.ļ z)⟩
    simp only[lD,on,am_,δ.Ĩ];rw[q,q,ah1]
   have ay:=ao _ (zj (o:=bb.Ť [eE (Ó L o),eE (Ó L c)]) np)
   subst cE;simp only[j5,aD e]at fa;split at fa
   ·rename_i y;rw[az,aS (ι (Or.symm y))];rwa[ϣ.O.W1 fa]
   ·cases fa
 ·rw[aD (λz=>cE (k2.mp z))];exact⟨rfl,last (a5.Ô _) λz=>bJ z cE⟩
theorem ab3:b0 D bx 2 (D.ar 101) q08 (Yq):=by
 refine cj (T 347) aaB ?_;and_intros;obtain⟨l,w,h,L,i,x,n,c,q,rfl,cY,Ϻ,e6,ai,g4,ao⟩:=h;refine uq ⟨_,(aY (cv 5 R (jl (eR HU) (QL (y2 v6 aV (y2 v6 aV (y2 v6 aV GZ))) rfl rfl nofun (by decide)) (A 1 R) (λ_ _=>rfl)))
 (aY (c1 (cR mi (cU (EI T) R (T 68) (aj (A 0 R) (aj (A 3 R) aB))) v6)
 (aT (cv 5 R aV))
 c4)
 (
 aT (zx (cX (sq rfl) R (T 180) (aj (A 2 R) (aj (bU eW (A 4 R) (A 5 R)) aB))))))),?_⟩
 rfl';left;obtain⟨qo,au,az⟩:∃qo:G,aW (kI [] [((.Œ "cart":Ř),V.M 2),(.Œ "crawler",.M 1),(.Œ "runner",.M 3)]) (.Œ x)=O (.M qo)/\∀s,fZ i s=if s=43 then qo else 0:=by
  match i,e6,ai with
  | 0,_,ai=>cases ai;exact⟨2,rfl,λs=>rfl⟩
  | 1,_,ai=>cases ai;exact⟨1,rfl,λs=>rfl⟩
  | 2,_,ai=>cases ai;exact⟨3,rfl,λs=>rfl⟩
 right;ext;intro p np;have mM:a5 H (ſ (ſ H p (.bL [])) p (.bL (kI [] [((.Œ "cart":Ř),V.M 2),(.Œ "crawler",.M 1),(.Œ "runner",.M 3)]))):=λb o af=>by
  have:=lg np af
  rwa[aE ν.symm,aE ν.symm]
 refine⟨aQ,[(.Œ "cart",.M 2),(.Œ "crawler",.M 1),(.Œ "runner",.M 3)],rfl,by decide,.M qo,.ε ⟨_,.Œ x,.ε aQ,rfl,au.symm⟩,l,w,h,L,c,rfl,mM _ _ cY,Ϻ,g4.1,g4.2,rfl,?_⟩;have dV:=ao _ mM
 rw[az]at dV;split
 ·rename_i z;rw[aD (λy=>z (oH.ļ y))]at dV;have e:(if q+0<n then q+0 else n)=min (q+0) n:=by split<;>omega
  rwa[e]
 ·rename_i z;rw[aS (oH.mp (TD.not_not.mp z))]at dV;have e:(if q+qo<n then q+qo else n)=min (q+qo) n:=by split<;>omega
  refine⟨qo,rfl,?_⟩;rwa[e]
theorem ab4:b0 D bx 2 (D.ar 106) q24 (YD):=by
 refine cj (T 352) aaC ?_;and_intros;obtain⟨v,b,c,eT,cc,aX,t,rfl,hw,ty,nM,MX,eY,ago,t1,nm,ao⟩:=h;refine uq ⟨_,(aY (cv 3 R (cX (pj rfl) R (T 181) (aj (bU eW (cm d2 (A 0 R) aV (λ_ _=>rfl)) (cX gM R (T 170) (aj (cm d2 (A 0 R) aV (λ_ _=>rfl)) aB))) (aj (bU eW (cm d2 (A 1 R) aV (λ_ _=>rfl)) (cX gM R (T 170) (aj (cm d2 (A 1 R) aV (λ_ _=>rfl)) aB))) aB))))
 (aY (ul Ų.Ï (c8 rfl) (Bp (eQ Zx) (T 171).1 (aj (A 2 R) (aj (bU eW (cX (pj rfl) R (T 181) (aj (A 2 R) (aj (A 3 R) aB))) aV) aB)) (iW rfl rfl) (d3 rfl)) (et 4 R)
 (aY (cv 5 R (fs (aj (cU (AI T) R (T 75) (aj (A 0 R) (aj (A 4 R) aB))) (aj (cU (AI T) R (T 75) (aj (A 1 R) (aj (A 4 R) aB))) aB))))
 (aY (cv 6 R (fs (aj (cU (AI T) R (T 75) (aj (A 0 R) (aj (bU eW (A 4 R) aV) aB))) (aj (cU (AI T) R (T 75) (aj (A 1 R) (aj (bU eW (A 4 R) aV) aB))) aB))))
 (aT (c1 (e9.pt (m8 (cR fx (cm d2 (A 5 R) aV (λ_ _=>rfl)) (cm d2 (A 5 R) aV (λ_ _=>rfl))) (m7 (e9.pt (jL (cR fx (cm d2 (A 5 R) aV (λ_ _=>rfl)) (cm d2 (A 6 R) aV (λ_ _=>rfl))) (kb (cR fx (cm d2 (A 5 R) aV (λ_ _=>rfl)) (cm d2 (A 6 R) aV (λ_ _=>rfl)))))))))
 (aT (zx lu))
 c4)))))
 (
 aT (zx lu)))),?_⟩
 rfl';left;obtain⟨p,q,rfl,g,ah⟩:=id hw;obtain⟨eB,bC,rfl,q9,kJ⟩:=id nM;obtain⟨hx,cI,cE,sW⟩:=id ty;obtain⟨lQ,d4,ea,h6⟩:=id MX;have fP:=ρ
 right;refine zu (λJ U=>∃n:G,0<=n/\n<=100000/\U=H/\J=[O (.Z p),O (.Z eB),O (.M t),O (.M n),none,none,none]) (λaP aq=>?_) ?_
 ·ext;refine(dM (bN.of g) rfl (dM (bN.of g) rfl ⟨_,rfl,_,.Œ (bN.of ah),_,rfl,dM (bN.of q9) rfl (dM (bN.of q9) rfl ⟨_,rfl,_,.Œ (bN.of kJ),_,rfl,?_⟩)⟩));rw[ϧ,ϧ];split
  ·exact aq _ _ ⟨_,⋯,⋯,rfl,rfl⟩
  ·exact aq _ _ ⟨_,⋯,⋯,rfl,rfl⟩
 rintro cC bh J H1 ⟨n,dS,cz,rfl,rfl⟩;nofun;ext;left;obtain⟨u,Aw,ab5,kg⟩:∃u:G,u=(if n>t then n else t)+1/\0<=u/\u<=200000:=⟨_,rfl,by split<;>omega,by split<;>omega⟩;right;rw[<- Aw];refine⟨⋯,⋯,⋯,⋯,ro (λj J U=>a5 H1 U/\∃dg d8 ew c2,J=[O (.Z p),O (.Z eB),O (.M t),dg,d8,ew,c2]) ⟨a5.Ô _,_,_,_,_,rfl⟩ ?_ λJ U ⟨s,dg,d8,ew,c2,e⟩=>by rw[e];exact ao U s⟩;rintro j J U ϰ bg cg cA;left;obtain⟨s,dg,d8,ew,c2,rfl⟩:=cg;have EM:=fB.ű s hw
 have EN:=fB.ű s nM
 obtain⟨a1,a2⟩:=Ew nm (show b<=t+j by omega) (show cc<=t+j by omega);clear hw nM g ah q9 kJ ao ty MX nm;right;walk_at "RDS"
 refine zu (λJ aC=>∃p1,a5 U aC/\aC p1=O (.Ţ [.M (cV b c (t+j)),.M (cV cc aX (t+j))])/\J=[O (.Z p),O (.Z eB),O (.M t),dg,O (.M (t+j)),O (.Z p1),c2]) (λaP aq=>?_) ?_
 ·ext;exact⟨_,b,c,_,rfl,EM,hx,cI,⋯,_,cc,aX,_,rfl,EN,lQ,d4,⋯,⋯,λp1 cz=>aq _ _ ⟨p1,zj cz,aQ,rfl⟩⟩
 rintro cC bh J aC ⟨p1,s1,g1,rfl⟩;nofun;refine zu (λJ bw=>∃dp,a5 aC bw/\bw dp=O (.Ţ [.M (cV b c (t+j+1)),.M (cV cc aX (t+j+1))])/\J=[O (.Z p),O (.Z eB),O (.M t),dg,O (.M (t+j)),O (.Z p1),O (.Z dp)]) (λaP aq=>?_) ?_
 ·ext;exact⟨_,b,c,_,rfl,fB.ű s1 EM,hx,cI,⋯,_,cc,aX,_,rfl,fB.ű s1 EN,lQ,d4,⋯,⋯,λdp cS=>aq _ _ ⟨dp,zj cS,aQ,rfl⟩⟩
 rintro cC bh J bw ⟨dp,s2,g2,rfl⟩;nofun;have g1:=s2 _ _ g1
 have aP:=cA [O (.Z p),O (.Z eB),O (.M t),dg,O (.M (t+j)),O (.Z p1),O (.Z dp)] _ ⟨(s.Ϛ s1).Ϛ s2,_,_,_,_,rfl⟩
 clear EM EN cA;ext;refine(dM (bN.of g1) rfl (dM (bN.of g1) rfl ⟨rfl,?_⟩));rw[aD (λz=>a1 (V.M.W1 z))];refine(dM (bN.of g1) rfl (dM (bN.of g2) rfl ⟨rfl,?_⟩));split
 ·rename_i y;refine(dM (bN.of g1) rfl (dM (bN.of g2) rfl ⟨rfl,?_⟩));rwa[aD (λz=>a2 ⟨(V.M.W1 z).symm,(V.M.W1 y).symm⟩)]
 ·exact aP
theorem ab6 {f c:Ϩ}{ϲ ϱ:Y (Ϩ×ğ)}(Ϸ:rz gZ "there" "sought.<locals>.there" f c cl q40 zs r0 ϲ ϱ):p3 D.jz D.jA D.bP D.nB D.nC bx 2 f r0 ["time","layer"] (LQ zs) ϲ ϱ:=by
 refine UQ Ϸ aaD ?_ (λϹ Ϗ s H d Q ϵ HR h=>IS λUq uq=>?_);walk_at "l"
 walk_at "h"
 obtain⟨t,bX,Ϻ,v,ū,E,L,jH,rfl,rfl,gn,lo,bF,av,aU,aF⟩:=h;refine uq ⟨_,(aY (c1 (e9.pt (jL (sa (QK (eR HU) (cx 2) (u6 1 Mc)) (by with_unfolding_all rfl)) (jL (cR yL (jl (eR HU) (u6 1 Mc) (cx 2) (λ_ _=>rfl)) (cx 4)) (kb (e2 (IE (ML T) HR ZG (T 62).1 (T 62).2 (aj (cx 3) (aj (u6 0 Zf) aB))))))))
 (aT (zx (cx 2)))
 c4)
 (
 aT (zx hM))),?_⟩
 ext;refine⟨_,eK.t gn bF,?_⟩;cases ev:aW jH (bD E.N (fu E)) with
 | none=>
  rw[aD (by simp)];exact aF λ⟨q,g,_⟩=>by rw[ev]at g;cases g
 | O u=>
  left;obtain⟨_,_,q,_,rfl,_⟩:=nF lo ev;right;rw[aS (by simp)];refine⟨_,by rw[<- ev];exact eK.t gn bF,q,rfl,?_⟩;have Pb:∀{r:G},aW jH (bD E.N (fu E))=O (.M r)->r=q:=λh=>by rw[ev]at h;cases h;rfl
  split
  ·rename_i sU;refine⟨v,t,rfl,av,λb af=>⟨b,rfl,?_⟩⟩;split
   ·rename_i z;exact aU ⟨q,ev,sU,af.mp z⟩
   ·rename_i z;exact aF λ⟨r,_,_,aI⟩=>z (af.ļ aI)
  ·rename_i sU;exact aF λ⟨r,g,ah,_⟩=>sU (by rwa[<- Pb g])
theorem ab7:b0 D bx 3 (D.ar 5) ["lines"] (Wb):=by
 refine cj (T 256) aaE ?_;and_intros;obtain⟨l,w,h,L,rfl,cY,Ϻ,ao⟩:=h;obtain⟨ab8,EO,EP⟩:=(T 28);obtain⟨agp,ab9,aca⟩:=(T 33);obtain⟨agq,acb,acd⟩:=(T 34);refine uq ⟨_,(aY (c1 (e9.pt (m8 (gH (e2 (cX q2 R (T 172) (aj (A 0 R) (aj (rr (v:=.ty "list") R (T 177) rfl) aB))))) (m7 (gH (e2 (cU (rZ T) R (T 41) (aj (cX gM R (T 170) (aj (A 0 R) aB)) (aj aV (aj (jv (v:=V.M 10) R ab9 aca) aB)))))))))
 ly
 c4)
 (aY (c1 (e9.pt (m8 (gH (e2 (cX q2 R (T 172) (aj (cm eO (A 0 R) aV (λ_ _=>rfl)) (aj (rr (v:=.ty "str") R (T 176) rfl) aB))))) (m7 (gH (e2 (cU (rZ T) R (T 41) (aj (cX ml R (T 170) (aj (cm eO (A 0 R) aV (λ_ _=>rfl)) aB)) (aj aV (aj (jv (v:=V.M 10) R acb acd) aB)))))))))
 ly
 c4)
 (aY (ul Ų.Ï (c8 rfl) (gu (A 0 R)) (et 1 R)
 (aT (fg (cU (abk T) R (T 42) (aj (A 1 R) (aj (cX ml R (T 170) (aj (cm eO (A 0 R) aV (λ_ _=>rfl)) aB)) aB))))))
 (aT (c1 (e2 (cX Cn R (T 173) (aj (iB (fz.of (gA:=bV DR) (tn:=["sign"]) (cn:=[]) (dQ:=[]) rfl rfl ∅ ∅ ∅ ∅ rfl) (c8 rfl)  (Hp (jR ϟ.ϴ.ai4 ϟ.ϴ.ajz ϟ.ϴ.ajA Cv v6 (aj (A 0 R) aB)))
 (λ_ _ _ _ _=>(gU (i:=0) (show(["sign"]:Y ϕ).Α by decide +Ė) rfl (Or.ε rfl))) (λ_ _ _ _ _=>kN) (λ_ _ _ _ _=>(ju fx (cx 0) (yA (v:=V.str (ϕ.ϝ "#")) (by rfl) EO EP (hd:=Za))))) aB)))
 ly
 c4))))),?_⟩
 rfl';have d0:=Ϻ.d0
 have fQ:=Ϻ.fQ
 have h0:=Ϻ.h0
 have g:=Ϻ.g
 have l0:=lP Ϻ
 have c6:fH ((ī w h L).ϒ V.str) 0=O (V.str (ib w L 0)):=gW (j:=0) (by rw[Ϙ,pR ⋯];rfl)
 have iN:=pQ Ϻ (show 0<h by omega)
 refine zu (λJ U=>U=H/\J=[O (V.Z l),none]) (λaP aq=>?_) ?_
 ·ext;refine(Jb (b:=true) (.Ť cY) rfl ?_);rw[aD (by decide)];refine⟨_,.ε (aM.of cY),_,_,_,rfl,⟨_,.M _⟩,_,rfl,?_⟩;rw[ϧ,rg];have a6:k8 (.M (h:G)) 1 10=true:=by simp only[k8,Ŵ,Μ];omega
  rw[a6,aD (by decide)];exact aq _ _ ⟨rfl,rfl⟩
 rintro cC bh J H1 ⟨rfl,rfl⟩;nofun;refine zu (λJ U=>U=H1/\J=[O (V.Z l),none]) (λaP aq=>?_) ?_
 ·ext;refine⟨_,aM.of cY,_,c6,_,.str _,true,rfl,?_⟩;rw[aD (by decide)];refine⟨_,aM.of cY,_,c6,_,rfl,by rw[iN];omega,_,_,_,rfl,⟨_,.M _⟩,_,rfl,?_⟩;rw[iN];have a6:k8 (.M (w:G)) 1 10=true:=by simp only[k8,Ŵ,Μ];omega
  rw[a6,aD (by decide)];exact aq _ _ ⟨rfl,rfl⟩
 rintro cC bh J aC ⟨rfl,rfl⟩;nofun;refine zu (λJ U=>∃y,a5 aC U/\J=[O (V.Z l),y]) (λaP aq=>?_) ?_
 ·ext;refine⟨⟨_,aM.of cY⟩,ub (K:=D.bP) (a:=l) (F:=(ī w h L).ϒ V.str) (λi J U=>∃y,a5 aC U/\J=[O (V.Z l),y]) ⟨none,a5.Ô _,rfl⟩ (λi J U _ ⟨_,mM,_⟩=>aM.of (mM _ _ cY)) ?_ ?_⟩
  ·rintro i y J U aA cg;left;obtain⟨zD,mM,rfl⟩:=cg;rw[Ϙ]at aA;obtain⟨z,ov,rfl⟩:=ξ.mp aA;have MY:i<h:=by
    have:=(Y.Ϧ.mp ov).1
    rwa [rg]at ν
   rw[pR MY]at ov;cases ov;right;ext;refine⟨_,aM.of (mM _ _ cY),_,c6,_,rfl,by rw[iN];omega,?_⟩;rw[iN];exact⟨_,w,rfl,pQ Ϻ MY,fQ,Sz Ϻ,λbw s3=>⟨mM.Ϛ s3,_,rfl⟩⟩
  ·rintro J U ⟨y,mM,rfl⟩;exact aq _ _ ⟨y,mM,rfl⟩
 rintro cC bh J bw ⟨y,s3,rfl⟩;nofun;ext;refine⟨rfl,_,aM.of (s3 _ _ cY),Ic Ϻ,?_⟩;rw[Ib Ϻ];refine n9 Hr (λ_=>true) D8 (λy aU Q h=>h) (λy aU _ Q bj=>?_) (by rw[ϧ,Hv,kT];omega) ?_
 ·left;obtain⟨c,ak,rfl⟩:=Ζ.mp aU;right;ext;refine⟨rfl,?_⟩;have e:D8 (eE c)=V.bl (decide (eE c=V.str (ϕ.ϝ "#"))):=by
   show V.bl _=V.bl _
   congr 1
   exact sK.ļ ⟨λz=>ż V.str z,λz=>V.str.W1 z⟩
  rw[e]at bj;exact bj
 ·intro ϶ eP;have fJ:(((txt L).Ch.Ω.ϒ eE).ı λ_=>true).ϒ D8=(L.ϒ λc=>decide ((⟨#[c]⟩:ϕ)=ϕ.ϝ "#")).ϒ V.bl:=by
   rw[Y.ai3.ļ (λ_ _=>rfl),ó,ó,rf];rfl
  rw[fJ];refine⟨hA,_,aM.of aQ,?_⟩;have az:(L.ϒ λc=>decide ((⟨#[c]⟩:ϕ)=ϕ.ϝ "#")).IY id=false:=by
   left;obtain⟨c,ak,ia⟩:=Ϻ.φ;right;rw[all_map,Y.ann];exact⟨c,ak,by
    show ¬(decide _=true)
    rwa[Μ,Lk]⟩
  rw[az,aD (by decide)];exact ao _ (s3.Ϛ (zj eP))
theorem ER:b0 D bx 3 (D.ar 7) O6 (Wd D.bP (D.ar 110)):=by
 refine cj (T 258) aaF ?_;and_intros;obtain⟨p,w,h,L,x,rfl,aR,Ϻ,ty,ao⟩:=h;obtain⟨ab8,EO,EP⟩:=(T 28);refine uq ⟨_,(aT (zx (pd (cU (rZ T) R (T 41) (aj (A 1 R) (aj aV (aj (bU hp (cX ml R (T 170) (aj (cq (A 0 R) (by rfl)) aB)) aV) aB)))) (m9 (ju mi (cm uu (cq (A 0 R) (by rfl)) (A 1 R) (λ_ _=>rfl)) (jv (v:=V.str (ϕ.ϝ "#")) R EO EP)))))),?_⟩;rfl';left;obtain⟨dx,l,g,ah⟩:=aR.ob;have l0:=lP Ϻ
 right;ext;refine(cp g (T 188) (T 192) (th _ _ _ _) ⟨_,rfl,by rw[kT];omega,x,_,_,rfl,ty,_,rfl,?_⟩);rw[kT];cases x with
 | M i=>
  by_cases aA:0<=i/\i<L.N
  ·have a6:k8 (.M i) 0 ((L.N:G)-1)=true:=by
    simp only[k8,Ŵ,Μ];omega
   rw[a6,aS rfl];refine(cp g (T 188) (T 192) (th _ _ _ _) ⟨_,rfl,_,rfl,by rw[kT];omega,_,D9 aA.1 aA.2,?_⟩);have e:oh L (.M i)=!decide ((⟨#[Ó L i]⟩:ϕ)=ϕ.ϝ "#"):=by
    show eG L i=_
    unfold eG;rw[ι aA.1,ι aA.2];simp only[δ.aj8];congr 1
    exact sK.ļ (Lk _).symm
   rw[e]at ao;exact ao
  ·have a6:k8 (.M i) 0 ((L.N:G)-1)=false:=by
    rw[<- Cl];simp only[k8,Ŵ,Μ];omega
   rw[a6,aD (by decide)];have e:oh L (.M i)=false:=by
    rw[<- Cl];show ¬(eG L i=true)
    unfold eG;simp only[Ŵ,Μ];intro z;exact aA ⟨z.1.1,z.1.2⟩
   rw[e]at ao;exact ao
 | _=>
  rwa[show k8 _ 0 ((L.N:G)-1)=false from rfl,aD (by decide)]
theorem AJ:b0 D bx 3 (D.ar 21) Pk (Lo D.ar):=by
 refine cj (T 272) aaG ?_;and_intros;obtain⟨p,aZ,i,n,w,h,L,φ,Κ,rfl,ak,aA,aR,Ϻ,ll,oT,ao⟩:=h;refine uq ⟨_,(aY (c1 (e9.pt (jL (e2 (kS (k:=1) (A 0 R) (cN (T 193) (T 139) (j9 T) (cN (T 195) (T 95) (xT T) (cN (T 197) (T 148) (j9 T) (cN (T 199) (T 87) (j9 T) iD)))) (HR.WF (by decide)) (aj (df (A 1 R) (T 188) (T 80) (nL T) HR (aj (A 2 R) aB)) aB) (wE:=el rfl) (Tm:=eF rfl))) (kb (e2 (kS (k:=1) (A 0 R) (cN (T 193) (T 139) (j9 T) (cN (T 195) (T 95) (xT T) (cN (T 197) (T 148) (j9 T) (cN (T 199) (T 87) (j9 T) iD)))) (HR.WF (by decide)) (aj (df (A 1 R) (T 188) (T 80) (nL T) HR (aj (A 3 R) aB)) aB) (wE:=el rfl) (Tm:=eF rfl))))))
 (aT (zx (kS (k:=2) (A 0 R) (cN (T 193) (T 141) (ME T) (cN (T 195) (T 97) (abL T) (cN (T 197) (T 100) (abM T) (cN (T 199) (T 89) (ME T) iD)))) (HR.WF (by decide)) (aj (A 1 R) (aj (A 2 R) (aj (A 3 R) aB))) (wE:=el rfl) (Tm:=eF rfl))))
 c4)
 (
 aT (zx hM))),?_⟩
 rfl';obtain⟨dx,l,g,ah⟩:=id aR.ob;obtain⟨gb,ay⟩:=id ak;have ns:(fY w h l L).Ϣ ("sign":ϕ)=none:=jc ∅ ∅ ∅ ∅
 obtain⟨j,bg,kU⟩:=An (D:=D.ar) i aA;obtain⟨k,aq,dK⟩:=Wr (D:=D.ar) (Ϸ:=(D.ar 110)) i aA;have nm:(cu "full" (V.M n) []).Ϣ ("may_stand":ϕ)=none:=jD n ∅
 have cB:(cu "full" (V.M n) []).Ϣ ("fare":ϕ)=none:=jD n ∅
 have may:∀(o:G)(jK:a8),ee L o->jK (.bl (dO i (Ó L o))) H->∃a dx aJ e,e∈[((D.ar 111),j6 0),((D.ar 112),j6 1),((D.ar 113),j6 0),((D.ar 114),j6 0)]/\p=a/\H a=O (bb.Â e.fst dx aJ)/\Y.Ϣ ("may_stand":ϕ) aJ=none/\
   ∃x MZ,H aZ=O (bb.Â (D.ar 110) x MZ)/\Y.Ϣ ("sign":ϕ) MZ=none/\Ll (D.ar 110) [V.Z aZ,V.M o] H (λx H1=>e.snd [V.Z p,x] H1 jK hc) hc:=λo jK av q=>
  ⟨p,gb,_,(d5 D.ar i,j6 j),bg,rfl,ay,nm,_,_,g,ns,aZ,w,h,L,o,rfl,aR,Ϻ,av.1,av.2,_,_,rfl,by rwa[kU]⟩
 unfold KF at ao;ext;refine may φ _ ll ⟨_,rfl,?_⟩;by_cases au:dO i (Ó L φ)=true
 ·rw[aS au];refine may Κ _ oT ⟨_,rfl,?_⟩;by_cases az:dO i (Ó L Κ)=true
  ·rw[aS az];simp only[au,az,δ.and_self,NE]at ao;refine⟨p,gb,_,(d5 D.ar i,oG (D.ar 110) k),aq,rfl,ay,cB,.Z p,aZ,w,h,L,φ,Κ,rfl,aR,Ϻ,ll,oT,?_⟩;rwa[dK]
  ·rw[aD az];rw[Cl]at az;rw[az,δ.and_false,aD (by decide)]at ao;exact ao _ (a5.Ô _)
 ·rw[aD au];rw[Cl]at au;rw[au,δ.akx,aD (by decide)]at ao;exact ao _ (a5.Ô _)
theorem ace:b0 D bx 3 (D.ar 30) q62 (Wm D.ar):=by
 obtain⟨aL,fd,ϴ,ϸ⟩:=(T 4);refine⟨fd,ϸ,?_⟩;refine ϴ.ok Mn.sc.1 ?_ (λË Ϲ Ϗ s H d Q ϵ HR h=>IS λUq uq=>?_);walk_at "l"
 have R:fD _ _ _ _ _:=⟨Mn,HR⟩
 have ND:=R.nd
 walk_at "h"
 obtain⟨i,x,n,rfl,e6,aA,dS,cz,ao⟩:=h;obtain⟨agr,acf,acg⟩:=(T 35);obtain⟨ags,ach,aci⟩:=(T 36);refine uq ⟨_,(aY (c1 (e9.pt (m8 (gH (e2 (cX q2 R (T 172) (aj (A 0 R) (aj (rr (v:=.ty "str") R (T 176) rfl) aB))))) (m7 (cR Qn (A 0 R) (jv (v:=.Z (D.ar 129)) R acf acg)))))
 ly
 c4)
 (aY (c1 (gH (e2 (cU (rZ T) R (T 41) (aj (A 1 R) (aj aV (aj (jv (v:=V.M 60) R ach aci) aB))))))
 ly
 c4)
 (aY (c1 (cR fx (A 0 R) v6)
 (aT (zx (pX (T 153) (EC T) R (T 11) (aj (A 1 R) aB))))
 c4)
 (aY (c1 (cR fx (A 0 R) v6)
 (aT (zx (pX (T 154) (EC T) R (T 12) (aj (A 1 R) aB))))
 c4)
 (
 aT (zx (pX (T 155) (EC T) R (T 13) (aj (A 1 R) aB)))))))),?_⟩
 rfl';ext;have ai:x∈Ef:=by
  match i,aA,e6 with
  | 0,aA,_=>cases aA;decide +Ė
  | 1,aA,_=>cases aA;decide +Ė
  | 2,aA,_=>cases aA;decide +Ė
  | (i+3),aA,e6=>omega
 refine⟨_,.str x,_,rfl,?_⟩;rw[aD (by decide)];refine⟨_,.Œ ((T 2) H),rfl,rfl,?_⟩;rw[Wo,ι ai,aD (by decide)];refine⟨.M n,1,60,rfl,⟨_,.M n⟩,true,by simp[k8,dS,cz],?_⟩;rw[aD (by decide)];have mk:∀(p dx:Ϩ),H p=none->H dx=none->dx≠p->Ln D.ar [V.Z p,V.M n] (ſ (ſ H dx (bb.HF p)) p (bb.Â (d5 D.ar i) dx [])) (λv aC=>v=V.br/\Q (V.Z p) aC) hc:=λp dx np nd nn=>
  ⟨p,dx,n,i,rfl,aQ,rfl,ao p _ (λb o e=>by rwa[aE (cF e np),aE (cF e np),aE (cF e nd)]) np ⟨dx,aQ⟩⟩
 match i,aA,e6,mk with
 | 0,aA,_,mk=>cases aA;rwa[aS rfl]
 | 1,aA,_,mk=>cases aA;rwa[aD ∅,aS rfl]
 | 2,aA,_,mk=>cases aA;rwa[aD ∅,aD ∅]
 | (i+3),aA,e6,mk=>omega
theorem acj:b0 D bx 3 (D.ar 35) q44 (Xc):=by
 refine cj (T 285) aaH ?_;and_intros;obtain⟨v,b,c,t,e,rfl,hw,Ϻ,t0,bT,au,ao⟩:=h;refine uq ⟨_,(aY (c1 (cR qM (A 1 R) (cm d2 (A 0 R) aV (λ_ _=>rfl)))
 (aT (zx (cX (sq rfl) R (T 180) (aj (bU hp (cm d2 (A 0 R) aV (λ_ _=>rfl)) aV) (aj (A 2 R) aB)))))
 c4)
 (aY (cv 3 R (cU (mZ T) R (T 48) (aj (A 0 R) (aj (A 1 R) aB))))
 (aY (ul Ų.Ï (c8 rfl) (Bp (eQ ZF) (T 171).1 (aj (bU eW (A 1 R) aV) (aj (bU eW (cX (sq rfl) R (T 180) (aj (cU (tE T) R (T 46) (aj (A 0 R) aB)) (aj (A 2 R) aB))) aV) aB)) (iW rfl rfl) (d3 rfl)) (et 4 R)
 (aT (c1 (cR mi (cU (mZ T) R (T 48) (aj (A 0 R) (aj (A 4 R) aB))) (A 3 R))
 (aT (zx (bU hp (A 4 R) aV)))
 c4)))
 (
 aT (zx (A 2 R)))))),?_⟩
 rfl';left;obtain⟨p,q,rfl,g,ah⟩:=id hw;obtain⟨ak,aw,i6,b1⟩:=Ϻ;have ih:0<c.N:=ě.ļ ak
 right;ext;refine(dM (bN.of g) rfl ⟨_,rfl,?_⟩);split
 ·rename_i z;refine(dM (bN.of g) rfl ⟨_,rfl,ao _ (by split<;>omega) (by split<;>omega) λs s1 s2=>?_⟩);rw[uX.ļ (by split at s2<;>omega),uX.ļ z]
 ·rename_i z;refine⟨_,b,c,t,rfl,hw,ak,_,b,c,rfl,hw,_,rfl,⋯,⋯,by split<;>omega,by split<;>omega,ro (λi J U=>∃x,U=H/\J=[O (V.Z p),O (V.M t),O (V.M e),O (cT b c t),x]/\∀j:B,j<i->cT b c (t+1+(j:G))=cT b c t) ⟨none,rfl,rfl,λj bg=>bJ bg (B.aiW j)⟩ ?_ ?_⟩
  ·rintro i J U ϰ aA cg cA;left;obtain⟨x,rfl,rfl,aF⟩:=cg;right;ext;refine⟨_,b,c,t+1+(i:G),rfl,hw,ak,Ao (oj _ _ _) (oj _ _ _),?_⟩;split
   ·refine ao _ ⋯ (by split at aA<;>omega) λs s1 s2=>?_;by_cases w:s=t
    ·rw[w]
    ·have:=aF (s-t-1).Ο ⋯
     rwa [show t+1+(((s-t-1).Ο:B):G)=s by omega]at ν
   ·rename_i y;refine cA _ _ ⟨_,rfl,rfl,λj bg=>?_⟩;by_cases w:j=i
    ·rw[w];exact TD.not_not.mp y
    ·exact aF j ⋯
  ·rintro J U cg;left;obtain⟨x,rfl,rfl,aF⟩:=cg;right;ext;refine ao e bT (G.ϑ _) λs s1 s2=>?_;have near:∀s,t<=s->s<=e->s<=b+(c.N:G)-1->cT b c s=cT b c t:=λs s1 s2 s3=>by
    by_cases y:s=t
    ·rw[y]
    ·have:=aF (s-t-1).Ο (by split<;>omega)
     rwa [show t+1+(((s-t-1).Ο:B):G)=s by omega]at ν
   by_cases y:s<=b+(c.N:G)-1
   ·exact near s s1 s2 y
   ·rw[u1 ak (show b+(c.N:G)-1<=s by omega)];by_cases w:t<=b+(c.N:G)-1
    ·rw[<- near (b+(c.N:G)-1) w ⋯ (G.ϑ _),u1 ak (G.ϑ _)]
    ·rw[u1 ak ⋯]
theorem ack:b0 D bx 3 (D.ar 36) q52 (Wx):=by
 refine cj (T 286) aaI ?_;and_intros;obtain⟨v,b,c,eT,cc,aX,t,rfl,hw,nM,ak,hL,ao⟩:=h;refine uq ⟨_,(aY (cv 3 R (cU (mZ T) R (T 48) (aj (A 0 R) (aj (A 2 R) aB))))
 (aY (cv 4 R (cU (mZ T) R (T 48) (aj (A 1 R) (aj (A 2 R) aB))))
 (aY (c1 (cR fx (A 3 R) (A 4 R))
 (aT (zx v6))
 c4)
 (aY (c1 (e9.pt (jL (cR fx (cU (mZ T) R (T 48) (aj (A 0 R) (aj (bU eW (A 2 R) aV) aB))) (A 4 R)) (kb (cR fx (cU (mZ T) R (T 48) (aj (A 1 R) (aj (bU eW (A 2 R) aV) aB))) (A 3 R)))))
 (aT (zx v6))
 c4)
 (
 aT (zx hM)))))),?_⟩
 rfl';have hy:=oj b c t
 have ff:=oj cc aX t
 have ig:=oj b c (t+1)
 have uZ:=oj cc aX (t+1)
 unfold ic rh at ao;ext;refine⟨v,b,c,t,rfl,hw,ak,eT,cc,aX,t,rfl,nM,hL,Ao hy ff,?_⟩;by_cases h:cT b c t=cT cc aX t
 ·rw[aS h]at ao ⊢;exact ao
 ·rw[aD h]at ao ⊢;refine⟨v,b,c,t+1,rfl,hw,ak,Ao ig ff,?_⟩;by_cases ah:cT b c (t+1)=cT cc aX t
  ·rw[aS ah];refine⟨eT,cc,aX,t+1,rfl,nM,hL,Ao uZ hy,?_⟩;by_cases aI:cT cc aX (t+1)=cT b c t
   ·rw[aS ⟨ah,aI⟩]at ao;rwa[aS aI]
   ·rw[aD (λz=>aI z.2)]at ao;rwa[aD aI]
  ·rw[aD (λz=>ah z.1)]at ao;rwa[aD ah]
theorem M0:b0 D bx 3 (D.ar 41) HS (XO D.ar):=by
 refine cj (T 291) aaJ ?_;and_intros;obtain⟨p,ϻ,C,e,rfl,af,nd,he,ao⟩:=h;refine uq ⟨_,(aY (fg (df (A 0 R) (T 207) (T 109) (abQ T) HR (aj (A 1 R) aB)))
 (
 aT (zx (jl (eR HU) (cq (A 0 R) (by rfl)) (A 1 R) (λ_ _=>rfl))))),?_⟩
 rfl';left;obtain⟨⟨dx,g⟩,ah⟩:=id af;right;ext;exact(dZ g (js ϻ ∅) ⟨p,ϻ,C,e.k,rfl,af,nd,⟨e,he,rfl⟩,cp g (T 207) (T 208) (rj ϻ) ⟨ϻ,rfl,e.v,by rw[<- sL nd he];exact eK.k (k:=.ε e.k) ah,ao⟩⟩)
theorem M1:b0 D bx 3 (D.ar 43) q46 (WI D.ar):=by
 refine cj (T 293) aaK ?_;and_intros;obtain⟨p,ϻ,C,n,t,rfl,af,ao⟩:=h;refine uq ⟨_,(aY (cv 3 R uA)
 (aY (ul Ų.Ï (c8 rfl) (gu (df (A 0 R) (T 207) (T 108) (AG T) HR (aj (A 1 R) aB))) (et 4 R)
 (aY (cv 5 R (cU (mZ T) R (T 48) (aj (A 4 R) (aj (bU eW (A 2 R) aV) aB))))
 (aT (c1 (cR so (A 5 R) hM)
 (aT (qY (eR HU) (A 3 R) (A 5 R) (cU (mZ T) R (T 48) (aj (A 4 R) (aj (A 2 R) aB))) rfl))
 c4))))
 (
 aT (zx (A 3 R))))),?_⟩
 rfl';left;obtain⟨⟨⟨dx,g⟩,ah⟩,cy⟩:=id af;have jW:∀F,H ϻ≠O (.Ţ F):=λF z=>by rw[ah]at z;cases z
 right;ext;intro q gi;have s1:=zj (o:=bb.bL []) gi
 have zC:q≠ϻ:=(cF ah gi).symm
 refine(dZ (s1 _ _ g) (js ϻ ∅) ⟨p,ϻ,C,n,rfl,af.ű s1,λl H1 nl s2 aw=>⟨l,rfl,⟨_,aM.of aw⟩,ub (F:=(c7 C n).ϒ (·.v)) (λi J U=>∃(x y:ϣ V)(Ϝ:Y (Ř×V)),cM q H1 U/\U q=O (.bL Ϝ)/\mC ((c7 C n).ĵ i) t Ϝ/\J=[O (V.Z p),O (V.M n),O (V.M t),O (V.Z q),x,y]) ⟨none,none,[],jt (a5.Ô _),s2 _ _ aQ,S8,rfl⟩ ?_ ?_ ?_⟩⟩)
 ·rintro i J U _ ⟨x,y,Ϝ,sB,dV,ak,rfl⟩;exact aM.of (sB _ _ aw (bM aw (s2 _ _ aQ) nofun))
 ·rintro i x J U ai cg;left;obtain⟨x0,zD,Ϝ,sB,dV,ak,rfl⟩:=cg;rw[Ϙ]at ai;obtain⟨e,he,rfl⟩:=ξ.mp ai;have hm:=(pT.mp (ύ he)).1
  have qn:=fB.dh (sB.dh (λF z=>by rw[s2 _ _ aQ]at z;cases z)) ((cy.ok e hm).1.ű (s1.Ϛ s2))
  have cn:=(cy.ok e hm).2.1.1
  have tk:(c7 C n).ĵ (i+1)=(c7 C n).ĵ i++[e]:=by rw[ė,he];rfl
  have tI:Ϝ.N<=50:=by
   have a1:=ak.SC
   have a2:=(cy.IR n).SC
   rw[Ģ]at a1;unfold c7 at a1;omega
  right;rw[tk];ext;refine⟨e.v,e.b,e.c,t+1,rfl,qn,cn,?_⟩;rcases oj e.b e.c (t+1) with z|⟨lT,z⟩
  ·rw[z,aD (by simp)];exact⟨sB,_,_,Ϝ,dV,S9 ak z,rfl,rfl⟩
  ·rw[z,aS (by simp)];exact⟨e.v,e.b,e.c,t,rfl,qn,cn,_,kH.k (k:=.ε lT) dV ⋯,mB sB,_,_,_,aQ,Ta ak z (λj=>jU _ _ _ _) (by unfold ß;split<;>simp),rfl,rfl⟩
 ·rintro J U cg;left;obtain⟨x,y,Ϝ,sB,dV,ak,rfl⟩:=cg;rw[ϧ,İ]at ak;right;ext;exact ao q Ϝ U gi (λb o eh=>sB _ _ ((s1.Ϛ s2) b o eh) (cF eh gi)) dV ak
theorem M3:b0 D bx 3 (D.ar 52) q56 (YM D.ar):=by
 refine cj (T 302) aaL ?_;and_intros;obtain⟨ay,l,t,L,n,a,c,rfl,bj,MS,ak,bk,ao⟩:=h;refine uq ⟨_,(aY (fg (jR ϟ.ϴ.ō ϟ.ϴ.ř ϟ.ϴ.Ň lF (cq (A 0 R) (by rfl)) (aj (A 1 R) aB)))
 (
 aT (fg (ki (A 0 R) (T 216) (T 114) (abR T) HR)))),?_⟩
 rfl';left;obtain⟨dx,ts,au,az,lt,al,gt⟩:=bj.at;obtain⟨s1,g⟩:=bj.mt (us:=ts++[t]) (m:=n+1) (λu bK=>(κ.mp bK).Ę (al u) λz=>ϖ.mp z ▸ ⟨a,c,ak,bk⟩) (by rw[υ,lt];rfl);obtain⟨ES,f1⟩:=g.ob;have fP:=ρ
 right;ext;refine(cp au (T 216) (T 217) (h2 l) ⟨.ε ⟨rfl,_,aM.of az⟩,l,rfl,_,az,by rw[ϧ];omega,?_⟩);rw[show ts.ϒ V.Z++[V.Z t]=(ts++[t]).ϒ V.Z by rw[Ε];rfl];exact⟨_,_,f1,mW l ∅,ay,l,L,n,rfl,g,λbw s3 aI=>ao _ (tA s1 s3) aI⟩
theorem acm:b0 D bx 3 (D.ar 54) I_ (YN D.ar):=by
 refine cj (T 304) aaM ?_;and_intros;obtain⟨ay,l,L,n,rfl,bj,ao⟩:=h;refine uq ⟨_,(aY (cv 1 R (ki (A 0 R) (T 216) (T 111) (abA T) HR))
 (aY (cv 2 R (Qo ϟ.ϴ.ō ϟ.ϴ.amm ϟ.ϴ.type_list_pop Qt (cq (A 0 R) (by rfl))))
 (aY (c1 (Gh (cq (A 0 R) (by rfl)) (λ_=>rfl))
 (aY (si (A 2 R) (yF (cq (A 0 R) (by rfl)) aV aj3))
 (aT (fg (ki (A 0 R) (T 216) (T 115) (abT T) HR))))
 c4)
 (
 aT (zx (A 1 R)))))),?_⟩
 rfl';left;obtain⟨dx,ts,au,az,lt,al,gt⟩:=bj.at;right;refine zu (λJ U=>∃r a c,U=H/\eG L c=true/\H r=O (.Ţ [.M a,.M c])/\J=[O (V.Z ay),O (V.Z r),none]) (λaP aq=>?_) ?_
 ·ext;exact⟨_,_,au,mW l ∅,ay,l,L,n,rfl,bj,λt a c ak bk=>aq _ _ ⟨t,a,c,rfl,ak,bk,rfl⟩⟩
 rintro cC bh J H1 ⟨r,a,c,rfl,ak,aO,rfl⟩;nofun;left;obtain⟨us,z,rfl⟩:∃us z,ts=us++[z]:=⟨ts.n_,ts.getLast (λy=>by rw[y]at lt;cases lt),(Y.dropLast_concat_getLast _).symm⟩;rw[υ]at lt;have lt:us.N=n:=B.o0.W1 lt
 obtain⟨s1,g⟩:=bj.mt (us:=us) (λu bK=>al u (ŭ _ bK)) lt;have acn:=s1 _ _ aO (bM aO az (λz=>nomatch z))
 right;refine zu (λJ U=>U=ſ H1 l (.Ť (us.ϒ V.Z))/\J=[O (V.Z ay),O (V.Z r),O (V.Z z)]) (λaP aq=>?_) ?_
 ·ext;refine(cp au (T 216) (T 217) (h2 l) ⟨.ε ⟨rfl,_,aM.of az⟩,l,rfl,_,az,V.Z z,?_,aq _ _ ⟨?_,rfl⟩⟩)
  ·rw[Ε,υ];simp
  ·rw[Ε];simp
 rintro cC bh J aC ⟨rfl,rfl⟩;nofun;obtain⟨iY,f1⟩:=g.ob;ext;refine(cp f1 (T 216) (T 217) (h2 l) ⟨_,.ε ⟨_,aM.of aQ,rfl⟩,?_⟩);cases us with
 | ń=>
  rw[aD (by simp)];exact ao r a c _ ak acn s1 g
 | θ ab5 us=>
  rw[aS (by simp)];left;have lt:us.N+1=n:=lt
  subst lt;obtain⟨s2,ah⟩:=bj.mt (us:=z::us) (m:=us.N+1) (λu bK=>al u (by rcases ς.mp bK with rfl|y<;>simp[*])) rfl;obtain⟨MJ,g1⟩:=ah.ob;right;refine(cp f1 (T 216) (T 217) (h2 l) ⟨l,rfl,_,aQ,0,by simp[kd],?_⟩);rw[Bb];exact⟨_,_,g1,mW l ∅,ay,l,L,_,rfl,ah,λbw s3 aI=>ao r a c _ ak ((tA s2 s3) _ _ aO (bM aO az (λz=>nomatch z))) (tA s2 s3) aI⟩
theorem aco:b0 D bx 3 (D.ar 78) q57 (X4 D.ar):=by
 refine cj (T 327) aaN ?_;and_intros;obtain⟨p,dx,aZ,w,h,L,rfl,ay,aR,Ϻ,gf,ao⟩:=h;refine uq ⟨_,(aY (gL (A 0 R) (A 1 R) rfl)
 (aY (gL (A 0 R) aV rfl)
 (aY (gL (A 0 R) (jg aB) rfl)
 (aY (gL (A 0 R) (jg aB) rfl)
 (aY (gL (A 0 R) (II (T 158) (abu T) R (T 16)) rfl)
 (
 aT (gL (A 0 R) uA rfl))))))),?_⟩
 rfl';refine zu (λJ U=>iL H U p (D.ar 120) dx (cu "floor" (.Z aZ) [])/\J=[O (.Z p),O (.Z aZ)]) (λaP aq=>?_) ?_
 ·walk_at "RDS"
  exact⟨_,_,_,ay,(T 218),(T 219),by show 0<1000;decide,aq _ _ ⟨⟨λb o e n=>by rwa[aE n],aQ⟩,rfl⟩⟩
 rintro cC bh J H1 ⟨f1,rfl⟩;nofun;refine zu (λJ U=>iL H U p (D.ar 120) dx (cu "now" (.M 0) (cu "floor" (.Z aZ) []))/\J=[O (.Z p),O (.Z aZ)]) (λaP aq=>?_) ?_
 ·walk_at "RDS"
  exact⟨_,_,_,f1.2,(T 218),(T 220),by show 1<1000;decide,aq _ _ ⟨f1.mt,rfl⟩⟩
 rintro cC bh J aC ⟨f2,rfl⟩;nofun;refine zu (λJ U=>∃ct,iL H U p (D.ar 120) dx (cu "movers" (.Z ct) (cu "now" (.M 0) (cu "floor" (.Z aZ) [])))/\H ct=none/\ct≠p/\U ct=O (.Ť [])/\J=[O (.Z p),O (.Z aZ)]) (λaP aq=>?_) ?_
 ·walk_at "RDS"
  exact⟨⋯,λct nm=>⟨_,_,_,(f2.OR nm).2,(T 218),(T 221),by show 2<1000;decide,aq _ _ ⟨ct,(f2.OR nm).mt,f2.fr nm,f2.ne nm,by rw[aE (f2.ne nm)];exact aQ,rfl⟩⟩⟩
 rintro cC bh J bw ⟨ct,dv,nm,pm,hm,rfl⟩;nofun;refine zu (λJ U=>∃ch,iL H U p (D.ar 120) dx (cu "charges" (.Z ch) (cu "movers" (.Z ct) (cu "now" (.M 0) (cu "floor" (.Z aZ) []))))/\U ct=O (.Ť [])/\H ch=none/\ch≠p/\ct≠ch/\U ch=O (.Ť [])/\J=[O (.Z p),O (.Z aZ)]) (λaP aq=>?_) ?_
 ·walk_at "RDS"
  exact⟨⋯,λch gk=>⟨_,_,_,(dv.OR gk).2,(T 218),(T 222),by show 3<1000;decide,aq _ _ ⟨ch,(dv.OR gk).mt,by rwa[aE pm,aE (cF hm gk)],dv.fr gk,dv.ne gk,cF hm gk,by rw[aE (dv.ne gk)];exact aQ,rfl⟩⟩⟩
 rintro cC bh J cK ⟨ch,f4,acp,gk,pc,DD,ak,rfl⟩;nofun;refine zu (λJ U=>∃bf ϻ,iL H U p (D.ar 120) dx (cu "booked" (.Z bf) (cu "charges" (.Z ch) (cu "movers" (.Z ct) (cu "now" (.M 0) (cu "floor" (.Z aZ) [])))))/\U ct=O (.Ť [])/\U ch=O (.Ť [])/\H bf=none/\H ϻ=none/\bf≠p/\ϻ≠p/\nv (D.ar 117) U bf ϻ []/\J=[O (.Z p),O (.Z aZ)]) (λaP aq=>?_) ?_
 ·walk_at "RDS"
  intro bf ey nb qp ia;have g1:=f4.OR qp (o:=.HF bf)
  have M4:ſ cK ey (.HF bf) bf=none:=by rwa[aE ia.symm]
  have g2:=g1.OR M4 (o:=.Â (D.ar 117) ey [])
  refine⟨bf,ey,rfl,aQ,λϻ nd=>⟨rfl,?_⟩⟩;have g3:=g2.OR nd (o:=.bL [])
  have ET:bf≠p:=f4.ne nb
  have db:ϻ≠bf:=λz=>by rw[z,aQ]at nd;cases nd
  have lR:=g3.put (f4.fr nb) ET (o:=.Â (D.ar 117) ey (wl ϻ))
  have gb:=g2.ne nd
  have pM:∀{b},b≠p->∀{o},cK b=O o->ſ (ſ (ſ (ſ (ſ cK ey (.HF bf)) bf (.Â (D.ar 117) ey [])) ϻ (.bL [])) bf (.Â (D.ar 117) ey (wl ϻ))) p (.Â (D.ar 120) dx (cu "booked" (.Z bf) (cu "charges" (.Z ch) (cu "movers" (.Z ct) (cu "now" (.M 0) (cu "floor" (.Z aZ) [])))))) b=O o:=λn o e=>by
   have au:ſ (ſ cK ey (.HF bf)) bf (.Â (D.ar 117) ey []) _=O o:=(zj M4) _ _ ((zj qp) _ _ e)
   rwa[aE n,aE (cF e nb),aE (cF au nd)]
  exact⟨_,_,_,lR.2,(T 218),(T 223),by show 4<1000;decide,aq _ _ ⟨bf,ϻ,lR.mt,pM pm acp,pM pc ak,f4.fr nb,g2.fr nd,ET,gb,⟨⟨ey,by rw[aE ET];exact aQ⟩,by rw[aE gb,aE db];exact aQ⟩,rfl⟩⟩
 rintro cC bh J dX ⟨bf,ϻ,dP,acq,acr,nb,nd,zp,AK,af,rfl⟩;nofun;ext;intro h5 nn;refine⟨_,_,_,(dP.OR nn).2,(T 218),(T 224),by show 5<1000;decide,?_⟩;left;have s5:=zj (o:=bb.bL []) nn
 obtain⟨⟨ey,b1⟩,b2⟩:=af;have sB:=((dP.OR nn (o:=bb.bL [])).mt (fs':=g0 ⟨aZ,ct,ch,bf,h5,ϻ⟩ 0)).1
 obtain⟨hj,l,bY,dN⟩:=aR.ob;right;refine ao _ ⟨aZ,ct,ch,bf,h5,ϻ⟩ sB (λb af=>?_) ⟨⟨dx,aQ⟩,⟨⟨hj,l,sB _ _ bY (bM bY ay (LX (by show(4:B)≠0;decide))),sB _ _ dN (bM dN ay (λz=>nomatch z))⟩⟩,Ϻ,gf,⟨[],?_,.ń⟩,?_,⟨⟨⟨ey,?_⟩,?_⟩,⟨λe he=>(nomatch he),wf⟩⟩,WN,⟨rfl,λk e r h=>(nomatch h)⟩,⟨[],?_,⟨wf,λk aq=>(nomatch aq)⟩,λx v aG=>by cases aG⟩,⟨DD,lg nn b2⟩,by decide,by decide⟩
 ·simp only[ς,ő,Ĩ]at af;rcases af with rfl|rfl|rfl|rfl|rfl
  ·exact nm
  ·exact gk
  ·exact nb
  ·exact dP.fr nn
  ·exact nd
 ·rw[aE pm];exact s5 _ _ acq
 ·rw[aE pc];exact s5 _ _ acr
 ·rw[aE zp];exact s5 _ _ b1
 ·rw[aE AK];exact s5 _ _ b2
 ·rw[aE (dP.ne nn)];exact aQ
theorem acs:b0 D bx 3 (D.ar 102) q06 (Yr):=by
 refine cj (T 348) aaO ?_;and_intros;obtain⟨l,w,h,L,i,x,n,q,c,o,bC,rfl,cY,Ϻ,e6,ai,g4,aF,dJ,ao⟩:=h;refine uq ⟨_,(aY (c1 (cR fx (A 4 R) (A 5 R))
 (aT (zx (cU (ab3 T) R (T 71) (aj (A 0 R) (aj (A 1 R) (aj (A 2 R) (aj (A 4 R) (aj (A 3 R) aB))))))))
 c4)
 (aY (cv 6 R (cU (ab2 T) R (T 70) (aj (A 0 R) (aj (A 1 R) (aj (A 4 R) (aj (A 5 R) aB))))))
 (
 aT (zx (pe (cR yM (A 6 R) hM) (n0 n1 aV) (cX (pj rfl) R (T 181) (aj (n0 n1 aV) (aj (bU hp (A 3 R) (A 6 R)) aB)))))))),?_⟩
 rfl';unfold kr at aF;ext;split
 ·rename_i z;subst z;rw[aS rfl]at aF;cases aF;exact⟨l,w,h,L,i,x,n,c,q,rfl,cY,Ϻ,e6,ai,g4,ao⟩
 ·rename_i z;rw[aD (Ne.symm z)]at aF;split at aF
  ·rename_i ob;obtain⟨k,aq,e⟩:=ξ.mp aF;unfold KF at aq;split at aq
   ·rename_i y;rw[Ŵ]at y;refine⟨l,w,h,L,i,x,c,o,k,rfl,cY,Ϻ,e6,ai,g4,ob,y.2,aq,λU s=>?_⟩;rw[aD (λz=>nomatch z)];have au:(if q-k>-1 then q-k else -1)=bC:=by rwa[aS ⋯]
    refine⟨k,rfl,?_⟩;rw[au];exact ao U s
   ·cases aq
  ·cases aF
theorem acu:b0 D bx 4 (D.ar 6) q55 (Wc (D.ar 110)):=by
 refine cj (T 257) aaP ?_;and_intros;obtain⟨p,dx,l,w,h,L,rfl,ay,cY,Ϻ,ao⟩:=h;refine uq ⟨_,(aY (fg (cU (ab7 T) R (T 43) (aj (A 1 R) aB)))
 (aY (gL (A 0 R) (cX ml R (T 170) (aj (cm eO (A 1 R) aV (λ_ _=>rfl)) aB)) rfl)
 (aY (gL (A 0 R) (cX gM R (T 170) (aj (A 1 R) aB)) rfl)
 (aY (gL (A 0 R) (u9 GJ R (T 177) (aj (A 1 R) aB)) rfl)
 (
 aT (gL (A 0 R) (jR ϟ.ϴ.ai4 ϟ.ϴ.ajz ϟ.ϴ.ajA Cv v6 (aj (A 1 R) aB)) rfl)))))),?_⟩
 rfl';have d0:=Ϻ.d0
 have h0:=Ϻ.h0
 have l0:=lP Ϻ
 have c6:fH ((ī w h L).ϒ V.str) 0=O (V.str (ib w L 0)):=gW (j:=0) (by rw[Ϙ,pR ⋯];rfl)
 have iN:=pQ Ϻ (show 0<h by omega)
 have fQ:=Ϻ.fQ
 have tJ:l≠p:=bM cY ay nofun
 ext;refine⟨l,w,h,L,rfl,cY,Ϻ,λH1 s1=>?_⟩;have qq:=s1 _ _ cY
 have vw:=s1 _ _ ay
 try dsimp only
 refine⟨_,aM.of qq,_,c6,_,rfl,by rw[iN];omega,_,_,_,vw,(T 188),(T 189),by show 0<1000;decide,?_⟩;rw[iN];refine⟨_,.ε (aM.of (by rwa[aE tJ])),_,_,_,aQ,(T 188),(T 190),by show 1<1000;decide,?_⟩;rw[ϧ,rg];refine⟨_,.ε (aM.of (by rwa[aE tJ,aE tJ])),λeM cS=>?_⟩;have rD:eM≠p:=λz=>by rw[z,aQ]at cS;cases cS
 have EU:H1 eM=none:=by rw[aE rD,aE rD]at cS;exact cS
 have acv:l≠eM:=cF qq EU
 refine⟨_,_,_,by rw[aE rD.symm,aQ],(T 188),(T 191),by show 2<1000;decide,rfl,_,aM.of (by rwa[aE tJ,aE acv,aE tJ,aE tJ]),Ic Ϻ,_,_,_,aQ,(T 188),(T 192),by show 3<1000;decide,?_⟩;rw[Ib Ϻ];refine ao _ dx eM (s1.Ź EU) aQ ?_ λb o af nb=>?_
 ·unfold jC;rw[aE rD,aE rD,aQ]
 ·have ra:=s1 _ _ af
  rwa[aE nb,aE nb,aE (cF ra EU),aE nb,aE nb]
theorem M5:b0 D bx 4 (D.ar 11) I_ (Wg (D.ar 110)):=by
 refine cj (T 262) aaQ ?_;and_intros;obtain⟨p,w,h,L,rfl,aR,Ϻ,ao⟩:=h;refine uq ⟨_,(aT (zx (iB (fz.of (gA:=bV z6) (tn:=["place"]) (cn:=I_) (dQ:=[0]) rfl rfl ∅ ∅ ∅ ∅ rfl) (c8 rfl)  (nZ (eQ Zv) (T 171).1 (aj (cX ml R (T 170) (aj (cq (A 0 R) (by rfl)) aB)) aB) (d3 rfl))
 (
 λ_ _ _ _ _=>(gU (i:=0) (show(["place","self"]:Y ϕ).Α by decide +Ė) rfl (Or.ε rfl))) (λ_ _ _ _ _=>(n7 (e2 (df (cx 1) (T 188) (T 79) (ER T) HR (aj (cx 0) aB))))) (λ_ _ _ _ _=>(cx 0))))),?_⟩
 rfl';left;obtain⟨dx,l,g,ah⟩:=aR.ob;have l0:=lP Ϻ
 right;ext;refine(cp g (T 188) (T 192) (th _ _ _ _) ⟨_,rfl,by rw[kT];omega,⋯,by rw[kT];omega,?_⟩);rw[kT,ũ];refine n9 amM (oh L) (λv=>v) (λy aU Q bj=>?_) (λy aU _ Q bj=>?_) (by rw[ϧ,Ī];omega) ?_
 ·left;obtain⟨i,aA,rfl⟩:=Ζ.mp aU;right;ext;exact(dZ g (Ak _ _ _ _ ∅ ∅ ∅ ∅) ⟨p,w,h,L,_,rfl,aR,Ϻ,⟨_,.M _⟩,_,rfl,bj⟩)
 ·ext;exact bj
 ·intro ϶ eP;have e:((((Ć L.N).ϒ λi=>V.M (0+((i:B):G))).ı (oh L)).ϒ λv=>v)=(Õ L).ϒ V.M:=by
   rw[alo,Ie,Is];have:((Ć L.N).ϒ λi=>V.M (0+((i:B):G)))=((Ć L.N).ϒ λi=>((i:B):G)).ϒ V.M:=by
    rw[ó];refine Ù λi _=>?_;simp
   rw[ν,ahp];rfl
  rw[e];exact ao ϶ _ eP (zj eP) aQ
theorem M6:b0 D bx 4 (D.ar 13) O6 (Wi (D.ar 110)):=by
 refine cj (T 264) aaR ?_;and_intros;obtain⟨p,w,h,L,c,rfl,aR,Ϻ,ao⟩:=h;refine uq ⟨_,(aY (cv 2 R (jg (aj (bU hp (A 1 R) (cq (A 0 R) (by rfl))) aB)))
 (aY (c1 (cR uc (df (A 0 R) (T 188) (T 81) (MB T) HR (aj (A 1 R) aB)) aV)
 (aT (fg (jR ϟ.ϴ.ō ϟ.ϴ.ř ϟ.ϴ.Ň lF (A 2 R) (aj (bU hp (A 1 R) aV) aB))))
 c4)
 (aY (c1 (cR qM (df (A 0 R) (T 188) (T 81) (MB T) HR (aj (A 1 R) aB)) (bU hp (cq (A 0 R) (by rfl)) aV))
 (aT (fg (jR ϟ.ϴ.ō ϟ.ϴ.ř ϟ.ϴ.Ň lF (A 2 R) (aj (bU eW (A 1 R) aV) aB))))
 c4)
 (aY (fg (jR ϟ.ϴ.ō ϟ.ϴ.ř ϟ.ϴ.Ň lF (A 2 R) (aj (bU eW (A 1 R) (cq (A 0 R) (by rfl))) aB)))
 (aT (zx (iB (fz.of (gA:=bV DS) (tn:=["place"]) (cn:=I_) (dQ:=[0]) rfl rfl ∅ ∅ ∅ ∅ rfl) (c8 rfl)  (gu (A 2 R))
 (
 λ_ _ _ _ _=>(gU (i:=0) (show(["place","self"]:Y ϕ).Α by decide +Ė) rfl (Or.ε rfl))) (λ_ _ _ _ _=>(n7 (e2 (df (cx 1) (T 188) (T 79) (ER T) HR (aj (cx 0) aB))))) (λ_ _ _ _ _=>(cx 0))))))))),?_⟩
 rfl';left;obtain⟨dx,l,g,ah⟩:=aR.ob;have d0:=Ϻ.d0
 have fQ:=Ϻ.fQ
 have M7:(fY w h l L).Ϣ ("column":ϕ)=none:=Ak _ _ _ _ ∅ ∅ ∅ ∅
 have acw:(fY w h l L).Ϣ ("has":ϕ)=none:=Ak _ _ _ _ ∅ ∅ ∅ ∅
 right;refine zu (λJ U=>∃n,H n=none/\a5 H U/\U n=O (.Ť ([c-(w:G)].ϒ V.M))/\J=[O (V.Z p),O (V.M c),O (V.Z n)]) (λaP aq=>?_) ?_
 ·ext;exact(cp g (T 188) (T 189) (xt _ _ _ _) ⟨_,rfl,⋯,λn nn=>aq _ _ ⟨n,nn,zj nn,aQ,rfl⟩⟩)
 rintro cC bh J H1 ⟨n,nn,s1,aF,rfl⟩;nofun;refine zu (λJ U=>a5 H U/\U n=O (.Ť (([c-(w:G)]++(if c%w>0 then [c-1] else [])).ϒ V.M))/\J=[O (V.Z p),O (V.M c),O (V.Z n)]) (λaP aq=>?_) ?_
 ·ext;refine⟨_,_,s1 _ _ g,M7,p,w,h,L,c,rfl,aR.ű s1,Ϻ,_,rfl,?_⟩;split
  ·rename_i ak;refine⟨.ε ⟨rfl,_,aM.of aF⟩,_,aF,by simp only[Ŷ,rc,ŵ,Ċ];omega,aq _ _ ⟨uI s1 nn,?_,rfl⟩⟩;rw[aQ,aS ak];rfl
  ·rename_i ak;refine aq _ _ ⟨s1,?_,rfl⟩;rw[aF,aD ak];rfl
 rintro cC bh J aC ⟨s2,pk,rfl⟩;nofun;refine zu (λJ U=>a5 H U/\U n=O (.Ť (([c-(w:G)]++(if c%w>0 then [c-1] else [])++(if c%w<(w:G)-1 then [c+1] else [])).ϒ V.M))/\J=[O (V.Z p),O (V.M c),O (V.Z n)]) (λaP aq=>?_) ?_
 ·ext;refine⟨_,_,s2 _ _ g,M7,p,w,h,L,c,rfl,aR.ű s2,Ϻ,cp (s2 _ _ g) (T 188) (T 189) (xt _ _ _ _) ⟨_,rfl,_,rfl,?_⟩⟩;split
  ·rename_i ak;refine⟨.ε ⟨rfl,_,aM.of pk⟩,_,pk,?_,aq _ _ ⟨uI s2 nn,?_,rfl⟩⟩
   ·rw[ϧ,υ];split<;>simp only[ŵ,Ċ]<;>omega
   ·rw[aQ,aS ak];simp only[Ε,Ŷ,rc]
  ·rename_i ak;refine aq _ _ ⟨s2,?_,rfl⟩;rw[pk,aD ak,ċ]
 rintro cC bh J bw ⟨s3,M8,rfl⟩;nofun;refine zu (λJ U=>a5 H U/\U n=O (.Ť ((nu w c).ϒ V.M))/\J=[O (V.Z p),O (V.M c),O (V.Z n)]) (λaP aq=>?_) ?_
 ·ext;refine⟨.ε ⟨rfl,_,aM.of M8⟩,cp (s3 _ _ g) (T 188) (T 189) (xt _ _ _ _) ⟨_,rfl,_,M8,?_,aq _ _ ⟨uI s3 nn,?_,rfl⟩⟩⟩
  ·rw[ϧ,υ,υ];split<;>split<;>simp only[ŵ,Ċ]<;>omega
  ·rw[aQ];unfold nu;simp only[Ε,Ŷ,rc]
 rintro cC bh J cK ⟨s4,M9,rfl⟩;nofun;have qr:=aR.ű s4
 ext;refine⟨⟨_,aM.of M9⟩,n9 (UF (aM.of M9)) (oh L) (λv=>v) (λy aU Q bj=>?_) (λy aU _ Q bj=>?_) ?_ ?_⟩
 ·left;obtain⟨z,_,rfl⟩:=Ζ.mp aU;right;ext;exact⟨_,_,s4 _ _ g,acw,p,w,h,L,_,rfl,qr,Ϻ,⟨_,.M _⟩,_,rfl,bj⟩
 ·ext;exact bj
 ·unfold nu;rw[ϧ,υ,υ,υ];split<;>split<;>simp only[ŵ,Ċ]<;>omega
 ·intro ϶ eP;have e:((((nu w c).ϒ V.M).ı (oh L)).ϒ λv=>v)=(fk w L c).ϒ V.M:=by
   rw[alo,fk,ahp];rfl
  rw[e];exact ao ϶ _ (s4.Ź eP) (s4.Ϛ (zj eP)) aQ
theorem Na:b0 D bx 4 (D.ar 31) q25 (XK D.ar):=by
 refine cj (T 281) aaS ?_;and_intros;obtain⟨p,aZ,i,n,w,h,L,c,rfl,ak,aA,aR,Ϻ,ao⟩:=h;refine uq ⟨_,(aT (zx (pd (df (A 0 R) (T 188) (T 79) (ER T) HR (aj (A 2 R) aB)) (m9 (kS (k:=1) (A 1 R) (cN (T 193) (T 139) (j9 T) (cN (T 195) (T 95) (xT T) (cN (T 197) (T 148) (j9 T) (cN (T 199) (T 87) (j9 T) iD)))) (HR.WF (by decide)) (aj (df (A 0 R) (T 188) (T 80) (nL T) HR (aj (A 2 R) aB)) aB) (wE:=el rfl) (Tm:=eF rfl)))))),?_⟩;rfl';left;obtain⟨dx,l,g,ah⟩:=id aR.ob;obtain⟨gb,ay⟩:=id ak;have nm:(cu "full" (V.M n) []).Ϣ ("may_stand":ϕ)=none:=jD n ∅
 have ns:(fY w h l L).Ϣ ("sign":ϕ)=none:=jc ∅ ∅ ∅ ∅
 have acx:(fY w h l L).Ϣ ("has":ϕ)=none:=jc ∅ ∅ ∅ ∅
 obtain⟨x3,l1,x4⟩:=An (D:=D.ar) i aA;right;ext;refine⟨_,_,g,acx,aZ,w,h,L,V.M c,rfl,aR,Ϻ,⟨_,.M c⟩,_,rfl,?_⟩;by_cases a1:eG L c=true
 ·have qs:ee L c:=by
   have z:=a1
   unfold eG at z;simp only[Ŵ,Μ]at z;exact z.1
  rw[aS (show oh L (V.M c)=true from a1)];refine⟨p,gb,_,(d5 D.ar i,j6 x3),l1,rfl,ay,nm,_,_,g,ns,aZ,w,h,L,c,rfl,aR,Ϻ,qs.1,qs.2,_,_,rfl,?_⟩;rw[x4];rw[a1,δ.aj8]at ao;exact ao
 ·rw[aD (show ¬oh L (V.M c)=true from a1)];rw[Cl]at a1;rw[a1,δ.akx]at ao;exact ao
theorem acy:b0 D bx 4 (D.ar 37) ["one","other"] (Wz):=by
 refine cj (T 287) aaT ?_;and_intros;obtain⟨v,b,c,eT,cc,aX,rfl,hw,nM,Ϻ,g',ao⟩:=h;refine uq ⟨_,(aY (cv 2 R (cX (pj rfl) R (T 181) (aj (cm d2 (A 0 R) aV (λ_ _=>rfl)) (aj (cm d2 (A 1 R) aV (λ_ _=>rfl)) aB))))
 (aY (cv 3 R (cX (pj rfl) R (T 181) (aj (cU (tE T) R (T 46) (aj (A 0 R) aB)) (aj (cU (tE T) R (T 46) (aj (A 1 R) aB)) aB))))
 (aY (ul Ų.Ï (c8 rfl) (Bp (eQ ZC) (T 171).1 (aj (A 2 R) (aj (bU eW (A 3 R) aV) aB)) (iW rfl rfl) (d3 rfl)) (et 4 R)
 (aY (cv 5 R (cU (ack T) R (T 50) (aj (A 0 R) (aj (A 1 R) (aj (A 4 R) aB)))))
 (aT (c1 (cR so (A 5 R) hM)
 (aT (zx (fs (aj (A 4 R) (aj (A 5 R) aB)))))
 c4))))
 (
 aT (zx hM))))),?_⟩
 rfl';left;obtain⟨p,q,rfl,g,ah⟩:=id hw;obtain⟨eB,bC,rfl,q9,kJ⟩:=id nM;obtain⟨ak,aw,i6,b1⟩:=Ϻ;obtain⟨hL,FR,agt,agu⟩:=g';have ih:0<c.N:=ě.ļ ak
 have agv:0<aX.N:=ě.ļ hL
 right;ext;refine(dM (bN.of g) rfl (dM (bN.of q9) rfl ⟨_,rfl,_,rfl,_,b,c,rfl,hw,_,cc,aX,rfl,nM,_,rfl,_,rfl,?_⟩));left;obtain⟨ϸ,ke⟩:∃ϸ,ϸ=(if cc>b then cc else b):=⟨_,rfl⟩;obtain⟨e,he⟩:∃e,e=(if cc+(aX.N:G)-1>b+(c.N:G)-1 then cc+(aX.N:G)-1 else b+(c.N:G)-1):=⟨_,rfl⟩;right;rw[<- ke,<- he];left;have Nb:b<=ϸ/\cc<=ϸ/\ϸ<=10^15/\(ϸ=b\/ϸ=cc):=by rw[ke];split<;>exact⟨⋯,⋯,⋯,by simp⟩
 have au:b+(c.N:G)-1<=e/\cc+(aX.N:G)-1<=e/\e<=10^15+100000:=by rw[he];split<;>exact⟨⋯,⋯,⋯⟩
 obtain⟨Nb,agw,agx,Nc⟩:=Nb;have Nd:∀{t:G},b<=t->cc<=t->ϸ<=t:=λh h'=>Nc.Ę (λz=>by rwa[z]) λz=>by rwa[z]
 obtain⟨acz,acA,agy⟩:=au;clear Nc ke he;right;refine⟨⋯,⋯,⋯,⋯,F8 (λi J U=>∃x y,U=H/\J=[O (V.Z p),O (V.Z eB),O (V.M ϸ),O (V.M e),x,y]/\∀j:B,j<i->ic b c cc aX (ϸ+(j:G))=none) ⟨none,none,rfl,rfl,λj bg=>bJ bg (B.aiW j)⟩ ?_ ?_⟩
 ·rintro i J U aA cg;left;obtain⟨x,y,rfl,rfl,aF⟩:=cg;right;ext;refine⟨_,b,c,_,cc,aX,ϸ+(i:G),rfl,hw,nM,ak,hL,?_⟩;try dsimp only
  cases hm:ic b c cc aX (ϸ+(i:G)) with
  | none=>
   rw[aD (by simp[Eg])];refine⟨rfl,λj bg=>?_⟩;rcases B.j_.mp bg with z|z
   ·exact aF j z
   ·rwa[z]
  | O w=>
   rw[aS (by simp[Eg])];refine⟨⋯,λr de=>ao _ _ (O (ϸ+(i:G),w)) (zj de) ⟨r,rfl,aQ⟩ ⟨⋯,⋯,hm,λt' g1 g2 g3=>?_⟩⟩;have eY:=Nd g1 g2
   have:=aF (t'-ϸ).Ο ⋯
   rw[show ϸ+((t'-ϸ).Ο:G)=t' by omega]at ν;exact ν
 ·rintro J U cg;left;obtain⟨x,y,rfl,rfl,aF⟩:=cg;right;ext;refine ao _ _ none (a5.Ô _) rfl (jY.am4 ak hL (e:=e) acz acA λt' g1 g2 g3=>?_);have eY:=Nd g1 g2
  have:=aF (t'-ϸ).Ο ⋯
  rw[show ϸ+((t'-ϸ).Ο:G)=t' by omega]at ν;exact ν
theorem acB:b0 D bx 4 (D.ar 46) q18 (Xd D.ar):=by
 refine cj (T 296) aaU ?_;and_intros;obtain⟨p,ϻ,C,n,t,e,rfl,af,t0,bT,au,ao⟩:=h;refine uq ⟨_,(aT (zx (UM rfl (eQ Zm) (T 180).1 (aj (iB (fz.of (gA:=bV z9) (tn:=["way"]) (cn:=["time","end"]) (dQ:=[2,3]) rfl rfl ∅ ∅ ∅ ∅ rfl) (c8 rfl)  (gu (df (A 0 R) (T 207) (T 108) (AG T) HR (aj (A 1 R) aB)))
 (
 λ_ _ _ _ _=>(gU (i:=0) (show(q44:Y ϕ).Α by decide +Ė) rfl (Or.ε rfl))) (λ_ _ _ _ _=>kN) (λ_ _ _ _ _=>(hC (acj T) HR (T 49) Ze (aj (cx 0) (aj (cx 1) (aj (cx 2) aB)))))) aB) (A 3 R) (d3 rfl)))),?_⟩
 rfl';left;obtain⟨⟨⟨dx,g⟩,ah⟩,cy⟩:=id af;have lZ:(c7 C n).N<=41:=(cy.IR n).SC
 have fP:=ρ
 right;ext;refine(dZ g (js ϻ ∅) ⟨p,ϻ,C,n,rfl,af,λl H1 nl s1 aw=>⟨l,rfl,⟨_,aM.of aw⟩,?_⟩⟩);have S:=UF (K:=D.bP) (aM.of aw)
 refine zd (n:=(c7 C n).N) (x:=λi=>(((c7 C n).ϒ (·.v))[i]?).œ .br) (λi ys U=>U=H1/\∃rs:Y G,ys=rs.ϒ V.M/\rs.N=i/\(∀r∈rs,t<=r/\r<=e)/\∀(j:B)(x:Ĕ),j<i->(c7 C n)[j]?=O x->∃r∈rs,∀s,t<=s->s<=r->cT x.b x.c s=cT x.b x.c t) ⟨rfl,[],rfl,rfl,λr aO=>(by cases aO),λj x bg=>bJ bg (B.aiW j)⟩ (λi ys U aA ⟨au,_⟩=>?_) (λys U ⟨au,_⟩=>?_) (λi ys U aA ⟨au,rs,az,bY,dN,iC⟩=>?_) (λys U ⟨au,rs,az,bY,dN,iC⟩=>?_)
 ·subst au;refine⟨S.go i (by rwa[ϧ]),λy dt oc=>?_⟩;obtain⟨cQ,da⟩:=S.fR i y dt (by rwa[ϧ]) oc;exact⟨cQ,by rw[da];rfl⟩
 ·subst au;have:=S.stop
  rw[ϧ]at ν;exact ν
 ·subst au az;obtain⟨x,ai⟩:∃x,(c7 C n)[i]?=O x:=⟨_,ϡ aA⟩;have hm:=(pT.mp (ύ ai)).1
  have ev:(((c7 C n).ϒ (·.v))[i]?).œ V.br=x.v:=by rw[Ϙ,ai];rfl
  rw[ev];left;obtain⟨fQ,l7,_⟩:=cy.ok x hm;right;ext;refine⟨_,x.b,x.c,t,e,rfl,fQ.ű s1,⟨l7.1,by have:=l7.2.1;omega,l7.2.2.1,by have:=l7.2.2.2;omega⟩,t0,bT,au,λr bG bW hb=>⟨by rw[ϧ];omega,rfl,rs++[r],by rw[Ε];rfl,by rw[υ,bY];rfl,λy aU=>?_,λj z bg hz=>?_⟩⟩
  ·rcases κ.mp aU with w|w
   ·exact dN y w
   ·rw[ϖ.mp w];exact⟨bG,bW⟩
  ·by_cases q:j=i
   ·subst q;rw[ai]at hz;cases hz;exact⟨r,by simp,hb⟩
   ·left;obtain⟨y,fW,fl⟩:=iC j z ⋯ hz;right;exact⟨y,ŭ _ fW,fl⟩
 ·subst au az;refine⟨by rw[ϧ];omega,λ϶ eI=>⟨rs,aM.of aQ,λm hm=>?_⟩⟩;have ge:∀x∈c7 C n,∃r∈rs,∀s,t<=s->s<=r->cT x.b x.c s=cT x.b x.c t:=λx ai=>by
   obtain⟨j,bg⟩:=Y.s0.mp ai;exact iC j x (Y.Ϧ.mp bg).1 bg
  rcases hm with⟨h0,rfl⟩|⟨hm,le⟩
  ·refine ao _ _ (s1.Ϛ (zj eI)) bT (G.ϑ _) λx ai=>?_;obtain⟨r,aO,_⟩:=ge x ai;rw[h0]at aO;cases aO
  ·obtain⟨dH,di⟩:=dN m hm;refine ao _ m (s1.Ϛ (zj eI)) dH di λx ai s s2 s3=>?_;obtain⟨r,aO,h⟩:=ge x ai;exact h s s2 (by have:=le r aO;omega)
theorem EV:b0 D bx 4 (D.ar 85) HS (XW D.ar):=by
 refine cj (T 334) aaV ?_;and_intros;obtain⟨p,S,w,h,L,t,rs,C,k,e,rfl,aR,he,ao⟩:=h;refine uq ⟨_,(aT (zx (df (cq (A 0 R) (by rfl)) (T 207) (T 102) (M0 T) HR (aj (A 1 R) aB)))),?_⟩;rfl';left;obtain⟨dx,av⟩:=aR.ob;obtain⟨hm,dK,_⟩:=aR.ent he;obtain⟨⟨⟨db,af⟩,hd⟩,cy⟩:=id aR.bf;right;ext;rw[<- dK];exact(cp av (T 218) (T 223) (tu S t) ⟨S.bf,rfl,dZ af (js S.ϻ ∅) ⟨S.bf,S.ϻ,C,e,rfl,aR.bf.1,cy.nd,hm,ao⟩⟩)
theorem EW:b0 D bx 4 (D.ar 93) HS (XS D.ar):=by
 refine cj (T 339) aaW ?_;and_intros;obtain⟨p,S,w,h,L,t,rs,C,k,rfl,aR,aq,ao⟩:=h;refine uq ⟨_,(aT (c1 (gH (e2 (cU (rZ T) R (T 41) (aj (A 1 R) (aj aV (aj (bU hp (cX gM R (T 170) (aj (cq (A 0 R) (by rfl)) aB)) aV) aB))))))
 ly
 c4)),?_⟩
 rfl';left;obtain⟨dx,av⟩:=aR.ob;obtain⟨ms,hm,pm⟩:=aR.ct;have lm:(ms.ϒ V.Z).N=rs.N:=by rw[ϧ];exact ϋ.N pm
 right;ext;refine(cp av (T 218) (T 221) (oN S t) ⟨S.ct,rfl,_,.ε (aM.of hm),?_⟩);rw[lm];refine⟨_,_,_,rfl,⟨_,.M _⟩,true,?_,?_⟩
 ·show V.bl (decide ((0:G)<=k)&&decide ((k:G)<=(rs.N:G)-1))=_
  rw[ι (show(0:G)<=k by omega),ι (show(k:G)<=rs.N-1 by omega)];rfl
 ·rwa[aD (by decide)]
theorem l2:b0 D bx 5 (D.ar 19) q48 (Al D.ar):=by
 refine cj (T 270) aaX ?_;and_intros;obtain⟨p,aZ,i,n,w,h,L,φ,rfl,ak,aA,aR,Ϻ,ll,ao⟩:=h;refine uq ⟨_,(aY (zb (i:=3) (fz.of (gA:=bV vx) (tn:=["other"]) (cn:=["floor","cell","self"]) (dQ:=[1,2,0]) rfl rfl ∅ ∅ ∅ ∅ rfl) (c8 rfl) ND rfl Zg (gu (df (A 1 R) (T 188) (T 85) (M6 T) HR (aj (A 2 R) aB)))
 (λ_ _ _ _ _=>(gU (i:=0) (show(["other","floor","cell","self"]:Y ϕ).Α by decide +Ė) rfl (Or.ε rfl))) (λ_ _ _ _ _=>kN) (λ_ _ _ _ _=>(fs (aj (cx 0) (aj (kS (k:=3) (cx 3) (cN (T 193) (T 144) (AJ T) (cN (T 195) (T 147) (AJ T) (cN (T 197) (T 151) (AJ T) (cN (T 199) (T 92) (AJ T) iD)))) (HR.WF (by decide)) (aj (cx 1) (aj (cx 2) (aj (cx 0) aB))) (wE:=el rfl) (Tm:=eF rfl)) aB)))) (hsw:=by rfl))
 (aT (zx (iB (fz.of (gA:=bV vx) (tn:=["pair"]) (cn:=[]) (dQ:=[]) rfl rfl ∅ ∅ ∅ ∅ rfl) (c8 rfl)  (gu (A 3 R))
 (
 λ_ _ _ _ _=>(gU (i:=0) (show(["pair"]:Y ϕ).Α by decide +Ė) rfl (Or.ε rfl))) (λ_ _ _ _ _=>(n7 (cR so (cm (q3 (K:=D.bP) rfl) (cx 0) aV (λ_ _=>rfl)) hM))) (λ_ _ _ _ _=>(cx 0)))))),?_⟩
 rfl';left;obtain⟨dx,l,g,ah⟩:=id aR.ob;obtain⟨gb,ay⟩:=id ak;have nb:(fY w h l L).Ϣ ("beside":ϕ)=none:=jc ∅ ∅ ∅ ∅
 have cB:(cu "full" (V.M n) []).Ϣ ("fare_if_standing":ϕ)=none:=jD n ∅
 have bl:=xx (w:=w) (L:=L) (c:=φ)
 right;ext;refine(dZ g nb ⟨aZ,w,h,L,φ,rfl,aR,Ϻ,λr H1 aO s1 aI=>⟨r,rfl,⟨_,aM.of aI⟩,zh (K:=D.bP) (a:=r) (F:=(fk w L φ).ϒ V.M) (λj ys U=>a5 H1 U/\∃ts:Y Ϩ,ys=ts.ϒ V.Z/\ϋ (qU (KF i w L φ) U) ts ((fk w L φ).ĵ j)) ⟨a5.Ô _,[],rfl,.ń⟩ ?_ ?_ ?_⟩⟩)
 ·rintro j ys U _ ⟨s2,_⟩;exact aM.of (s2 _ _ aI)
 ·rintro j x ys U ai cg;left;obtain⟨s2,ts,rfl,pr⟩:=cg;rw[Ϙ]at ai;obtain⟨o,av,rfl⟩:=ξ.mp ai;have hm:o∈fk w L φ:=ύ av
  have lt:ts.N<=4:=by
   have:=ϋ.N pr
   rw[Ģ]at ν;omega
  right;ext;refine⟨p,gb,_,(d5 D.ar i,Lo D.ar),tj i aA,rfl,s2 _ _ (s1 _ _ ay),cB,p,aZ,i,n,w,h,L,φ,o,rfl,⟨gb,s2 _ _ (s1 _ _ ay)⟩,aA,aR.ű (s1.Ϛ s2),Ϻ,ll,ti Ϻ hm,λbw s3=>⟨⋯,λt bk=>⟨by simp;omega,(s2.Ϛ s3).Ϛ (zj bk),ts++[t],by simp,?_⟩⟩⟩;rw[ė,av];exact ϋ.O2 (ϋ.gq pr λ_ _ z=>(zj bk) _ _ (s3 _ _ z)) aQ
 ·rintro ys U cg;left;obtain⟨s2,ts,rfl,pr⟩:=cg;rw[ϧ,İ]at pr;have lt:ts.N<=4:=by
   have:=ϋ.N pr
   omega
  right;refine⟨by simp;omega,λq dV=>⟨⟨_,aM.of aQ⟩,n9 (UF (aM.of aQ)) (xy (ſ U q (bb.Ť (ts.ϒ V.Z)))) (λv=>v) (λy aU Q h=>?_) (λy aU _ Q h=>?_) (by simp;omega) (λ϶ eP=>?_)⟩⟩
  ·left;obtain⟨t,bk,rfl⟩:=Ζ.mp aU;obtain⟨o,e⟩:=Ws pr bk;have e:ſ U q (bb.Ť (ts.ϒ V.Z)) t=O (.Ţ [.M o,rK (KF i w L φ o)]):=(zj dV) _ _ e
   right;ext;refine(dM (bN.of e) rfl ?_);simp only[xy,e]at h;exact h
  ·ext;exact h
  ·left;obtain⟨us,au,az⟩:=Lr (ϋ.gq pr λ_ _ z=>(zj (o:=bb.Ť (ts.ϒ V.Z)) dV) _ _ z);right;rw[alo,au];exact ao ϶ _ ((s1.Ϛ s2).Ź ((zj dV).Ź eP)) ((s1.Ϛ s2).Ϛ ((zj dV).Ϛ (zj eP))) ⟨us,aQ,ϋ.gq az λ_ _ z=>(zj eP) _ _ z⟩
theorem Nf:b0 D (ht D.jz D.jA) 5 (D.ar 40) q49 (WD D.ar):=by
 obtain⟨fd,ϴ,ϸ⟩:=(T 290);refine⟨fd,ϸ,?_⟩;refine ϴ.oe Mo.sc.1 ?_ (λË Ϲ Ϗ s H d Q ϵ HR h=>IS λUq uq=>?_);walk_at "l"
 have R:fD _ _ _ _ _:=⟨Mo,HR⟩
 have ND:=R.nd
 walk_at "h"
 obtain⟨p,ϻ,C,n,v,b,c,rfl,af,cy,hw,ty,ao⟩:=h;obtain⟨agz,acC,acD⟩:=abi T;refine uq ⟨_,(aY (ul Ų.bi (c8 rfl) (gu (ki (A 0 R) (T 207) (T 103) (abv T) HR)) (et 3 R)
 (aT (c1 (e9.pt (jL (cR mi (A 3 R) (A 1 R)) (kb (cR so (cU (acy T) R (T 51) (aj (A 2 R) (aj (jl (eR HU) (cq (A 0 R) (by rfl)) (A 3 R) (λ_ _=>rfl)) aB))) hM))))
 (aT (JT JS rfl (eQ Zk) (T 26) (T 239) (T 240) acD (HR.WF (by decide)) acC .ń (aj (A 3 R) aB) (Oo:=Y6) (he:=el rfl) (Tm:=eF rfl)))
 c4)))
 (
 aT (qY (eR HU) (cq (A 0 R) (by rfl)) (A 1 R) (A 2 R) rfl))),?_⟩
 rfl';left;obtain⟨⟨dx,g⟩,ah⟩:=id af;have lZ:=cy.SC
 have good:∀{b:G}{c:Y G},pS b c->ħ b c:=λh=>⟨h.1,by have:=h.2.1;omega,h.2.2.1,by have:=h.2.2.2;omega⟩
 right;ext;refine(dZ g (js ϻ ∅) ⟨p,ϻ,C,rfl,af,⋯,λl ms nl ay aH=>⟨l,rfl,⟨_,aM.of aQ⟩,ub (F:=ms.ϒ V.M) (λi J U=>∃x,a5 (ſ H l (.Ť (ms.ϒ V.M))) U/\J=[O (V.Z p),O (V.M n),O v,x]/\∀e∈C,e.k∈ms.ĵ i->e.k≠n->¬ie b c e.b e.c) ⟨none,a5.Ô _,rfl,λe _ h=>by simp at h⟩ ?_ ?_ ?_⟩⟩)
 ·rintro i J U aA ⟨x,s1,rfl,aF⟩;exact aM.of (s1 _ _ aQ)
 ·rintro i x J U aA cg;left;obtain⟨x0,s1,rfl,aF⟩:=cg;obtain⟨k,aq,rfl⟩:∃k,ms[i]?=O k/\V.M k=x:=by rw[Ϙ]at aA;exact ξ.mp aA
  obtain⟨e,he,dK⟩:=Ζ.mp (ay.mem_iff.mp (Y.s0.ļ ⟨i,aq⟩));subst dK;have s2:a5 H U:=(zj nl).Ϛ s1
  obtain⟨acE,bT,_⟩:=cy.ok e he;right;ext;by_cases z:e.k=n
  ·rw[aD (by simp[z])];exact⟨s1,Ip aq aF λbq _ fW fl=>bJ (fW.Ϛ z) fl⟩
  ·rw[aS z];refine(cp (s2 _ _ g) (T 207) (T 208) (rj ϻ) ⟨ϻ,rfl,e.v,by rw[<- sL cy.nd he];exact eK.k (k:=.ε e.k) (s2 _ _ ah),v,b,c,e.v,e.b,e.c,rfl,hw.ű s2,acE.ű s2,good ty,good bT,λr aC o s3 aO hf=>?_⟩);have s4:=s2.Ϛ s3
   show(if ¬r=V.br then _ else _)
   have uq:∀bq∈C,bq.k=e.k->bq=e:=λbq jr y=>Il cy.nd he jr y
   cases o with
   | none=>
    rw[aD (by simp[show r=V.br from aO])];refine⟨s1.Ϛ s3,Ip aq aF λbq jr y _ hm=>?_⟩;rw[uq bq jr y]at hm;exact bJ ((Io hf).mp hm) (by simp)
   | O w=>
    left;obtain⟨t,w⟩:=w;obtain⟨cG,rfl,h4⟩:=aO;right;rw[aS (by simp)];have PI:=S2 ay aH aq he z ((Io hf).ļ rfl) aF
    refine⟨by show 1<=ϓ;omega,λa aJ a0 na=>⟨a,e.k,aJ,a0,rfl,aQ,λdx cz cS=>⟨rfl,dx,aQ,?_⟩⟩⟩;have lH:a5 H (del (ſ (ſ (ſ aC a (bb.ext (i8 a (D.ar 127) none aJ a0))) dx (bb.m5 (cu "other" (V.M e.k) []))) a (bb.ext (i8 a (D.ar 127) (O dx) aJ a0))) a):=λcc bR eh=>by
     have a3:=s4 _ _ eh
     have AL:cc≠a:=cF a3 na
     have h5:cc≠dx:=λy=>by rw[<- y,aE AL,a3]at cz;cases cz
     rwa[mP AL,aE AL,aE h5,aE AL]
    exact(ao _ lH).2 e.k dx PI (by rw[mP cS,aE cS];exact aQ)
 ·rintro J U cg;left;obtain⟨x,s1,rfl,aF⟩:=cg;have s2:a5 H U:=(zj nl).Ϛ s1
  rw[ϧ]at aF;right;ext;refine(cp (s2 _ _ g) (T 207) (T 208) (rj ϻ) ⟨ϻ,rfl,_,kH.k (k:=.ε n) (s2 _ _ ah) (by rw[Im];omega),?_⟩);rw[S0 C ⟨n,v,b,c⟩];exact(ao U s2).1 (S1 ay aF)
theorem acF:b0 D bx 5 (D.ar 61) q11 (XE D.ar):=by
 refine cj (T 311) aaY ?_;and_intros;obtain⟨p,aZ,i,n,w,h,L,rfl,ak,aA,aR,Ϻ,ao⟩:=h;refine uq ⟨_,(aT (zx (iB (fz.of (gA:=bV DZ) (tn:=["cell"]) (cn:=["carrier","floor"]) (dQ:=[1,0]) rfl rfl ∅ ∅ ∅ ∅ rfl) (c8 rfl)  (gu (ki (A 0 R) (T 188) (T 83) (M5 T) HR))
 (
 λ_ _ _ _ _=>(gU (i:=0) (show(["cell","carrier","floor"]:Y ϕ).Α by decide +Ė) rfl (Or.ε rfl))) (λ_ _ _ _ _=>(n7 (e2 (kS (k:=1) (cx 1) (cN (T 193) (T 139) (j9 T) (cN (T 195) (T 95) (xT T) (cN (T 197) (T 148) (j9 T) (cN (T 199) (T 87) (j9 T) iD)))) (HR.WF (by decide)) (aj (df (cx 2) (T 188) (T 80) (nL T) HR (aj (cx 0) aB)) aB) (wE:=el rfl) (Tm:=eF rfl))))) (λ_ _ _ _ _=>(cx 0))))),?_⟩
 rfl';left;obtain⟨dx,mX,g,ah⟩:=id aR.ob;obtain⟨gb,ay⟩:=id ak;obtain⟨x3,l1,x4⟩:=An (D:=D.ar) i aA;have nm:(cu "full" (V.M n) []).Ϣ ("may_stand":ϕ)=none:=jD n ∅
 have jo:(cu "full" (V.M n) []).Ϣ ("steps":ϕ)=none:=jD n ∅
 have ns:(fY w h mX L).Ϣ ("sign":ϕ)=none:=jc ∅ ∅ ∅ ∅
 have AM:(fY w h mX L).Ϣ ("cells":ϕ)=none:=jc ∅ ∅ ∅ ∅
 have o8:(fY w h mX L).Ϣ ("chargers":ϕ)=none:=jc ∅ ∅ ∅ ∅
 right;ext;refine⟨_,_,g,AM,aZ,w,h,L,rfl,aR,Ϻ,λr H1 de s1 aO=>?_⟩;refine⟨r,rfl,⟨_,aM.of aO⟩,n9 (UF (aM.of aO)) (Ep i L) (λv=>v) (λy aU jK bj=>?_) (λy aU _ jK bj=>by ext;exact bj) (by rw[ϧ];have:=xu Ϻ;omega) (λ϶ eI=>?_)⟩
 ·left;obtain⟨c,iO,rfl⟩:=Ζ.mp aU;have qs:=LU iO
  right;ext;refine⟨p,gb,_,(d5 D.ar i,j6 x3),l1,rfl,s1 _ _ ay,nm,_,_,s1 _ _ g,ns,aZ,w,h,L,c,rfl,aR.ű s1,Ϻ,qs.1,qs.2,_,_,rfl,_,rfl,?_⟩;rwa[x4]
 ·rw[LV];exact ao ϶ _ (s1.Ź eI) (s1.Ϛ (zj eI)) aQ
theorem acG:b0 D bx 5 (D.ar 82) HS (XT D.ar):=by
 refine cj (T 331) aaZ ?_;and_intros;obtain⟨p,S,w,h,L,t,rs,C,k,r,rfl,aR,aO,ao⟩:=h;refine uq ⟨_,(aY (fg (df (A 0 R) (T 218) (T 137) (EW T) HR (aj (A 1 R) aB)))
 (
 aT (zx (cm eO (cq (A 0 R) (by rfl)) (A 1 R) (λ_ _=>rfl))))),?_⟩
 rfl';left;obtain⟨dx,av⟩:=aR.ob;obtain⟨ms,hm,pm⟩:=aR.ct;obtain⟨m,em,ak,g,ah,aI⟩:=ϋ.Ph pm aO;right;ext;exact(dZ av (h3 S t ∅) ⟨p,S,w,h,L,t,rs,C,k,rfl,aR,(Y.Ϧ.mp aO).1,cp av (T 218) (T 221) (oN S t) ⟨S.ct,rfl,mG (v:=V.Z m) (aM.of hm) (gW (by rw[Ϙ,em];rfl)) (ao m ak g ah aI)⟩⟩)
theorem Ng:b0 D bx 5 (D.ar 83) HS (XX D.ar):=by
 refine cj (T 332) aa0 ?_;and_intros;obtain⟨p,S,w,h,L,t,rs,C,k,e,rfl,aR,he,ao⟩:=h;refine uq ⟨_,(aT (zx (cU (mZ T) R (T 48) (aj (df (A 0 R) (T 218) (T 129) (EV T) HR (aj (A 1 R) aB)) (aj (cq (A 0 R) (by rfl)) aB))))),?_⟩;rfl';left;obtain⟨dx,av⟩:=aR.ob;obtain⟨hm,dK,eb,hw,ty,_⟩:=aR.ent he;right;ext;refine(dZ av (h3 S t ∅) ⟨p,S,w,h,L,t,rs,C,k,e,rfl,aR,he,cp av (T 218) (T 220) (oO S t) ⟨e.v,e.b,e.c,t,rfl,hw,ty.1,?_⟩⟩);rwa[rQ eb]
theorem acH:b0 D bx 5 (D.ar 84) HS (XU D.ar):=by
 refine cj (T 333) aa1 ?_;and_intros;obtain⟨p,S,w,h,L,t,rs,C,k,r,rfl,aR,aO,ao⟩:=h;refine uq ⟨_,(aY (fg (df (A 0 R) (T 218) (T 137) (EW T) HR (aj (A 1 R) aB)))
 (
 aT (zx (cm eO (cq (A 0 R) (by rfl)) (A 1 R) (λ_ _=>rfl))))),?_⟩
 rfl';obtain⟨dx,av⟩:=aR.ob;ext;exact(dZ av (h3 S t ∅) ⟨p,S,w,h,L,t,rs,C,k,rfl,aR,(Y.Ϧ.mp aO).1,cp av (T 218) (T 222) (Ay S t) ⟨S.ch,rfl,mG (v:=V.M r.q) (aM.of aR.ch) (gW (by rw[Ϙ,aO];rfl)) ao⟩⟩)
theorem acI:b0 D bx 5 (D.ar 86) HS (XY D.ar):=by
 refine cj (T 335) aa2 ?_;and_intros;obtain⟨p,S,w,h,L,t,rs,C,k,e,rfl,aR,he,ao⟩:=h;refine uq ⟨_,(aT (zx (ju yL (cq (A 0 R) (by rfl)) (cU (tE T) R (T 46) (aj (df (A 0 R) (T 218) (T 129) (EV T) HR (aj (A 1 R) aB)) aB))))),?_⟩;rfl';left;obtain⟨dx,av⟩:=aR.ob;obtain⟨hm,dK,eb,hw,ty,_⟩:=aR.ent he;right;ext;exact(cp av (T 218) (T 220) (oO S t) (dZ av (h3 S t ∅) ⟨p,S,w,h,L,t,rs,C,k,e,rfl,aR,he,e.v,e.b,e.c,rfl,hw,t,rfl,_,rfl,ao⟩))
theorem acJ:b0 D (ht D.jz D.jA) 5 (D.ar 94) q31 (X9 D.ar):=by
 obtain⟨fd,ϴ,ϸ⟩:=(T 340);refine⟨fd,ϸ,?_⟩;refine ϴ.oe Mp.sc.1 ?_ (λË Ϲ Ϗ s H d Q ϵ HR h=>IS λUq uq=>?_);walk_at "l"
 have R:fD _ _ _ _ _:=⟨Mp,HR⟩
 have ND:=R.nd
 walk_at "h"
 obtain⟨p,S,w,h,L,t,rs,C,k,r,a0,E,rfl,aR,aO,aw,s1,s4,he,ao⟩:=h;obtain⟨agA,acK,acL⟩:=(T 39);refine uq ⟨_,(aY (c1 (e9.pt (m8 (gH (e2 (cX q2 R (T 172) (aj (A 2 R) (aj (rr (v:=.ty "list") R (T 177) rfl) aB))))) (m7 (gH (e2 (cU (rZ T) R (T 41) (aj (cX gM R (T 170) (aj (A 2 R) aB)) (aj aV (aj (jv (v:=V.M 4) R acK acL) aB)))))))))
 (aT (sI mx rfl (eQ Me) (T 22) (T 227) (aj v6 aB) (Oo:=Mb) (he:=el rfl) (Tm:=eF rfl)))
 c4)
 (aT (c1 (gH (e2 (cX Cn R (T 173) (aj (iB (fz.of (gA:=bV Ag) (tn:=["stop"]) (cn:=HS) (dQ:=[0,1]) rfl rfl ∅ ∅ ∅ ∅ rfl) (c8 rfl)  (gu (A 2 R))
 (λ_ _ _ _ _=>(gU (i:=0) (show(["stop","self","number"]:Y ϕ).Α by decide +Ė) rfl (Or.ε rfl))) (λ_ _ _ _ _=>kN) (λ_ _ _ _ _=>(hC (Na T) HR (T 45) Zd (aj (zg (K:=D.bP) rfl (cx 1) (by rfl)) (aj (cm (Cw (K:=D.bP) rfl) (zg (K:=D.bP) rfl (cx 1) (by rfl)) (cx 2) (λ_ _=>rfl)) (aj (cx 0) aB)))))) aB))))
 (aT (sI mx rfl (eQ Me) (T 22) (T 227) (aj v6 aB) (Oo:=Mb) (he:=el rfl) (Tm:=eF rfl)))
 c4))),?_⟩
 rfl';left;obtain⟨dx,av⟩:=aR.ob;obtain⟨ms,hm,pm⟩:=aR.ct;obtain⟨m,em,ak,g,ah,aI⟩:=ϋ.Ph pm aO;have fP:=ρ
 right;ext;refine(Jb (b:=true) (.Ť aw) rfl ?_);rw[aD (by decide)];refine⟨_,.ε (aM.of aw),?_⟩;rw[ϧ];refine⟨_,_,_,rfl,⟨_,.M _⟩,true,?_,?_⟩
 ·show V.bl (decide ((1:G)<=E.N)&&decide ((E.N:G)<=4))=_
  rw[ι (show(1:G)<=E.N by omega),ι (show(E.N:G)<=4 by omega)];rfl
 rw[aD (by decide)];refine⟨⟨_,aM.of aw⟩,zd (n:=E.N) (x:=λi=>(E.ϒ V.M).œ i .br) (λj ys aC=>aC=H/\ys=(E.ĵ j).ϒ λc=>V.bl (eG L c&&dO r.i (Ó L c))) ⟨rfl,rfl⟩ (λi ys aC aA ⟨s,_⟩=>?_) (λys aC ⟨s,_⟩=>?_) (λi ys aC aA ⟨s,au⟩=>?_) λys aC ⟨s,au⟩=>?_⟩
 ·subst s;have li:i<(E.ϒ V.M).N:=by rwa[ϧ]
  refine⟨(UF (K:=D.bP) (aM.of aw)).go i li,λy dt oc=>?_⟩;obtain⟨cQ,da⟩:=(UF (K:=D.bP) (aM.of aw)).fR i y dt li oc;exact⟨cQ,Eq.symm (by simpa [aA] using da)⟩
 ·subst s;have:=(UF (K:=D.bP) (aM.of aw)).stop
  rw[ϧ]at ν;exact ν
 ·subst s;subst au;have az:(E.ϒ V.M).œ i .br=.M E[i]:=by simp[œ,aA]
  rw[az];ext;refine(cp av (T 218) (T 219) (xJ S t) (cp av (T 218) (T 221) (oN S t) ⟨S.ct,rfl,mG (v:=V.Z m) (aM.of hm) (gW (by rw[Ϙ,em];rfl)) ⟨m,S.aZ,r.i,r.n,w,h,L,E[i],rfl,ak,⋯,aR.aZ,aR.Ϻ,?_⟩⟩));refine⟨by rw[ϧ,Ģ];omega,rfl,?_⟩;rw[Y.amT,ϡ aA,Ε];rfl
 ·subst s;subst au;rw[İ,ϧ];refine⟨⋯,λ϶ eI=>⟨hA,E.ϒ λc=>eG L c&&dO r.i (Ó L c),aM.of (by rw[ó];exact aQ),?_⟩⟩;split
  ·exact⟨⋯,he _ (zj eI)⟩
  ·rename_i z;refine ao _ (zj eI) λc ak=>?_;rw[δ.not_eq_false,ù]at z;have:=z _ (Ζ.ļ ⟨c,ak,rfl⟩)
   simp only[id,Ŵ]at ν;exact⟨LY ν.1,ν.2⟩
theorem Nh:b0 D bx 5 (D.ar 107) q32 (YE D.ar):=by
 refine cj (T 353) aa3 ?_;and_intros;obtain⟨p,S,w,h,L,t,rs,C,rfl,aR,ao⟩:=h;refine uq ⟨_,(aY (zb (i:=1) (fz.of (gA:=bV vA) (tn:=["_law_number"]) (cn:=q32) (dQ:=[0]) rfl rfl ∅ ∅ ∅ ∅ rfl) (c8 rfl) ND rfl Zh (gu (ki (A 0 R) (T 218) (T 125) (AH T) HR))
 (λ_ _ _ _ _=>(gU (i:=0) (show(["_law_number","_law_fleet"]:Y ϕ).Α by decide +Ė) rfl (Or.ε rfl))) (λ_ _ _ _ _=>kN) (λ_ _ _ _ _=>(df (cx 1) (T 218) (T 129) (EV T) HR (aj (cx 0) aB))) (hsw:=by rfl))
 (aY (ul Ų.Ï (c8 rfl) (nZ (eQ Mf) (T 171).1 (aj (cX gM R (T 170) (aj (A 1 R) aB)) aB) (d3 rfl)) (et 2 R)
 (aT (ul Ų.Ï (c8 rfl) (nZ (eQ Mf) (T 171).1 (aj (A 2 R) aB) (d3 rfl)) (et 3 R)
 (aT (c1 (gH (e2 (cU (ab4 T) R (T 76) (aj (cm eO (A 1 R) (A 2 R) (λ_ _=>rfl)) (aj (cm eO (A 1 R) (A 3 R) (λ_ _=>rfl)) (aj (ki (A 0 R) (T 218) (T 123) (abH T) HR) aB))))))
 (aT (zx lu))
 c4)))))
 (
 aT (zx lu)))),?_⟩
 rfl';obtain⟨dx,av⟩:=aR.ob;have hk:=aR.hk
 have fP:=ρ
 ext;refine(dZ av (h3 S t ∅) ⟨p,S,w,h,L,t,rs,C,rfl,aR,λa na=>?_⟩);have s1:=zj (o:=bb.Ť ((Ć rs.N).ϒ λk=>V.M ((k:B):G))) na
 have e8:=aR.kt (hI s1)
 refine⟨a,rfl,⟨_,aM.of aQ⟩,zh (K:=D.bP) (a:=a) (F:=(Ć rs.N).ϒ λk=>V.M ((k:B):G)) (λj ys U=>U=ſ H a (bb.Ť ((Ć rs.N).ϒ λk=>V.M ((k:B):G)))/\ys=(C.ĵ j).ϒ (·.v)) ⟨rfl,rfl⟩ ?_ ?_ ?_⟩
 ·rintro j ys U bg ⟨rfl,rfl⟩;exact aM.of aQ
 ·rintro j x ys U ai cg;left;obtain⟨rfl,rfl⟩:=cg;have bg:j<rs.N:=by
   have:=(Y.Ϧ.mp ai).1
   rw[ϧ,Ī]at ν;exact ν
  obtain rfl:V.M (j:G)=x:=by simpa [bg] using ai
  have he:=ϡ (show j<C.N by rwa[aR.cy.1])
  obtain⟨ES,j2⟩:=e8.ob;right;ext;refine(dZ j2 (h3 S t ∅) ⟨p,S,w,h,L,t,rs,C,j,_,rfl,e8,he,?_⟩);refine⟨by rw[ϧ,Ģ];omega,rfl,?_⟩;rw[Y.amT,he,Ε];rfl
 ·rintro ys U ⟨rfl,rfl⟩;have dK:C.ĵ ((Ć rs.N).ϒ λk=>V.M ((k:B):G)).N=C:=by rw[ϧ,Ī,<- aR.cy.1,İ]
  rw[dK];refine⟨by rw[ϧ,aR.cy.1];omega,λb nb=>?_⟩;have s2:=s1.Ϛ (zj (o:=bb.Ť (C.ϒ (·.v))) nb)
  refine⟨_,.ε (aM.of aQ),?_⟩;rw[ϧ];have le:=aR.cy.1
  refine⟨⋯,⋯,ro (λj J U=>(∃fX dg,J=[O (.Z p),O (.Z b),fX,dg])/\a5 H U/\U b=O (.Ť (C.ϒ (·.v)))) ⟨⟨_,_,rfl⟩,s2,aQ⟩ ?_ ?_⟩
  ·rintro j J U ϰ bg cg cA;left;obtain⟨⟨fX,dg,rfl⟩,s,af⟩:=cg;right;ext;refine⟨⋯,⋯,ro (λi J U=>(∃dg,J=[O (.Z p),O (.Z b),O (.M (0+(j:G))),dg])/\a5 H U/\U b=O (.Ť (C.ϒ (·.v)))) ⟨⟨_,rfl⟩,s,af⟩ ?_ ?_⟩
   ·rintro i J aC Ni aA cg x5;left;obtain⟨⟨dg,rfl⟩,s',eh⟩:=cg;have fw:=aR.kt (hI s')
    obtain⟨MJ,kF⟩:=fw.ob;have kk:j<C.N:=⋯
    have li:i<C.N:=⋯
    have kU:=ϡ kk
    have ei:=ϡ li
    obtain⟨dH,k1,b1,fQ,t1,_⟩:=fw.ent kU;obtain⟨di,k2,b2,l7,fT,_⟩:=fw.ent ei;have nm:¬ie C[j].b C[j].c C[i].b C[i].c:=aR.ap _ dH _ di ⋯
    right;ext;refine⟨_,aM.of eh,C[j].v,by rw[G.aj9];exact gW (by rw[Ϙ,kU];rfl),_,aM.of eh,C[i].v,by rw[G.aj9];exact gW (by rw[Ϙ,ei];rfl),dZ kF (h3 S t ∅) ⟨p,S,w,h,L,t,rs,C,rfl,fw,_,_,_,_,_,_,t,rfl,fQ,t1,l7,fT,b1,b2,aR.t0.2,nm,λbw s3=>⟨true,rfl,?_⟩⟩⟩;rw[aD (by decide)];exact x5 _ _ ⟨⟨_,rfl⟩,s'.Ϛ s3,s3 _ _ eh⟩
   ·rintro J aC ⟨⟨dg,rfl⟩,s',eh⟩;exact cA _ _ ⟨⟨_,_,rfl⟩,s',eh⟩
  ·rintro J U ⟨⟨fX,dg,rfl⟩,s,af⟩;exact ao U s
theorem acM:b0 D bx 6 (D.ar 60) q11 (YP D.ar):=by
 refine cj (T 310) aa4 ?_;and_intros;obtain⟨p,aZ,i,n,w,h,L,rfl,ak,aA,aR,Ϻ,ao⟩:=h;refine uq ⟨_,(aY (cv 2 R uA)
 (aY (ul Ų.Ï (c8 rfl) (gu (ki (A 0 R) (T 188) (T 83) (M5 T) HR)) (et 3 R)
 (aT (qY (eR HU) (A 2 R) (A 3 R) (jg aB) rfl)))
 (aY (ul Ų.Ï (c8 rfl) (gu (cU (acF T) R (T 56) (aj (A 0 R) (aj (A 1 R) aB)))) (et 3 R)
 (aT (ul Ų.Ï (c8 rfl) (gu (kS (k:=5) (A 1 R) (cN (T 193) (T 142) (l2 T) (cN (T 195) (T 145) (l2 T) (cN (T 197) (T 149) (l2 T) (cN (T 199) (T 90) (l2 T) iD)))) (HR.WF (by decide)) (aj (A 0 R) (aj (A 3 R) aB)) (wE:=el rfl) (Tm:=eF rfl))) (l9 (n:=2) (c8 rfl) (gJ (et 4 R) (gJ (et 5 R) l8)))
 (aT (fg (jR ϟ.ϴ.ō ϟ.ϴ.ř ϟ.ϴ.Ň lF (jl (eR HU) (A 2 R) (A 4 R) (λ_ _=>rfl)) (aj (fs (aj (A 3 R) (aj (A 5 R) aB))) aB)))))))
 (
 aT (zx (A 2 R)))))),?_⟩
 rfl';left;obtain⟨dx,mX,g,ah⟩:=id aR.ob;obtain⟨gb,ay⟩:=id ak;have jo:(cu "full" (V.M n) []).Ϣ ("steps":ϕ)=none:=jD n ∅
 have AM:(fY w h mX L).Ϣ ("cells":ϕ)=none:=jc ∅ ∅ ∅ ∅
 have lc:=xu Ϻ
 have fP:=ρ
 right;refine zu (λJ U=>∃ϻ,H ϻ=none/\a5 H U/\U ϻ=O (.bL [])/\J=[O (V.Z aZ),O (V.Z p),O (V.Z ϻ),none,none,none]) (λaP aq=>?_) ?_
 ·ext;exactλϻ nd=>aq _ _ ⟨ϻ,nd,zj nd,aQ,rfl⟩
 rintro cC bh J H1 ⟨ϻ,nd,s1,hd,rfl⟩;nofun;refine zu (λJ U=>∃Ϝ dg,a5 H U/\U ϻ=O (.bL Ϝ)/\(∀c v,aW Ϝ (.ε c)=O v->∃a,v=.Z a/\H a=none/\U a=O (.Ť []))/\(∀c,eG L c=true->∃v,aW Ϝ (.ε c)=O v)/\J=[O (V.Z aZ),O (V.Z p),O (V.Z ϻ),dg,none,none]) (λaP aq=>?_) ?_
 ·ext;refine⟨_,_,s1 _ _ g,AM,aZ,w,h,L,rfl,aR.ű s1,Ϻ,λr aC de s2 aO=>⟨r,rfl,⟨_,aM.of aO⟩,pV (K:=D.bP) (a:=r) (F:=(Õ L).ϒ V.M) (λj J U=>U r=O (.Ť ((Õ L).ϒ V.M))/\∃Ϝ dg,a5 H U/\U ϻ=O (.bL Ϝ)/\Ϝ.N<=j/\(∀c v,aW Ϝ (.ε c)=O v->∃a,v=.Z a/\H a=none/\U a=O (.Ť []))/\(∀c∈(Õ L).ĵ j,∃v,aW Ϝ (.ε c)=O v)/\J=[O (V.Z aZ),O (V.Z p),O (V.Z ϻ),dg,none,none]) ⟨aO,[],none,s1.Ϛ s2,s2 _ _ hd,ł _,λc v aG=>(nomatch aG),λc ak=>(nomatch ak),rfl⟩ (λj J U _ z=>aM.of z.1) ?_ ?_⟩⟩
  ·rintro j y J U ϰ aU cg cA;left;obtain⟨ku,Ϝ,dg,s3,lO,tI,al,ev,rfl⟩:=cg;have kk:=(Y.Ϧ.mp aU).1
   rw[ϧ]at kk;rw[Ϙ]at aU;obtain⟨c,x6,rfl⟩:=ξ.mp aU;right;ext;refine⟨ł _,λa na=>?_⟩;have ij:ϻ≠a:=cF lO na
   refine⟨_,kH.k (k:=.ε c) (by rwa[aE ij]) ⋯,cA _ _ ⟨?_,_,_,λb o e=>?_,aQ,?_,λx v aG=>?_,λx ai=>?_,rfl⟩⟩
   ·rwa[aE (bM ku lO (λz=>nomatch z)),aE (cF ku na)]
   ·rw[aE (cF e nd),aE (cF (s3 _ _ e) na)];exact s3 _ _ e
   ·have:=yZ Ϝ (.ε c) (.Z a)
    omega
   ·rw[jU]at aG;split at aG
    ·cases aG;exact⟨a,rfl,s3.Ź na,by rw[aE ij.symm];exact aQ⟩
    ·left;obtain⟨b,cQ,da,fj⟩:=al x v aG;right;exact⟨b,cQ,da,by rwa[aE (bM fj lO (λz=>nomatch z)),aE (cF fj na)]⟩
   ·rw[jU];rw[ė,x6]at ai;split
    ·exact⟨_,rfl⟩
    ·rename_i z;rcases κ.mp ai with y|y
     ·exact ev x y
     ·exact bJ (ż IZ.ε (ϖ.mp y)) z
  ·rintro J U ⟨ku,Ϝ,dg,s3,lO,tI,al,ev,rfl⟩;rw[ϧ,İ]at ev;exact aq _ _ ⟨Ϝ,dg,s3,lO,al,λc ak=>ev c (ut.ļ ak),rfl⟩
 rintro cC bh J aC ⟨Ϝ,dg,s2,hd2,al,ev,rfl⟩;nofun;have agB:=XG Ϻ i
 refine zu (λJ U=>∃(r:Ϩ)(dg d8 ew:ϣ V),a5 H U/\U ϻ=O (.bL Ϝ)/\oR L H U Ϝ r r 400/\J=[O (V.Z aZ),O (V.Z p),O (V.Z ϻ),dg,d8,ew]) (λaP aq=>?_) ?_
 ·ext;refine⟨p,aZ,i,n,w,h,L,rfl,ak.ű s2,aA,aR.ű s2,Ϻ,λr bw de s3 aO=>⟨r,rfl,⟨_,aM.of aO⟩,pV (K:=D.bP) (a:=r) (F:=(xI i L).ϒ V.M) (λj J U=>U r=O (.Ť ((xI i L).ϒ V.M))/\∃(dg d8 ew:ϣ V),a5 H U/\U ϻ=O (.bL Ϝ)/\oR L H U Ϝ r r (4*j)/\J=[O (V.Z aZ),O (V.Z p),O (V.Z ϻ),dg,d8,ew]) ⟨aO,dg,none,none,s2.Ϛ s3,s3 _ _ hd2,λc v aG=>?_,rfl⟩ (λj J U _ z=>aM.of z.1) ?_ ?_⟩⟩
  ·left;obtain⟨a,cQ,da,fj⟩:=al c v aG;have AN:=(lg de fj).symm
   right;exact⟨a,cQ,da,AN,AN,[],s3 _ _ fj,ł _,λt bk=>(nomatch bk)⟩
  ·rintro j y J U ϰ aU cg cA;left;obtain⟨m1,dg,d8,ew,s4,EX,EY,rfl⟩:=cg;have kk:=(Y.Ϧ.mp aU).1
   rw[ϧ]at kk;rw[Ϙ]at aU;obtain⟨c,x6,rfl⟩:=ξ.mp aU;have iO:=(ĥ.mp (ύ x6)).1
   have a0:=XH (i:=i) (w:=w) (L:=L) (c:=c)
   right;ext;refine⟨p,gb,_,(d5 D.ar i,Al D.ar),tj i aA,rfl,s4 _ _ ay,jo,p,aZ,i,n,w,h,L,c,rfl,ak.ű s4,aA,aR.ű s4,Ϻ,LU iO,λbW dX nN s5 ⟨ts,oU,pr⟩=>⟨bW,rfl,⟨_,aM.of oU⟩,?_⟩⟩;have x7:=ϋ.N pr
   refine pV (K:=D.bP) (a:=bW) (F:=ts.ϒ V.Z) (λrB J U=>U bW=O (.Ť (ts.ϒ V.Z))/\∃(d8 ew:ϣ V),a5 H U/\U r=O (.Ť ((xI i L).ϒ V.M))/\U ϻ=O (.bL Ϝ)/\ϋ (xv U) ts (jb i w L c)/\oR L H U Ϝ r bW (4*j+rB)/\J=[O (V.Z aZ),O (V.Z p),O (V.Z ϻ),O (V.M c),d8,ew]) ⟨oU,d8,ew,s4.Ϛ s5,s5 _ _ m1,s5 _ _ EX,pr,λc v aG=>?_,rfl⟩ (λrB J g9 _ z=>aM.of z.1) ?_ ?_
   ·left;obtain⟨a,cQ,da,fj,_,gD⟩:=EY c v aG;obtain⟨us,ik,_⟩:=id gD;right;exact⟨a,cQ,da,fj,(lg nN ik).symm,gD.ű s5 (B.ϑ _)⟩
   ·rintro rB y J g9 Ni EZ cg x5;left;obtain⟨Nj,d8,ew,f7,qt,x8,zS,AO,rfl⟩:=cg;have acN:=(Y.Ϧ.mp EZ).1
    rw[ϧ]at acN;rw[Ϙ]at EZ;obtain⟨t,bk,rfl⟩:=ξ.mp EZ;obtain⟨⟨o,tK⟩,a9,x9⟩:=ϋ.lM zS bk;have x9:g9 t=O (.Ţ [.M o,.M tK]):=x9
    obtain⟨v,aG⟩:=ev o (ut.mp (XI (ύ a9)));obtain⟨jG,rfl,C9,AN,acO,us,qW,rV,oS⟩:=AO o v aG;right;ext;refine⟨_,bN.of x9,rfl,_,_,rfl,_,_,rfl,rfl,V.Z jG,by rw[<- aG];exact eK.k (k:=.ε o) x8,.ε ⟨rfl,_,aM.of qW⟩,⋯,λt' AP=>?_⟩;have S:=zj (o:=bb.Ţ [V.M c,V.M tK]) AP
    have dU:∀{x:Ϩ}{u:bb},g9 x=O u->x≠jG->ſ (ſ g9 t' (bb.Ţ [V.M c,V.M tK])) jG (bb.Ť (us.ϒ V.Z++[V.Z t'])) x=O u:=λe z=>by
     rw[aE z];exact S _ _ e
    exact⟨jG,rfl,_,S _ _ qW,by rw[ϧ];omega,x5 _ _ ⟨dU Nj acO.symm,_,_,λb u e=>dU (f7 _ _ e) (lg C9 e).symm,dU qt AN.symm,dU x8 (bM x8 qW (λz=>nomatch z)),ϋ.gq zS λ_ _ z=>dU z (bM z qW (λz=>nomatch z)),AO.app AP (ut.mp iO) qW rV oS,rfl⟩⟩
   ·rintro J g9 cg;left;obtain⟨Nj,d8,ew,f7,qt,x8,zS,AO,rfl⟩:=cg;right;refine cA _ _ ⟨qt,_,_,_,f7,x8,λc v aG=>?_,rfl⟩;left;obtain⟨a,cQ,da,fj,_,gD⟩:=AO c v aG;right;exact⟨a,cQ,da,fj,fj,gD.ű (a5.Ô _) (by rw[ϧ];omega)⟩
  ·rintro J U ⟨m1,dg,d8,ew,s4,EX,EY,rfl⟩;exact aq _ _ ⟨r,dg,d8,ew,s4,EX,EY.ű (a5.Ô _) (by rw[ϧ];omega),rfl⟩
 rintro cC bh J bw ⟨r,dg,d8,ew,s3,lO,acP,rfl⟩;nofun;ext;refine ao ϻ Ϝ bw nd s3 ⟨lO,λc ak=>?_⟩;left;obtain⟨v,aG⟩:=ev c ak;obtain⟨a,rfl,_,_,_,z⟩:=acP c v aG;right;exact⟨a,aG,z⟩
theorem acQ:b0 D bx 6 (D.ar 70) ["self","node"] (W6 D.ar D.bP):=by
 refine cj (T 320) aa5 ?_;and_intros;obtain⟨p,b,S,i,n,w,h,L,E,m,c,rfl,o,af,hm,ak,ao⟩:=h;refine uq ⟨_,(aY (c1 (sa (sy (eR HU) (A 1 R) (cq (A 0 R) (by rfl))) (by with_unfolding_all rfl))
 (aY (cv 2 R (kS (k:=5) (cq (A 0 R) (by rfl)) (cN (T 193) (T 142) (l2 T) (cN (T 195) (T 145) (l2 T) (cN (T 197) (T 149) (l2 T) (cN (T 199) (T 90) (l2 T) iD)))) (HR.WF (by decide)) (aj (cq (A 0 R) (by rfl)) (aj (cm d2 (A 1 R) aV (λ_ _=>rfl)) aB)) (wE:=el rfl) (Tm:=eF rfl)))
 (aT (qY (eR HU) (cq (A 0 R) (by rfl)) (A 1 R) (iB (fz.of (gA:=bV D1) (tn:=["other","cost"]) (cn:=["node","self"]) (dQ:=[1,0]) rfl rfl ∅ ∅ ∅ ∅ rfl) (c8 rfl)  (gu (A 2 R))
 (λ_ _ _ _ _=>(HY rfl (c8 rfl) (show(["other","cost","node","self"]:Y ϕ).Α by decide +Ė) (Or.ε rfl) (Or.ε rfl) rfl rfl)) (λ_ _ _ _ _=>kN) (λ_ _ _ _ _=>(fs (aj (df (cx 3) (T 209) (T 122) (MQ T) HR (aj (cx 2) (aj (cx 0) aB))) (aj (cx 1) aB))))) rfl)))
 c4)
 (
 aT (zx (jl (eR HU) (cq (A 0 R) (by rfl)) (A 1 R) (λ_ _=>rfl))))),?_⟩
 rfl';left;obtain⟨dx,g⟩:=id o.sp;obtain⟨ey,ah⟩:=id o.tl;obtain⟨Ϝ,k1,k2,k3,pM⟩:=id o.hY;have l0:=lP o.Ϻ
 have d3:=o.d3
 have tI:=C0 k2 k3 o.d3 l0.2
 have xV:∀{U:ag}{bS:Y (Y Ř×V)},U S.bI=O (.bQ bS)->U b=O (.Ţ ((bD m c).ϒ bH))->eK U S.bI (.Z b) (aW bS (bD m c)):=λau az=>eK.t au az
 right;refine zu (λJ U=>∃(x:ϣ V)(bS:Y (Y Ř×V))(l:Ϩ),cM S.bI H U/\fF U S.bI i w L E/\(∀z,qb H S.bI z->H z≠none->qb U S.bI z/\l≠z)/\mU U l (hF i w L E m c)/\U S.bI=O (.bQ bS)/\aW bS (bD m c)=O (.Z l)/\J=[O (V.Z p),O (V.Z b),x]) (λaP aq=>?_) ?_
 ·ext;refine(cp g (T 209) (T 215) (Ei S) ⟨_,rfl,_,xV k1 af,?_⟩);cases aG:aW Ϝ (bD m c) with
  | O v=>
   rw[aD (by simp)];obtain⟨l,rfl,q⟩:=pM m c v aG;exact aq _ _ ⟨none,Ϝ,l,jt (a5.Ô _),o.hY,λz hz _=>⟨hz,hz Ϝ _ l k1 aG⟩,q,k1,aG,rfl⟩
  | none=>
   rw[aS (by rfl)];have jo:(cu "full" (V.M n) []).Ϣ ("steps":ϕ)=none:=jD n ∅
   refine(cp g (T 209) (T 211) (Lw S) ⟨S.ct,ey,_,(d5 D.ar i,Al D.ar),tj i o.e6,rfl,ah,jo,cp g (T 209) (T 210) (Ej S) (dM (bN.of af) rfl ⟨S.ct,S.aZ,i,n,w,h,L,c,rfl,o.tl,o.e6,o.rM,o.Ϻ,ak,λmq H1 agC s1 pl=>?_⟩)⟩);left;obtain⟨ts,Nk,pr⟩:=pl;have x7:=ϋ.N pr
   have Ť:=Lu (f:=KF i w L c) (os:=fk w L c)
   have agD:=xx (w:=w) (L:=L) (c:=c)
   have agE:ts.N<=4:=by unfold jb at x7;omega
   have xC:∀j,j<ts.N->∃t e,ts[j]?=O t/\(jb i w L c)[j]?=O e/\xv H1 t e:=λj bg=>by
    left;obtain⟨e,au,az⟩:=ϋ.lM pr (ϡ bg);right;exact⟨_,e,ϡ bg,au,az⟩
   right;refine⟨mq,rfl,⟨_,aM.of Nk⟩,TC (K:=D.bP) (a:=mq) (ts:=ts) (u:=λj=>.M ((jb i w L c).œ j (0,0)).1) (v:=λj=>.M ((jb i w L c).œ j (0,0)).2) (λj ys U=>a5 H1 U/\∃us:Y Ϩ,ys=us.ϒ V.Z/\ϋ (j8 U) us ((hF i w L E m c).ĵ j)) ⟨a5.Ô _,[],rfl,.ń⟩ (λj ys U _ ⟨s2,_⟩=>aM.of (s2 _ _ Nk)) (λj ys U t bk ⟨s2,_⟩=>?_) (λj ys U bg ⟨s2,us,e,pu⟩=>?_) (λys U ⟨s2,us,e,pu⟩=>?_)⟩
   ·left;obtain⟨t',bq,au,az,bY⟩:=xC j (Y.Ϧ.mp bk).1;rw[bk]at au;cases au;right;refine bN.of ?_;rw[Ş,az];exact s2 _ _ bY
   ·left;obtain⟨t',bq,au,az,bY⟩:=xC j bg;right;rw[Ş,az];subst e;have ff:=(o.ű s1).ű s2
    obtain⟨hj,aI⟩:=id ff.sp;have rV:us.N<=4:=by
     have:=ϋ.N pu
     rw[Ģ]at ν;omega
    ext;refine(dZ aI (rL S ∅) ⟨p,b,S,m,c,bq.1,E,rfl,ff.sp,s2 _ _ (s1 _ _ af),ff.Ar,hm,d3,λu hG=>⟨⋯,λv hH=>⟨by rw[ϧ];omega,s2.Ϛ ((zj hG).Ϛ (zj hH)),us++[v],by simp,?_⟩⟩⟩);have dK:(hF i w L E m c).ĵ (j+1)=(hF i w L E m c).ĵ j++[(bD (Hq E m bq.1) bq.1,bq.2)]:=by
     rw[ė];unfold hF;rw[Ϙ,az];rfl
    rw[dK];exact ϋ.O2 (ϋ.gq pu λ_ _ z=>z.dh (mA ((zj hG).Ϛ (zj hH)))) ⟨u,aQ,(zj hH) _ _ aQ⟩
   ·subst e;have ln:(hF i w L E m c).N=ts.N:=by unfold hF;rw[ϧ,x7]
    rw[<- ln,İ]at pu;have rV:=ϋ.N pu
    refine⟨by rw[ϧ];omega,λ϶ eI=>?_⟩;have nO:=s1.Ϛ s2
    have tL:=nO.Ϛ (zj (o:=bb.Ť (us.ϒ V.Z)) eI)
    obtain⟨hj,aI⟩:=(o.ű tL).sp;have E0:=tL _ _ k1
    have acR:϶≠S.bI:=λz=>by rw[z,nO _ _ k1]at eI;cases eI
    have Nl:fC (ſ U ϶ (bb.Ť (us.ϒ V.Z))) (ſ (ſ U ϶ (bb.Ť (us.ϒ V.Z))) S.bI (.bQ (ß Ϝ (bD m c) (.Z ϶)))):=λcc F z=>by rwa[aE (bM z E0 nofun)]
    have Nm:mU (ſ (ſ U ϶ (bb.Ť (us.ϒ V.Z))) S.bI (.bQ (ß Ϝ (bD m c) (.Z ϶)))) ϶ (hF i w L E m c):=⟨us,by rw[aE acR,aQ],ϋ.gq pu λ_ _ z=>(z.dh (mA (zj eI))).dh Nl⟩
    refine(cp aI (T 209) (T 215) (Ei S) ⟨_,rfl,_,kH.t (k:=bD m c) E0 (tL _ _ af) ⋯,aq _ _ ⟨_,ß Ϝ (bD m c) (.Z ϶),϶,mB (jt tL),⟨_,aQ,sO k2,To k3 hm ak.1 ak.2,λba aX v lB=>?_⟩,λz hz aF=>⟨λbS k l au az=>?_,λy=>aF (y ▸ nO.Ź eI)⟩,Nm,aQ,by rw[jU,aS rfl],rfl⟩⟩)
    ·rw[jU]at lB;split at lB
     ·left;rename_i e;obtain⟨rfl,rfl⟩:=lU e;cases lB;right;exact⟨϶,rfl,Nm⟩
     ·left;obtain⟨l,rfl,q⟩:=pM ba aX v lB;right;exact⟨l,rfl,(q.ĭ (mA tL) (λ_ y=>tL _ _ y)).ĭ Nl λ_ y=>by rwa[aE (bM y E0 nofun)]⟩
    ·rw[aQ]at au;cases au;rw[jU]at az;split at az
     ·cases az;exactλy=>aF (y ▸ nO.Ź eI)
     ·exact hz Ϝ k l k1 az
 rintro cC bh J H1 ⟨x,bS,l,sB,bI,hY,nl,au,az,rfl⟩;nofun;obtain⟨hj,aI⟩:=(o.b sB bI).sp;ext;refine(cp aI (T 209) (T 215) (Ei S) ⟨_,rfl,.Z l,?_,ao l H1 sB bI hY nl⟩);rw[<- az];exact xV au (sB _ _ af (bM af k1 nofun))
theorem acS:b0 D (ht D.jz D.jA) 6 (D.ar 80) q22 (X8 D.ar):=by
 obtain⟨fd,ϴ,ϸ⟩:=(T 329);refine⟨fd,ϸ,?_⟩;refine ϴ.oe Mq.sc.1 ?_ (λË Ϲ Ϗ s H d Q ϵ HR h=>IS λUq uq=>?_);walk_at "l"
 have R:fD _ _ _ _ _:=⟨Mq,HR⟩
 have ND:=R.nd
 walk_at "h"
 obtain⟨p,S,w,h,L,t,rs,C,i,x,n,c,q,rfl,aR,eM,e6,ai,dS,cz,dJ,a3,he,ao⟩:=h;obtain⟨acT,E1,E2⟩:=Nf T;obtain⟨agF,acU,acV⟩:=(T 38);refine uq ⟨_,(aY (cv 5 R (cU (ace T) R (T 44) (aj (A 1 R) (aj (A 2 R) aB))))
 (aY (c1 (gH (e2 (cU (Na T) R (T 45) (aj (cq (A 0 R) (by rfl)) (aj (A 5 R) (aj (A 3 R) aB))))))
 (aT (sI mx rfl (eQ Zn) (T 20) (T 225) (aj v6 aB) (Oo:=Y1) (he:=el rfl) (Tm:=eF rfl)))
 c4)
 (aY (c1 (gH (e2 (cU (rZ T) R (T 41) (aj (A 4 R) (aj aV (aj (A 2 R) aB))))))
 ly
 c4)
 (aY (cv 6 R (cX gM R (T 170) (aj (cq (A 0 R) (by rfl)) aB)))
 (aY (c1 (e9.pt (m8 (cR fx (A 6 R) (jv (v:=V.M 8) R acU acV)) (m7 (gH (e2 (cU (ML T) R (T 62) (aj (df (cq (A 0 R) (by rfl)) (T 207) (T 106) (MN T) HR (aj (A 6 R) (aj (A 3 R) aB))) (aj (cq (A 0 R) (by rfl)) aB))))))))
 (aT (sI mx rfl (eQ Zo) (T 21) (T 226) (aj v6 aB) (Oo:=Y9) (he:=el rfl) (Tm:=eF rfl)))
 c4)
 (aY (fg (q4 (cq (A 0 R) (by rfl)) (T 207) (T 101) E2 (HR.WF (by decide)) E1 .ń ⟨mx.pass⟩ (aj (A 6 R) (aj (fs (aj (cq (A 0 R) (by rfl)) (aj (fs (aj (A 3 R) aB)) aB))) aB)) (wE:=el rfl) (Tm:=eF rfl)))
 (aY (fg (jR ϟ.ϴ.ō ϟ.ϴ.ř ϟ.ϴ.Ň lF (cq (A 0 R) (by rfl)) (aj (A 5 R) aB)))
 (aY (fg (jR ϟ.ϴ.ō ϟ.ϴ.ř ϟ.ϴ.Ň lF (cq (A 0 R) (by rfl)) (aj (A 4 R) aB)))
 (
 aT (zx (A 6 R))))))))))),?_⟩
 rfl';obtain⟨dx,av⟩:=aR.ob;refine zu (λJ U=>∃m,a5 H U/\H m=none/\hE D.ar U m i n/\J=[O (.Z p),O (.str x),O (.M n),O (.M c),O (.M q),O (.Z m),none]) (λaP aq=>?_) ?_
 ·ext;exact⟨i,x,n,rfl,e6,ai,dS,⋯,λm U s nm eH=>aq _ _ ⟨m,s,nm,eH,rfl⟩⟩
 rintro cC bh J H1 ⟨m,s1,nm,eH,rfl⟩;nofun;have iP:=aR.kt (hI s1)
 have nP:=s1 _ _ av
 refine zu (λJ U=>U=H1/\ee L c/\dO i (Ó L c)=true/\J=[O (.Z p),O (.str x),O (.M n),O (.M c),O (.M q),O (.Z m),none]) (λaP aq=>?_) ?_
 ·ext;refine(cp nP (T 218) (T 219) (xJ S t) ⟨m,S.aZ,i,n,w,h,L,c,rfl,eH,⋯,iP.aZ,aR.Ϻ,_,rfl,?_⟩);cases C:eG L c&&dO i (Ó L c) with
  | false=>
   rw[aS rfl];exact⟨⋯,(he H1 s1).1⟩
  | true=>
   rw[aD (by decide)];rw[Ŵ]at C;exact aq _ _ ⟨rfl,LY C.1,C.2,rfl⟩
 rintro cC bh J aC ⟨rfl,g4,E3,rfl⟩;nofun;refine zu (λJ U=>U=aC/\J=[O (.Z p),O (.str x),O (.M n),O (.M c),O (.M q),O (.Z m),none]) (λaP aq=>?_) ?_
 ·ext;refine⟨_,0,n,rfl,⟨_,.M _⟩,_,rfl,?_⟩;rw[aD (show ¬(k8 (.M q) 0 n)=false by show ¬(decide _&&decide _)=false;rw[ι dJ,ι a3];decide)];exact aq _ _ ⟨rfl,rfl⟩
 rintro cC bh J bw ⟨rfl,rfl⟩;nofun;left;obtain⟨ms,dH,di⟩:=iP.ct;have lZ:(ms.ϒ V.Z).N=rs.N:=by rw[ϧ,di.N]
 right;refine zu (λJ U=>U=bw/\J=[O (.Z p),O (.str x),O (.M n),O (.M c),O (.M q),O (.Z m),O (.M (rs.N:G))]) (λaP aq=>?_) ?_
 ·ext;refine(cp nP (T 218) (T 221) (oN S t) ⟨_,rfl,_,.ε (aM.of dH),?_⟩);rw[lZ];exact aq _ _ ⟨rfl,rfl⟩
 rintro cC bh J cK ⟨rfl,rfl⟩;nofun;left;have af:=iP.bf
 obtain⟨⟨ey,b1⟩,b2⟩:=id af.1;right;refine zu (λJ U=>a5 cK U/\J=[O (.Z p),O (.str x),O (.M n),O (.M c),O (.M q),O (.Z m),O (.M (rs.N:G))]) (λaP aq=>?_) ?_
 ·ext;rw[aD ⋯];refine(cp nP (T 218) (T 223) (tu S t) ⟨S.bf,rfl,dZ b1 (js _ ∅) ⟨S.bf,S.ϻ,C,_,c,rfl,af,λdX v s5 fr=>?_⟩⟩);refine(cp (s5 _ _ nP) (T 218) (T 220) (oO S t) ⟨v,t,rfl,?_,λb eh=>⟨_,rfl,?_⟩⟩)
  ·rcases fr with⟨z,_⟩|⟨ba,z,_⟩
   ·exact .ε z
   ·exact .Œ ⟨ba,z⟩
  ·cases b with
   | true=>
    rw[aD (by decide)];exact aq _ _ ⟨s5,rfl⟩
   | false=>
    rw[aS rfl];exact⟨⋯,(he dX (s1.Ϛ s5)).2.1⟩
 rintro cC bh J dX ⟨s5,rfl⟩;nofun;have zm:=s5 _ _ nP
 have AQ:hi (D.ar 117) dX S.bf S.ϻ C:=⟨af.1.ű s5,af.2.dh (mA s5)⟩
 have hk:=aR.hk
 have t0:=aR.t0
 have fP:=ρ
 refine zu (λJ U=>(∃e,e.k=(rs.N:G)/\e.b=t/\e.c=[c]/\hi (D.ar 117) U S.bf S.ϻ (C++[e])/\i5 (C++[e]))/\(∀b o,cK b=O o->b≠S.ϻ->U b=O o)/\J=[O (.Z p),O (.str x),O (.M n),O (.M c),O (.M q),O (.Z m),O (.M (rs.N:G))]) (λaP aq=>?_) ?_
 ·ext;refine(cp zm (T 218) (T 223) (tu S t) ⟨S.bf,rfl,dZ (s5 _ _ b1) (js _ ∅) (cp zm (T 218) (T 220) (oO S t) ⟨⋯,λt1 tM=>⟨⋯,λfT oV=>?_⟩⟩)⟩);have f7:=(zj (o:=bb.Ţ [V.M c]) tM).Ϛ (zj (o:=bb.Ţ [V.M t,V.Z t1]) oV)
  have qn:fB (ſ (ſ dX t1 (bb.Ţ [V.M c])) fT (bb.Ţ [V.M t,V.Z t1])) (.Z fT) t [c]:=⟨fT,t1,rfl,aQ,(zj oV) _ _ aQ⟩
  have tn:pS t [c]:=⟨by simp,by simp,⋯,⋯⟩
  refine⟨S.bf,S.ϻ,C,_,_,t,[c],rfl,AQ.1.ű f7,AQ.2.dh (mA f7),qn,tn,λgK gv=>⟨λpi=>?_,λha nK pi pP=>?_⟩⟩
  ·have cy:i4 gK (iF C ⟨(rs.N:G),.Z fT,t,[c]⟩):=((AQ.2.dh (mA f7)).dh (mA gv)).put ⟨fB.dh (mA gv) qn,tn,by show 0<=((rs.N:B):G)/\((rs.N:B):G)<=40;omega⟩
   have ez:iF C ⟨(rs.N:G),.Z fT,t,[c]⟩=C++[⟨(rs.N:G),.Z fT,t,[c]⟩]:=X6 λy aU=>by
    left;obtain⟨k,_,lk,dK⟩:=aR.O3 aU;right;show y.k≠(rs.N:G)
    omega
   have ap:=aR.ap.put (v:=.Z fT) pi
   rw[ez]at ap cy;rw[ez];have b7:=((AQ.1.ű f7).ű gv)
   obtain⟨⟨hj,cI⟩,cE⟩:=b7;exact aq _ _ ⟨⟨_,rfl,rfl,rfl,⟨⟨⟨hj,by rwa[aE (bM cI cE (λz=>by cases z))]⟩,aQ⟩,cy.dh (λb F e=>by rwa[aE (bM e cE (λz=>by cases z))])⟩,ap⟩,λb o e nb=>by rw[aE nb];exact gv _ _ (f7 _ _ (s5 _ _ e)),rfl⟩
  ·exact(he gK (s1.Ϛ (s5.Ϛ (f7.Ϛ gv)))).2.2 nK
 rintro cC bh J g9 ⟨⟨e,dK,eb,gN,Nn,acW⟩,AR,rfl⟩;nofun;have Np:S.ct≠S.ϻ:=bM dH b2 (λz=>by cases z)
 have Nq:S.ch≠S.ϻ:=bM iP.ch b2 (λz=>by cases z)
 have AK:p≠S.ϻ:=bM nP b2 (λz=>by cases z)
 have zo:=AR _ _ nP AK
 have uQ:=AR _ _ dH Np
 have E4:=AR _ _ iP.ch Nq
 have pm:p≠S.ct:=bM nP dH (λz=>by cases z)
 have pc:p≠S.ch:=bM nP iP.ch (λz=>by cases z)
 ext;refine(cp zo (T 218) (T 221) (oN S t) ⟨.ε ⟨rfl,_,aM.of uQ⟩,S.ct,rfl,_,uQ,⋯,cp (by rwa[aE pm]) (T 218) (T 222) (Ay S t) ⟨.ε ⟨rfl,_,aM.of (by rwa[aE iP.ne.1.symm])⟩,S.ch,rfl,_,by rwa[aE iP.ne.1.symm],by rw[ϧ];omega,?_⟩⟩);left;have ĭ:∀b o,cK b=O o->b≠S.ct->b≠S.ch->b≠S.ϻ->ſ (ſ g9 S.ct (bb.Ť (ms.ϒ V.Z++[V.Z m]))) S.ch (bb.Ť ((rs.ϒ λr=>V.M r.q)++[V.M q])) b=O o:=λb o e x1 fX dg=>by rw[aE fX,aE x1];exact AR _ _ e dg
 obtain⟨⟨hj,g1⟩,g2⟩:=id Nn.1;have bm:S.bf≠S.ct:=bM b1 dH (λz=>by cases z)
 have ry:S.bf≠S.ch:=bM b1 iP.ch (λz=>by cases z)
 obtain⟨acX,l,f1,f2⟩:=iP.aZ.ob;obtain⟨Ϝ,d4,ea,h6⟩:=iP.nd;have Nr:∀b ks,cK b=O (.bL ks)->b≠S.ϻ->ſ (ſ g9 S.ct (bb.Ť (ms.ϒ V.Z++[V.Z m]))) S.ch (bb.Ť ((rs.ϒ λr=>V.M r.q)++[V.M q])) b=O (.bL ks):=λb ks e nb=>ĭ _ _ e (bM e dH (λz=>by cases z)) (bM e iP.ch (λz=>by cases z)) nb
 right;refine ao _ e (λb o af x1 fX dg _=>ĭ b o (s1 _ _ af) x1 fX dg) (by show e.b+(e.c.N:G)-1<=t;rw[eb,gN,LE];omega) ⟨⟨dx,ĭ _ _ nP pm pc AK⟩,⟨⟨acX,l,ĭ _ _ f1 (bM f1 dH (λz=>by cases z)) (bM f1 iP.ch (λz=>by cases z)) (bM f1 b2 (λz=>by cases z)),ĭ _ _ f2 ?_ ?_ (bM f2 b2 (λz=>by cases z))⟩⟩,aR.Ϻ,aR.gf,⟨ms++[m],?_,?_⟩,?_,⟨⟨⟨hj,by rwa[aE ry,aE bm]⟩,by rwa[aE Nq.symm,aE Np.symm]⟩,Nn.2.dh λb F e=>?_⟩,acW,⟨?_,?_⟩,⟨Ϝ,Nr _ _ d4 iP.ne.2,ea,λx v aG=>?_⟩,iP.ne,?_,aR.t0⟩
 ·exact LZ aR.Ϻ f2 dH λ_ _ z=>nomatch z
 ·exact LZ aR.Ϻ f2 iP.ch λ_ _ z=>nomatch z
 ·rw[aE iP.ne.1,aQ,Ε];rfl
 ·have Nt:∀{a:Ϩ}{Nu:B}{gI:G},hE D.ar cK a Nu gI->hE D.ar (ſ (ſ g9 S.ct (bb.Ť (ms.ϒ V.Z++[V.Z m]))) S.ch (bb.Ť ((rs.ϒ λr=>V.M r.q)++[V.M q]))) a Nu gI:=λ⟨ij,e⟩=>⟨ij,ĭ _ _ e (bM e dH (λz=>by cases z)) (bM e iP.ch (λz=>by cases z)) (bM e b2 (λz=>by cases z))⟩
  exact ϋ.X7 (ϋ.gq di λ_ _ z=>⟨Nt z.1,z.2⟩) ⟨Nt eH,e6,dS,cz⟩
 ·rw[aQ,Ε];rfl
 ·rwa[aE (bM e E4 (λz=>by cases z)),aE (bM e uQ (λz=>by cases z))]
 ·rw[υ,υ,aR.cy.1];rfl
 ·intro k bq cG g ah;by_cases z:k<C.N
  ·rw[Ŭ z]at g;rw[Ŭ (by rwa[<- aR.cy.1])]at ah;exact aR.cy.2 k bq cG g ah
  ·have eL:=(Y.Ϧ.mp g).1
   rw[υ,LE]at eL;have az:k=C.N:=⋯
   subst az;rw[Y.aio]at g;rw[aR.cy.1,Y.aio]at ah;cases g;cases ah;rw[dK,eb,gN,aR.cy.1];exact⟨rfl,G.ϑ _,ip.gS (λj=>X5 _ _ _) dJ a3 g4 E3⟩
 ·left;obtain⟨a,ks,bG,bW,hb,iX,hn⟩:=h6 x v aG;right;exact⟨a,ks,bG,bW,hb,Nr _ _ iX hb,hn⟩
 ·rw[υ,LE];omega
theorem Nv:b0 D bx 6 (D.ar 103) q32 (YB D.ar):=by
 refine cj (T 349) aa6 ?_;and_intros;obtain⟨p,S,w,h,L,t,rs,C,rfl,aR,ao⟩:=h;refine uq ⟨_,(aY (cv 1 R (jg aB))
 (aY (ul Ų.Ï (c8 rfl) (gu (ki (A 0 R) (T 218) (T 125) (AH T) HR)) (et 2 R)
 (aY (cv 3 R (df (A 0 R) (T 218) (T 126) (acG T) HR (aj (A 2 R) aB)))
 (aT (fg (jR ϟ.ϴ.ō ϟ.ϴ.ř ϟ.ϴ.Ň lF (A 1 R) (aj (fs (aj (uS (k:=1) (A 3 R) (cN (T 193) (T 93) (xR T) (cN (T 195) (T 94) (xS T) (cN (T 197) (T 98) (xU T) (cN (T 199) (T 86) (xQ T) iD)))) (HR.WF (by decide))) (aj (cq (A 3 R) (by rfl)) (aj (df (A 0 R) (T 218) (T 127) (Ng T) HR (aj (A 2 R) aB)) (aj (df (A 0 R) (T 218) (T 128) (acH T) HR (aj (A 2 R) aB)) aB))))) aB))))))
 (
 aT (zx (A 1 R))))),?_⟩
 rfl';obtain⟨dx,av⟩:=aR.ob;have hk:=aR.hk
 have fP:=ρ
 ext;refine⟨⋯,λo no=>?_⟩;have s1:=zj (o:=bb.Ť []) no
 refine(dZ (s1 _ _ av) (h3 S t ∅) ⟨p,S,w,h,L,t,rs,C,rfl,aR.kt (hI s1),λa na=>?_⟩);have jG:a≠o:=λz=>by rw[z,aQ]at na;cases na
 have s2:=s1.Ϛ (zj (o:=bb.Ť ((Ć rs.N).ϒ λk=>V.M ((k:B):G))) na)
 refine⟨a,rfl,⟨_,aM.of aQ⟩,pV (K:=D.bP) (a:=a) (F:=(Ć rs.N).ϒ λk=>V.M ((k:B):G)) (λj J U=>(∃fX dg,J=[O (.Z p),O (.Z o),fX,dg])/\cM o (ſ (ſ H o (bb.Ť [])) a (bb.Ť ((Ć rs.N).ϒ λk=>V.M ((k:B):G)))) U/\∃ts:Y Ϩ,U o=O (.Ť (ts.ϒ V.Z))/\ts.N=j/\∀(k:B) a r e,ts[k]?=O a->rs[k]?=O r->C[k]?=O e->∃x,iI[r.i]?=O x/\U a=O (.Ţ [.str x,.M r.n,.M (cV e.b e.c t),.M r.q])) ?_ ?_ ?_ ?_⟩
 ·exact⟨⟨_,_,rfl⟩,λb x af _=>af,[],by rw[aE jG.symm];exact aQ,rfl,λk a r e z=>nomatch z⟩
 ·rintro j J U bg ⟨_,sB,_⟩;exact aM.of (sB _ _ aQ jG)
 ·rintro j x J U ϰ ai cg cA;left;obtain⟨⟨fX,dg,rfl⟩,sB,ts,oU,lt,al⟩:=cg;have bg:j<rs.N:=by
   have:=(Y.Ϧ.mp ai).1
   rw[ϧ,Ī]at ν;exact ν
  obtain rfl:V.M (j:G)=x:=by simpa [bg] using ai
  have e8:dj D.ar U p S w h L t rs C:=aR.kt λb bR af nb=>sB _ _ (s2 _ _ af) (lg no af).symm
  obtain⟨ES,j2⟩:=e8.ob;have aO:=ϡ bg
  have he:=ϡ (show j<C.N by rwa[aR.cy.1])
  right;ext;refine(dZ j2 (h3 S t ∅) ⟨p,S,w,h,L,t,rs,C,j,_,rfl,e8,aO,λm ak e6 cz cS=>?_⟩);left;obtain⟨x,ex⟩:∃x,iI[rs[j].i]?=O x:=⟨_,ϡ (show rs[j].i<4 by omega)⟩;obtain⟨tN,hm⟩:=id ak;right;refine⟨.ε ⟨rfl,_,aM.of oU⟩,m,tN,_,(d5 D.ar rs[j].i,ko x),L0 ex e6,rfl,hm,jD _ ∅,_,rfl,m,rfl,_,_,_,hm,Ec T _,Ed T _,_,Lp _,?_⟩;refine(dZ j2 (h3 S t ∅) ⟨p,S,w,h,L,t,rs,C,j,_,rfl,e8,he,dZ j2 (h3 S t ∅) ⟨p,S,w,h,L,t,rs,C,j,_,rfl,e8,aO,⋯,λp1 tM=>?_⟩⟩);have hy:o≠p1:=λz=>by rw[<- z,oU]at tM;cases tM
  refine⟨_,by rwa[aE hy],by rw[ϧ];omega,cA _ _ ⟨⟨_,_,rfl⟩,λb nK af nb=>by rw[aE nb];exact(zj tM) _ _ (sB _ _ af nb),ts++[p1],?_,?_,λk gx r e g ah aI=>?_⟩⟩
  ·rw[aQ,Ε];rfl
  ·rw[υ,lt];rfl
  ·by_cases z:k=j
   ·left;subst z;rw[aO]at ah;rw[he]at aI;cases ah;cases aI;rw[Ő ⋯,show k-ts.N=0 by omega]at g;cases g;right;exact⟨x,ex,by rw[aE hy.symm];exact aQ⟩
   ·left;have:=(Y.Ϧ.mp g).1
    rw[υ]at ν;have:k<ts.N+1:=ν
    rw[Ŭ ⋯]at g;obtain⟨y,fW,fl⟩:=al k gx r e g ah aI;right;exact⟨y,fW,by rw[aE (bM fl oU (λz=>nomatch z))];exact(zj tM) _ _ fl⟩
 ·rintro J U ⟨⟨fX,dg,rfl⟩,sB,ts,oU,lt,al⟩;rw[ϧ,Ī]at lt;exact ao o U (λb x af=>sB _ _ (s2 _ _ af) (lg no af).symm) no ⟨ts,oU,lt,al⟩
theorem acY:b0 D bx 7 (D.ar 38) q16 (XM D.ar):=by
 refine cj (T 288) aa7 ?_;and_intros;obtain⟨p,aZ,i,n,w,h,L,c,o,k,agG,rfl,ak,aA,aR,Ϻ,ll,ai,ao⟩:=h;refine uq ⟨_,(aY (c1 (cR fx (A 3 R) (A 2 R))
 (aT (zx (kS (k:=2) (A 1 R) (cN (T 193) (T 143) (qm T) (cN (T 195) (T 146) (qm T) (cN (T 197) (T 150) (qm T) (cN (T 199) (T 91) (qm T) iD)))) (HR.WF (by decide)) (aj (df (A 0 R) (T 188) (T 80) (nL T) HR (aj (A 2 R) aB)) (aj (A 4 R) aB)) (wE:=el rfl) (Tm:=eF rfl))))
 c4)
 (aY (cv 5 R (G2 (eR HU) (u9 (Sx rfl) R (T 179) (aj (kS (k:=5) (A 1 R) (cN (T 193) (T 142) (l2 T) (cN (T 195) (T 145) (l2 T) (cN (T 197) (T 149) (l2 T) (cN (T 199) (T 90) (l2 T) iD)))) (HR.WF (by decide)) (aj (A 0 R) (aj (A 2 R) aB)) (wE:=el rfl) (Tm:=eF rfl)) aB)) (A 3 R) ⟨rfl,rfl,rfl,rfl⟩))
 (aY (c1 (cR yM (A 5 R) hM)
 ly
 c4)
 (
 aT (zx (bU hp (A 4 R) (A 5 R))))))),?_⟩
 rfl';obtain⟨dx,l,g,ah⟩:=id aR.ob;obtain⟨gb,ay⟩:=id ak;have qp:(cu "full" (V.M n) []).Ϣ ("stayed":ϕ)=none:=jD n ∅
 have jo:(cu "full" (V.M n) []).Ϣ ("steps":ϕ)=none:=jD n ∅
 have ns:(fY w h l L).Ϣ ("sign":ϕ)=none:=jc ∅ ∅ ∅ ∅
 unfold kr at ai;ext;by_cases e:o=c
 ·rw[aS e]at ai ⊢;refine⟨p,gb,_,(d5 D.ar i,Eb D.ar),tj i aA,rfl,ay,qp,_,_,g,ns,aZ,w,h,L,c,rfl,aR,Ϻ,ll.1,ll.2,p,i,n,_,k,rfl,ak,aA,?_⟩;rw[ϣ.O.W1 ai];exact ao H (a5.Ô _)
 ·rw[aD e]at ai ⊢;refine⟨p,gb,_,(d5 D.ar i,Al D.ar),tj i aA,rfl,ay,jo,p,aZ,i,n,w,h,L,c,rfl,ak,aA,aR,Ϻ,ll,λr H1 de s1 ⟨ts,aO,pr⟩=>⟨r,rfl,ts,aO,(jb i w L c).ϒ λq=>(.ε q.1,.M q.2),LW pr,λϻ nd=>⟨.ε ⟨_,.ε aQ⟩,_,eK.k (k:=.ε o) aQ,?_⟩⟩⟩;have z:=ao _ (s1.Ϛ (zj (o:=bb.bL (kI [] ((jb i w L c).ϒ λq=>(.ε q.1,.M q.2)))) nd))
  have ev:=Er (f:=KF i w L c) (o:=o) (fk w L c) []
  rw[QB]at ev;unfold jb at z ⊢;by_cases hm:o∈fk w L c
  ·rw[aS hm]at ai;cases hL:KF i w L c o with
   | none=>rw[hL]at ai;cases ai
   | O x=>
    rw[hL]at ai;rw[ev,aS (show o∈fk w L c/\(KF i w L c o).Ĵ=true by simp[hL,hm]),hL];rw[aD (show ¬(ϣ.ϒ V.M (O x)).œ V.br=V.br by simp)];cases ai;exact⟨x,rfl,z⟩
  ·rw[aD hm]at ai;cases ai
theorem acZ:b0 D bx 7 (D.ar 62) q43 (YQ D.ar):=by
 refine cj (T 312) aa8 ?_;and_intros;obtain⟨p,aZ,l,i,n,w,h,L,rW,rfl,ak,aA,aR,Ϻ,cY,gl,ac0,ao⟩:=h;refine uq ⟨_,(aY (cv 3 R (cU (acM T) R (T 55) (aj (A 0 R) (aj (A 1 R) aB))))
 (aY (cv 4 R uA)
 (aY (cv 5 R (II (T 160) (abz T) R (T 18)))
 (aY (ul Ų.Ï (c8 rfl) (gu (A 2 R)) (et 6 R)
 (aT (fg (df (A 5 R) (T 216) (T 110) (M3 T) HR (aj (fs (aj aV (aj (A 6 R) aB))) aB)))))
 (aY (sj Ų.Ï (cR uc (ki (A 5 R) (T 216) (T 113) (abB T) HR) aV)
 (aY (cv 7 R (ki (A 5 R) (T 216) (T 112) (acm T) HR))
 (aY (cv 8 R (cm d2 (A 7 R) aV (λ_ _=>rfl)))
 (aT (c1 (sa (sy (eR HU) (A 8 R) (A 4 R)) (by with_unfolding_all rfl))
 (aY (qY (eR HU) (A 4 R) (A 8 R) (cm d2 (A 7 R) aV (λ_ _=>rfl)) rfl)
 (aT (ul Ų.Ï (c8 rfl) (gu (jl (eR HU) (A 3 R) (A 8 R) (λ_ _=>rfl))) (l9 (n:=2) (c8 rfl) (gJ (et 9 R) (gJ (et 10 R) l8)))
 (aT (fg (df (A 5 R) (T 216) (T 110) (M3 T) HR (aj (fs (aj (bU eW (cm d2 (A 7 R) aV (λ_ _=>rfl)) (A 10 R)) (aj (A 9 R) aB))) aB)))))))
 c4)))))
 (
 aT (zx (A 4 R)))))))),?_⟩
 rfl';have lc:=xu Ϻ
 have fP:=ρ
 refine zu (λJ U=>∃ϻ Ϝ,H ϻ=none/\a5 H U/\L9 L U ϻ Ϝ/\J=[O (V.Z aZ),O (V.Z p),O (V.Z l),O (V.Z ϻ),none,none,none,none,none,none,none]) (λaP aq=>?_) ?_
 ·ext;exact⟨p,aZ,i,n,w,h,L,rfl,ak,aA,aR,Ϻ,λr ls U de s pJ=>aq _ _ ⟨r,ls,de,s,pJ,rfl⟩⟩
 rintro cC bh J H1 ⟨ϻ,Ϝ,nd,s1,⟨hd,into⟩,rfl⟩;nofun;have qq:=s1 _ _ cY
 refine zu (λJ U=>∃cd,H1 cd=none/\U=ſ H1 cd (.bL [])/\J=[O (V.Z aZ),O (V.Z p),O (V.Z l),O (V.Z ϻ),O (V.Z cd),none,none,none,none,none,none]) (λaP aq=>?_) ?_
 ·ext;exactλcd ya=>aq _ _ ⟨cd,ya,rfl,rfl⟩
 rintro cC bh J aC ⟨cd,ya,rfl,rfl⟩;nofun;have s2:a5 H1 (ſ H1 cd (.bL [])):=zj ya
 refine zu (λJ U=>∃ay aw,H1 aw=none/\iM D.ar L H1 U cd ay aw [] 0/\J=[O (V.Z aZ),O (V.Z p),O (V.Z l),O (V.Z ϻ),O (V.Z cd),O (V.Z ay),none,none,none,none,none]) (λaP aq=>?_) ?_
 ·ext;intro x dx oW lS ne;refine⟨x,dx,rfl,aQ,λaw nl=>⟨rfl,?_⟩⟩;have lW:aw≠x:=λz=>by rw[z,aQ]at nl;cases nl
  have ld:aw≠dx:=λz=>by rw[aE lW,z,aQ]at nl;cases nl
  have Nw:ſ H1 cd (.bL []) aw=none:=by rw[aE lW,aE ld]at nl;exact nl
  have dU:∀b o,ſ H1 cd (.bL []) b=O o->ſ (ſ (ſ (ſ (ſ H1 cd (bb.bL [])) dx (bb.HF x)) x (bb.Â (D.ar 119) dx [])) aw (bb.Ť [])) x (bb.Â (D.ar 119) dx (cu "things" (.Z aw) [])) b=O o:=λb o e=>by
   rwa[aE (cF e oW),aE (cF e Nw),aE (cF e oW),aE (cF e lS)]
  exact aq _ _ ⟨x,aw,s2.Ź Nw,⟨λb o e=>dU _ _ (s2 _ _ e),dU _ _ aQ,⟨⟨dx,aQ⟩,[],by rw[aE lW,aQ];rfl,rfl,λt bk=>(nomatch bk)⟩,wf,λk aq=>(nomatch aq),λc v aG=>(nomatch aG)⟩,rfl⟩
 rintro cC bh J bw ⟨ay,aw,E5,Nx,rfl⟩;nofun;refine zu (λJ U=>∃c2,iM D.ar L H1 U cd ay aw [] rW.N/\J=[O (V.Z aZ),O (V.Z p),O (V.Z l),O (V.Z ϻ),O (V.Z cd),O (V.Z ay),c2,none,none,none,none]) (λaP aq=>?_) ?_
 ·ext;refine⟨⟨_,aM.of (Nx.s _ _ qq)⟩,pV (K:=D.bP) (a:=l) (F:=rW.ϒ V.M) (λj J U=>iM D.ar L H1 U cd ay aw [] j/\∃c2,J=[O (V.Z aZ),O (V.Z p),O (V.Z l),O (V.Z ϻ),O (V.Z cd),O (V.Z ay),c2,none,none,none,none]) ⟨Nx,none,rfl⟩ (λj J U _ z=>aM.of (z.1.s _ _ qq)) ?_ ?_⟩
  ·rintro j y J U ϰ aU cg cA;left;obtain⟨cb,c2,rfl⟩:=cg;have kk:=(Y.Ϧ.mp aU).1
   rw[ϧ]at kk;rw[Ϙ]at aU;obtain⟨c,x6,rfl⟩:=ξ.mp aU;obtain⟨dx,au⟩:=cb.hw.ob;right;ext;refine⟨_,_,au,mW aw ∅,⋯,λt jW=>?_⟩;have tO:=cb.OR (zj (o:=bb.Ţ [V.M 0,V.M c]) jW)
   exact⟨ay,aw,t,L,j,0,c,rfl,tO.hw,⋯,ac0 c (ύ x6),aQ,λdX s5 d1=>cA _ _ ⟨tO.P E5 s5 d1,_,rfl⟩⟩
  ·rintro J U ⟨cb,c2,rfl⟩;rw[ϧ]at cb;exact aq _ _ ⟨c2,cb,rfl⟩
 rintro cC bh J cK ⟨c2,ac1,rfl⟩;nofun;refine zu (λJ U=>∃ks m c2 gV iK hJ lj,iM D.ar L H1 U cd ay aw ks m/\J=[O (V.Z aZ),O (V.Z p),O (V.Z l),O (V.Z ϻ),O (V.Z cd),O (V.Z ay),c2,gV,iK,hJ,lj]) (λaP aq=>?_) ?_
 ·refine⟨λm J U=>Ma D.ar L H1 aZ p l ϻ cd ay aw m J U,⟨_,rW.N,[],c2,none,none,none,none,rfl,ac1,gl,rfl⟩,?_⟩;rintro m J U cg;left;obtain⟨jF,ks,c2,gV,iK,hJ,lj,rfl,cb,MR,rfl⟩:=cg;have lk:=cb.SC Ϻ
  obtain⟨dx,au⟩:=cb.hw.ob;right;walk_at "RDS"
  refine⟨_,_,au,mW aw ∅,ay,aw,L,jF,rfl,cb.hw,_,rfl,?_⟩;cases jF with
  | HW=>
   rw[aD (by decide)];exact aq _ _ ⟨ks,0,c2,gV,iK,hJ,lj,cb,rfl⟩
  | o0 jF=>
   rw[aS ⋯];refine⟨λa7 dt=>∃ba,ba<jF+1+401*(100-ks.N)/\Ma D.ar L H1 aZ p l ϻ cd ay aw ba a7 dt,λ_ _ y=>y,?_⟩;refine zu (λJ dt=>∃(r:Ϩ)(a c:G),eG L c=true/\dt r=O (.Ţ [.M a,.M c])/\iM D.ar L H1 dt cd ay aw ks jF/\J=[O (V.Z aZ),O (V.Z p),O (V.Z l),O (V.Z ϻ),O (V.Z cd),O (V.Z ay),c2,O (V.Z r),iK,hJ,lj]) (λoW dR=>?_) ?_
   ·ext;exact⟨_,_,au,mW aw ∅,ay,aw,L,jF,rfl,cb.hw,λt a c g9 AS bk f7 gY=>dR _ _ ⟨t,a,c,AS,bk,cb.P E5 f7 gY,rfl⟩⟩
   rintro cC bh J g9 ⟨r,a,c,AS,qt,yb,rfl⟩;nofun;refine zu (λJ dt=>dt=g9/\J=[O (V.Z aZ),O (V.Z p),O (V.Z l),O (V.Z ϻ),O (V.Z cd),O (V.Z ay),c2,O (V.Z r),O (V.M c),hJ,lj]) (λoW dR=>?_) ?_
   ·ext;exact(dM (bN.of qt) rfl (dR _ _ ⟨rfl,rfl⟩))
   rintro cC bh J gK ⟨rfl,rfl⟩;nofun;walk_at "RDS"
   refine⟨_,eK.k (k:=.ε c) yb.c,?_⟩;cases gN:aW ks (.ε c) with
   | O v=>
    rw[aD (by simp)];exact⟨jF+401*(100-ks.N),⋯,jF,ks,_,_,_,_,_,rfl,yb,⋯,rfl⟩
   | none=>
    rw[aS (by simp)];have AU:=yb.cost (a:=a) ya AS
    have agH:=AU.SC Ϻ
    have lZ:(ß ks (.ε c) (.M a)).N=ks.N+1:=by rw[BZ _ gN,υ];rfl
    have ac2:ſ gK cd (.bL (ß ks (.ε c) (.M a))) r=O (.Ţ [.M a,.M c]):=by rwa[aE (bM qt yb.c (λz=>nomatch z))]
    refine zu (λJ dt=>dt=ſ gK cd (.bL (ß ks (.ε c) (.M a)))/\J=[O (V.Z aZ),O (V.Z p),O (V.Z l),O (V.Z ϻ),O (V.Z cd),O (V.Z ay),c2,O (V.Z r),O (V.M c),hJ,lj]) (λoW dR=>?_) ?_
    ·ext;exact(dM (bN.of qt) rfl ⟨_,kH.k (k:=.ε c) yb.c ⋯,dR _ _ ⟨rfl,rfl⟩⟩)
    rintro cC bh J hR ⟨rfl,rfl⟩;nofun;left;obtain⟨jG,aG,ps,Ny,agI,ac3⟩:=into c AS;right;ext;refine⟨V.Z jG,by rw[<- aG];exact eK.k (k:=.ε c) (AU.s _ _ hd),jG,rfl,⟨_,aM.of (AU.s _ _ Ny)⟩,pV (K:=D.bP) (a:=jG) (F:=ps.ϒ V.Z) (λj J dt=>iM D.ar L H1 dt cd ay aw (ß ks (.ε c) (.M a)) (jF+j)/\dt r=O (.Ţ [.M a,.M c])/\∃hJ lj,J=[O (V.Z aZ),O (V.Z p),O (V.Z l),O (V.Z ϻ),O (V.Z cd),O (V.Z ay),c2,O (V.Z r),O (V.M c),hJ,lj]) ⟨AU,ac2,_,_,rfl⟩ (λj J U _ z=>aM.of (z.1.s _ _ Ny)) ?_ ?_⟩
    ·rintro j y J n8 ϰ aU cg cA;left;obtain⟨tP,AV,hJ,lj,rfl⟩:=cg;have kk:=(Y.Ϧ.mp aU).1
     rw[ϧ]at kk;rw[Ϙ]at aU;obtain⟨t,bk,rfl⟩:=ξ.mp aU;obtain⟨o,tK,av,x9⟩:=ac3 t (ύ bk);obtain⟨agJ,oP⟩:=tP.hw.ob;right;ext;refine⟨_,bN.of (tP.s _ _ x9),rfl,_,_,rfl,_,_,rfl,rfl,_,_,oP,mW aw ∅,dM (bN.of AV) rfl ⟨a,rfl,tK,rfl,⋯,λt' AP=>?_⟩⟩;left;have S:=zj (o:=bb.Ţ [V.M (a+tK),V.M o]) AP
     have tO:=tP.OR S
     obtain⟨agK,ac4,_⟩:=tO.hw.ex;right;exact⟨ay,aw,t',L,jF+j,_,o,rfl,tO.hw,⋯,av,aQ,λdX s5 d1=>cA _ _ ⟨tO.P E5 s5 d1,s5 _ _ (S _ _ AV) (bM (S _ _ AV) ac4 (λz=>nomatch z)),_,_,rfl⟩⟩
    ·rintro J n8 cg;left;obtain⟨tP,AV,hJ,lj,rfl⟩:=cg;rw[ϧ]at tP;right;exact⟨jF+ps.N+401*(100-(ß ks (.ε c) (.M a)).N),⋯,jF+ps.N,_,_,_,_,_,_,rfl,tP,⋯,rfl⟩
 rintro cC bh J dX ⟨ks,m,c2,gV,iK,hJ,lj,cb,rfl⟩;nofun;ext;exact ao cd ks dX (s1.Ź ya) (s1.Ϛ cb.s) cb.c cb.it
theorem Nz:b0 D bx 7 (D.ar 69) q28 (W7 D.ar D.bP):=by
 refine cj (T 319) aa9 ?_;and_intros;obtain⟨p,b,eH,S,i,n,w,h,L,E,m,c,q,Ϝ,rfl,o,af,hm,ak,iO,aG,ao⟩:=h;refine uq ⟨_,(aY (cv 4 R (cm d2 (A 2 R) aV (λ_ _=>rfl)))
 (aY (cv 5 R (jg aB))
 (aY (c1 (e2 (cU (MF T) R (T 53) (aj (A 1 R) (aj (A 4 R) (aj (A 4 R) aB)))))
 (aT (fg (jR ϟ.ϴ.ō ϟ.ϴ.ř ϟ.ϴ.Ň lF (A 5 R) (aj (fs (aj (df (A 0 R) (T 209) (T 122) (MQ T) HR (aj (A 2 R) (aj (A 4 R) aB))) (aj (kS (k:=2) (cq (A 0 R) (by rfl)) (cN (T 193) (T 143) (qm T) (cN (T 195) (T 146) (qm T) (cN (T 197) (T 150) (qm T) (cN (T 199) (T 91) (qm T) iD)))) (HR.WF (by decide)) (aj (df (cq (A 0 R) (by rfl)) (T 188) (T 80) (nL T) HR (aj (A 4 R) aB)) (aj (A 3 R) aB)) (wE:=el rfl) (Tm:=eF rfl)) aB))) aB))))
 c4)
 (aY (ul Ų.Ï (c8 rfl) (gu (df (A 0 R) (T 209) (T 121) (acQ T) HR (aj (A 2 R) aB))) (l9 (n:=2) (c8 rfl) (gJ (et 6 R) (gJ (et 7 R) l8)))
 (aT (c1 (e9.pt (jL (cR sm (A 7 R) (A 3 R)) (kb (e2 (cU (MF T) R (T 53) (aj (A 1 R) (aj (A 4 R) (aj (cm d2 (A 6 R) aV (λ_ _=>rfl)) aB))))))))
 (aT (fg (jR ϟ.ϴ.ō ϟ.ϴ.ř ϟ.ϴ.Ň lF (A 5 R) (aj (fs (aj (A 6 R) (aj (bU hp (A 3 R) (A 7 R)) aB))) aB))))
 c4)))
 (
 aT (zx (A 5 R))))))),?_⟩
 rfl';left;obtain⟨dx,g⟩:=id o.sp;obtain⟨ey,ah⟩:=id o.tl;obtain⟨AW,k1,k2,k3,pM⟩:=id o.hY;have l0:=lP o.Ϻ
 have d3:=o.d3
 right;refine zu (λJ U=>U=H/\J=[O (V.Z p),O (V.Z eH),O (V.Z b),O (V.M q),O (V.M c),none,none,none]) (λaP aq=>?_) ?_
 ·ext;exact(dM (bN.of af) rfl (aq _ _ ⟨rfl,rfl⟩))
 rintro cC bh J H1 ⟨rfl,rfl⟩;nofun;refine zu (λJ U=>∃r,H1 r=none/\a5 H1 U/\U r=O (.Ť [])/\J=[O (V.Z p),O (V.Z eH),O (V.Z b),O (V.M q),O (V.M c),O (V.Z r),none,none]) (λaP aq=>?_) ?_
 ·ext;exact⟨⋯,λr de=>aq _ _ ⟨r,de,zj de,aQ,rfl⟩⟩
 rintro cC bh J aC ⟨r,de,s2,yc,rfl⟩;nofun;have NA:∀{φ Κ:G}{iH:δ},(iH=true↔(aW Ϝ (.ε Κ)=none/\(aW Ϝ (.ε φ)).œ .br≠.M Κ))->iH=e7 Ϝ φ Κ:=λvq=>δ.ë.ļ (vq.Ϛ LB.symm)
 refine zu (λJ U=>a5 H1 U/\mU U r (if e7 Ϝ c c=true then [(bD (Hq E m c) c,min (q+fZ i (Ó L c)) n)] else [])/\J=[O (V.Z p),O (V.Z eH),O (V.Z b),O (V.M q),O (V.M c),O (V.Z r),none,none]) (λaP aq=>?_) ?_
 ·ext;refine⟨eH,Ϝ,c,c,rfl,s2 _ _ iO,aG,λiH vq=>⟨iH,rfl,?_⟩⟩;have eb:=NA vq
  cases hz:e7 Ϝ c c with
  | false=>
   rw[eb,hz,aD (by decide)];exact aq _ _ ⟨s2,by rw[hz,aD (by decide)];exact⟨[],yc,.ń⟩,rfl⟩
  | true=>
   rw[eb,hz,aS rfl];left;have ff:=o.ű s2
   obtain⟨hj,vp,f1,f2⟩:=id o.rM.ob;have ac5:(fY w h vp L).Ϣ ("sign":ϕ)=none:=jc ∅ ∅ ∅ ∅
   have ac6:(cu "full" (V.M n) []).Ϣ ("stayed":ϕ)=none:=jD n ∅
   right;refine⟨.ε ⟨rfl,_,aM.of yc⟩,dZ (s2 _ _ g) (rL S ∅) ⟨p,b,S,m,c,c,E,rfl,ff.sp,s2 _ _ af,ff.Ar,hm,d3,λu hG=>?_⟩⟩;have s3:=s2.Ϛ (zj (o:=bb.Ţ ((bD (Hq E m c) c).ϒ bH)) hG)
   have ig:=o.ű s3
   refine(cp (s3 _ _ g) (T 209) (T 211) (Lw S) ⟨S.ct,ey,_,(d5 D.ar i,Eb D.ar),tj i o.e6,rfl,s3 _ _ ah,ac6,cp (s3 _ _ g) (T 209) (T 210) (Ej S) ⟨S.aZ,rfl,_,_,s3 _ _ f1,ac5,S.aZ,w,h,L,c,rfl,ig.rM,o.Ϻ,ak.1,ak.2,S.ct,i,n,Ó L c,q,rfl,ig.tl,o.e6,⋯,λv hH=>?_⟩⟩);have ku:=(zj (o:=bb.Ţ [V.Z u,V.M (min (q+fZ i (Ó L c)) n)]) hH) _ _ ((zj (o:=bb.Ţ ((bD (Hq E m c) c).ϒ bH)) hG) _ _ yc)
   refine⟨_,ku,by show 0<ϓ;omega,aq _ _ ⟨uI (s3.Ϛ (zj hH)) de,?_,rfl⟩⟩;rw[hz,aS rfl];have ac7:v≠r:=λz=>by rw[z,(zj (o:=bb.Ţ ((bD (Hq E m c) c).ϒ bH)) hG) _ _ yc]at hH;cases hH
   have E6:u≠r:=λz=>by rw[z,yc]at hG;cases hG
   exact⟨[v],aQ,.θ ⟨u,by rw[aE ac7,aQ],by rw[aE E6];exact(zj hH) _ _ aQ⟩ .ń⟩
 rintro cC bh J bw ⟨s3,tQ,rfl⟩;nofun;have ig:=o.ű s3
 obtain⟨h6,aI⟩:=id ig.sp;have NB:r≠S.bI:=λz=>by rw[z,k1]at de;cases de
 refine zu (λJ U=>∃x y,cM S.bI H1 U/\fF U S.bI i w L E/\mU U r (ŧ (e7 Ϝ) i w L E n m c q)/\J=[O (V.Z p),O (V.Z eH),O (V.Z b),O (V.M q),O (V.M c),O (V.Z r),x,y]) (λaP aq=>?_) ?_
 ·ext;refine(dZ aI (rL S ∅) ⟨p,b,S,i,n,w,h,L,E,m,c,rfl,ig,s3 _ _ af,hm,ak,λl cK g5 iQ ac8 E7=>?_⟩);left;obtain⟨ts,NC,NF⟩:=E7;obtain⟨agL,ku,agM⟩:=id tQ;obtain⟨tR,ac9⟩:=ac8 r (o.hY.no de s3) (by rw[ku];exactλz=>nomatch z);have ada:fC bw cK:=g5.dh (λF z=>by rw[s3 _ _ k1]at z;cases z)
  have m1:=g5 _ _ ku NB
  have agN:(hF i w L E m c).N<=4:=by
   unfold hF jb;rw[ϧ];have a1:=Lu (f:=KF i w L c) (os:=fk w L c)
   have a2:=xx (w:=w) (L:=L) (c:=c)
   omega
  have x7:=ϋ.N NF
  right;refine⟨l,rfl,⟨_,aM.of NC⟩,pV (K:=D.bP) (a:=l) (F:=ts.ϒ V.Z) (λj J U=>∃x y,cM r cK U/\mU U r ((if e7 Ϝ c c=true then [(bD (Hq E m c) c,min (q+fZ i (Ó L c)) n)] else [])++((hF i w L E m c).ĵ j).Ğ (oJ (e7 Ϝ) c q))/\J=[O (V.Z p),O (V.Z eH),O (V.Z b),O (V.M q),O (V.M c),O (V.Z r),x,y]) ⟨none,none,jt (a5.Ô _),by rw[Y.amR,Y.amx,ċ];exact tQ.ĭ ada (λ_ z=>g5 _ _ z NB),rfl⟩ (λj J U _ ⟨_,_,sB,_⟩=>aM.of (sB _ _ NC ac9)) ?_ ?_⟩
  ·rintro j v J U ϰ lB cg cA;left;obtain⟨x,y,sB,nl,rfl⟩:=cg;rw[Ϙ]at lB;obtain⟨t,bk,rfl⟩:=ξ.mp lB;obtain⟨e,au,iH,az,bY⟩:=ϋ.lM NF bk;have yd:fC cK U:=sB.dh (λF z=>by rw[m1]at z;cases z)
   obtain⟨ba,bR,dK,em,agO,eb⟩:=En o.Ϻ hm e (ύ au);have tk:(hF i w L E m c).ĵ (j+1)=(hF i w L E m c).ĵ j++[e]:=by rw[ė,au];rfl
   have tS:=yd _ _ bY
   rw[dK]at tS;have ye:U eH=O (.bL Ϝ):=sB _ _ (g5 _ _ (s3 _ _ iO) (bM iO k1 nofun)) (cF iO de)
   rw[tk,Y.akO]at cA;right;ext;refine⟨_,bN.of (yd _ _ az),rfl,_,_,rfl,_,_,rfl,rfl,e.2,rfl,?_⟩;obtain⟨us,h4,pu⟩:=id nl;have agP:us.N<=9:=by
    have a1:=ϋ.N pu
    rw[υ]at a1;have a2:=Y.dl (oJ (e7 Ϝ) c q) ((hF i w L E m c).ĵ j)
    rw[Ģ]at a2;have gP:(if e7 Ϝ c c=true then [(bD (Hq E m c) c,min (q+fZ i (Ó L c)) n)] else []).N<=1:=by split<;>simp
    omega
   by_cases a1:e.2<=q
   ·rw[aS a1];refine⟨iH,rfl,dM (bN.of tS) rfl ⟨eH,Ϝ,c,bR,rfl,ye,aG,λz hz=>⟨z,rfl,?_⟩⟩⟩;rw[NA hz];have gN:anB e.1=bR:=by rw[dK];rfl
    cases vf:e7 Ϝ c bR with
    | false=>
     rw[aD (by decide)];refine cA _ _ ⟨_,_,sB,?_,rfl⟩;rwa[LF (f:=oJ (e7 Ϝ) c q) (aD (by rw[gN,vf];simp)),ċ]
    | true=>
     rw[aS rfl];refine⟨.ε ⟨rfl,_,aM.of h4⟩,e.2,rfl,⋯,λu hG=>⟨_,(zj hG) _ _ h4,by rw[ϧ];omega,?_⟩⟩;have E6:u≠r:=λz=>by rw[z,h4]at hG;cases hG
     refine cA _ _ ⟨_,_,mB (sB.OR hG),?_,rfl⟩;rw[WW (f:=oJ (e7 Ϝ) c q) (aS ⟨a1,by rw[gN,vf]⟩)];refine⟨us++[u],by rw[aQ];simp,?_⟩;rw[<- Y.aij];have NG:fC U (ſ (ſ U u (bb.Ţ [V.Z iH,V.M (q-e.2)])) r (bb.Ť (us.ϒ V.Z++[V.Z u]))):=λcc F z=>by
      rw[aE (bM z h4 nofun)];exact(zj hG) _ _ z
     exact ϋ.O2 (ϋ.gq pu λ_ _ z=>z.dh NG) ⟨iH,by rw[aE E6,aQ],by show _=O (bb.Ţ (e.1.ϒ bH));rw[dK];exact NG _ _ tS⟩
   ·rw[aD a1];refine cA _ _ ⟨_,_,sB,?_,rfl⟩;rwa[LF (f:=oJ (e7 Ϝ) c q) (aD (λz=>a1 z.1)),ċ]
  ·rintro J U ⟨x,y,sB,nl,rfl⟩;rw[ϧ,x7,İ]at nl;exact aq _ _ ⟨x,y,λcc bR eh nb=>sB _ _ (g5 _ _ (s3 _ _ eh) nb) (cF eh de),iQ.but tR m1 sB,nl,rfl⟩
 rintro cC bh J cK ⟨x,y,g5,iQ,E7,rfl⟩;nofun;ext;exact ao r cK g5 iQ de E7
theorem adb:b0 D bx 8 (D.ar 63) q11 (YR D.ar):=by
 refine cj (T 313) aba ?_;and_intros;obtain⟨p,aZ,i,n,w,h,L,rfl,ak,aA,aR,Ϻ,ao⟩:=h;refine uq ⟨_,(aY (zb (i:=2) (fz.of (gA:=bV Aa) (tn:=["cell"]) (cn:=["carrier","floor"]) (dQ:=[1,0]) rfl rfl ∅ ∅ ∅ ∅ rfl) (c8 rfl) ND rfl Zi (gu (ki (A 0 R) (T 188) (T 84) (abn T) HR))
 (λ_ _ _ _ _=>(gU (i:=0) (show(["cell","carrier","floor"]:Y ϕ).Α by decide +Ė) rfl (Or.ε rfl))) (λ_ _ _ _ _=>(n7 (e2 (kS (k:=1) (cx 1) (cN (T 193) (T 139) (j9 T) (cN (T 195) (T 95) (xT T) (cN (T 197) (T 148) (j9 T) (cN (T 199) (T 87) (j9 T) iD)))) (HR.WF (by decide)) (aj (df (cx 2) (T 188) (T 80) (nL T) HR (aj (cx 0) aB)) aB) (wE:=el rfl) (Tm:=eF rfl))))) (λ_ _ _ _ _=>(cx 0)) (hsw:=by rfl))
 (
 aT (zx (cU (acZ T) R (T 57) (aj (A 0 R) (aj (A 1 R) (aj (A 2 R) aB))))))),?_⟩
 rfl';left;obtain⟨dx,mX,g,ah⟩:=id aR.ob;obtain⟨gb,ay⟩:=id ak;obtain⟨x3,l1,x4⟩:=An (D:=D.ar) i aA;have nm:(cu "full" (V.M n) []).Ϣ ("may_stand":ϕ)=none:=jD n ∅
 have jo:(cu "full" (V.M n) []).Ϣ ("steps":ϕ)=none:=jD n ∅
 have ns:(fY w h mX L).Ϣ ("sign":ϕ)=none:=jc ∅ ∅ ∅ ∅
 have AM:(fY w h mX L).Ϣ ("cells":ϕ)=none:=jc ∅ ∅ ∅ ∅
 have o8:(fY w h mX L).Ϣ ("chargers":ϕ)=none:=jc ∅ ∅ ∅ ∅
 right;refine zu (λJ U=>∃϶,a5 H U/\U ϶=O (.Ť (((oi L).ı λc=>dO i (Ó L c)).ϒ V.M))/\J=[O (V.Z aZ),O (V.Z p),O (V.Z ϶)]) (λaP aq=>?_) ?_
 ·ext;refine⟨_,_,g,o8,aZ,w,h,L,rfl,aR,Ϻ,λr H1 de s1 aO=>?_⟩;refine⟨r,rfl,⟨_,aM.of aO⟩,n9 (UF (aM.of aO)) (Ep i L) (λv=>v) (λy aU jK bj=>?_) (λy aU _ jK bj=>by ext;exact bj) (by rw[ϧ];have:=Lm Ϻ;omega) (λ϶ eI=>?_)⟩
  ·left;obtain⟨c,iO,rfl⟩:=Ζ.mp aU;have qs:=XF iO
   right;ext;refine⟨p,gb,_,(d5 D.ar i,j6 x3),l1,rfl,s1 _ _ ay,nm,_,_,s1 _ _ g,ns,aZ,w,h,L,c,rfl,aR.ű s1,Ϻ,qs.1,qs.2,_,_,rfl,_,rfl,?_⟩;rwa[x4]
  ·rw[LV];exact aq _ _ ⟨϶,s1.Ϛ (zj eI),aQ,rfl⟩
 rintro cC bh J H1 ⟨϶,s1,eP,rfl⟩;nofun;ext;refine⟨p,aZ,϶,i,n,w,h,L,_,rfl,ak.ű s1,aA,aR.ű s1,Ϻ,eP,B.Ķ (à _ _) (by have:=Lm Ϻ;omega),λc iO=>?_,λr Ϝ aC de s2 aO hT=>ao r Ϝ aC (s1.Ź de) (s1.Ϛ s2) aO hT⟩;obtain⟨aI,bO⟩:=ĥ.mp iO;rw[Wk]at aI;exact ut.mp (ĥ.mp aI).1
theorem ade:b0 D bx 8 (D.ar 67) q51 (W8 D.ar D.bP):=by
 refine cj (T 317) abb ?_;and_intros;obtain⟨p,bX,ϻ,S,i,n,t,w,h,L,E,C,c3,rfl,o,bf,ap,dS,gn,lo,jI,ao⟩:=h;refine uq ⟨_,(aY (cv 3 R (df (cq (A 0 R) (by rfl)) (T 207) (T 104) (M1 T) HR (aj (cq (A 0 R) (by rfl)) (aj (A 1 R) aB))))
 (aY (cv 4 R GX)
 (aY (Si (ul Ų.Ï (c8 rfl) (H3 (A 2 R)) (et 5 R)
 (aT (ul Ų.Ï (c8 rfl) (gu (df (A 0 R) (T 209) (T 120) (Nz T) HR (aj (A 3 R) (aj (A 5 R) (aj (jl (eR HU) (A 2 R) (A 5 R) (λ_ _=>rfl)) aB))))) (l9 (n:=2) (c8 rfl) (gJ (et 6 R) (gJ (et 7 R) l8)))
 (aT (c1 (cR uc (A 7 R) (QQ (eR HU) (A 4 R) (A 6 R) (n0 n1 aV) ⟨rfl,rfl,rfl,rfl⟩))
 (aT (qY (eR HU) (A 4 R) (A 6 R) (A 7 R) rfl))
 c4))))))
 (
 aT (zx (A 4 R)))))),?_⟩
 rfl';left;obtain⟨dx,g⟩:=id o.sp;obtain⟨AW,k1,_⟩:=id o.hY;obtain⟨⟨⟨db,oX⟩,Oo⟩,cy⟩:=id bf;have l0:=lP o.Ϻ
 have d3:=o.d3
 right;refine zu (λJ U=>∃(eH:Ϩ)(Ϝ:Y (Ř×V)),H eH=none/\a5 H U/\U eH=O (.bL Ϝ)/\mC (c7 C S.n) t Ϝ/\J=[O (V.Z p),O (V.M t),O (V.Z bX),O (V.Z eH),none,none,none,none]) (λaP aq=>?_) ?_
 ·ext;exact(cp g (T 209) (T 212) (Aq S) ⟨S.bf,rfl,dZ oX (js ϻ ∅) (cp g (T 209) (T 213) (Ap S) ⟨S.bf,ϻ,C,S.n,t,rfl,bf,λl Ϝ U nl s aw ak=>aq _ _ ⟨l,Ϝ,nl,s,aw,ak,rfl⟩⟩)⟩)
 rintro cC bh J H1 ⟨eH,Ϝ,yf,s1,iO,yg,rfl⟩;nofun;have adf:∀φ Κ,e7 Ϝ φ Κ=fm (c7 C S.n) t φ Κ:=λφ Κ=>LC yg (ap.Pd λx ai=>(pT.mp ai).1) (cy.IR S.n).nd
 have E8:e7 Ϝ=fm (c7 C S.n) t:=funext λc=>funext λo=>adf c o
 have E9:∀(z:G) v,aW Ϝ (.ε z)=O v->v=.br\/∃i,v=.M i:=λz v hz=>by
  left;obtain⟨e,_,_,he⟩:=yg.rk z v hz
  right;rw[<- he];exact oj _ _ _
 refine zu (λJ U=>∃ir,H ir=none/\ir≠eH/\a5 H U/\U eH=O (.bL Ϝ)/\U ir=O (.bQ [])/\J=[O (V.Z p),O (V.M t),O (V.Z bX),O (V.Z eH),O (V.Z ir),none,none,none]) (λaP aq=>?_) ?_
 ·ext;exactλir oY=>aq _ _ ⟨ir,s1.Ź oY,(cF iO oY).symm,s1.Ϛ (zj oY),(zj oY) _ _ iO,aQ,rfl⟩
 rintro cC bh J aC ⟨ir,oY,adg,s2,Fb,adh,rfl⟩;nofun;have NH:S.bI≠ir:=cF k1 oY
 have Fc:bX≠ir:=cF gn oY
 refine zu (λJ U=>∃x y z,cM S.bI H U/\fF U S.bI i w L E/\U ir=O (.bQ (Ñ (ŧ (fm (c7 C S.n) t) i w L E n) c3))/\J=[O (V.Z p),O (V.M t),O (V.Z bX),O (V.Z eH),O (V.Z ir),x,y,z]) (λaP aq=>?_) ?_
 ·ext;have ff:=o.ű s2
  have qu:=s2 _ _ gn
  refine⟨bX,c3,qu,c3,qu,λlV=>TU (λj J U=>U bX=O (.cW lV (.bQ c3))/\∃x y z,(∀cc bR,aC cc=O bR->cc≠S.bI->cc≠ir->cc≠bX->U cc=O bR)/\fG D.ar D.bP U p S i n w h L E/\U ir=O (.bQ (Ñ (ŧ (e7 Ϝ) i w L E n) (c3.ĵ j)))/\J=[O (V.Z p),O (V.M t),O (V.Z bX),O (V.Z eH),O (V.Z ir),x,y,z]) ⟨aQ,none,none,none,λcc bR eh _ _ nl=>by rwa[aE nl],ff.Κ qu jI.symm (mB (jt (a5.Ô _))),by rwa[aE Fc.symm],rfl⟩ (λj J U _ h=>h.1) ?_ ?_⟩
  ·rintro j k v b J U adi lN af cg adj;left;obtain⟨jJ,x,y,z,l3,lp,r1,rfl⟩:=cg;have r2:=ύ lN
   obtain⟨m,c,q,Fd,hm,ak,dJ⟩:=lo.ok _ r2;cases Fd;obtain⟨h6,aI⟩:=id lp.sp;have ye:U eH=O (.bL Ϝ):=l3 _ _ Fb (cF k1 yf).symm adg.symm (cF gn yf).symm
   right;ext;refine(dZ aI (rL S ∅) ⟨.M q,.Œ ⟨c3,bD m c,b,.Œ ⟨lV,jJ⟩,rfl,af,(nx lo.nd r2).symm⟩,p,b,eH,S,i,n,w,h,L,E,m,c,q,Ϝ,rfl,lp,af,hm,ak,ye,E9,λr bw oZ Fe Ff tQ=>?_⟩);left;obtain⟨ts,ku,AX⟩:=tQ;obtain⟨adk,AY,_⟩:=id lp.hY;have ig:=lp.b oZ Fe
   have yh:=oZ _ _ r1 NH.symm
   have AZ:=oZ _ _ jJ (bM jJ AY nofun)
   have Pe:=tm (f:=ŧ (e7 Ϝ) i w L E n) (lo.ĵ j) (λm c q a1 a2 gP=>Au o.Ϻ a1 a2 dS gP)
   have rws:=Au (op:=e7 Ϝ) (i:=i) (n:=n) (q:=q) o.Ϻ hm ak dS dJ
   have adl:r≠ir:=λz=>by rw[z,r1]at Ff;cases Ff
   right;refine⟨r,rfl,⟨_,aM.of ku⟩,pV (K:=D.bP) (a:=r) (F:=ts.ϒ V.Z) (λl J dt=>∃y z,cM ir bw dt/\dt ir=O (.bQ (((ŧ (e7 Ϝ) i w L E n m c q).ĵ l).alw hW (Ñ (ŧ (e7 Ϝ) i w L E n) (c3.ĵ j))))/\J=[O (V.Z p),O (V.M t),O (V.Z bX),O (V.Z eH),O (V.Z ir),O (V.Z b),y,z]) ⟨y,z,jt (a5.Ô _),yh,rfl⟩ (λl J dt _ ⟨_,_,sB,_⟩=>aM.of (sB _ _ ku adl)) ?_ ?_⟩
   ·rintro l v J dt ϰ lB cg cA;left;obtain⟨y,z,sB,eh,rfl⟩:=cg;rw[Ϙ]at lB;obtain⟨u,bK,rfl⟩:=ξ.mp lB;obtain⟨e,au,iH,az,bY⟩:=ϋ.lM AX bK;have yd:fC bw dt:=sB.dh (λF z=>by rw[yh]at z;cases z)
    have tk:(ŧ (e7 Ϝ) i w L E n m c q).ĵ (l+1)=(ŧ (e7 Ϝ) i w L E n m c q).ĵ l++[e]:=by rw[ė,au];rfl
    have Fg:=Pe.fold (ps:=(ŧ (e7 Ϝ) i w L E n m c q).ĵ l) λx ai=>rws x (Y.g_ ai)
    have e3:=C0 Fg.hG.nd Fg.Em d3 l0.2
    rw[tk,Y.ans]at cA;right;ext;have tS:=yd _ _ bY
    refine⟨_,bN.of (yd _ _ az),rfl,_,_,rfl,_,_,rfl,rfl,.Œ ⟨_,.ε eh⟩,_,eK.t eh tS,e.2,rfl,_,W3 Fg.hG,?_⟩;split
    ·rename_i lt;refine⟨_,kH.t eh tS ⋯,cA _ _ ⟨_,_,mB sB,?_,rfl⟩⟩;rw[aQ];show _=O (bb.bQ (hW _ e))
     rw[W0 lt]
    ·rename_i lt;refine cA _ _ ⟨_,_,sB,?_,rfl⟩;show _=O (bb.bQ (hW _ e))
     rwa[W2 lt]
   ·rintro J dt ⟨y,z,sB,eh,rfl⟩;rw[ϧ,ϋ.N AX,İ,<- WY lN]at eh;exact adj _ _ ⟨sB _ _ AZ Fc,_,_,_,λcc bR jX cz cS h8=>sB _ _ (oZ _ _ (l3 _ _ jX cz cS h8) cz) cS,ig.Κ yh NH sB,eh,rfl⟩
  ·rintro J U cg;left;obtain⟨jJ,x,y,z,l3,lp,r1,rfl⟩:=cg;rw[İ,E8]at r1;have r3:fG D.ar D.bP (ſ U bX (.bQ c3)) p S i n w h L E:=lp.El jJ Lz jI.symm (mB (jt (a5.Ô _)))
   right;exact⟨⟨lV,jJ⟩,aq _ _ ⟨x,y,z,λcc bR eh nb=>by
    by_cases e:cc=bX
    ·rw[e]at eh ⊢;rw[gn]at eh;cases eh;exact aQ
    ·rw[aE e];exact l3 _ _ (s2 _ _ eh) nb (cF eh oY) e,r3.hY,by rwa[aE Fc.symm],rfl⟩⟩
 rintro cC bh J bw ⟨x,y,z,sB,bI,yh,rfl⟩;nofun;ext;exact ao ir bw sB bI oY yh
theorem adm:b0 D bx 8 (D.ar 68) q21 (Xt D.ar D.bP):=by
 refine cj (T 318) abc ?_;and_intros;obtain⟨p,bX,ϻ,nd,S,i,n,t,w,h,L,E,C,c3,m,c,q,rfl,o,bf,ap,dS,gn,lo,jI,gh,ny,ak,pre,ao⟩:=h;refine uq ⟨_,(aY (cv 5 R (df (cq (A 0 R) (by rfl)) (T 207) (T 104) (M1 T) HR (aj (cq (A 0 R) (by rfl)) (aj (A 1 R) aB))))
 (aY (cv 6 R (bU Qv (df (cq (A 0 R) (by rfl)) (T 188) (T 85) (M6 T) HR (aj (cm d2 (A 3 R) aV (λ_ _=>rfl)) aB)) (jg (aj (cm d2 (A 3 R) aV (λ_ _=>rfl)) aB))))
 (aT (zx (cX (UB rfl (eR HU)) R (T 180) (aj (Vo (iB (fz.of (gA:=bV D0) (tn:=["other"]) (cn:=["near","node","charge","comings","self","layer"]) (dQ:=[6,3,4,5,0,2]) rfl rfl ∅ ∅ ∅ ∅ rfl) (c8 rfl)  (H3 (A 2 R))
 (
 λ_ _ _ _ _=>(gU (i:=0) (show(["other","near","node","charge","comings","self","layer"]:Y ϕ).Α by decide +Ė) rfl (Or.ε rfl))) (λ_ _ _ _ _=>(n7 (e9.pt (jL (cR (RJ (K:=D.bP) rfl) (cm (q3 (K:=D.bP) rfl) (cx 0) aV (λ_ _=>rfl)) (cx 1)) (kb (cR (JW (K:=D.bP) rfl (CR HR)) (fs (aj (cx 2) (aj (cx 3) aB))) (df (cx 5) (T 209) (T 120) (Nz T) HR (aj (cx 4) (aj (cx 0) (aj (jl (eR HU) (cx 6) (cx 0) (λ_ _=>rfl)) aB)))))))))) (λ_ _ _ _ _=>(cx 0)))) aB)))))),?_⟩
 rfl';left;obtain⟨dx,g⟩:=id o.sp;obtain⟨AW,k1,_⟩:=id o.hY;obtain⟨⟨⟨db,oX⟩,Oo⟩,cy⟩:=id bf;obtain⟨agQ,adn,ado,agR⟩:=id o.rM.ob;have l0:=lP o.Ϻ
 right;refine zu (λJ U=>∃(eH:Ϩ)(Ϝ:Y (Ř×V)),H eH=none/\a5 H U/\U eH=O (.bL Ϝ)/\mC (c7 C S.n) t Ϝ/\J=[O (V.Z p),O (V.M t),O (V.Z bX),O (V.Z nd),O (V.M q),O (V.Z eH),none]) (λaP aq=>?_) ?_
 ·ext;exact(cp g (T 209) (T 212) (Aq S) ⟨S.bf,rfl,dZ oX (js ϻ ∅) (cp g (T 209) (T 213) (Ap S) ⟨S.bf,ϻ,C,S.n,t,rfl,bf,λl Ϝ U nl s aw ak=>aq _ _ ⟨l,Ϝ,nl,s,aw,ak,rfl⟩⟩)⟩)
 rintro cC bh J H1 ⟨eH,Ϝ,yf,s1,iO,yg,rfl⟩;nofun;have E8:e7 Ϝ=fm (c7 C S.n) t:=funext λc=>funext λo=>LC yg (ap.Pd λx ai=>(pT.mp ai).1) (cy.IR S.n).nd
 have E9:∀(z:G) v,aW Ϝ (.ε z)=O v->v=.br\/∃i,v=.M i:=λz v hz=>by
  left;obtain⟨e,_,_,he⟩:=yg.rk z v hz
  right;rw[<- he];exact oj _ _ _
 refine zu (λJ U=>∃de:Ϩ,a5 H1 U/\U de=O (.Ť ((fk w L c++[c]).ϒ V.M))/\J=[O (V.Z p),O (V.M t),O (V.Z bX),O (V.Z nd),O (V.M q),O (V.Z eH),O (V.Z de)]) (λaP aq=>?_) ?_
 ·ext;have nb:(fY w h adn L).Ϣ ("beside":ϕ)=none:=jc ∅ ∅ ∅ ∅
  refine(cp (s1 _ _ g) (T 209) (T 210) (Ej S) ⟨S.aZ,rfl,dZ (s1 _ _ ado) nb (dM (v:=V.M c) (bN.of (s1 _ _ ny)) rfl ⟨S.aZ,w,h,L,c,rfl,o.rM.ű s1,o.Ϻ,λr aC aO s2 aI=>(dM (v:=V.M c) (bN.of (s2 _ _ (s1 _ _ ny))) rfl ⟨by rw[ρ];decide,λp1 cz=>⟨r,rfl,_,by rwa[aE (cF aI cz)],_,aQ,?_,λdp cS=>aq _ _ ⟨dp,(s2.Ϛ (zj cz)).Ϛ (zj cS),by rw[aQ,Ε];rfl,rfl⟩⟩⟩)⟩)⟩);have bl:=xx (w:=w) (L:=L) (c:=c)
  rw[ϧ];show _+1<=_
  omega
 rintro cC bh J aC ⟨de,s2,Fh,rfl⟩;nofun;left;have nO:=s1.Ϛ s2
 have ff:=o.ű nO
 have qu:=nO _ _ gn
 have Fb:=s2 _ _ iO
 obtain⟨rA,dH,cI,a3,au,az⟩:=Xs lo pre;rw[<- E8]at az ao;have mL:=C0 lo.nd (λk aq=>by
  left;obtain⟨x,ai,rfl⟩:=Ζ.mp aq;obtain⟨m,c,q,rfl,hm,ak,_⟩:=lo.ok x ai;right;exact⟨m,c,rfl,hm,ak.1,ak.2⟩) o.d3 l0.2
 right;ext;refine⟨bX,c3,qu,c3,qu,λlV=>Vp (λj ys U=>U bX=O (.cW lV (.bQ c3))/\∃ts:Y Ϩ,ys=ts.ϒ V.Z/\(∀cc bR,aC cc=O bR->cc≠S.bI->cc≠bX->U cc=O bR)/\fG D.ar D.bP U p S i n w h L E/\ts.N<=j/\(∀x∈ts,∃(ba:B)(aX bC:G),(bD ba aX,V.M bC)∈c3/\U x=O (.Ţ ((bD ba aX).ϒ bH))/\(bD m c,q)∈ŧ (e7 Ϝ) i w L E n ba aX bC)/\(∀(nQ ba:B)(aX bC:G),nQ<j->c3[nQ]?=O (bD ba aX,V.M bC)->(bD m c,q)∈ŧ (e7 Ϝ) i w L E n ba aX bC->∃x∈ts,U x=O (.Ţ ((bD ba aX).ϒ bH)))) ⟨aQ,[],rfl,λcc bR eh _ nl=>by rwa[aE nl],ff.Κ qu jI.symm (mB (jt (a5.Ô _))),B.ϑ _,λx ai=>(by cases ai),λ_ _ _ _ z=>by omega⟩ (λj ys U _ h=>h.1) ?_ ?_⟩
 ·rintro j k v b ys U lN af cg;left;obtain⟨jJ,ts,rfl,l3,lp,r1,r3,A0⟩:=cg;have r2:=ύ lN
  obtain⟨ba,aX,bC,Fd,mw,hL,dJ⟩:=lo.ok _ r2;cases Fd;obtain⟨h6,aI⟩:=id lp.sp;obtain⟨adk,AY,_⟩:=id lp.hY;have ye:U eH=O (.bL Ϝ):=l3 _ _ Fb (cF k1 yf).symm (cF gn yf).symm
  have adp:de≠S.bI:=bM Fh (nO _ _ k1) nofun
  have adq:de≠bX:=bM Fh qu nofun
  have nR:U nd=O (.Ţ ((bD m c).ϒ bH)):=l3 _ _ (nO _ _ ny) (bM ny k1 nofun) (bM ny gn nofun)
  have NI:∀{bw:ag},fC U bw->∀x∈ts,∃(ba:B)(aX bC:G),(bD ba aX,V.M bC)∈c3/\bw x=O (.Ţ ((bD ba aX).ϒ bH))/\(bD m c,q)∈ŧ (e7 Ϝ) i w L E n ba aX bC:=λs x ai=>by
   left;obtain⟨a,b,e,f,Ϻ,r⟩:=r3 x ai;right;exact⟨a,b,e,f,s _ _ Ϻ,r⟩
  have Fi:∀{bw:ag}{Fj:Y Ϩ},fC U bw->(∀x∈ts,x∈Fj)->((bD m c,q)∈ŧ (e7 Ϝ) i w L E n ba aX bC->∃x∈Fj,bw x=O (.Ţ ((bD ba aX).ϒ bH)))->∀(nQ di:B)(cE b9:G),nQ<j+1->c3[nQ]?=O (bD di cE,V.M b9)->(bD m c,q)∈ŧ (e7 Ϝ) i w L E n di cE b9->∃x∈Fj,bw x=O (.Ţ ((bD di cE).ϒ bH)):=λs Pd OR nQ di cE b9 kk e r=>by
   by_cases z:nQ=j
   ·rw[z,lN]at e;injection e with e
    injection e with au az
    injection az with az
    obtain⟨dg,d8⟩:=lU au;subst dg d8 az;exact OR r
   ·left;obtain⟨x,ai,ex⟩:=A0 nQ di cE b9 ⋯ e r;right;exact⟨x,Pd x ai,s _ _ ex⟩
  right;ext;refine(dM (v:=V.M aX) (bN.of af) rfl ⟨(fk w L c++[c]).ϒ V.M,.ε (aM.of (l3 _ _ Fh adp adq)),rfl,by rw[all_map];exact ù.ļ λ_ _=>rfl,?_⟩);rw[RK];split
  ·refine⟨by rw[ρ];decide,λp1 cz=>?_⟩;have s3:=zj (o:=bb.Ţ [V.Z nd,V.M q]) cz
   have NJ:=lp.ű s3
   refine(dZ (s3 _ _ aI) (rL S ∅) ⟨.M bC,.Œ ⟨c3,bD ba aX,b,.Œ ⟨lV,s3 _ _ jJ⟩,rfl,s3 _ _ af,(nx lo.nd r2).symm⟩,p,b,eH,S,i,n,w,h,L,E,ba,aX,bC,Ϝ,rfl,NJ,s3 _ _ af,mw,hL,s3 _ _ ye,E9,λr bw oZ Fe Ff tQ=>?_⟩);left;obtain⟨us,ku,AX⟩:=tQ;have lY:fC (ſ U p1 (bb.Ţ [V.Z nd,V.M q])) bw:=oZ.dh (λF z=>by rw[s3 _ _ AY]at z;cases z)
   have r4:fC U bw:=λb F z=>lY _ _ (s3 _ _ z)
   have ig:=NJ.b oZ Fe
   have rws:=Au (op:=e7 Ϝ) (i:=i) (n:=n) (q:=bC) o.Ϻ mw hL dS dJ
   obtain⟨ϻ,d4,ea⟩:=pick (K:=D.bP) (H:=bw) (p1:=p1) (x1:=(bD m c,q)) ⟨nd,lY _ _ aQ,r4 _ _ nR⟩ AX ⟨m,c,rfl⟩ λx ai=>let⟨_,a,b,e,_⟩:=rws x ai;⟨a,b,e⟩
   have NK:∀cc bR,aC cc=O bR->cc≠S.bI->cc≠bX->bw cc=O bR:=λcc bR g ah aI=>oZ _ _ (s3 _ _ (l3 _ _ g ah aI)) ah
   have NL:=oZ _ _ (s3 _ _ jJ) (bM jJ AY nofun)
   right;refine⟨r,rfl,us,aM.of ku,ϻ,d4,?_⟩;split
   ·rename_i z;refine⟨by have:=(Y.Ϧ.mp lN).1;rw[ϧ];omega,NL,ts++[b],by rw[Ε];rfl,NK,ig,by rw[υ];show _+1<=_;omega,λx ai=>?_,Fi r4 (λ_ h=>ŭ _ h) λ_=>⟨b,ź _ (ϖ.ļ rfl),r4 _ _ af⟩⟩;rcases κ.mp ai with ai|ai
    ·exact NI r4 x ai
    ·rw[ϖ.mp ai];exact⟨ba,aX,bC,r2,r4 _ _ af,ea.mp z⟩
   ·rename_i z;exact⟨NL,ts,rfl,NK,ig,⋯,NI r4,Fi r4 (λ_ h=>h) λr=>bJ (ea.ļ r) z⟩
  ·rename_i z;exact⟨jJ,ts,rfl,l3,lp,⋯,r3,Fi (λ_ _ h=>h) (λ_ h=>h) λr=>bJ (ι (κ.ļ ((Xr o.Ϻ mw hL (gh ba aX bC r2) r).Pg id λy=>ϖ.ļ y))) z⟩
 ·rintro ys U cg;left;obtain⟨jJ,ts,rfl,l3,lp,r1,r3,A0⟩:=cg;right;refine⟨by rw[ϧ];omega,λ϶ eI=>?_⟩;have A1:bX≠϶:=cF jJ eI
  generalize qX:ſ (ſ U ϶ (bb.Ť (ϒ V.Z ts))) bX (bb.bQ c3)=yi
  have Fm:fC U yi:=λx F Ϻ=>by rw[<- qX,aE (bM Ϻ jJ nofun),aE (cF Ϻ eI)];exact Ϻ
  let jH:Ϩ->Y G:=λx=>match yi x with
   | O (.Ţ [.M a,.M b])=>[a,b]
   | _=>[]
  have Fn:∀{x:Ϩ}{ba:B}{aX:G},U x=O (.Ţ ((bD ba aX).ϒ bH))->jH x=[(ba:G),aX]:=λ{x ba aX} Ϻ=>by
   show(match yi x with
    | O (.Ţ [.M a,.M b])=>[a,b]
    | _=>([]:Y G))=_
   rw[Fm _ _ Ϻ];rfl
  have ne:ts≠[]:=λz=>by
   obtain⟨x,ai,_⟩:=A0 rA dH cI a3 (Y.Ϧ.mp au).1 au az;rw[z]at ai;cases ai
  refine⟨⟨lV,by rwa[aE A1]⟩,ts,aM.of (by rw[<- qX,aE A1.symm,aQ]),ne,jH,λx ai=>?_,λr aO le=>?_⟩
  ·left;obtain⟨a,b,e,f,Ϻ,_⟩:=r3 x ai;right;rw[Fn Ϻ];exact Fm _ _ Ϻ
  ·left;obtain⟨a,b,e,f,Ϻ,g6⟩:=r3 r aO;have ads:fG D.ar D.bP (ſ U bX (.bQ c3)) p S i n w h L E:=lp.El jJ Lz jI.symm (mB (jt (a5.Ô _)))
   have Aw:yi=ſ (ſ U bX (bb.bQ c3)) ϶ (bb.Ť (ϒ V.Z ts)):=by
    rw[<- qX];funext x
    by_cases cQ:x=bX
    ·rw[cQ,aQ,aE A1,aQ]
    ·rw[aE cQ];by_cases da:x=϶
     ·rw[da,aQ,aQ]
     ·rw[aE da,aE da,aE cQ]
   have NM:a5 (ſ U bX (bb.bQ c3)) yi:=by
    rw[Aw];exact zj (by rwa[aE A1.symm])
   right;refine ao r _ a b e (λcc bR eh nb=>NM _ _ ?_) (ads.hY.ű NM) (Fm _ _ Ϻ) (nx lo.nd f) ⟨⟨e,nx lo.nd f,g6⟩,λy ⟨AA,adt,bu⟩=>?_⟩
   ·by_cases z:cc=bX
    ·rwa[z,aQ,<- gn,<- z]
    ·rw[aE z];exact l3 _ _ (nO _ _ eh) nb z
   ·obtain⟨nQ,A2⟩:=Ŏ (rO adt);obtain⟨x,ai,ex⟩:=A0 nQ y.1 y.2 AA (Y.Ϧ.mp A2).1 A2 bu;have:=le x ai
    rw[Fn Ϻ,Fn ex]at ν;exact ν
theorem adu:b0 D bx 8 (D.ar 90) HS (XZ D.ar):=by
 refine cj (T 336) abd ?_;and_intros;obtain⟨p,S,w,h,L,t,rs,C,k,e,r,rfl,aR,he,aO,ao⟩:=h;refine uq ⟨_,(aY (cv 2 R (df (cq (A 0 R) (by rfl)) (T 207) (T 102) (M0 T) HR (aj (A 1 R) aB)))
 (aY (cv 3 R (cU (mZ T) R (T 48) (aj (A 2 R) (aj (cq (A 0 R) (by rfl)) aB))))
 (
 aT (zx (cU (acY T) R (T 52) (aj (cq (A 0 R) (by rfl)) (aj (cm eO (cq (A 0 R) (by rfl)) (A 1 R) (λ_ _=>rfl)) (aj (A 3 R) (aj (cU (mZ T) R (T 48) (aj (A 2 R) (aj (bU eW (cq (A 0 R) (by rfl)) aV) aB))) (aj (cm eO (cq (A 0 R) (by rfl)) (A 1 R) (λ_ _=>rfl)) aB)))))))))),?_⟩
 rfl';left;obtain⟨dx,av⟩:=aR.ob;obtain⟨hm,dK,eb,hw,ty,cG,h4,tT⟩:=aR.ent he;rw[aO]at h4;cases h4;obtain⟨⟨⟨db,af⟩,hd⟩,cy⟩:=id aR.bf;obtain⟨ms,DH,pm⟩:=aR.ct;obtain⟨m,em,ak,g,ah,aI⟩:=ϋ.Ph pm aO;obtain⟨bC,ai,_⟩:=tT.next
 have ci:=tT.now.2.2.1
 right;ext;rw[<- dK];refine(cp av (T 218) (T 223) (tu S t) ⟨S.bf,rfl,dZ af (js S.ϻ ∅) ⟨S.bf,S.ϻ,C,e,rfl,aR.bf.1,cy.nd,hm,cp av (T 218) (T 220) (oO S t) ⟨e.v,e.b,e.c,t,rfl,hw,ty.1,?_⟩⟩⟩);rw[rQ eb,dK];refine(cp av (T 218) (T 219) (xJ S t) (cp av (T 218) (T 221) (oN S t) ⟨S.ct,rfl,mG (v:=V.Z m) (aM.of DH) (gW (by rw[Ϙ,em];rfl)) (cp av (T 218) (T 220) (oO S t) ⟨t,rfl,e.v,e.b,e.c,t+1,rfl,hw,ty.1,?_⟩)⟩));rw[rQ ⋯];exact(cp av (T 218) (T 222) (Ay S t) ⟨S.ch,rfl,mG (v:=V.M r.q) (aM.of aR.ch) (gW (by rw[Ϙ,aO];rfl)) ⟨m,S.aZ,r.i,r.n,w,h,L,_,_,r.q,bC,rfl,ak,⋯,aR.aZ,aR.Ϻ,ci,ai,λU s=>ao U bC s ai⟩⟩)
theorem adv:b0 D bx 9 (D.ar 77) q35 (Xv D.ar D.bP):=by
 refine cj (T 326) abe ?_;and_intros;obtain⟨p,mk,nd,ϻ,S,i,n,T0,i6,w,h,L,E,C,m,c,q,as,ms,ϴ,rfl,o,bf,ap,dS,r5,AF,adw,seg,adx,ady,ny,cP,ao⟩:=h;refine uq ⟨_,(aY (cv 4 R (jl (eR HU) (cm d2 (cm eO (A 1 R) (n0 n1 aV) (λ_ _=>rfl)) aV (λ_ _=>rfl)) (A 3 R) (λ_ _=>rfl)))
 (aY (cv 5 R (jg (aj (cm d2 (A 3 R) aV (λ_ _=>rfl)) aB)))
 (aY (ul Ų.Ï (c8 rfl) (Vx (eQ Mk) (T 184).1 (A 1 R)) (l9 (n:=2) (c8 rfl) (gJ (et 6 R) (gJ (et 7 R) l8)))
 (aT (sj Ų.Ï (cR uc (A 2 R) (A 6 R))
 (aY (Dd 2 R aV amc)
 (aY (cv 3 R (df (A 0 R) (T 209) (T 119) (adm T) HR (aj (A 2 R) (aj (A 7 R) (aj (A 3 R) (aj (A 4 R) aB))))))
 (aY (cv 4 R (jl (eR HU) (A 7 R) (A 3 R) (λ_ _=>rfl)))
 (aT (fg (jR ϟ.ϴ.ō ϟ.ϴ.ř ϟ.ϴ.Ň lF (A 5 R) (aj (cm d2 (A 3 R) aV (λ_ _=>rfl)) aB))))))))))
 (
 aT (zx (Vr rfl (eQ Mk) (T 184).1 (eQ ZH) (T 178).1 (A 5 R))))))),?_⟩
 rfl';left;obtain⟨t0,h1,nS,ev⟩:=ady;obtain⟨gl,lZ⟩:=adx;obtain⟨dx,g⟩:=id o.sp;obtain⟨AW,k1,_⟩:=id o.hY;have Fo:as.N=ms.N:=by rw[ϋ.N AF,Ú]
 have agS:0<ms.N:=(Y.Ϧ.mp nS).1
 have mark:∀{U:ag}(i:B) t f,cM S.bI H U->ms[i]?=O (t,f)->∃a bX,as[ms.N-1-i]?=O a/\U a=O (.Ţ [.M t,.Z bX])/\U bX=O (.bQ f)/\bX≠S.bI:=λ{U} i t f s e=>by
  left;have aA:=(Y.Ϧ.mp e).1
  have er:ms.Ĭ[ms.N-1-i]?=O (t,f):=by
   rwa[Y.s_ ⋯,show ms.N-1-(ms.N-1-i)=i by omega]
  obtain⟨a,aN,bX,g,ah,aI⟩:=ϋ.Ph AF er;right;exact⟨a,bX,aN,s _ _ g (bM g k1 nofun),s _ _ ah aI,aI⟩
 right;refine zu (λJ U=>U=H/\J=[O (V.Z p),O (V.Z mk),O (V.M T0),O (V.Z nd),O (V.M q),none,none,none]) (λaP aq=>?_) ?_
 ·ext;left;obtain⟨a,bX,aN,g,ah,aI⟩:=mark 0 t0 h1 (jt (a5.Ô _)) nS;right;refine(mG (v:=V.Z a) (aM.of r5) (Xu ?_) ⟨a,rfl,dM (v:=V.Z bX) (bN.of g) rfl ⟨bX,rfl,.M q,by rw[<- ev];exact eK.t ah ny,aq _ _ ⟨rfl,rfl⟩⟩⟩);rw[B.sub_zero]at aN;rw[ϧ,Ϙ,Fo,aN];rfl
 rintro cC bh J fM ⟨rfl,rfl⟩;nofun;refine zu (λJ U=>∃cl:Ϩ,fM cl=none/\a5 fM U/\U cl=O (.Ť [V.M c])/\J=[O (V.Z p),O (V.Z mk),O (V.M T0),O (V.Z nd),O (V.M q),O (V.Z cl),none,none]) (λaP aq=>?_) ?_
 ·ext;exact(dM (v:=V.M c) (bN.of ny) rfl ⟨by rw[ρ];decide,λcl yj=>aq _ _ ⟨cl,yj,zj yj,aQ,rfl⟩⟩)
 rintro cC bh J H1 ⟨cl,yj,s1,gc,rfl⟩;nofun;have adz:cl≠S.bI:=(cF k1 yj).symm
 refine zu (λJ U=>∃(rs:Y (B×G))(fX dg d8 c2 gV:ϣ V),cM S.bI fM U/\fF U S.bI i w L E/\U cl=O (.Ť ((rs.ϒ (·.2)).ϒ V.M))/\((rs.N:G)=T0-i6+1/\lb (λu=>ŧ (fm (c7 C S.n) u) i w L E n) ϴ T0 (m,c) rs)/\J=[O (V.Z p),O (V.Z mk),fX,dg,d8,O (V.Z cl),c2,gV]) (λaP aq=>?_) ?_
 ·ext;refine⟨_,aM.of (s1 _ _ r5),Vy (K:=D.bP) (a:=mk) (F:=as.ϒ V.Z) (λj J U=>cM S.bI fM U/\∃(T:G)(h5:Ϩ)(ba:B)(aX bC:G)(rs:Y (B×G))(c2 gV:ϣ V),fG D.ar D.bP U p S i n w h L E/\U cl=O (.Ť ((rs.ϒ (·.2)).ϒ V.M))/\U h5=O (.Ţ ((bD ba aX).ϒ bH))/\((rs.N:G)=T0-T+1/\T<=T0/\rs.aiQ=O (ba,aX)/\aW (ϴ T) (bD ba aX)=O (.M bC)/\lb (λu=>ŧ (fm (c7 C S.n) u) i w L E n) ϴ T0 (m,c) rs)/\(∀t f,ms[j]?=O (t,f)->qh (jd (c7 C S.n) i w L E n) ϴ t f T (bD ba aX) bC)/\(j=ms.N->T=i6)/\J=[O (V.Z p),O (V.Z mk),O (V.M T),O (V.Z h5),O (V.M bC),O (V.Z cl),c2,gV]) ⟨jt s1,T0,nd,m,c,q,[(m,c)],none,none,o.ű s1,gc,s1 _ _ ny,⟨by show(1:G)=_;omega,G.ϑ _,rfl,by rwa[(seg.Đ t0 h1 nS).2.2 T0 (seg.Đ t0 h1 nS).1 (G.ϑ _)],lb.Pb⟩,λt f e=>by rw[nS]at e;cases e;exact seg.first nS ev,λz=>by omega,rfl⟩ (λj J U _ h=>aM.of (h.1 _ _ r5 (bM r5 k1 nofun))) ?_ ?_⟩
  ·rintro j x J U ϰ bg ai cg cA;left;obtain⟨sB,T,h5,ba,aX,bC,rs,c2,gV,bR,o1,nR,hT,l4,_,rfl⟩:=cg;rw[ϧ]at bg ai;rw[Ϙ]at ai;obtain⟨gx,kj,rfl⟩:=ξ.mp ai;have l1:ms[j]?=O (ms[j]'⋯):=ϡ ⋯
   generalize ms[j]'⋯=adA at l1
   obtain⟨t,f⟩:=adA;obtain⟨a,bX,aN,NN,adB,nT⟩:=mark j t f (jt (a5.Ô _)) l1;have NO:=sB _ _ NN (bM NN k1 nofun)
   rw[Fo,aN]at kj;cases kj;have l4:=l4 t f l1
   obtain⟨lo,gh,eY⟩:=adw _ (ύ l1);have eY:i6<=t:=eY
   have done:∀{T:G}{h5:Ϩ}{ba:B}{aX bC:G}{rs:Y (B×G)}{U:ag},cM S.bI fM U->fG D.ar D.bP U p S i n w h L E->U cl=O (.Ť ((rs.ϒ (·.2)).ϒ V.M))->U h5=O (.Ţ ((bD ba aX).ϒ bH))->((rs.N:G)=T0-T+1/\T<=T0/\rs.aiQ=O (ba,aX)/\aW (ϴ T) (bD ba aX)=O (.M bC)/\lb (λu=>ŧ (fm (c7 C S.n) u) i w L E n) ϴ T0 (m,c) rs)->qh (jd (c7 C S.n) i w L E n) ϴ t f T (bD ba aX) bC->¬t<T->ϰ [O (V.Z p),O (V.Z mk),O (V.M T),O (V.Z h5),O (V.M bC),O (V.Z cl),O (V.M t),O (V.Z bX)] U:=λ{T h5 ba aX bC rs U} sB bR o1 nR hT l4 z=>by
    have e:T=t:=by have:=l4.le;omega
    subst e;refine cA _ _ ⟨sB,T,h5,ba,aX,bC,rs,_,_,bR,o1,nR,hT,λt' i3 bq=>seg.next l1 bq (l4.now rfl),λz=>?_,rfl⟩;rw[Y.aja,show ms.N-1=j by omega,l1]at lZ;cases lZ;rfl
   right;ext;refine⟨_,bN.of NO,rfl,_,_,rfl,_,_,rfl,rfl,λp4 J U=>∃(T:G)(h5:Ϩ)(ba:B)(aX bC:G)(rs:Y (B×G)),p4=(T-t).Ο/\cM S.bI fM U/\fG D.ar D.bP U p S i n w h L E/\U cl=O (.Ť ((rs.ϒ (·.2)).ϒ V.M))/\U h5=O (.Ţ ((bD ba aX).ϒ bH))/\((rs.N:G)=T0-T+1/\T<=T0/\rs.aiQ=O (ba,aX)/\aW (ϴ T) (bD ba aX)=O (.M bC)/\lb (λu=>ŧ (fm (c7 C S.n) u) i w L E n) ϴ T0 (m,c) rs)/\qh (jd (c7 C S.n) i w L E n) ϴ t f T (bD ba aX) bC/\J=[O (V.Z p),O (V.Z mk),O (V.M T),O (V.Z h5),O (V.M bC),O (V.Z cl),O (V.M t),O (V.Z bX)],⟨_,T,h5,ba,aX,bC,rs,rfl,sB,bR,o1,nR,hT,l4,rfl⟩,?_⟩;clear l4 hT nR o1 bR NO sB;rintro p4 J bw cg;left;obtain⟨T,h5,ba,aX,bC,rs,rfl,sB,bR,o1,nR,hT,l4,rfl⟩:=cg;right;ext;split
   ·left;rename_i lt;obtain⟨MP,aI⟩:=id bR.sp;obtain⟨NP,k3,_⟩:=id bR.hY;have AZ:=sB _ _ adB nT
    have NQ:=l4.Xp lt
    have rws:=λm c q a1 a2 gP=>Au (op:=fm (c7 C S.n) (T-1)) (i:=i) (E:=E) (m:=m) (c:=c) (q:=q) o.Ϻ a1 a2 dS gP
    have kq:=tp (f:=ŧ (fm (c7 C S.n) (T-1)) i w L E n) lo rws
    obtain⟨r,e,lY,_⟩:=kq.to _ _ NQ;cases e;obtain⟨di,cE,b9,ex,_,g4,_⟩:=(tm lo rws).bX.ok _ (rO NQ);obtain⟨adC,_⟩:=I1.IQ.mp ex;obtain⟨_,rfl⟩:=lU adC;right;refine⟨_,λ_ _ z=>z,dZ aI (rL S ∅) ⟨p,bX,ϻ,h5,S,i,n,T-1,w,h,L,E,C,f,ba,aX,bC,rfl,bR,bf.b k1 sB,ap,dS,AZ,lo,nT,gh,nR,g4,lY,λr cK di cE b9 g5 iQ m1 v4 mL=>?_⟩⟩;left;have qv:=g5 _ _ AZ nT
    have yk:=g5 _ _ o1 adz
    have adD:(rs.ϒ (·.2)).ϒ V.M++[V.M cE]=((rs++[(di,cE)]).ϒ (·.2)).ϒ V.M:=by rw[Ε,Ε];rfl
    have yl:cM S.bI fM (ſ cK cl (.Ť (((rs++[(di,cE)]).ϒ (·.2)).ϒ V.M))):=λb o af nb=>by
     rw[aE (cF af yj)];exact g5 _ _ (sB _ _ af nb) nb
    have d7:rs.ϒ (·.2)≠[]:=λz=>by
     have z:=ż N z
     rw[ϧ]at z;have z:rs.N=0:=z
     have:=hT.1
     omega
    have tR:fF (ſ cK cl (.Ť (((rs++[(di,cE)]).ϒ (·.2)).ϒ V.M))) S.bI i w L E:=iQ.but (iQ.ints yk d7) yk (mB (jt (a5.Ô _)))
    have xE:=l4.xE (T-1) ⋯ ⋯
    obtain⟨adE,agT,adF,adG,adH⟩:=hT;right;refine⟨.M b9,by rw[<- v4];exact eK.t qv m1,.ε ⟨rfl,_,aM.of yk⟩,r,rfl,dM (v:=V.M cE) (bN.of m1) rfl ⟨_,yk,?_,(T-1-t).Ο,⋯,T-1,rfl,?_⟩⟩
    ·rw[ϧ,ϧ];have:=ρ
     omega
    ·rw[adD];exact⟨yl,o.b yl tR,r,di,cE,b9,rs++[(di,cE)],aQ,by rwa[aE (λz=>by rw[z,yk]at m1;cases m1)],by rw[υ];show((rs.N+1:B):G)=_;omega,⋯,by rw[Y.getLast?_append];rfl,by rwa[xE],adH.O2 adF adE adG (mL.ű xE),l4.back lt v4,rfl⟩
   ·rename_i z;exact done sB bR o1 nR hT l4 z
  ·rintro J U ⟨sB,T,h5,ba,aX,bC,rs,c2,gV,bR,o1,nR,hT,_,NR,rfl⟩;rw[ϧ,Fo]at NR;have:=NR rfl
   subst ν;exact aq _ _ ⟨rs,_,_,_,_,_,sB,bR.hY,o1,⟨hT.1,hT.2.2.2.2⟩,rfl⟩
 rintro cC bh J aC ⟨rs,fX,dg,d8,c2,gV,sB,NS,jV,hT,rfl⟩;nofun;ext;exact⟨_,aM.of jV,λr de=>ao r _ rs (λb o af nb=>(zj de) _ _ (sB _ _ af nb)) (NS.ű (zj de)) (by
  cases e:fM r with
  | none=>rfl
  | O u=>
   by_cases z:r=S.bI
   ·obtain⟨bS,y,_⟩:=id NS;rw[z,y]at de;cases de
   ·rw[sB _ _ e z]at de;cases de) (by rw[aQ,Y.map_reverse]) hT.1 hT.2⟩
theorem adI:∃t fd,(ô D.bP fd q39 []/\ô D.bP fd q39 [.M 1 t])/\ft D.jz D.jA D.bP D.nB D.nC bx 9 (D.ar 89) fd q39 (X0 D.ar):=by
 obtain⟨t,fd,ϴ,ϸ,ym⟩:=(T 8);refine⟨t,fd,⟨ϸ,ym⟩,?_⟩;refine ϴ.ok Mr.sc.1 ?_ (λË Ϲ Ϗ s H d Q ϵ HR h=>IS λUq uq=>?_);walk_at "l"
 have R:fD _ _ _ _ _:=⟨Mr,HR⟩
 have ND:=R.nd
 walk_at "h"
 obtain⟨p,S,w,h,L,t,rs,C,rfl,aR,t1,ao⟩:=h;refine uq ⟨_,(aT (ul Ų.Ï (c8 rfl) (nZ (eQ Zs) (T 171).1 (aj (A 1 R) aB) (d3 rfl)) (et 2 R)
 (aY (gL (A 0 R) (iB (fz.of (gA:=bV vy) (tn:=["number"]) (cn:=I_) (dQ:=[0]) rfl rfl ∅ ∅ ∅ ∅ rfl) (c8 rfl)  (gu (ki (A 0 R) (T 218) (T 125) (AH T) HR))
 (λ_ _ _ _ _=>(gU (i:=0) (show(["number","self"]:Y ϕ).Α by decide +Ė) rfl (Or.ε rfl))) (λ_ _ _ _ _=>kN) (λ_ _ _ _ _=>(df (cx 1) (T 218) (T 134) (adu T) HR (aj (cx 0) aB)))) rfl)
 (
 aT (PK (A 0 R) aV PN))))),?_⟩
 rfl';obtain⟨dx,av⟩:=aR.ob;ext;refine⟨by decide,by decide,ro (λj J U=>(j=0/\U=H/\J=[O (V.Z p),O (V.M 1),none])\/(j=1/\∃fN cZ,cM p H U/\H fN=none/\dj D.ar U p ⟨S.aZ,S.ct,fN,S.bf,S.nd,S.ϻ⟩ w h L (t+1) cZ C/\tw w L t C rs cZ)) (.ε ⟨rfl,rfl,rfl⟩) ?_ ?_⟩
 ·rintro j J U ϰ bg cx cA;left;obtain⟨rfl,rfl,rfl⟩:j=0/\U=H/\J=[O (V.Z p),O (V.M 1),none]:=cx.resolve_right λz=>by have:j<1:=bg;omega
  right;refine zu (λJ H1=>∃(fN:Ϩ)(cZ:Y dW)(x:ϣ V),cM p U H1/\H1 p=O (.Â (D.ar 120) dx (g0 ⟨S.aZ,S.ct,fN,S.bf,S.nd,S.ϻ⟩ t))/\H1 fN=O (.Ť (cZ.ϒ λr=>.M r.q))/\U fN=none/\tw w L t C rs cZ/\J=[O (V.Z p),O (V.M 1),x]) (λaP aq=>?_) ?_
  ·ext;refine(dZ av (h3 S t ∅) ⟨p,S,w,h,L,t,rs,C,rfl,aR,λl nl=>⟨l,rfl,⟨_,aM.of aQ⟩,?_⟩⟩);have s1:=zj (o:=bb.Ť ((Ć rs.N).ϒ λk=>V.M ((k:B):G))) nl
   have hk:=aR.hk
   have fP:=ρ
   have Fp:=λ{aC:ag}(s:a5 U aC) (aw:aC l=O (.Ť ((Ć rs.N).ϒ λk=>V.M ((k:B):G))))=>UF (K:=D.bP) (aM.of aw)
   refine zd (n:=rs.N) (x:=λi=>V.M ((i:B):G)) (λj ys aC=>a5 U aC/\aC l=O (.Ť ((Ć rs.N).ϒ λk=>V.M ((k:B):G)))/\∃cZ:Y dW,ys=cZ.ϒ (λr=>V.M r.q)/\cZ.N=j/\∀(k:B) e r cG,C[k]?=O e->rs[k]?=O r->cZ[k]?=O cG->cG.i=r.i/\cG.n=r.n/\kr r.i w L r.n (cV e.b e.c t) (cV e.b e.c (t+1)) r.q=O cG.q) ⟨s1,aQ,[],rfl,rfl,λk e r cG _ _ z=>by cases z⟩ (λi ys aC aA ⟨s,aw,_⟩=>?_) (λys aC ⟨s,aw,_⟩=>?_) (λi ys aC aA ⟨s,aw,cZ,au,az,bY⟩=>?_) λys aC ⟨s,aw,cZ,au,az,bY⟩=>?_
   ·have li:i<((Ć rs.N).ϒ λk=>V.M ((k:B):G)).N:=by rwa[ϧ,Ī]
    refine⟨(Fp s aw).go i li,λy dt oc=>?_⟩;obtain⟨cQ,da⟩:=(Fp s aw).fR i y dt li oc;exact⟨cQ,Eq.symm (by simpa [aA] using da)⟩
   ·have:=(Fp s aw).stop
    rw[ϧ,Ī]at ν;exact ν
   ·have le:i<C.N:=by rwa[aR.cy.1]
    have he:=ϡ le
    have aO:=ϡ aA
    subst au;ext;refine(dZ (s _ _ av) (h3 S t ∅) ⟨p,S,w,h,L,t,rs,C,i,_,_,rfl,aR.kt (hI s),he,aO,λbw bC s3 ai=>⟨by rw[ϧ];omega,s.Ϛ s3,s3 _ _ aw,cZ++[⟨rs[i].i,rs[i].n,bC⟩],by rw[Ε];rfl,by rw[υ,az];rfl,λk e r cG g ah aI=>?_⟩⟩);by_cases z:k=i
    ·left;subst z;rw[he]at g;rw[aO]at ah;cases g;cases ah;rw[Ő ⋯,show k-cZ.N=0 by omega]at aI;cases aI;right;exact⟨rfl,rfl,ai⟩
    ·have:=(Y.Ϧ.mp aI).1
     rw[υ]at ν;have:k<cZ.N+1:=ν
     rw[Ŭ ⋯]at aI;exact bY k e r cG g ah aI
   ·subst au;refine⟨by rw[ϧ];omega,λ϶ eI=>?_⟩;have lG:p≠϶:=λz=>by rw[<- z,s _ _ av]at eI;cases eI
    refine⟨_,_,_,by rw[aE lG];exact s _ _ av,(T 218),(T 222),by show(6:B)<1000;decide,aq _ _ ⟨϶,cZ,_,λb o af nb=>?_,by rw[aQ,X1],by rw[aE lG.symm,aQ],s.Ź eI,⟨az,bY⟩,rfl⟩⟩;rw[aE nb];exact(zj eI) _ _ (s _ _ af)
  rintro cC bh J H1 ⟨fN,cZ,x,sB,ay,ak,gk,tk,rfl⟩;nofun;ext;refine⟨_,_,_,ay,((T 218)),(T 220),V.M t,oO _ t,t,rfl,_,_,ay,by show(6:B)<1000;decide,cA _ _ (.Œ ⟨rfl,fN,cZ,λb o af nb=>by rw[aE nb];exact sB _ _ af nb,gk,aR.tick (fN:=fN) (dx:=dx) (λb o af nb=>by rw[aE nb];exact sB _ _ af nb) (by rw[aQ,X2]) ?_ gk tk t1,tk⟩)⟩;rwa[aE (λz=>by rw[<- z,ak]at ay;cases ay)]
 ·rintro J U cx;obtain⟨_,fN,cZ,sB,gk,DB,tk⟩:=cx.resolve_left λz=>by have:(1:B)=0:=z.1;omega
  exact ao U fN cZ sB gk DB tk
theorem adJ:b0 D (ht D.jz D.jA) 9 (D.ar 92) q14 (Ya D.ar):=by
 obtain⟨fd,ϴ,ϸ⟩:=(T 338);refine⟨fd,ϸ,?_⟩;refine ϴ.oe Ms.sc.1 ?_ (λË Ϲ Ϗ s H d Q ϵ HR h=>IS λUq uq=>?_);walk_at "l"
 have R:fD _ _ _ _ _:=⟨Ms,HR⟩
 have ND:=R.nd
 walk_at "h"
 obtain⟨p,S,w,h,L,t,rs,C,k,r,c,rfl,aR,aO,ao⟩:=h;refine uq ⟨_,(aY (cv 3 R (cm eO (cq (A 0 R) (by rfl)) (A 1 R) (λ_ _=>rfl)))
 (aY (c1 (sa (sy (eR HU) (uS (k:=1) (A 3 R) (cN (T 193) (T 93) (xR T) (cN (T 195) (T 94) (xS T) (cN (T 197) (T 98) (xU T) (cN (T 199) (T 86) (xQ T) iD)))) (HR.WF (by decide))) (cq (A 0 R) (by rfl))) (by with_unfolding_all rfl))
 (aT (qY (eR HU) (cq (A 0 R) (by rfl)) (uS (k:=1) (A 3 R) (cN (T 193) (T 93) (xR T) (cN (T 195) (T 94) (xS T) (cN (T 197) (T 98) (xU T) (cN (T 199) (T 86) (xQ T) iD)))) (HR.WF (by decide))) (cU (adb T) R (T 58) (aj (cq (A 0 R) (by rfl)) (aj (A 3 R) aB))) rfl))
 c4)
 (aY (c1 (sa (sy (eR HU) (A 2 R) (jl (eR HU) (cq (A 0 R) (by rfl)) (uS (k:=1) (A 3 R) (cN (T 193) (T 93) (xR T) (cN (T 195) (T 94) (xS T) (cN (T 197) (T 98) (xU T) (cN (T 199) (T 86) (xQ T) iD)))) (HR.WF (by decide))) (λ_ _=>rfl))) (by with_unfolding_all rfl))
 (aT (sI mx rfl (eQ Zp) (T 24) (T 229) (aj v6 aB) (Oo:=Y7) (he:=el rfl) (Tm:=eF rfl)))
 c4)
 (
 aT (zx (jl (eR HU) (jl (eR HU) (cq (A 0 R) (by rfl)) (uS (k:=1) (A 3 R) (cN (T 193) (T 93) (xR T) (cN (T 195) (T 94) (xS T) (cN (T 197) (T 98) (xU T) (cN (T 199) (T 86) (xQ T) iD)))) (HR.WF (by decide))) (λ_ _=>rfl)) (A 2 R) (λ_ _=>rfl))))))),?_⟩
 rfl';left;obtain⟨dx,av⟩:=aR.ob;obtain⟨ms,hm,pm⟩:=aR.ct;obtain⟨m,em,ak,g,ah,aI⟩:=ϋ.Ph pm aO;obtain⟨x,ex⟩:∃x,iI[r.i]?=O x:=⟨_,ϡ (show r.i<4 by omega)⟩;have dK:=L0 (D:=D.ar) ex g
 have fP:=ρ
 have A3:(cu "full" (V.M r.n) []).Ϣ ("kind":ϕ)=none:=jD r.n ∅
 obtain⟨tN,mw⟩:=id ak;obtain⟨tU,lQ,ea,h6⟩:=aR.nd;have adK:m≠S.nd:=bM mw lQ (λz=>nomatch z)
 right;refine zu (λJ U=>U=H/\J=[O (.Z p),O (.M (k:G)),O (.M c),O (.Z m)]) (λaP aq=>?_) ?_
 ·ext;exact(cp av (T 218) (T 221) (oN S t) ⟨S.ct,rfl,mG (v:=V.Z m) (aM.of hm) (gW (by rw[Ϙ,em];rfl)) (aq _ _ ⟨rfl,rfl⟩)⟩)
 rintro cC bh J H1 ⟨rfl,rfl⟩;nofun;refine zu (λJ U=>cM S.nd H1 U/\dj D.ar U p S w h L t rs C/\(∃Ϝ v,U S.nd=O (.bL Ϝ)/\aW Ϝ (.Œ x)=O v)/\J=[O (.Z p),O (.M (k:G)),O (.M c),O (.Z m)]) (λaP aq=>?_) ?_
 ·ext;refine⟨m,tN,_,(d5 D.ar r.i,ko x),dK,rfl,mw,A3,_,rfl,cp av (T 218) (T 224) (Ax S t) ⟨S.nd,rfl,aW tU (.Œ x),.ε ⟨tU,.Œ x,.ε lQ,rfl,rfl⟩,?_⟩⟩;cases ev:aW tU (.Œ x) with
  | O v=>
   rw[aD (λz=>nomatch z)];exact aq _ _ ⟨λb o af _=>af,aR,⟨tU,v,lQ,ev⟩,rfl⟩
  | none=>
   rw[aS (show(none:ϣ V).Ĵ=false from rfl)];refine(cp av (T 218) (T 219) (xJ S t) ⟨m,S.aZ,r.i,r.n,w,h,L,rfl,ak,⋯,aR.aZ,aR.Ϻ,λa ks aC na s2 aN adL=>?_⟩);have an:a≠S.nd:=λz=>by rw[z,lQ]at na;cases na
   have adM:a≠S.ϻ:=λz=>by rw[z,aR.bf.1.2]at na;cases na
   have mL:tU.N<=4:=by
    have:=sP ea.1 (m:=iI.ϒ IZ.Œ) λy aU=>let⟨z,hz,e⟩:=ea.2 y aU;Ζ.ļ ⟨z,hz,e.symm⟩
    rw[ϧ]at ν;exact ν
   refine(cp (s2 _ _ av) (T 218) (T 224) (Ax S t) ⟨m,tN,_,(d5 D.ar r.i,ko x),dK,rfl,s2 _ _ mw,A3,_,rfl,S.nd,rfl,_,kH.k (k:=.Œ x) (s2 _ _ lQ) ⋯,?_⟩);have sB:cM S.nd H1 (ſ aC S.nd (.bL (ß tU (.Œ x) (.Z a)))):=λb o af nb=>by rw[aE nb];exact s2 _ _ af
   refine aq _ _ ⟨sB,aR.Yb sB ⟨_,aQ,⟨sO ea.1,λy aU=>?_⟩,λy v aG=>?_⟩,⟨_,_,aQ,by rw[jU,aS rfl]⟩,rfl⟩
   ·rcases zJ aU with rfl|z
    ·exact⟨x,ύ ex,rfl⟩
    ·exact ea.2 y z
   ·rw[jU]at aG;split at aG
    ·cases aG;refine⟨a,_,rfl,an,adM,by rwa[aE an],adL⟩
    ·left;obtain⟨gx,adN,bG,bW,hb,iX,hn⟩:=h6 y v aG;right;exact⟨gx,adN,bG,bW,hb,by rw[aE bW];exact s2 _ _ iX,hn⟩
 rintro cC bh J aC ⟨sB,fw,⟨Ϝ,v,au,az⟩,rfl⟩;nofun;left;have z1:=sB _ _ mw adK
 obtain⟨ey,kF⟩:=fw.ob;obtain⟨zI,NT,agU,adO⟩:=fw.nd;rw[au]at NT;cases NT;obtain⟨a,ks,rfl,bW,hb,iX,hn⟩:=adO x v az;have g1:eK aC S.nd (.str x) (O (.Z a)):=.ε ⟨Ϝ,.Œ x,.ε au,rfl,az.symm⟩
 have g2:eK aC a (.M c) (aW ks (.ε c)):=.ε ⟨ks,.ε c,.ε iX,rfl,rfl⟩
 right;ext;refine(cp kF (T 218) (T 224) (Ax S t) ⟨m,tN,_,(d5 D.ar r.i,ko x),dK,rfl,z1,A3,_,rfl,S.nd,rfl,_,g1,a,rfl,_,g2,?_⟩);cases ev:aW ks (.ε c) with
 | none=>
  rw[aS (show(none:ϣ V).Ĵ=false from rfl)];exact⟨⋯,(ao aC sB fw).1⟩
 | O v=>
  rw[aD (λz=>nomatch z)];obtain⟨i,rfl⟩:=hn c v ev;rw[ev]at g2;exact(cp kF (T 218) (T 224) (Ax S t) ⟨m,tN,_,(d5 D.ar r.i,ko x),dK,rfl,z1,A3,_,rfl,S.nd,rfl,_,g1,a,rfl,_,g2,(ao aC sB fw).2 i⟩)
theorem NU:b0 D bx 10 (D.ar 104) q37 (YF D.ar D.gR):=by
 refine cj (T 350) abf ?_;and_intros;obtain⟨l,p,S,w,h,L,t,rs,C,rfl,aR,cY,t1,nU,ao⟩:=h;obtain⟨_,agV,⟨agW,adP⟩,adQ⟩:=adI T;refine uq ⟨_,(aY (cv 2 R (cU (Nv T) R (T 73) (aj (A 1 R) aB)))
 (aY (fg (Gr (A 1 R) (T 218) (T 133) adQ (HR.WF (by decide)) adP YA n3))
 (aY (cv 3 R (cU (Nv T) R (T 73) (aj (A 1 R) aB)))
 (aY (c1 (cR mi (cX gM R (T 170) (aj (A 3 R) aB)) (cX gM R (T 170) (aj (A 2 R) aB)))
 (aT (zx lu))
 c4)
 (aY (ul Ų.Ï (c8 rfl) (Jh (eQ Mh) (T 185).1 (aj (A 2 R) (aj (A 3 R) aB)) (iW rfl rfl) (d3 rfl)) (l9 (n:=2) (c8 rfl) (gJ (et 4 R) (gJ (et 5 R) l8)))
 (aY (si (A 4 R) (l9 (n:=4) (c8 rfl) (gJ (et 6 R) (gJ (et 7 R) (gJ (et 8 R) (gJ (et 9 R) l8))))))
 (aY (c1 (gH (anV sm sm aV (cm d2 (A 5 R) aV (λ_ _=>rfl)) (A 7 R)))
 (aT (zx lu))
 c4)
 (aT (c1 (cR mi (cm d2 (A 5 R) aV (λ_ _=>rfl)) (cU (acs T) R (T 72) (aj (A 0 R) (aj (A 6 R) (aj (A 7 R) (aj (A 9 R) (aj (A 8 R) (aj (cm d2 (A 5 R) aV (λ_ _=>rfl)) aB))))))))
 (aT (zx lu))
 c4)))))
 (aY (cv 10 R (iB (fz.of (gA:=bV oE) (tn:=["_law_one","_law_other"]) (cn:=[]) (dQ:=[]) rfl rfl ∅ ∅ ∅ ∅ rfl) (c8 rfl)  (Jh (eQ Mh) (T 185).1 (aj (A 2 R) (aj (A 3 R) aB)) (iW rfl rfl) (d3 rfl))
 (λ_ _ _ _ _=>(HY rfl (c8 rfl) (show(["_law_one","_law_other"]:Y ϕ).Α by decide +Ė) (Or.ε rfl) (Or.ε rfl) rfl rfl)) (λ_ _ _ _ _=>kN) (λ_ _ _ _ _=>(fs (aj (cm (q3 (K:=D.bP) rfl) (cx 0) aV (λ_ _=>rfl)) (aj (cm (q3 (K:=D.bP) rfl) (cx 1) aV (λ_ _=>rfl)) aB))))))
 (aY (zb (i:=11) (fz.of (gA:=bV oE) (tn:=["_law_step"]) (cn:=["_law_steps"]) (dQ:=[10]) rfl rfl ∅ ∅ ∅ ∅ rfl) (c8 rfl) ND rfl Zj (gu (A 10 R))
 (λ_ _ _ _ _=>(gU (i:=0) (show(["_law_step","_law_steps"]:Y ϕ).Α by decide +Ė) rfl (Or.ε rfl))) (λ_ _ _ _ _=>(n7 (e9.pt (jL (cR mi (cm (q3 (K:=D.bP) rfl) (cx 0) aV (λ_ _=>rfl)) (cm (q3 (K:=D.bP) rfl) (cx 0) aV (λ_ _=>rfl))) (kb (cR (JW (K:=D.bP) rfl (CR HR)) (Yu (K:=D.bP) rfl (cx 0)) (cx 1))))))) (λ_ _ _ _ _=>(cx 0)) (hsw:=by rfl))
 (aT (zx (pd (ju fx (VZ rfl (eQ Zz) (T 170).1 (eQ ZA) (T 186).1 (aj (iB (fz.of (gA:=bV oE) (tn:=["_law_step"]) (cn:=[]) (dQ:=[]) rfl rfl ∅ ∅ ∅ ∅ rfl) (c8 rfl)  (gu (A 10 R))
 (
 λ_ _ _ _ _=>(gU (i:=0) (show(["_law_step"]:Y ϕ).Α by decide +Ė) rfl (Or.ε rfl))) (λ_ _ _ _ _=>kN) (λ_ _ _ _ _=>(cm (q3 (K:=D.bP) rfl) (cx 0) aV (λ_ _=>rfl)))) aB) (d3 rfl) (d3 rfl)) (cX gM R (T 170) (aj (A 10 R) aB))) (m9 (ju (Hw HU) (A 11 R) (jg aB))))))))))))),?_⟩
 rfl';obtain⟨dx,av⟩:=aR.ob;have fP:=ρ
 refine zu (λJ U=>∃hu,a5 H U/\OY U hu t rs C/\J=[O (.Z l),O (.Z p),O (.Z hu),none,none,none,none,none,none,none,none,none]) (λaP aq=>?_) ?_
 ·ext;exact⟨p,S,w,h,L,t,rs,C,rfl,aR,λhu H1 s1 nl e3=>aq _ _ ⟨hu,s1,e3,rfl⟩⟩
 rintro cC bh J H1 ⟨hu,s1,e3,rfl⟩;nofun;have e8:=aR.kt (hI s1)
 obtain⟨ES,j2⟩:=e8.ob;refine zu (λJ U=>∃fN cZ,cM p H1 U/\H1 fN=none/\dj D.ar U p ⟨S.aZ,S.ct,fN,S.bf,S.nd,S.ϻ⟩ w h L (t+1) cZ C/\tw w L t C rs cZ/\J=[O (.Z l),O (.Z p),O (.Z hu),none,none,none,none,none,none,none,none,none]) (λaP aq=>?_) ?_
 ·ext;exact(dZ j2 (h3 S t ∅) ⟨p,S,w,h,L,t,rs,C,rfl,e8,t1,λaC fN cZ s2 gk fw tk=>aq _ _ ⟨fN,cZ,s2,gk,fw,tk,rfl⟩⟩)
 rintro cC bh J aC ⟨fN,cZ,s2,gk,fw,tk,rfl⟩;nofun;have A4:∀q F,H1 q=O (.Ť F)->aC q=O (.Ť F):=λq F dV=>s2 _ _ dV (bM dV j2 (λz=>nomatch z))
 have dh:fC H1 aC:=λq F dV=>s2 _ _ dV (bM dV j2 (λz=>nomatch z))
 refine zu (λJ U=>∃iq,a5 aC U/\OY U iq (t+1) cZ C/\J=[O (.Z l),O (.Z p),O (.Z hu),O (.Z iq),none,none,none,none,none,none,none,none]) (λaP aq=>?_) ?_
 ·ext;exact⟨p,_,w,h,L,t+1,cZ,C,rfl,fw,λiq bw s3 _ iZ=>aq _ _ ⟨iq,s3,iZ,rfl⟩⟩
 rintro cC bh J bw ⟨iq,s3,iZ,rfl⟩;nofun;left;have d_:∀{U:ag},a5 bw U->Q (.bl true) U:=λ{U} s=>ao _ ⟨S.aZ,S.ct,fN,S.bf,S.nd,S.ϻ⟩ cZ (λq F dV cz cS=>⟨(s3.Ϛ s) _ _ (A4 _ _ (s1 _ _ dV)),cz,(lg gk (s1 _ _ dV)).symm⟩) ((Yx (nU.ű s1) s2 j2).ű (s3.Ϛ s)) (fw.kt (hI (s3.Ϛ s)))
 have NV:jC bw l w h L:=s3 _ _ (A4 _ _ (s1 _ _ cY))
 obtain⟨qk,ql,af,bj,AE,Ez,row⟩:=YS aR (fw.kt (hI s3)) tk ((e3.ĭ A4 dh).ű s3) iZ;have hk:=aR.hk
 have le:=aR.cy.1
 clear av e3 iZ tk dh A4 ao j2 e8;right;refine zu (λJ U=>U=bw/\J=[O (.Z l),O (.Z p),O (.Z hu),O (.Z iq),none,none,none,none,none,none,none,none]) (λaP aq=>?_) ?_
 ·ext;refine⟨_,.ε (aM.of bj),_,.ε (aM.of af),?_⟩;rw[ϧ,ϧ,aD ⋯];exact aq _ _ ⟨rfl,rfl⟩
 rintro cC bh J NW ⟨rfl,rfl⟩;nofun;refine zu (λJ U=>a5 NW U/\∃d8 ew c2 gV iK hJ,J=[O (.Z l),O (.Z p),O (.Z hu),O (.Z iq),d8,ew,c2,gV,iK,hJ,none,none]) (λaP aq=>?_) ?_
 ·ext;refine⟨_,aM.of af,_,aM.of bj,Yv (K:=D.bP) (a:=hu) (b:=iq) (F:=qk.ϒ V.Z) (ys:=ql.ϒ V.Z) (λi J U=>a5 NW U/\∃d8 ew c2 gV iK hJ,J=[O (.Z l),O (.Z p),O (.Z hu),O (.Z iq),d8,ew,c2,gV,iK,hJ,none,none]) ⟨a5.Ô _,_,_,_,_,_,_,rfl⟩ (λi J U z=>⟨aM.of (z.1 _ _ af),aM.of (z.1 _ _ bj)⟩) ?_ λJ U z=>aq _ _ z⟩;rintro i x y J U T0 ϰ ai aU cg hU cA;left;obtain⟨s,d8,ew,c2,gV,iK,hJ,rfl⟩:=cg;rw[Ϙ]at ai aU;obtain⟨a,aN,rfl⟩:=ξ.mp ai;obtain⟨gx,kj,rfl⟩:=ξ.mp aU;have s5:=s.Ϛ (zj (o:=bb.Ţ [V.Z a,V.Z gx]) hU)
  obtain⟨e,he,fe⟩:=row i a gx aN kj;obtain⟨oI,adR,j,n,gI,q,bC,g,ah,e6,dK,g4,adS,dJ,a3⟩:=(fe.ű s5).ex;have NX:=s5 _ _ NV
  clear af bj row NV;right;walk_at "RDS"
  refine⟨_,bN.of aQ,rfl,_,_,rfl,_,_,rfl,rfl,?_⟩;generalize ſ U T0 (bb.Ţ [V.Z a,V.Z gx])=dX at s5 g ah NX ⊢
  refine zu (λJ U=>U=dX/\J=[O (.Z l),O (.Z p),O (.Z hu),O (.Z iq),O (.Z a),O (.Z gx),O (.str oI),O (.M n),O (.M (cV e.b e.c t)),O (.M q),none,none]) (λaP aq=>?_) ?_
  ·ext;exact⟨_,bN.of g,rfl,_,_,rfl,_,_,rfl,_,_,rfl,_,_,rfl,rfl,aq _ _ ⟨rfl,rfl⟩⟩
  rintro cC bh J g9 ⟨rfl,rfl⟩;nofun;refine zu (λJ U=>U=g9/\J=[O (.Z l),O (.Z p),O (.Z hu),O (.Z iq),O (.Z a),O (.Z gx),O (.str oI),O (.M n),O (.M (cV e.b e.c t)),O (.M q),none,none]) (λaP aq=>Jc (λU=>U=g9) (λadT ao=>?_) λU e=>aq _ _ ⟨e,rfl⟩) ?_
  ·ext;refine(dM (bN.of ah) rfl ⟨_,rfl,?_⟩);rw[aS dJ];refine⟨_,rfl,?_⟩;rw[ι a3];exact ao _ rfl
  rintro cC bh J gK ⟨rfl,rfl⟩;nofun;refine Jc (λU=>a5 gK U) (λadT ao=>?_) λU gv=>cA _ _ ⟨s5.Ϛ gv,_,_,_,_,_,_,rfl⟩;ext;refine(dM (bN.of ah) rfl (dM (bN.of ah) rfl ⟨l,w,h,L,j,oI,n,_,_,_,bC,rfl,NX,aR.Ϻ,e6,dK,g4,adS,dJ,λhR i1=>⟨rfl,?_⟩⟩));rw[ι rfl];exact ao _ i1
 rintro cC bh J cK ⟨s4,d8,ew,c2,gV,iK,hJ,rfl⟩;nofun;have Fq:=s4 _ _ af
 have Fs:=s4 _ _ bj
 refine zu (λJ U=>∃϶ ps,a5 cK U/\U ϶=O (.Ť (ps.ϒ V.Z))/\ps.N=C.N/\oQ U ps t C/\J=[O (.Z l),O (.Z p),O (.Z hu),O (.Z iq),d8,ew,c2,gV,iK,hJ,O (.Z ϶),none]) (λaP aq=>?_) ?_
 ·ext;refine⟨_,aM.of Fq,_,aM.of Fs,Yw (K:=D.bP) (a:=hu) (b:=iq) (F:=qk.ϒ V.Z) (ys:=ql.ϒ V.Z) (λi zs U=>a5 cK U/\∃ps:Y Ϩ,zs=ps.ϒ V.Z/\ps.N=i/\oQ U ps t C) ⟨a5.Ô _,[],rfl,rfl,λk a e z=>nomatch z⟩ (λi zs U z=>⟨aM.of (z.1 _ _ Fq),aM.of (z.1 _ _ Fs)⟩) ?_ ?_⟩
  ·rintro i x y zs U T0 ai aU cg hU;left;obtain⟨s,ps,rfl,ih,al⟩:=cg;rw[Ϙ]at ai aU;obtain⟨a,aN,rfl⟩:=ξ.mp ai;obtain⟨gx,kj,rfl⟩:=ξ.mp aU;have gh:=zj (o:=bb.Ţ [V.Z a,V.Z gx]) hU
   have s5:=s.Ϛ gh
   obtain⟨e,he,fe⟩:=row i a gx aN kj;obtain⟨oI,adR,j,n,gI,q,bC,g,ah,_⟩:=(fe.ű (s4.Ϛ s5)).ex;have li:=(Y.Ϧ.mp he).1
   right;ext;exact(dM (bN.of g) rfl (dM (bN.of ah) rfl ⟨⋯,λp1 cz=>⟨by rw[ϧ];omega,s5.Ϛ (zj cz),ps++[p1],by rw[Ε];rfl,by rw[υ,ih];rfl,al.O2 ih he (gh.Ϛ (zj cz)) aQ⟩⟩))
  ·rintro zs U cg;left;obtain⟨s,ps,rfl,ih,al⟩:=cg;rw[ϧ,ϧ,AE,Ez,B.min_self]at ih;right;exact⟨by rw[ϧ];omega,λ϶ eI=>aq _ _ ⟨϶,ps,s.Ϛ (zj eI),aQ,ih,al.ű (zj eI),rfl⟩⟩
 rintro cC bh J g9 ⟨϶,ps,f7,tV,ih,Ft,rfl⟩;nofun;clear af bj row Fq Fs AE Ez;refine zu (λJ U=>∃p1,a5 g9 U/\U p1=O (.Ť [])/\J=[O (.Z l),O (.Z p),O (.Z hu),O (.Z iq),d8,ew,c2,gV,iK,hJ,O (.Z ϶),O (.Z p1)]) (λaP aq=>?_) ?_
 ·ext;refine⟨⟨_,aM.of tV⟩,zh (K:=D.bP) (a:=϶) (F:=ps.ϒ V.Z) (λi ys U=>a5 g9 U/\ys=[]) ⟨a5.Ô _,rfl⟩ (λi ys U _ z=>aM.of (z.1 _ _ tV)) ?_ ?_⟩
  ·rintro i y ys U aU cg;left;obtain⟨gv,rfl⟩:=cg;rw[Ϙ]at aU;obtain⟨a,aN,rfl⟩:=ξ.mp aU;obtain⟨e,he⟩:∃e,C[i]?=O e:=⟨_,ϡ (show i<C.N by rw[<- ih];exact(Y.Ϧ.mp aN).1)⟩;have bG:=gv _ _ (Ft i a _ aN he)
   right;ext;refine(dM (bN.of bG) rfl (dM (bN.of bG) rfl ⟨rfl,?_⟩));split
   ·rename_i ne;refine⟨_,bN.of bG,λq gi=>?_⟩;have Fu:=gv.Ϛ (zj (o:=bb.Ţ [V.M (cV e.b e.c (t+1)),V.M (cV e.b e.c t)]) gi)
    obtain⟨d4,ea⟩:=YZ (K:=D.bP) aR (Ft.ű Fu) ih he aQ ne;refine⟨ps,aM.of (Fu _ _ tV),_,d4,?_⟩;rwa[aD ea]
   ·exact gv
  ·rintro ys U ⟨gv,rfl⟩;exact⟨by simp,λp1 cz=>aq _ _ ⟨p1,gv.Ϛ (zj cz),aQ,rfl⟩⟩
 rintro cC bh J hR ⟨p1,i1,adU,rfl⟩;nofun;ext;refine⟨⟨_,aM.of (i1 _ _ tV)⟩,zh (K:=D.bP) (a:=϶) (F:=ps.ϒ V.Z) (λi ys U=>U=hR/\ys=(C.ĵ i).ϒ λe=>V.M (cV e.b e.c (t+1))) ⟨rfl,rfl⟩ (λi ys U _ z=>by rw[z.1];exact aM.of (i1 _ _ tV)) ?_ ?_⟩
 ·rintro i y ys U aU cg;left;obtain⟨rfl,rfl⟩:=cg;rw[Ϙ]at aU;obtain⟨a,aN,rfl⟩:=ξ.mp aU;have adV:i<C.N:=by rw[<- ih];exact(Y.Ϧ.mp aN).1
  have he:=ϡ adV
  have bG:=i1 _ _ (Ft i a _ aN he)
  right;ext;refine(dM (bN.of bG) rfl ⟨by rw[ϧ,Ģ];omega,?_⟩);rw[Y.amT,he,Ε];rfl
 ·rintro ys U ⟨rfl,rfl⟩;have dK:C.ĵ (ps.ϒ V.Z).N=C:=by rw[ϧ,ih,İ]
  rw[dK];refine⟨by rw[ϧ];omega,λagX NY=>⟨C.ϒ λe=>cV e.b e.c (t+1),by rw[ó];exact aM.of aQ,by rw[ϧ];omega,Y0 aR,_,.ε (aM.of ((zj NY) _ _ (i1 _ _ tV))),?_⟩⟩;rw[ϧ,ϧ,ih,aS rfl];refine⟨⋯,λz nD=>?_⟩;have gf:=(zj (o:=bb.Ť (C.ϒ λe=>V.M (cV e.b e.c (t+1)))) NY).Ϛ (zj (o:=bb.Ť []) nD)
  exact(T1 (.Ť (aM.of (gf _ _ adU)) .ń) (.Ť (aM.of aQ) .ń) rfl rfl (d_ (s4.Ϛ ((f7.Ϛ i1).Ϛ gf))))
theorem adW {f c:Ϩ}{ϲ ϱ:Y (Ϩ×ğ)}(Ϸ:rz gZ "there" "sought.<locals>.there" f c cl q40 zs r0 ϲ ϱ):∃fd,ô D.bP fd q15 []/\p3 D.jz D.jA D.bP D.nB D.nC bx 11 (D.ar 76) fd q15 (XB D.ar D.bP f zs) ϲ ϱ:=by
 obtain⟨fd,ϴ,ϸ⟩:=(T 325);have GT:=ab6 T Ϸ
 have NZ:=UU Ϸ (ps:=["time","layer"]) (by intro us ϻ p v h;revert h;apply a2;intros;rfl)
 have N0:=UW Ϸ
 refine⟨fd,ϸ,ϴ.UO Mt.sc.1 ?_ (λË Ϲ Ϗ s H d Q ϵ HR N1 h=>IS λUq uq=>?_)⟩;walk_at "l"
 have R:fD _ _ _ _ _:=⟨Mt,HR⟩
 have ND:=R.nd
 walk_at "h"
 obtain⟨p,bX,ϻ,h1,S,i,n,b,ū,m0,w,h,L,E,C,f0,v,d9,lo,rfl,rfl,o,bf,ap,dS,cz,gn,jI,gh,le,Fv,nJ,i6,b1,kq,dH,s4,gf,ao⟩:=h;refine uq ⟨_,(aY (cv 4 R (cX (pj rfl) R (T 181) (aj (A 1 R) (aj (df (cq (A 0 R) (by rfl)) (T 207) (T 105) (abP T) HR (aj (cq (A 0 R) (by rfl)) aB)) aB))))
 (aY (cv 5 R (A 1 R))
 (aY (cv 6 R (jg (aj (fs (aj (A 5 R) (aj (A 2 R) aB))) aB)))
 (aY (cv 7 R (Jv 3 GT HR NZ N1 N0 Md (aj (A 5 R) (aj (A 2 R) aB))))
 (aY (sj Ų.Ï (cR yM (A 7 R) hM)
 (aY (cv 8 R (df (A 0 R) (T 209) (T 118) (ade T) HR (aj (A 5 R) (aj (A 2 R) aB))))
 (aY (c1 (cR (Vn (CR HR)) (A 8 R) (A 2 R))
 (aY (Dd 5 R aV F3)
 (aY (cv 2 R (A 8 R))
 (aT (fg (jR ϟ.ϴ.ō ϟ.ϴ.ř ϟ.ϴ.Ň lF (A 6 R) (aj (fs (aj (A 5 R) (aj (A 2 R) aB))) aB))))))
 (aT (c1 (cR yL (A 5 R) (A 4 R))
 (aT (zx (pX (T 157) (abE T) R (T 15) (aj (A 5 R) (aj (A 2 R) aB)))))
 (aT (cv 5 R (cX (pj rfl) R (T 181) (aj (bU eW (A 5 R) aV) (aj (df (cq (A 0 R) (by rfl)) (T 207) (T 107) (acB T) HR (aj (cq (A 0 R) (by rfl)) (aj (A 5 R) (aj (A 4 R) aB)))) aB))))))))
 (aT (cv 7 R (Jv 3 GT HR NZ N1 N0 Md (aj (A 5 R) (aj (A 2 R) aB))))))))
 (
 aT (zx (pX (T 156) (abD T) R (T 14) (aj (fs (aj (A 1 R) (aj (cU (adv T) R (T 64) (aj (A 0 R) (aj (A 6 R) (aj (A 5 R) (aj (A 7 R) aB))))) aB))) (aj (jl (eR HU) (A 2 R) (A 7 R) (λ_ _=>rfl)) aB)))))))))),?_⟩
 rfl';left;obtain⟨dx,g⟩:=id o.sp;obtain⟨AW,k1,_⟩:=id o.hY;obtain⟨⟨⟨db,oX⟩,Oo⟩,cy⟩:=id bf;have av:v=.br\/∃n:G,v=.M n:=by
  rcases nJ with⟨z,_⟩|⟨z,y,_⟩
  ·exact .ε z
  ·exact .Œ ⟨z,y⟩
 have xG:b<=max b m0:=⋯
 have zO:∀u,max b m0<=u->OM (c7 C S.n) u (u+1):=λu bK=>T6 (λe he=>(cy.ok e (pT.mp he).1).2.1.1) (λe he=>by
  rcases kq with⟨z,_⟩|⟨_,z⟩
  ·have:=Ζ.ļ ⟨e,he,(rfl:iJ e=iJ e)⟩
   rw[z]at ν;cases ν
  ·have:iJ e<=m0:=z _ (Ζ.ļ ⟨e,he,rfl⟩)
   unfold iJ at ν;omega) _
 right;ext;refine(cp g (T 209) (T 212) (Aq S) ⟨S.bf,rfl,dZ oX (js ϻ ∅) (cp g (T 209) (T 213) (Ap S) ⟨S.bf,ϻ,C,S.n,rfl,bf,λH1 ba s1 adX=>?_⟩)⟩);obtain rfl:=adX.O8 kq;refine⟨ba,rfl,by rw[ρ];decide,λa1 adY=>⟨by rw[ρ];decide,λmk A5=>?_⟩⟩;have s2:=zj (o:=.Ţ [V.M b,V.Z bX]) adY
 have s3:=zj (o:=.Ť [V.Z a1]) A5
 have s:=(s1.Ϛ s2).Ϛ s3
 have adZ:mk≠S.bI:=λz=>by rw[z,(s1.Ϛ s2) _ _ k1]at A5;cases A5
 have ad0:H mk=none:=(s1.Ϛ s2).Ź A5
 rw[show(if ba>b then ba else b)=max b ba by split<;>omega];refine Eo ⟨b,bX,h1,v,ū,E,L,f0,rfl,rfl,s _ _ gn,lo,s _ _ Fv,av,λhH A6=>?_⟩;refine⟨Xy H p f mk h1 S i E C n d9 b (max b ba) ū v ⟨f0,lo⟩,⟨_,b,bX,f0,[a1],[(b,f0)],hH,none,Sc.ã gh le xG,jt s,o.hY.ű s,s _ _ gn,jI,aQ,.θ ⟨bX,s3 _ _ aQ,s _ _ gn,jI⟩ .ń,A6,rfl⟩,?_⟩;rintro m J bw cg;left;obtain⟨t,bX,jH,as,ms,hH,iK,sc,sB,bI,gn,nT,r5,pm,A6,rfl⟩:=cg;have ig:=o.b sB bI
 have Fw:=bf.b k1 sB
 have e3:=sc.Đ xG
 have ais:nI E L n<=945:=B.Ķ (Ç (Ç (show E.N+1<=5 by omega) gf) (show(n+1).Ο<=21 by omega)) (by decide)
 have qw:=sc.lo
 have fr:∀{x:Ϩ}{U:ag},cM S.bI H U->fF U S.bI i w L E->U x=none->H x=none:=λ{x U} s' ha aP=>by
  cases e:H x with
  | none=>rfl
  | O u=>
   by_cases z:x=S.bI
   ·obtain⟨bS,y,_⟩:=id ha;rw[z,y]at aP;cases aP
   ·rw[s' _ _ e z]at aP;cases aP
 have yn:=sB _ _ Fv (bM Fv k1 nofun)
 right;ext;split
 ·left;rename_i z;have no:¬k9 (c7 C S.n) E jH t ū:=by
   rcases A6 with⟨y,_⟩|⟨_,y⟩
   ·rw[z]at y;cases y
   ·exactλw=>y ((LP nJ).mp w)
  obtain⟨MP,aI⟩:=id ig.sp;obtain⟨NP,k3,_⟩:=id bI;right;refine⟨_,λ_ _ z=>z,dZ aI (rL S ∅) ⟨p,bX,ϻ,S,i,n,t,w,h,L,E,C,jH,rfl,ig,Fw,ap,dS,gn,qw,nT,λr cK g5 iQ de aO=>?_⟩⟩;left;obtain⟨agY,pM,_⟩:=id iQ;have qv:=g5 _ _ gn nT
  have qx:cM S.bI H cK:=λb o af nb=>g5 _ _ (sB _ _ af nb) nb
  have Fx:eN E L (jd (c7 C S.n) i w L E n t jH):=by rw[sc.eq dS t];exact(tm qw (qc d9)).bX
  have N2:∀{Ϻ:dr},eN E L Ϻ->∀p∈Ϻ,∃i,p.2=V.M i:=λl p ay=>let⟨_,_,q,e,_⟩:=l.ok p ay;⟨q,by rw[e]⟩
  have N3:r≠S.bI:=λz=>by rw[z,k3]at de;cases de
  have o2:=g5 _ _ r5 adZ
  have Fy:ϋ (qi cK S.bI) as ms.Ĭ:=ϋ.gq pm λ_ _ y=>y.b g5 (λ_ _ n=>n) (λF z=>by rw[k3]at z;cases z)
  have A7:=g5 _ _ yn (bM yn k3 nofun)
  right;refine⟨r,rfl,_,aO,_,qv,N2 Fx,N2 qw,λg6 Fz=>?_⟩;rw[Xw Fx qw]at Fz;split
  ·left;rename_i y;obtain⟨di,eM,FA⟩:=sc.go dS zO no λeS=>by rw[Fz.ļ eS]at y;cases y
   have q7:as.N=ms.N:=by rw[ϋ.N pm,Ú]
   have lm:=sc.seg.SC λx ai=>(sc.IY x ai).2.2
   right;refine⟨.ε ⟨rfl,_,aM.of o2⟩,by rw[ρ];decide,λa2 A8=>⟨_,(zj A8) _ _ o2,?_,?_⟩⟩
   ·rw[ϧ,q7];have:=ρ
    rcases lm with z|z
    ·omega
    ·rw[z];show 0<_;omega
   ·have s5:=zj (o:=bb.Ţ [V.M (t+1),V.Z r]) A8
    have A9:cM mk cK (ſ (ſ cK a2 (bb.Ţ [V.M (t+1),V.Z r])) mk (bb.Ť (as.ϒ V.Z++[V.Z a2]))):=λb o af nb=>by rw[aE nb];exact s5 _ _ af
    have bD:∀{x:Ϩ}{bS:dr},cK x=O (.bQ bS)->x≠mk:=λe z=>by rw[z,o2]at e;cases e
    have am:a2≠mk:=λz=>by rw[z,o2]at A8;cases A8
    have yo:=A9 _ _ aO (bD aO)
    have ad1:ϋ (qi (ſ (ſ cK a2 (bb.Ţ [V.M (t+1),V.Z r])) mk (bb.Ť (as.ϒ V.Z++[V.Z a2]))) S.bI) (as++[a2]) ((t+1,jd (c7 C S.n) i w L E n t jH)::ms).Ĭ:=by
     rw[aa_];exact ϋ.O2 (ϋ.gq Fy λ_ _ y=>y.b A9 (λ_ e _=>bD e) (λF z=>by rw[o2]at z;cases z)) ⟨r,by rw[aE am,aQ],yo,N3⟩
    have tR:fF (ſ (ſ cK a2 (bb.Ţ [V.M (t+1),V.Z r])) mk (bb.Ť (as.ϒ V.Z++[V.Z a2]))) S.bI i w L E:=
     (iQ.ű s5).but ((iQ.ű s5).marks (s5 _ _ o2) (ϋ.gq Fy λ_ _ ⟨l,au,az,bY⟩=>⟨l,s5 _ _ au,s5 _ _ az,bY⟩) (λz=>by obtain⟨_,_,da⟩:=sc.hd;rw[da]at z;simp at z)) (s5 _ _ o2) (mB (jt (a5.Ô _)))
    refine Eo ⟨t+1,r,h1,v,ū,E,L,_,rfl,rfl,yo,Fx,A9 _ _ A7 (λz=>by rw[z,o2]at A7;cases A7),av,λFC FD=>⟨di,eM,t+1,r,_,as++[a2],_,FC,_,FA,λb o af nb=>A9 _ _ (qx _ _ af nb) (cF af ad0),tR,yo,N3,by rw[aQ,Ε];rfl,ad1,FD,rfl⟩⟩
  ·rename_i y;have d':=Fz.mp (by cases g6;exact bJ rfl y;rfl)
   split
   ·rename_i xH;intro x dx aP lS N4;have Oq:=qw.Oq s4 gf
    have lW:bX≠x:=cF qv aP
    have ld:bX≠dx:=cF qv lS
    refine⟨x,dx,bX,t,E,L,jH,rfl,aQ,by rwa[aE lW,aE ld],qw,Oq.1,Oq.2,λbW dX nN ad2 yo ad3=>⟨rfl,?_⟩⟩;have ad4:bW≠x:=λz=>by rw[z,aQ]at nN;cases nN
    rw[aE ad4]at nN;have ad5:bW≠dx:=λz=>by rw[z,aQ]at nN;cases nN
    rw[aE ad5]at nN;have s5:a5 cK dX:=λb o af=>by
     rwa[ad3 b (cF af aP) (cF af nN),aE (cF af aP),aE (cF af lS)]
    exact ao x dX (λb o af nb=>s5 _ _ (qx _ _ af nb)) (iQ.ű s5) (fr qx iQ aP) (.Œ ⟨t,⟨jH,qw⟩,⟨dx,bW,ad2,yo,fr qx iQ nN⟩,⋯,sc.Dl dS no d' xH⟩)
   ·left;rename_i xH;have uZ:=ig.b g5 iQ
    obtain⟨agZ,bO⟩:=id uZ.sp;have N5:=Fw.b k3 g5
    obtain⟨⟨⟨ag0,ad6⟩,ag1⟩,ag2⟩:=id N5;right;refine(cp bO (T 209) (T 212) (Aq S) ⟨S.bf,rfl,dZ ad6 (js ϻ ∅) (cp bO (T 209) (T 213) (Ap S) ⟨S.bf,ϻ,C,S.n,t,max b ba,rfl,N5,⋯,⋯,⋯,λdX hn s5 ad7 ad8 ad9=>⟨hn,rfl,?_⟩⟩)⟩);left;obtain⟨di,eM,FA⟩:=sc.skip dS i6 nJ no d' ⋯ ad7 ad8 ad9;right;rw[show(if hn>t+1 then hn else t+1)=max (t+1) hn by split<;>omega];exact Eo ⟨max (t+1) hn,bX,h1,v,ū,E,L,jH,rfl,rfl,s5 _ _ qv,qw,s5 _ _ A7,av,λFC FD=>⟨di,eM,_,bX,jH,as,ms,FC,_,FA,λb o af nb=>s5 _ _ (qx _ _ af nb),iQ.ű s5,s5 _ _ qv,nT,s5 _ _ o2,ϋ.gq Fy λ_ _ ⟨l,au,az,bY⟩=>⟨l,s5 _ _ au,s5 _ _ az,bY⟩,FD,rfl⟩⟩
 ·left;rename_i z;obtain⟨rfl,tW,ev,sU,fa⟩:hH=.Z h1/\qj E jH v t ū:=by
   rcases A6 with y|⟨y,_⟩
   ·exact y
   ·exact bJ y z
  obtain⟨t1,rs,aea⟩:=sc.hd;right;refine⟨p,mk,h1,ϻ,S,i,n,t,b,w,h,L,E,C,E.N,fu E,tW,as,ms,_,rfl,ig,Fw,ap,dS,r5,pm,sc.IY,sc.seg,sc.last,⟨t1,jH,by rw[aea];rfl,ev⟩,yn,⋯,λr cK cZ g5 iQ de aO hT r6=>⟨by rw[ρ];decide,λpp aeb=>?_⟩⟩;left;have s5:=zj (o:=bb.Ţ [V.M b,V.Z r]) aeb
  have aec:=s5 _ _ (g5 _ _ gn nT)
  obtain⟨NP,k3,_⟩:=id bI;have aed:=s5 _ _ (g5 _ _ yn (bM yn k3 nofun))
  have qx:cM S.bI H cK:=λb o af nb=>g5 _ _ (sB _ _ af nb) nb
  right;refine⟨.M tW,by rw[<- ev];exact eK.t aec aed,λx dx aP lS N4=>⟨x,dx,.Z pp,tW,rfl,aQ,rfl,?_⟩⟩;have f7:a5 (ſ cK pp (bb.Ţ [V.M b,V.Z r])) (ſ (ſ (ſ (ſ cK pp (bb.Ţ [V.M b,V.Z r])) dx (bb.HF x)) x (bb.Â (D.ar 115) dx [])) x (bb.Â (D.ar 115) dx [("path",V.Z pp),("left",V.M tW)])):=λb o af=>by
   rwa[aE (cF af aP),aE (cF af aP),aE (cF af lS)]
  have gv:a5 cK _:=s5.Ϛ f7
  exact ao x _ (λb o af nb=>gv _ _ (qx _ _ af nb)) (iQ.ű gv) (fr qx iQ (s5.Ź aP)) (.ε ⟨t,⟨dx,pp,r,tW,cZ,aQ,f7 _ _ aQ,gv _ _ aO,hT,r6,by rw[<- ev];exact(sc.at'.eq _).symm⟩,e3.1,⋯,sc.found ((LP nJ).ļ ⟨tW,ev,sU,fa⟩),sc.at'.no⟩)
theorem aee:b0 D bx 12 (D.ar 74) q07 (XC D.ar D.bP D.gR):=by
 obtain⟨fd,ϸ,aef,dI,cO,nf,ag3,ST,pm,an,cb,eX,rfl,lk,e1⟩:=(T 5);have aeg:=(T 0)
 have aeh:=(T 1)
 have aei:=ϟ.W.codeHd_of_K aeh aef
 have aej:=λf c cl zs r0 ϲ ϱ Ϸ=>adW (f:=f) (c:=c) (cl:=cl) (zs:=zs) (r0:=r0) (ϲ:=ϲ) (ϱ:=ϱ) T Ϸ
 refine⟨_,ϸ,uj lk e1 Mu.sc.1 ?_ (λϹ Ϗ s H d Q ϵ HR h=>IS λUq uq=>?_)⟩;walk_at "l"
 have R:fD _ _ _ _ _:=⟨Mu,HR⟩
 have ND:=R.nd
 walk_at "h"
 obtain⟨aZ,ct,bf,a0,ϻ,i,n,num,b,ã,ch,ū,m0,w,h,L,E,C,d9,f0,rfl,nS,aek,e6,ael,pG,aem,aen,gf,oX,ap,dS,cz,cI,wE,i6,b1,kq,dH,bn,ao⟩:=h;have aeo:aig (bV gZ) (Ĥ.KK.ŋ "sought" (bV oD) s.P.Ϡ.Ϥ (D.ar 74) (.Z D.Ah))=Ă ([(ϕ.ϝ "least",s.P.Ϡ.Ϥ+1),(ϕ.ϝ "goal",s.P.Ϡ.Ϥ+3),(ϕ.ϝ "free",s.P.Ϡ.Ϥ+2)]:Y (ϕ×Ϩ)):=by rfl
 have aep:∀q∈([(ϕ.ϝ "least",s.P.Ϡ.Ϥ+1),(ϕ.ϝ "goal",s.P.Ϡ.Ϥ+3),(ϕ.ϝ "free",s.P.Ϡ.Ϥ+2)]:Y (ϕ×Ϩ)),(Ĥ.KK.ŋ "sought" (bV oD) s.P.Ϡ.Ϥ (D.ar 74) (.Z D.Ah)).Ý.Ϣ q.1=O q.2:=by
  intro q ao;simp only[ς,ő,Ĩ]at ao;rcases ao with rfl|rfl|rfl<;>rfl
 have aeq:∀(m:B) y,(q40:Y ϕ)[m]?=O y->∃j,([9,10,8]:Y B)[m]?=O j/\(q10:Y ϕ)[j]?=O y/\(bV oD).Λ.Ϣ y=O .φ/\([(ϕ.ϝ "least",s.P.Ϡ.Ϥ+1),(ϕ.ϝ "goal",s.P.Ϡ.Ϥ+3),(ϕ.ϝ "free",s.P.Ϡ.Ϥ+2)]:Y (ϕ×Ϩ)).Ϣ y=(Ĥ.KK.ŋ "sought" (bV oD) s.P.Ϡ.Ϥ (D.ar 74) (.Z D.Ah)).Ý.Ϣ y:=by
  intro m y h;match m,h with
  | 0,h=>cases h;exact⟨9,rfl,rfl,∅,by rfl⟩
  | 1,h=>cases h;exact⟨10,rfl,rfl,∅,by rfl⟩
  | 2,h=>cases h;exact⟨8,rfl,rfl,∅,by rfl⟩
  | m+3,h=>cases h
 refine uq ⟨_,Bf.nox (aY (cv 9 R (fs (aj (cX gM R (T 170) (aj (A 7 R) aB)) (aj (cm eO (A 7 R) (n0 n1 aV) (λ_ _=>rfl)) aB))))
 (aY (cv 10 R (df (A 2 R) (T 207) (T 106) (MN T) HR (aj (A 3 R) (aj (cm eO (A 7 R) (n0 n1 aV) (λ_ _=>rfl)) aB))))
 (
 U5 11 ND rfl aei aeg aeo aeq rfl aep (λ_=>rfl) (λf c zs fd ϲ ϱ=>aej f c _ zs fd ϲ ϱ) HR (pU Mj) (T 63).1 (T 63).2 (kh Mj).2.1 (aj (pX (T 159) (abC T) R (T 17) (aj (A 0 R) (aj (A 1 R) (aj (A 2 R) (aj (A 3 R) (aj (A 7 R) aB)))))) (aj (A 4 R) (aj (cU (abV T) R (T 60) (aj (A 7 R) (aj (A 5 R) (aj (A 6 R) aB)))) (aj (A 11 R) aB))))))),?_⟩
 rfl';left;obtain⟨⟨⟨db,aer⟩,Oo⟩,cy⟩:=id oX;have ei:=Eh aem
 right;ext;refine⟨_,.ε pG,_,pG,_,ei,by rw[ρ];decide,λh1 EK=>?_⟩;have dK:bb.Ţ [V.M ((E.ϒ V.M).N:G),V.M (fu E)]=bb.Ţ ((bD E.N (fu E)).ϒ bH):=by rw[ϧ];rfl
 rw[dK];have tG:=zj (o:=bb.Ţ ((bD E.N (fu E)).ϒ bH)) EK
 refine(dZ (tG _ _ aer) (js ϻ ∅) ⟨_,tG.XV pG,_,ei,bf,ϻ,C,num,fu E,rfl,oX.ű tG,λH1 v s1 nJ=>?_⟩);have l5:=tG.Ϛ s1
 refine⟨bn.ű l5,[.Z h1,v,.M ū],rfl,λf aC bar N6 cB=>?_⟩;left;obtain⟨fy,oB,_⟩:=bn.ű l5;have gh:cM D.gR H1 aC:=λb o af nb=>bar b o nb af
 have N7:=LA (l5.XV pG) oB Xq gh
 have aes:hE D.ar aC ct i n:=let⟨ey,e⟩:=aek;⟨ey,gh _ _ (l5 _ _ e) (bM (l5 _ _ e) oB nofun)⟩
 have aet:gE (D.ar 110) aC aZ w h L:=let⟨hj,l,bY,dN⟩:=ael.ob;⟨⟨hj,l,gh _ _ (l5 _ _ bY) (bM (l5 _ _ bY) oB nofun),gh _ _ (l5 _ _ dN) (bM (l5 _ _ dN) oB nofun)⟩⟩
 have aeu:=(oX.ű l5).eY oB gh
 have sY:=s1 _ _ (show ſ H h1 (bb.Ţ ((bD E.N (fu E)).ϒ bH)) h1=_ from aQ)
 have ru:=gh _ _ sY (bM sY oB nofun)
 right;ext;intro x dx aP lS N4;refine⟨x,dx,aZ,ct,bf,a0,num,rfl,aQ,λbI bw jI fS N8 dU=>⟨rfl,?_⟩⟩;have aev:bI≠x:=λz=>by rw[z,aQ]at jI;cases jI
 rw[aE aev]at jI;have i_:bI≠dx:=λz=>by rw[z,aQ]at jI;cases jI
 rw[aE i_]at jI;have s3:a5 aC bw:=λb o af=>dU b o (by rwa[aE (cF af aP),aE (cF af lS)]) (cF af aP)
 refine⟨a0,E,ã,ch,rfl,s3.XV N7,⋯,λbX cK s4 nT gn=>⟨s3.Ϛ s4,?_⟩⟩;left;have qy:=s3.Ϛ s4
 have up:∀{b o},b≠D.gR->H b=O o->cK b=O o:=λnb af=>qy _ _ (gh _ _ (l5 _ _ af) nb)
 obtain⟨ag4,aew,_⟩:=id N6;have back:∀{r},cK r=none->H r=none:=λ{r} de=>by
  cases e:H r with
  | none=>rfl
  | O u=>
   by_cases z:r=D.gR
   ·rw[z,qy _ _ aew]at de;cases de
   ·rw[up z e]at de;cases de
 have N9:=s4 _ _ N8
 obtain⟨aex,aey⟩:=fS;have aez:fG D.ar D.bP cK x ⟨aZ,ct,bf,num,a0,bI⟩ i n w h L E:=⟨⟨aex,s4 _ _ aey⟩,aes.ű qy,e6,aet.ű qy,d9,qy.XV N7,by show E.N<=100;omega,⟨[],N9,.ń,Iw,λm c v aG=>by cases aG⟩⟩
 have aeA:cK bX=O (.bQ f0.1):=by rwa[nS]
 right;refine⟨x,bX,ϻ,h1,⟨aZ,ct,bf,num,a0,bI⟩,i,n,b,ū,m0,w,h,L,E,C,f0.1,v,d9,f0.2,rfl,rfl,aez,aeu.ű qy,ap,dS,cz,aeA,(cF N8 nT).symm,λm c q hm=>?_,λk q aG=>?_,qy _ _ ru,nJ,i6,b1,kq,dH,aen,gf,λr dX yl tR de OX=>ao r dX (λb o nb af=>?_) (e5.b (N6.ű qy) N9 yl) (back de) (OX.Pg id λ⟨T,f,⟨ey,bW,a1,a2,gP⟩,iE⟩=>⟨T,f,⟨ey,bW,a1,a2,back gP⟩,iE⟩)⟩
 ·rw[nS]at hm;obtain⟨au,_⟩:=I1.IQ.mp (ϖ.mp hm);rwa[(lU au).2]
 ·have hm:=rO aG
  rw[nS]at hm;obtain⟨_,az⟩:=I1.IQ.mp (ϖ.mp hm);cases az;exact cI
 ·exact yl _ _ (up nb af) (cF (gh _ _ (l5 _ _ af) nb) jI)
theorem aeB:b0 D bx 13 (D.ar 91) q19 (Yf D.ar D.bP D.gR):=by
 refine cj (T 337) abg ?_;and_intros;obtain⟨p,S,w,h,L,t,rs,C,k,r,e,a0,E,ū,ϱ,rfl,aR,aO,he,aw,s1,s4,j0,tX,pE,nU,ao⟩:=h;refine uq ⟨_,(aY (cv 5 R (df (A 0 R) (T 218) (T 127) (Ng T) HR (aj (A 2 R) aB)))
 (
 aT (zx (cU (aee T) R (T 61) (aj (cq (A 0 R) (by rfl)) (aj (cm eO (cq (A 0 R) (by rfl)) (A 2 R) (λ_ _=>rfl)) (aj (A 1 R) (aj (A 2 R) (aj (cq (A 0 R) (by rfl)) (aj (A 5 R) (aj (cm eO (cq (A 0 R) (by rfl)) (A 2 R) (λ_ _=>rfl)) (aj (A 3 R) (aj (A 4 R) aB))))))))))))),?_⟩
 rfl';left;obtain⟨dx,av⟩:=aR.ob;obtain⟨ms,hm,pm⟩:=aR.ct;obtain⟨m,em,ak,g,ah,aI⟩:=ϋ.Ph pm aO;obtain⟨_,dK,eb,_,_,cG,Oa,tT⟩:=aR.ent he;rw[aO]at Oa;cases Oa;obtain⟨dJ,a3,g4,sc⟩:=tT.now;have t0:=aR.t0
 obtain⟨m0,Ob⟩:=L1 ((c7 C (k:G)).ϒ iJ) 0;have bm:m0<=ϱ:=by
  rcases Ob with⟨_,rfl⟩|⟨z,_⟩
  ·omega
  ·obtain⟨x,ai,rfl⟩:=Ζ.mp z;exact j0 x (pT.mp ai).1
 right;ext;refine(dZ av (h3 S t ∅) ⟨p,S,w,h,L,t,rs,C,k,e,rfl,aR,he,cp av (T 218) (T 219) (xJ S t) (cp av (T 218) (T 221) (oN S t) ⟨S.ct,rfl,mG (v:=V.Z m) (aM.of hm) (gW (by rw[Ϙ,em];rfl)) (cp av (T 218) (T 220) (oO S t) (cp av (T 218) (T 222) (Ay S t) ⟨S.ch,rfl,mG (v:=V.M r.q) (aM.of aR.ch) (gW (by rw[Ϙ,aO];rfl)) ?_⟩))⟩)⟩);refine⟨S.aZ,m,S.bf,a0,S.ϻ,r.i,r.n,k,t,cV e.b e.c t,r.q,ū,m0,w,h,L,E,C,aR.Ϻ,⟨[(bD (Hq E 0 (cV e.b e.c t)) (cV e.b e.c t),.M r.q)],Ye (As (ł _)) g4 dJ⟩,rfl,rfl,ak,⋯,aR.aZ,aM.of aw,s1,s4,aR.gf,aR.bf,aR.ap,⋯,aI,a3,sc,t0.1,⋯,Ob,⋯,nU,λa U bar aeC na aeD=>ao a U bar aeC na ?_⟩;rcases aeD with⟨qg,⟨iY,pp,j3,jq,cZ,f1,f2,dv,f4,dP,aeE⟩,g1,g2,_⟩|⟨qg,f,⟨iY,bW,f1,f2,_⟩,_⟩
 ·refine .ε ⟨iY,pp,j3,jq,_,f1,f2,dv,?_,?_,Yd aR.Ϻ dP f4 ⟨_,aeE⟩ (λx q aG=>?_) dJ a3 g4 sc⟩
  ·intro z;have:=ż N z
   simp only[Ú,ϧ,Ċ]at ν;omega
  ·simp only[Ú,ϧ];omega
  ·rw[Sr.Dj]at aG;obtain⟨j,bg⟩:=CK aG;have:=ϖ.mp (ύ bg)
   injection ν with au az
   injection az with az
   exact⟨(lU au).2,az⟩
 ·exact .Œ ⟨iY,bW,qg,f1⟩
theorem aeF:∃fd,(ô D.bP fd q03 []/\ô D.bP fd q03 [.none])/\ft D.jz D.jA D.bP D.nB D.nC (ht D.jz D.jA) 14 (D.ar 87) fd q03 (Yg D.ar D.bP D.gR):=by
 obtain⟨fd,ϴ,ϸ,ym⟩:=(T 6);refine⟨fd,⟨ϸ,ym⟩,?_⟩;refine ϴ.oe Mv.sc.1 ?_ (λË Ϲ Ϗ s H d Q ϵ HR h=>IS λUq uq=>?_);walk_at "l"
 have R:fD _ _ _ _ _:=⟨Mv,HR⟩
 have ND:=R.nd
 walk_at "h"
 obtain⟨p,S,w,h,L,t,rs,C,k,r,e,a0,E,ϱ,rfl,aR,aO,he,aw,s1,s4,j0,tX,pE,nU,ao⟩:=h;obtain⟨ag5,aeG,aeH⟩:=acJ T;obtain⟨ag6,aeI,aeJ⟩:=adJ T;refine uq ⟨_,(aY (fg (df (A 0 R) (T 218) (T 137) (EW T) HR (aj (A 1 R) aB)))
 (aY (fg (q4 (A 0 R) (T 218) (T 138) aeH (HR.WF (by decide)) aeG .ń ⟨mx.pass⟩ (aj (A 1 R) (aj (A 2 R) aB)) (wE:=el rfl) (Tm:=eF rfl)))
 (aY (c1 (gH (e2 (df (A 0 R) (T 218) (T 130) (acI T) HR (aj (A 1 R) aB))))
 (aT (sI mx rfl (eQ Zt) (T 23) (T 228) (aj v6 aB) (Oo:=Y2) (he:=el rfl) (Tm:=eF rfl)))
 c4)
 (aY (cv 4 R (pe (cR yM (A 3 R) hM) (q4 (A 0 R) (T 218) (T 136) aeJ (HR.WF (by decide)) aeI .ń ⟨mx.pass⟩ (aj (A 1 R) (aj (cm eO (A 2 R) (n0 n1 aV) (λ_ _=>rfl)) aB)) (wE:=el rfl) (Tm:=eF rfl)) (A 3 R)))
 (
 aT (zx (df (A 0 R) (T 218) (T 135) (aeB T) HR (aj (cq (A 0 R) (by rfl)) (aj (A 1 R) (aj (A 2 R) (aj (A 4 R) aB))))))))))),?_⟩
 rfl';obtain⟨dx,av⟩:=aR.ob;have fP:=ρ
 have pg:∀{m:ϕ},(∀x∈(q29:Y ϕ),¬m=x)->(g0 S t).Ϣ m=none:=λh=>h3 S t h
 have ne:E≠[]:=λz=>by rw[z]at s1;cases s1
 have aN:=λ(U:ag)(s:a5 H U)=>ao U (λb o af _ _=>s _ _ af) (nU.ű s) (aR.kt (hI s))
 ext;refine⟨_,_,av,pg ∅,p,S,w,h,L,t,rs,C,k,rfl,aR,(Y.Ϧ.mp aO).1,_,_,av,pg ∅,p,S,w,h,L,t,rs,C,k,r,a0,E,rfl,aR,aO,aw,s1,s4,λH1 z=>(aN H1 z).1,λH1 z _=>?_⟩;have e8:=aR.kt (hI z)
 refine⟨_,_,z _ _ av,pg ∅,p,S,w,h,L,t,rs,C,k,e,rfl,e8,he,_,rfl,?_⟩;split
 ·exact⟨⋯,(aN H1 z).2.1⟩
 refine⟨_,_,z _ _ av,pg ∅,mG (aM.of (z _ _ aw)) (Eh ne) ⟨p,S,w,h,L,t,rs,C,k,r,fu E,rfl,e8,aO,λaC sB fw=>?_⟩⟩;left;obtain⟨Ϝ,d4,_⟩:=e8.nd;have je:xM H aC S D.gR:=λb o af cz _=>sB _ _ (z _ _ af) cz
 have FE:=L5 (nU.ű z) sB d4
 right;refine⟨(ao aC je FE fw).2.2.1,λi=>?_⟩;obtain⟨ey,kF⟩:=fw.ob;refine⟨_,_,kF,pg ∅,cp kF (T 218) (T 223) (tu S t) ⟨p,S,w,h,L,t,rs,C,k,r,e,a0,E,i,ϱ,rfl,fw,aO,he,sB _ _ (z _ _ aw) (bM (z _ _ aw) d4 (λz=>nomatch z)),ne,s4,j0,tX,pE,FE,λa bw bar yp na ww=>?_⟩⟩;left;obtain⟨tt,oa,_⟩:=id FE;right;refine(ao bw (λb o af cz cS=>bar _ _ cS (je _ _ af cz cS)) yp (fw.kt (XP oa bar))).2.2.2 a ?_ ww;cases hz:H a with
 | none=>rfl
 | O o=>
  by_cases y:a=S.nd
  ·obtain⟨ag7,ea,_⟩:=fw.nd;rw[y,ea]at na;cases na
  ·rw[sB _ _ (z _ _ hz) y]at na;cases na
theorem aeK:∃fd,(ô D.bP fd q03 []/\ô D.bP fd q03 [.none])/\ft D.jz D.jA D.bP D.nB D.nC (ht D.jz D.jA) 15 (D.ar 88) fd q03 (Yl D.ar D.bP D.gR):=by
 obtain⟨fd,ϴ,ϸ,ym⟩:=(T 7);refine⟨fd,⟨ϸ,ym⟩,?_⟩;refine ϴ.oe Mw.sc.1 ?_ (λË Ϲ Ϗ s H d Q ϵ HR h=>IS λUq uq=>?_);walk_at "l"
 have R:fD _ _ _ _ _:=⟨Mw,HR⟩
 have ND:=R.nd
 walk_at "h"
 obtain⟨p,S,w,h,L,t,rs,C,k,r,e,a0,E,ϱ,rfl,aR,aO,he,aw,s1,s4,j0,tX,pE,nU,gd,ao⟩:=h;obtain⟨ag8,aeL,aeM⟩:=abj T;obtain⟨acT,E1,E2⟩:=Nf T;obtain⟨ag9,⟨aeN,aha⟩,aeO⟩:=aeF T;refine uq ⟨_,(aY (cv 4 R (q4 (A 0 R) (T 218) (T 131) aeO (HR.WF (by decide)) aeN .ń ⟨mx.pass⟩ (aj (A 1 R) (aj (A 2 R) (aj (A 3 R) aB))) (wE:=el rfl) (Tm:=eF rfl)))
 (aY (c1 (e2 (cX Sb R (T 172) (aj (A 4 R) (aj (jv (v:=.Z (D.ar 116)) R (T 15) rfl) aB))))
 (aT (JT JS rfl (eQ Zu) (T 27) (T 247) (T 248) aeM (HR.WF (by decide)) aeL .ń (aj (A 4 R) aB) (Oo:=Y4) (he:=el rfl) (Tm:=eF rfl)))
 c4)
 (aY (fg (q4 (cq (A 0 R) (by rfl)) (T 207) (T 101) E2 (HR.WF (by decide)) E1 .ń ⟨mx.pass⟩ (aj (A 1 R) (aj (cq (A 4 R) (by rfl)) aB)) (wE:=el rfl) (Tm:=eF rfl)))
 (
 aT (zx (cU (tE T) R (T 46) (aj (cq (A 4 R) (by rfl)) aB))))))),?_⟩
 rfl';obtain⟨dx,av⟩:=aR.ob;have fP:=ρ
 ext;refine(dZ av (h3 S t ∅) ⟨p,S,w,h,L,t,rs,C,k,r,e,a0,E,ϱ,rfl,aR,aO,he,aw,s1,s4,j0,tX,pE,nU,λH1 je tY e8=>⟨(gd H1 je tY e8).1,(gd H1 je tY e8).2.1,(gd H1 je tY e8).2.2.1,λa na ww=>?_⟩⟩);rcases ww with⟨aeP,pp,j3,jq,c,f1,f2,dv,f4,dP,tT⟩|⟨aeP,bW,jq,f1⟩
 ·refine(Ja (c:=.Z (D.ar 116)) (b:=false) rfl (.Â f1 (T 201) (T 166) (T 237) (T 238) (T 243)) (T 244) ?_);rw[aD (by decide)];left;obtain⟨ey,j2⟩:=e8.ob;obtain⟨⟨hj,ra⟩,jX⟩:=e8.bf.1;right;refine(cp j2 (T 218) (T 223) (tu S t) ⟨S.bf,rfl,dZ ra (js _ ∅) ⟨a,rfl,cp f1 (T 201) (T 202) rfl ?_⟩⟩);have hx:1<=c.N:=by
   cases c with
   | ń=>exact bJ rfl f4
   | θ _ _=>exact B.le_add_left _ _
  have t0:=e8.t0
  have hk:=e8.hk
  have lk:=(Y.Ϧ.mp he).1
  have tI:k<rs.N:=by rw[<- e8.cy.1];exact lk
  have tn:pS t c:=⟨f4,⋯,⋯,⋯⟩
  have jk:∀{aC},a5 H1 aC->xM H aC S D.gR:=λs2 b o af cz cS=>s2 _ _ (je b o af cz cS)
  refine⟨S.bf,S.ϻ,C,k,.Z pp,t,c,rfl,e8.bf.1,e8.bf.2,⟨pp,j3,rfl,f2,dv⟩,tn,λaC s2=>⟨λpi=>?_,λha nK pi pP=>((gd aC (jk s2) (tY.ű s2) (e8.kt (hI s2))).2.2.2 nK).2⟩⟩;have fw:=e8.kt (hI s2)
  have sB:cM S.ϻ aC (ſ aC S.ϻ (.bL (gB (iF C ⟨k,.Z pp,t,c⟩)))):=λb o af nb=>by rwa[aE nb]
  have ea:=fw.bf.1.2
  have FF:fC aC (ſ aC S.ϻ (.bL (gB (iF C ⟨k,.Z pp,t,c⟩)))):=λb F af=>sB _ _ af (bM af ea (λz=>nomatch z))
  have aeQ:i4 aC (iF C ⟨k,.Z pp,t,c⟩):=fw.bf.2.put ⟨⟨pp,j3,rfl,s2 _ _ f2,s2 _ _ dv⟩,tn,by show 0<=((k:B):G)/\((k:B):G)<=40;omega⟩
  have mm:=Yj (e:=⟨k,.Z pp,t,c⟩) (λj x ai=>(e8.ent ai).2.1) lk rfl
  have mY:=fw.Yh sB aQ (aeQ.dh FF) (e8.ap.put (v:=.Z pp) pi) ⟨by rw[mm.1,e8.cy.1],λj x cG ai h4=>by
   rcases mm.2 j x ai with⟨rfl,rfl⟩|⟨_,bg⟩
   ·rw[aO]at h4;cases h4;exact⟨rfl,G.ϑ _,tT⟩
   ·exact e8.cy.2 j x cG bg h4⟩
  have aeR:=sB _ _ (s2 _ _ f1) (bM (s2 _ _ f1) ea (λz=>nomatch z))
  have aeS:=FF _ _ (s2 _ _ f2)
  have aeT:=FF _ _ (s2 _ _ dv)
  refine⟨a,rfl,cp aeR (T 201) (T 202) rfl ⟨.Z pp,t,c,rfl,⟨pp,j3,rfl,aeS,aeT⟩,ao _ _ _ (λb o af fW fl xK=>sB _ _ (s2 _ _ (je b o af fW xK)) fl) (L5 (tY.ű s2) sB ea) mY λx ai=>?_⟩⟩;obtain⟨j,bg⟩:=Ŏ ai;rcases mm.2 j x bg with⟨rfl,rfl⟩|⟨_,A2⟩
  ·show t+(c.N:G)-1<=ϱ+1001
   omega
  ·have:=j0 x (ύ A2)
   omega
 ·refine(Ja (c:=.Z (D.ar 116)) (b:=true) rfl (.Â f1 (T 204) (T 167) (T 237) (T 238) (T 245)) (T 246) ?_);rw[aS rfl];refine⟨⋯,λx aJ kA aP=>⟨x,a,aJ,kA,rfl,aQ,λyq cz cS=>⟨rfl,yq,aQ,?_⟩⟩⟩;have lH:a5 H1 (del (ſ (ſ (ſ H1 x (.ext (i8 x (D.ar 128) none aJ kA))) yq (.m5 (cu "shut" (V.Z a) []))) x (.ext (i8 x (D.ar 128) (O yq) aJ kA))) x):=λb o af=>by
   have s7:b≠x:=λz=>by rw[z,aP]at af;cases af
   have bd:b≠yq:=λz=>by rw[<- z,aE s7,af]at cz;cases cz
   rwa[mP s7,aE s7,aE bd,aE s7]
  exact((gd _ (λb o af fW fl=>lH _ _ (je b o af fW fl)) (tY.ű lH) (e8.kt (hI lH))).2.2.2 yq).1
theorem aeU:b0 D bx 16 (D.ar 108) q13 (YG D.ar D.bP D.gR):=by
 refine cj (T 354) abh ?_;and_intros;obtain⟨l,p,S,w,h,L,t,rs,C,m,ϱ,rfl,aR,cY,m0,j0,tX,pE,nU,ao⟩:=h;obtain⟨ahb,aeV,aeW⟩:=acS T;obtain⟨ahc,⟨ahd,aeX⟩,aeY⟩:=aeK T;refine uq ⟨_,(aY (cv 3 R (bU sl (cX gM R (T 170) (aj (A 0 R) aB)) (cX ml R (T 170) (aj (cm eO (A 0 R) aV (λ_ _=>rfl)) aB))))
 (aY (cv 4 R (ki (A 1 R) (T 218) (T 125) (AH T) HR))
 (aY (R8 rfl rfl (eQ Zy) (T 25) Y5 (λϩ uP lK Oc=>(aT (c1 (e9.pt (m8 (cR (RI (K:=D.bP) rfl HU) (A 4 R) (jg aB)) (m7 (e9.pt (jL (cR fx (bU hO (A 2 R) aV) aV) (kb (cR qM (cX (HI (K:=D.bP) rfl) R (T 170) (aj (A 4 R) aB)) aV)))))))
 (aY (cv 5 R (bU eW aV (bU hO (bU hq (A 2 R) aV) aV)))
 (aY (cv 6 R (cm (Cw (K:=D.bP) rfl) (jg (aj v6 (aj v6 (aj v6 aB)))) (bU hO (bU hq (A 2 R) aV) aV) (λ_ _=>rfl)))
 (aT (fg (q4 (A 1 R) (T 218) (T 124) aeW (HR.WF (by decide)) aeV .ń Oc (aj (A 6 R) (aj (A 5 R) (aj (bU hO (bU hq (A 2 R) aV) (A 3 R)) (aj (bU hp (A 5 R) (bU hO (bU hq (A 2 R) aV) aV)) aB)))) (wE:=el rfl) (Tm:=eF rfl))))))
 (aY (cv 7 R (BJ (IC (K:=D.bP) rfl) (jg (aj (bU hO (bU hq (A 2 R) aV) (A 3 R)) (aj (bU hO (bU hq (A 2 R) aV) (A 3 R)) aB))) Qd (uk (bU eW aV (bU hO (bU hq (A 2 R) aV) aV)))))
 (aT (fg (q4 (A 1 R) (T 218) (T 132) aeY (HR.WF (by decide)) aeX V3 Oc (aj (cm (Cw (K:=D.bP) rfl) (A 4 R) (bU hO (bU hq (A 2 R) aV) (cX (HI (K:=D.bP) rfl) R (T 170) (aj (A 4 R) aB))) (λ_ _=>rfl)) (aj (A 7 R) aB)) (wE:=el rfl) (Tm:=eF rfl))))))))
 (λϩ a6 fA dx ob mk=>(aT (zx lu))))
 (
 aT (zx lu))))),?_⟩
 rfl';obtain⟨dx,av⟩:=aR.ob;have fP:=ρ
 have hk:=aR.hk
 have Ϻ:=aR.Ϻ
 have d0:=Ϻ.d0
 have fQ:=Ϻ.fQ
 have h0:=Ϻ.h0
 have g:=Ϻ.g
 have c6:fH ((Fl.ī w h L).ϒ V.str) 0=O (V.str (ib w L 0)):=gW (j:=0) (by rw[Ϙ,pR ⋯];rfl)
 have iN:=pQ Ϻ (show 0<h by omega)
 have aeZ:∀{U:ag},a5 H U->AB H S U S:=λs q F dV cz cS=>⟨s _ _ dV,cz,cS⟩
 refine zu (λJ U=>(∃ϰ:G,1<=ϰ/\ϰ<=1000/\J=[O (.Z l),O (.Z p),O (.M m),O (.M ϰ),none,none,none,none])/\U=H) (λaP aq=>?_) ?_
 ·ext;refine⟨_,.ε (aM.of cY),_,aM.of cY,_,c6,_,rfl,by rw[iN];omega,?_⟩;rw[iN,ϧ];have iq:(Fl.ī w h L).N=h:=by unfold Fl.ī;simp
  rw[iq];have k1:=Ç h0 d0
  have k2:=Ç g fQ
  have cst:((h:G)*(w:G))=((h*w:B):G):=by push_cast;rfl
  exact⟨.ε ⟨⋯,⋯⟩,aq _ _ ⟨⟨_,by rw[cst];omega,by rw[cst];omega,rfl⟩,rfl⟩⟩
 rintro cC bh J U ⟨⟨ϰ,adi,ahe,rfl⟩,rfl⟩;nofun;refine zu (λJ aC=>∃a,U a=none/\aC=ſ U a (.Ť ((Ć rs.N).ϒ λk=>V.M ((k:B):G)))/\J=[O (.Z l),O (.Z p),O (.M m),O (.M ϰ),O (.Z a),none,none,none]) (λaP aq=>?_) ?_
 ·ext;exact(dZ av (h3 S t ∅) ⟨p,S,w,h,L,t,rs,C,rfl,aR,λa na=>aq _ _ ⟨a,na,rfl,rfl⟩⟩)
 rintro cC bh J aC ⟨a,na,rfl,rfl⟩;nofun;have s2:=zj (o:=bb.Ť ((Ć rs.N).ϒ λk=>V.M ((k:B):G))) na
 have Od:=aQ (H:=U) (a:=a) (o:=bb.Ť ((Ć rs.N).ϒ λk=>V.M ((k:B):G)))
 generalize ſ U a (bb.Ť ((Ć rs.N).ϒ λk=>V.M ((k:B):G)))=aC at s2 Od ⊢
 have fw:=aR.kt (hI s2)
 ext;refine⟨⋯,λJ Ŝ dx U=>(∃fA,Ŝ=.Z fA/\I5 D.bP (.Z fA) (.Z (D.ar 126))=O true)/\Q (V.bl false) U,λp1 cz=>?_,?_⟩
 ·have s3:=s2.Ϛ (zj (o:=bb.Ť []) cz)
  have Ba:=(zj (o:=bb.Ť []) cz) _ _ Od
  have Oe:=aQ (H:=aC) (a:=p1) (o:=bb.Ť [])
  generalize ſ aC p1 (bb.Ť [])=bw at s3 Ba Oe ⊢
  have mY:=aR.kt (hI s3)
  have yp:=nU.ű s3
  obtain⟨h6,Of⟩:=mY.ob;have d_:∀{dX:ag},a5 bw dX->Q (V.bl false) dX:=λ{dX} s5=>ao _ _ rs C (aeZ (s3.Ϛ s5)) (yp.ű s5) (mY.kt (hI s5)) λx ai=>by have:=j0 x ai;omega
  have Pj:∀{Ϲ ϸ:Prop}{ϻ:Ŀ} [Decidable (ϻ.Bo (.ö [])=true)],(ϻ.Bo (.ö [])=true->rs.N=0)->(¬ϻ.Bo (.ö [])=true->1<=rs.N)->(rs.N<3->Ϲ)->(1<=rs.N->ϸ)->if ϻ.Bo (.ö [])=true then Ϲ else(0:G)<3/\if m%3=0 then ∃b,(aM D.bP bw a b\/bN D.bP bw a b)/\if (b.N:G)<3 then Ϲ else ϸ else ϸ:=λ{Ϲ ϸ ϻ _} d4 ea hA ke=>by
   split
   ·rename_i z;exact hA (by have:=d4 z;omega)
   ·rename_i z;have eL:=ea z
    refine⟨by decide,?_⟩;split
    ·refine⟨_,.ε (aM.of Ba),?_⟩;rw[ϧ,Ī];split
     ·exact hA ⋯
     ·exact ke eL
    ·exact ke eL
  refine⟨.ö ((Ć rs.N).ϒ λk=>Ŀ.M ((k:B):G)),.Ť (aM.of Ba) (L7 _),_,.Ť (aM.of Oe) .ń,Yy _ (by rw[Ī];omega),rfl,Pj ?_ ?_ (λeM=>?_) (λeL=>?_)⟩
  ·intro z;cases aO:rs.N with
   | HW=>rfl
   | o0 n=>rw[aO,Y.range_succ_eq_map]at z;exact bJ z (by simp[Ŀ.Bo,Ŀ.eqvAll])
  ·intro z;cases aO:rs.N with
   | HW=>rw[aO]at z;exact bJ rfl z
   | o0 n=>omega
  ·refine⟨⟨by decide,by decide⟩,by decide,⋯,λdp cS=>⟨⟨by decide,by decide⟩,by decide,_,aM.of aQ,?_⟩⟩;left;obtain⟨i,e6,x,ex,ei⟩:∃i:B,i<3/\∃x,iI[i]?=O x/\fH [V.str (ϕ.ϝ "cart"),V.str (ϕ.ϝ "crawler"),V.str (ϕ.ϝ "runner")] (m/3%3)=O (V.str x):=by
    rcases (show m/3%3=0\/m/3%3=1\/m/3%3=2 by omega) with z|z|z<;>rw[z]
    ·exact⟨0,by decide,_,rfl,rfl⟩
    ·exact⟨1,by decide,_,rfl,rfl⟩
    ·exact⟨2,by decide,_,rfl,rfl⟩
   right;refine⟨_,ei,dZ ((zj cS) _ _ Of) (h3 S t ∅) ⟨⟨by decide,by decide⟩,⋯,⟨by decide,by decide⟩,by decide,p,S,w,h,L,t,rs,C,i,x,_,_,_,rfl,mY.kt (hI (zj cS)),eM,e6,ex,⋯,⋯,⋯,⋯,λdX s5=>⟨⟨⟨_,rfl,(T 230)⟩,d_ ((zj cS).Ϛ s5)⟩,⟨⟨_,rfl,(T 231)⟩,d_ ((zj cS).Ϛ s5)⟩,λy=>⟨⟨_,rfl,(T 235)⟩,d_ ((zj cS).Ϛ s5)⟩⟩,λdX e fr le m2=>?_⟩⟩;refine ao _ _ _ _ (λq F dV cz oV=>⟨?_,cz,oV⟩) ?_ m2 λx ai=>?_
   ·have:=(zj (o:=bb.Ť [V.str (ϕ.ϝ "cart"),V.str (ϕ.ϝ "crawler"),V.str (ϕ.ϝ "runner")]) cS) _ _ (s3 _ _ dV)
    refine fr _ _ ν cz oV ?_ ?_
    ·exact bM (s3 _ _ dV) mY.bf.1.2 (λz=>nomatch z)
    ·obtain⟨Ϝ,d4,_⟩:=mY.nd;exact bM (s3 _ _ dV) d4 (λz=>nomatch z)
   ·exact Yz (yp.ű (zj cS)) fr (mY.kt (hI (zj cS)))
   ·rcases κ.mp ai with z|z
    ·have:=j0 x z;omega
    ·rw[ϖ.mp z];omega
  ·refine⟨⟨by decide,by decide⟩,⋯,⟨by decide,by decide⟩,⋯,⋯,λdp cS=>⟨⟨by decide,by decide⟩,by decide,_,aM.of aQ,λfU h8=>?_⟩⟩;left;obtain⟨E,E3,d3,ae0⟩:∃E:Y G,jh [V.M (m/9%ϰ),V.M (m/54%ϰ)] none (O (1+m/324%2))=E.ϒ V.M/\1<=E.N/\E.N<=4:=by
    rcases (show m/324%2=0\/m/324%2=1 by omega) with z|z<;>rw[z]
    ·exact⟨[m/9%ϰ],rfl,by simp,by simp⟩
    ·exact⟨[m/9%ϰ,m/54%ϰ],rfl,by simp,by simp⟩
   right;rw[E3];have s4:=(zj (o:=bb.Ť [V.M (m/9%ϰ),V.M (m/54%ϰ)]) cS).Ϛ (zj (o:=bb.Ť (E.ϒ V.M)) h8)
   have Og:=aQ (H:=ſ bw dp (bb.Ť [V.M (m/9%ϰ),V.M (m/54%ϰ)])) (a:=fU) (o:=bb.Ť (E.ϒ V.M))
   generalize ſ (ſ bw dp (bb.Ť [V.M (m/9%ϰ),V.M (m/54%ϰ)])) fU (bb.Ť (E.ϒ V.M))=cK at s4 Og ⊢
   have qr:=mY.kt (hI s4)
   have Oh:=s4 _ _ Ba
   have FG:=yp.ű s4
   refine(dZ (s4 _ _ Of) (h3 S t ∅) ⟨⟨by decide,by decide⟩,_,.ε (aM.of Oh),?_⟩);rw[ϧ,Ī];left;obtain⟨k,dK,lk⟩:∃k:B,m/3%(rs.N:G)=(k:G)/\k<rs.N:=⟨(m/3%(rs.N:G)).Ο,(G.aiy (Pi _ ⋯)).symm,by have:=Y_ (m/3) (show(0:G)<rs.N by omega);have:=Pi (m/3) (show(rs.N:G)≠0 by omega);omega⟩;right;rw[dK];have fin2:∀{dX:ag},xM cK dX S D.gR->e5 (jx gZ) "sought.<locals>.there" D.gR dX->dj D.ar dX p S w h L t rs C->Q (V.bl false) dX:=λ{dX} je o3 m2=>ao _ _ rs C (λq F dV cz oV=>⟨?_,cz,oV⟩) o3 m2 λx ai=>by have:=j0 x ai;omega
   ·refine⟨⋯,mG (v:=V.M (k:G)) (aM.of Oh) (gW (by rw[Ϙ,Y.al1 lk];rfl)) ⟨p,S,w,h,L,t,rs,C,k,_,_,fU,E,ϱ,rfl,qr,ϡ lk,ϡ (show k<C.N by rw[aR.cy.1];exact lk),Og,d3,ae0,j0,tX,pE,FG,λdX je o3 m2=>⟨⟨⟨_,rfl,(T 232)⟩,fin2 je o3 m2⟩,⟨⟨_,rfl,(T 233)⟩,fin2 je o3 m2⟩,⟨⟨_,rfl,(T 234)⟩,fin2 je o3 m2⟩,λy=>⟨⟨⟨_,rfl,(T 236)⟩,fin2 je o3 m2⟩,⟨⟨_,rfl,(T 235)⟩,fin2 je o3 m2⟩⟩⟩,λdX ec v fr o3 m2 ae1=>?_⟩⟩;refine ao _ _ rs ec (λq F dV cz oV=>⟨?_,cz,oV⟩) o3 m2 ae1;have bO:=s4 _ _ (s3 _ _ dV)
    obtain⟨Ϝ,d4,_⟩:=qr.nd;obtain⟨tt,oa,_⟩:=id FG;exact fr _ _ bO (bM bO d4 (λz=>nomatch z)) (bM bO qr.bf.1.2 (λz=>nomatch z)) (bM bO oa (λz=>nomatch z))
   ·have bO:=s4 _ _ (s3 _ _ dV)
    obtain⟨Ϝ,d4,_⟩:=qr.nd;obtain⟨tt,oa,_⟩:=id FG;exact je _ _ bO (bM bO d4 (λz=>nomatch z)) (bM bO oa (λz=>nomatch z))
 ·rintro a7 Ŝ iY dX cg;left;obtain⟨⟨fA,au,az⟩,d6⟩:=cg;right;exact⟨fA,au,az,λa6 _=>d6⟩
theorem ae2 (ϴ:kG D.bP "law" "law" s8 (D.ar 109) fd):ft D.jz D.jA D.bP D.nB D.nC bx 18 (D.ar 109) fd q45 (xN D.bP D.gR):=by
 refine ϴ.ok Mx.sc.1 ?_ (λË Ϲ Ϗ s H d Q ϵ HR h=>IS λUq uq=>?_);walk_at "l"
 have R:fD _ _ _ _ _:=⟨Mx,HR⟩
 have ND:=R.nd
 walk_at "h"
 obtain⟨a,ns,rfl,dq,aw,Dw,bn,ao⟩:=h;refine uq ⟨_,(aY (cv 1 R (cU (abX T) R (T 67) (aj (cU (abI T) R (T 65) (aj (A 0 R) (aj aV aB))) aB)))
 (aY (cv 2 R (pX (T 161) (aco T) R (T 19) (aj (pX (T 152) (acu T) R (T 10) (aj (u9 GJ R (T 177) (aj (A 1 R) aB)) aB)) aB)))
 (aY (ul Ų.Ï (c8 rfl) (UE (eQ ZD) (T 183).1 (aj (BJ GH (A 0 R) (uk aV) (uk aV)) aB) (d3 rfl)) (l9 (n:=2) (c8 rfl) (gJ (et 3 R) (gJ (et 4 R) l8)))
 (aY (cv 5 R (cU (MM T) R (T 66) (aj (A 4 R) (aj (bU eW aV (A 3 R)) aB))))
 (aY (fg (cU (aeU T) R (T 78) (aj (A 1 R) (aj (A 2 R) (aj (bU hq (A 5 R) aV) aB)))))
 (aY (c1 (gH (e2 (cU (Nh T) R (T 77) (aj (A 2 R) aB))))
 (aT (zx lu))
 c4)
 (aT (ul Ų.Ï (c8 rfl) (nZ (eQ Mi) (T 171).1 (aj (bU eW (bU hq (bU hO (A 5 R) aV) aV) (u9 Po R (T 174) (aj (ju fx (bU hO (A 5 R) aV) aV) aB))) aB) (d3 rfl)) (et 6 R)
 (aT (c1 (gH (e2 (cU (NU T) R (T 74) (aj (A 1 R) (aj (A 2 R) aB)))))
 (aT (zx lu))
 c4))))))))
 (aY (ul Ų.Ï (c8 rfl) (nZ (eQ Mi) (T 171).1 (aj aV aB) (d3 rfl)) (et 6 R)
 (aT (c1 (gH (e2 (cU (NU T) R (T 74) (aj (A 1 R) (aj (A 2 R) aB)))))
 (aT (zx lu))
 c4)))
 (
 aT (zx (cU (Nh T) R (T 77) (aj (A 2 R) aB)))))))),?_⟩
 rfl';have fP:=ρ
 refine zu (λJ U=>∃l w h L,a5 H U/\jC U l w h L/\Fl.ħ w h L/\L.N<=9/\J=[O (.Z a),O (.Z l),none,none,none,none,none]) (λaP aq=>?_) ?_
 ·walk_at "RDS"
  exact⟨a,ns,0,rfl,dq,by decide,λr=>⟨r,rfl,λl U w h L s _ cY Ϻ gf=>aq _ _ ⟨l,w,h,L,s,cY,Ϻ,gf,rfl⟩⟩⟩
 rintro cC bh J H1 ⟨l,w,h,L,s1,cY,Ϻ,gf,rfl⟩;nofun;refine zu (λJ U=>∃p S,a5 H1 U/\dj D.ar U p S w h L 0 [] []/\(∀b∈[S.ct,S.ch,S.bf,S.nd,S.ϻ],H1 b=none)/\J=[O (.Z a),O (.Z l),O (.Z p),none,none,none,none]) (λaP aq=>?_) ?_
 ·walk_at "RDS"
  refine⟨_,.ε (aM.of cY),λeM nl x dx oW lS ia=>?_⟩;have a0:=zj (o:=bb.Ť ((Fl.ī w h L).ϒ V.str)) nl
  have lH:=zj (o:=bb.HF x) lS
  have ae3:ſ (ſ H1 eM (bb.Ť ((Fl.ī w h L).ϒ V.str))) dx (bb.HF x) x=none:=by rwa[aE ia.symm]
  have Oi:=zj (o:=bb.Â (D.ar 110) dx []) ae3
  refine⟨x,dx,eM,w,h,L,rfl,aQ,(lH.Ϛ Oi) _ _ aQ,Ϻ,λbw iY hk h8 ai ae4 oI=>⟨rfl,λy ey qp ae5 ae6=>?_⟩⟩;have s3:a5 H1 bw:=λb o e=>oI _ _ ((a0.Ϛ (lH.Ϛ Oi)) _ _ e) (λz=>by rw[z]at e;rw[a0 _ _ e]at oW;cases oW)
  have ae7:=zj (o:=bb.HF y) ae5
  have ae8:ſ bw ey (bb.HF y) y=none:=by rwa[aE ae6.symm]
  have FH:=ae7.Ϛ (zj (o:=bb.Â (D.ar 120) ey []) ae8)
  have ae9:gE (D.ar 110) bw x w h L:=⟨iY,hk,ai,ae4⟩
  refine⟨y,ey,x,w,h,L,rfl,aQ,ae9.ű FH,Ϻ,gf,λcK S tD nD qr=>⟨rfl,aq _ _ ⟨y,S,λb o e=>tD _ _ (FH _ _ (s3 _ _ e)) (λz=>by rw[z]at e;rw[s3 _ _ e]at qp;cases qp),qr,λb af=>?_,rfl⟩⟩⟩;have:=nD b af
  cases e:H1 b with
  | none=>rfl
  | O u=>rw[FH _ _ (s3 _ _ e)]at ν;cases ν
 rintro cC bh J aC ⟨p,S,s2,fw,nD,rfl⟩;nofun;refine zu (λJ U=>∃q F dg d8 ew c2,lh D.ar D.gR U p l q w h L F 8000 20/\J=[O (.Z a),O (.Z l),O (.Z p),dg,d8,ew,c2]) (λaP aq=>?_) ?_
 ·ext;refine⟨_,(s1.Ϛ s2).XV dq,λq gi=>?_⟩;have s3:=zj (o:=bb.Ť (jh (ns.ϒ V.M) (O 1) (O 8))) gi
  have tH:=aQ (H:=aC) (a:=q) (o:=bb.Ť (jh (ns.ϒ V.M) (O 1) (O 8)))
  have tI:lX aC S l ((Fl.ī w h L).ϒ V.str):=⟨s2 _ _ cY,(λz=>by have:=nD S.ct (by simp);rw[<- z,cY]at ν;cases ν),(λz=>by have:=nD S.ch (by simp);rw[<- z,cY]at ν;cases ν)⟩
  have afa:q≠S.ct/\q≠S.ch:=⟨by obtain⟨ms,hm,_⟩:=fw.ct;exact lg gi hm,lg gi fw.ch⟩
  have ln:(jh (ns.ϒ V.M) (O 1) (O 8)).N<=7:=by
   unfold jh;rw[Ģ];have au:HT.iA (ns.ϒ V.M).N 0 (O 1)=min 1 (ns.ϒ V.M).N:=HT.yS _ _ 1
   have az:HT.iA (ns.ϒ V.M).N (ns.ϒ V.M).N (O 8)=min 8 (ns.ϒ V.M).N:=HT.yS _ _ 8
   rw[au,az];omega
  have OO:∀v∈jh (ns.ϒ V.M) (O 1) (O 8),∃c,v=V.M c:=λv aG=>let⟨c,_,e⟩:=Ζ.mp (YI aG);⟨c,e.symm⟩
  have FI:lh D.ar D.gR (ſ aC q (bb.Ť (jh (ns.ϒ V.M) (O 1) (O 8)))) p l q w h L (jh (ns.ϒ V.M) (O 1) (O 8)) (30+1001*((0:B):G)) (2*((0:B):G)):=⟨S,0,[],[],fw.kt (hI s3),(bn.ű (s1.Ϛ s2)).ű s3,λx ai=>(nomatch ai),⋯,tI.ű s3,tH,afa⟩
  generalize jh (ns.ϒ V.M) (O 1) (O 8)=F at FI ln OO tH s3 ⊢
  generalize ſ aC q (bb.Ť F)=bw at FI tH s3 ⊢
  refine⟨F,aM.of tH,YH (K:=D.bP) (a:=q) (F:=F) (λj J U=>(∃dg d8 ew c2,J=[O (.Z a),O (.Z l),O (.Z p),dg,d8,ew,c2])/\lh D.ar D.gR U p l q w h L F (30+1001*j) (2*j)) ⟨⟨_,_,_,_,rfl⟩,FI⟩ ?_ ?_ ?_⟩
  ·rintro j J U ⟨_,y⟩;exact aM.of y.XV
  ·rintro j x J U T0 ϰ ai cg hU cA;left;obtain⟨⟨dg,d8,ew,c2,rfl⟩,y⟩:=cg;have kk:=(Y.Ϧ.mp ai).1
   obtain⟨c,rfl⟩:=OO x (ύ ai);have fW:=y.ű (zj (o:=bb.Ţ [V.M (j:B),V.M c]) hU)
   right;walk_at "RDS"
   refine⟨_,bN.of aQ,rfl,_,_,rfl,_,_,rfl,rfl,?_⟩;generalize ſ U T0 (bb.Ţ [V.M (j:B),V.M c])=dX at fW ⊢
   refine zu (λJ U=>∃m,0<=m/\U=dX/\J=[O (.Z a),O (.Z l),O (.Z p),O (.M (j:B)),O (.M c),O (.M m),c2]) (λaP aq=>?_) ?_
   ·ext;exact⟨c,_,rfl,⋯,⋯,λr mq _=>aq _ _ ⟨r,mq,rfl,rfl⟩⟩
   rintro cC bh J g9 ⟨m,m0,rfl,rfl⟩;nofun;refine zu (λJ U=>lh D.ar D.gR U p l q w h L F (30+1001*(j+1)) (2*j)/\J=[O (.Z a),O (.Z l),O (.Z p),O (.M (j:B)),O (.M c),O (.M m),c2]) (λaP aq=>?_) ?_
   ·left;obtain⟨gF,t',cZ,ec,cQ,da,fj,k4,gD,ik⟩:=fW.ex;right;ext;refine⟨⟨by decide,by decide⟩,l,p,gF,w,h,L,t',cZ,ec,m/4,30+1001*j,rfl,cQ,gD.1,⋯,fj,⋯,⋯,da,λv gK afb afc lk afd afe aff=>aq _ _ ⟨⟨gF,t',afb,afc,afe,afd,λx ai=>by have:=aff x ai;omega,k4,gD.lk lk,ik.lk lk⟩,rfl⟩⟩
   rintro cC bh J gK ⟨y6,rfl⟩;nofun;refine zu (λJ U=>lh D.ar D.gR U p l q w h L F (30+1001*(j+1)) (2*j)/\J=[O (.Z a),O (.Z l),O (.Z p),O (.M (j:B)),O (.M c),O (.M m),c2]) (λaP aq=>?_) ?_
   ·left;obtain⟨gF,t',cZ,ec,cQ,da,fj,k4,gD,ik⟩:=y6.ex;right;ext;refine⟨p,gF,w,h,L,t',cZ,ec,rfl,cQ,λhR i1=>⟨true,rfl,?_⟩⟩;rw[aD (by decide)];exact aq _ _ ⟨y6.ű i1,rfl⟩
   rintro cC bh J hR ⟨afg,rfl⟩;nofun;ext;refine⟨by decide,⟨by decide,by decide⟩,by decide,.Œ ?_⟩;left;obtain⟨n,cy,dS,cS⟩:∃n:G,n=m%4/2+(if m%4=3 then 1 else 0)/\0<=n/\n<=2:=⟨_,rfl,by split<;>omega,by split<;>omega⟩;right;rw[<- cy];refine⟨⋯,⋯,ro (λi J U=>(∃c2,J=[O (.Z a),O (.Z l),O (.Z p),O (.M (j:B)),O (.M c),O (.M m),c2])/\lh D.ar D.gR U p l q w h L F (30+1001*(j+1)) (2*j+i)) ⟨⟨_,rfl⟩,(by rwa[show(2:G)*j+((0:B):G)=2*j by omega])⟩ ?_ ?_⟩
   ·rintro i J U Ni aA cg x5;left;obtain⟨⟨c2,rfl⟩,y⟩:=cg;have aA:i<n.Ο:=aA
    obtain⟨gF,t',cZ,ec,cQ,da,fj,k4,gD,ik⟩:=y.ex;right;ext;refine⟨l,p,gF,w,h,L,t',cZ,ec,rfl,cQ,gD.1,⋯,da,λn8 afh afi lk afj afk=>⟨true,rfl,?_⟩⟩;rw[aD (by decide)];exact x5 _ _ ⟨⟨_,rfl⟩,afh,t'+1,afi,ec,afk,afj,fj,⋯,gD.lk lk,ik.lk lk⟩
   ·rintro J U ⟨⟨c2,rfl⟩,y⟩;obtain⟨gF,t',cZ,ec,cQ,da,fj,k4,gD,ik⟩:=y.ex;exact cA _ _ ⟨⟨_,_,_,_,rfl⟩,gF,t',cZ,ec,cQ,da,λx ai=>by have:=fj x ai;omega,⋯,gD,ik⟩
  ·rintro J U ⟨⟨dg,d8,ew,c2,rfl⟩,y⟩;obtain⟨gF,t',cZ,ec,cQ,da,fj,k4,gD,ik⟩:=y.ex;exact aq _ _ ⟨q,F,dg,d8,ew,c2,⟨gF,t',cZ,ec,cQ,da,λx ai=>by have:=fj x ai;omega,⋯,gD,ik⟩,rfl⟩
 rintro cC bh J bw ⟨q,F,dg,d8,ew,c2,xK,rfl⟩;nofun;refine zu (λJ U=>∃q F dg d8 ew c2,lh D.ar D.gR U p l q w h L F 8000 23/\J=[O (.Z a),O (.Z l),O (.Z p),dg,d8,ew,c2]) (λaP aq=>?_) ?_
 ·ext;refine⟨by decide,by decide,ro (λj J U=>(∃c2,J=[O (.Z a),O (.Z l),O (.Z p),dg,d8,ew,c2])/\lh D.ar D.gR U p l q w h L F 8000 (20+j)) ⟨⟨_,rfl⟩,(by rwa[show(20:G)+((0:B):G)=20 by omega])⟩ ?_ ?_⟩
  ·rintro j J U ϰ bg cg cA;left;obtain⟨⟨c2,rfl⟩,y⟩:=cg;have bg:j<3:=bg
   obtain⟨gF,t',cZ,ec,cQ,da,fj,k4,gD,ik⟩:=y.ex;right;ext;refine⟨l,p,gF,w,h,L,t',cZ,ec,rfl,cQ,gD.1,⋯,da,λg9 afl afm lk afn afo=>⟨true,rfl,?_⟩⟩;rw[aD (by decide)];exact cA _ _ ⟨⟨_,rfl⟩,afl,t'+1,afm,ec,afo,afn,fj,⋯,gD.lk lk,ik.lk lk⟩
  ·rintro J U ⟨⟨c2,rfl⟩,y⟩;exact aq _ _ ⟨q,F,_,_,_,_,y,rfl⟩
 rintro cC bh J cK ⟨q,F,dg,d8,ew,c2,zQ,rfl⟩;nofun;left;obtain⟨gF,t',cZ,ec,cQ,da,fj,k4,gD,ik⟩:=zQ.ex;right;ext;exact⟨p,gF,w,h,L,t',cZ,ec,rfl,cQ,λdX _=>ao dX⟩
end
theorem afp {e:nA}(T:Txt e):xP e:=TD.f_ λn=>(Mz T n).2 λ_ ϴ=>ae2 (Mz T n).1 ϴ
theorem all_mk {l:ajc}{w:Þ}{h:Θ}{fa c:Ϩ}{afq:ϣ Ϩ}{afr:ϣ Ϩ}{i6:OE}{afs:OE}{aft:OE}{afu:OE}{afv:OE}{afw:OE}{afx:B}{afy:B}{afz:μ (ϣ ϫ)}{afA:μ (ϣ ϫ)}{afB:OE}{afC:OE}{afD:OE}{lT cQ da fj k4 gD ik vB vC vD vE vF vG vH rH vI rJ s9 ta p6 p7 p8 vJ vK vL vM vN vO vP vQ vR vS vT vU vV vW vX vY vZ v3 v5 v7 v8 v9 wa wb wc wd we wg wh wi wj wk wm wo wq wt wu wx wy wz wA wB wC wD wF wG wH wI wJ wK wL wM wN wO wQ wR wU wV wW wX wY wZ w0 w1 w2 w3 w4 w5 w6 w7 w8 w9 xa xb xc xd xe xf xg xh xi xj xk xl xm xn xo xp i9 kl km kn k6 mQ k7 jB ja j4 fL tb td te tf tg mR mS mT xq xr:Ϩ}(X:K.In h)(ϳ:h.Ns Ļ mg)(afE:mg "law"=O (.Z fa))(mL:Df K "law" s8 xp)(R:∀i:B,(Li K mg lT cQ da fj k4 gD ik vB vC vD vE vF vG vH rH vI rJ s9 ta p6 p7 p8 vJ vK vL vM vN vO vP vQ vR vS vT vU vV vW vX vY vZ v3 v5 v7 v8 v9 wa wb wc wd we wg wh wi wj wk wm wo wq wt wu wx wy wz wA wB wC wD wF wG wH wI wJ wK wL wM wN wO wQ wR wU wV wW wX wY wZ w0 w1 w2 w3 w4 w5 w6 w7 w8 w9 xa xb xc xd xe xf xg xh xi xj xk xl xm xn xo xp i9 kl km kn k6 mQ k7 jB ja j4 fL tb td te tf tg mR mS mT xq xr).œ i Tl)(Oj:p5 K "sought" "sought" oD wN #[.M 0 afD] c a4)(afF:oo K "pass_time" "Fleet.pass_time" vy w5 #[.M 1 afB])(afG:oo K "sees" "Fleet.sees" Ae w3 #[.none])(afH:oo K "send" "Fleet.send" Af w4 #[.none])(afI:oo K "carrier_of" "carrier_of" DT vR #[.M 20 afC])(afJ:K.Ϣ xr=O ⟨.χ "tuple",afq,.XV #[.str (ϕ.ϝ ".") i6,.str (ϕ.ϝ "+") afs,.str (ϕ.ϝ "|") aft] afx,afz⟩)(afK:K.Ϣ xq=O ⟨.χ "tuple",afr,.XV #[.str (ϕ.ϝ "cart") afu,.str (ϕ.ϝ "crawler") afv,.str (ϕ.ϝ "runner") afw] afy,afA⟩):∃fd:Ix,(∃c,ahY K c a4=true)/\(∀(s:ϐ)(v:ϫ),bv s fd ⟨[v],[]⟩ [("_law_script",v)])/\∀ϊ:Θ,K.In ϊ->ϊ.Ns Ļ mg->oA mg ϊ->ft l.ϔ w K mg ϊ bx 18 fa fd q45 (xN K a4):=by
 obtain rfl:xp=fa:=by
  have e:=afE.symm.Ϛ (anE X ϳ mL.a)
  cases e;rfl
 obtain⟨fd,ϴ⟩:=id mL.l;refine⟨fd,Oj.ch,by obtain⟨_,_,_,_,_,_,_,_,_,rfl,_⟩:=ϴ.ex;exactλs v=>.of_eq rfl,λϊ hX _ af=>?_⟩;have T:Txt ⟨λi=>([lT,cQ,da,fj,k4,gD,ik,vB,vC,vD,vE,vF,vG,vH,rH,vI,rJ,s9,ta,p6,p7,p8,vJ,vK,vL,vM,vN,vO,vP,vQ,vR,vS,vT,vU,vV,vW,vX,vY,vZ,v3,v5,v7,v8,v9,wa,wb,wc,wd,we,wg,wh,wi,wj,wk,wm,wo,wq,wt,wu,wx,wy,wz,wA,wB,wC,wD,wF,wG,wH,wI,wJ,wK,wL,wM,wN,wO,wQ,wR,wU,wV,wW,wX,wY,wZ,w0,w1,w2,w3,w4,w5,w6,w7,w8,w9,xa,xb,xc,xd,xe,xf,xg,xh,xi,xj,xk,xl,xm,xn,xo,xp,i9,kl,km,kn,k6,mQ,k7,jB,ja,j4,fL,tb,td,te,tf,tg,mR,mS,mT,xq,xr]:Y Ϩ).œ i 0,l.ϔ,w,K,mg,ϊ,c,a4⟩:=by
  refine tc af ?_;refine tc hX ?_;refine tc (λH=>.Œ ⟨_,_,_,afK,rfl,rfl,(show(3:B)<=ϓ by rw[ρ];decide),.θ ⟨_,rfl⟩ (.θ ⟨_,rfl⟩ (.θ ⟨_,rfl⟩  .ń))⟩) ?_;refine tc (λH=>.Œ ⟨_,_,_,afJ,rfl,rfl,(show(3:B)<=ϓ by rw[ρ];decide),.θ ⟨_,rfl⟩ (.θ ⟨_,rfl⟩ (.θ ⟨_,rfl⟩  .ń))⟩) ?_;refine tc (⟨_,afI.b λ_ _ _ _ _ _ _ us aw=>by rw[ċ]at aw;revert aw;apply a2;intros;exact⟨_,rfl,rfl⟩⟩) ?_;refine tc (Oj.b λ_ _ _ _ _ _ _ us aw=>by rw[ċ]at aw;revert aw;apply De;intros;exact⟨_,rfl,rfl⟩) ?_;refine tc ?_ ?_
  ·obtain⟨fd,ϴ⟩:=afG;refine⟨fd,ϴ,ϴ.zv λ_ _ _ _ _ _ _ us aw=>?_,ϴ.zv λ_ _ _ _ _ _ _ us aw=>?_⟩
   ·rw[ċ]at aw;revert aw;apply iE;intros;exact⟨_,rfl,rfl⟩
   ·rw[υ]at aw;have aw:=B.o0.W1 aw;revert aw;apply gP;intros;exact⟨_,rfl,rfl⟩
  refine tc ?_ ?_
  ·obtain⟨fd,ϴ⟩:=afH;refine⟨fd,ϴ,ϴ.zv λ_ _ _ _ _ _ _ us aw=>?_,ϴ.zv λ_ _ _ _ _ _ _ us aw=>?_⟩
   ·rw[ċ]at aw;revert aw;apply iE;intros;exact⟨_,rfl,rfl⟩
   ·rw[υ]at aw;have aw:=B.o0.W1 aw;revert aw;apply gP;intros;exact⟨_,rfl,rfl⟩
  refine tc ?_ ?_
  ·obtain⟨fd,ϴ⟩:=afF;refine⟨_,fd,ϴ,ϴ.zv λ_ _ _ _ _ _ _ us aw=>?_,ϴ.zv λ_ _ _ _ _ _ _ us aw=>?_⟩
   ·rw[ċ]at aw;revert aw;apply a2;intros;exact⟨_,rfl,rfl⟩
   ·rw[υ]at aw;have aw:=B.o0.W1 aw;revert aw;apply a1;intros;exact⟨_,rfl,rfl⟩
  exact R
 exact afp T _ ϴ
theorem walk {l:ajc}{q:Č}{ϻ:DefRec}{K:an1->ş}{T:Ϩ}(aF:l.most=O 63)(uH:ϻ.ĳ.aj4=[])(DE:∀(w:Þ)(h:Θ),pL w h->(K w.ĳ).In h/\h.ϛ T=O (an5 #[]))(hU:∀w:Þ,(K w.ĳ).Ϣ T=none)(ϴ:∀(w:Þ)(mg:ϕ->ϣ ϫ)(fa:Ϩ)(h:Θ),(K w.ĳ).In h->h.Ns Ļ mg->mg ϻ.name=O (.Z fa)->
   ∃fd:Ix,(∃c,ahY (K w.ĳ) c T=true)/\(∀(s:ϐ)(u:ϫ),bv s fd ⟨[u],[]⟩ [("_law_script",u)])/\∀ϊ:Θ,(K w.ĳ).In ϊ->ϊ.Ns Ļ mg->oA mg ϊ->ft l.ϔ w (K w.ĳ) mg ϊ bx 18 fa fd q45 (xN (K w.ĳ) T)):
  WalkO q loose sF pL l.row.alC ϻ [] (λf d=>ϟ.WP f d):=
 L2.Vj (n:=63) (k:=18) (x:="_law_script") (sp:=λw=>xN (K w.ĳ) T) aF (by decide) uH ⟨rfl,by decide,by decide⟩ DE hU ϴ (λ_ _ a ns aw af rC dq=>⟨a,ns,rfl,dq,aw,af,⟨_,rC.Pe,trivial,.ε rfl⟩,λ_=>rfl⟩)
end Pf
set_option tactic.hygienic true
open PySem PySem.W PyProof.Rows
set_option maxRecDepth 100000 in
set_option maxHeartbeats 0 in
theorem PySem.Challenge.cw_floorways_k24_whole_fleets_never_meet_holds : PySem.Challenge.rw_floorways_k24_whole_fleets_never_meet.Holds := by
 refine ϟ.amQ.cw_floorways_k24_whole_fleets_never_meet_holds0 ?_
 k_fill
 refine Pf.walk (l:=ϟ.amQ.rw_floorways_k24_whole_fleets_never_meet) rfl rfl (λw h ϭ=>⟨ϟ.W.km_in_of ϭ,ϟ.W.km_tabs_of ϭ _ (.head _)⟩) ?nTT ?ϴ;case ϴ=>
  intro w mg fa h KX ϳ hmg;refine' Pf.all_mk KX ϳ hmg ⟨by k_is,L2.zez (by k_is) (by k_is) (by k_is)⟩ ?_ ?_ ?_ ?_ ?_ ?_ ?_ ?_
  repeat' refine Pf.tc ?_ ?_
  all_goals try first
   | exact anE KX ϳ (by k_is)
   | exact⟨anE KX ϳ (by k_is),by k_is⟩
   | exact⟨by k_is,by k_is,by k_is⟩
   | exact⟨by k_is,by k_is,by k_is,by k_is⟩
   | exact⟨_,anE KX ϳ (by k_is),⟨_,rfl⟩⟩
   | exact⟨_,anE KX ϳ (by k_is),rfl⟩
   | exact⟨mg_none_of KX ϳ (by k_is),by kernel_rfl⟩
   | k_is
   | exact(show ü _ _ _=_ by k_is)
   | exact L2.zxz (by k_is) (by k_is) (by k_is) (by k_is)
   | exact L2.zu3 (by k_is) (by k_is) (by k_is) (by k_is) (by kernel_rfl)
   | exact(L2.zez (by k_is) (by k_is) (by k_is)).b1
   | exact(L2.zez (by k_is) (by k_is) (by k_is)).b2
   | exact(L2.zez (by k_is) (by k_is) (by k_is)).b3
   | exact(L2.zez (by k_is) (by k_is) (by k_is)).b4
   | exact(L2.zez (by k_is) (by k_is) (by k_is)).b5
   | exact(L2.zez (by k_is) (by k_is) (by k_is)).b6
   | exact(L2.zez (by k_is) (by k_is) (by k_is)).b7
   | exact(L2.zez (by k_is) (by k_is) (by k_is)).ait
   | exact⟨by kernel_rfl⟩
   | kit_is
   | kernel_rfl
   | exactλ_=>trivial
 case nTT=>intro w;kernel_rfl
