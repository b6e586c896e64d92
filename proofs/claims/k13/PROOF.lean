import PyProof.Rows.All
import Wide.All
import OpenK.AllK
import Wide.FinOn
import Lean
import PyProof.EqAt
import PyProof.EqKinds
import PyProof.TupleCall
import KE.KTryMore
import PyProof.NeKinds
import PyProof.DictItemsLoops
import PyProof.Rows.SortRunsK
import PyProof.Rows.SortRev
import PyProof.Tail
import PyProof.CollectIter
import PyProof.WalkInts
import PyProof.SumWalkG
import PyProof.SeqI3
import PyProof.EnumFor
import PyProof.EnumMake
import PyProof.Draws
import PyProof.Rows.Range3
import PySem.Challenge.RW_everydraw_k13_raw_rules_of_lines_and_mee
set_option Elab.async false
set_option linter.all false
set_option maxRecDepth 100000
open PySem renaming wpAny_bind→GU,wpAny_pure→GX,wpAny_field→HR,wpAny_mono→HU,Spec→HX,wpAny_rule→Iq,wpAny_newObj_type→Iw,wpAny_holding→IF,wpAny_setField_rec→II,wpAny_call_entry→IJ,wpAny_Call_Name_kw→I0,wpAny_callSpecial?_slot→Jf,wpAny_seqItems→Jl,Builtin→Js,wpAny_attempt→JD,wpAny_typeOf→JE,wpAny_passesOwn→JX,wpAny_letGo→J6,wpAny_truthy_bool→Kr,codeAny_mono→Kx,wpAny_call→KC,mem_of_lookup→KJ,codeAny_builtin→KR,wpAny_setField→KY,typeIs_int→K6,call_meets→K7,wpAny_typeNameOfWhole_itemiter→La,wpAny_typeNameOf_itemiter→Lc,tupleKind_room_in1→Lq,wpAny_pyIter_list→Lx,wpAny_pyIter_zip→LF,wpAny_isInstance→LG,wpAny_newTuple→LP,wpAny_onRaise→LV,wpAny_newList→LW,concat_meets→LZ,wpAny_isOneOf_itemiter→Mp,wpAny_updateSeq_pair→MA,evalArgs_none→MD,wpAny_pyIter_tuple→MG,wpAny_sequenceKey→MJ,wpAny_dictEntries→MK,wpAny_Call_method→ML,slot_list_getitem→MM,noFill_tuple_add→MW
open PySem.Str renaming ofString→GV
open PySem.W renaming Frag→GW,nsIn→Ig,mg_none_of→Im,kitOne→IM,keepIn→Jb,fnOf→Jm,findIn→JB,kia_one→JY,clsIn→KZ,callWith_K→Lr,codeIn→LS,mroIn→LX,specialIn→MN,methodObj→MO
open PyProof.Rows renaming wpS_bind→GY,wpS_pure→G0,wpS_mono→HK,wpS_forRange→Ip,listUpdate_at→IQ,wpS_get→IT,wpS_modify→Jd,wpS_lift→JN,callWith_type1→JP,listItems_at→J3,slot_tuple_getitem→Ka,seqEpoch_at→Ky,mirror_perm→K4,slot_tupleiter_next→Lp,get?_update_seq→LL,call_function_entry_kw→Mq,callWith_builtin1→Ng
open Nat renaming le_refl→GZ,le_trans→Hi,ne_of_lt→Hs,zero_le→HF,lt_of_lt_of_le→Ii,lt_irrefl→IS,le_add_right→IV,lt_of_le_of_lt→Jz,zero_add→JF,ne_of_gt→JG,le_of_lt→JH,mul_le_mul→J0,lt_succ_self→Ks,min_eq_left→KS,succ_mul→K1,le_sub_one_of_lt→Lm,one_lt_two_pow→Lv,mul_comm→L7,one_le_iff_ne_zero→Mt,add_sub_cancel'→ME,lt_succ_of_lt→MQ,succ_le_succ→MX
open PySem.Heap renaming get?_push_of_some→G1,lt_size→G2,get?_push_size→G7,size_push→IY,SameBut→Jj,get?_update_ne→Jr,ExtBut→J8,get?_update_other→Lk,get?_push_ne→LC,size_update→M5
open List renaming map_cons→G3,length_map→G4,mem_cons→G5,getElem?_eq_some_iff→G8,getElem?_map→G9,mem_cons_self→Hg,replicate→Hh,mem_cons_of_mem→Hl,mem_singleton→Ho,size_toArray→Hq,append_assoc→Hw,mem_append→Hy,map_append→HB,mem_map→HC,getElem?_eq_getElem→HD,range→HE,not_mem_nil→HM,length_take→HN,map_map→HP,length_append→HQ,length_cons→HV,getElem_mem→HW,mem_append_right→Il,append_nil→Io,getD_eq_getElem?_getD→Ir,getElem?_set_self→Iu,getElem?_set_ne→Iv,take_length→IC,take_succ_eq_append_getElem→ID,nodup_cons→IK,foldl_cons→IL,mem_of_getElem?→IU,find?_cons→IX,cons_append→Ja,map_nil→Jc,getElem?_eq_none→Jg,replicate_succ→Jh,filterMap_cons→Ji,length_nil→Jk,take_append_drop→Jq,getElem?_append_left→Jv,mem_append_left→Jx,map_congr_left→Jy,nil_append→JA,filter_cons_of_pos→JQ,perm_append_comm→JT,length_singleton→JU,flatten_cons→JW,forIn_cons→JZ,getElem?_append_right→Ke,pairwise_singleton→Kh,getElem?_of_mem→Km,pairwise_cons→Kp,getElem?_drop→Kq,sum_append→Ku,foldr_cons→Kv,sum_cons→Kw,length→Kz,foldl→KD,filter_cons_of_neg→KG,take_of_length_le→KH,getElem?_append→KI,getElem?_range→KL,pairwise_map→KN,flatMap_cons→KO,mem_filter→KU,zipWith→K2,getElem?_take_of_lt→Lf,eq_of_mem_replicate→Lg,mem_of_mem_take→Ln,zipWith_self→Ly,take_sublist→Lz,nodup_append→LA,ext_getElem?→LB,zipWith_map→LJ,length_drop→LK,of_mem_zip→LM,pairwise_iff_getElem→Mf,drop_eq_getElem_cons→Mg,getElem?_replicate→Mn,dropLast_eq_take→Mz,reverse_append→MF,zip_cons_cons→MH,take_add_one→MR,reverse_perm→MS,foldl_append→MT,drop_sublist→MU,zipIdx_cons→MY,mem_flatMap→MZ,lookup_cons→M0,flatMap_nil→M3,ext_getElem→M4,Pairwise→M9,getElem?_zipWith_eq_some→Nj,drop_append_of_le_length→Nk
open Bool renaming false_ne_true→G6,false_eq_true→Ib,not_true→J1,and_eq_true→KQ,eq_iff_iff→KW
open Option renaming map_eq_some_iff→Hj,isSome_map→JV,getD_some→LH,bind_eq_some_iff→Mm
open PySem.Value renaming ref→Hr,none→Ik,type→Iz,bool→JJ,int→JM,str→K8
open PySem.Expr renaming Name→Ht,Call→HZ,Subscript→JC
open Ne renaming symm→Hu
open PySem.SeqAt renaming EqAt→Hx,RcAt→J9,RcNeAt→L5
open Array renaming getElem?_eq_getElem→Hz,toList_push→HL,getElem?_toList→Ia,length_toList→Ie,toList_append→IB,ext'→JL,perm_iff_toList_perm→Kf,getElem?_eq_some_iff→Kg,toList_reverse→Kn,getElem?_extract→Ll,getElem?_eq_none→Mw,mem_toList_iff→MC,getElem_mem→MV,toList_map→M7,toList_eraseIdxIfInBounds→Nf
open Sum renaming inl→HA,inr→JO
open PySem.Obj renaming mapSeq→HG,data_mapFields→Lu
open PySem.Env renaming kindOf→HH
open Int renaming le_trans→HJ,toNat_natCast→Ij,le_refl→IG,le_of_lt→Ju,add_mul→JI,zero_mul→J5,pow_pos→J7,mul_assoc→K0,zero_add→K3,one_mul→K5,lt_of_le_of_lt→Lw,mul_nonneg→LU,add_zero→L8,add_comm→Ma,mul_le_mul_of_nonneg_right→Nh
open Lean.Elab renaming async→HY
open ForInStep renaming yield→Ic,done→IP
open False renaming elim→Ih
open PySem.Builtin.Int renaming intBits→IE
open Option.some renaming inj→IW
open PySem.Paired renaming length→IZ,snoc→Mc
open PySem.Builtin.SmallTypes renaming nextOf→Je,ownedTupleIsFree→K9,ownedTupleHandOut→Na
open True renaming intro→Jo
open PySem.Data renaming cell→Jp,fields→KA
open PySem.NameKind renaming free→Jt
open PySem.Builtin.List renaming listUpdate→Jw,listItems→JS,listLengthHint→Kd,listExtendWith→Lb,listTooLong→Mj
open PyProof.Rows.SortSt renaming mk'→JK
open Lean renaming mkPrivateNameCore→JR,mkIdent→J4
open PySem.F renaming slot_dict_itemiterator_next→Kc,plain_extend_loop→Ld,slot_dict_items→LD,slot_zip_next→LN,slot_int_rmul→LO,args_tuple_add_2→Mi,entry_tuple_add→Ml,slot_tuple_add→Mr,slot_dict_get→Mx,slot_tuple_mul→M6,args_dict_itemiterator_next_1→Nd,entry_dict_itemiterator_next→Ni,slot_dict_itemiterator_iter→Nl
open List.Perm renaming append_left→Kl
open PySem.Heap.SameBut renaming update→Ko
open List.Pairwise renaming nil→KP,filter→MB
open PySem.Builtin.Slice renaming slicePlaces→Le,sliceAdjust→Mh
open PySem.Builtin.Tuple renaming tupleExact→Lh
open PySem.AutoSeq1 renaming wpAny_loadPart'→Li
open PySem.Builtin.Range renaming rangeSize→Lj
open PySem.Around renaming under_plainId→Lo
open PySem.Stmt renaming AugAssign→LQ,Assign→Mb
open Quotient renaming sound→LR
open Function renaming comp→LY
open PySem.Operator renaming Add→L6
open PySem.Builtin.Dict_items renaming pairFromOwner→Me,ownedTupleIsFree→Nb,ownedTupleFields→Nc
open PySem.Calls renaming callWith_builtin→Mu,spliced_cons→MI
open PySem.Challenge renaming rw_everydraw_k13_raw_rules_of_lines_and_mee→M8
namespace PySem.W.Fast
theorem tw10089079958679917564:True:=⟨⟩
theorem tw12146643207696397683:True:=⟨⟩
theorem tw5237735826027253159:True:=⟨⟩
theorem tw2017010488731280767:True:=⟨⟩
theorem tw8830223093274643329:True:=⟨⟩
theorem tw12066160707861695957:True:=⟨⟩
theorem tw6028481776224584588:True:=⟨⟩
theorem tw1212093996613946153:True:=⟨⟩
theorem tw15874853384616457095:True:=⟨⟩
theorem tw18059083789541142922:True:=⟨⟩
theorem tw8792610775839696016:True:=⟨⟩
theorem tw14638422400007017657:True:=⟨⟩
theorem tw3662972513724895431:True:=⟨⟩
theorem tw5390419111010826372:True:=⟨⟩
theorem tw9484762195203273805:True:=⟨⟩
theorem tw1278869910894384370:True:=⟨⟩
theorem tw10749413800912245522:True:=⟨⟩
theorem tw2844813781183081420:True:=⟨⟩
theorem tw13252291467082813623:True:=⟨⟩
theorem tw6699368030669331456:True:=⟨⟩
theorem tw1048344841080983966:True:=⟨⟩
theorem tw4363182305638098002:True:=⟨⟩
theorem tw3767745601410617287:True:=⟨⟩
theorem tw249130768396203741:True:=⟨⟩
theorem tw184902785909634987:True:=⟨⟩
theorem tw1261121932459768418:True:=⟨⟩
theorem tw16728104331230638258:True:=⟨⟩
theorem tw16044464294813445420:True:=⟨⟩
theorem tw12474174945610996524:True:=⟨⟩
theorem tw5590555822534042241:True:=⟨⟩
theorem tw10620336526799662172:True:=⟨⟩
theorem tw16352819961988995130:True:=⟨⟩
theorem tw14007606936768685145:True:=⟨⟩
theorem tw4820385113095764558:True:=⟨⟩
theorem tw6193297216558604088:True:=⟨⟩
theorem tw16528940193312139491:True:=⟨⟩
theorem tw17493851124712753964:True:=⟨⟩
theorem tw11812418211602070972:True:=⟨⟩
theorem tw7433244774863778277:True:=⟨⟩
theorem tw13794496489676139008:True:=⟨⟩
theorem tw16860772524320671525:True:=⟨⟩
theorem tw2656998520111828312:True:=⟨⟩
theorem tw17137531522563262159:True:=⟨⟩
theorem tw18275954604689747965:True:=⟨⟩
theorem tw9767961506760714935:True:=⟨⟩
theorem tw1093857360756972496:True:=⟨⟩
theorem tw3892371795766140553:True:=⟨⟩
theorem tw18063242284972994631:True:=⟨⟩
theorem tw12039162006813455549:True:=⟨⟩
theorem tw4381634459028852273:True:=⟨⟩
theorem tw14839464321257957226:True:=⟨⟩
theorem tw18139694018469029632:True:=⟨⟩
theorem tw15022404379087126505:True:=⟨⟩
theorem tw766103428223586947:True:=⟨⟩
theorem tw7763195056764979758:True:=⟨⟩
theorem tw15709982509637820074:True:=⟨⟩
theorem tw109974482867599292:True:=⟨⟩
theorem tw15640823660273554905:True:=⟨⟩
theorem tw2819790423718686420:True:=⟨⟩
theorem tw719358962713596616:True:=⟨⟩
theorem tw10940403330837580283:True:=⟨⟩
theorem tw727622169569316526:True:=⟨⟩
theorem tw7405946549378533724:True:=⟨⟩
theorem tw7663836534683803012:True:=⟨⟩
theorem tw15159253311050987858:True:=⟨⟩
theorem tw12789374599086587473:True:=⟨⟩
theorem tw9506629822320529611:True:=⟨⟩
theorem tw13023059193332760765:True:=⟨⟩
theorem tw2175134308808732657:True:=⟨⟩
theorem tw4113556963884662849:True:=⟨⟩
theorem tw2388025531138866807:True:=⟨⟩
theorem tw12482011535410990763:True:=⟨⟩
theorem tw8833284034849324841:True:=⟨⟩
theorem tw5189916184203463092:True:=⟨⟩
theorem tw7953983470898734290:True:=⟨⟩
theorem tw12791977499488636022:True:=⟨⟩
theorem tw7868259513556415613:True:=⟨⟩
theorem tw17791986020929856458:True:=⟨⟩
theorem tw5691237432882149216:True:=⟨⟩
theorem tw3456333683104985448:True:=⟨⟩
theorem tw3419350786072890232:True:=⟨⟩
theorem tw9122936719106602829:True:=⟨⟩
theorem tw13956937837950742339:True:=⟨⟩
theorem tw12880127885648260141:True:=⟨⟩
theorem tw15906822923203606602:True:=⟨⟩
theorem tw7609959088560191031:True:=⟨⟩
theorem tw80218177034751602:True:=⟨⟩
theorem tw2398249194795906515:True:=⟨⟩
theorem tw15999327183452708273:True:=⟨⟩
theorem tw16053933874806341462:True:=⟨⟩
theorem tw7548286412246698889:True:=⟨⟩
theorem tw8611496973304640323:True:=⟨⟩
theorem tw12347600325086657748:True:=⟨⟩
theorem tw5758483295903723267:True:=⟨⟩
theorem tw7608876438184904556:True:=⟨⟩
theorem tw14865977519338636351:True:=⟨⟩
theorem tw10482145275146774885:True:=⟨⟩
theorem tw9874686209184181044:True:=⟨⟩
theorem tw5013865741806168407:True:=⟨⟩
theorem tw1778645699193676555:True:=⟨⟩
theorem tw12527263090997433099:True:=⟨⟩
theorem tw5329339892533010888:True:=⟨⟩
theorem tw4218347755999028913:True:=⟨⟩
theorem tw15213889762850984605:True:=⟨⟩
theorem tw2708662331769802040:True:=⟨⟩
theorem tw4742735790214380330:True:=⟨⟩
theorem tw5175194798169884665:True:=⟨⟩
theorem tw6595840972121825015:True:=⟨⟩
theorem tw8132772608741336148:True:=⟨⟩
theorem tw12784665340501365967:True:=⟨⟩
theorem tw14787962673720507654:True:=⟨⟩
theorem tw1286123253046327868:True:=⟨⟩
theorem tw8071801842882327274:True:=⟨⟩
theorem tw8571268931116674871:True:=⟨⟩
theorem tw14670666266826098596:True:=⟨⟩
theorem tw13903738212723153146:True:=⟨⟩
theorem tw3388991008784680662:True:=⟨⟩
theorem tw6518495364098431504:True:=⟨⟩
theorem tw10776461960382379655:True:=⟨⟩
theorem tw10313225997215489699:True:=⟨⟩
theorem tw656056470511781595:True:=⟨⟩
theorem tw7271706455654580712:True:=⟨⟩
theorem tw1195343562581475340:True:=⟨⟩
theorem tw13514211704643881993:True:=⟨⟩
theorem tw8486620106560480432:True:=⟨⟩
theorem tw11628762846699886041:True:=⟨⟩
theorem tw2459624342267882553:True:=⟨⟩
theorem tw15599204676658255129:True:=⟨⟩
theorem tw14915481572046049694:True:=⟨⟩
theorem tw5214951081629688499:True:=⟨⟩
theorem tw8867558847261244929:True:=⟨⟩
theorem tw14331065558525390349:True:=⟨⟩
theorem tw1616239346444743392:True:=⟨⟩
theorem tw17115241824739169315:True:=⟨⟩
theorem tw10850929482391751278:True:=⟨⟩
theorem tw9757309357487090922:True:=⟨⟩
theorem tw3925403207770209903:True:=⟨⟩
theorem tw17402178754208235300:True:=⟨⟩
theorem tw5813546296943329656:True:=⟨⟩
theorem tw5143930104367713194:True:=⟨⟩
theorem tw11903507606884031463:True:=⟨⟩
theorem tw161430498794603175:True:=⟨⟩
theorem tw5777439209316958632:True:=⟨⟩
theorem tw5035943379834373867:True:=⟨⟩
theorem tw16122266540464368834:True:=⟨⟩
theorem tw17155550230592146271:True:=⟨⟩
theorem tw15411846348549932885:True:=⟨⟩
theorem tw17446069031382041330:True:=⟨⟩
theorem tw1351693833036641608:True:=⟨⟩
theorem tw2803983544585056816:True:=⟨⟩
theorem tw11595381387685181667:True:=⟨⟩
theorem tw10615189389365102841:True:=⟨⟩
theorem tw16915161375680228390:True:=⟨⟩
theorem tw8937312075295073345:True:=⟨⟩
theorem tw1820515783825650940:True:=⟨⟩
theorem tw18175080044906832756:True:=⟨⟩
theorem tw3955801299011999816:True:=⟨⟩
theorem tw890320538745929365:True:=⟨⟩
theorem tw1909348914221614131:True:=⟨⟩
theorem tw2193777933297843198:True:=⟨⟩
theorem tw1011864257838040433:True:=⟨⟩
theorem tw1075496513380494350:True:=⟨⟩
theorem tw17518524469161402944:True:=⟨⟩
theorem tw2497339818889306943:True:=⟨⟩
theorem tw14562677436887182603:True:=⟨⟩
theorem tw3454220698577203142:True:=⟨⟩
theorem tw14207376510908434688:True:=⟨⟩
theorem tw1539693167035219246:True:=⟨⟩
theorem tw14330117692488649671:True:=⟨⟩
theorem tw17651294287215747794:True:=⟨⟩
theorem tw10295621833849685940:True:=⟨⟩
theorem tw13781892309032391785:True:=⟨⟩
end PySem.W.Fast
local macro_rules | `(tactic| walk_at "u") => `(tactic| with_unfolding_all rfl)
namespace L2
open PySem PySem.Spec PyProof.Rows
noncomputable abbrev Key:=Sum Int Str
noncomputable def jH:Key→Value→Bool
 | .inl k,v=>Value.isInt k v
 | .inr x,v=>Value.isStrOf x v
noncomputable def keyH (w:World):Key→Int
 | .inl k=>hashInt k
 | .inr x=>hashStr w x
theorem bh:∀ {k:Key} {v:Value},jH k v=true→(∃ i t,k=HA i∧v=JM i t)∨(∃ x t,k=JO x∧v=K8 x t)
 | .inl i,v,h=>by
  obtain ⟨t,e⟩:=Value.isInt_shape (k:=i) (v:=v) h
  exact .inl ⟨i,t,rfl,e⟩
 | .inr x,v,h=>by
  obtain ⟨t,e⟩:=Value.isStrOf_shape (x:=x) (v:=v) h
  exact .inr ⟨x,t,rfl,e⟩
theorem u9 (i:Int) (t:Tok):jH (.inl i) (.int i t)=true:=by simp [jH,Value.isInt]
theorem vc (x:Str) (t:Tok):jH (.inr x) (.str x t)=true:=by simp [jH,Value.isStrOf]
theorem El (a b:Int):decide ((HA a:Key)=HA b)=(a == b):=by
 by_cases e:a=b
 ·subst e; simp
 ·have h:¬ (HA a:Key)=HA b:=fun q=>e (HA.inj q)
  rw [decide_eq_false h]
  exact (beq_eq_false_iff_ne.mpr e).symm
theorem Em (a b:Str):decide ((JO a:Key)=JO b)=decide (a=b):=by
 by_cases e:a=b
 ·subst e; simp
 ·have h:¬ (JO a:Key)=JO b:=fun q=>e (JO.inj q)
  rw [decide_eq_false h,decide_eq_false e]
theorem En (a:Int) (b:Str):decide ((HA a:Key)=JO b)=false:=decide_eq_false (fun q=>nomatch q)
theorem Eo (a:Str) (b:Int):decide ((JO a:Key)=HA b)=false:=decide_eq_false (fun q=>nomatch q)
noncomputable def bC (prog:Program) (w:World):PySem.KeyKind prog w Key where
 is:=jH
 hash:=keyH w
 inj:=fun v a b ha hb=>by
  rcases bh ha with ⟨i,t,rfl,rfl⟩ | ⟨x,t,rfl,rfl⟩
  ·rcases bh hb with ⟨j,u,rfl,e⟩ | ⟨y,u,rfl,e⟩
   ·injection e with e1 _; rw [e1]
   ·exact nomatch e
  ·rcases bh hb with ⟨j,u,rfl,e⟩ | ⟨y,u,rfl,e⟩
   ·exact nomatch e
   ·injection e with e1 _; rw [e1]
 byValue:=fun k v h=>by
  rcases bh h with ⟨i,t,rfl,rfl⟩ | ⟨x,t,rfl,rfl⟩ <;> rfl
 pyHash:=fun hv h=>by
  rcases bh hv with ⟨i,t,rfl,rfl⟩ | ⟨x,t,rfl,rfl⟩
  ·exact wpAny_pyHash_int h
  ·exact wpAny_pyHash_str h
 eqBool:=fun hu hv h=>by
  rcases bh hu with ⟨i,t,rfl,rfl⟩ | ⟨x,t,rfl,rfl⟩
  ·rcases bh hv with ⟨j,u,rfl,rfl⟩ | ⟨y,u,rfl,rfl⟩
   ·rw [El] at h; exact wpAny_eqBool_int h
   ·rw [En] at h; exact Hx.int_str i t y u _ _ _ _ h
  ·rcases bh hv with ⟨j,u,rfl,rfl⟩ | ⟨y,u,rfl,rfl⟩
   ·rw [Eo] at h; exact Hx.str_int x t j u _ _ _ _ h
   ·rw [Em] at h; exact wpAny_eqBool_str h
 «strs» :=fun k x t v h=>by
  rcases bh h with ⟨i,u,rfl,e⟩ | ⟨y,u,rfl,e⟩
  ·exact nomatch e
  ·injection e with e1 _
   subst e1
   cases v <;> rfl
theorem oA (prog:Program) (w:World) (i:Int) (t:Tok):(bC prog w).is (.inl i) (.int i t)=true:=u9 i t
theorem oB (prog:Program) (w:World) (x:Str) (t:Tok):(bC prog w).is (.inr x) (.str x t)=true:=vc x t
inductive V where
 | non | bl (b:Bool) | int (i:Int) | str (x:Str) | byt (b:Array UInt8) | flt (b:UInt64) | ref (a:Addr) | ty (n:String)
 deriving DecidableEq
noncomputable def RelV:V→Value→Prop
 | .non,u=>u=Ik
 | .bl b,u=>u=JJ b
 | .int i,u=>∃ t,u=JM i t
 | .str x,u=>∃ t,u=K8 x t
 | .byt b,u=>∃ t,u=Value.bytes b t
 | .flt b,u=>∃ t,u=Value.float b t
 | .ref a,u=>u=Hr a
 | .ty n,u=>u=Iz n
noncomputable abbrev Vals:List V→List Value→Prop:=Paired RelV
theorem Vals.length {xs:List V} {us:List Value} (r:Vals xs us):xs.length=us.length:=IZ r
theorem Vals.get:∀ {xs:List V} {us:List Value} {i:Nat} {x:V},Vals xs us→xs[i]?=some x→∃ u,us[i]?=some u∧RelV x u
 | _,_,_,_,.nil,e=>by simp at e
 | _,_,0,_,.cons r _,e=>by simp at e; subst e; exact ⟨_,rfl,r⟩
 | _,_,i+1,x,.cons _ t,e=>by
  obtain ⟨u,h1,h2⟩:=Vals.get (i:=i) (x:=x) t (by simpa using e)
  exact ⟨u,by simpa using h1,h2⟩
theorem Vals.set {x:V} {u:Value} (r:RelV x u):∀ {xs:List V} {us:List Value} (i:Nat),Vals xs us→Vals (xs.set i x) (us.set i u)
 | _,_,_,.nil=>.nil
 | _,_,0,.cons _ t=>.cons r t
 | _,_,i+1,.cons q t=>.cons q (Vals.set r i t)
theorem Vals.append:∀ {xs ys:List V} {us ws:List Value},Vals xs us→Vals ys ws→Vals (xs++ys) (us++ws)
 | _,_,_,_,.nil,s=>s
 | _,_,_,_,.cons r t,s=>.cons r (Vals.append t s)
theorem Vals.take:∀ {xs:List V} {us:List Value} (n:Nat),Vals xs us→Vals (xs.take n) (us.take n)
 | _,_,0,_=>.nil
 | _,_,_+1,.nil=>.nil
 | _,_,n+1,.cons r t=>.cons r (Vals.take n t)
theorem Vals.drop:∀ {xs:List V} {us:List Value} (n:Nat),Vals xs us→Vals (xs.drop n) (us.drop n)
 | _,_,0,r=>r
 | _,_,_+1,.nil=>.nil
 | _,_,n+1,.cons _ t=>Vals.drop n t
noncomputable def jc:Option V→Option Value→Prop
 | some v,some u=>RelV v u
 | none,none=>True
 | _,_=>False
noncomputable def KV {κ:Type}:List (κ×V)→List (κ×Value)→Prop:=Paired fun (p:κ×V) (q:κ×Value)=>p.1=q.1∧RelV p.2 q.2
noncomputable def kV:Key→V
 | .inl i=>.int i
 | .inr x=>.str x
inductive HO where
 | lst (xs:List V)
 | tup (xs:List V)
 | dK (kvs:List (Key×V)) | dT (kvs:List (List Key×Addr×V))
 | set (S:Int→Bool) (n:Nat)
 | ins (C dx:Addr) (fs:List (Str×V))
 | own (x:Addr)
 | xd (fs:List (Str×V))
 | met (f x:Addr)
 | rng (lo hi:Int)
 | frz (o:Obj) (u:HO)
 | tbl (ps:Array Value)
 | ext (φ :Heap→Prop)
noncomputable abbrev Hp:=Addr→Option HO
noncomputable def upd (H:Hp) (a:Addr) (o:HO):Hp:=fun b=>if b=a then some o else H b
theorem ah {H:Hp} {a:Addr} {o:HO}:upd H a o a=some o:=by unfold upd; rw [if_pos rfl]
theorem ai {H:Hp} {a b:Addr} {o:HO} (h:b≠a):upd H a o b=H b:=by unfold upd; rw [if_neg h]
theorem mR {H:Hp} {a:Addr} {o u:HO}:upd (upd H a o) a u=upd H a u:=by
 funext b; unfold upd; split <;> rfl
theorem az {H:Hp} {a b:Addr} {o:HO} (h:H a=some o) (h':H b=none):a≠b:=by
 intro e; subst e; rw [h] at h'; cases h'
section
variable (P:Program) (w:World)
noncomputable def aS (H:Hp) (h:Heap) (a:Addr):HO→Prop
 | .lst xs=>xs.length≤sizeLine∧∃ (its:List Value) (n:Nat),Vals xs its∧h.get? a=some { cls:=.type "list",data:=.seq its.toArray n }
 | .tup xs=>xs.length≤sizeLine∧∃ its:List Value,Vals xs its∧IsTup h a its.toArray
 | .dK kvs=>kvs.length≤sizeLine∧(a == sysModules)=false∧∃ vs,KV kvs vs∧h.DictOf (bC P w) a vs
 | .dT kvs=>kvs.length≤sizeLine∧(a == sysModules)=false∧∃ xs:List (List Key×Addr×Value),
  Paired (fun (p:List Key×Addr×V) (q:List Key×Addr×Value)=>p.1=q.1∧p.2.1=q.2.1∧RelV p.2.2 q.2.2) kvs xs ∧
  ∃ o es ep,h.get? a=some o∧o.ExactDict∧o.data=.dict es ep∧es.toList=xs.map (entryOfKey (tupleKind (bC P w)))∧(xs.map (·.1)).Nodup
 | .set S n=>h.SetOf (intKind P w) a S n
 | .ins C dx fs=>H dx=some (.own a)∧fs.length≤1000∧dx≠a∧h.get? a=some (PySem.W.instObj C dx) ∧
  ∃ mA,h.Ns1 dx mA∧(∀ f,jc (fs.lookup f) (mA f))∧PySem.Within mA (fs.map (·.1))
 | .own _=>∃ o,h.get? a=some o
 | .xd fs=>∃ mA,h.Ns1 a mA∧∀ f,jc (fs.lookup f) (mA f)
 | .rng lo hi=>∃ t u v,h.get? a=some { cls:=.type "range",data:=.fields #[.int lo t,.int hi u,.int 1 v] }
 | .frz o u=>h.get? a=some o∧aS H h a u
 | .tbl ps=>h.get? a=some { cls:=.none,data:=.fields ps }
 | .met f x=>h.get? a=some (MO (.ref f) (.ref x))
 | .ext φ => φ h∧(∃ o,h.get? a=some o)∧∀ h1 h2:Heap,φ h1→(∀ o,h1.get? a=some o→h2.get? a=some o)→ φ h2
noncomputable def HOk (H:Hp) (h:Heap):Prop:=∀ a o,H a=some o→aS P w H h a o
end
section
variable {P:Program} {w:World} {H H':Hp} {h h':Heap} {a:Addr} {o:HO}
theorem aS.lt (x:aS P w H h a o):a<h.objs.size:=by
 cases o with
 | lst xs=>obtain ⟨_,_,_,_,e⟩:=x; exact G2 e
 | tup xs=>obtain ⟨_,_,_,p⟩:=x; exact p.lt
 | dK kvs=>obtain ⟨_,_,_,_,o,_,_,e,_⟩:=x; exact G2 e
 | dT kvs=>obtain ⟨_,_,_,_,o,_,_,e,_⟩:=x; exact G2 e
 | set S n=>obtain ⟨o,_,_,_,e,_⟩:=x; exact G2 e
 | ins C dx fs=>obtain ⟨_,_,_,e,_⟩:=x; exact G2 e
 | own y=>obtain ⟨_,e⟩:=x; exact G2 e
 | xd fs=>obtain ⟨_,⟨_,_,_,e,_⟩,_⟩:=x; exact G2 e
 | rng lo hi=>obtain ⟨_,_,_,e⟩:=x; exact G2 e
 | frz ob u=>obtain ⟨e,_⟩:=x; exact G2 e
 | tbl ps=>exact G2 (show h.get? a=some _ from x)
 | met f y=>exact G2 (show h.get? a=some _ from x)
 | ext φ =>obtain ⟨_,⟨_,e⟩,_⟩:=x; exact G2 e
theorem Paired.mapP {α β:Type} {F G:α→β→Prop}:∀ {l₁:List α} {l₂:List β},Paired F l₁ l₂→(∀ a b,F a b→G a b)→Paired G l₁ l₂
 | _,_,.nil,_=>.nil
 | _,_,.cons r t,f=>.cons (f _ _ r) (Paired.mapP t f)
theorem aS.stay (x:aS P w H h a o) (k:∀ b u,(b=a∨H b=some (.own a))→h.get? b=some u→h'.get? b=some u)
 (ho:∀ b,H b=some (.own a)→H' b=some (.own a)) (ht:∀ b xs,H b=some (.tup xs)→H' b=some (.tup xs)):aS P w H' h' a o:=by
 induction o with
 | lst xs=>obtain ⟨z,its,n,r,e⟩:=x; exact ⟨z,its,n,r,k _ _ (.inl rfl) e⟩
 | tup xs=>obtain ⟨z,its,r,ob,e,c⟩:=x; exact ⟨z,its,r,ob,k _ _ (.inl rfl) e,c⟩
 | dK kvs=>obtain ⟨z,y,vs,r,ob,es,ep,e,c⟩:=x; exact ⟨z,y,vs,r,ob,es,ep,k _ _ (.inl rfl) e,c⟩
 | dT kvs =>
  obtain ⟨z,y,xs,r,ob,es,ep,e,c⟩:=x
  exact ⟨z,y,xs,r,ob,es,ep,k _ _ (.inl rfl) e,c⟩
 | set S n=>obtain ⟨ob,es,ep,t,e,c⟩:=x; exact ⟨ob,es,ep,t,k _ _ (.inl rfl) e,c⟩
 | ins C dx fs =>
  obtain ⟨d,z,ne,e,mA,⟨od,es,ep,e2,c⟩,r⟩:=x
  exact ⟨ho _ d,z,ne,k _ _ (.inl rfl) e,mA,⟨od,es,ep,k _ _ (.inr d) e2,c⟩,r⟩
 | own y=>obtain ⟨ob,e⟩:=x; exact ⟨ob,k _ _ (.inl rfl) e⟩
 | xd fs=>obtain ⟨mA,⟨od,es,ep,e,c⟩,r⟩:=x; exact ⟨mA,⟨od,es,ep,k _ _ (.inl rfl) e,c⟩,r⟩
 | rng lo hi=>obtain ⟨t,u,v,e⟩:=x; exact ⟨t,u,v,k _ _ (.inl rfl) e⟩
 | frz ob u ih=>obtain ⟨e,q⟩:=x; exact ⟨k _ _ (.inl rfl) e,ih q⟩
 | tbl ps =>
  have e:h.get? a=some { cls:=.none,data:=.fields ps }:=x
  show h'.get? a=some { cls:=.none,data:=.fields ps }
  exact k a _ (.inl rfl) e
 | met f y =>
  have e:h.get? a=some (MO (.ref f) (.ref y)):=x
  show h'.get? a=some (MO (.ref f) (.ref y))
  exact k a _ (.inl rfl) e
 | ext φ =>obtain ⟨p,⟨o,e⟩,st⟩:=x; exact ⟨st _ _ p fun o q=>k _ _ (.inl rfl) q,⟨o,k _ _ (.inl rfl) e⟩,st⟩
theorem HOk.lt (x:HOk P w H h) (e:H a=some o):a<h.objs.size:=(x a o e).lt
theorem HOk.fresh (x:HOk P w H h) (e:h.objs.size≤a):H a=none:=by
 cases q:H a with
 | none=>rfl
 | some u=>exact absurd (Ii (x.lt q) e) (IS _)
theorem HOk.kept (x:HOk P w H h) (k:∀ b u,h.get? b=some u→h'.get? b=some u):HOk P w H h':=fun a o e =>
 (x a o e).stay (fun b u _ q=>k b u q) (fun _ q=>q) fun _ _ q=>q
theorem HOk.laid (x:HOk P w H h) (k:∀ b u,h.get? b=some u→h'.get? b=some u) (hp:h.objs.size≤a) (new:aS P w (upd H a o) h' a o):HOk P w (upd H a o) h':=fun b u e=>by
 have hn:=x.fresh hp
 by_cases hb:b=a
 ·subst hb; rw [ah] at e; cases e; exact new
 ·rw [ai hb] at e
  exact (x b u e).stay (fun c v _ q=>k c v q) (fun c q=>by rw [ai (az q hn)]; exact q) fun c xs q=>by rw [ai (az q hn)]; exact q
end
noncomputable def Rd (H:Hp) (a:Addr) (u:HO):Prop:=H a=some u∨∃ o,H a=some (.frz o u)
theorem Rd.ok {P:Program} {w:World} {H:Hp} {h:Heap} {a:Addr} {u:HO} (r:Rd H a u) (x:HOk P w H h):aS P w H h a u:=by
 rcases r with r | ⟨o,r⟩
 ·exact x a u r
 ·obtain ⟨_,q⟩:=x a _ r
  exact q
noncomputable def Mut:Option HO→Prop
 | some (.lst _)=>True
 | some (.dK _)=>True
 | some (.dT _)=>True
 | some (.set _ _)=>True
 | some (.ins _ _ _)=>True
 | some (.ext _)=>True
 | _=>False
section
variable {P:Program} {w:World} {H:Hp} {h h':Heap} {x e:Addr} {o':HO}
theorem HOk.write (ok:HOk P w H h) (mu:Mut (H x)) (he:e=x∨H e=some (.own x)) (k:∀ b u,b≠e→h.get? b=some u→h'.get? b=some u) (heo:∃ u,h'.get? e=some u)
 (new:aS P w (upd H x o') h' x o'):HOk P w (upd H x o') h':=fun b u q=>by
 have nown:∀ c y,H c=some (.own y)→c≠x:=fun c y r z=>by subst z; rw [r] at mu; exact mu
 have ntup:∀ c xs,H c=some (.tup xs)→c≠x:=fun c xs r z=>by subst z; rw [r] at mu; exact mu
 by_cases hb:b=x
 ·subst hb; rw [ah] at q; cases q; exact new
 ·rw [ai hb] at q
  by_cases hbe:b=e
  ·have q':H b=some (.own x):=by
    rcases he with z | z
    ·exact absurd (hbe.trans z) hb
    ·rw [hbe]; exact z
   rw [q] at q'; cases q'
   obtain ⟨v,hv⟩:=heo
   exact ⟨v,by rw [hbe]; exact hv⟩
  ·refine (ok b u q).stay (fun c v hc r=>k c v ?_ r) (fun c r=>by rw [ai (nown c b r)]; exact r) fun c xs r=>by rw [ai (ntup c xs r)]; exact r
   rcases hc with rfl | hc
   ·exact hbe
   ·rintro rfl
    rcases he with z | z
    ·exact nown c b hc z
    ·rw [hc] at z; cases z; exact hb rfl
end
structure Un (fs ex:List Addr) (H H':Hp) (h h':Heap):Prop where
 keep:∀ b o,h.get? b=some o→H b=none→b∉fs→b∉ex→h'.get? b=some o
 slot:∀ b o,h.get? b=some o→H b=none→b∈fs→b∉ex→∃ sl,h'.get? b=some { o with slots:=sl }
 free:∀ b o,h.get? b=some o→H b=none→b∉ex→H' b=none
 there:∀ b o,h.get? b=some o→b∉ex→∃ o',h'.get? b=some o'
 tups:∀ b xs,H b=some (.tup xs)→H' b=some (.tup xs)
 frzs:∀ b o u,H b=some (.frz o u)→H' b=some (.frz o u)
 tbls:∀ b ps,H b=some (.tbl ps)→∃ more,H' b=some (.tbl (ps++more))
section
variable {fs fs' ex ex':List Addr} {H H1 H2:Hp} {h h1 h2 h':Heap} {a x e:Addr} {o:HO}
theorem Un.any (u:Un fs ex H H1 h h1) {b:Addr} {ob:Obj} (q:h.get? b=some ob) (n:H b=none) (hx:b∉ex):∃ sl,h1.get? b=some { ob with slots:=sl }:=by
 by_cases hb:b∈fs
 ·exact u.slot b ob q n hb hx
 ·exact ⟨ob.slots,u.keep b ob q n hb hx⟩
theorem Un.kept (k:∀ b u,h.get? b=some u→h'.get? b=some u):Un fs ex H H h h' :=
 ⟨fun b ob q _ _ _=>k b ob q,fun b ob q _ _ _=>⟨ob.slots,k b ob q⟩,fun _ _ _ n _=>n,fun b ob q _=>⟨ob,k b ob q⟩,fun _ _ q=>q,fun _ _ _ q=>q,fun _ ps q=>⟨#[],by rw [q]; simp⟩⟩
theorem Un.refl:Un fs ex H H h h:=Un.kept fun _ _ q=>q
theorem Un.laid (k:∀ b u,h.get? b=some u→h'.get? b=some u) (hp:h.objs.size≤a) (hn:H a=none):Un fs ex H (upd H a o) h h' where
 keep:=fun b u q _ _ _=>k b u q
 slot:=fun b u q _ _ _=>⟨u.slots,k b u q⟩
 free:=fun b u q n _=>by rw [ai (Hs (Ii (G2 q) hp))]; exact n
 there:=fun b u q _=>⟨u,k b u q⟩
 tups:=fun b xs q=>by rw [ai (az q hn)]; exact q
 frzs:=fun b u xs q=>by rw [ai (az q hn)]; exact q
 tbls:=fun b ps q=>⟨#[],by rw [ai (az q hn),q]; simp⟩
theorem Un.write (mu:Mut (H x)) (he:e=x∨H e=some (.own x)) (k:∀ b u,b≠e→h.get? b=some u→h'.get? b=some u) (heo:∃ u,h'.get? e=some u):Un fs ex H (upd H x o) h h':=by
 have hx:∀ b,H b=none→b≠x:=fun b n z=>by subst z; rw [n] at mu; exact mu
 have hb:∀ b,H b=none→b≠e:=fun b n z=>by
  subst z
  rcases he with r | r
  ·exact hx b n r
  ·rw [n] at r; cases r
 have hm:∀ b u,H b=some u→¬ Mut (some u)→b≠x:=fun b u q nm z=>by subst z; rw [q] at mu; exact nm mu
 refine ⟨fun b u q n _ _=>k b u (hb b n) q,fun b u q n _ _=>⟨u.slots,k b u (hb b n) q⟩,fun b u q n _=>by rw [ai (hx b n)]; exact n,fun b u q _=>?_,
  fun b xs q=>by rw [ai (hm b _ q fun z=>z)]; exact q,fun b u xs q=>by rw [ai (hm b _ q fun z=>z)]; exact q,fun b ps q=>⟨#[],by rw [ai (hm b _ q fun z=>z),q]; simp⟩⟩
 by_cases hbe:b=e
 ·subst hbe; exact heo
 ·exact ⟨u,k b u hbe q⟩
end
noncomputable def trk (h:Heap) (H:Hp):List Addr:=(HE h.objs.size).filter fun a=>(H a).isSome
noncomputable def mS (h:Heap) (H:Hp):Heap:=PySem.W.hideAll h (trk h H)
theorem vd (h:Heap) (H:Hp):(mS h H).objs.size=h.objs.size:=PySem.W.hideAll_size _ _
theorem xy {h:Heap} {H:Hp} {b:Addr} {o:Obj} (e:h.get? b=some o) (n:H b=none):(mS h H).get? b=some o :=
 PySem.W.hideAll_get _ e fun hm=>by
  have q:(H b).isSome=true:=(KU.mp hm).2
  rw [n] at q; simp at q
theorem Bm {h:Heap} {H:Hp} {b:Addr} {o:Obj} (e:(mS h H).get? b=some o):h.get? b=some o∧H b=none:=by
 have e':h.get? b=some o:=PySem.W.of_hideAll (trk h H) e
 refine ⟨e',?_⟩
 cases q:H b with
 | none=>rfl
 | some x =>
  have hm:b∈trk h H:=KU.mpr ⟨List.mem_range.mpr (G2 e'),by simp [q]⟩
  have z:(mS h H).get? b=none:=PySem.W.hideAll_none (trk h H) hm
  rw [z] at e; cases e
structure Mod (K:GW) (mg:Str→Option Value) (base:Heap):Prop where
 kin:K.In base
 glob:base.Ns mainGlobals mg
 blt:∃ mb,base.Ns builtinsNs mb∧∀ x:Str,x≠"__name__"→mb x=bootBuiltins x
 nolimit:base.NoLimit
structure Cx where
 prog:Program
 w:World
 K:GW
 mg:Str→Option Value
 base:Heap
 A:Around
 N:List Str
 s₀:Shared
 H₀:Hp
 env:Env
 outer:List Env
 stack:List Env
 ex:List Addr
 fn:Str→Bool
 calm:Bool
 pn:List (Addr×Obj)
 xe:Value→Shared→Prop
noncomputable def frs (l:List Env):List Addr:=l.filterMap (·.frame)
noncomputable abbrev Cx.fs (X:Cx):List Addr:=frs X.outer
noncomputable def Vis (sc:Scope) (x:Str):Prop:=sc.names.lookup x=some .local∨sc.names.lookup x=some .cell∨sc.names.lookup x=some .free
noncomputable def Loc (sc:Scope) (x:Str):Prop:=sc.names.lookup x=some .local∨sc.names.lookup x=some .cell
noncomputable def Look (env:Env) (h:Heap) (m:Str→Option Value) (x:Str) (u:Value):Prop :=
 (env.kindOf x=some .local∧m x=some u)∨((env.kindOf x=some .cell∨env.kindOf x=some .free)∧∃ c,env.cells.lookup x=some c∧h.IsCell c (some u))
structure Cx.Ok (X:Cx):Prop where
 mod:Mod X.K X.mg X.base
 kind:X.env.scope.kind=.function
 glob:X.env.globals=mainGlobals
 blt:X.env.builtins=builtinsNs
 above:X.s₀.heap.objs.size≤X.env.locals
 inj:∀ x y c,X.env.cells.lookup x=some c→X.env.cells.lookup y=some c→x=y
 has:∀ x,(X.env.kindOf x=some .cell∨X.env.kindOf x=some .free)→∃ c,X.env.cells.lookup x=some c
 cab:∀ x c,X.fn x=true→X.env.cells.lookup x=some c→X.s₀.heap.objs.size≤c
 hd:X.calm=true→X.A.handled=none
 frames:X.A.frames=some X.stack
 stk:X.stack=X.outer∨(X.stack=X.env::X.outer∧X.env.frame=some X.env.locals)
 exf:∀ b∈X.ex,b≠X.env.locals∧∀ x c,X.env.cells.lookup x=some c→c≠b
 bs:∀ b o,X.base.get? b=some o→X.s₀.heap.get? b=some o∧X.H₀ b=none
 bsz:X.base.objs.size≤X.s₀.heap.objs.size
 noex:∀ b o,X.base.get? b=some o→b∉X.ex
 exfs:∀ b∈X.ex,b∉X.fs
 iy:X.s₀.heap.FunFrames X.base X.outer
 frf:∀ b∈X.fs,X.H₀ b=none
structure Inv (X:Cx) (pins:List (Addr×Obj)) (σ:List (Option V)) (H:Hp) (s:Shared):Prop where
 ok:X.Ok
 os:s.os=X.s₀.os
 bare:AllBare s.gens
 base:Un X.fs X.ex X.H₀ H X.s₀.heap s.heap
 loc:∃ m,s.heap.Ns X.env.locals m∧∀ (i:Nat) (x:Str) (v:V),X.N[i]?=some x→σ[i]?=some (some v)→Vis X.env.scope x→∃ u,RelV v u∧Look X.env s.heap m x u
 cell:∀ x c,X.env.cells.lookup x=some c→∃ v,s.heap.IsCell c v
 free:H X.env.locals=none
 freeC:∀ x c,X.env.cells.lookup x=some c→H c=none
 pin:∀ p∈X.pn++pins,s.heap.get? p.1=some p.2∧H p.1=none∧p.1≠X.env.locals∧p.1∉X.fs∧∀ v,p.2.data≠.cell v
 hok:HOk X.prog X.w H s.heap
 len:σ.length=X.N.length
section
variable {X:Cx} {pins:List (Addr×Obj)} {σ:List (Option V)} {H H':Hp} {s:Shared} {h':Heap}
theorem Cx.Ok.nofr (ok:X.Ok) {b:Addr} {o:Obj} (e:X.base.get? b=some o):b∉X.fs:=fun hb=>by
 have:=(ok.iy.mem hb).1
 rw [e] at this; cases this
theorem Inv.bs (I:Inv X pins σ H s):∀ b o,X.base.get? b=some o→s.heap.get? b=some o∧H b=none:=fun b o e =>
 ⟨I.base.keep b o (I.ok.bs b o e).1 (I.ok.bs b o e).2 (I.ok.nofr e) (I.ok.noex b o e),I.base.free b o (I.ok.bs b o e).1 (I.ok.bs b o e).2 (I.ok.noex b o e)⟩
theorem Inv.bk (I:Inv X pins σ H s):∀ b o,X.base.get? b=some o→s.heap.get? b=some o:=fun b o e=>(I.bs b o e).1
theorem Inv.mod (I:Inv X pins σ H s):Mod X.K X.mg X.base:=I.ok.mod
theorem Inv.kIn (I:Inv X pins σ H s):X.K.In s.heap:=I.ok.mod.kin.keeps I.bk
theorem Inv.lt (I:Inv X pins σ H s):X.env.locals<s.heap.objs.size:=let ⟨_,hn,_⟩:=I.loc; hn.lt
theorem Inv.sz (I:Inv X pins σ H s):X.s₀.heap.objs.size≤s.heap.objs.size:=Hi I.ok.above (JH I.lt)
theorem Inv.nofs (I:Inv X pins σ H s) {a:Addr} (h:s.heap.objs.size≤a):a∉X.fs:=fun hb=>by
 obtain ⟨_,o,ho,_⟩:=I.ok.iy.mem hb
 exact absurd (Ii (G2 ho) (Hi I.sz h)) (IS _)
theorem Inv.cne (I:Inv X pins σ H s):∀ x c,X.env.cells.lookup x=some c→c≠X.env.locals:=fun x c e z=>by
 obtain ⟨v,o,ho,hd⟩:=I.cell x c e
 obtain ⟨m,⟨o',es,ep,ho',hd',_⟩,_⟩:=I.loc
 rw [z,ho'] at ho; cases ho; rw [hd'] at hd; cases hd
theorem Inv.iy (I:Inv X pins σ H s):s.heap.FunFrames X.base X.outer:=by
 have all:∀ (l:List Env),(∀ b∈frs l,b∈X.fs)→X.s₀.heap.FunFrames X.base l→s.heap.FunFrames X.base l:=by
  intro l
  induction l with
  | nil=>intro _ _; trivial
  | cons env r ih =>
   intro hs hl
   obtain ⟨hk,⟨L,o,hf,hn,ho,hd⟩,hr⟩:=hl
   have hL:L∈X.fs:=hs L (by unfold frs; rw [Ji,hf]; exact Hg)
   obtain ⟨sl,e⟩:=I.base.slot L o ho (I.ok.frf L hL) hL fun z=>I.ok.exfs L z hL
   exact ⟨hk,⟨L,_,hf,hn,e,hd⟩,ih (fun b hb=>hs b (by unfold frs; rw [Ji,hf]; exact Hl _ hb)) hr⟩
 exact all X.outer (fun _ hb=>hb) I.ok.iy
theorem Inv.stack (I:Inv X pins σ H s):s.heap.FunFrames X.base X.stack:=by
 rcases I.ok.stk with e | ⟨e,hf⟩
 ·rw [e]; exact I.iy
 ·rw [e]
  obtain ⟨m,hn,_⟩:=I.loc
  refine .cons (by rw [I.ok.kind]; decide) hf hn ?_ I.iy
  exact Heap.get?_none_of_le (Hi I.ok.bsz I.ok.above)
theorem Inv.qL (I:Inv X pins σ H s):∀ b∈frs X.stack,b∈X.env.locals::X.fs:=fun b hb=>by
 rcases I.ok.stk with e | ⟨e,hf⟩
 ·rw [e] at hb; exact Hl _ hb
 ·rw [e] at hb
  unfold frs at hb
  rw [Ji,hf] at hb
  exact hb
theorem Inv.sP (I:Inv X pins σ H s):∀ b∈frs X.stack,H b=none:=fun b hb=>by
 rcases G5.mp (I.qL b hb) with e | hb
 ·rw [e]; exact I.free
 ·obtain ⟨_,o,ho,_⟩:=I.ok.iy.mem hb
  exact I.base.free b o ho (I.ok.frf b hb) fun z=>I.ok.exfs b z hb
theorem Inv.step {g':Array GenState} {t':Nat} {d':Drawn} {ch:List Addr} (I:Inv X pins σ H s)
 (hch:∀ b∈ch,(b∈X.ex∨X.s₀.heap.objs.size≤b)∧b≠X.env.locals∧(∀ x c,X.env.cells.lookup x=some c→c≠b)∧∀ p∈X.pn++pins,p.1≠b)
 (keep:∀ b o,b≠X.env.locals→b∉X.fs→b∉ch→s.heap.get? b=some o→H b=none→h'.get? b=some o)
 (slot:∀ b o,b≠X.env.locals→b∈X.fs→b∉ch→s.heap.get? b=some o→H b=none→∃ sl,h'.get? b=some { o with slots:=sl }) (free:∀ b o,b∉ch→s.heap.get? b=some o→H b=none→H' b=none)
 (there:∀ b o,b∉ch→s.heap.get? b=some o→∃ o',h'.get? b=some o')
 (tups:∀ b xs,H b=some (.tup xs)→H' b=some (.tup xs)) (frzs:∀ b o u,H b=some (.frz o u)→H' b=some (.frz o u)) (tbls:∀ b ps,H b=some (.tbl ps)→∃ more,H' b=some (.tbl (ps++more)))
 (ns:∀ m,s.heap.Ns X.env.locals m→h'.Ns X.env.locals m) (hok:HOk X.prog X.w H' h') (hg:AllBare g') :
 Inv X pins σ H' { s with heap:=h',gens:=g',drawn:=d',toks:=t' }:=by
 have neL:∀ b o,X.s₀.heap.get? b=some o→b≠X.env.locals:=fun b o e=>Hs (Ii (G2 e) I.ok.above)
 have neC:∀ b o,X.s₀.heap.get? b=some o→b∉X.ex→b∉ch:=fun b o e hx hb=>by
  rcases (hch b hb).1 with z | z
  ·exact hx z
  ·exact absurd (Ii (G2 e) z) (IS _)
 have cellK:∀ x c,X.env.cells.lookup x=some c→∀ v,s.heap.IsCell c v→h'.IsCell c v:=fun x c e v ⟨o,ho,hd⟩=>by
  have nch:c∉ch:=fun z=>(hch c z).2.2.1 x c e rfl
  by_cases hc:c∈X.fs
  ·obtain ⟨sl,q⟩:=slot c o (I.cne x c e) hc nch ho (I.freeC x c e)
   exact ⟨_,q,hd⟩
  ·exact ⟨o,keep c o (I.cne x c e) hc nch ho (I.freeC x c e),hd⟩
 refine ⟨I.ok,I.os,hg,⟨fun b o e n hb hx=>?_,fun b o e n hb hx=>?_,fun b o e n hx=>?_,fun b o e hx=>?_,fun b xs e=>tups b xs (I.base.tups b xs e),fun b o xs e=>frzs b o xs (I.base.frzs b o xs e),fun b ps e=>?_⟩,?_,fun x c e=>?_,?_,fun x c e=>?_,fun p hp=>?_,hok,I.len⟩
 ·exact keep b o (neL b o e) hb (neC b o e hx) (I.base.keep b o e n hb hx) (I.base.free b o e n hx)
 ·obtain ⟨sl,e1⟩:=I.base.slot b o e n hb hx
  obtain ⟨sl',e2⟩:=slot b _ (neL b o e) hb (neC b o e hx) e1 (I.base.free b o e n hx)
  exact ⟨sl',e2⟩
 ·obtain ⟨o',e1⟩:=I.base.there b o e hx
  exact free b o' (neC b o e hx) e1 (I.base.free b o e n hx)
 ·obtain ⟨o',e1⟩:=I.base.there b o e hx
  exact there b o' (neC b o e hx) e1
 ·obtain ⟨m1,e1⟩:=I.base.tbls b ps e
  obtain ⟨m2,e2⟩:=tbls b _ e1
  exact ⟨m1++m2,by rw [e2,Array.append_assoc]⟩
 ·obtain ⟨m,hn,hl⟩:=I.loc
  refine ⟨m,ns m hn,fun i x v e1 e2 e3=>?_⟩
  obtain ⟨u,r,l⟩:=hl i x v e1 e2 e3
  refine ⟨u,r,?_⟩
  rcases l with l | ⟨k,c,e,z⟩
  ·exact .inl l
  ·exact .inr ⟨k,c,e,cellK x c e _ z⟩
 ·obtain ⟨v,z⟩:=I.cell x c e
  exact ⟨v,cellK x c e v z⟩
 ·obtain ⟨m,⟨o,_,_,ho,_⟩,_⟩:=I.loc
  exact free _ o (fun z=>(hch _ z).2.1 rfl) ho I.free
 ·obtain ⟨v,o,ho,hd⟩:=I.cell x c e
  exact free c o (fun z=>(hch c z).2.2.1 x c e rfl) ho (I.freeC x c e)
 ·obtain ⟨e,n,ne,nf,d⟩:=I.pin p hp
  have nch:p.1∉ch:=fun z=>(hch p.1 z).2.2.2 p hp rfl
  exact ⟨keep p.1 p.2 ne nf nch e n,free p.1 p.2 nch e n,ne,nf,d⟩
theorem Inv.un {t':Nat} (I:Inv X pins σ H s) (u:Un X.fs [] H H' s.heap h') (hok:HOk X.prog X.w H' h'):Inv X pins σ H' { s with heap:=h',toks:=t' }:=by
 obtain ⟨m,⟨o,es,ep,ho,r⟩,_⟩:=id I.loc
 obtain ⟨sl,hL⟩:=u.any ho I.free (by simp)
 exact I.step (g':=s.gens) (d':=s.drawn) (ch:=[]) (fun _ z=>nomatch z) (fun b o _ hb _ e n=>u.keep b o e n hb (by simp)) (fun b o _ hb _ e n=>u.slot b o e n hb (by simp)) (fun b o _ e n=>u.free b o e n (by simp)) (fun b o _ e=>u.there b o e (by simp)) u.tups u.frzs u.tbls (fun m' hm=>by
  obtain ⟨o',es',ep',ho',r'⟩:=hm
  rw [ho] at ho'; cases ho'
  exact ⟨_,es',ep',hL,r'⟩) hok I.bare
theorem Inv.call {g':Array GenState} {t':Nat} {d':Drawn} {ch:List Addr} (I:Inv X pins σ H s) (u:Un (frs X.stack) ch H H' s.heap h') (hok:HOk X.prog X.w H' h') (hg:AllBare g')
 (hch:∀ b∈ch,(b∈X.ex∨X.s₀.heap.objs.size≤b)∧b≠X.env.locals∧(∀ x c,X.env.cells.lookup x=some c→c≠b)∧∀ p∈X.pn++pins,p.1≠b) :
 Inv X pins σ H' { s with heap:=h',gens:=g',drawn:=d',toks:=t' }:=by
 obtain ⟨m,⟨o,es,ep,ho,r⟩,_⟩:=id I.loc
 obtain ⟨sl,hL⟩:=u.any ho I.free fun z=>(hch _ z).2.1 rfl
 exact I.step (ch:=ch) hch (fun b o hL hb hc e n=>u.keep b o e n (fun z=>(G5.mp (I.qL b z)).elim hL hb) hc) (fun b o _ _ hc e n=>u.any e n hc) (fun b o hc e n=>u.free b o e n hc) (fun b o hc e=>u.there b o e hc) u.tups u.frzs u.tbls (fun m' hm=>by
  obtain ⟨o',es',ep',ho',r'⟩:=hm
  rw [ho] at ho'; cases ho'
  exact ⟨_,es',ep',hL,r'⟩) hok hg
theorem Inv.turned {t':Nat} {it:Addr} (I:Inv X pins σ H s) (k:∀ b o,b≠it→s.heap.get? b=some o→h'.get? b=some o) (hn:H it=none) (hL:it≠X.env.locals)
 (h1:it∈X.ex∨X.s₀.heap.objs.size≤it) (h2:∀ x c,X.env.cells.lookup x=some c→c≠it) (h3:∀ p∈X.pn++pins,p.1≠it):Inv X pins σ H { s with heap:=h',toks:=t' }:=by
 have nit:∀ b u,H b=some u→b≠it:=fun b u e z=>by rw [z,hn] at e; cases e
 refine I.step (g':=s.gens) (d':=s.drawn) (ch:=[it]) (fun b hb=>?_) (fun b o _ _ hc e _=>k b o (fun z=>hc (by simp [z])) e) (fun b o _ _ hc e _=>⟨o.slots,k b o (fun z=>hc (by simp [z])) e⟩) (fun _ _ _ _ n=>n)
  (fun b o hc e=>⟨o,k b o (fun z=>hc (by simp [z])) e⟩) (fun _ _ e=>e) (fun _ _ _ e=>e) (fun b ps e=>⟨#[],by rw [e]; simp⟩) (fun m hm=>?_) (fun b u e=>?_) I.bare
 ·have e:b=it:=by simpa using hb
  subst e
  exact ⟨h1,hL,h2,h3⟩
 ·obtain ⟨o,es,ep,ho,r⟩:=hm
  exact ⟨o,es,ep,k _ o (Hu hL) ho,r⟩
 ·refine (I.hok b u e).stay (fun c v hc q=>k c v ?_ q) (fun _ q=>q) fun _ _ q=>q
  rcases hc with z | z
  ·rw [z]; exact nit b u e
  ·exact nit c _ z
theorem Inv.tok (I:Inv X pins σ H s) (t:Nat):Inv X pins σ H { s with toks:=t }:=I.un (h':=s.heap) (t':=t) Un.refl I.hok
theorem Inv.kept {t':Nat} (I:Inv X pins σ H s) (k:∀ b u,s.heap.get? b=some u→h'.get? b=some u):Inv X pins σ H { s with heap:=h',toks:=t' }:=I.un (Un.kept k) (I.hok.kept k)
theorem Inv.laid {a:Addr} {o:HO} {t':Nat} (I:Inv X pins σ H s) (k:∀ b u,s.heap.get? b=some u→h'.get? b=some u) (hp:s.heap.objs.size≤a) (new:aS X.prog X.w (upd H a o) h' a o) :
 Inv X pins σ (upd H a o) { s with heap:=h',toks:=t' }:=I.un (Un.laid k hp (I.hok.fresh hp)) (I.hok.laid k hp new)
theorem Inv.write {x e:Addr} {o:HO} {t':Nat} (I:Inv X pins σ H s) (mu:Mut (H x)) (he:e=x∨H e=some (.own x)) (k:∀ b u,b≠e→s.heap.get? b=some u→h'.get? b=some u) (heo:∃ u,h'.get? e=some u)
 (new:aS X.prog X.w (upd H x o) h' x o):Inv X pins σ (upd H x o) { s with heap:=h',toks:=t' }:=I.un (Un.write mu he k heo) (I.hok.write mu he k heo new)
theorem Inv.sQ {pins':List (Addr×Obj)} (I:Inv X pins σ H s) (h:∀ p∈pins',s.heap.get? p.1=some p.2∧H p.1=none∧p.1≠X.env.locals∧p.1∉X.fs∧∀ v,p.2.data≠.cell v):Inv X pins' σ H s :=
 ⟨I.ok,I.os,I.bare,I.base,I.loc,I.cell,I.free,I.freeC,fun p hp=>(Hy.mp hp).elim (fun z=>I.pin p (Jx _ z)) (h p),I.hok,I.len⟩
theorem oE {N:List Str} (hN:N.Nodup) {i j:Nat} {x:Str} (a:N[i]?=some x) (b:N[j]?=some x):i=j:=by
 obtain ⟨h1,e1⟩:=G8.mp a
 obtain ⟨h2,e2⟩:=G8.mp b
 exact (List.getElem_inj hN).mp (e1.trans e2.symm)
theorem ve {M:Model} {A:Around} {E:Value→Shared→Prop} {i:Nat} {x:Str} {v:V} {u:Value} {Q:Unit→Shared→Prop} (I:Inv X pins σ H s) (hN:X.N.Nodup) (hi:X.N[i]?=some x) (hx:Loc X.env.scope x) (r:RelV v u)
 (h:∀ s',Inv X pins (σ.set i (some v)) H s'→(∃ a,Jj a s.heap s'.heap∧(a=X.env.locals∨X.env.cells.lookup x=some a))→Q () s') (hf:X.fn x=true∨X.env.scope.names.lookup x=some .local:=by first | exact .inl rfl | exact .inr rfl | assumption):wpAny M A (storeName X.env x u) Q E s:=by
 obtain ⟨m,hn,hl⟩:=id I.loc
 have hcls:(X.env.scope.kind == .class || (X.env.scope.kind == .module && X.env.locals != X.env.globals))=false:=by rw [I.ok.kind]; rfl
 have hiσ:i<σ.length:=by rw [I.len]; exact (G8.mp hi).1
 have cne:=I.cne
 have tracked:∀ {a:Addr} {h':Heap},(∃ o,s.heap.get? a=some o∧H a=none)→Jj a s.heap h'→HOk X.prog X.w H h':=fun {a h'} ha hs b ob e=>by
  obtain ⟨_,_,hfree⟩:=ha
  refine (I.hok b ob e).stay (fun c w' hc q=>(hs.2 c ?_).trans q) (fun _ q=>q) fun _ _ q=>q
  rintro rfl
  rcases hc with rfl | hc
  ·rw [hfree] at e; cases e
  ·rw [hfree] at hc; cases hc
 rcases hx with hk | hk
 ·refine wpAny_storeName_local hk hn (fun h' hn' hs=>?_) hcls
  obtain ⟨oL,_,_,hoL,_⟩:=id hn
  refine h _ ⟨I.ok,I.os,I.bare,⟨fun b o e n hb hx=>?_,fun b o e n hb hx=>?_,I.base.free,fun b o e hx=>?_,I.base.tups,I.base.frzs,I.base.tbls⟩,⟨_,hn',fun j y v' e1 e2 e3=>?_⟩,fun y c e=>?_,I.free,I.freeC,fun p hp=>?_,tracked ⟨oL,hoL,I.free⟩ hs,by simpa using I.len⟩ ⟨_,hs,.inl rfl⟩
  ·exact (hs.2 b (Hs (Ii (G2 e) I.ok.above))).trans (I.base.keep b o e n hb hx)
  ·obtain ⟨sl,e1⟩:=I.base.slot b o e n hb hx
   exact ⟨sl,(hs.2 b (Hs (Ii (G2 e) I.ok.above))).trans e1⟩
  ·obtain ⟨o',e1⟩:=I.base.there b o e hx
   exact ⟨o',(hs.2 b (Hs (Ii (G2 e) I.ok.above))).trans e1⟩
  ·by_cases hj:j=i
   ·subst hj
    rw [hi] at e1; cases e1
    rw [Iu hiσ] at e2
    cases e2
    exact ⟨u,r,.inl ⟨hk,by simp⟩⟩
   ·rw [Iv (Hu hj)] at e2
    obtain ⟨u',r',q⟩:=hl j y v' e1 e2 e3
    refine ⟨u',r',?_⟩
    rcases q with ⟨k,e⟩ | ⟨k,c,e,z⟩
    ·refine .inl ⟨k,?_⟩
     have:y≠x:=fun e=>hj (oE hN e1 (e ▸ hi))
     simp [this,e]
    ·exact .inr ⟨k,c,e,z.sameBut hs (cne y c e)⟩
  ·obtain ⟨w',z⟩:=I.cell y c e
   exact ⟨w',z.sameBut hs (cne y c e)⟩
  ·obtain ⟨e,n,ne,nf,d⟩:=I.pin p hp
   exact ⟨(hs.2 p.1 ne).trans e,n,ne,nf,d⟩
 ·have hfn:X.fn x=true:=by
   rcases hf with z | z
   ·exact z
   ·rw [z] at hk; cases hk
  obtain ⟨c,hc⟩:=I.ok.has x (.inl hk)
  obtain ⟨w',z⟩:=I.cell x c hc
  refine wpAny_storeName_cell I.ok.kind hk hc z (fun h' hc' hs=>?_)
  obtain ⟨oc,hoc,hocd⟩:=id z
  refine h { s with heap:=h' } ⟨I.ok,I.os,I.bare,⟨fun b o e n hb hx=>?_,fun b o e n hb hx=>?_,I.base.free,fun b o e hx=>?_,I.base.tups,I.base.frzs,I.base.tbls⟩,⟨m,hn.sameBut hs (Hu (cne x c hc)),fun j y v' e1 e2 e3=>?_⟩,fun y c' e=>?_,I.free,I.freeC,fun p hp=>?_,tracked ⟨oc,hoc,I.freeC x c hc⟩ hs,by simpa using I.len⟩ ⟨c,hs,.inr hc⟩
  ·exact (hs.2 b (Hs (Ii (G2 e) (I.ok.cab x c hfn hc)))).trans (I.base.keep b o e n hb hx)
  ·obtain ⟨sl,e1⟩:=I.base.slot b o e n hb hx
   exact ⟨sl,(hs.2 b (Hs (Ii (G2 e) (I.ok.cab x c hfn hc)))).trans e1⟩
  ·obtain ⟨o',e1⟩:=I.base.there b o e hx
   exact ⟨o',(hs.2 b (Hs (Ii (G2 e) (I.ok.cab x c hfn hc)))).trans e1⟩
  ·by_cases hj:j=i
   ·subst hj
    rw [hi] at e1; cases e1
    rw [Iu hiσ] at e2
    cases e2
    exact ⟨u,r,.inr ⟨.inl hk,c,hc,hc'⟩⟩
   ·rw [Iv (Hu hj)] at e2
    obtain ⟨u',r',q⟩:=hl j y v' e1 e2 e3
    refine ⟨u',r',?_⟩
    rcases q with q | ⟨k,c',e,z'⟩
    ·exact .inl q
    ·refine .inr ⟨k,c',e,z'.sameBut hs ?_⟩
     rintro rfl
     exact hj (oE hN e1 (I.ok.inj _ _ _ e hc ▸ hi))
  ·by_cases hcc:c'=c
   ·subst hcc; exact ⟨_,hc'⟩
   ·obtain ⟨w2,z2⟩:=I.cell y c' e
    exact ⟨w2,z2.sameBut hs hcc⟩
  ·obtain ⟨e,n,ne,nf,d⟩:=I.pin p hp
   refine ⟨(hs.2 p.1 ?_).trans e,n,ne,nf,d⟩
   intro q
   rw [q,hoc] at e
   have q':oc=p.2:=IW e
   exact d w' (by rw [← q']; exact hocd)
theorem jI {M:Model} {A:Around} {E:Value→Shared→Prop} {i:Nat} {x:Str} {v:V} {u:Value} {Q:Unit→Shared→Prop} (I:Inv X pins σ H s) (hN:X.N.Nodup) (hi:X.N[i]?=some x) (hx:Loc X.env.scope x) (r:RelV v u)
 (h:∀ s',Inv X pins (σ.set i (some v)) H s'→Q () s') (hf:X.fn x=true∨X.env.scope.names.lookup x=some .local:=by first | exact .inl rfl | exact .inr rfl | assumption):wpAny M A (storeName X.env x u) Q E s :=
 ve I hN hi hx r (fun s' I' _=>h s' I') hf
theorem Inv.DM {s':Shared} {ch:List Addr} (I:Inv X pins σ H s) (ho:s'.os=s.os) (u:Un (frs X.stack) ch H H' s.heap s'.heap) (hok:HOk X.prog X.w H' s'.heap) (hg:AllBare s'.gens)
 (hch:∀ b∈ch,(b∈X.ex∨X.s₀.heap.objs.size≤b)∧b≠X.env.locals∧(∀ x c,X.env.cells.lookup x=some c→c≠b)∧∀ p∈X.pn++pins,p.1≠b):Inv X pins σ H' s':=by
 obtain ⟨h',g',d',t',o'⟩:=s'
 have e:o'=s.os:=ho
 subst e
 exact I.call (g':=g') (t':=t') (d':=d') u hok hg hch
end
noncomputable abbrev XK:=Value→Option Addr→Hp→Prop
noncomputable abbrev St:=List (Option V)
noncomputable abbrev VK:=V→Hp→Prop
noncomputable abbrev TE:=St→Hp→VK→Prop
noncomputable abbrev TT:=St→Hp→(Bool→Hp→Prop)→Prop
noncomputable abbrev TA:=St→Hp→(List V→Hp→Prop)→Prop
structure Ends where
 nx:St→Hp→Prop
 rt:VK
 bk:St→Hp→Prop:=fun _ _=>False
 ct:St→Hp→Prop:=fun _ _=>False
noncomputable abbrev TS:=Ends→St→Hp→Prop
noncomputable def EP (X:Cx) (pins:List (Addr×Obj)) (σ:St) (Q:VK) (u:Value) (s':Shared):Prop:=∃ v H',Inv X pins σ H' s'∧RelV v u∧Q v H'
noncomputable def TP (X:Cx) (pins:List (Addr×Obj)) (σ:St) (Q:Bool→Hp→Prop) (b:Bool) (s':Shared):Prop:=∃ H',Inv X pins σ H' s'∧Q b H'
noncomputable def AP (X:Cx) (pins:List (Addr×Obj)) (σ:St) (Q:List V→Hp→Prop) (us:List Value) (s':Shared):Prop:=∃ vs H',Inv X pins σ H' s'∧Vals vs us∧Q vs H'
noncomputable def SP (X:Cx) (pins:List (Addr×Obj)) (D:Ends) (f:Flow) (s':Shared):Prop :=
 match f with
 | .next=>∃ σ' H',Inv X pins σ' H' s'∧D.nx σ' H'
 | .brk=>∃ σ' H',Inv X pins σ' H' s'∧D.bk σ' H'
 | .cont=>∃ σ' H',Inv X pins σ' H' s'∧D.ct σ' H'
 | .ret u=>∃ v σ' H',Inv X pins σ' H' s'∧RelV v u∧D.rt v H'
noncomputable def PE (X:Cx) (e:Expr) (t:TE):Prop :=
 ∀ (pins:List (Addr×Obj)) (s:Shared) (σ:St) (H:Hp) (Q:VK),Inv X pins σ H s→t σ H Q→wpAny (model X.prog X.w) X.A (eval e X.env) (EP X pins σ Q) X.xe s
noncomputable def PT (X:Cx) (e:Expr) (t:TT):Prop :=
 ∀ (pins:List (Addr×Obj)) (s:Shared) (σ:St) (H:Hp) (Q:Bool→Hp→Prop),Inv X pins σ H s→t σ H Q→wpAny (model X.prog X.w) X.A (isTrue e X.env (eval e X.env)) (TP X pins σ Q) X.xe s
noncomputable def PW (X:Cx) (e:Expr) (t:TT):Prop :=
 ∀ (whole:Sem Value) (pins:List (Addr×Obj)) (s:Shared) (σ:St) (H:Hp) (Q:Bool→Hp→Prop),Inv X pins σ H s→t σ H Q→wpAny (model X.prog X.w) X.A (isTrue e X.env whole) (TP X pins σ Q) X.xe s
noncomputable def PA (X:Cx) (es:List Expr) (t:TA):Prop :=
 ∀ (pos:Pos) (pins:List (Addr×Obj)) (s:Shared) (σ:St) (H:Hp) (Q:List V→Hp→Prop),Inv X pins σ H s→t σ H Q→wpAny (model X.prog X.w) X.A (spliced (backTo pos (starEach es X.env))) (AP X pins σ Q) X.xe s
noncomputable def PS (X:Cx) (st:Stmt) (t:TS):Prop :=
 ∀ (pins:List (Addr×Obj)) (s:Shared) (σ:St) (H:Hp) (D:Ends),Inv X pins σ H s→t D σ H→wpAny (model X.prog X.w) X.A (exec st X.env) (SP X pins D) X.xe s
noncomputable def PSs (X:Cx) (st:List Stmt) (t:TS):Prop :=
 ∀ (pins:List (Addr×Obj)) (s:Shared) (σ:St) (H:Hp) (D:Ends),Inv X pins σ H s→t D σ H→wpAny (model X.prog X.w) X.A (execs st X.env) (SP X pins D) X.xe s
theorem thn {α:Type} {t:Sem α} {Q Q':α→Shared→Prop} {M:Model} {A:Around} {E:Value→Shared→Prop} {s:Shared} (h:wpAny M A t Q E s) (hQ:∀ a s,Q a s→Q' a s):wpAny M A t Q' E s:=HU h hQ fun _ _ x=>x
section
variable {X:Cx}
noncomputable def tVar (i:Nat):TE:=fun σ H Q=>∃ v,σ[i]?=some (some v)∧Q v H
noncomputable def tC (v:V):TE:=fun _ H Q=>Q v H
theorem qM {i:Nat} {x:Str} {pos:Pos} (hN:X.N[i]?=some x) (hv:Vis X.env.scope x) (hd:(x == ("__debug__":Str))=false:=by decide) (hcd:(x == ("__classdict__":Str))=false:=by decide):PE X (.Name x pos) (tVar i):=by
 intro pins s σ H Q I h
 obtain ⟨v,e,h⟩:=h
 obtain ⟨m,hn,hl⟩:=I.loc
 obtain ⟨u,r,l⟩:=hl i x v hN e hv
 have fin:EP X pins σ Q u s:=⟨v,H,I,r,h⟩
 rcases l with ⟨hk,hm⟩ | ⟨hk,c,hc,hcell⟩
 ·exact wpAny_Name (wpAny_loadName_local I.ok.kind hk hn hm fin) hd
 ·rcases hk with hk | hk
  ·exact wpAny_Name (wpAny_loadName_cell I.ok.kind hk hc hcell fin) hd
  ·exact wpAny_Name (wpAny_loadName_free I.ok.kind hk hc hcell fin hcd) hd
theorem Ep {i j pos}:PE X (.Constant (.int i) j pos) (tC (.int i)):=fun _ _ _ H _ I h=>wpAny_Constant_int ⟨.int i,H,I.tok _,⟨_,rfl⟩,h⟩
theorem xA {b j pos}:PE X (.Constant (.bool b) j pos) (tC (.bl b)):=fun _ _ _ H _ I h=>Constant_bool ⟨.bl b,H,I,rfl,h⟩
noncomputable def Gl (X:Cx) (x:Str):Prop:=X.env.kindOf x=some .globalImplicit
theorem gp {E:Value→Shared→Prop} {pins:List (Addr×Obj)} {s:Shared} {σ:St} {H:Hp} {x:Str} {u:Value} {pos:Pos} {Q:Value→Shared→Prop} (I:Inv X pins σ H s) (hg:Gl X x) (hm:X.mg x=some u) (h:Q u s)
 (hd:(x == ("__debug__":Str))=false:=by decide):wpAny (model X.prog X.w) X.A (eval (.Name x pos) X.env) Q E s :=
 Calls.Name_function_global I.ok.kind hg (Calls.loadGlobal_global (by rw [I.ok.glob]; exact I.mod.glob.keeps I.bk) hm h) hd
theorem bX {E:Value→Shared→Prop} {pins:List (Addr×Obj)} {s:Shared} {σ:St} {H:Hp} {x:Str} {u:Value} {pos:Pos} {Q:Value→Shared→Prop} (I:Inv X pins σ H s) (hg:Gl X x) (hm:X.mg x=none) (hv:bootBuiltins x=some u) (h:Q u s)
 (hn:x≠"__name__":=by decide) (hd:(x == ("__debug__":Str))=false:=by decide):wpAny (model X.prog X.w) X.A (eval (.Name x pos) X.env) Q E s:=by
 obtain ⟨mb,h1,h2⟩:=I.mod.blt
 exact Calls.Name_function_global I.ok.kind hg (Calls.loadGlobal_builtin (by rw [I.ok.glob]; exact I.mod.glob.keeps I.bk) hm (by rw [I.ok.blt]; exact h1.keeps I.bk) ((h2 x hn).trans hv) h) hd
theorem sR {x:Str} {v:V} {u:Value} {pos:Pos} (hg:Gl X x) (hm:X.mg x=some u) (r:RelV v u) (hd:(x == ("__debug__":Str))=false:=by decide):PE X (.Name x pos) (tC v) :=
 fun _ _ _ H _ I h=>gp I hg hm ⟨v,H,I,r,h⟩ hd
variable {a b:Expr} {ta tb:TE} {pos:Pos}
noncomputable def PC (X:Cx) (op:CmpOp) (a b:Expr) (t:TE):Prop :=
 ∀ (pins:List (Addr×Obj)) (s:Shared) (σ:St) (H:Hp) (Q:VK),Inv X pins σ H s→t σ H Q →
  wpAny (model X.prog X.w) X.A (eval a X.env) (fun v s₁=>wpAny (model X.prog X.w) X.A (eval b X.env) (fun u s₂=>wpAny (model X.prog X.w) X.A (compareOp op v u) (EP X pins σ Q) X.xe s₂) X.xe s₁) X.xe s
noncomputable def tB (t:TE):TT:=fun σ H Q=>t σ H fun x H1=>∃ c,x=.bl c∧Q c H1
theorem Er {op:CmpOp} {t:TE} (h:PC X op a b t) (h1:behindInMarks op b=false:=by first | exact nobehind _ (by decide) (by decide) | rfl):PT X (.Compare a [op] [b] pos) (tB t):=by
 intro pins s σ H Q I hw
 refine wpAny_isTrue_Compare1 (thn (h pins s σ H _ I hw) fun v s1 h1=>thn h1 fun u s2 h2=>thn h2 fun c s3 ⟨x,H1,I1,r1,q1⟩=>?_) h1
 obtain ⟨d,rfl,q⟩:=q1
 cases r1
 exact Kr ⟨H1,I1,q⟩
theorem Es {e:Expr} {t:TE} (h:PE X e t) (he:∀ whole,isTrue e X.env whole=(do let v ← whole; standAt e.pos; holding [v] (truthy v)):=by intro _; rfl):PT X e (tB t):=by
 intro pins s σ H Q I hw
 refine isTrue_plain (thn (h pins s σ H _ I hw) fun v s1 ⟨x,H1,I1,r1,q1⟩=>?_) (he _)
 obtain ⟨d,rfl,q⟩:=q1
 cases r1
 exact Kr ⟨H1,I1,q⟩
variable {tA tB':TT} {rest:List Expr}
noncomputable def tAnd (t u:TT):TT:=fun σ H Q=>t σ H fun c H1=>if c=true then u σ H1 Q else Q false H1
noncomputable def tOr (t u:TT):TT:=fun σ H Q=>t σ H fun c H1=>if c=true then Q true H1 else u σ H1 Q
noncomputable def tNot (t:TT):TT:=fun σ H Q=>t σ H fun c H1=>Q (!c) H1
theorem pw_and1 (ha:PT X a tA):PW X (.BoolOp .And [a] pos) tA:=by
 intro wh pins s σ H Q I h
 refine isTrue_and (thn (ha pins s σ H Q I h) fun c s1 e=>?_)
 cases c with
 | true=>exact isTrue_and_nil e
 | false=>exact e
theorem pw_or1 (ha:PT X a tA):PW X (.BoolOp .Or [a] pos) tA:=by
 intro wh pins s σ H Q I h
 refine isTrue_or (thn (ha pins s σ H Q I h) fun c s1 e=>?_)
 cases c with
 | false=>exact isTrue_or_nil e
 | true=>exact e
theorem pw_and (ha:PT X a tA) (hb:PW X (.BoolOp .And (b::rest) pos) tB'):PW X (.BoolOp .And (a::b::rest) pos) (tAnd tA tB'):=by
 intro wh pins s σ H Q I h
 refine isTrue_and (thn (ha pins s σ H _ I h) fun c s1 ⟨H1,I1,q1⟩=>?_)
 cases c with
 | true=>exact hb wh pins s1 σ H1 Q I1 q1
 | false=>exact ⟨H1,I1,q1⟩
theorem pw_or (ha:PT X a tA) (hb:PW X (.BoolOp .Or (b::rest) pos) tB'):PW X (.BoolOp .Or (a::b::rest) pos) (tOr tA tB'):=by
 intro wh pins s σ H Q I h
 refine isTrue_or (thn (ha pins s σ H _ I h) fun c s1 ⟨H1,I1,q1⟩=>?_)
 cases c with
 | true=>exact ⟨H1,I1,q1⟩
 | false=>exact hb wh pins s1 σ H1 Q I1 q1
theorem Et (ha:PT X a tA):PT X (.UnaryOp .Not a pos) (tNot tA):=by
 intro pins s σ H Q I h
 exact isTrue_not (ha pins s σ H (fun c H1=>Q (!c) H1) I h)
noncomputable def tAndV (ta tb:TE):TE:=fun σ H Q=>ta σ H fun x H1=>∃ c,x=.bl c∧if c=true then tb σ H1 Q else Q (.bl false) H1
noncomputable def tNotV (ta:TE):TE:=fun σ H Q=>ta σ H fun x H1=>∃ c,x=.bl c∧Q (.bl (!c)) H1
theorem Eu {op} {t:TE} (h:PE X a t):PE X (.BoolOp op [a] pos) t:=fun pins s σ H Q I hw=>BoolOp_one (h pins s σ H Q I hw)
theorem Ew (ha:PE X a ta) (hb:PE X (.BoolOp .And (b::rest) pos) tb):PE X (.BoolOp .And (a::b::rest) pos) (tAndV ta tb):=by
 intro pins s σ H Q I h
 refine BoolOp_and (thn (ha pins s σ H _ I h) fun v s1 ⟨x,H1,I1,r1,q1⟩=>?_)
 obtain ⟨c,rfl,q1⟩:=q1
 cases r1
 refine Kr ?_
 cases c with
 | true=>exact hb pins s1 σ H1 Q I1 q1
 | false=>exact ⟨.bl false,H1,I1,rfl,q1⟩
theorem Ey (ha:PE X a ta):PE X (.UnaryOp .Not a pos) (tNotV ta):=by
 intro pins s σ H Q I h
 refine UnaryOp_ (thn (ha pins s σ H _ I h) fun v s1 ⟨x,H1,I1,r1,q1⟩=>?_)
 obtain ⟨c,rfl,q1⟩:=q1
 cases r1
 exact not_of (Kr ⟨.bl (!c),H1,I1,rfl,q1⟩)
noncomputable def tIf (t:TT) (ta tb:TE):TE:=fun σ H Q=>t σ H fun c H1=>if c=true then ta σ H1 Q else tb σ H1 Q
theorem xB {c:Expr} (hc:PT X c tA) (ha:PE X a ta) (hb:PE X b tb):PE X (.IfExp c a b pos) (tIf tA ta tb):=by
 intro pins s σ H Q I h
 refine wpAny_IfExp (thn (hc pins s σ H _ I h) fun d s1 ⟨H1,I1,q1⟩=>?_)
 cases d with
 | true=>exact ha pins s1 σ H1 Q I1 q1
 | false=>exact hb pins s1 σ H1 Q I1 q1
end
noncomputable def SqL (K:GW) (H:Hp) (a:Addr) (xs:List V):Prop :=
 Rd H a (.lst xs) ∨
  ∃ (o:Obj) (its:Array Value) (n:Nat),K.lookup a=some o∧o.cls=.type "list"∧o.dict=none∧o.data=.seq its n∧its.size≤sizeLine∧Vals xs its.toList
noncomputable def SqT (K:GW) (H:Hp) (a:Addr) (xs:List V):Prop :=
 Rd H a (.tup xs) ∨
  ∃ (o:Obj) (its:Array Value) (n:Nat),K.lookup a=some o∧o.cls=.type "tuple"∧o.data=.seq its n∧its.size≤sizeLine∧Vals xs its.toList
noncomputable def absV:Value→Option V
 | .none=>some .non
 | .bool b=>some (.bl b)
 | .int i _=>some (.int i)
 | .str x _=>some (.str x)
 | .bytes b _=>some (.byt b)
 | .float b _=>some (.flt b)
 | .ref a=>some (.ref a)
 | .type n=>some (.ty n)
 | _=>none
theorem RelV.abs {x:V} {u:Value} (r:RelV x u):absV u=some x:=by
 cases x with
 | non=>cases r; rfl
 | bl _=>cases r; rfl
 | int _=>obtain ⟨t,rfl⟩:=r; rfl
 | str _=>obtain ⟨t,rfl⟩:=r; rfl
 | byt _=>obtain ⟨t,rfl⟩:=r; rfl
 | flt _=>obtain ⟨t,rfl⟩:=r; rfl
 | ref _=>cases r; rfl
 | ty _=>cases r; rfl
theorem RelV.inj {x y:V} {u:Value} (r:RelV x u) (q:RelV y u):x=y:=IW (r.abs.symm.trans q.abs)
theorem Vals.inj:∀ {xs ys:List V} {us:List Value},Vals xs us→Vals ys us→xs=ys
 | _,_,_,.nil,.nil=>rfl
 | _,_,_,.cons r t,.cons r' t'=>by rw [r.inj r',Vals.inj t t']
section
variable {X:Cx} {pins:List (Addr×Obj)} {σ:St} {H:Hp} {s:Shared} {a:Addr} {xs ys:List V}
theorem Inv.list (I:Inv X pins σ H s) (h:SqL X.K H a xs):∃ its:List Value,Vals xs its∧PlainL s.heap a its.toArray∧xs.length≤sizeLine:=by
 rcases h with h | ⟨o,its,n,hk,hc,hd,hs,hz,r⟩
 ·obtain ⟨z,its,n,r,e⟩:=h.ok I.hok
  exact ⟨its,r,⟨_,n,e,rfl,rfl,rfl⟩,z⟩
 ·refine ⟨its.toList,r,⟨o,n,I.kIn a o hk,hc,hd,by simpa using hs⟩,?_⟩
  have e:=r.length
  simp only [Ie] at e
  omega
theorem Inv.tuple (I:Inv X pins σ H s) (h:SqT X.K H a xs):∃ its:List Value,Vals xs its∧IsTup s.heap a its.toArray∧xs.length≤sizeLine:=by
 rcases h with h | ⟨o,its,n,hk,hc,hs,hz,r⟩
 ·obtain ⟨z,its,r,p⟩:=h.ok I.hok
  exact ⟨its,r,p,z⟩
 ·refine ⟨its.toList,r,⟨o,I.kIn a o hk,hc,n,by simpa using hs⟩,?_⟩
  have e:=r.length
  simp only [Ie] at e
  omega
theorem Inv.gq (I:Inv X pins σ H s) (h:SqL X.K H a xs) (h':SqL X.K H a ys):xs=ys:=by
 obtain ⟨its,r,⟨o,n,e,_,_,d⟩,_⟩:=I.list h
 obtain ⟨its',r',⟨o',n',e',_,_,d'⟩,_⟩:=I.list h'
 rw [e] at e'; cases e'
 rw [d] at d'
 injection d' with d1 _
 have:its=its':=by simpa using congrArg Array.toList d1
 subst this
 exact r.inj r'
theorem Inv.dD (I:Inv X pins σ H s) (h:SqT X.K H a xs) (h':SqT X.K H a ys):xs=ys:=by
 obtain ⟨its,r,⟨o,e,_,n,d⟩,_⟩:=I.tuple h
 obtain ⟨its',r',⟨o',e',_,n',d'⟩,_⟩:=I.tuple h'
 rw [e] at e'; cases e'
 rw [d] at d'
 injection d' with d1 _
 have:its=its':=by simpa using congrArg Array.toList d1
 subst this
 exact r.inj r'
end
noncomputable abbrev Cx.kP (X:Cx) (E:Value→Shared→Prop):Cx:={ X with xe:=E }
noncomputable abbrev Cx.nox (X:Cx):Cx:=X.kP fun _ _=>False
theorem Cx.Ok.kP {X:Cx} (ok:X.Ok) (E:Value→Shared→Prop):(X.kP E).Ok :=
 ⟨ok.mod,ok.kind,ok.glob,ok.blt,ok.above,ok.inj,ok.has,ok.cab,ok.hd,ok.frames,ok.stk,ok.exf,ok.bs,ok.bsz,ok.noex,ok.exfs,ok.iy,ok.frf⟩
theorem Cx.Ok.eO {X:Cx} {E:Value→Shared→Prop} (ok:(X.kP E).Ok):X.Ok :=
 ⟨ok.mod,ok.kind,ok.glob,ok.blt,ok.above,ok.inj,ok.has,ok.cab,ok.hd,ok.frames,ok.stk,ok.exf,ok.bs,ok.bsz,ok.noex,ok.exfs,ok.iy,ok.frf⟩
section
variable {X:Cx} {pins:List (Addr×Obj)} {σ:St} {H:Hp} {s:Shared} {E:Value→Shared→Prop}
theorem Inv.kP (I:Inv X pins σ H s) (E:Value→Shared→Prop):Inv (X.kP E) pins σ H s:=⟨I.ok.kP E,I.os,I.bare,I.base,I.loc,I.cell,I.free,I.freeC,I.pin,I.hok,I.len⟩
theorem Inv.eO (I:Inv (X.kP E) pins σ H s):Inv X pins σ H s:=⟨I.ok.eO,I.os,I.bare,I.base,I.loc,I.cell,I.free,I.freeC,I.pin,I.hok,I.len⟩
theorem SP.eO {D:Ends} {f:Flow} {s':Shared} (h:SP (X.kP E) pins D f s'):SP X pins D f s':=by
 cases f with
 | next=>obtain ⟨σ',H',I,q⟩:=h; exact ⟨σ',H',I.eO,q⟩
 | brk=>obtain ⟨σ',H',I,q⟩:=h; exact ⟨σ',H',I.eO,q⟩
 | cont=>obtain ⟨σ',H',I,q⟩:=h; exact ⟨σ',H',I.eO,q⟩
 | ret u=>obtain ⟨v,σ',H',I,r,q⟩:=h; exact ⟨v,σ',H',I.eO,r,q⟩
theorem PSs.nox {st:List Stmt} {t:TS} (h:PSs X.nox st t):PSs X st t:=fun pins s σ H D I hw =>
 HU (h pins s σ H D (I.kP _) hw) (fun _ _ q=>q.eO) fun _ _ z=>Ih z
end
section
variable {X:Cx} {st:Stmt} {rest:List Stmt} {t u:TS} {e:Expr} {te:TE} {pos:Pos}
noncomputable def tNext:TS:=fun D σ H=>D.nx σ H
noncomputable def tSeq (t u:TS):TS:=fun D σ H=>t { D with nx:=u D } σ H
theorem Bo:PSs X [] tNext:=fun _ _ σ H _ I h=>wpAny_execs_nil ⟨σ,H,I,h⟩
theorem xC (h1:PS X st t) (h2:PSs X rest u):PSs X (st::rest) (tSeq t u):=by
 intro pins s σ H D I h
 refine wpAny_execs_cons (thn (h1 pins s σ H { D with nx:=u D } I h) fun f s1 q=>?_)
 cases f with
 | next =>
  obtain ⟨σ',H',I',q⟩:=q
  exact h2 pins s1 σ' H' D I' q
 | ret v=>exact q
 | brk=>exact q
 | cont=>exact q
theorem Inv.quiet {pins:List (Addr×Obj)} {σ:St} {H:Hp} {s:Shared} (I:Inv X pins σ H s):interactive X.env=false:=by simp [interactive,I.ok.kind]
noncomputable def tDrop (te:TE):TS:=fun D σ H=>te σ H fun _ H1=>D.nx σ H1
theorem jw (he:PE X e te) (hs:swapsWith e none pos.line X.env=pure false:=by rfl):PS X (.Expr e pos) (tDrop te):=by
 intro pins s σ H D I h
 exact wpAny_Expr_any (thn (he pins s σ H _ I h) fun v s1 ⟨x,H1,I1,r1,q1⟩=>⟨σ,H1,I1,q1⟩) I.quiet hs
noncomputable def tRet (te:TE):TS:=fun D σ H=>te σ H D.rt
theorem xD (he:PE X e te):PS X (.Return (some e) pos) (tRet te):=by
 intro pins s σ H D I h
 exact wpAny_Return_some (thn (he pins s σ H _ I h) fun v s1 ⟨x,H1,I1,r1,q1⟩=>⟨x,σ,H1,I1,r1,q1⟩)
noncomputable def tIfS (c:TT) (t u:TS):TS:=fun D σ H=>c σ H fun b H1=>if b=true then t D σ H1 else u D σ H1
theorem ps_if {c:Expr} {a b:List Stmt} {tc:TT} (hc:PT X c tc) (ha:PSs X a t) (hb:PSs X b u):PS X (.If c a b pos) (tIfS tc t u):=by
 intro pins s σ H D I h
 refine wpAny_If (thn (hc pins s σ H _ I h) fun d s1 ⟨H1,I1,q1⟩=>?_)
 cases d with
 | true=>exact ha pins s1 σ H1 D I1 q1
 | false=>exact hb pins s1 σ H1 D I1 q1
end
noncomputable abbrev TG:=V→St→Hp→(St→Hp→Prop)→Prop
noncomputable abbrev TGs:=List V→St→Hp→(St→Hp→Prop)→Prop
noncomputable def PG (X:Cx) (target:Expr) (t:TG):Prop :=
 ∀ (pins:List (Addr×Obj)) (s:Shared) (σ:St) (H:Hp) (v:V) (u:Value) (Q:St→Hp→Prop),Inv X pins σ H s→RelV v u→t v σ H Q →
  wpAny (model X.prog X.w) X.A (assign target X.env u) (fun _ s'=>∃ σ' H',Inv X pins σ' H' s'∧Q σ' H') X.xe s
noncomputable def PGs (X:Cx) (ts:List Expr) (t:TGs):Prop :=
 ∀ (pins:List (Addr×Obj)) (s:Shared) (σ:St) (H:Hp) (vs:List V) (us:List Value) (Q:St→Hp→Prop),Inv X pins σ H s→Vals vs us→t vs σ H Q →
  wpAny (model X.prog X.w) X.A (assignInOrder ((assignEach ts X.env).map (·.2)) us) (fun _ s'=>∃ σ' H',Inv X pins σ' H' s'∧Q σ' H') X.xe s
noncomputable abbrev Bp:=V→V→V→Hp→(Hp→Prop)→Prop
noncomputable def PSet (X:Cx) (t:Bp):Prop :=
 ∀ (pins:List (Addr×Obj)) (s:Shared) (σ:St) (H:Hp) (o i v:V) (ov iv u:Value) (Q:Hp→Prop),Inv X pins σ H s→RelV o ov→RelV i iv→RelV v u→t o i v H Q →
  wpAny (model X.prog X.w) X.A (setItem ov iv u) (fun _ s'=>∃ H',Inv X pins σ H' s'∧Q H') X.xe s
noncomputable abbrev TIp:=V→V→Hp→VK→Prop
noncomputable def PIp (X:Cx) (op:Operator) (t:TIp):Prop :=
 ∀ (pins:List (Addr×Obj)) (s:Shared) (σ:St) (H:Hp) (x y:V) (v u:Value) (Q:VK),Inv X pins σ H s→RelV x v→RelV y u→t x y H Q →
  wpAny (model X.prog X.w) X.A (inplaceOp op v u) (EP X pins σ Q) X.xe s
section
variable {X:Cx} {pos:Pos}
noncomputable def DN (i:Nat):TG:=fun v σ H Q=>Q (σ.set i (some v)) H
theorem mT {i:Nat} {x:Str} (hN:X.N.Nodup) (hi:X.N[i]?=some x) (hx:Loc X.env.scope x) (hf:X.fn x=true∨X.env.scope.names.lookup x=some .local:=by first | exact .inl rfl | exact .inr rfl | assumption):PG X (.Name x pos) (DN i):=by
 intro pins s σ H v u Q I r h
 exact wpAny_assign_Name (jI I hN hi hx r (fun s' I'=>⟨_,H,I',h⟩) hf)
noncomputable def gNil:TGs:=fun vs σ H Q=>vs=[]∧Q σ H
noncomputable def gCons (t:TG) (u:TGs):TGs:=fun vs σ H Q=>∃ v r,vs=v::r∧t v σ H fun σ' H'=>u r σ' H' Q
theorem Bq:PGs X [] gNil:=by
 intro pins s σ H vs us Q I r h
 obtain ⟨e,h⟩:=h
 subst e
 cases r
 exact assignInOrder_nil ⟨σ,H,I,h⟩
theorem xE {e:Expr} {es:List Expr} {t:TG} {u:TGs} (h1:PG X e t) (h2:PGs X es u)
 (hs:(assignEach (e::es) X.env).map (·.2)=assign e X.env::(assignEach es X.env).map (·.2):=by rfl):PGs X (e::es) (gCons t u):=by
 intro pins s σ H vs us Q I r h
 obtain ⟨v,vr,e1,h⟩:=h
 subst e1
 cases r with
 | cons r rr =>
  rw [hs]
  refine assignInOrder_cons (thn (h1 pins s σ H _ _ _ I r h) fun _ s1 ⟨σ1,H1,I1,q1⟩=>?_)
  exact h2 pins s1 σ1 H1 _ _ Q I1 rr q1
noncomputable def gTup (K:GW) (n:Nat) (t:TGs):TG:=fun v σ H Q=>∃ a xs,v=.ref a∧SqT K H a xs∧xs.length=n∧t xs σ H Q
theorem Ez {es:List Expr} {k:Nat} {t:TGs} {n:Nat} (hc:X.calm=true) (h:PGs X es t)
 (hn:(assignEach es X.env).length=n:=by rfl) (hst:(assignEach es X.env).findIdx? (·.1)=none:=by rfl):PG X (.Tuple es k pos) (gTup X.K n t):=by
 intro pins s σ H v u Q I r hw
 obtain ⟨a,xs,e1,hq,hl,hw⟩:=hw
 subst e1
 cases r
 obtain ⟨its,rv,ht,hz⟩:=I.tuple hq
 refine assign_Tuple_tuple (I.ok.hd hc) ht (by simp [hn,← hl,rv.length]) hst fun h' hx=>?_
 have I1:Inv X pins σ H { s with heap:=h' }:=I.kept (t':=s.toks) fun b o e=>hx b o (Hs (G2 e)) e
 exact h pins _ σ H xs _ Q I1 (by simpa using rv) hw
noncomputable def gSub (to ti:TE) (t:Bp):TG:=fun v σ H Q=>to σ H fun o H1=>ti σ H1 fun i H2=>t o i v H2 fun H3=>Q σ H3
theorem EA {o i:Expr} {to ti:TE} {t:Bp} (ho:PE X o to) (hi:PE X i ti) (hs:PSet X t)
 (ha:∀ v,assign (.Subscript o i pos) X.env v=(do
   let ov ← holding [v] (eval o X.env)
   let iv ← holding [v,ov] (eval i X.env)
   standAt pos
   holding [v,ov,iv] (setItem ov iv v)
   release [v,ov,iv] []):=by intro _; rfl):PG X (.Subscript o i pos) (gSub to ti t):=by
 intro pins s σ H v u Q I r h
 rw [ha]
 refine GU (IF (thn (ho pins s σ H _ I h) fun ov s1 ⟨x,H1,I1,r1,q1⟩=>?_))
 refine GU (IF (thn (hi pins s1 σ H1 _ I1 q1) fun iv s2 ⟨y,H2,I2,r2,q2⟩=>?_))
 refine GU (wpAny_standAt (GU (IF (thn (hs pins s2 σ H2 x y v ov iv u _ I2 r1 r2 r q2) fun _ s3 ⟨H3,I3,q3⟩=>?_))))
 exact wpAny_release ⟨σ,H3,I3,q3⟩
noncomputable def tAsg (te:TE) (g:TG):TS:=fun D σ H=>te σ H fun x H1=>g x σ H1 D.nx
theorem EB {tg e:Expr} {te:TE} {g:TG} (he:PE X e te) (hg:PG X tg g) (hs:swapsWithSole [tg] e pos.line X.env=pure false:=by rfl) (hw:swappedStores [tg] e X.env=pure none:=by rfl)
 (h1:(assignEach [tg] X.env).map (·.2)=[assign tg X.env]:=by rfl):PS X (.Assign [tg] e pos) (tAsg te g):=by
 intro pins s σ H D I h
 refine wpAny_Assign_stores (thn (he pins s σ H _ I h) fun v s1 ⟨x,H1,I1,r1,q1⟩=>?_) hs hw
 rw [h1]
 exact thn (hg pins s1 σ H1 x v _ I1 r1 q1) fun _ s2 q=>q
theorem EC {i:Nat} {x:Str} {e:Expr} {te:TE} {pos':Pos} (hN:X.N.Nodup) (hi:X.N[i]?=some x) (hx:Loc X.env.scope x) (he:PE X e te) (hs:swapsWith e (some (.Name x pos')) pos.line X.env=pure false:=by rfl) (hf:X.fn x=true∨X.env.scope.names.lookup x=some .local:=by first | exact .inl rfl | exact .inr rfl | assumption) :
 PS X (.Assign [.Name x pos'] e pos) (tAsg te (DN i)):=by
 intro pins s σ H D I h
 refine wpAny_Assign_Name (thn (he pins s σ H _ I h) fun v s1 ⟨y,H1,I1,r1,q1⟩=>?_) hs
 exact jI I1 hN hi hx r1 (fun s2 I2=>⟨_,H1,I2,q1⟩) hf
noncomputable def tAug (i:Nat) (te:TE) (ti:TIp):TS:=fun D σ H=>∃ x,σ[i]?=some (some x)∧te σ H fun y H1=>ti x y H1 fun z H2=>D.nx (σ.set i (some z)) H2
theorem ED {i:Nat} {x:Str} {e:Expr} {te:TE} {op:Operator} {ti:TIp} {pos':Pos} (hN:X.N.Nodup) (hi:X.N[i]?=some x) (hx:Loc X.env.scope x) (he:PE X e te) (ho:PIp X op ti) (hf:X.fn x=true∨X.env.scope.names.lookup x=some .local:=by first | exact .inl rfl | exact .inr rfl | assumption) :
 PS X (.AugAssign (.Name x pos') op e pos) (tAug i te ti):=by
 intro pins s σ H D I h
 obtain ⟨v,e1,h⟩:=h
 obtain ⟨m,hn,hl⟩:=I.loc
 have vis:Vis X.env.scope x:=by rcases hx with k | k; exact .inl k; exact .inr (.inl k)
 obtain ⟨u,r,l⟩:=hl i x v hi e1 vis
 refine wpAny_AugAssign_Name ?_
 have go:wpAny (model X.prog X.w) X.A (eval e X.env) (fun w s₂=>wpAny (model X.prog X.w) X.A (inplaceOp op u w) (fun r s₃=>wpAny (model X.prog X.w) X.A (storeName X.env x r) (fun _=>SP X pins D .next) X.xe s₃) X.xe s₂) X.xe s:=by
  refine thn (he pins s σ H _ I h) fun w s1 ⟨y,H1,I1,r1,q1⟩=>?_
  refine thn (ho pins s1 σ H1 v y u w _ I1 r r1 q1) fun z s2 ⟨zv,H2,I2,r2,q2⟩=>?_
  exact jI I2 hN hi hx r2 (fun s3 I3=>⟨_,H2,I3,q2⟩) hf
 rcases l with ⟨hk,hm⟩ | ⟨hk,c,hc,hcell⟩
 ·exact wpAny_loadName_local I.ok.kind hk hn hm go
 ·rcases hk with hk | hk
  ·exact wpAny_loadName_cell I.ok.kind hk hc hcell go
  ·rcases hx with k | k
   ·have:X.env.scope.names.lookup x=some .free:=hk
    rw [k] at this; cases this
   ·have:X.env.scope.names.lookup x=some .free:=hk
    rw [k] at this; cases this
noncomputable def EE (c:TT) (tb:TS):TS:=fun D σ H=>∃ W:Nat→St→Hp→Prop,(∃ m,W m σ H)∧∀ m σ H,W m σ H →
 c σ H fun b H1=>if b=true then ∃ N:St→Hp→Prop,(∀ σ' H',N σ' H'→∃ m',m'<m∧W m' σ' H')∧tb { D with nx:=N,ct:=N,bk:=D.nx } σ H1 else D.nx σ H1
theorem xF {c:Expr} {body:List Stmt} {tc:TT} {tb:TS} (hp:PassesOwn (model X.prog X.w) X.A X.env X.xe) (hc:PT X c tc) (hb:PSs X body tb):PS X (.While c body [] pos) (EE tc tb):=by
 intro pins s σ H D I h
 obtain ⟨W,⟨m0,w0⟩,turn⟩:=h
 refine wpAny_While (codeAny_whileLoop (fun n s'=>∃ σ' H',Inv X pins σ' H' s'∧W n σ' H') ?_ m0 ⟨σ,H,I,w0⟩)
 rintro n s1 ⟨σ1,H1,I1,w1⟩
 refine JX hp (thn (hc pins s1 σ1 H1 _ I1 (turn n σ1 H1 w1)) fun b s2 ⟨H2,I2,q2⟩=>?_)
 cases b with
 | true =>
  obtain ⟨N,hN,q2⟩:=q2
  rw [if_pos rfl]
  refine JX hp (thn (hb pins s2 σ1 H2 _ I2 q2) fun f s3 q3=>?_)
  cases f with
  | next =>
   obtain ⟨σ3,H3,I3,n3⟩:=q3
   obtain ⟨m',hm,w3⟩:=hN σ3 H3 n3
   exact ⟨m',hm,σ3,H3,I3,w3⟩
  | cont =>
   obtain ⟨σ3,H3,I3,n3⟩:=q3
   obtain ⟨m',hm,w3⟩:=hN σ3 H3 n3
   exact ⟨m',hm,σ3,H3,I3,w3⟩
  | brk=>exact q3
  | ret v=>exact q3
 | false =>
  rw [if_neg G6]
  exact wpAny_execs_nil ⟨σ1,H2,I2,q2⟩
end
structure It where
 go:Nat→Hp→Prop
 yld:Nat→Hp→V→Hp→Prop
 stop:Nat→Hp→Prop
noncomputable def dm (X:Cx) (pins:List (Addr×Obj)) (H:Hp) (b:Addr):Prop :=
 H b=none∧b≠X.env.locals∧b∉X.fs∧(b∈X.ex∨X.s₀.heap.objs.size≤b)∧(∀ x c,X.env.cells.lookup x=some c→c≠b)∧∀ p∈X.pn++pins,p.1≠b
theorem Inv.jJ {X:Cx} {pins:List (Addr×Obj)} {σ:St} {H H':Hp} {s:Shared} {b:Addr} (I:Inv X pins σ H s) (hb:s.heap.objs.size≤b) (hn:H' b=none):dm X pins H' b:=by
 refine ⟨hn,JG (Ii I.lt hb),I.nofs hb,.inr (Hi I.sz hb),fun x c e z=>?_,fun p hp z=>?_⟩
 ·obtain ⟨v,q⟩:=I.cell x c e
  exact absurd (Ii q.lt (by rw [z]; exact hb)) (IS _)
 ·exact absurd (Ii (G2 (I.pin p hp).1) (by rw [z]; exact hb)) (IS _)
structure Turn (P:Program) (w:World) (K:GW) (tg:Expr) (J:It) (fp:List Addr) (it:Addr) (tn:Nat→Heap→Prop):Prop where
 mem:it∈fp
 obj:∀ i h,tn i h→∀ b∈fp,∃ o,h.get? b=some o∧∀ v,o.data≠.cell v
 keep:∀ i h h',tn i h→(∀ b∈fp,∀ o,h.get? b=some o→h'.get? b=some o)→tn i h'
 item:∀ (X:Cx),X.prog=P→X.w=w→X.K=K→X.calm=true→∀ (i:Nat) (pins:List (Addr×Obj)) (s:Shared) (σ:St) (H:Hp) (E:Value→Shared→Prop),Inv X pins σ H s→(∀ b∈fp,dm X pins H b)→tn i s.heap→J.go i H →
  wpAny (model P w) X.A (pyNext (.ref it)) (fun r s1=>∃ u,r=some u ∧
   wpAny (model P w) X.A (letOwnedTupleGo tg (.ref it) u) (fun _ s2=>∃ x H',Inv X pins σ H' s2∧RelV x u∧J.yld i H x H'∧tn (i+1) s2.heap∧∀ b∈fp,H' b=none) E s1) E s
 done:∀ (X:Cx),X.prog=P→X.w=w→X.K=K→X.calm=true→∀ (i:Nat) (pins:List (Addr×Obj)) (s:Shared) (σ:St) (H:Hp) (E:Value→Shared→Prop),Inv X pins σ H s→(∀ b∈fp,dm X pins H b)→tn i s.heap→J.stop i H →
  wpAny (model P w) X.A (pyNext (.ref it)) (fun r s1=>r=none∧Inv X pins σ H s1) E s
 self:∀ (A:Around) (i:Nat) (s:Shared) (Q:Value→Shared→Prop) (E:Value→Shared→Prop),tn i s.heap→Q (.ref it) s→wpAny (model P w) A (pyIter (.ref it)) Q E s
noncomputable abbrev TI:=St→Hp→(It→Hp→Prop)→Prop
noncomputable def PIE (X:Cx) (pins:List (Addr×Obj)) (σ:St) (tg:Expr) (R:It→Hp→Prop) (itv:Value) (s2:Shared):Prop :=
 ∃ (it:Addr) (fp:List Addr) (tn:Nat→Heap→Prop) (J:It) (H':Hp),itv=.ref it∧Inv X pins σ H' s2∧Turn X.prog X.w X.K tg J fp it tn∧tn 0 s2.heap∧(∀ b∈fp,dm X pins H' b)∧R J H'
noncomputable def PI (X:Cx) (tg iter:Expr) (wi:TI):Prop :=
 ∀ (pins:List (Addr×Obj)) (s:Shared) (σ:St) (H:Hp) (R:It→Hp→Prop),Inv X pins σ H s→wi σ H R →
  wpAny (model X.prog X.w) X.A (eval iter X.env) (fun v s1=>wpAny (model X.prog X.w) X.A (pyIter v) (PIE X pins σ tg R) X.xe s1) X.xe s
theorem oF {M:Model} {A:Around} {E:Value→Shared→Prop} {s:Shared} {tg:Expr} {it:Addr} {u:Value} {o:Obj} {n:String} {vs:Array Value} {Q:Unit→Shared→Prop} (ho:s.heap.get? it=some o) (hc:o.cls=.type n) (hd:o.data=.fields vs)
 (hn:["enumerate","zip","dict_itemiterator","dict_reverseitemiterator","odict_iterator","itertools.zip_longest","itertools.pairwise"].contains n=false) (hQ:Q () s):wpAny M A (letOwnedTupleGo tg (.ref it) u) Q E s:=by
 unfold letOwnedTupleGo
 cases tg <;> first
  | exact GX hQ
  | (cases u <;> first
      | exact GX hQ
      | (refine GU (wpAny_load ho ?_)
         rw [hc,hd]
         show wpAny M A (if (["enumerate","zip","dict_itemiterator","dict_reverseitemiterator","odict_iterator","itertools.zip_longest","itertools.pairwise"].contains n && vs[0]? == some (rawInt _))=true then _ else _) Q E s
         rw [if_neg (by intro h; rw [hn,Bool.false_and] at h; cases h)]
         exact GX hQ))
noncomputable def Itl (K:GW) (a:Addr):It :=
 ⟨fun i H=>∃ xs x,SqL K H a xs∧xs[i]?=some x,fun i H x H'=>H'=H∧∀ xs,SqL K H a xs→xs[i]?=some x,fun i H=>∃ xs,SqL K H a xs∧xs.length≤i⟩
noncomputable def Itt (K:GW) (a:Addr):It :=
 ⟨fun i H=>∃ xs x,SqT K H a xs∧xs[i]?=some x,fun i H x H'=>H'=H∧∀ xs,SqT K H a xs→xs[i]?=some x,fun i H=>∃ xs,SqT K H a xs∧xs.length≤i⟩
noncomputable def Itr (lo:Int) (n:Nat):It:=⟨fun i _=>i<n,fun i H x H'=>H'=H∧x=.int (lo+i),fun i _=>n≤i⟩
theorem vf {P:Program} {w:World} {K:GW} {tg:Expr} (a it:Addr):Turn P w K tg (Itl K a) [it] it (fun i h=>h.IsListIter it a i) where
 mem:=by simp
 obj:=fun i h st b hb=>by
  have e:b=it:=by simpa using hb
  subst e
  obtain ⟨o,e,c,d⟩:=st
  exact ⟨o,e,fun v z=>by rw [d] at z; cases z⟩
 keep:=fun i h h' st k=>st.at fun o e=>k it (by simp) o e
 item:=by
  intro X hP hw hK hc i pins s σ H E I hf st hg
  subst hP hw hK
  obtain ⟨xs,x,hq,hx⟩:=hg
  obtain ⟨its,rv,p,hz⟩:=I.list hq
  obtain ⟨u,hu,ru⟩:=rv.get hx
  obtain ⟨f0,f1,f2,f3,f4,f5⟩:=hf it (by simp)
  refine wpAny_pyNext_list_item st p.isList (x:=u) (by simpa using hu) fun h' st' sb=>?_
  have I1:Inv X pins σ H { s with heap:=h' }:=I.turned (t':=s.toks) (fun b o hb e=>(sb.2 b hb).trans e) f0 f1 f3 f4 f5
  obtain ⟨o,e,c,d⟩:=id st'
  exact ⟨u,rfl,oF (s:={ s with heap:=h' }) e c d (by decide) ⟨x,H,I1,ru,⟨rfl,fun ys hy=>by rw [I.gq hy hq]; exact hx⟩,st',fun b hb=>(hf b hb).1⟩⟩
 done:=by
  intro X hP hw hK hc i pins s σ H E I hf st hg
  subst hP hw hK
  obtain ⟨xs,hq,hx⟩:=hg
  obtain ⟨its,rv,p,hz⟩:=I.list hq
  obtain ⟨f0,f1,f2,f3,f4,f5⟩:=hf it (by simp)
  have hl:=rv.length
  exact wpAny_pyNext_list_end (I.ok.hd hc) st p.isList (by simp; omega) fun h' eb=>⟨rfl,I.turned (t':=s.toks) (fun b o hb e=>eb b o hb e) f0 f1 f3 f4 f5⟩
 self:=fun _ _ _ _ _ st h=>wpAny_pyIter_listiter st h
theorem qN {P:Program} {w:World} {K:GW} {tg:Expr} (a it:Addr):Turn P w K tg (Itt K a) [it] it (fun i h=>h.IsTupleIter it a i) where
 mem:=by simp
 obj:=fun i h st b hb=>by
  have e:b=it:=by simpa using hb
  subst e
  obtain ⟨o,e,c,d⟩:=st
  exact ⟨o,e,fun v z=>by rw [d] at z; cases z⟩
 keep:=fun i h h' st k=>st.at fun o e=>k it (by simp) o e
 item:=by
  intro X hP hw hK hc i pins s σ H E I hf st hg
  subst hP hw hK
  obtain ⟨xs,x,hq,hx⟩:=hg
  obtain ⟨its,rv,p,hz⟩:=I.tuple hq
  obtain ⟨u,hu,ru⟩:=rv.get hx
  obtain ⟨f0,f1,f2,f3,f4,f5⟩:=hf it (by simp)
  refine wpAny_pyNext_tuple_item st (show s.heap.IsTuple a its.toArray from p) (x:=u) (by simpa using hu) fun h' st' sb=>?_
  have I1:Inv X pins σ H { s with heap:=h' }:=I.turned (t':=s.toks) (fun b o hb e=>(sb.2 b hb).trans e) f0 f1 f3 f4 f5
  obtain ⟨o,e,c,d⟩:=id st'
  exact ⟨u,rfl,oF (s:={ s with heap:=h' }) e c d (by decide) ⟨x,H,I1,ru,⟨rfl,fun ys hy=>by rw [I.dD hy hq]; exact hx⟩,st',fun b hb=>(hf b hb).1⟩⟩
 done:=by
  intro X hP hw hK hc i pins s σ H E I hf st hg
  subst hP hw hK
  obtain ⟨xs,hq,hx⟩:=hg
  obtain ⟨its,rv,p,hz⟩:=I.tuple hq
  obtain ⟨f0,f1,f2,f3,f4,f5⟩:=hf it (by simp)
  have hl:=rv.length
  exact wpAny_pyNext_tuple_end (I.ok.hd hc) st (show s.heap.IsTuple a its.toArray from p) (by simp; omega) fun h' eb=>⟨rfl,I.turned (t':=s.toks) (fun b o hb e=>eb b o hb e) f0 f1 f3 f4 f5⟩
 self:=fun _ _ _ _ _ st h=>wpAny_pyIter_tupleiter st h
theorem qO {P:Program} {w:World} {K:GW} {tg:Expr} (it:Addr) (lo:Int) (n:Nat):Turn P w K tg (Itr lo n) [it] it (fun i h=>IsRangeIter h it (lo+(i:Nat) * 1) ((n:Int) - (i:Nat)) 1) where
 mem:=by simp
 obj:=fun i h st b hb=>by
  have e:b=it:=by simpa using hb
  subst e
  exact ⟨_,st,fun v z=>by
   have z':KA _=Jp v:=z
   cases z'⟩
 keep:=fun i h h' st k=>k it (by simp) _ st
 item:=by
  intro X hP hw hK hc i pins s σ H E I hf st hg
  subst hP hw hK
  obtain ⟨f0,f1,f2,f3,f4,f5⟩:=hf it (by simp)
  have W:=Walks.range (prog:=X.prog) (w:=X.w) (I.ok.hd hc) it lo 1 n
  refine W.item i s _ _ hg st fun v h' tk hv st' kk=>?_
  obtain ⟨t,rfl⟩:=hv
  have I1:Inv X pins σ H { s with heap:=h',toks:=tk }:=I.turned (fun b o hb e=>kk b o (by simpa using hb) e) f0 f1 f3 f4 f5
  refine ⟨_,rfl,oF (s:={ s with heap:=h',toks:=tk }) (n:="range_iterator") st' rfl rfl (by decide) ⟨.int (lo+i),H,I1,⟨t,?_⟩,⟨rfl,rfl⟩,st',fun b hb=>(hf b hb).1⟩⟩
  rw [Int.mul_one]
 done:=by
  intro X hP hw hK hc i pins s σ H E I hf st hg
  subst hP hw hK
  obtain ⟨f0,f1,f2,f3,f4,f5⟩:=hf it (by simp)
  exact wpAny_pyNext_range_end (I.ok.hd hc) st (by have:n≤i:=hg; omega) fun h' eb=>⟨rfl,I.turned (t':=s.toks) (fun b o hb e=>eb b o hb e) f0 f1 f3 f4 f5⟩
 self:=fun _ _ _ _ _ st h=>wpAny_pyIter_rangeiter st h
section
variable {X:Cx} {tg:Expr}
theorem xG {pins:List (Addr×Obj)} {σ:St} {H:Hp} {s:Shared} {R:It→Hp→Prop} {E:Value→Shared→Prop} {lo hi:Int} {t u v:Tok} {tk:Nat} (I:Inv X pins σ H s) (h1: -(2 ^ 62)≤lo) (h2:lo<2 ^ 62) (h3: -(2 ^ 62)≤hi) (h4:hi<2 ^ 62)
 (q:R (Itr lo (hi - lo).toNat) H):wpAny (model X.prog X.w) X.A (pyIter (.ref s.heap.objs.size)) (PIE X pins σ tg R) E { s with heap:=s.heap.push { cls:=.type "range",data:=.fields #[.int lo t,.int hi u,.int 1 v] },toks:=tk }:=by
 refine wpAny_pyIter_range (IsRange.new ..) (small_one h1 h2 h3 h4) ?_
 have I1:Inv X pins σ H { s with heap:=s.heap.push { cls:=.type "range",data:=.fields #[.int lo t,.int hi u,.int 1 v] },toks:=tk }:=I.kept fun b o e=>G1 _ e
 refine ⟨(s.heap.push { cls:=.type "range",data:=.fields #[.int lo t,.int hi u,.int 1 v] }).objs.size,[(s.heap.push { cls:=.type "range",data:=.fields #[.int lo t,.int hi u,.int 1 v] }).objs.size],_,_,H,rfl,
  I1.kept (t':=tk) fun b o e=>G1 _ e,qO _ lo (hi - lo).toNat,?_,fun b hb=>?_,q⟩
 ·have e1:lo+((0:Nat):Int) * 1=lo:=by simp
  have e2:(((hi - lo).toNat:Nat):Int) - ((0:Nat):Int)=Lj lo hi 1:=by rw [rangeSize_one]; split <;> omega
  show IsRangeIter _ _ (lo+((0:Nat):Int) * 1) ((((hi - lo).toNat:Nat):Int) - ((0:Nat):Int)) 1
  rw [e1,e2]
  exact G7 _ rfl
 ·have e:b=(s.heap.push { cls:=.type "range",data:=.fields #[.int lo t,.int hi u,.int 1 v] }).objs.size:=by simpa using hb
  subst e
  exact I1.jJ (GZ _) (I1.hok.fresh (GZ _))
noncomputable def iRng1 (ta:TA):TI:=fun σ H R=>ta σ H fun vs H1=>∃ j:Int,vs=[.int j]∧ -(2 ^ 62)≤j∧j<2 ^ 62∧R (Itr 0 j.toNat) H1
theorem vg {a:Expr} {ta:TA} {p pos:Pos} (hg:Gl X "range") (hm:X.mg "range"=none) (ha:PA X [a] ta) (hs:starEach [a] X.env=[(false,eval a X.env)]:=by rfl):PI X tg (.Call (.Name "range" p) [a] [] pos) (iRng1 ta):=by
 intro pins s σ H R I h
 refine Call_ (bX I hg hm boot_range (JP (thn (ha pos pins s σ H _ I h) fun us s1 ⟨vs,H1,I1,r1,q1⟩=>?_) hs rfl))
 obtain ⟨j,e,q1,q2,q⟩:=q1
 subst e
 cases r1 with
 | cons r rr =>
  cases rr
  obtain ⟨t,rfl⟩:=r
  exact call_range_1 (xG I1 (by omega) (by omega) q1 q2 (by simpa using q))
noncomputable def tFor (wi:TI) (g:TG) (tb:TS):TS:=fun D σ H=>wi σ H fun J H1=>∃ W:Nat→Nat→St→Hp→Prop,(∃ m,W 0 m σ H1)∧∀ i m σ H,W i m σ H →
 (J.stop i H∧D.nx σ H)∨(J.go i H∧∃ N:St→Hp→Prop,(∀ σ' H',N σ' H'→∃ m',m'<m∧W (i+1) m' σ' H')∧∀ x H',J.yld i H x H'→g x σ H' fun σ2 H2=>tb { D with nx:=N,ct:=N,bk:=D.nx } σ2 H2)
noncomputable def iz (fp:List Addr) (h:Heap):List (Addr×Obj):=fp.filterMap fun b=>(h.get? b).map fun o=>(b,o)
theorem cQ {fp:List Addr} {h:Heap} {b:Addr} {o:Obj} (hb:b∈fp) (e:h.get? b=some o):(b,o)∈iz fp h:=List.mem_filterMap.mpr ⟨b,hb,by rw [e]; rfl⟩
theorem vh {fp:List Addr} {h:Heap} {p:Addr×Obj} (hp:p∈iz fp h):p.1∈fp∧h.get? p.1=some p.2:=by
 obtain ⟨b,hb,e⟩:=List.mem_filterMap.mp hp
 cases q:h.get? b with
 | none=>rw [q] at e; cases e
 | some o =>
  rw [q] at e
  have e':(b,o)=p:=IW e
  subst e'
  exact ⟨hb,q⟩
theorem Inv.pinned {pins:List (Addr×Obj)} {σ:St} {H:Hp} {s:Shared} {fp:List Addr} (I:Inv X pins σ H s) (hf:∀ b∈fp,dm X pins H b) (ho:∀ b∈fp,∃ o,s.heap.get? b=some o∧∀ v,o.data≠.cell v):Inv X (pins++iz fp s.heap) σ H s :=
 I.sQ fun p hp=>(Hy.mp hp).elim (fun z=>I.pin p (Il _ z)) fun z=>by
  obtain ⟨hb,e⟩:=vh z
  obtain ⟨f0,f1,f2,_⟩:=hf p.1 hb
  obtain ⟨o,e',d⟩:=ho p.1 hb
  rw [e] at e'; cases e'
  exact ⟨e,f0,f1,f2,d⟩
theorem Inv.dF {pins pl:List (Addr×Obj)} {σ:St} {H:Hp} {s:Shared} (I:Inv X (pins++pl) σ H s):Inv X pins σ H s:=I.sQ fun p hp=>I.pin p (Il _ (Jx _ hp))
theorem EF {iter:Expr} {body:List Stmt} {wi:TI} {g:TG} {tb:TS} {pos:Pos} (hp:PassesOwn (model X.prog X.w) X.A X.env X.xe) (hc:X.calm=true) (hi:PI X tg iter wi) (hg:PG X tg g) (hb:PSs X body tb)
 (hs:∀ x,foldedSetIterable iter X.env x=pure x:=by intro _; rfl):PS X (.For tg iter body [] pos) (tFor wi g tb):=by
 intro pins s σ H D I h
 refine wpAny_For (thn (hi pins s σ H _ I h) fun v s1 h1=>thn h1 fun itv s2 h2=>?_) hs
 obtain ⟨it,fp,tn,J,H2,e,I2,T,st2,f2,W,⟨m0,w0⟩,turn⟩:=h2
 subst e
 have stat:∀ {H':Hp},(∀ b∈fp,H' b=none)→∀ b∈fp,dm X pins H' b:=fun hn b hb=>⟨hn b hb,(f2 b hb).2⟩
 refine codeAny_forLoop_any (fun n s'=>∃ i σ' H',Inv X pins σ' H' s'∧tn i s'.heap∧(∀ b∈fp,H' b=none)∧W i n σ' H') ?_ m0 ⟨0,σ,H2,I2,st2,fun b hb=>(f2 b hb).1,w0⟩
 rintro n s3 ⟨i,σ3,H3,I3,st3,fr3,w3⟩
 rcases turn i n σ3 H3 w3 with ⟨stop,qn⟩ | ⟨go,N,hN,step⟩
 ·refine JX hp (thn (T.done X rfl rfl rfl hc i pins s3 σ3 H3 X.xe I3 (stat fr3) st3 stop) fun r s4 ⟨hr,I4⟩=>?_)
  subst hr
  exact wpAny_execs_nil ⟨σ3,H3,I4,qn⟩
 ·refine JX hp (thn (T.item X rfl rfl rfl hc i pins s3 σ3 H3 X.xe I3 (stat fr3) st3 go) fun r s4 ⟨u,hr,h4⟩=>?_)
  subst hr
  refine JX hp (thn h4 fun _ s5 ⟨x,H5,I5,r5,y5,st5,fr5⟩=>?_)
  have I5':=I5.pinned (stat fr5) (T.obj _ _ st5)
  refine JX hp (thn (hg _ s5 σ3 H5 x u _ I5' r5 (step x H5 y5)) fun _ s6 ⟨σ6,H6,I6,q6⟩=>?_)
  refine JX hp (thn (hb _ s6 σ6 H6 _ I6 q6) fun f s7 q7=>?_)
  have again:∀ {σ7:St} {H7:Hp},Inv X (pins++iz fp s5.heap) σ7 H7 s7→N σ7 H7→∃ m,m<n∧∃ i σ' H',Inv X pins σ' H' s7∧tn i s7.heap∧(∀ b∈fp,H' b=none)∧W i m σ' H':=fun {σ7 H7} I7 n7=>by
   obtain ⟨m',hm,w7⟩:=hN σ7 H7 n7
   refine ⟨m',hm,i+1,σ7,H7,I7.dF,T.keep _ _ _ st5 fun b hb o e=>(I7.pin (b,o) (Il _ (Il _ (cQ hb e)))).1,fun b hb=>?_,w7⟩
   obtain ⟨o,e,d⟩:=T.obj _ _ st5 b hb
   exact (I7.pin (b,o) (Il _ (Il _ (cQ hb e)))).2.1
  cases f with
  | next=>obtain ⟨σ7,H7,I7,n7⟩:=q7; exact again I7 n7
  | cont=>obtain ⟨σ7,H7,I7,n7⟩:=q7; exact again I7 n7
  | brk=>obtain ⟨σ7,H7,I7,q7⟩:=q7; exact ⟨σ7,H7,I7.dF,q7⟩
  | ret v=>obtain ⟨x7,σ7,H7,I7,r7,q7⟩:=q7; exact ⟨x7,σ7,H7,I7.dF,r7,q7⟩
end
noncomputable abbrev R2:=V→V→Hp→VK→Prop
noncomputable def OpR (X:Cx) (f:Value→Value→Sem Value) (r:R2):Prop :=
 ∀ (pins:List (Addr×Obj)) (s:Shared) (σ:St) (H:Hp) (x y:V) (v u:Value) (Q:VK),Inv X pins σ H s→RelV x v→RelV y u→r x y H Q →
  wpAny (model X.prog X.w) X.A (f v u) (EP X pins σ Q) X.xe s
noncomputable def UnR (X:Cx) (f:Value→Sem Value) (r:V→Hp→VK→Prop):Prop :=
 ∀ (pins:List (Addr×Obj)) (s:Shared) (σ:St) (H:Hp) (x:V) (v:Value) (Q:VK),Inv X pins σ H s→RelV x v→r x H Q →
  wpAny (model X.prog X.w) X.A (f v) (EP X pins σ Q) X.xe s
noncomputable def eE (X:Cx) (f:Value) (r:List V→Hp→VK→Prop):Prop :=
 ∀ (pins:List (Addr×Obj)) (s:Shared) (σ:St) (H:Hp) (xs:List V) (us:List Value) (Q:VK),Inv X pins σ H s→Vals xs us→r xs H Q →
  wpAny (model X.prog X.w) X.A (call f us) (EP X pins σ Q) X.xe s
noncomputable def tOp (r:R2) (ta tb:TE):TE:=fun σ H Q=>ta σ H fun x H1=>tb σ H1 fun y H2=>r x y H2 Q
noncomputable def tUn (r:V→Hp→VK→Prop) (ta:TE):TE:=fun σ H Q=>ta σ H fun x H1=>r x H1 Q
noncomputable def rI (C:Int→Int→Prop) (g:Int→Int→V):R2:=fun x y H Q=>∃ i j,x=.int i∧y=.int j∧C i j∧Q (g i j) H
noncomputable def rI0 (g:Int→Int→V):R2:=fun x y H Q=>∃ i j,x=.int i∧y=.int j∧Q (g i j) H
noncomputable def rU (g:Int→V):V→Hp→VK→Prop:=fun x H Q=>∃ i,x=.int i∧Q (g i) H
section
variable {X:Cx} {a b c:Expr} {ta tb tc:TE} {pos:Pos}
theorem binT (ha:PE X a ta) (hb:PE X b tb) {pins:List (Addr×Obj)} {s:Shared} {σ:St} {H:Hp} {R:V→V→Hp→Prop} (I:Inv X pins σ H s)
 (h:ta σ H fun x H1=>tb σ H1 fun y H2=>R x y H2) {Q:Value→Shared→Prop} {f:Value→Value→Sem Value}
 (hf:∀ v u s2 x y H2,Inv X pins σ H2 s2→RelV x v→RelV y u→R x y H2→wpAny (model X.prog X.w) X.A (f v u) Q X.xe s2) :
 wpAny (model X.prog X.w) X.A (eval a X.env) (fun v s₁=>wpAny (model X.prog X.w) X.A (eval b X.env) (fun u s₂=>wpAny (model X.prog X.w) X.A (f v u) Q X.xe s₂) X.xe s₁) X.xe s:=by
 refine thn (ha pins s σ H _ I h) fun v s1 ⟨x,H1,I1,r1,q1⟩=>?_
 refine thn (hb pins s1 σ H1 _ I1 q1) fun u s2 ⟨y,H2,I2,r2,q2⟩=>?_
 exact hf v u s2 x y H2 I2 r1 r2 q2
theorem xH {op:Operator} {r:R2} (ho:OpR X (binaryOp op) r) (ha:PE X a ta) (hb:PE X b tb):PE X (.BinOp a op b pos) (tOp r ta tb):=by
 intro pins s σ H Q I h
 exact wpAny_BinOp (binT ha hb I h fun v u s2 x y H2 I2 rx ry q=>ho pins s2 σ H2 x y v u Q I2 rx ry q)
theorem pe_un {op:UnaryOp} {r:V→Hp→VK→Prop} (ho:UnR X (unaryOp op) r) (ha:PE X a ta):PE X (.UnaryOp op a pos) (tUn r ta):=by
 intro pins s σ H Q I h
 exact UnaryOp_ (thn (ha pins s σ H _ I h) fun v s1 ⟨x,H1,I1,r1,q1⟩=>ho pins s1 σ H1 x v Q I1 r1 q1)
theorem opI {f:Value→Value→Sem Value} {C:Int→Int→Prop} {g:Int→Int→Int}
 (rule:∀ (i j:Int) (t u:Tok) (s:Shared) (Q:Value→Shared→Prop) (E:Value→Shared→Prop),C i j→Q (.int (g i j) s.toks) { s with toks:=s.toks+1 }→wpAny (model X.prog X.w) X.A (f (.int i t) (.int j u)) Q E s) :
 OpR X f (rI C fun i j=>.int (g i j)):=by
 intro pins s σ H x y v u Q I rx ry h
 obtain ⟨i,j,rfl,rfl,hc,q⟩:=h
 obtain ⟨t,rfl⟩:=rx
 obtain ⟨t',rfl⟩:=ry
 exact rule i j t t' s _ _ hc ⟨.int (g i j),H,I.tok _,⟨_,rfl⟩,q⟩
theorem xJ {f:Value→Value→Sem Value} {g:Int→Int→Int}
 (rule:∀ (i j:Int) (t u:Tok) (s:Shared) (Q:Value→Shared→Prop) (E:Value→Shared→Prop),Q (.int (g i j) s.toks) { s with toks:=s.toks+1 }→wpAny (model X.prog X.w) X.A (f (.int i t) (.int j u)) Q E s) :
 OpR X f (rI0 fun i j=>.int (g i j)):=by
 intro pins s σ H x y v u Q I rx ry h
 obtain ⟨i,j,rfl,rfl,q⟩:=h
 obtain ⟨t,rfl⟩:=rx
 obtain ⟨t',rfl⟩:=ry
 exact rule i j t t' s _ _ ⟨.int (g i j),H,I.tok _,⟨_,rfl⟩,q⟩
theorem opB0 {f:Value→Value→Sem Value} {g:Int→Int→Bool}
 (rule:∀ (i j:Int) (t u:Tok) (s:Shared) (Q:Value→Shared→Prop) (E:Value→Shared→Prop),Q (.bool (g i j)) s→wpAny (model X.prog X.w) X.A (f (.int i t) (.int j u)) Q E s) :
 OpR X f (rI0 fun i j=>.bl (g i j)):=by
 intro pins s σ H x y v u Q I rx ry h
 obtain ⟨i,j,rfl,rfl,q⟩:=h
 obtain ⟨t,rfl⟩:=rx
 obtain ⟨t',rfl⟩:=ry
 exact rule i j t t' s _ _ ⟨.bl (g i j),H,I,rfl,q⟩
noncomputable def xK (i j:Int):Prop:=0≤j∧j≤1000000∧i.natAbs<2 ^ 64
theorem qP (k:Nat):(0:Int)≤2 ^ k:=by
 rw [two_pow_cast]
 exact Int.natCast_nonneg _
theorem EG:OpR X (binaryOp .Add) (rI0 fun i j=>.int (i+j)):=xJ fun _ _ _ _ _ _ _ q=>add_int q
theorem EH:OpR X (binaryOp .Sub) (rI0 fun i j=>.int (i - j)):=xJ fun _ _ _ _ _ _ _ q=>sub_int q
theorem EI:OpR X (binaryOp .Mod) (rI (fun _ j=>0<j) fun i j=>.int (i % j)):=opI fun i j _ _ _ _ _ hc q=>by
 have h1:(0:Int)<j:=hc
 exact mod_int' (by omega) (by rw [Int.fmod_eq_emod_of_nonneg i (by omega)]; exact q)
theorem EJ:OpR X (binaryOp .Pow) (rI xK fun i j=>.int (i ^ j.toNat)):=opI fun _ _ _ _ _ _ _ hc q=>pow_int_small hc.1 hc.2.1 hc.2.2 q
theorem EK:OpR X (binaryOp .LShift) (rI xK fun i j=>.int (i * 2 ^ j.toNat)):=opI fun _ _ _ _ _ _ _ hc q=>lshift_int_small hc.1 hc.2.1 hc.2.2 q
theorem EL:OpR X (binaryOp .RShift) (rI (fun _ j=>0≤j) fun i j=>.int (i / 2 ^ j.toNat)):=opI fun i j _ _ _ _ _ hc q =>
 rshift_int hc (by rw [Int.fdiv_eq_ediv_of_nonneg i (qP _)]; exact q)
theorem EM:OpR X (binaryOp .BitAnd) (rI0 fun i j=>.int (Builtin.bitAnd i j)):=xJ fun _ _ _ _ _ _ _ q=>and_int q
theorem Br:OpR X (inplaceOp .Add) (rI0 fun i j=>.int (i+j)):=xJ fun _ _ _ _ _ _ _ q=>iadd_int q
theorem Bt:OpR X (inplaceOp .Sub) (rI0 fun i j=>.int (i - j)):=xJ fun _ _ _ _ _ _ _ q=>isub_int q
theorem unI {f:Value→Sem Value} {g:Int→Int}
 (rule:∀ (i:Int) (t:Tok) (s:Shared) (Q:Value→Shared→Prop) (E:Value→Shared→Prop),Q (.int (g i) s.toks) { s with toks:=s.toks+1 }→wpAny (model X.prog X.w) X.A (f (.int i t)) Q E s) :
 UnR X f (rU fun i=>.int (g i)):=by
 intro pins s σ H x v Q I rx h
 obtain ⟨i,rfl,q⟩:=h
 obtain ⟨t,rfl⟩:=rx
 exact rule i t s _ _ ⟨.int (g i),H,I.tok _,⟨_,rfl⟩,q⟩
theorem EN:UnR X (unaryOp .USub) (rU fun i=>.int (-i)):=unI fun _ _ _ _ _ q=>neg_int q
end
noncomputable def Bu:V→V→Bool
 | .non,.non=>true | .non,.int _=>true | .int _,.non=>true | .non,.bl _=>true | .bl _,.non=>true | .non,.str _=>true | .str _,.non=>true
 | .int _,.int _=>true | .bl _,.bl _=>true | .str _,.str _=>true | .byt _,.byt _=>true
 | .int _,.str _=>true | .str _,.int _=>true | .bl _,.str _=>true | .str _,.bl _=>true
 | _,_=>false
noncomputable def rEq:R2:=fun x y H Q=>Bu x y=true∧Q (.bl (decide (x=y))) H
noncomputable def rNe:R2:=fun x y H Q=>Bu x y=true∧Q (.bl (!decide (x=y))) H
theorem sS {i j:Int}:decide (V.int i=V.int j)=(i == j):=by
 rw [KW]
 simp
theorem xM {i j:Bool}:decide (V.bl i=V.bl j)=(i == j):=by
 rw [KW]
 simp
theorem sU {i j:Str}:decide (V.str i=V.str j)=(i == j):=by
 rw [KW]
 simp
theorem sV {i j:Array UInt8}:decide (V.byt i=V.byt j)=(i.toList == j.toList):=by
 rw [KW]
 cases i
 cases j
 simp
section
variable {X:Cx} {a b c:Expr} {ta tb tc:TE} {pos:Pos}
theorem aO {pins:List (Addr×Obj)} {σ:St} {H:Hp} {s:Shared} {Q:VK} {k k':Bool} (I:Inv X pins σ H s) (q:Q (.bl k) H) (e:k=k'):EP X pins σ Q (.bool k') s:=by
 subst e
 exact ⟨.bl k,H,I,rfl,q⟩
theorem op_eq:OpR X (compareOp .Eq) rEq:=by
 intro pins s σ H x y v u Q I rx ry h
 obtain ⟨hs,q⟩:=h
 cases x with
 | non =>
  cases rx
  cases y with
  | non=>cases ry; exact PySem.EqNone.eq_none_none (aO I q (by simp))
  | bl j=>cases ry; exact PySem.EqNone.eq_none_bool (aO I q (by simp))
  | int j=>obtain ⟨t',rfl⟩:=ry; exact PySem.EqNone.eq_none_int (aO I q (by simp))
  | str j=>obtain ⟨t',rfl⟩:=ry; exact PySem.EqNone.eq_none_str (aO I q (by simp))
  | _=>exact absurd (show false=true from hs) G6
 | bl i =>
  cases rx
  cases y with
  | non=>cases ry; exact PySem.EqNone.eq_bool_none (aO I q (by simp))
  | bl j=>cases ry; exact eq_bool (aO I q xM)
  | str j=>obtain ⟨t',rfl⟩:=ry; exact PySem.EqMixed.eq_bool_str (aO I q (by simp))
  | _=>exact absurd (show false=true from hs) G6
 | int i =>
  obtain ⟨t,rfl⟩:=rx
  cases y with
  | non=>cases ry; exact PySem.EqNone.eq_int_none (aO I q (by simp))
  | int j=>obtain ⟨t',rfl⟩:=ry; exact eq_int (aO I q sS)
  | str j=>obtain ⟨t',rfl⟩:=ry; exact PySem.EqMixed.eq_int_str (aO I q (by simp))
  | _=>exact absurd (show false=true from hs) G6
 | str i =>
  obtain ⟨t,rfl⟩:=rx
  cases y with
  | non=>cases ry; exact PySem.EqNone.eq_str_none (aO I q (by simp))
  | bl j=>cases ry; exact PySem.EqMixed.eq_str_bool (aO I q (by simp))
  | int j=>obtain ⟨t',rfl⟩:=ry; exact PySem.EqMixed.eq_str_int (aO I q (by simp))
  | str j=>obtain ⟨t',rfl⟩:=ry; exact eq_str (aO I q sU)
  | _=>exact absurd (show false=true from hs) G6
 | byt i =>
  obtain ⟨t,rfl⟩:=rx
  cases y with
  | byt j=>obtain ⟨t',rfl⟩:=ry; exact PySem.W.eq_bytes (aO I q sV)
  | _=>exact absurd (show false=true from hs) G6
 | _=>cases y <;> exact absurd (show false=true from hs) G6
theorem op_ne:OpR X (compareOp .NotEq) rNe:=by
 intro pins s σ H x y v u Q I rx ry h
 obtain ⟨hs,q⟩:=h
 cases x with
 | non =>
  cases rx
  cases y with
  | non=>cases ry; exact PySem.EqNone.ne_none_none (aO I q (by simp))
  | bl j=>cases ry; exact PySem.EqNone.ne_none_bool (aO I q (by simp))
  | int j=>obtain ⟨t',rfl⟩:=ry; exact PySem.EqNone.ne_none_int (aO I q (by simp))
  | str j=>obtain ⟨t',rfl⟩:=ry; exact PySem.EqNone.ne_none_str (aO I q (by simp))
  | _=>exact absurd (show false=true from hs) G6
 | bl i =>
  cases rx
  cases y with
  | non=>cases ry; exact PySem.EqNone.ne_bool_none (aO I q (by simp))
  | bl j=>cases ry; exact ne_bool (aO I q (congrArg not xM))
  | str j=>obtain ⟨t',rfl⟩:=ry; exact PySem.EqMixed.ne_bool_str (aO I q (by simp))
  | _=>exact absurd (show false=true from hs) G6
 | int i =>
  obtain ⟨t,rfl⟩:=rx
  cases y with
  | non=>cases ry; exact PySem.EqNone.ne_int_none (aO I q (by simp))
  | int j=>obtain ⟨t',rfl⟩:=ry; exact ne_int (aO I q (congrArg not sS))
  | str j=>obtain ⟨t',rfl⟩:=ry; exact PySem.EqMixed.ne_int_str (aO I q (by simp))
  | _=>exact absurd (show false=true from hs) G6
 | str i =>
  obtain ⟨t,rfl⟩:=rx
  cases y with
  | non=>cases ry; exact PySem.EqNone.ne_str_none (aO I q (by simp))
  | bl j=>cases ry; exact PySem.EqMixed.ne_str_bool (aO I q (by simp))
  | int j=>obtain ⟨t',rfl⟩:=ry; exact PySem.EqMixed.ne_str_int (aO I q (by simp))
  | str j=>obtain ⟨t',rfl⟩:=ry; exact ne_str (aO I q (congrArg not sU))
  | _=>exact absurd (show false=true from hs) G6
 | byt i =>
  obtain ⟨t,rfl⟩:=rx
  cases y with
  | byt j=>obtain ⟨t',rfl⟩:=ry; exact PySem.W.ne_bytes (aO I q (congrArg not sV))
  | _=>exact absurd (show false=true from hs) G6
 | _=>cases y <;> exact absurd (show false=true from hs) G6
theorem op_lt:OpR X (compareOp .Lt) (rI0 fun i j=>.bl (decide (i<j))):=opB0 fun _ _ _ _ _ _ _ q=>lt_int q
theorem op_gt:OpR X (compareOp .Gt) (rI0 fun i j=>.bl (decide (j<i))):=opB0 fun _ _ _ _ _ _ _ q=>gt_int q
theorem OpR.or {f:Value→Value→Sem Value} {r r':R2} (h:OpR X f r) (h':OpR X f r'):OpR X f (fun x y H Q=>r x y H Q∨r' x y H Q):=by
 intro pins s σ H x y v u Q I rx ry q
 rcases q with q | q
 ·exact h pins s σ H x y v u Q I rx ry q
 ·exact h' pins s σ H x y v u Q I rx ry q
theorem jK (b:Expr) {op:CmpOp} (h:op≠.In:=by decide) (h2:op≠.NotIn:=by decide):behindInMarks op b=false:=by
 have e1:(op == CmpOp.In)=false:=by cases op <;> first | rfl | exact absurd rfl h
 have e2:(op == CmpOp.NotIn)=false:=by cases op <;> first | rfl | exact absurd rfl h2
 cases b <;> simp [behindInMarks,e1,e2]
theorem Bv {op:CmpOp} {r:R2} (ho:OpR X (compareOp op) r) (ha:PE X a ta) (hb:PE X b tb) (hm:behindInMarks op b=false):PE X (.Compare a [op] [b] pos) (tOp r ta tb):=by
 intro pins s σ H Q I h
 exact wpAny_Compare1 (binT ha hb I h fun v u s2 x y H2 I2 rx ry q=>ho pins s2 σ H2 x y v u Q I2 rx ry q) hm
noncomputable def tTest (t:TE):TT:=fun σ H Q=>t σ H fun x H'=>∃ k,x=.bl k∧Q k H'
theorem Bw {op:CmpOp} {r:R2} (ho:OpR X (compareOp op) r) (ha:PE X a ta) (hb:PE X b tb) (hm:behindInMarks op b=false):PT X (.Compare a [op] [b] pos) (tTest (tOp r ta tb)):=by
 intro pins s σ H Q I h
 refine wpAny_isTrue_Compare1 (thn (ha pins s σ H _ I h) fun v s1 ⟨x,H1,I1,r1,q1⟩=>thn (hb pins s1 σ H1 _ I1 q1) fun u s2 ⟨y,H2,I2,r2,q2⟩ =>
  thn (ho pins s2 σ H2 x y v u _ I2 r1 r2 q2) fun c s3 ⟨z,H3,I3,r3,k,e,q3⟩=>?_) hm
 subst e
 cases r3
 exact Kr ⟨H3,I3,q3⟩
theorem mU:(sizeLine:Nat)<2 ^ 63:=by rw [sizeLine_eq]; decide
theorem qQ:OpR X (binaryOp .Add) (fun x y H Q=>∃ i j,x=.str i∧y=.str j∧i.length+j.length≤sizeLine∧Q (.str (i++j)) H):=by
 intro pins s σ H x y v u Q I rx ry h
 obtain ⟨i,j,rfl,rfl,hz,q⟩:=h
 obtain ⟨t,rfl⟩:=rx
 obtain ⟨t',rfl⟩:=ry
 exact add_str (fun t' tk=>⟨.str (i++j),H,I.tok _,⟨_,rfl⟩,q⟩) hz
theorem vals1 {x:V} {us:List Value} (r:Vals [x] us):∃ u,us=[u]∧RelV x u:=by
 cases r with
 | cons r1 r2=>cases r2; exact ⟨_,rfl,r1⟩
theorem vals2 {x y:V} {us:List Value} (r:Vals [x,y] us):∃ u w',us=[u,w']∧RelV x u∧RelV y w':=by
 cases r with
 | cons r1 r2 =>
  cases r2 with
  | cons r3 r4=>cases r4; exact ⟨_,_,rfl,r1,r3⟩
theorem vm (hc:X.calm=true):eE X (.builtin "max") (fun xs H Q=>∃ i j,xs=[.int i,.int j]∧Q (.int (if j>i then j else i)) H):=by
 intro pins s σ H xs us Q I r h
 obtain ⟨i,j,rfl,q⟩:=h
 obtain ⟨u,w',rfl,⟨t,rfl⟩,⟨t',rfl⟩⟩:=vals2 r
 refine max_two_ints (I.ok.hd hc) fun h' tk k=>⟨_,H,I.kept k,?_,q⟩
 by_cases hj:j>i
 ·rw [if_pos hj,if_pos hj]; exact ⟨_,rfl⟩
 ·rw [if_neg hj,if_neg hj]; exact ⟨_,rfl⟩
end
structure ObjM (h:Heap) (x dx C:Addr) (mA:Str→Option Value):Prop where
 obj:h.get? x=some (PySem.W.instObj C dx)
 ns:h.Ns1 dx mA
 ne:dx≠x
section
variable {prog:Program} {w:World} {A:Around} {E:Value→Shared→Prop} {s:Shared} {K:GW} {x dx C f:Addr} {mA:Str→Option Value} {name:Str} {v:Value}
end
theorem jc.some_of {v:V} {o:Option Value} (r:jc (some v) o):∃ u,o=some u∧RelV v u:=by
 cases o with
 | none=>exact (show False from r).elim
 | some u=>exact ⟨u,rfl,r⟩
section
variable {P:Program} {w:World} {H H':Hp} {h h':Heap} {a C dx:Addr} {fs fs':List (Str×V)}
end
structure Cls (K:GW) (C:Addr):Prop where
 pg:PySem.W.plainGet K C Str.empty=true
 hd:PySem.W.hasDictIn K C=true
 po:PySem.W.plainOver K C=true
 sa:JB K (.ref C) "__setattr__"=some (some (.builtin "object.__setattr__"))
structure Con (K:GW) (C:Addr) (f:Str) (v:V) (u:Value):Prop where
 at_:JB K (.ref C) f=some (some u)
 rel:RelV v u
 get:MN K u "__get__"=some none
 cp:PySem.W.copiedNames.contains f=false
structure Meth (K:GW) (C:Addr) (m:Str) (f:Addr):Prop where
 at_:JB K (.ref C) m=some (some (.ref f))
 fn:PySem.W.isFn K (.ref f)=true
 kp:Jb K (.ref f)=true
section
variable {X:Cx} {pins:List (Addr×Obj)} {σ:St} {H:Hp} {s:Shared} {a C dx:Addr} {fs:List (Str×V)} {f:Str} {v:V} {A:Around} {E:Value→Shared→Prop}
end
noncomputable def InOp (X:Cx) (op:Operator) (rd:V→V→Hp→VK→Prop):Prop :=
 ∀ (pins:List (Addr×Obj)) (s:Shared) (σ:St) (H:Hp) (x y:V) (u v:Value) (Q:VK),Inv X pins σ H s→RelV x u→RelV y v→rd x y H Q→wpAny (model X.prog X.w) X.A (inplaceOp op u v) (EP X pins σ Q) X.xe s
section
variable {X:Cx} {o e value:Expr} {f:Str} {pos pos' tpos:Pos} {ta tv:TE}
end
section
variable {X:Cx} {pins:List (Addr×Obj)} {σ:St} {H:Hp} {s:Shared} {A:Around} {E:Value→Shared→Prop} {Q:Value→Shared→Prop} {c:Value} {b:Bool}
inductive jL (K:GW) (H:Hp):V→Value→Prop where
 | non:jL K H .non (.type "NoneType")
 | bl (x:Bool):jL K H (.bl x) (.type "bool")
 | int (i:Int):jL K H (.int i) (.type "int")
 | str (x:Str):jL K H (.str x) (.type "str")
 | flt (x:UInt64):jL K H (.flt x) (.type "float")
 | lst {a:Addr} {xs:List V} (e:H a=some (.lst xs)):jL K H (.ref a) (.type "list")
 | frz {a:Addr} {o:Obj} {xs:List V} (e:H a=some (.frz o (.lst xs))):jL K H (.ref a) (.type "list")
 | tup {a:Addr} {xs:List V} (e:H a=some (.tup xs)):jL K H (.ref a) (.type "tuple")
 | dK {a:Addr} {kvs:List (Key×V)} (e:H a=some (.dK kvs)):jL K H (.ref a) (.type "dict")
 | dT {a:Addr} {kvs:List (List Key×Addr×V)} (e:H a=some (.dT kvs)):jL K H (.ref a) (.type "dict")
 | ins {a C dx:Addr} {fs:List (Str×V)} (e:H a=some (.ins C dx fs)) (cl:Cls K C) (ha:JB K (.ref C) "__class__"=some (some (.builtin "object.__class__")))
  (hn:MN K (.builtin "object.__class__") "__get__"=some (some (.builtin "getset_descriptor.__get__"))) (htk:PySem.W.takesIn K (.builtin "object.__class__")=some true)
  (hm:LX K C (.type "object")=some true):jL K H (.ref a) (.ref C)
end
structure fK (k:Nat) (A:Around):Prop where
 hd:A.handled=none
 dp:A.depth+3 * k+5<recursionLimit
 un:A.units+16 * k+200<cLine
theorem fK.mono {j k:Nat} {A:Around} (r:fK k A) (h:j≤k):fK j A:=⟨r.hd,by have:=r.dp; omega,by have:=r.un; omega⟩
theorem fK.deeper {k:Nat} {A:Around} (r:fK (k+1) A) (env:Env):fK k (A.deeper env) :=
 ⟨r.hd,by have:=r.dp; show A.depth+1+3 * k+5<_; omega,by have:=r.un; show A.units+3+16 * k+200<_; omega⟩
theorem fK.depth {k:Nat} {A:Around} (r:fK k A):A.depth<recursionLimit:=by have:=r.dp; omega
theorem fK.units {k:Nat} {A:Around} (r:fK k A):A.units+64<cLine:=by have:=r.un; omega
noncomputable def tNil:TA:=fun _ H Q=>Q [] H
noncomputable def tCons (ta:TE) (tr:TA):TA:=fun σ H Q=>ta σ H fun x H1=>tr σ H1 fun xs H2=>Q (x::xs) H2
section
variable {X:Cx} {e:Expr} {es:List Expr} {te:TE} {t:TA} {pos:Pos}
theorem cA:PA X [] tNil:=fun _ _ _ _ H Q I h=>Calls.spliced_nil ⟨[],H,I,.nil,h⟩
theorem br (ha:PE X e te) (hr:PA X es t) (hs:starEach (e::es) X.env=(false,eval e X.env)::starEach es X.env:=by rfl):PA X (e::es) (tCons te t):=by
 intro pos pins s σ H Q I h
 rw [hs]
 show wpAny _ _ (spliced ((false,eval e X.env)::backTo pos (starEach es X.env))) _ _ s
 refine MI (thn (ha pins s σ H _ I h) fun u s1 ⟨x,H1,I1,r1,q1⟩=>?_)
 exact thn (hr pos pins s1 σ H1 _ I1 q1) fun us s2 ⟨xs,H2,I2,r2,q2⟩=>⟨x::xs,H2,I2,.cons r1 r2,q2⟩
noncomputable def tTup (t:TA):TE:=fun σ H Q=>t σ H fun xs H1=>xs.length≤sizeLine∧∀ p,H1 p=none→Q (.ref p) (upd H1 p (.tup xs))
noncomputable def tLst (t:TA):TE:=fun σ H Q=>t σ H fun xs H1=>xs.length≤sizeLine∧∀ p,H1 p=none→Q (.ref p) (upd H1 p (.lst xs))
theorem xN {x1} (h:PA X es t):PE X (.Tuple es x1 pos) (tTup t):=by
 intro pins s σ H Q I hq
 refine wpAny_Tuple_spliced (thn (h pos pins s σ H _ I hq) fun us s1 ⟨xs,H1,I1,r,z,q⟩=>⟨by rw [← r.length]; exact z,?_⟩)
 have hf:H1 s1.heap.objs.size=none:=I1.hok.fresh (GZ _)
 refine ⟨.ref s1.heap.objs.size,upd H1 s1.heap.objs.size (.tup xs),I1.laid (t':=s1.toks) (fun b u e=>G1 _ e) (GZ _) ?_,rfl,q _ hf⟩
 exact ⟨z,us,r,⟨_,G7 _ rfl,rfl,_,rfl⟩⟩
theorem EO (h:PA X es t):PE X (.List es pos) (tLst t):=by
 intro pins s σ H Q I hq
 refine wpAny_List_spliced (thn (h pos pins s σ H _ I hq) fun us s1 ⟨xs,H1,I1,r,z,q⟩=>⟨by rw [← r.length]; exact z,?_⟩)
 have hf:H1 s1.heap.objs.size=none:=I1.hok.fresh (GZ _)
 refine ⟨.ref s1.heap.objs.size,upd H1 s1.heap.objs.size (.lst xs),I1.laid (t':=s1.toks) (fun b u e=>G1 _ e) (GZ _) ?_,rfl,q _ hf⟩
 exact ⟨z,us,0,r,G7 _ rfl⟩
end
noncomputable abbrev Sp:=List V→Hp→VK→XK→Prop
noncomputable abbrev CXT:=List Env→Hp→Shared→XK→Value→Shared→Prop
structure Bx (P:Program) (w:World) (K:GW) (mg:Str→Option Value) (base:Heap) (A:Around) (outer:List Env) (s:Shared) (H:Hp):Prop where
 frames:A.frames=some outer
 mod:Mod K mg base
 bs:∀ b o,base.get? b=some o→s.heap.get? b=some o∧H b=none
 bsz:base.objs.size≤s.heap.objs.size
 iy:s.heap.FunFrames base outer
 frf:∀ b∈frs outer,H b=none
 hok:HOk P w H s.heap
 bare:AllBare s.gens
noncomputable def CE (outer:List Env) (P:Program) (w:World) (H:Hp) (s:Shared) (Q:VK) (u:Value) (s':Shared):Prop :=
 ∃ v H',s'.os=s.os∧AllBare s'.gens∧Un (frs outer) [] H H' s.heap s'.heap∧HOk P w H' s'.heap∧RelV v u∧Q v H'
noncomputable def CR (CX:CXT) (outer:List Env) (P:Program) (w:World) (H:Hp) (s:Shared) (Q:VK) (E:XK) (r:Result) (s':Shared):Prop :=
 match r with
 | .ok (.ret u)=>CE outer P w H s Q u s'
 | .ok _=>False
 | .error e=>CX outer H s E e s'
structure aX (P:Program) (w:World) (K:GW) (mg:Str→Option Value) (base:Heap) (CX:CXT) (k:Nat) (f:Addr) (fd:FuncData) (ps:List Str) (sp:Sp):Prop where
 len:∀ vs H Q E,sp vs H Q E→vs.length=ps.length
 run:∀ (A:Around) (outer:List Env) (s:Shared) (H:Hp) (args:Args) (us:List Value) (vs:List V) (Q:VK) (E:XK),fK k A→Bx P w K mg base A outer s H→BindsTo s fd args (ps.zip us)→Vals vs us→sp vs H Q E →
  codeAny (model P w) A (.call (.ref f) args) (CR CX outer P w H s Q E) s
theorem aX.mono {P:Program} {w:World} {K:GW} {mg:Str→Option Value} {base:Heap} {CX:CXT} {j k:Nat} {f:Addr} {fd:FuncData} {ps:List Str} {sp:Sp} (F:aX P w K mg base CX j f fd ps sp) (h:j≤k) :
 aX P w K mg base CX k f fd ps sp:=⟨F.len,fun A outer s H args us vs Q E hr=>F.run A outer s H args us vs Q E (hr.mono h)⟩
section
variable {X:Cx} {pins:List (Addr×Obj)} {σ:St} {H:Hp} {s s':Shared}
theorem Inv.By (I:Inv X pins σ H s):Bx X.prog X.w X.K X.mg X.base X.A X.stack s H :=
 ⟨I.ok.frames,I.ok.mod,I.bs,Hi I.ok.bsz I.sz,I.stack,I.sP,I.hok,I.bare⟩
theorem Inv.after {Q:VK} {u:Value} (I:Inv X pins σ H s) (h:CE X.stack X.prog X.w H s Q u s'):EP X pins σ Q u s':=by
 obtain ⟨v,H',os,bare,un,hok,r,q⟩:=h
 obtain ⟨hh,g,d,t,os'⟩:=s'
 obtain rfl:os'=s.os:=os
 exact ⟨v,H',I.call (h':=hh) (g':=g) (d':=d) (t':=t) (ch:=[]) un hok bare (fun b z=>absurd z (by simp)),r,q⟩
end
noncomputable def Binds (K:GW) (fd:FuncData) (ps:List Str) (ds:List Value):Prop :=
 ∀ (s:Shared) (us:List Value),K.In s.heap→(us++ds).length=ps.length→BindsTo s fd ⟨us,[]⟩ (ps.zip (us++ds))
theorem Binds.all {K:GW} {fd:FuncData} {ps:List Str} (h:∀ us:List Value,us.length=ps.length→bindArgs fd ⟨us,[]⟩=pure (ps.zip us)):Binds K fd ps []:=fun s us _ hl=>by
 rw [Io] at hl ⊢
 exact .of_eq (h us hl)
section
variable {X:Cx} {CX:CXT} {k:Nat} {f C:Addr} {fd:FuncData} {ps:List Str} {sp:Sp} {dvs:List V} {ds:List Value} {E:XK} {x m:Str} {p pos apos:Pos} {e o:Expr} {es:List Expr} {ta:TE} {t:TA}
structure Mk (K:GW) (C f:Addr):Prop where
 makes:PySem.W.makesIn K C=true
 init:JB K (.ref C) "__init__"=some (some (.ref f))
 fn:PySem.W.isFn K (.ref f)=true
 kp:Jb K (.ref C)=true
end
section
variable {X:Cx} {CX:CXT} {k:Nat} {f C:Addr} {fd:FuncData} {ps ks:List Str} {sp:Sp} {E:XK} {x m:Str} {p pos apos kpos:Pos} {e o:Expr} {es:List Expr} {kws:List Keyword} {te ta:TE} {t tk:TA} {nm:Option Str}
structure KBinds (K:GW) (fd:FuncData) (ps ks:List Str) (g:List Value→List Value→List Value) (gV:List V→List V→List V):Prop where
 to:∀ (s:Shared) (us ws:List Value),K.In s.heap→(g us ws).length=ps.length→BindsTo s fd ⟨us,ks.zip ws⟩ (ps.zip (g us ws))
 rel:∀ {vs:List V} {us:List Value} {zs:List V} {ws:List Value},Vals vs us→Vals zs ws→Vals (gV vs zs) (g us ws)
variable {g:List Value→List Value→List Value} {gV:List V→List V→List V}
end
structure aE (N P:List Str) (sc:Scope):Prop where
 kind:sc.kind=.function
 co:sc.isCoroutine=false
 gen:sc.isGenerator=false
 nd:N.Nodup
 pre:N.take P.length=P
 par:∀ x∈P,sc.names.lookup x=some .local∨sc.names.lookup x=some .cell
 nofree:∀ y∈sc.names,y.2≠.free
theorem lD {kindOf:Str→Option NameKind} {x:Str}:∀ {binds:List (Str×Value)} {m:Str→Option Value},(∀ v,(x,v)∉binds)→bindL kindOf binds m x=m x
 | [],_,_=>rfl
 | (n,v)::r,m,h=>by
  unfold bindL
  rw [lD fun w hw=>h w (Hl _ hw)]
  split
  ·have:x≠n:=by rintro rfl; exact h v Hg
   simp [this]
  ·rfl
theorem lE {kindOf:Str→Option NameKind} {x:Str}:∀ {binds:List (Str×Value)} {m:Str→Option Value},(∀ v,(x,v)∉binds)→bindC kindOf binds m x=m x
 | [],_,_=>rfl
 | (n,v)::r,m,h=>by
  unfold bindC
  rw [lE fun w hw=>h w (Hl _ hw)]
  split
  ·rfl
  ·have:x≠n:=by rintro rfl; exact h v Hg
   simp [this]
theorem lF {kindOf:Str→Option NameKind} {x:Str} {v:Value}:∀ {P:List Str} {vs:List Value} {i:Nat} {m:Str→Option Value},P.Nodup→P[i]?=some x→vs[i]?=some v→kindOf x=some .local →
 bindL kindOf (P.zip vs) m x=some v
 | [],_,_,_,_,h,_,_=>by simp at h
 | _::_,[],_,_,_,_,h,_=>by simp at h
 | p::P,w::vs,0,m,nd,h1,h2,hk=>by
  simp at h1 h2; subst h1; subst h2
  show bindL kindOf ((p,w)::P.zip vs) m p=_
  unfold bindL
  rw [lD fun v hv=>(IK.mp nd).1 (LM hv).1,if_pos hk]
  simp
 | p::P,w::vs,i+1,m,nd,h1,h2,hk=>by
  show bindL kindOf ((p,w)::P.zip vs) m x=_
  unfold bindL
  exact lF (i:=i) (IK.mp nd).2 (by simpa using h1) (by simpa using h2) hk
theorem lG {kindOf:Str→Option NameKind} {x:Str} {v:Value}:∀ {P:List Str} {vs:List Value} {i:Nat} {m:Str→Option Value},P.Nodup→P[i]?=some x→vs[i]?=some v→kindOf x≠some .local →
 bindC kindOf (P.zip vs) m x=some v
 | [],_,_,_,_,h,_,_=>by simp at h
 | _::_,[],_,_,_,_,h,_=>by simp at h
 | p::P,w::vs,0,m,nd,h1,h2,hk=>by
  simp at h1 h2; subst h1; subst h2
  show bindC kindOf ((p,w)::P.zip vs) m p=_
  unfold bindC
  rw [lE fun v hv=>(IK.mp nd).1 (LM hv).1,if_neg hk]
  simp
 | p::P,w::vs,i+1,m,nd,h1,h2,hk=>by
  show bindC kindOf ((p,w)::P.zip vs) m x=_
  unfold bindC
  exact lG (i:=i) (IK.mp nd).2 (by simpa using h1) (by simpa using h2) hk
noncomputable def start (N:List Str) (vs:List V):St:=vs.map some++Hh (N.length - vs.length) none
noncomputable def oG (CX:CXT) (P:Program) (w:World) (K:GW) (mg:Str→Option Value) (base:Heap) (N:List Str) (qual:Str) (scope:Scope) (f:Addr) (cd:Value) (A:Around) (outer:List Env) (s:Shared) (H:Hp) (E:XK):Cx where
 prog:=P
 w:=w
 K:=K
 mg:=mg
 base:=base
 A:=A.deeper (envOfC qual scope s.heap.objs.size f cd)
 N:=N
 s₀:=s
 H₀:=H
 env:=envOfC qual scope s.heap.objs.size f cd
 outer:=outer
 stack:=envOfC qual scope s.heap.objs.size f cd::outer
 ex:=[]
 calm:=true
 fn:=fun _=>true
 pn:=[]
 xe:=fun e s'=>wpAny (model P w) (A.deeper (envOfC qual scope s.heap.objs.size f cd)) (leaving (envOfC qual scope s.heap.objs.size f cd) e) (fun _ s''=>CX outer H s E e s'') (fun e' s''=>CX outer H s E e' s'') s'
theorem oH {sc:Scope} {n:Nat} {x:Str} (h:sc.names.lookup x=some .cell):∃ c,(cellsFrom n sc.names []).lookup x=some c:=by
 have q:=PySem.W.cellsFrom_some sc.names n [] (.inl h)
 exact Option.isSome_iff_exists.mp q
theorem vn {CX:CXT} {P:Program} {w:World} {K:GW} {mg:Str→Option Value} {base:Heap} {N ps:List Str} {qual:Str} {scope:Scope} {f:Addr} {cd:Value} {A:Around} {outer:List Env} {s s1:Shared} {H:Hp} {E:XK} {us:List Value} {vs:List V}
 (S:aE N ps scope) (hd:A.handled=none) (e0:Bx P w K mg base A outer s H) (hl:vs.length=ps.length) (r:Vals vs us)
 (x:InCallC s s.heap.objs.size (bindL (envOfC qual scope s.heap.objs.size f cd).kindOf (ps.zip us) fun _=>none) (cellsFrom (s.heap.objs.size+1) scope.names []) (bindC (envOfC qual scope s.heap.objs.size f cd).kindOf (ps.zip us) fun _=>none) s1) :
 Inv (oG CX P w K mg base N qual scope f cd A outer s H E) [] (start N vs) H s1:=by
 have hpl:ps.length≤N.length:=by have:=congrArg Kz S.pre; rw [HN] at this; omega
 obtain ⟨h1,tk,rfl,hk⟩:=x.done
 have noA:∀ b:Addr,b∉(oG CX P w K mg base N qual scope f cd A outer s H E).ex:=fun b z=>absurd (show b∈([]:List Addr) from z) (by simp)
 refine ⟨⟨e0.mod,S.kind,rfl,rfl,GZ _,fun y z c h1 h2=>?_,fun y hy=>?_,fun y c _ h=>?_,fun _=>hd,Around.frames_deeper e0.frames,.inr ⟨rfl,rfl⟩,fun b z=>absurd z (noA b),e0.bs,e0.bsz,fun b _ _=>noA b,fun b z=>absurd z (noA b),e0.iy,e0.frf⟩,
  rfl,e0.bare,Un.kept hk,⟨_,x.toInCall.ns,fun i y v h1 h2 h3=>?_⟩,fun y c h=>⟨_,x.cell y c h⟩,e0.hok.fresh (GZ _),fun y c h=>?_,fun p hp=>absurd (show p∈([]:List (Addr×Obj)) from hp) (by simp),e0.hok.kept hk,?_⟩
 ·exact name_of_addr x.apart (KJ h1) (KJ h2)
 ·have hy:scope.names.lookup y=some .cell∨scope.names.lookup y=some .free:=hy
  rcases hy with hy | hy
  ·exact oH hy
  ·exact absurd rfl (S.nofree _ (KJ hy))
 ·exact JH (x.above y c (KJ h))
 ·have hi:i<vs.length:=by
   unfold start at h2
   by_cases hi:i<vs.length
   ·exact hi
   ·rw [Ke (by simpa using hi)] at h2
    rw [Mn] at h2
    split at h2 <;> cases h2
  have ha:vs[i]?=some v:=by
   unfold start at h2
   rw [Jv (by simpa using hi),G9] at h2
   cases e:vs[i]? with
   | none=>rw [e] at h2; cases h2
   | some a=>rw [e] at h2; cases h2; rfl
  obtain ⟨u,hu,rv⟩:=r.get ha
  have hp:ps[i]?=some y:=by
   rw [← S.pre,Lf (by omega)]; exact h1
  have ndP:ps.Nodup:=by rw [← S.pre]; exact S.nd.sublist (Lz _ _)
  refine ⟨u,rv,?_⟩
  rcases S.par y (IU hp) with k | k
  ·exact .inl ⟨k,lF ndP hp hu k⟩
  ·obtain ⟨c,e⟩:=oH (n:=s.heap.objs.size+1) k
   refine .inr ⟨.inl k,c,e,?_⟩
   have q:=x.cell y c e
   rw [lG ndP hp hu (by show scope.names.lookup y≠_; rw [k]; decide)] at q
   exact q
 ·exact e0.hok.fresh (JH (x.above y c (KJ h)))
 ·unfold start
  show _=N.length
  rw [HQ,G4,List.length_replicate]
  omega
theorem xO {CX:CXT} {P:Program} {w:World} {K:GW} {mg:Str→Option Value} {base:Heap} {k:Nat} {f:Addr} {name qual:Str} {params:Arguments} {body:List Stmt} {scope:Scope} {dV kV doc pm cdv ct oc:Value} {an od:Option Addr}
 {osl:Array (Option Value)} {N ps:List Str} {sp:Sp} (lk:K.lookup f=some ⟨oc,od,.func (Jm name qual params body scope dV kV doc pm an cdv ct),osl⟩) (hcd:LS K cdv qual=true) (S:aE N ps scope)
 (len:∀ vs H Q E,sp vs H Q E→vs.length=ps.length)
 (hbody:∀ (A:Around) (outer:List Env) (s:Shared) (H:Hp) (vs:List V) (Q:VK) (E:XK),fK k (A.deeper (envOfC qual scope s.heap.objs.size f cdv))→sp vs H Q E →
   ∃ t,PSs (oG CX P w K mg base N qual scope f cdv A outer s H E) body t∧t { nx:=fun _ H'=>Q .non H',rt:=Q } (start N vs) H) :
 aX P w K mg base CX (k+1) f (Jm name qual params body scope dV kV doc pm an cdv ct) ps sp:=by
 refine ⟨len,fun A outer s H args us vs Q E hr e0 hb r hsp=>?_⟩
 have hl:=len _ _ _ _ hsp
 have KX:K.In s.heap:=e0.mod.kin.keeps fun b o e=>(e0.bs b o e).1
 have lim:s.heap.NoLimit:=e0.mod.nolimit.keeps fun b o e=>(e0.bs b o e).1
 have hkind:∀ y∈ps.zip us,scope.names.lookup y.1=some .local∨(scope.names.lookup y.1=some .cell∧((cellsFrom (s.heap.objs.size+1) scope.names []).lookup y.1).isSome=true):=fun ⟨n,v⟩ hy=>by
  rcases S.par n (LM hy).1 with q | q
  ·exact .inl q
  ·exact .inr ⟨q,PySem.W.cellsFrom_some _ _ _ (.inl q)⟩
 refine codeAny_call_function hr.depth (KX _ _ lk) rfl S.co S.gen rfl (PySem.W.codeRec_of KX hcd) (hb _ _ _ _ ?_)
 refine wpAny_newFunctionEnv_cells S.kind hkind fun env he s1 x=>?_
 subst he
 refine ⟨lim.keeps x.toInCall.keep,codeAny_func ?_⟩
 obtain ⟨t,ht,hq⟩:=hbody A outer s H vs Q E (hr.deeper _) hsp
 have I:Inv (oG CX P w K mg base N qual scope f cdv A outer s H E) [] (start N vs) H s1:=vn S hr.hd e0 hl r x
 refine HU (ht [] s1 (start N vs) H _ I hq) (fun fl s' hs=>?_) fun e s' hs=>hs
 have fin:∀ {σ':St} {H':Hp} {v:V} {u:Value},Inv (oG CX P w K mg base N qual scope f cdv A outer s H E) [] σ' H' s'→RelV v u→Q v H'→CE outer P w H s Q u s' :=
  fun {σ' H' v u} J rv q=>⟨v,H',J.os,J.bare,J.base,J.hok,rv,q⟩
 cases fl with
 | ret u =>
  obtain ⟨v,σ',H',J,rv,q⟩:=hs
  exact fin J rv q
 | next =>
  obtain ⟨σ',H',J,q⟩:=hs
  exact fin (v:=V.non) (u:=Ik) J rfl q
 | brk =>
  obtain ⟨_,_,_,q⟩:=hs
  exact Ih q
 | cont =>
  obtain ⟨_,_,_,q⟩:=hs
  exact Ih q
section
variable {X:Cx} {x:Str} {p pos:Pos} {e:Expr} {es:List Expr} {t:TA} {id T:String} {r:List V→Hp→VK→Prop}
noncomputable def tCB (r:List V→Hp→VK→Prop) (t:TA):TE:=fun σ H Q=>t σ H fun vs H1=>r vs H1 Q
theorem xP (hc:eE X (.builtin id) r) (hg:Gl X x) (hm:X.mg x=none) (hv:bootBuiltins x=some (.builtin id)) (ha:PA X (e::es) t) (hn:x≠"__name__":=by decide) (hdb:(x == ("__debug__":Str))=false:=by decide)
 (he:starEach (e::es) X.env=(false,eval e X.env)::starEach es X.env:=by rfl) (hpl:(backTo pos (starEach es X.env)).any (·.1)=false:=by rfl):PE X (.Call (.Name x p) (e::es) [] pos) (tCB r t):=by
 intro pins s σ H Q I h
 refine I0 (bX I hg hm hv ?_ hn hdb)
 exact Ng (thn (ha pos pins s σ H _ I h) fun us s1 ⟨vs,H1,I1,r1,q1⟩=>hc pins s1 σ H1 vs us Q I1 r1 q1) he hpl
theorem lH (hc:eE X (.type T) r) (hg:Gl X x) (hm:X.mg x=none) (hv:bootBuiltins x=some (.type T)) (ha:PA X (e::es) t) (hn:x≠"__name__":=by decide) (hdb:(x == ("__debug__":Str))=false:=by decide)
 (he:starEach (e::es) X.env=(false,eval e X.env)::starEach es X.env:=by rfl) (hpl:(backTo pos (starEach es X.env)).any (·.1)=false:=by rfl):PE X (.Call (.Name x p) (e::es) [] pos) (tCB r t):=by
 intro pins s σ H Q I h
 refine I0 (bX I hg hm hv ?_ hn hdb)
 exact JP (thn (ha pos pins s σ H _ I h) fun us s1 ⟨vs,H1,I1,r1,q1⟩=>hc pins s1 σ H1 vs us Q I1 r1 q1) he hpl
end
end L2
namespace HT
open PySem PyProof.Rows
noncomputable def lexLt:List Int→List Int→Bool
 | [],[]=>false
 | [],_::_=>true
 | _::_,[]=>false
 | x::xs,y::ys=>if x=y then lexLt xs ys else decide (x<y)
theorem cB (x y:Int) (xs ys:List Int):lexLt (x::xs) (y::ys)=if x=y then lexLt xs ys else decide (x<y):=rfl
theorem kQ:lexLt [] []=false:=rfl
theorem jM (y:Int) (ys:List Int):lexLt [] (y::ys)=true:=rfl
theorem jN (x:Int) (xs:List Int):lexLt (x::xs) []=false:=rfl
theorem xQ (A:Around) (s:Shared) (a:Int) (t:Tok) (c:Int) (u:Tok):∃ e,Hx A s (.int a t) (.int c u) e∧(e=true↔a=c) :=
 ⟨(a == c),Hx.int_int a t c u,by simp⟩
theorem xR (A:Around) (s:Shared) (a:Int) (t:Tok) (c:Int) (u:Tok) (prog:Program) (w:World) (E:Value→Shared→Prop) (Q:Value→Shared→Prop) (h:Q (.bool (decide (a<c))) s) :
 wpAny (model prog w) A (richCompare .Lt (.int a t) (.int c u)) Q E s :=
 (PyProof.Rows.lt_int h:wpAny (model prog w) A (compareOp .Lt (.int a t) (.int c u)) Q E s)
section
open PySem.SeqAt
open PySem.AutoSeq1 (wpAny_loadPart')
open PySem.MeetsSeq PySem.MeetsSeq2 PySem.MeetsSeq3
theorem kR (l b:Addr) (items items2:Array Value) (n n2:Nat) (dd dd2:Option Addr) (sl sl2:Array (Option Value)) (ns ms:List Int) (hi:IntsAre items.toList ns) (hj:IntsAre items2.toList ms) :
 Meets (Builtin.«tuple.__lt__» ⟨[.ref l,.ref b],[]⟩)
  (fun _ R s=>s.heap.get? l=some { cls:=.type "tuple",dict:=dd,data:=.seq items n,slots:=sl }∧s.heap.get? b=some { cls:=.type "tuple",dict:=dd2,data:=.seq items2 n2,slots:=sl2 } ∧
    R (.ok (.ret (.bool (lexLt ns ms)))) s) :=
 .of_wp fun prog w A R s h=>by
  obtain ⟨hp,g,d,tk,os⟩:=s; obtain ⟨hl,hb,h⟩:=h
  have f2:=AutoSeq1.sub_tuple_tuple
  have z1:items.size=ns.length:=by rw [← hi.length]; simp
  have z2:items2.size=ms.length:=by rw [← hj.length]; simp
  wp_walk using wpAny_loadPart' hl,wpAny_loadPart' hb,wpAny_forIn_list _ (fun rest b s'=>b.1=none∧s'=⟨hp,g,d,tk,os⟩∧∃ (vs ws:List Value) (ns' ms':List Int),rest=vs.zip ws ∧
   IntsAre vs ns'∧IntsAre ws ms'∧ns'.length+items2.size=ms'.length+items.size∧R (.ok (.ret (.bool (lexLt ns' ms')))) ⟨hp,g,d,tk,os⟩) _
  case turn =>
   rintro ⟨y,x⟩ rest b s' ⟨hb',rfl,vs,ws,ns',ms',hz,hvi,hwi,hlen,hR⟩
   cases hvi with
   | nil=>rw [List.zip_nil_left] at hz; cases hz
   | cons a t hvi' =>
    cases hwi with
    | nil=>rw [List.zip_nil_right] at hz; cases hz
    | cons c u hwi' =>
     rw [MH] at hz
     injection hz with hyx hrest
     injection hyx with hy hx
     subst hy hx
     rw [cB] at hR
     simp only [HV] at hlen
     obtain ⟨e,he,hiff⟩:=xQ A.in1 ⟨hp,g,d,tk,os⟩ a t c u
     refine GU (he prog w _ _ ?_)
     cases e with
     | true =>
      rw [if_pos (hiff.mp rfl)] at hR
      wp_walk
      exact ⟨rfl,rfl,_,_,_,_,hrest,hvi',hwi',by omega,hR⟩
     | false =>
      rw [if_neg (fun q=>absurd (hiff.mpr q) G6)] at hR
      have hri:=xR A.in1 ⟨hp,g,d,tk,os⟩ a t c u prog w
      wp_walk using hri
      exact ⟨_,rfl,by simpa using hR⟩
  case fin =>
   rintro ⟨b1,b2⟩ s' ⟨hb',rfl,vs,ws,ns',ms',hz,hvi,hwi,hlen,hR⟩
   simp only at hb'
   subst hb'
   have hv:lexLt ns' ms'=decide (items.size<items2.size):=by
    cases hvi with
    | nil =>
     cases hwi with
     | nil =>
      simp only [Jk] at hlen
      rw [kQ]
      exact (decide_eq_false (by omega)).symm
     | cons c u hw =>
      simp only [Jk,HV] at hlen
      rw [jM]
      exact (decide_eq_true (by omega)).symm
    | cons a t hv =>
     cases hwi with
     | nil =>
      simp only [Jk,HV] at hlen
      rw [jN]
      exact (decide_eq_false (by omega)).symm
     | cons c u hw =>
      rw [MH] at hz
      cases hz
   rw [hv] at hR
   wp_walk
   exact ⟨_,rfl,by simpa [Builtin.Tuple.tupleCompareSizes] using hR⟩
  case h =>
   exact ⟨rfl,rfl,items.toList,items2.toList,ns,ms,rfl,hi,hj,by omega,h⟩
end
section
variable {prog:Program} {w:World} {A:Around} {E:Value→Shared→Prop} {s:Shared}
theorem qR {l b:Addr} {items items2:Array Value} {ns ms:List Int} {Q:Value→Shared→Prop} (hl:IsTup s.heap l items) (hb:IsTup s.heap b items2) (hi:IntsAre items.toList ns) (hj:IntsAre items2.toList ms)
 (hu:A.units<cLine) (h:Q (.bool (lexLt ns ms)) s):wpAny (model prog w) A (compareOp .Lt (.ref l) (.ref b)) Q E s:=by
 obtain ⟨⟨cls,dd,data,sl⟩,ho,hc,n,hd⟩:=id hl
 obtain ⟨⟨cls2,dd2,data2,sl2⟩,ho2,hc2,n2,hd2⟩:=id hb
 simp only at hc hd hc2 hd2
 subst hc hd hc2 hd2
 exact richCompare_meets_room (op:=.Lt) ⟨_,ho,rfl⟩ ⟨_,ho2,rfl⟩ PySem.F.slot_tuple_lt PySem.F.entry_tuple_lt (PySem.F.args_tuple_lt_2 _ _) (kR l b items items2 n n2 dd dd2 sl sl2 ns ms hi hj)
  ⟨ho,ho2,show JJ (lexLt ns ms)≠Value.notImplemented∧Q (.bool (lexLt ns ms)) s from ⟨(fun x=>nomatch x),h⟩⟩ hu
noncomputable def sIx (n d:Nat):Option Int→Nat
 | none=>d
 | some v=>if v<0 then (v+(n:Int)).toNat else min v.toNat n
theorem ER (n d:Nat) (hd:d≤n) (o:Option Int):sIx n d o≤n:=by
 cases o with
 | none=>exact hd
 | some v =>
  show (if v<0 then (v+(n:Int)).toNat else min v.toNat n)≤n
  by_cases hv:v<0
  ·rw [if_pos hv]; omega
  ·rw [if_neg hv]; exact Nat.min_le_right _ _
theorem sW (v:Int) (n d:Nat):(if v<0 then max (v+(n:Int)) 0 else min v (n:Int))=((sIx n d (some v):Nat):Int):=by
 show (if v<0 then max (v+(n:Int)) 0 else min v (n:Int))=(((if v<0 then (v+(n:Int)).toNat else min v.toNat n):Nat):Int)
 by_cases hv:v<0
 ·simp only [if_pos hv]; omega
 ·simp only [if_neg hv]; omega
theorem qS (lo hi:Option Int) (n:Nat):Mh lo hi 1 (n:Int)=(((sIx n 0 lo:Nat):Int),((sIx n n hi:Nat):Int)):=by
 have h1:¬ ((1:Int)<0):=by omega
 unfold Mh
 simp only [h1,if_false]
 refine Prod.ext ?_ ?_
 ·cases lo with
  | none=>rfl
  | some v=>exact sW v n 0
 ·cases hi with
  | none=>rfl
  | some v=>exact sW v n n
theorem qT (i j:Nat):Le (i:Int) (j:Int) 1=j - i:=by
 unfold Le
 have h1:(1:Int)>0:=by omega
 simp only [h1,if_true,Int.ediv_one]
 split <;> omega
theorem jO {v:Value} {o:Option Int} {Q:Option Int→Shared→Prop} (p:IsPart v o) (h:Q o s):wpAny (model prog w) A (Builtin.Slice.slicePartIndex v) Q E s:=by
 cases p with
 | none=>exact slicePart_none h
 | int i t=>exact slicePart_int h
theorem dG {sl:Addr} {vl vu:Value} {lo hi:Option Int} {n:Nat} {Q:Int×Int×Nat→Shared→Prop} (hs:s.heap.IsSliceOf sl vl vu .none) (pl:IsPart vl lo) (pu:IsPart vu hi)
 (h:Q (((sIx n 0 lo:Nat):Int),1,sIx n n hi - sIx n 0 lo) s):wpAny (model prog w) A (Builtin.Slice.sliceApplied (.ref sl) (pure (n:Int))) Q E s:=by
 obtain ⟨os,hos,hcs,hds⟩:=id hs
 unfold Builtin.Slice.sliceApplied Builtin.Slice.sliceFields
 refine GU (GU (HR hos hds (x:=vl) rfl (GU (HR hos hds (x:=vu) rfl (GU (HR hos hds (x:=.none) rfl (GX ?_)))))))
 refine GU (slicePart_none ?_)
 show wpAny _ _ (if ((1:Int) == 0)=true then _ else _) _ _ s
 rw [if_neg (by decide)]
 refine GU (jO pl (GU (jO pu (GU (GX ?_)))))
 show wpAny _ _ (match Mh lo hi 1 (n:Int) with | (lo,hi)=>pure (lo,(1:Int),Le lo hi 1)) _ _ s
 rw [qS lo hi n]
 show wpAny _ _ (pure (((sIx n 0 lo:Nat):Int),(1:Int),Le ((sIx n 0 lo:Nat):Int) ((sIx n n hi:Nat):Int) 1)) _ _ s
 rw [qT]
 exact GX h
theorem xS (xs:Array Value) (i k:Nat):((HE k).filterMap fun (m:Nat)=>xs[((i:Int)+(m:Int) * 1).toNat]?).toArray=((xs.toList.drop i).take k).toArray:=by
 have e:(fun (m:Nat)=>xs[((i:Int)+(m:Int) * 1).toNat]?)=fun m=>xs[i+m]?:=by
  funext m
  have:((i:Int)+(m:Int) * 1).toNat=i+m:=by omega
  rw [this]
 rw [e]
 have:=pick_run xs i k
 rw [List.filterMap_map] at this
 have e2:((fun x=>xs[x]?)∘fun x=>i+x)=fun m=>xs[i+m]?:=rfl
 rw [e2] at this
 rw [this]
theorem gr {t sl:Addr} {items:Array Value} {vl vu:Value} {lo hi:Option Int} {Q:Value→Shared→Prop} (ht:IsTup s.heap t items) (hs:s.heap.IsSliceOf sl vl vu .none) (pl:IsPart vl lo) (pu:IsPart vu hi)
 (hw:¬ (sIx items.size 0 lo=0∧sIx items.size items.size hi=items.size))
 (h:Q (.ref s.heap.objs.size) { s with heap:=s.heap.push { cls:=.type "tuple",data:=.seq ((items.toList.drop (sIx items.size 0 lo)).take (sIx items.size items.size hi - sIx items.size 0 lo)).toArray } })
 (hsz:items.size≤sizeLine):wpAny (model prog w) A (getItem (.ref t) (.ref sl)) Q E s:=by
 have htake:sizeOk (.seq ((items.toList.drop (sIx items.size 0 lo)).take (sIx items.size items.size hi - sIx items.size 0 lo)).toArray):=by
  show ((items.toList.drop (sIx items.size 0 lo)).take (sIx items.size items.size hi - sIx items.size 0 lo)).toArray.size≤sizeLine
  rw [Hq,HN,LK,Ie]
  omega
 have hj:sIx items.size items.size hi≤items.size:=ER _ _ (GZ _) hi
 obtain ⟨os,hos,hcs,hds⟩:=id hs
 have hTs:s.TypeIs (.ref sl) "slice":=⟨os,hos,hcs⟩
 unfold getItem
 try with_reducible refine IF ?_
 first | refine GU (GX ?_) | skip
 refine GU (MJ ht.typeIs (by decide) ?_)
 refine GU (Jf (name:=GV "__getitem__") ht.typeIs Ka
  (IJ Ka ht.typeIs entry_tuple_getitem ?_ (args_tuple_getitem _ _)))
 show wpAny _ _ (Builtin.Tuple.tupleItemsOf (.ref t) >>= _) _ _ s
 refine GU (tupleItemsOf_ ht ?_)
 refine GU (JE hTs ?_)
 rw [if_pos (by decide)]
 refine GU (dG hs pl pu ?_)
 have hno:¬ ((((sIx items.size 0 lo:Nat):Int) == 0 && (1:Int) == 1 && (sIx items.size items.size hi - sIx items.size 0 lo) == items.size)=true):=by
  intro q
  rw [KQ,KQ] at q
  have q1:((sIx items.size 0 lo:Nat):Int)=0:=eq_of_beq q.1.1
  have q2:sIx items.size items.size hi - sIx items.size 0 lo=items.size:=eq_of_beq q.2
  exact hw ⟨by omega,by omega⟩
 show wpAny _ _ (if (((sIx items.size 0 lo:Nat):Int) == 0 && (1:Int) == 1 && (sIx items.size items.size hi - sIx items.size 0 lo) == items.size)=true then _ else _) _ _ s
 rw [if_neg hno,xS]
 first
  | exact GU (m:=Lh _) (Iw (GX ⟨_,rfl,GX h⟩) htake)
  | exact GU (m:=Lh _) (Iw (GU (GX (GX ⟨_,rfl,GX h⟩))) htake)
  | exact GU (GU (m:=Lh _) (Iw (GX (GX ⟨_,rfl,GX h⟩)) htake))
  | exact GU (GU (m:=Lh _) (Iw (GX ⟨_,rfl,GX h⟩) htake))
end
end HT
namespace L2
open PySem PySem.Spec PyProof.Rows
noncomputable abbrev TO:=St→Hp→(Option Int→Hp→Prop)→Prop
noncomputable def PO (X:Cx) (e:Option Expr) (t:TO):Prop :=
 ∀ (pins:List (Addr×Obj)) (s:Shared) (σ:St) (H:Hp) (Q:Option Int→Hp→Prop),Inv X pins σ H s→t σ H Q →
  wpAny (model X.prog X.w) X.A (evalPart e X.env) (fun u s'=>∃ o H',Inv X pins σ H' s'∧IsPart u o∧Q o H') X.xe s
noncomputable def BA:TO:=fun _ H Q=>Q none H
noncomputable def tPart (t:TE):TO:=fun σ H Q=>t σ H fun x H1=>∃ i,x=.int i∧Q (some i) H1
theorem intsAre_of {ns:List Int}:∀ {us:List Value},Vals (ns.map V.int) us→IntsAre us ns:=by
 induction ns with
 | nil=>intro us r; rw [Jc] at r; cases r; exact .nil
 | cons n ns ih =>
  intro us r
  rw [G3] at r
  cases r with
  | cons r1 r2 =>
   obtain ⟨t,e⟩:=r1
   subst e
   exact .cons n t (ih r2)
section
variable {X:Cx} {e:Expr} {te:TE} {lo hi:Option Expr} {tl th:TO} {pos p2:Pos}
theorem BB:PO X none BA:=by
 intro pins s σ H Q I h
 rw [evalPart_none]
 exact GX ⟨none,H,I,.none,h⟩
theorem BC (h:PE X e te):PO X (some e) (tPart te):=by
 intro pins s σ H Q I hw
 rw [evalPart_some]
 refine thn (h pins s σ H _ I hw) fun u s1 ⟨x,H1,I1,r1,q1⟩=>?_
 obtain ⟨i,rfl,q⟩:=q1
 obtain ⟨t,rfl⟩:=r1
 exact ⟨some i,H1,I1,.int i t,q⟩
noncomputable def SlR (X:Cx) (r:V→Option Int→Option Int→Hp→VK→Prop):Prop :=
 ∀ (pins:List (Addr×Obj)) (s:Shared) (σ:St) (H:Hp) (x:V) (v vl vu:Value) (lo hi:Option Int) (sl:Addr) (Q:VK),Inv X pins σ H s→RelV x v→s.heap.IsSliceOf sl vl vu .none→IsPart vl lo→IsPart vu hi→r x lo hi H Q →
  ∃ T id,typeLookup (.type T) "__getitem__"=pure (some (.builtin id))∧s.TypeIs v T∧wpAny (model X.prog X.w) X.A (getItem v (.ref sl)) (EP X pins σ Q) X.xe s
theorem SlR.or {r r':V→Option Int→Option Int→Hp→VK→Prop} (h:SlR X r) (h':SlR X r'):SlR X (fun x lo hi H Q=>r x lo hi H Q∨r' x lo hi H Q):=by
 intro pins s σ H x v vl vu lo hi sl Q I rx hs pl pu q
 rcases q with q | q
 ·exact h pins s σ H x v vl vu lo hi sl Q I rx hs pl pu q
 ·exact h' pins s σ H x v vl vu lo hi sl Q I rx hs pl pu q
noncomputable def tSl (r:V→Option Int→Option Int→Hp→VK→Prop) (te:TE) (tl th:TO):TE:=fun σ H Q=>te σ H fun x H1=>tl σ H1 fun l H2=>th σ H2 fun u H3=>r x l u H3 Q
theorem xT {r:V→Option Int→Option Int→Hp→VK→Prop} (hr:SlR X r) (he:PE X e te) (hl:PO X lo tl) (hu:PO X hi th):PE X (.Subscript e (.Slice lo hi none p2) pos) (tSl r te tl th):=by
 intro pins s σ H Q I h
 refine Subscript_ (thn (he pins s σ H _ I h) fun v s1 ⟨x,H1,I1,r1,q1⟩=>?_)
 refine wpAny_Slice (thn (hl pins s1 σ H1 _ I1 q1) fun vl s2 ⟨l,H2,I2,pl,q2⟩=>thn (hu pins s2 σ H2 _ I2 q2) fun vu s3 ⟨u,H3,I3,pu,q3⟩=>?_)
 rw [evalPart_none]
 refine GX ?_
 have I4:Inv X pins σ H3 { s3 with heap:=s3.heap.push { cls:=.type "slice",data:=.fields #[vl,vu,.none] } }:=I3.kept (t':=s3.toks) fun b ob q=>G1 _ q
 obtain ⟨T,id,hT,ht,hg⟩:=hr pins { s3 with heap:=s3.heap.push { cls:=.type "slice",data:=.fields #[vl,vu,.none] } } σ H3 x v vl vu l u s3.heap.objs.size Q I4 r1 (Heap.IsSliceOf.new ..) pl pu q3
 show wpAny (model X.prog X.w) X.A (subscriptTail e (.Slice lo hi none p2) v (.ref s3.heap.objs.size)) (EP X pins σ Q) X.xe { s3 with heap:=s3.heap.push { cls:=.type "slice",data:=.fields #[vl,vu,.none] } }
 exact tail_any (ops:=[.ref s3.heap.objs.size,v]) ht hT hg (by walk_at "u")
noncomputable def mV (xs:List V) (lo hi:Option Int):List V:=(xs.drop (HT.sIx xs.length 0 lo)).take (HT.sIx xs.length xs.length hi - HT.sIx xs.length 0 lo)
theorem iY (xs:List V) (lo hi:Option Int):(mV xs lo hi).length≤xs.length:=by
 unfold mV
 rw [HN,LK]
 omega
noncomputable def rSlT (K:GW):V→Option Int→Option Int→Hp→VK→Prop:=fun x lo hi H Q=>∃ a xs,x=.ref a∧SqT K H a xs ∧
 ¬ (HT.sIx xs.length 0 lo=0∧HT.sIx xs.length xs.length hi=xs.length)∧∀ p,H p=none→Q (.ref p) (upd H p (.tup (mV xs lo hi)))
theorem ES:SlR X (rSlT X.K):=by
 intro pins s σ H x v vl vu lo hi sl Q I rx hs pl pu h
 obtain ⟨a,xs,rfl,hx,hw,q⟩:=h
 cases rx
 obtain ⟨its,r,ht,hz⟩:=I.tuple hx
 have hlen:its.toArray.size=xs.length:=by rw [Hq]; exact r.length.symm
 refine ⟨"tuple",_,Ka.lookup,ht.typeIs,?_⟩
 refine HT.gr ht hs pl pu (by rw [hlen]; exact hw) ?_ (by rw [hlen]; exact hz)
 rw [hlen]
 refine ⟨.ref s.heap.objs.size,_,I.laid (t':=s.toks) (o:=.tup (mV xs lo hi)) (fun b ob q=>G1 _ q) (GZ _) ?_,rfl,q _ (I.hok.fresh (GZ _))⟩
 exact ⟨Hi (iY xs lo hi) hz,_,(r.drop (HT.sIx xs.length 0 lo)).take (HT.sIx xs.length xs.length hi - HT.sIx xs.length 0 lo),IsTup.new _ _⟩
theorem Vals.sX {xs:List V} {us:List Value} (r:Vals xs us):us=[]↔xs=[]:=by
 cases r with
 | nil=>simp
 | cons _ _=>simp
end
noncomputable def ixN (n:Nat) (i:Int):Option Nat:=if 0≤i then (if i<n then some i.toNat else none) else if -(n:Int)≤i then some (i+n).toNat else none
noncomputable def atI {α:Type} (xs:List α) (i:Int):Option α:=(ixN xs.length i).bind fun j=>xs[j]?
theorem BD {n:Nat} {i:Int} {j:Nat} (h:ixN n i=some j):seqIndex? i n=some j∧j<n∧ -(n:Int)≤i∧i<n:=by
 unfold ixN at h
 by_cases h0:0≤i
 ·rw [if_pos h0] at h
  by_cases h1:i<n
  ·rw [if_pos h1] at h
   have e:i.toNat=j:=IW h
   exact ⟨by rw [seqIndex_of h0 h1,e],by omega,by omega,h1⟩
  ·rw [if_neg h1] at h; cases h
 ·rw [if_neg h0] at h
  by_cases h1: -(n:Int)≤i
  ·rw [if_pos h1] at h
   have e:(i+n).toNat=j:=IW h
   exact ⟨by rw [seqIndex_neg (by omega) h1,e],by omega,h1,by omega⟩
  ·rw [if_neg h1] at h; cases h
theorem sY {α:Type} {xs:List α} {i:Int} {v:α} (h:atI xs i=some v):∃ j,seqIndex? i xs.length=some j∧xs[j]?=some v∧j<xs.length∧ -(xs.length:Int)≤i∧i<xs.length:=by
 unfold atI at h
 cases e:ixN xs.length i with
 | none=>rw [e] at h; cases h
 | some j =>
  rw [e] at h
  obtain ⟨h1,h2,h3,h4⟩:=BD e
  exact ⟨j,h1,h,h2,h3,h4⟩
noncomputable def jx (b:Expr):Prop:=∀ o i,subscripted b false o i=operate [o,i] (getItem o i)
noncomputable def IxR (X:Cx) (r:R2):Prop :=
 ∀ (value slice:Expr) (pins:List (Addr×Obj)) (s:Shared) (σ:St) (H:Hp) (x y:V) (v u:Value) (Q:VK),Inv X pins σ H s→RelV x v→RelV y u→r x y H Q →
  subscripted slice false v u=operate [v,u] (getItem v u)→wpAny (model X.prog X.w) X.A (subscriptTail value slice v u) (EP X pins σ Q) X.xe s
noncomputable def MtR (X:Cx) (id:String) (r:V→List V→Hp→VK→Prop):Prop :=
 ∀ (pins:List (Addr×Obj)) (s:Shared) (σ:St) (H:Hp) (x:V) (xs:List V) (v:Value) (us:List Value) (Q:VK),Inv X pins σ H s→RelV x v→Vals xs us→r x xs H Q →
  wpAny (model X.prog X.w) X.A (call (.builtin id) (v::us)) (EP X pins σ Q) X.xe s
section
variable {X:Cx} {a b:Expr} {ta tb:TE} {pos:Pos}
theorem IxR.or {r r':R2} (h:IxR X r) (h':IxR X r'):IxR X (fun x y H Q=>r x y H Q∨r' x y H Q):=by
 intro value slice pins s σ H x y v u Q I rx ry q hs
 rcases q with q | q
 ·exact h value slice pins s σ H x y v u Q I rx ry q hs
 ·exact h' value slice pins s σ H x y v u Q I rx ry q hs
theorem pe_ix {r:R2} (hr:IxR X r) (ha:PE X a ta) (hb:PE X b tb) (hs:jx b):PE X (.Subscript a b pos) (tOp r ta tb):=by
 intro pins s σ H Q I h
 exact Subscript_ (binT ha hb I h fun v u s2 x y H2 I2 rx ry q=>hr a b pins s2 σ H2 x y v u Q I2 rx ry q (hs _ _))
noncomputable def rIxL (K:GW):R2:=fun x y H Q=>∃ p xs i v,x=.ref p∧y=.int i∧SqL K H p xs∧atI xs i=some v∧Q v H
noncomputable def rIxT (K:GW):R2:=fun x y H Q=>∃ p xs i v,x=.ref p∧y=.int i∧SqT K H p xs∧atI xs i=some v∧Q v H
theorem BE:IxR X (rIxL X.K):=by
 intro value slice pins s σ H x y v u Q I rx ry h hs
 obtain ⟨p,xs,i,z,rfl,rfl,hq,he,q⟩:=h
 cases rx
 obtain ⟨t,rfl⟩:=ry
 obtain ⟨its,r,pl,hz⟩:=I.list hq
 obtain ⟨j,h1,h2,h3,h4,h5⟩:=sY he
 obtain ⟨w,ew,rw'⟩:=r.get h2
 have hl:=r.length
 have hn:=mU
 have fin:EP X pins σ Q w s:=⟨z,H,I,rw',q⟩
 by_cases h0:0≤i
 ·have hj:i.toNat=j:=by
   rw [seqIndex_of h0 h5] at h1
   exact IW h1
  exact item_listR pl.isList h0 (by omega) (by rw [hj]; simpa using ew) fin hs
 ·have hj:(i+(its.toArray.size:Int)).toNat=j:=by
   rw [seqIndex_neg (by omega) h4] at h1
   rw [Hq,← hl]
   exact IW h1
  exact subscriptTail_builtinR (x:=w) pl.isList.typeIs MM.lookup
   (wpAny_getItem_list_neg (Q:=fun r s'=>r=w∧EP X pins σ Q r s') pl.isList (by omega) (by rw [Hq] <;> omega) (by omega) (by rw [hj]; simpa using ew) ⟨rfl,fin⟩) hs
theorem ET:IxR X (rIxT X.K):=by
 intro value slice pins s σ H x y v u Q I rx ry h hs
 obtain ⟨p,xs,i,z,rfl,rfl,hq,he,q⟩:=h
 cases rx
 obtain ⟨t,rfl⟩:=ry
 obtain ⟨its,r,pl,hz⟩:=I.tuple hq
 obtain ⟨j,h1,h2,h3,h4,h5⟩:=sY he
 obtain ⟨w,ew,rw'⟩:=r.get h2
 have hl:=r.length
 have hn:=mU
 have fin:EP X pins σ Q w s:=⟨z,H,I,rw',q⟩
 exact subscriptTail_builtinR (x:=w) pl.typeIs slot_tuple_getitem.lookup
  (getItem_tuple (j:=j) (Q:=fun r s'=>r=w∧EP X pins σ Q r s') pl (by omega) (by omega) (by rw [Hq,← hl]; exact h1) (by simpa using ew) ⟨rfl,fin⟩) hs
theorem mW (lo hi:Option Int) (n:Nat):(sliceBounds lo hi none n).1=((HT.sIx n 0 lo:Nat):Int)∧(sliceBounds lo hi none n).2.1=((HT.sIx n n hi:Nat):Int)∧(sliceBounds lo hi none n).2.2=1:=by
 refine ⟨?_,?_,rfl⟩
 ·cases lo with
  | none=>simp [sliceBounds,HT.sIx]
  | some i =>
   simp only [sliceBounds,HT.sIx,Option.getD_none,show (1:Int)>0 by decide,if_true]
   by_cases h:i<0
   ·simp only [h,if_true] <;> omega
   ·simp only [h,if_false] <;> omega
 ·cases hi with
  | none=>simp [sliceBounds,HT.sIx]
  | some i =>
   simp only [sliceBounds,HT.sIx,Option.getD_none,show (1:Int)>0 by decide,if_true]
   by_cases h:i<0
   ·simp only [h,if_true] <;> omega
   ·simp only [h,if_false] <;> omega
theorem kT (its:List Value) (lo hi:Option Int):slicePick its.toArray lo hi none=((its.drop (HT.sIx its.length 0 lo)).take (HT.sIx its.length its.length hi - HT.sIx its.length 0 lo)).toArray:=by
 obtain ⟨h1,h2,h3⟩:=mW lo hi its.toArray.size
 unfold slicePick
 rw [h1,h2,h3]
 simp only [sliceRange_one,pick_run,Hq] <;> rfl
noncomputable def rSlL (K:GW):V→Option Int→Option Int→Hp→VK→Prop:=fun x lo hi H Q=>∃ a xs,x=.ref a∧SqL K H a xs∧∀ p,H p=none→Q (.ref p) (upd H p (.lst (mV xs lo hi)))
theorem BF:SlR X (rSlL X.K):=by
 intro pins s σ H x v vl vu lo hi sl Q I rx hs pl pu h
 obtain ⟨a,xs,rfl,hx,q⟩:=h
 cases rx
 obtain ⟨its,r,ht,hz⟩:=I.list hx
 have hlen:=r.length
 refine ⟨"list",_,MM.lookup,ht.isList.typeIs,?_⟩
 refine wpAny_getItem_list_slice ht.isList hs pl pu .none (by simp) ?_ (by rw [Hq] <;> omega)
 rw [kT,← hlen]
 refine ⟨.ref s.heap.objs.size,_,I.laid (t':=s.toks) (o:=.lst (mV xs lo hi)) (fun b ob q=>G1 _ q) (GZ _) ?_,rfl,q _ (I.hok.fresh (GZ _))⟩
 exact ⟨Hi (iY xs lo hi) hz,_,0,(r.drop (HT.sIx xs.length 0 lo)).take (HT.sIx xs.length xs.length hi - HT.sIx xs.length 0 lo),G7 _ rfl⟩
theorem mX:eE X (.builtin "len") (fun xs H Q=>∃ p ys,xs=[.ref p]∧(SqL X.K H p ys∨SqT X.K H p ys)∧Q (.int ys.length) H):=by
 intro pins s σ H xs us Q I r h
 obtain ⟨p,ys,rfl,hq,q⟩:=h
 obtain ⟨u,rfl,rx⟩:=vals1 r
 cases rx
 have hn:=mU
 rcases hq with hq | hq
 ·obtain ⟨its,r',pl,hz⟩:=I.list hq
  have hlen:=r'.length
  exact Calls.call_len_list pl.isList (by simp only [Hq] <;> omega) ⟨.int ys.length,H,I.tok _,⟨s.toks+1,by rw [Hq,hlen]⟩,q⟩
 ·obtain ⟨its,r',pl,hz⟩:=I.tuple hq
  have hlen:=r'.length
  exact len_tuple pl (by simp only [Hq] <;> omega) ⟨.int ys.length,H,I.tok _,⟨s.toks+1,by rw [Hq,hlen]⟩,q⟩
theorem mY:eE X (.type "list") (fun xs H Q=>∃ p ys,xs=[.ref p]∧(SqL X.K H p ys∨SqT X.K H p ys)∧∀ l,H l=none→Q (.ref l) (upd H l (.lst ys))):=by
 intro pins s σ H xs us Q I r h
 obtain ⟨p,ys,rfl,hq,q⟩:=h
 obtain ⟨u,rfl,rx⟩:=vals1 r
 cases rx
 have fin:∀ (its:List Value),Vals ys its→ys.length≤sizeLine→∀ (h':Heap) (c':Nat),(∀ b o',s.heap.get? b=some o'→h'.get? b=some o') →
  h'.get? s.heap.objs.size=some { cls:=.type "list",dict:=none,data:=.seq its.toArray c',slots:= #[] }→EP X pins σ Q (.ref s.heap.objs.size) { s with heap:=h' }:=fun its r' hz h' c' kp e =>
  ⟨.ref s.heap.objs.size,_,I.laid (t':=s.toks) kp (GZ _) (show aS X.prog X.w _ h' _ (.lst ys) from ⟨hz,its,c',r',e⟩),rfl,q _ (I.hok.fresh (GZ _))⟩
 rcases hq with hq | hq
 ·obtain ⟨its,r',pl,hz⟩:=I.list hq
  have hlen:=r'.length
  obtain ⟨o,ho,hc,n,hd⟩:=pl.isList
  exact call_list_seq p (.inl rfl) ho hc hd (fun h' c' kp e=>fin its r' hz h' c' kp e) (by simp only [Hq] <;> omega)
 ·obtain ⟨its,r',pl,hz⟩:=I.tuple hq
  have hlen:=r'.length
  obtain ⟨o,ho,hc,n,hd⟩:=pl
  exact call_list_seq p (.inr rfl) ho hc hd (fun h' c' kp e=>fin its r' hz h' c' kp e) (by simp only [Hq] <;> omega)
theorem kU:eE X (.type "tuple") (fun xs H Q=>∃ p ys,xs=[.ref p]∧((SqL X.K H p ys∧∀ l,H l=none→Q (.ref l) (upd H l (.tup ys)))∨(SqT X.K H p ys∧Q (.ref p) H))):=by
 intro pins s σ H xs us Q I r h
 obtain ⟨p,ys,rfl,h⟩:=h
 obtain ⟨u,rfl,rx⟩:=vals1 r
 cases rx
 rcases h with ⟨hq,q⟩ | ⟨hq,q⟩
 ·obtain ⟨its,r',pl,hz⟩:=I.list hq
  have hlen:=r'.length
  refine call_tuple_list pl.isList (fun h' kp=>?_) (by simp only [Hq] <;> omega)
  have I1:Inv X pins σ H { s with heap:=h' }:=I.kept (t':=s.toks) kp
  have I2:Inv X pins σ (upd H h'.objs.size (.tup ys)) { s with heap:=h'.push { cls:=.type "tuple",data:=.seq its.toArray } } :=
   I1.laid (t':=s.toks) (fun b o e=>G1 _ e) (GZ _) (show aS X.prog X.w _ _ _ (.tup ys) from ⟨hz,its,r',IsTup.new _ _⟩)
  exact ⟨.ref h'.objs.size,_,I2,rfl,q _ (I1.hok.fresh (GZ _))⟩
 ·obtain ⟨its,r',pl,hz⟩:=I.tuple hq
  exact call_tuple_same pl ⟨.ref p,H,I,rfl,q⟩
noncomputable def tyV (K:GW) (T:String) (x:V) (H:Hp):Prop:=match x with
 | .str _=>T="str"
 | .int _=>T="int"
 | .ref p=>(T="list"∧∃ xs,SqL K H p xs)∨(T="tuple"∧∃ o,K.lookup p=some o∧o.cls=.type "tuple"∧o.dict=none) ∨
  (T="dict"∧((∃ kvs,H p=some (.dK kvs))∨∃ kvs,H p=some (.dT kvs)))∨(T="set"∧∃ S n,H p=some (.set S n))
 | _=>False
theorem xU {pins:List (Addr×Obj)} {σ:St} {H:Hp} {s:Shared} {T:String} {x:V} {v:Value} (I:Inv X pins σ H s) (r:RelV x v) (ty:tyV X.K T x H) :
 s.TypeIs v T∧∀ a,v=.ref a→∃ ob,s.heap.get? a=some ob∧ob.dict=none:=by
 cases x with
 | str z =>
  obtain ⟨t,rfl⟩:=r
  cases (show T="str" from ty)
  exact ⟨typeIs_str s z t,fun _ e=>nomatch e⟩
 | int i =>
  obtain ⟨t,rfl⟩:=r
  cases (show T="int" from ty)
  exact ⟨K6 s i t,fun _ e=>nomatch e⟩
 | ref p =>
  cases r
  rcases ty with ⟨rfl,xs,hq⟩ | ⟨rfl,o,hk,hc,hd⟩ | ⟨rfl,hk⟩ | ⟨rfl,S,n,hk⟩
  ·obtain ⟨its,_,pl,_⟩:=I.list hq
   refine ⟨pl.isList.typeIs,fun a e=>?_⟩
   cases e
   obtain ⟨o,n,e,c,hd,_⟩:=pl
   exact ⟨o,e,hd⟩
  ·refine ⟨⟨o,I.kIn p o hk,hc⟩,fun a e=>?_⟩
   cases e
   exact ⟨o,I.kIn _ o hk,hd⟩
  ·have z:∃ o,s.heap.get? p=some o∧o.ExactDict:=by
    rcases hk with ⟨kvs,hk⟩ | ⟨kvs,hk⟩
    ·obtain ⟨_,_,_,_,o,_,_,e,ex,_⟩:=I.hok p _ hk
     exact ⟨o,e,ex⟩
    ·obtain ⟨_,_,_,_,o,_,_,e,ex,_⟩:=I.hok p _ hk
     exact ⟨o,e,ex⟩
   obtain ⟨o,e,ex⟩:=z
   refine ⟨⟨o,e,ex.1⟩,fun a e2=>?_⟩
   cases e2
   exact ⟨o,e,ex.2.1⟩
  ·obtain ⟨o,_,_,_,e,ex,_⟩:=I.hok p _ hk
   refine ⟨⟨o,e,ex.1⟩,fun a e2=>?_⟩
   cases e2
   exact ⟨o,e,ex.2.1⟩
 | _=>exact Ih ty
noncomputable def tBM0 (K:GW) (T:String) (r:V→List V→Hp→VK→Prop) (to:TE):TE:=fun σ H Q=>to σ H fun x H1=>tyV K T x H1∧r x [] H1 Q
noncomputable def tBM (K:GW) (T:String) (r:V→List V→Hp→VK→Prop) (to:TE) (t:TA):TE:=fun σ H Q=>to σ H fun x H1=>tyV K T x H1∧t σ H1 fun xs H2=>r x xs H2 Q
variable {o e:Expr} {es:List Expr} {to:TE} {t:TA} {name:Str} {apos cpos:Pos} {T id:String} {r:V→List V→Hp→VK→Prop}
theorem xV (pa:PlainAttrs T) (slot:Slot T name id) (hty:typeOf (.builtin id)=pure (.type "method_descriptor")) (hm:MtR X id r) (ho:PE X o to)
 (hbase:attributeBase o name X.env (eval o X.env)=eval o X.env:=by rfl) (hline:(apos.endLine == cpos.line)=true:=by rfl):PE X (.Call (.Attribute o name apos) [] [] cpos) (tBM0 X.K T r to):=by
 intro pins s σ H Q I h
 refine wpAny_Call_method0_late hbase hline (thn (ho pins s σ H _ I h) fun v s1 ⟨x,H1,I1,r1,ty,q1⟩=>?_)
 obtain ⟨h1,h2⟩:=xU I1 r1 ty
 exact ⟨T,id,pa,slot,hty,h1,h2,Mu rfl (MD (hm pins s1 σ H1 x [] v [] Q I1 r1 .nil q1))⟩
theorem pe_bm (pa:PlainAttrs T) (slot:Slot T name id) (hty:typeOf (.builtin id)=pure (.type "method_descriptor")) (hm:MtR X id r) (ho:PE X o to) (ha:PA X (e::es) t)
 (hbase:attributeBase o name X.env (eval o X.env)=eval o X.env:=by rfl)
 (hfew:((backTo cpos (starEach (e::es) X.env)).all (fun x=> !x.1) && (backToKw cpos (keywordEach [] X.env)).all (fun x=>x.1.isSome)
   && decide ((e::es).length+([]:List Keyword).length+(if ([]:List Keyword).isEmpty then 0 else 1)<30))=true:=by rfl)
 (hline:(apos.endLine == cpos.line)=true:=by rfl) (hs:starEach (e::es) X.env=(false,eval e X.env)::starEach es X.env:=by rfl) (hplain:(backTo cpos (starEach es X.env)).any (·.1)=false:=by rfl) :
 PE X (.Call (.Attribute o name apos) (e::es) [] cpos) (tBM X.K T r to t):=by
 intro pins s σ H Q I h
 refine wpAny_Call_method_late hbase hfew hline rfl (thn (ho pins s σ H _ I h) fun v s1 ⟨x,H1,I1,r1,ty,q1⟩=>?_)
 obtain ⟨h1,h2⟩:=xU I1 r1 ty
 refine ⟨T,id,pa,slot,hty,h1,h2,?_⟩
 have hA:=ha cpos pins s1 σ H1 _ I1 q1
 rw [hs] at hA ⊢
 refine Mu (by show (false || (backTo cpos (starEach es X.env)).any (·.1))=false; rw [hplain] <;> rfl) (Calls.evalArgs_plain ?_)
 exact thn hA fun us s2 ⟨vs,H2,I2,r2,q2⟩=>hm pins s2 σ H2 x vs v us Q I2 r1 r2 q2
end
noncomputable def MtM (X:Cx) (id:String) (r:V→List V→Hp→VK→Prop):Prop :=
 ∀ (pins:List (Addr×Obj)) (s:Shared) (σ:St) (H:Hp) (x:V) (xs:List V) (v:Value) (us:List Value) (Q:VK),Inv X pins σ H s→RelV x v→Vals xs us→r x xs H Q →
  wpAny (model X.prog X.w) X.A (call (.builtin id) (v::us)) (EP X pins σ Q) X.xe s
theorem Vals.one:∀ {x:V} {us:List Value},Vals [x] us→∃ u,us=[u]∧RelV x u
 | _,_,.cons r .nil=>⟨_,rfl,r⟩
theorem Vals.zero:∀ {us:List Value},Vals [] us→us=[]
 | _,.nil=>rfl
theorem Vals.dropLast {xs:List V} {us:List Value} (h:Vals xs us):Vals xs.dropLast us.dropLast:=by
 induction h with
 | nil=>exact .nil
 | cons r t ih =>
  cases t with
  | nil=>exact .nil
  | cons q t'=>exact .cons r ih
theorem Vals.rep {xs:List V} {us:List Value} (h:Vals xs us):∀ k:Nat,Vals (Hh k xs).flatten (Hh k us).flatten
 | 0=>.nil
 | k+1=>by
  rw [Jh,Jh,JW,JW]
  exact Vals.append h (Vals.rep h k)
theorem qU {α:Type} (l:List α):l.eraseIdx (l.length - 1)=l.dropLast:=by
 induction l with
 | nil=>rfl
 | cons a r ih =>
  cases r with
  | nil=>rfl
  | cons b r =>
   have e:(a::b::r).length - 1=((b::r).length - 1)+1:=by
    have h1:(a::b::r).length=r.length+2:=rfl
    have h2:(b::r).length=r.length+1:=rfl
    omega
   rw [e,List.eraseIdx_cons_succ,ih]
   all_goals rfl
theorem foldl_rep (its:List Value):∀ (k:Nat) (acc:List Value),
 KD (fun x1 x2=>x1++x2) acc.toArray (Hh k its.toArray)=(acc++(Hh k its).flatten).toArray
 | 0,acc=>by simp
 | k+1,acc=>by
  have e:acc.toArray++its.toArray=(acc++its).toArray:=by simp
  have e2:(acc++its)++(Hh k its).flatten=acc++(Hh (k+1) its).flatten:=by
   rw [Jh,JW,Hw]
  rw [← e2,← foldl_rep its k (acc++its),← e,Jh,IL]
section
variable {X:Cx} {pins:List (Addr×Obj)} {σ:St} {H:Hp} {s:Shared} {l b:Addr} {xs ys zs:List V}
theorem Inv.qV {its its':List Value} {n:Nat} {f:Array Value→Array Value} {t':Nat} (I:Inv X pins σ H s) (hH:H l=some (.lst xs))
 (e:s.heap.get? l=some { cls:=.type "list",data:=.seq its.toArray n }) (hf:f its.toArray=its'.toArray) (hv:Vals ys its') (hz:ys.length≤sizeLine) :
 Inv X pins σ (upd H l (.lst ys)) { s with heap:=s.heap.update l (HG f),toks:=t' }:=by
 have q:=PySem.IsL.update e f
 rw [hf] at q
 refine I.write (x:=l) (e:=l) (by rw [hH]; exact trivial) (.inl rfl) (fun b' u hb hu=>(Lk s.heap (HG f) (Hu hb)).trans hu) ⟨_,q⟩ ?_
 exact ⟨hz,its',_,hv,q⟩
theorem Inv.BG {its:List Value} {t':Nat} (I:Inv X pins σ H s) (hv:Vals ys its) (hz:ys.length≤sizeLine) :
 Inv X pins σ (upd H s.heap.objs.size (.lst ys)) { s with heap:=s.heap.push { cls:=.type "list",data:=.seq its.toArray },toks:=t' } :=
 I.laid (fun _ _ q=>G1 _ q) (GZ _) ⟨hz,its,0,hv,G7 _ rfl⟩
theorem Inv.fresh (I:Inv X pins σ H s):H s.heap.objs.size=none:=I.hok.fresh (GZ _)
theorem Inv.oJ (I:Inv X pins σ H s) (hH:H l=some (.lst xs)):xs.length≤sizeLine∧∃ (its:List Value) (n:Nat),Vals xs its∧xs.length=its.length∧s.heap.get? l=some { cls:=.type "list",data:=.seq its.toArray n }:=by
 obtain ⟨z,its,n,r,e⟩:=I.hok l _ hH
 exact ⟨z,its,n,r,r.length,e⟩
theorem xW {n:Nat} (h:n≤sizeLine):Mj n=false:=by
 unfold Mj
 exact decide_eq_false (by omega)
end
section
variable {X:Cx}
noncomputable def BH:V→List V→Hp→VK→Prop:=fun x vs H Q=>∃ l xs y,x=.ref l∧vs=[y]∧H l=some (.lst xs)∧xs.length<sizeLine∧Q .non (upd H l (.lst (xs++[y])))
theorem lI:MtM X "list.append" BH:=by
 intro pins s σ H x vs v us Q I rx rv h
 obtain ⟨l,xs,y,rfl,rfl,hH,hz,q⟩:=h
 cases rx
 obtain ⟨u,rfl,ru⟩:=rv.one
 obtain ⟨z,its,n,r,hl,e⟩:=I.oJ hH
 refine K7 F.slot_list_append ⟨_,e,rfl⟩ F.entry_list_append (F.args_list_append_2 _ _) (PySem.list_append l its.toArray n u (by rw [Hq]; omega)) ⟨e,?_⟩
 refine ⟨.non,_,I.qV (its':=its++[u]) hH e (by simp) (r.append (.cons ru .nil)) ?_,rfl,q⟩
 rw [HQ,JU]
 omega
noncomputable def rPop:V→List V→Hp→VK→Prop:=fun x vs H Q=>∃ l xs y,x=.ref l∧vs=[]∧H l=some (.lst xs)∧xs[xs.length - 1]?=some y∧Q y (upd H l (.lst xs.dropLast))
theorem EU:MtM X "list.pop" rPop:=by
 intro pins s σ H x vs v us Q I rx rv h
 obtain ⟨l,xs,y,rfl,rfl,hH,hy,q⟩:=h
 cases rx
 have hus:=rv.zero
 subst hus
 obtain ⟨z,its,n,r,hl,e⟩:=I.oJ hH
 obtain ⟨u,hu,ru⟩:=r.get hy
 have hy':its.toArray[its.toArray.size - 1]?=some u:=by
  show its.toArray[its.length - 1]?=some u
  rw [← Ia,← hl]
  exact hu
 refine K7 F.slot_list_pop ⟨_,e,rfl⟩ F.entry_list_pop (F.args_list_pop_1 _) (MeetsSeq.list_pop_last l its.toArray n u hy' (by rw [Hq]; omega)) ⟨e,?_⟩
 refine ⟨y,_,I.qV (its':=its.dropLast) hH e ?_ r.dropLast ?_,ru,q⟩
 ·show its.toArray.eraseIdxIfInBounds (its.toArray.size - 1)=its.dropLast.toArray
  rw [Hq,List.eraseIdxIfInBounds_toArray,qU]
 ·rw [List.length_dropLast]
  omega
noncomputable def rRep:R2:=fun x y H Q=>∃ l k xs,x=.ref l∧y=.int k∧H l=some (.lst xs)∧ -(2 ^ 63)≤k∧k<2 ^ 63∧xs.length * k.toNat≤sizeLine ∧
 ∀ p,H p=none→Q (.ref p) (upd H p (.lst (Hh k.toNat xs).flatten))
theorem len_rep {α:Type} (xs:List α) (k:Nat):(Hh k xs).flatten.length=k * xs.length:=by
 induction k with
 | zero=>simp
 | succ k ih=>rw [Jh,JW,HQ,ih,K1,Nat.add_comm]
theorem EW:OpR X (binaryOp .Mult) rRep:=by
 intro pins s σ H x y v u Q I rx ry h
 obtain ⟨l,k,xs,rfl,rfl,hH,h1,h2,hz,q⟩:=h
 cases rx
 obtain ⟨t,rfl⟩:=ry
 obtain ⟨z,its,n,r,hl,e⟩:=I.oJ hH
 have hlen:its.toArray.size * k.toNat≤sizeLine:=by rw [Hq,← hl]; exact hz
 have hcap:¬ its.toArray.size * k.toNat>(2 ^ 63 - 1) / 8:=by
  have:(sizeLine:Nat)≤(2 ^ 63 - 1) / 8:=by decide
  omega
 have hfit:¬ (!Builtin.List.listFitsIndex k)=true:=by
  rw [fitsIndex_both h1 h2]
  exact G6
 have hlong:¬ Mj (its.toArray.size * k.toNat)=true:=by
  rw [xW hlen]
  exact G6
 have hnew:KD (fun x1 x2=>x1++x2) #[] (Hh (if its.toArray.isEmpty=true then 0 else k.toNat) its.toArray)=(Hh k.toNat its).flatten.toArray:=by
  have f0:∀ m:Nat,KD (fun x1 x2=>x1++x2) #[] (Hh m its.toArray)=(Hh m its).flatten.toArray:=fun m=>by
   have:=foldl_rep its m []
   rw [JA] at this
   exact this
  rw [f0]
  cases its with
  | nil=>simp
  | cons a r'=>rw [if_neg (by simp)]
 refine wpAny_binaryOp_repeat_ref (T:="list") (U:="int") (by decide) ⟨_,e,rfl⟩ (fun s'=>K6 s' k t) noFill_list_mul F.fills_int_mul LO repeat_list F.slot_int_index.lookup
  (K7 LO (K6 s k t) F.entry_int_rmul (F.args_int_rmul_2 _ _) (int___rmul___int_list k t l its.toArray n)
    ⟨e,rfl,⟨_,e,rfl⟩,K7 F.slot_list_mul ⟨_,e,rfl⟩ F.entry_list_mul (F.args_list_mul_2 _ _) (AutoListH.list___mul___list_int_3 l its.toArray n k t hfit hcap hlong) ⟨e,?_⟩⟩)
 rw [hnew]
 exact ⟨.ref _,_,I.BG (t':=s.toks) (r.rep k.toNat) (by rw [len_rep,L7]; exact hz),rfl,q _ I.fresh⟩
end
section
variable {prog:Program} {w:World} {A:Around} {E:Value→Shared→Prop} {s:Shared}
end
section
variable {X:Cx}
end
section
variable {κ:Type} [DecidableEq κ]
noncomputable def jP (kvs:List (κ×V)) (k:κ):Option V:=(kvs.find? fun kv=>decide (kv.1=k)).map (·.2)
noncomputable def putK (kvs:List (κ×V)) (k:κ) (v:V):List (κ×V) :=
 if (kvs.any fun kv=>decide (kv.1=k))=true then kvs.map (fun kv=>if kv.1=k then (kv.1,v) else kv) else kvs++[(k,v)]
theorem jQ {p:κ×V} {r:List (κ×V)} {k:κ} (e:p.1=k):jP (p::r) k=some p.2:=by simp [jP,IX,e]
theorem jR {p:κ×V} {r:List (κ×V)} {k:κ} (e:¬ p.1=k):jP (p::r) k=jP r k:=by simp [jP,IX,e]
theorem oM (k:κ):∀ kvs:List (κ×V),(kvs.any fun kv=>decide (kv.1=k))=(jP kvs k).isSome
 | []=>rfl
 | p::r=>by
  rw [List.any_cons]
  by_cases e:p.1=k
  ·simp only [jQ e,decide_eq_true e,Bool.true_or,Option.isSome_some]
  ·rw [jR e,decide_eq_false e,Bool.false_or]; exact oM k r
theorem oN (kvs:List (κ×V)) (k:κ) (v:V):(putK kvs k v).length≤kvs.length+1:=by
 unfold putK
 split
 ·rw [G4]; omega
 ·rw [HQ,HV,Jk]; omega
theorem jc.iA {o:Option V} {u:Option Value} (r:jc o u):o.isSome=u.isSome:=by
 cases o with
 | none=>cases u with
  | none=>rfl
  | some _=>exact (show False from r).elim
 | some _=>cases u with
  | none=>exact (show False from r).elim
  | some _=>rfl
theorem jc.getD {o:Option V} {u:Option Value} {d:V} {d':Value} (r:jc o u) (rd:RelV d d'):RelV (o.getD d) (u.getD d'):=by
 cases o with
 | none=>cases u with
  | none=>exact rd
  | some _=>exact (show False from r).elim
 | some _=>cases u with
  | none=>exact (show False from r).elim
  | some _=>exact r
theorem KV.val {kvs:List (κ×V)} {vs:List (κ×Value)} (r:KV kvs vs) (k:κ):jc (jP kvs k) (valueAt vs k):=by
 unfold KV at r
 induction r with
 | nil=>exact Jo
 | @cons p q ps qs h t ih =>
  obtain ⟨h1,h2⟩:=h
  by_cases e:p.1=k
  ·have e':q.1=k:=h1.symm.trans e
   have b:valueAt (q::qs) k=some q.2:=by simp [valueAt,IX,e']
   rw [jQ e,b]; exact h2
  ·have e':¬ q.1=k:=fun z=>e (h1.trans z)
   have b:valueAt (q::qs) k=valueAt qs k:=by simp [valueAt,IX,e']
   rw [jR e,b]; exact ih
theorem KV.any {kvs:List (κ×V)} {vs:List (κ×Value)} (r:KV kvs vs) (k:κ):(kvs.any fun kv=>decide (kv.1=k))=vs.any fun kv=>decide (kv.1=k):=by
 unfold KV at r
 induction r with
 | nil=>rfl
 | cons h t ih=>rw [List.any_cons,List.any_cons,ih,h.1]
theorem KV.repl {kvs:List (κ×V)} {vs:List (κ×Value)} (r:KV kvs vs) (k:κ) {y:V} {u:Value} (ry:RelV y u) :
 KV (kvs.map fun kv=>if kv.1=k then (kv.1,y) else kv) (vs.map fun kv=>if kv.1=k then (kv.1,u) else kv):=by
 unfold KV at r ⊢
 induction r with
 | nil=>exact .nil
 | @cons p q ps qs h t ih =>
  rw [G3,G3]
  refine .cons ?_ ih
  obtain ⟨h1,h2⟩:=h
  by_cases e:p.1=k
  ·rw [if_pos e,if_pos (h1.symm.trans e)]; exact ⟨h1,ry⟩
  ·rw [if_neg e,if_neg (fun z=>e (h1.trans z))]; exact ⟨h1,h2⟩
theorem KV.put {kvs:List (κ×V)} {vs:List (κ×Value)} (r:KV kvs vs) (k:κ) {y:V} {u:Value} (ry:RelV y u):KV (putK kvs k y) (stored vs k u):=by
 unfold putK stored
 rw [r.any k]
 by_cases e:(vs.any fun kv=>decide (kv.1=k))=true
 ·rw [if_pos e,if_pos e]; exact r.repl k ry
 ·rw [if_neg e,if_neg e]; exact Mc r ⟨rfl,ry⟩
theorem KV.length {kvs:List (κ×V)} {vs:List (κ×Value)} (r:KV kvs vs):kvs.length=vs.length:=IZ r
end
theorem oO {P:Program} {w:World} {k:Key} {u:Value} (r:RelV (kV k) u):(bC P w).is k u=true:=by
 cases k with
 | inl i=>obtain ⟨t,e⟩:=(show ∃ t,u=JM i t from r); subst e; exact oA P w i t
 | inr x=>obtain ⟨t,e⟩:=(show ∃ t,u=K8 x t from r); subst e; exact oB P w x t
theorem lJ {P:Program} {w:World}:∀ {ks:List Key} {us:List Value},Vals (ks.map kV) us→ItemsAre (bC P w) ks us
 | [],_,r=>by rw [Jc] at r; cases r; exact .nil
 | k::ks,_,r=>by
  rw [G3] at r
  cases r with
  | cons h t=>exact .cons (oO h) (lJ t)
noncomputable abbrev KT:List (List Key×Addr×V)→List (List Key×Addr×Value)→Prop:=Paired fun p q=>p.1=q.1∧p.2.1=q.2.1∧RelV p.2.2 q.2.2
noncomputable def atT (kvs:List (List Key×Addr×V)) (k:List Key):Option V:=(kvs.find? fun kv=>decide (kv.1=k)).map (·.2.2)
noncomputable def mZ (k:List Key) (v:V) (x:List Key×Addr×V):List Key×Addr×V:=if x.1=k then (x.1,x.2.1,v) else x
noncomputable def oQ (kvs:List (List Key×Addr×V)) (k:List Key) (b:Addr) (v:V):List (List Key×Addr×V) :=
 if (atT kvs k).isSome=true then kvs.map (mZ k v) else kvs++[(k,b,v)]
theorem oR (kvs:List (List Key×Addr×V)) (k:List Key) (b:Addr) (v:V):(oQ kvs k b v).length≤kvs.length+1:=by
 unfold oQ
 split
 ·rw [G4]; omega
 ·rw [HQ,HV,Jk]; omega
theorem KT.val {kvs:List (List Key×Addr×V)} {xs:List (List Key×Addr×Value)} (r:KT kvs xs) (k:List Key):jc (atT kvs k) ((atKey xs k).map (·.2)):=by
 induction r with
 | nil=>exact Jo
 | @cons p q ps qs h t ih =>
  obtain ⟨h1,_,h2⟩:=h
  by_cases e:p.1=k
  ·have e':q.1=k:=h1.symm.trans e
   have b:atKey (q::qs) k=some q.2:=by simp [atKey,IX,e']
   have b2:atT (p::ps) k=some p.2.2:=by simp [atT,IX,e]
   rw [b2,b]; exact h2
  ·have e':¬ q.1=k:=fun z=>e (h1.trans z)
   have b:atKey (q::qs) k=atKey qs k:=by simp [atKey,IX,e']
   have b2:atT (p::ps) k=atT ps k:=by simp [atT,IX,e]
   rw [b2,b]; exact ih
theorem KT.repl {kvs:List (List Key×Addr×V)} {xs:List (List Key×Addr×Value)} (r:KT kvs xs) (k:List Key) {y:V} {u:Value} (ry:RelV y u) :
 KT (kvs.map (mZ k y)) (xs.map (putAt k u)):=by
 induction r with
 | nil=>exact .nil
 | @cons p q ps qs h t ih =>
  rw [G3,G3]
  refine .cons ?_ ih
  obtain ⟨h1,h2,h3⟩:=h
  unfold putAt mZ
  by_cases e:p.1=k
  ·rw [if_pos e,if_pos (h1.symm.trans e)]; exact ⟨h1,h2,ry⟩
  ·rw [if_neg e,if_neg (fun z=>e (h1.trans z))]; exact ⟨h1,h2,h3⟩
theorem KT.put {kvs:List (List Key×Addr×V)} {xs:List (List Key×Addr×Value)} (r:KT kvs xs) (k:List Key) {b:Addr} {y:V} {u:Value} (ry:RelV y u) :
 KT (oQ kvs k b y) (storedH xs k b u):=by
 have e:(atT kvs k).isSome=(atKey xs k).isSome:=by
  rw [(r.val k).iA,JV]
 unfold oQ storedH
 rw [e]
 by_cases q:(atKey xs k).isSome=true
 ·rw [if_pos q,if_pos q]; exact r.repl k ry
 ·rw [if_neg q,if_neg q]; exact Mc r ⟨rfl,rfl,ry⟩
section
variable {P:Program} {w:World} {H:Hp} {h:Heap} {a:Addr}
theorem xX {u:HO} (ok:HOk P w H h) (e:Rd H a u):aS P w H h a u:=e.ok ok
theorem lK {kvs:List (Key×V)} (ok:HOk P w H h) (e:Rd H a (.dK kvs)):kvs.length≤sizeLine∧(a == sysModules)=false∧∃ vs,KV kvs vs∧h.DictOf (bC P w) a vs :=
 show aS P w H h a (.dK kvs) from xX ok e
theorem dk_of {kvs:List (Key×V)} (ok:HOk P w H h) (e:H a=some (.dK kvs)):kvs.length≤sizeLine∧(a == sysModules)=false∧∃ vs,KV kvs vs∧h.DictOf (bC P w) a vs:=lK ok (.inl e)
end
section
variable {X:Cx} {pins:List (Addr×Obj)} {σ:St} {H:Hp} {s:Shared} {a:Addr}
theorem jS {ks:List Key} (I:Inv X pins σ H s) (e:SqT X.K H a (ks.map kV)):(tupleKind (bC X.prog X.w)).is s.heap ks a:=by
 obtain ⟨its,r,⟨o,h1,h2,n,h3⟩,_⟩:=I.tuple e
 exact ⟨o,its.toArray,n,h1,h2,h3,by simpa using lJ r⟩
theorem oS {kvs:List (List Key×Addr×V)} (I:Inv X pins σ H s) (e:Rd H a (.dT kvs)) (hk:∀ x∈kvs,SqT X.K H x.2.1 (x.1.map kV)):kvs.length≤sizeLine∧(a == sysModules)=false ∧
 ∃ xs,KT kvs xs∧s.heap.DictOfH (tupleKind (bC X.prog X.w)) a xs:=by
 obtain ⟨z,y,xs,r,o,es,ep,h1,h2,h3,h4,h5⟩:=(show aS X.prog X.w H s.heap a (.dT kvs) from xX I.hok e)
 refine ⟨z,y,xs,r,o,es,ep,h1,h2,h3,h4,?_,h5⟩
 have all:∀ {l:List (List Key×Addr×V)} {m:List (List Key×Addr×Value)},KT l m→(∀ x∈l,SqT X.K H x.2.1 (x.1.map kV))→∀ x∈m,(tupleKind (bC X.prog X.w)).is s.heap x.1 x.2.1:=by
  intro l m q
  induction q with
  | nil=>intro _ x hx; exact nomatch hx
  | @cons p q ps qs hq t ih =>
   intro hl x hx
   rcases G5.mp hx with e | hx
   ·subst e
    rw [← hq.1,← hq.2.1]
    exact jS I (hl p Hg)
   ·exact ih (fun y hy=>hl y (Hl _ hy)) x hx
 exact all r hk
end
noncomputable def m9 (K:GW) (H:Hp) (a:Addr) (y:V) (r:Option V):Prop :=
 (∃ kvs k,Rd H a (.dK kvs)∧y=kV k∧r=jP kvs k)∨∃ kvs k b,Rd H a (.dT kvs)∧(∀ x∈kvs,SqT K H x.2.1 (x.1.map kV))∧y=.ref b∧SqT K H b (k.map kV)∧r=atT kvs k
noncomputable def BI (K:GW) (H:Hp) (a:Addr) (y v:V) (H':Hp):Prop :=
 (∃ kvs k,H a=some (.dK kvs)∧y=kV k∧kvs.length<sizeLine∧H'=upd H a (.dK (putK kvs k v))) ∨
 ∃ kvs k b,H a=some (.dT kvs)∧(∀ x∈kvs,SqT K H x.2.1 (x.1.map kV))∧y=.ref b∧SqT K H b (k.map kV)∧kvs.length<sizeLine∧H'=upd H a (.dT (oQ kvs k b v))
section
variable {X:Cx} {pins:List (Addr×Obj)} {σ:St} {H:Hp} {s:Shared} {a:Addr} {y v:V} {u r:Value} {o:Option V} {A:Around} {E:Value→Shared→Prop}
theorem Inv.big (I:Inv X pins σ H s):sysModules<s.heap.objs.size:=by
 have h:mainGlobals<s.heap.objs.size:=(I.mod.glob.keeps I.bk).lt
 exact Nat.lt_trans (by decide) h
theorem lM {Q:Value→Shared→Prop} (hu:A.units+1<cLine) (I:Inv X pins σ H s) (g:m9 X.K H a y (some v)) (ry:RelV y u) (h:∀ w' s',Inv X pins σ H s'→RelV v w'→Q w' s') :
 wpAny (model X.prog X.w) A (getItem (.ref a) u) Q E s:=by
 rcases g with ⟨kvs,k,e,ey,l⟩ | ⟨kvs,k,b,e,hk,ey,eb,l⟩
 ·subst ey
  obtain ⟨z,hd,vs,rel,dd⟩:=lK I.hok e
  obtain ⟨w',hw,rw'⟩:=jc.some_of (v:=v) (o:=valueAt vs k) (by rw [l]; exact rel.val k)
  exact wpAny_getItem_of (oO ry) dd.mapOf hw (h w' _ (I.tok _) rw')
 ·subst ey
  cases (show u=Hr b from ry)
  obtain ⟨z,hd,xs,rel,dd⟩:=oS I e hk
  obtain ⟨w',hw,rw'⟩:=jc.some_of (v:=v) (o:=(atKey xs k).map (·.2)) (by rw [l]; exact rel.val k)
  obtain ⟨p,hp,hp2⟩:=Hj.mp hw
  refine wpAny_getItem_heap (Lq hu) (jS I eb) dd hp ?_
  rw [hp2]
  exact h w' _ (I.tok _) rw'
theorem d_in {Q:Value→Shared→Prop} (hu:A.units+1<cLine) (I:Inv X pins σ H s) (g:m9 X.K H a y o) (ry:RelV y u) (h:∀ s',Inv X pins σ H s'→Q (.bool o.isSome) s') :
 wpAny (model X.prog X.w) A (compareOp .In u (.ref a)) Q E s:=by
 rcases g with ⟨kvs,k,e,ey,l⟩ | ⟨kvs,k,b,e,hk,ey,eb,l⟩
 ·subst ey
  obtain ⟨z,hd,vs,rel,dd⟩:=lK I.hok e
  refine wpAny_in_of (oO ry) hd dd.mapOf ?_
  rw [← (rel.val k).iA,← l]
  exact h _ (I.tok _)
 ·subst ey
  cases (show u=Hr b from ry)
  obtain ⟨z,hd,xs,rel,dd⟩:=oS I e hk
  refine wpAny_in_heap (Lq hu) (jS I eb) hd dd ?_
  have q:=(rel.val k).iA
  rw [JV] at q
  rw [← q,← l]
  exact h _ (I.tok _)
theorem sZ {h':Heap} {t':Nat} {ob:HO} (I:Inv X pins σ H s) (mu:Mut (H a)) (hs:Jj a s.heap h') (he:∃ q,h'.get? a=some q) (new:aS X.prog X.w (upd H a ob) h' a ob) :
 Inv X pins σ (upd H a ob) { s with heap:=h',toks:=t' } :=
 I.write (x:=a) (e:=a) mu (.inl rfl) (fun b q hb z=>(hs.2 b hb).trans z) he new
theorem EX {P:Program} {w:World} {H':Hp} {h':Heap} {kvs:List (Key×V)} {vs:List (Key×Value)} (z:kvs.length≤sizeLine) (hd:(a == sysModules)=false) (rel:KV kvs vs) (dd:h'.DictOf (bC P w) a vs) :
 aS P w H' h' a (.dK kvs):=⟨z,hd,vs,rel,dd⟩
theorem lN {H':Hp} {Q:Unit→Shared→Prop} (hu:A.units+1<cLine) (I:Inv X pins σ H s) (g:BI X.K H a y v H') (ry:RelV y u) (rv:RelV v r) (h:∀ s',Inv X pins σ H' s'→Q () s') :
 wpAny (model X.prog X.w) A (setItem (.ref a) u r) Q E s:=by
 rcases g with ⟨kvs,k,e,ey,l,eH⟩ | ⟨kvs,k,b,e,hk,ey,eb,l,eH⟩
 ·subst ey eH
  obtain ⟨z,hd,vs,rel,dd⟩:=dk_of I.hok e
  have hz:vs.length≤sizeLine:=by rw [← rel.length]; exact z
  have hl:(putK kvs k v).length≤sizeLine:=by have:=oN kvs k v; omega
  refine wpAny_setItem_pairs (hsz:=hz) (oO ry) dd fun h' dd' hs=>h _ ?_
  have he:∃ q,h'.get? a=some q:=let ⟨q,_,_,hq,_⟩:=dd'; ⟨q,hq⟩
  exact sZ I (by rw [e]; exact Jo) hs he (EX hl hd (rel.put k rv) dd')
 ·subst ey eH
  cases (show u=Hr b from ry)
  obtain ⟨z,hd,xs,rel,dd⟩:=oS I (.inl e) hk
  have hz:xs.length≤sizeLine:=by rw [← IZ rel]; exact z
  have hl:(oQ kvs k b v).length≤sizeLine:=by have:=oR kvs k b v; omega
  refine wpAny_setItem_heap (hsz:=hz) (Lq hu) (jS I eb) dd fun h' dd' hs=>h _ ?_
  obtain ⟨q,es,ep,hq,h2,h3,h4,_,h5⟩:=dd'
  exact sZ I (by rw [e]; exact Jo) hs ⟨q,hq⟩ ⟨hl,hd,_,rel.put k rv,q,es,ep,hq,h2,h3,h4,h5⟩
end
section
variable {X:Cx} {pins:List (Addr×Obj)} {σ:St} {H:Hp} {s:Shared} {a:Addr} {kvs:List (Key×V)} {k:Key} {u:Value} {A:Around} {E:Value→Shared→Prop}
end
noncomputable def NoSl (i:Expr):Prop:=∀ ov iv,subscripted i false ov iv=operate [ov,iv] (getItem ov iv)
theorem BJ {prog:Program} {w:World} {A:Around} {E:Value→Shared→Prop} {s:Shared} {env:Env} {value slice:Expr} {pos:Pos} {T id:String} {Q:Value→Shared→Prop}
 (hl:typeLookup (.type T) "__getitem__"=pure (some (.builtin id))) (hs:NoSl slice)
 (h:wpAny (model prog w) A (eval value env) (fun o s₁=>wpAny (model prog w) A (eval slice env) (fun i s₂=>s₂.TypeIs o T∧wpAny (model prog w) A (getItem o i) Q E s₂) E s₁) E s) :
 wpAny (model prog w) A (eval (.Subscript value slice pos) env) Q E s:=by
 refine Subscript_ (HU h (fun o s₁ h₁=>HU h₁ (fun i s₂ h₂=>?_) fun _ _ x=>x) fun _ _ x=>x)
 obtain ⟨hT,h₂⟩:=h₂
 unfold subscriptTail
 refine GU ?_
 rw [getitemInPython_of_ne hT.not_modules]
 refine GU (wpAny_specialOf hT hl ?_)
 have fin:wpAny (model prog w) A (subscripted slice false o i) (fun r s₃=>wpAny (model prog w) A (letTemporaryGo value o r >>= fun _=>pure r) Q E s₃) E s₂:=by
  rw [hs o i]
  exact wpAny_operating (HU h₂ (fun r s₃ h₃=>GU (wpAny_letTemporaryGo (GX h₃))) fun _ _ x=>x)
 first
  | exact GX (GU fin)
  | exact GU (GX (GU fin))
  | exact GU fin
theorem oU {X:Cx} {pins:List (Addr×Obj)} {σ:St} {H:Hp} {s:Shared} {a:Addr} {y:V} {o:Option V} (I:Inv X pins σ H s) (g:m9 X.K H a y o):s.TypeIs (.ref a) "dict":=by
 rcases g with ⟨kvs,k,e,_,_⟩ | ⟨kvs,k,b,e,hk,_,_,_⟩
 ·obtain ⟨_,_,vs,_,dd⟩:=lK I.hok e
  exact dd.typeIs
 ·obtain ⟨_,_,xs,_,dd⟩:=oS I e hk
  exact dd.typeIs
noncomputable def tDGet (X:Cx) (td ty:TE):TE:=fun σ H Q=>td σ H fun x H1=>ty σ H1 fun y H2=>∃ a v,x=.ref a∧m9 X.K H2 a y (some v)∧Q v H2
noncomputable def tDIn (X:Cx) (ty td:TE):TE:=fun σ H Q=>ty σ H fun y H1=>td σ H1 fun x H2=>∃ a o,x=.ref a∧m9 X.K H2 a y o∧Q (.bl o.isSome) H2
noncomputable def sDPut (X:Cx) (td ty tv:TE):TS:=fun D σ H=>tv σ H fun v H1=>td σ H1 fun x H2=>ty σ H2 fun y H3=>∃ a H4,x=.ref a∧BI X.K H3 a y v H4∧D.nx σ H4
noncomputable def sDAug (X:Cx) (td ty tv:TE) (rd:V→V→Hp→VK→Prop):TS:=fun D σ H=>td σ H fun x H1=>ty σ H1 fun y H2=>∃ a v,x=.ref a∧m9 X.K H2 a y (some v) ∧
 tv σ H2 fun y2 H3=>rd v y2 H3 fun z H4=>∃ H5,BI X.K H4 a y z H5∧D.nx σ H5
section
variable {X:Cx} {o i e value:Expr} {pos pos' tpos:Pos} {td ty tv:TE}
theorem BK (hu:X.A.units+1<cLine) (ho:PE X o td) (hi:PE X i ty) (hs:NoSl i):PE X (.Subscript o i pos) (tDGet X td ty):=by
 intro pins s σ H Q I h
 refine BJ PySem.F.slot_dict_getitem.lookup hs (thn (ho pins s σ H _ I h) fun u s1 ⟨x,H1,I1,rx,q1⟩=>thn (hi pins s1 σ H1 _ I1 q1) fun iv s2 ⟨y,H2,I2,ry,a,v,ex,g,q2⟩=>?_)
 subst ex
 obtain rfl:u=Hr a:=rx
 exact ⟨oU I2 g,lM hu I2 g ry fun w' s3 I3 rw'=>⟨v,H2,I3,rw',q2⟩⟩
theorem EY (hu:X.A.units+1<cLine) (hi:PE X i ty) (ho:PE X o td):PC X .In i o (tDIn X ty td):=by
 intro pins s σ H Q I h
 refine thn (hi pins s σ H _ I h) fun iv s1 ⟨y,H1,I1,ry,q1⟩=>thn (ho pins s1 σ H1 _ I1 q1) fun u s2 ⟨x,H2,I2,rx,a,ov,ex,g,q2⟩=>?_
 subst ex
 obtain rfl:u=Hr a:=rx
 exact d_in hu I2 g ry fun s3 I3=>⟨.bl ov.isSome,H2,I3,rfl,q2⟩
theorem BL (hu:X.A.units+1<cLine) (ho:PE X o td) (hi:PE X i ty) (hv:PE X value tv) (hs:swapsWith value (some (.Subscript o i pos')) pos.line X.env=pure false) :
 PS X (.Assign [.Subscript o i pos'] value pos) (sDPut X td ty tv):=by
 intro pins s σ H D I h
 refine wpAny_Assign_Subscript (thn (hv pins s σ H _ I h) fun r s1 ⟨v,H1,I1,rv,q1⟩=>thn (ho pins s1 σ H1 _ I1 q1) fun u s2 ⟨x,H2,I2,rx,q2⟩=>thn (hi pins s2 σ H2 _ I2 q2) fun iv s3 ⟨y,H3,I3,ry,a,H4,ex,g,q3⟩=>?_) hs
 subst ex
 obtain rfl:u=Hr a:=rx
 exact lN hu I3 g ry rv fun s4 I4=>⟨σ,H4,I4,q3⟩
theorem BN {op:Operator} {rd:V→V→Hp→VK→Prop} (hu:X.A.units+1<cLine) (ho:PE X o td) (hi:PE X i ty) (hv:PE X value tv) (hop:InOp X op rd)
 (ha:∀ ov iv new,augStore i ov iv new=(do holding [new,ov,iv] (setItem ov iv new); release [new,ov,iv] []; pure .next)):PS X (.AugAssign (.Subscript o i tpos) op value pos) (sDAug X td ty tv rd):=by
 intro pins s σ H D I h
 refine wpAny_AugAssign_SubscriptAny (thn (ho pins s σ H _ I h) fun u s1 ⟨x,H1,I1,rx,q1⟩=>thn (hi pins s1 σ H1 _ I1 q1) fun iv s2 ⟨y,H2,I2,ry,a,v,ex,g,q2⟩=>?_) ha
 subst ex
 obtain rfl:u=Hr a:=rx
 refine lM hu I2 g ry fun w' s3 I3 rw'=>thn (hv pins s3 σ H2 _ I3 q2) fun w2 s4 ⟨y2,H3,I4,ry2,q3⟩=>thn (hop pins s4 σ H3 v y2 w' w2 _ I4 rw' ry2 q3) fun w3 s5 ⟨z,H4,I5,rz,H5,g5,q4⟩=>?_
 exact lN hu I5 g5 ry rz fun s6 I6=>⟨σ,H5,I6,q4⟩
end
theorem xY {P:Program} {w:World} {H:Hp} (h:Heap) (hb:sysModules<h.objs.size):aS P w H (h.push { cls:=.type "dict",data:=.dict #[] }) h.objs.size (.dK []) :=
 ⟨HF _,beq_eq_false_iff_ne.mpr (Hu (Hs hb)),[],.nil,Heap.DictOf.new h⟩
theorem xZ {P:Program} {w:World} {H:Hp} (h:Heap) (hb:sysModules<h.objs.size):aS P w H (h.push { cls:=.type "dict",data:=.dict #[] }) h.objs.size (.dT []) :=
 ⟨HF _,beq_eq_false_iff_ne.mpr (Hu (Hs hb)),[],.nil,_,#[],0,G7 _ rfl,⟨rfl,rfl,rfl⟩,rfl,rfl,List.nodup_nil⟩
noncomputable def EZ:TE:=fun _ H Q=>∀ p,H p=none→Q (.ref p) (upd H p (.dK []))
noncomputable def E0:TE:=fun _ H Q=>∀ p,H p=none→Q (.ref p) (upd H p (.dT []))
section
variable {X:Cx} {pos:Pos}
theorem x6:PE X (.Dict [] [] pos) EZ:=fun pins s σ H Q I h =>
 wpAny_Dict_empty ⟨.ref s.heap.objs.size,_,I.laid (a:=s.heap.objs.size) (o:=.dK []) (t':=s.toks) (fun _ _ q=>G1 _ q) (GZ _) (xY s.heap I.big),rfl,h _ (I.hok.fresh (GZ _))⟩
theorem x8:PE X (.Dict [] [] pos) E0:=fun pins s σ H Q I h =>
 wpAny_Dict_empty ⟨.ref s.heap.objs.size,_,I.laid (a:=s.heap.objs.size) (o:=.dT []) (t':=s.toks) (fun _ _ q=>G1 _ q) (GZ _) (xZ s.heap I.big),rfl,h _ (I.hok.fresh (GZ _))⟩
end
structure M1 (X:Cx) (o:Expr) (m:Str) (apos:Pos) (e:Expr) (cpos:Pos):Prop where
 base:attributeBase o m X.env (eval o X.env)=eval o X.env
 few:((backTo cpos (starEach [e] X.env)).all (fun x=> !x.1) && (backToKw cpos (keywordEach [] X.env)).all (fun x=>x.1.isSome)
  && decide (([e]:List Expr).length+([]:List Keyword).length+(if ([]:List Keyword).isEmpty then 0 else 1)<30))=true
 line:(apos.endLine == cpos.line)=true
 trees:backTo cpos (starEach [e] X.env)=[(false,eval e X.env)]
structure M2 (X:Cx) (o:Expr) (m:Str) (apos:Pos) (e f:Expr) (cpos:Pos):Prop where
 base:attributeBase o m X.env (eval o X.env)=eval o X.env
 few:((backTo cpos (starEach [e,f] X.env)).all (fun x=> !x.1) && (backToKw cpos (keywordEach [] X.env)).all (fun x=>x.1.isSome)
  && decide (([e,f]:List Expr).length+([]:List Keyword).length+(if ([]:List Keyword).isEmpty then 0 else 1)<30))=true
 line:(apos.endLine == cpos.line)=true
 trees:backTo cpos (starEach [e,f] X.env)=[(false,eval e X.env),(false,eval f X.env)]
noncomputable def IsD (H:Hp) (a:Addr):Prop:=(∃ kvs,Rd H a (.dK kvs))∨∃ kvs,Rd H a (.dT kvs)
theorem E1 {X:Cx} {pins:List (Addr×Obj)} {σ:St} {H:Hp} {s:Shared} {a:Addr} (I:Inv X pins σ H s) (d:IsD H a) :
 s.TypeIs (.ref a) "dict"∧(∀ b,Hr a=.ref b→∃ ob,s.heap.get? b=some ob∧ob.dict=none)∧(a == sysModules)=false:=by
 rcases d with ⟨kvs,e⟩ | ⟨kvs,e⟩
 ·obtain ⟨_,hd,vs,_,dd⟩:=lK I.hok e
  refine ⟨dd.typeIs,fun b q=>?_,hd⟩
  cases q
  obtain ⟨ob,_,_,h1,h2,_⟩:=dd
  exact ⟨ob,h1,h2.2.1⟩
 ·obtain ⟨_,hd,xs,_,ob,es,ep,h1,h2,_⟩:=(show aS X.prog X.w H s.heap a (.dT kvs) from xX I.hok e)
  refine ⟨⟨ob,h1,h2.1⟩,fun b q=>?_,hd⟩
  cases q
  exact ⟨ob,h1,h2.2.1⟩
section
variable {X:Cx} {pins:List (Addr×Obj)} {σ:St} {H:Hp} {s:Shared} {a:Addr} {y d:V} {u r:Value} {o:Option V} {A:Around} {E:Value→Shared→Prop}
theorem E2 {Q:Value→Shared→Prop} (hu:A.units+1<cLine) (I:Inv X pins σ H s) (g:m9 X.K H a y o) (ry:RelV y u) (rd:RelV d r) (h:∀ w' s',Inv X pins σ H s'→RelV (o.getD d) w'→Q w' s') :
 wpAny (model X.prog X.w) A (call (.builtin "dict.get") [.ref a,u,r]) Q E s:=by
 rcases g with ⟨kvs,k,e,ey,l⟩ | ⟨kvs,k,b,e,hk,ey,eb,l⟩
 ·subst ey
  obtain ⟨z,hd,vs,rel,dd⟩:=lK I.hok e
  refine call_meetsIn Mx dd.typeIs PySem.F.entry_dict_get (PySem.F.args_dict_get_3 _ _ _) (meets_dict_get_default (bC X.prog X.w) a (oO ry) hd r) ⟨_,dd.mapOf,h _ _ (I.tok _) ?_⟩
  rw [l]
  exact (rel.val k).getD rd
 ·subst ey
  cases (show u=Hr b from ry)
  obtain ⟨z,hd,xs,rel,dd⟩:=oS I e hk
  refine call_meetsIn Mx dd.typeIs PySem.F.entry_dict_get (PySem.F.args_dict_get_3 _ _ _) (meetsH_dict_get_default (tupleKind (bC X.prog X.w)) a b hd r) ⟨Lq hu,k,xs,jS I eb,dd,h _ _ (I.tok _) ?_⟩
  rw [l]
  exact (rel.val k).getD rd
end
noncomputable def E3 (X:Cx) (td ty tx:TE):TE:=fun σ H Q=>td σ H fun x H1=>∃ a,x=.ref a∧IsD H1 a∧ty σ H1 fun y H2=>tx σ H2 fun z H3=>∃ o,m9 X.K H3 a y o∧Q (o.getD z) H3
section
variable {X:Cx} {o e f:Expr} {apos cpos:Pos} {td ty tx:TE}
theorem x9 (hu:X.A.units+1<cLine) (ho:PE X o td) (he:PE X e ty) (hf:PE X f tx) (m:M2 X o "get" apos e f cpos):PE X (.Call (.Attribute o "get" apos) [e,f] [] cpos) (E3 X td ty tx):=by
 intro pins s σ H Q I h
 refine ML m.base m.few m.line PySem.F.plainAttrs_dict Mx PySem.F.type_dict_get (thn (ho pins s σ H _ I h) fun u s1 ⟨x,H1,I1,rx,a,ex,d,q1⟩=>?_)
 subst ex
 obtain rfl:u=Hr a:=rx
 obtain ⟨t1,t2,_⟩:=E1 I1 d
 refine ⟨t1,t2,?_⟩
 rw [m.trees]
 refine Mu rfl (Calls.evalArgs_plain (MI (thn (he pins s1 σ H1 _ I1 q1) fun iv s2 ⟨y,H2,I2,ry,q2⟩ =>
  MI (thn (hf pins s2 σ H2 _ I2 q2) fun fv s3 ⟨z,H3,I3,rz,ov,g,q3⟩=>Calls.spliced_nil ?_))))
 exact E2 hu I3 g ry rz fun w' s4 I4 rw'=>⟨_,H3,I4,rw',q3⟩
end
section
variable {X:Cx} {pins:List (Addr×Obj)} {σ:St} {H:Hp} {s:Shared} {a:Addr} {kvs:List (Key×V)} {A:Around} {E:Value→Shared→Prop}
end
section
variable {X:Cx} {pins:List (Addr×Obj)} {σ:St} {H:Hp} {s:Shared} {a:Addr} {y:V} {u:Value} {A:Around} {E:Value→Shared→Prop}
end
end L2
namespace Att
open PySem PySem.W PySem.Calls PyProof.Rows
theorem jd {P:Params} {h:Heap}:∀ (ns:List Int) (vs:List Value),WellAll P h vs (ns.map WData.int)→IntsAre vs ns:=by
 intro ns
 induction ns with
 | nil =>
  intro vs w
  rw [Jc] at w
  cases w
  exact .nil
 | cons n ns ih =>
  intro vs w
  rw [G3] at w
  cases w with
  | cons a b =>
   cases a
   exact .cons _ _ (ih _ b)
theorem vo {l:OpenLaw} {n:Nat} (hn:l.most=some n) {P:Params} {h:Heap} {args:List WData} {vals:List Value}
 (hpre:l.row.toRowW.claim.pre args=true) (hwl:WellAll P h vals args) :
 ∃ a vs ns,vals=[Hr a]∧args=[WData.list (ns.map WData.int)]∧h.get? a=some { cls:=.type "list",data:=.seq vs.toArray }∧IntsAre vs ns∧ns.length≤n:=by
 have hsh:WShape.hasAll [] args [.list .int]=true:=(pre_splitW hpre).1
 have hc:l.pre.holds [] { args:=args }=true:=(pre_splitW hpre).2
 obtain ⟨d,r,rfl,h1,h2⟩:=hasAllW_cons hsh
 obtain rfl:=hasAllW_nil h2
 obtain ⟨xs,rfl,h3⟩:=hasW_list h1
 obtain ⟨ns,rfl⟩:=items_int h3
 have hlen:ns.length≤n:=by
  unfold OpenLaw.pre at hc
  have h4:(WTm.not (.lt (.lit (.int (n:Int))) (.len (.arg 0)))).holds [] { args:=[.list (ns.map .int)] }=true:=by
   have h4:=(holds_andW hc).1
   rw [hn] at h4
   exact h4
  have h5:=condW_of h4 (w_not (w_lt w_lit (w_len_list (w_arg rfl))))
  rw [G4] at h5
  refine Nat.le_of_not_lt fun q=>?_
  have q':(n:Int)<((ns.length:Nat):Int):=by omega
  first
   | (rw [decide_eq_true q'] at h5; exact absurd h5 (by decide))
   | (simp at h5; omega)
 cases hwl with
 | cons w1 w2 =>
  cases w2
  cases w1 with
  | list ho hall=>exact ⟨_,_,ns,rfl,rfl,ho,jd ns _ hall,hlen⟩
theorem vp (l:OpenLaw) (args:List WData):l.row.toRowW.claim.post args (.bool true) args=true :=
 postW_of (r:=l.row.toRowW) (X:=(true == true))
  (show WShape.has [] (.bool true) .bool=true by first | rfl | decide | simp [WShape.has,WShape.arms,WShape.armsAll])
  (show (WTm.eq .res (.lit (.bool true))).value [] { args:=args,res:=some (.bool true),after:=args }=some (.bool (true == true)) from w_eq_bool (w_res rfl) w_lit) rfl
theorem oV {l:OpenLaw} {n:Nat} {q:Program} {loose:List Str} {XP:(Str→Option Value)→Heap→Prop} {YP:World→Heap→Prop} {d:DefRec}
 (hn:l.most=some n) (hdf:d.params.defaults=[])
 (call:∀ (w:World) (s₀ s₁:Shared) (mg mb:Str→Option Value) (fa:Addr) (o:Obj) (pm cd doc:Value) (a:Addr) (vs:List Value) (ns:List Int),
   Ground q loose [] XP w s₀ mg mb s₁.heap→YP w s₁.heap →
   s₁.heap.get? fa=some o→o.data=.func (docDef d.name d.params d.body d.scope pm cd doc)→s₁.heap.CodeRec cd d.name→mg d.name=some (.ref fa) →
   s₁.heap.get? a=some { cls:=.type "list",data:=.seq vs.toArray }→IntsAre vs ns→ns.length≤n→s₁.gens= #[] →
   codeAny (model l.prog w) callerA (.call (.ref fa) ⟨[.ref a],[]⟩) (fun r s'=>r=.ok (.ret (.bool true))∧OldK s₁.heap s'.heap∧s'.os=s₁.os∧AllBare s'.gens) s₁) :
 WalkO q loose XP YP l.row.toRowW d [] (fun f vs=>PySem.call f vs):=by
 intro w s₀ s₁ mg mb G Y fa o pm cd doc dV kV ho hd hcd hD hmg hg args vals as hpre hlay hrd hwl hlo
 obtain rfl:dV=.none:=Dflts.none hD hdf
 obtain rfl:kV=.none:=Dflts.noKw hD
 obtain ⟨a,vs,ns,rfl,rfl,hobj,hints,hlen⟩:=vo hn hpre hwl
 refine enter_call (Kx (call w s₀ s₁ mg mb fa o pm cd doc a vs ns G Y ho (fd_plain hd) hcd hmg hobj hints hlen hg) fun r s' hq=>?_)
 obtain ⟨rfl,h2,h3,h4⟩:=hq
 exact ⟨.inl ⟨.bool true,.bool true,[],rfl,fun _=>rfl,.bool true,vp l _,fun _=>⟨KP,fun _ hm=>(nomatch hm)⟩⟩,h2,h3,h4⟩
section
variable {prog:Program} {w:World} {A:Around} {E:Value→Shared→Prop} {s:Shared} {K:Frag}
end
end Att
namespace L2
open PySem PySem.Spec PyProof.Rows
theorem lO:∀ {vs:List Value} {ns:List Int},IntsAre vs ns→Vals (ns.map V.int) vs
 | _,_,.nil=>.nil
 | _,_,.cons n t h=>.cons ⟨t,rfl⟩ (lO h)
noncomputable def Only (H:Hp):Prop:=∀ b,H b=none∨∃ o xs,H b=some (.frz o (.lst xs))
theorem ya {P:Program} {w:World} {K:GW} {mg mb:Str→Option Value} {CX:CXT} {k:Nat} {fa a:Addr} {fd:FuncData} {x:Str} {sp:Sp} {s₁:Shared} {vs:List Value} {ns:List Int}
 (KX:K.In s₁.heap) (hns:s₁.heap.Ns mainGlobals mg) (hb:s₁.heap.Ns builtinsNs mb) (hbb:∀ x:Str,x≠"__name__"→mb x=bootBuiltins x) (hlim:s₁.heap.NoLimit) (hg:s₁.gens= #[])
 (ha:s₁.heap.get? a=some { cls:=.type "list",data:=.seq vs.toArray }) (hi:IntsAre vs ns) (hl:ns.length≤sizeLine) (hr:fK k callerA)
 (F:∀ base:Heap,K.In base→base.Ns mainGlobals mg→aX P w K mg base CX k fa fd [x] sp) (hbind:∀ (s:Shared) (u:Value),BindsTo s fd ⟨[u],[]⟩ [(x,u)])
 (hsp:∀ H:Hp,Only H→SqL K H a (ns.map V.int)→sp [.ref a] H (fun v _=>v=.bl true) fun _ _ _=>False)
 (hCX:∀ H e s',CX [] H s₁ (fun _ _ _=>False) e s'→False) :
 codeAny (model P w) callerA (.call (.ref fa) ⟨[.ref a],[]⟩) (fun r s'=>r=.ok (.ret (.bool true))∧OldK s₁.heap s'.heap∧s'.os=s₁.os∧AllBare s'.gens) s₁:=by
 have rv:=lO hi
 have lenV:=hi.length
 have core:∀ H:Hp,Only H→SqL K H a (ns.map V.int)→HOk P w H s₁.heap→(∀ b,H b≠none→b=a)→(H a≠none→K.lookup a=none) →
  codeAny (model P w) callerA (.call (.ref fa) ⟨[.ref a],[]⟩) (fun r s'=>r=.ok (.ret (.bool true))∧OldK s₁.heap s'.heap∧s'.os=s₁.os∧AllBare s'.gens) s₁:=by
  intro H hO hS hok hA hK
  have base_of:∀ {b:Addr} {o:Obj},s₁.heap.get? b=some o→H b=none→(mS s₁.heap H).get? b=some o:=fun e n=>xy e n
  have noA:∀ {b:Addr} {o:Obj} {es:Array DictEntry} {ep:Nat},s₁.heap.get? b=some o→o.data=.dict es ep→H b=none:=fun {b o es ep} e d=>by
   cases q:H b with
   | none=>rfl
   | some u =>
    have e':b=a:=hA b (by rw [q]; simp)
    subst e'
    rw [ha] at e; cases e
    have d':Data.seq vs.toArray _=Data.dict es ep:=d
    cases d'
  have nsK:∀ {b:Addr} {m:Str→Option Value},s₁.heap.Ns b m→(mS s₁.heap H).Ns b m:=fun {b m} ⟨o,es,ep,e,d,r⟩=>⟨o,es,ep,base_of e (noA e d),d,r⟩
  have hKb:K.In (mS s₁.heap H):=fun b o e=>base_of (KX b o e) (by
   cases q:H b with
   | none=>rfl
   | some u =>
    have e':b=a:=hA b (by rw [q]; simp)
    subst e'
    rw [hK (by rw [q]; simp)] at e; cases e)
  have hM:Mod K mg (mS s₁.heap H):=⟨hKb,nsK hns,⟨mb,nsK hb,hbb⟩,let ⟨mc,h1,h2⟩:=hlim; ⟨mc,nsK h1,h2⟩⟩
  have e0:Bx P w K mg (mS s₁.heap H) callerA [] s₁ H:=⟨rfl,hM,fun b o e=>Bm e,Nat.le_of_eq (vd _ _),trivial,fun b hb=>absurd (show b∈([]:List Addr) from hb) (by simp),hok,.of_eq hg⟩
  refine Kx ((F _ hKb (nsK hns)).run callerA [] s₁ H ⟨[.ref a],[]⟩ [.ref a] [.ref a] _ _ hr e0 (hbind s₁ (.ref a)) (.cons rfl .nil) (hsp H hO hS)) fun r s' h=>?_
  cases r with
  | error e=>exact (hCX H e s' h).elim
  | ok fl =>
   cases fl with
   | next=>exact Ih h
   | brk=>exact Ih h
   | cont=>exact Ih h
   | ret u =>
    obtain ⟨v,H',os,bare,un,hok',r',q⟩:=h
    have q':v=.bl true:=q
    subst q'
    obtain rfl:u=JJ true:=r'
    refine ⟨rfl,OldK.of_keep fun b o e=>?_,os,bare⟩
    cases q:H b with
    | none=>exact un.keep b o e q (by intro z; exact absurd (show b∈([]:List Addr) from z) (by simp)) (by simp)
    | some u =>
     rcases hO b with z | ⟨ob,xs,z⟩
     ·rw [q] at z; cases z
     ·have z2:=un.frzs b ob _ z
      obtain ⟨e1,_⟩:=hok b _ z
      obtain ⟨e2,_⟩:=hok' b _ z2
      rw [e] at e1; cases e1
      exact e2
 cases hk:K.lookup a with
 | some o =>
  have e:=KX a o hk
  rw [ha] at e
  cases e
  refine core (fun _=>none) (fun _=>.inl rfl) (.inr ⟨_,vs.toArray,_,hk,rfl,rfl,rfl,by rw [Hq,lenV]; exact hl,by simpa using rv⟩) (fun b u z=>by have z':(none:Option HO)=some u:=z; cases z') (fun b z=>absurd rfl z) fun z=>absurd rfl z
 | none =>
  refine core (fun b=>if b=a then some (.frz { cls:=.type "list",data:=.seq vs.toArray } (.lst (ns.map V.int))) else none) (fun b=>?_) (.inl (.inr ⟨{ cls:=.type "list",data:=.seq vs.toArray },if_pos rfl⟩)) (fun b u z=>?_) (fun b z=>?_) fun _=>hk
  ·by_cases hb:b=a
   ·exact .inr ⟨_,_,if_pos hb⟩
   ·exact .inl (if_neg hb)
  ·by_cases hb:b=a
   ·have z':=(if_pos hb).symm.trans z
    cases z'
    subst hb
    exact ⟨ha,by rw [G4]; exact hl,vs,_,rv,ha⟩
   ·have z':=(if_neg hb).symm.trans z
    cases z'
  ·by_cases hb:b=a
   ·exact hb
   ·exact absurd (if_neg hb) z
noncomputable abbrev KOf {K:GW} {h:Heap} (_:K.In h):GW:=K
theorem BO {l:PySem.W.OpenLaw} {n k:Nat} {q:Program} {loose:List Str} {XP:(Str→Option Value)→Heap→Prop} {YP:World→Heap→Prop} {d:DefRec} {K:Params→GW} {CX:World→CXT} {sp:World→Sp} {x:Str}
 (hn:l.most=some n) (hn2:n≤sizeLine) (hdf:d.params.defaults=[]) (hr:fK k callerA)
 (hY:∀ (w:World) (h:Heap),YP w h→(K w.params).In h)
 (F:∀ (w:World) (mg:Str→Option Value) (fa:Addr) (h:Heap),(K w.params).In h→h.Ns mainGlobals mg→mg d.name=some (.ref fa) →
   ∃ fd:FuncData,(∀ (s:Shared) (u:Value),BindsTo s fd ⟨[u],[]⟩ [(x,u)]) ∧
    ∀ base:Heap,(K w.params).In base→base.Ns mainGlobals mg→aX l.prog w (K w.params) mg base (CX w) k fa fd [x] (sp w))
 (hsp:∀ (w:World) (H:Hp) (a:Addr) (ns:List Int),ns.length≤n→Only H→SqL (K w.params) H a (ns.map V.int)→sp w [.ref a] H (fun v _=>v=.bl true) fun _ _ _=>False)
 (hCX:∀ (w:World) (H:Hp) (s:Shared) (e:Value) (s':Shared),CX w [] H s (fun _ _ _=>False) e s'→False) :
 PySem.W.WalkO q loose XP YP l.row.toRowW d [] (fun f vs=>PySem.call f vs):=by
 refine Att.oV hn hdf fun w s₀ s₁ mg mb fa o pm cd doc a vs ns G Y ho hd hcd hmg hobj hints hlen hg=>?_
 have KX:=hY w _ Y
 obtain ⟨fd,hb,hF⟩:=F w mg fa _ KX G.T.g hmg
 exact ya KX G.T.g G.T.b G.T.builtins G.T.nolimit hg hobj hints (Hi hlen hn2) hr hF hb (fun H hO hS=>hsp w H a ns hlen hO hS) fun H e s'=>hCX w H s₁ e s'
end L2
namespace L2
open PySem PySem.Spec PyProof.Rows
noncomputable def cZ (s:Stmt):Arguments:=match s with
 | .FunctionDef _ a _ _ _ _ _ _ _ _=>a
 | _=>{ posonlyargs:=[],args:=[],vararg:=none,kwonlyargs:=[],kw_defaults:=[],kwarg:=none,defaults:=[] }
noncomputable def ay (s:Stmt):List Stmt:=match s with
 | .FunctionDef _ _ b _ _ _ _ _ _ _=>b
 | _=>[]
noncomputable def aa (s:Stmt):Scope:=match s with
 | .FunctionDef _ _ _ _ _ _ sc _ _ _=>sc
 | _=>{ kind:=.function,names:=[],isGenerator:=false,isCoroutine:=false }
structure Fun (K:GW) (x qual:Str) (st:Stmt) (f:Addr) (fd:FuncData):Prop where
 ex:∃ (oc:Value) (od:Option Addr) (kV doc pm:Value) (an:Option Addr) (cdv ct:Value) (osl:Array (Option Value)),
  fd=Jm x qual (cZ st) (ay st) (aa st) .none kV doc pm an cdv ct∧K.lookup f=some ⟨oc,od,.func fd,osl⟩∧LS K cdv qual=true
 kp:Jb K (.ref f)=true
section
variable {P:Program} {w:World} {K:GW} {mg:Str→Option Value} {base:Heap}
theorem Fun.binds {x qual:Str} {st:Stmt} {f:Addr} {fd:FuncData} {ps:List Str} (F:Fun K x qual st f fd)
 (h:∀ (kV doc pm:Value) (an:Option Addr) (cdv ct:Value) (us:List Value),us.length=ps.length→bindArgs (Jm x qual (cZ st) (ay st) (aa st) .none kV doc pm an cdv ct) ⟨us,[]⟩=pure (ps.zip us)):Binds K fd ps []:=by
 obtain ⟨oc,od,kV,doc,pm,an,cdv,ct,osl,rfl,lk,hcd⟩:=F.ex
 exact .all (h kV doc pm an cdv ct)
theorem E4 {x qual:Str} {st:Stmt} {f:Addr} {oc:Value} {od an:Option Addr} {osl:Array (Option Value)} {kV doc pm cdv ct:Value} (l:K.lookup f=some ⟨oc,od,.func (Jm x qual (cZ st) (ay st) (aa st) .none kV doc pm an cdv ct),osl⟩)
 (c:LS K cdv qual=true) (k:Jb K (.ref f)=true):Fun K x qual st f (Jm x qual (cZ st) (ay st) (aa st) .none kV doc pm an cdv ct):=⟨⟨oc,od,kV,doc,pm,an,cdv,ct,osl,rfl,l,c⟩,k⟩
end
theorem hu_of {A:Around} {k:Nat} (hr:fK k A):A.units+1<cLine:=Jz (Nat.add_le_add_left (by decide:1≤64) _) hr.units
theorem vq {n:Nat} (h:n≤1000):n<sizeLine:=Jz h (by decide)
section
variable {X:Cx}
end
noncomputable def aG (H H':Hp):Prop:=∀ b o,H b=some o→H' b=some o
theorem aG.refl (H:Hp):aG H H:=fun _ _ h=>h
theorem aG.trans {H H1 H2:Hp} (a:aG H H1) (b:aG H1 H2):aG H H2:=fun c o h=>b c o (a c o h)
theorem aG.free {H H':Hp} (e:aG H H') {l:Addr} (h:H' l=Option.none):H l=Option.none:=by
 cases q:H l with
 | none=>rfl
 | some o =>
  rw [e l o q] at h
  cases h
theorem aG.seq {K:GW} {H H':Hp} {a:Addr} {xs:List V} (e:aG H H') (h:SqL K H a xs):SqL K H' a xs:=by
 rcases h with (h | ⟨o,h⟩) | h
 ·exact .inl (.inl (e _ _ h))
 ·exact .inl (.inr ⟨o,e _ _ h⟩)
 ·exact .inr h
section
variable {X:Cx}
end
section
variable {κ:Type} [DecidableEq κ]
end
end L2
namespace EV
open PySem PySem.Spec PyProof.Rows L2
inductive D where
 | non | bl (b:Bool) | int (i:Int) | str (x:Str) | tup (ds:List D) | lst (ds:List D) | exc (C:Addr)
 | fdK (ks:List Key) (ds:List D) | fdT (ks:List (List Key)) (ds:List D) | adr (a:Addr)
noncomputable def qW (a C:Addr):Heap→Prop:=fun h=>∃ o,h.get? a=some o∧o.cls=.ref C∧∃ vs,o.data=.fields vs
mutual
def Rep (K:GW) (H:Hp):D→V→Prop
 | .non,v=>v=.non
 | .bl b,v=>v=.bl b
 | .int i,v=>v=.int i
 | .str x,v=>v=.str x
 | .tup ds,v=>∃ a xs,v=.ref a∧SqT K H a xs∧aj K H ds xs
 | .lst ds,v=>∃ a xs,v=.ref a∧SqL K H a xs∧aj K H ds xs
 | .exc C,v=>∃ a,v=.ref a∧H a=some (.ext (qW a C))
 | .fdK ks ds,v=>∃ a ys o,v=.ref a∧H a=some (.frz o (.dK ys))∧ys.map (·.1)=ks∧aj K H ds (ys.map (·.2))
 | .fdT ks ds,v=>∃ a ys o,v=.ref a∧H a=some (.frz o (.dT ys))∧ys.map (·.1)=ks∧(∀ y∈ys,SqT K H y.2.1 (y.1.map kV))∧aj K H ds (ys.map (·.2.2))
 | .adr a,v=>v=.ref a
def aj (K:GW) (H:Hp):List D→List V→Prop
 | [],xs=>xs=[]
 | d::ds,xs=>∃ x r,xs=x::r∧Rep K H d x∧aj K H ds r
end
theorem ak {K:GW} {H H':Hp} {a:Addr} {xs:List V} (e:aG H H') (h:SqT K H a xs):SqT K H' a xs:=by
 rcases h with (h | ⟨o,h⟩) | h
 ·exact .inl (.inl (e _ _ h))
 ·exact .inl (.inr ⟨o,e _ _ h⟩)
 ·exact .inr h
mutual
theorem Rep.mono {K:GW} {H H':Hp} (e:aG H H'):∀ (d:D) {v:V},Rep K H d v→Rep K H' d v
 | .non,_,h=>by simpa [Rep] using h
 | .bl b,_,h=>by simpa [Rep] using h
 | .int i,_,h=>by simpa [Rep] using h
 | .str x,_,h=>by simpa [Rep] using h
 | .tup ds,_,h=>by
  simp only [Rep] at h ⊢
  obtain ⟨a,xs,e1,h1,h2⟩:=h
  exact ⟨a,xs,e1,ak e h1,aj.mono e ds h2⟩
 | .lst ds,_,h=>by
  simp only [Rep] at h ⊢
  obtain ⟨a,xs,e1,h1,h2⟩:=h
  exact ⟨a,xs,e1,e.seq h1,aj.mono e ds h2⟩
 | .exc C,_,h=>by
  simp only [Rep] at h ⊢
  obtain ⟨a,e1,h1⟩:=h
  exact ⟨a,e1,e _ _ h1⟩
 | .fdK ks ds,_,h=>by
  simp only [Rep] at h ⊢
  obtain ⟨a,ys,o,e1,h1,h2,h3⟩:=h
  exact ⟨a,ys,o,e1,e _ _ h1,h2,aj.mono e ds h3⟩
 | .fdT ks ds,_,h=>by
  simp only [Rep] at h ⊢
  obtain ⟨a,ys,o,e1,h1,h2,h3,h4⟩:=h
  exact ⟨a,ys,o,e1,e _ _ h1,h2,fun y hy=>ak e (h3 y hy),aj.mono e ds h4⟩
 | .adr a,_,h=>by simpa [Rep] using h
theorem aj.mono {K:GW} {H H':Hp} (e:aG H H'):∀ (ds:List D) {xs:List V},aj K H ds xs→aj K H' ds xs
 | [],_,h=>by simpa [aj] using h
 | d::ds,_,h=>by
  simp only [aj] at h ⊢
  obtain ⟨x,r,e1,h1,h2⟩:=h
  exact ⟨x,r,e1,Rep.mono e d h1,aj.mono e ds h2⟩
end
section
variable {K:GW} {H:Hp} {v:V}
theorem au {i:Int}:Rep K H (.int i) v↔v=.int i:=by simp only [Rep]
theorem bY {i:Bool}:Rep K H (.bl i) v↔v=.bl i:=by simp only [Rep]
theorem bx:Rep K H .non v↔v=.non:=by simp only [Rep]
theorem dP {i:Str}:Rep K H (.str i) v↔v=.str i:=by simp only [Rep]
theorem aC {ds:List D}:Rep K H (.tup ds) v↔∃ a xs,v=.ref a∧SqT K H a xs∧aj K H ds xs:=by simp only [Rep]
theorem aH {ds:List D}:Rep K H (.lst ds) v↔∃ a xs,v=.ref a∧SqL K H a xs∧aj K H ds xs:=by simp only [Rep]
theorem gu {ks:List Key} {ds:List D}:Rep K H (.fdK ks ds) v↔∃ a ys o,v=.ref a∧H a=some (.frz o (.dK ys))∧ys.map (·.1)=ks∧aj K H ds (ys.map (·.2)):=by simp only [Rep]
theorem nc {ks:List (List Key)} {ds:List D}:Rep K H (.fdT ks ds) v↔∃ a ys o,v=.ref a∧H a=some (.frz o (.dT ys))∧ys.map (·.1)=ks∧(∀ y∈ys,SqT K H y.2.1 (y.1.map kV))∧aj K H ds (ys.map (·.2.2)):=by simp only [Rep]
theorem dH {a:Addr}:Rep K H (.adr a) v↔v=.ref a:=by simp only [Rep]
theorem BP {C:Addr}:Rep K H (.exc C) v↔∃ a,v=.ref a∧H a=some (.ext (qW a C)):=by simp only [Rep]
theorem aq {xs:List V}:aj K H [] xs↔xs=[]:=by simp only [aj]
theorem aB {d:D} {ds:List D} {xs:List V}:aj K H (d::ds) xs↔∃ x r,xs=x::r∧Rep K H d x∧aj K H ds r:=by simp only [aj]
theorem aj.length:∀ {ds:List D} {xs:List V},aj K H ds xs→ds.length=xs.length
 | [],_,h=>by rw [aq] at h; subst h; rfl
 | d::ds,_,h=>by
  rw [aB] at h
  obtain ⟨x,r,rfl,_,h2⟩:=h
  simp [aj.length h2]
theorem aj.get:∀ {ds:List D} {xs:List V} {i:Nat} {d:D},aj K H ds xs→ds[i]?=some d→∃ x,xs[i]?=some x∧Rep K H d x
 | [],_,_,_,_,e=>by simp at e
 | d::ds,_,i,d',h,e=>by
  rw [aB] at h
  obtain ⟨x,r,rfl,h1,h2⟩:=h
  cases i with
  | zero=>simp at e; subst e; exact ⟨x,by simp,h1⟩
  | succ i =>
   obtain ⟨y,e2,h3⟩:=aj.get (i:=i) (d:=d') h2 (by simpa using e)
   exact ⟨y,by simpa using e2,h3⟩
theorem aj.get':∀ {ds:List D} {xs:List V} {i:Nat} {x:V},aj K H ds xs→xs[i]?=some x→∃ d,ds[i]?=some d∧Rep K H d x:=fun {ds xs i x} h e=>by
 have hl:=h.length
 have hi:i<xs.length:=(G8.mp e).1
 obtain ⟨y,e2,h2⟩:=h.get (i:=i) (d:=ds[i]'(by omega)) (by simp)
 rw [e] at e2; cases e2
 exact ⟨_,by simp,h2⟩
theorem aj.append:∀ {ds es:List D} {xs ys:List V},aj K H ds xs→aj K H es ys→aj K H (ds++es) (xs++ys)
 | [],_,_,_,h,g=>by rw [aq] at h; subst h; exact g
 | d::ds,_,_,_,h,g=>by
  rw [aB] at h
  obtain ⟨x,r,rfl,h1,h2⟩:=h
  exact aB.mpr ⟨x,r++_,rfl,h1,aj.append h2 g⟩
theorem aj.drop:∀ (n:Nat) {ds:List D} {xs:List V},aj K H ds xs→aj K H (ds.drop n) (xs.drop n)
 | 0,_,_,h=>h
 | n+1,[],_,h=>by rw [aq] at h; subst h; exact aq.mpr rfl
 | n+1,d::ds,_,h=>by
  rw [aB] at h
  obtain ⟨x,r,rfl,h1,h2⟩:=h
  exact aj.drop n h2
theorem aj.take:∀ (n:Nat) {ds:List D} {xs:List V},aj K H ds xs→aj K H (ds.take n) (xs.take n)
 | 0,_,_,h=>aq.mpr rfl
 | n+1,[],_,h=>by rw [aq] at h; subst h; exact aq.mpr rfl
 | n+1,d::ds,_,h=>by
  rw [aB] at h
  obtain ⟨x,r,rfl,h1,h2⟩:=h
  exact aB.mpr ⟨x,r.take n,rfl,h1,aj.take n h2⟩
theorem aj.dropLast {ds:List D} {xs:List V} (h:aj K H ds xs):aj K H ds.dropLast xs.dropLast:=by
 rw [Mz,Mz,h.length]; exact h.take _
theorem aj.one {d:D} {v:V} (h:Rep K H d v):aj K H [d] [v]:=aB.mpr ⟨v,[],rfl,h,aq.mpr rfl⟩
theorem aj.cons {d:D} {v:V} {ds:List D} {xs:List V} (h:Rep K H d v) (t:aj K H ds xs):aj K H (d::ds) (v::xs):=aB.mpr ⟨v,xs,rfl,h,t⟩
theorem lP:∀ (ns:List Int),aj K H (ns.map D.int) (ns.map V.int)
 | []=>aq.mpr rfl
 | n::ns=>.cons (au.mpr rfl) (lP ns)
end
inductive Sh where
 | v (d:D) | l (ds:List D) | la (a:Addr) (ds:List D) | t (ss:List Sh) | ls (ss:List Sh)
noncomputable def pl (p:Addr) (xs:List V):HO:=.ext fun h=>xs.length≤sizeLine∧∃ (its:List Value) (n:Nat),Vals xs its∧h.get? p=some { cls:=.type "list",data:=.seq its.toArray n }
mutual
def aR (K:GW) (H Hf:Hp):Sh→V→List (Addr×List V)→Prop
 | .v d,v,fp=>Rep K Hf d v∧fp=[]
 | .l ds,v,fp=>∃ p xs,v=.ref p∧H p=some (pl p xs)∧Hf p=none∧aj K Hf ds xs∧fp=[(p,xs)]
 | .la p ds,v,fp=>∃ xs,v=.ref p∧H p=some (pl p xs)∧Hf p=none∧aj K Hf ds xs∧fp=[(p,xs)]
 | .t ss,v,fp=>∃ a xs,v=.ref a∧SqT K Hf a xs∧aA K H Hf ss xs fp
 | .ls ss,v,fp=>∃ p xs fq,v=.ref p∧H p=some (pl p xs)∧Hf p=none∧aA K H Hf ss xs fq∧fp=(p,xs)::fq
def aA (K:GW) (H Hf:Hp):List Sh→List V→List (Addr×List V)→Prop
 | [],xs,fp=>xs=[]∧fp=[]
 | s::ss,xs,fp=>∃ x r f1 f2,xs=x::r∧aR K H Hf s x f1∧aA K H Hf ss r f2∧fp=f1++f2
end
noncomputable def yb (H:Hp) (q:Addr):Prop:=∃ xs,H q=some (pl q xs)
mutual
theorem aR.mv {K:GW} {H Hf H' Hf':Hp} (sf:aG Hf Hf'):∀ (s:Sh) {v:V} {fp:List (Addr×List V)},(∀ q∈fp,H q.1=some (pl q.1 q.2)→Hf q.1=none→H' q.1=some (pl q.1 q.2)∧Hf' q.1=none)→aR K H Hf s v fp→aR K H' Hf' s v fp
 | .v d,_,_,_,h=>by simp only [aR] at h ⊢; exact ⟨h.1.mono sf d,h.2⟩
 | .l ds,_,_,hk,h=>by
  simp only [aR] at h ⊢
  obtain ⟨p,xs,e,h1,h2,h3,rfl⟩:=h
  obtain ⟨q1,q2⟩:=hk _ Hg h1 h2
  exact ⟨p,xs,e,q1,q2,h3.mono sf ds,rfl⟩
 | .la p ds,_,_,hk,h=>by
  simp only [aR] at h ⊢
  obtain ⟨xs,e,h1,h2,h3,rfl⟩:=h
  obtain ⟨q1,q2⟩:=hk _ Hg h1 h2
  exact ⟨xs,e,q1,q2,h3.mono sf ds,rfl⟩
 | .t ss,_,_,hk,h=>by
  simp only [aR] at h ⊢
  obtain ⟨a,xs,e,h1,h2⟩:=h
  exact ⟨a,xs,e,ak sf h1,aA.mv sf ss hk h2⟩
 | .ls ss,_,_,hk,h=>by
  simp only [aR] at h ⊢
  obtain ⟨p,xs,fq,e,h1,h2,h3,rfl⟩:=h
  obtain ⟨q1,q2⟩:=hk _ Hg h1 h2
  exact ⟨p,xs,fq,e,q1,q2,aA.mv sf ss (fun q hq=>hk q (Hl _ hq)) h3,rfl⟩
theorem aA.mv {K:GW} {H Hf H' Hf':Hp} (sf:aG Hf Hf'):∀ (ss:List Sh) {xs:List V} {fp:List (Addr×List V)},(∀ q∈fp,H q.1=some (pl q.1 q.2)→Hf q.1=none→H' q.1=some (pl q.1 q.2)∧Hf' q.1=none)→aA K H Hf ss xs fp→aA K H' Hf' ss xs fp
 | [],_,_,_,h=>by simpa only [aA] using h
 | s::ss,_,_,hk,h=>by
  simp only [aA] at h ⊢
  obtain ⟨x,r,f1,f2,e,h1,h2,rfl⟩:=h
  exact ⟨x,r,f1,f2,e,aR.mv sf s (fun q hq=>hk q (Jx _ hq)) h1,aA.mv sf ss (fun q hq=>hk q (Il _ hq)) h2,rfl⟩
end
inductive Sl where
 | un
 | va (d:D)
 | ow (ds:List D)
 | oT (kvs:List (List Key×D))
 | oK (kvs:List (Key×D))
 | aw (a:Addr) (ds:List D)
 | aT (a:Addr) (kvs:List (List Key×D))
 | aK (a:Addr) (kvs:List (Key×D))
 | fo (s:Sh)
noncomputable def KVR (K:GW) (H:Hp) {κ:Type}:List (κ×D)→List (κ×V)→Prop:=Paired fun a b=>a.1=b.1∧Rep K H a.2 b.2
theorem KVR.mono {K:GW} {H H':Hp} {κ:Type} {ks:List (κ×D)} {xs:List (κ×V)} (e:aG H H') (h:KVR K H ks xs):KVR K H' ks xs :=
 Paired.mapP h fun a b z=>⟨z.1,Rep.mono e _ z.2⟩
noncomputable def TVR (K:GW) (H:Hp):List (List Key×D)→List (List Key×Addr×V)→Prop:=Paired fun a b=>a.1=b.1∧SqT K H b.2.1 (a.1.map kV)∧Rep K H a.2 b.2.2
theorem TVR.mono {K:GW} {H H':Hp} {ks:List (List Key×D)} {xs:List (List Key×Addr×V)} (e:aG H H') (h:TVR K H ks xs):TVR K H' ks xs :=
 Paired.mapP h fun a b z=>⟨z.1,ak e z.2.1,Rep.mono e _ z.2.2⟩
noncomputable def aM (K:GW) (fr:Addr→Prop) (H Hf:Hp):Sl→V→Prop
 | .un,_=>False
 | .va d,v=>Rep K Hf d v
 | .ow ds,v=>∃ p xs,v=.ref p∧fr p∧H p=some (.lst xs)∧Hf p=none∧aj K Hf ds xs
 | .oT kvs,v=>∃ p xs,v=.ref p∧fr p∧H p=some (.dT xs)∧Hf p=none∧TVR K Hf kvs xs
 | .oK kvs,v=>∃ p xs,v=.ref p∧fr p∧H p=some (.dK xs)∧Hf p=none∧KVR K Hf kvs xs
 | .aw a ds,v=>∃ p xs,v=.ref p∧(fr p∧p=a)∧H p=some (.lst xs)∧Hf p=none∧aj K Hf ds xs
 | .aT a kvs,v=>∃ p xs,v=.ref p∧(fr p∧p=a)∧H p=some (.dT xs)∧Hf p=none∧TVR K Hf kvs xs
 | .aK a kvs,v=>∃ p xs,v=.ref p∧(fr p∧p=a)∧H p=some (.dK xs)∧Hf p=none∧KVR K Hf kvs xs
 | .fo s,v=>∃ fp,aR K H Hf s v fp∧(fp.map (·.1)).Nodup∧∀ a∈fp,fr a.1
noncomputable def Sl.owned:Sl→Bool
 | .ow _=>true | .oT _=>true | .oK _=>true | .aw _ _=>true | .aT _ _=>true | .aK _ _=>true | _=>false
structure Grw (H Hf H' Hf':Hp):Prop where
 s:aG H H'
 f:aG Hf Hf'
 b:aG Hf' H'
 n:∀ b,Hf b=none→H b≠none→(∀ xs,H b≠some (.tup xs))→Hf' b=none
theorem Grw.refl {H Hf:Hp} (b:aG Hf H):Grw H Hf H Hf:=⟨.refl _,.refl _,b,fun _ h _ _=>h⟩
theorem Grw.trans {H Hf H1 Hf1 H2 Hf2:Hp} (a:Grw H Hf H1 Hf1) (b:Grw H1 Hf1 H2 Hf2):Grw H Hf H2 Hf2 :=
 ⟨a.s.trans b.s,a.f.trans b.f,b.b,fun c h1 h2 h3=>by
   cases q:H c with
   | none=>exact absurd q h2
   | some o =>
    have e:=a.s c o q
    exact b.n c (a.n c h1 h2 h3) (by rw [e]; simp) (by intro xs; rw [e,← q]; exact h3 xs)⟩
theorem Grw.new {H Hf:Hp} (b:aG Hf H) {p:Addr} {o:HO} (hp:H p=none):Grw H Hf (upd H p o) (upd Hf p o):=by
 have hf:Hf p=none:=b.free hp
 refine ⟨fun c u h=>?_,fun c u h=>?_,fun c u h=>?_,fun c h1 h2 _=>?_⟩
 ·rw [ai (az h hp)]; exact h
 ·rw [ai (az h hf)]; exact h
 ·by_cases e:c=p
  ·subst e; rw [ah] at h ⊢; exact h
  ·rw [ai e] at h ⊢; exact b c u h
 ·by_cases e:c=p
  ·subst e; exact absurd hp h2
  ·rw [ai e]; exact h1
theorem Grw.eG {H Hf:Hp} (b:aG Hf H) {p:Addr} {o:HO} (hp:H p=none):Grw H Hf (upd H p o) Hf :=
 ⟨(Grw.new b hp (o:=o)).s,.refl _,fun c u h=>(Grw.new b hp (o:=o)).s c u (b c u h),fun _ h _ _=>h⟩
inductive At {α:Type}:List α→Nat→α→Prop where
 | z {x:α} {l:List α}:At (x::l) 0 x
 | s {x y:α} {l:List α} {i:Nat}:At l i x→At (y::l) (i+1) x
theorem At.get {α:Type} {l:List α} {i:Nat} {x:α} (h:At l i x):l[i]?=some x:=by
 induction h with
 | z=>rfl
 | s _ ih=>simpa using ih
theorem At.mem {α:Type} {l:List α} {i:Nat} {x:α} (h:At l i x):x∈l:=IU h.get
inductive SSet {α:Type}:List α→Nat→α→List α→Prop where
 | z {x r:α} {l:List α}:SSet (x::l) 0 r (r::l)
 | s {r y:α} {l l':List α} {i:Nat}:SSet l i r l'→SSet (y::l) (i+1) r (y::l')
theorem SSet.eq {α:Type} {l l':List α} {i:Nat} {r:α} (h:SSet l i r l'):l'=l.set i r:=by
 induction h with
 | z=>rfl
 | s _ ih=>simp [ih]
structure StR (K:GW) (H₀ Hf₀:Hp) (σ:L2.St) (H Hf:Hp) (ρ:List Sl):Prop where
 bas:Grw H₀ Hf₀ H Hf
 len:σ.length=ρ.length
 at_:∀ (i:Nat) (r:Sl),ρ[i]?=some r→r≠.un→∃ v,σ[i]?=some (some v)∧aM K (fun p=>H₀ p=none) H Hf r v
 sep:∀ (i j:Nat) (r r':Sl) (p:Addr),i≠j→ρ[i]?=some r→ρ[j]?=some r'→r.owned=true→r'.owned=true→σ[i]?=some (some (.ref p))→σ[j]?≠some (some (.ref p))
structure ExcS (P:Program) (w:World) (outer:List Env) (H:Hp) (s:Shared) (a C:Addr) (H':Hp) (s':Shared):Prop where
 os:s'.os=s.os
 bare:AllBare s'.gens
 un:Un (frs outer) [] H H' s.heap s'.heap
 hok:HOk P w H' s'.heap
 new:s.heap.get? a=none
 free:H' a=none
 fly:∃ (t:Addr) (B:Heap),Heap.FlyingW B outer a (.ref C) (.ref t) s'.heap∧(∀ b o,s.heap.get? b=some o→b∉frs outer→∃ o',s'.heap.get? b=some o'∧B.get? b=some o') ∧
  ∀ b o,H' b≠none→s'.heap.get? b=some o→B.get? b=some o
noncomputable def CXE (P:Program) (w:World):CXT:=fun outer H s E e s'=>∃ a C H',e=.ref a∧ExcS P w outer H s a C H' s'∧E (.ref C) (some a) H'
structure Ctx (P:Program) (w:World) (K:GW) (mg:Str→Option Value) (base:Heap) (k:Nat) (N:List Str) (sc:Scope) (bk:Bool) where
 X:Cx
 eP:X.prog=P
 ew:X.w=w
 eK:X.K=K
 emg:X.mg=mg
 eb:X.base=base
 eN:X.N=N
 esc:X.env.scope=sc
 calm:X.calm=true
 top:bk=false→X.stack=X.env::X.outer∧X.env.frame=some X.env.locals∧X.ex=[]
 cb:bk=false→∀ (pins:List (Addr×Obj)) (σ:L2.St) (H:Hp) (s:Shared),Inv X pins σ H s→∀ (x:Str) (c:Addr),X.env.cells.lookup x=some c→X.s₀.heap.objs.size≤c
 fn:∀ x,bk=false∨sc.names.lookup x=some .local→X.fn x=true∨X.env.scope.names.lookup x=some .local
 room:fK k X.A
 nd:N.Nodup
 vis:∀ x∈N,Loc sc x
 Hf:Hp
 B:Hp
 RX:Addr→List Sl→Prop
 exc:∀ (C a:Addr) (pins:List (Addr×Obj)) (σ:L2.St) (H Hf':Hp) (ρ:List Sl) (s:Shared) (H':Hp) (s':Shared),Inv X pins σ H s→StR X.K B Hf σ H Hf' ρ→RX C ρ→ExcS X.prog X.w X.stack H s a C H' s'→aG H H'→X.xe (.ref a) s'
 RM:Addr→List Sl→Prop
 mde:∀ (C a:Addr) (pins:List (Addr×Obj)) (σ:L2.St) (H Hf':Hp) (ρ:List Sl) (s:Shared) (h':Heap) (us:List Value),Inv X pins σ H s→StR X.K B Hf σ H Hf' ρ→RM C ρ→Heap.MadeExcOf s.heap h' a (.ref C) us→X.xe (.ref a) { s with heap:=h' }
noncomputable def Sl.isF:Sl→Bool | .fo _=>true | _=>false
theorem aM.mv {K:GW} {fr:Addr→Prop} {H Hf H' Hf':Hp} {B:Addr→Prop} (sf:aG Hf Hf') (hk:∀ q o,¬ B q→H q=some o→(∀ xs,o≠.tup xs)→Hf q=none→H' q=some o∧Hf' q=none):∀ {r:Sl} {v:V},
 (r.isF=true→∀ q,B q→¬ yb H q)→(r.owned=true→∀ q,v=.ref q→¬ B q)→aM K fr H Hf r v→aM K fr H' Hf' r v
 | .un,_,_,_,h=>h
 | .va d,_,_,_,h=>Rep.mono sf d h
 | .ow ds,_,_,hv,⟨p,xs,e,f,h1,h2,h3⟩=>have q:=hk p _ (hv rfl p e) h1 (by intro ys z; cases z) h2; ⟨p,xs,e,f,q.1,q.2,h3.mono sf⟩
 | .oT kvs,_,_,hv,⟨p,xs,e,f,h1,h2,h3⟩=>have q:=hk p _ (hv rfl p e) h1 (by intro ys z; cases z) h2; ⟨p,xs,e,f,q.1,q.2,h3.mono sf⟩
 | .oK kvs,_,_,hv,⟨p,xs,e,f,h1,h2,h3⟩=>have q:=hk p _ (hv rfl p e) h1 (by intro ys z; cases z) h2; ⟨p,xs,e,f,q.1,q.2,h3.mono sf⟩
 | .aw a ds,_,_,hv,⟨p,xs,e,f,h1,h2,h3⟩=>have q:=hk p _ (hv rfl p e) h1 (by intro ys z; cases z) h2; ⟨p,xs,e,f,q.1,q.2,h3.mono sf⟩
 | .aT a kvs,_,_,hv,⟨p,xs,e,f,h1,h2,h3⟩=>have q:=hk p _ (hv rfl p e) h1 (by intro ys z; cases z) h2; ⟨p,xs,e,f,q.1,q.2,h3.mono sf⟩
 | .aK a kvs,_,_,hv,⟨p,xs,e,f,h1,h2,h3⟩=>have q:=hk p _ (hv rfl p e) h1 (by intro ys z; cases z) h2; ⟨p,xs,e,f,q.1,q.2,h3.mono sf⟩
 | .fo s,_,hB,_,⟨fp,h1,h2,h3⟩=>⟨fp,aR.mv sf s (fun q _ e1 e2=>hk q.1 _ (fun b=>hB rfl q.1 b ⟨q.2,e1⟩) e1 (by intro ys z; cases z) e2) h1,h2,h3⟩
theorem aM.grw {K:GW} {fr:Addr→Prop} {H Hf H' Hf':Hp} (g:Grw H Hf H' Hf') {r:Sl} {v:V} (h:aM K fr H Hf r v):aM K fr H' Hf' r v :=
 aM.mv (B:=fun _=>False) g.f (fun q o _ e1 e2 e3=>⟨g.s _ _ e1,g.n q e3 (by rw [e1]; simp) fun xs z=>e2 xs (by rw [e1] at z; exact IW z)⟩) (fun _ _ z=>z.elim) (fun _ _ _ z=>z) h
theorem aM.weak {K:GW} {fr fr':Addr→Prop} {H Hf:Hp} (hf:∀ p,fr p→fr' p):∀ {r:Sl} {v:V},aM K fr H Hf r v→aM K fr' H Hf r v
 | .un,_,h=>h
 | .va d,_,h=>h
 | .ow ds,_,⟨p,xs,e,f,h⟩=>⟨p,xs,e,hf p f,h⟩
 | .oT ds,_,⟨p,xs,e,f,h⟩=>⟨p,xs,e,hf p f,h⟩
 | .oK ds,_,⟨p,xs,e,f,h⟩=>⟨p,xs,e,hf p f,h⟩
 | .aw a ds,_,⟨p,xs,e,f,h⟩=>⟨p,xs,e,⟨hf p f.1,f.2⟩,h⟩
 | .aT a ds,_,⟨p,xs,e,f,h⟩=>⟨p,xs,e,⟨hf p f.1,f.2⟩,h⟩
 | .aK a ds,_,⟨p,xs,e,f,h⟩=>⟨p,xs,e,⟨hf p f.1,f.2⟩,h⟩
 | .fo s,_,⟨fp,h1,h2,h3⟩=>⟨fp,h1,h2,fun a ha=>hf _ (h3 a ha)⟩
section
variable {P:Program} {w:World} {K:GW} {mg:Str→Option Value} {base:Heap} {k:Nat} {N:List Str} {sc:Scope} {bk:Bool}
noncomputable def Ctx.fr (c:Ctx P w K mg base k N sc bk) (p:Addr):Prop:=c.B p=none
noncomputable abbrev aU (c:Ctx P w K mg base k N sc bk) (σ:L2.St) (H Hf:Hp) (ρ:List Sl):Prop:=StR c.X.K c.B c.Hf σ H Hf ρ
variable {σ:L2.St} {H Hf H' Hf' H₀ Hf₀:Hp} {ρ:List Sl}
theorem StR.grw (S:StR K H₀ Hf₀ σ H Hf ρ) (g:Grw H Hf H' Hf'):StR K H₀ Hf₀ σ H' Hf' ρ :=
 ⟨S.bas.trans g,S.len,fun i r h hr=>let ⟨v,e,q⟩:=S.at_ i r h hr; ⟨v,e,q.grw g⟩,S.sep⟩
theorem StR.sb (S:StR K H₀ Hf₀ σ H Hf ρ):aG Hf H:=S.bas.b
theorem StR.va (S:StR K H₀ Hf₀ σ H Hf ρ) {i:Nat} {d:D} (h:ρ[i]?=some (.va d)):∃ v,σ[i]?=some (some v)∧Rep K Hf d v:=S.at_ i _ h (by simp)
theorem StR.set (S:StR K H₀ Hf₀ σ H Hf ρ) {H1 Hf1:Hp} (g:Grw H Hf H1 Hf1) {i:Nat} {r:Sl} {v:V} (hr:aM K (fun p=>H p=none) H1 Hf1 r v) :
 StR K H₀ Hf₀ (σ.set i (some v)) H1 Hf1 (ρ.set i r):=by
 have S1:=S.grw g
 have fr0:∀ p,H p=none→H₀ p=none:=fun p h=>S.bas.s.free h
 have fresh:∀ p,r.owned=true→v=.ref p→H p=none:=fun p ho e=>by
  subst e
  cases r with
  | un=>cases ho
  | va d=>cases ho
  | ow ds=>obtain ⟨p',xs,e,h,_⟩:=hr; cases e; exact h
  | oT ds=>obtain ⟨p',xs,e,h,_⟩:=hr; cases e; exact h
  | oK ds=>obtain ⟨p',xs,e,h,_⟩:=hr; cases e; exact h
  | aw a ds=>obtain ⟨p',xs,e,h,_⟩:=hr; cases e; exact h.1
  | aT a ds=>obtain ⟨p',xs,e,h,_⟩:=hr; cases e; exact h.1
  | aK a ds=>obtain ⟨p',xs,e,h,_⟩:=hr; cases e; exact h.1
  | fo s=>cases ho
 have old:∀ (j:Nat) (r':Sl) (p:Addr),ρ[j]?=some r'→r'.owned=true→σ[j]?=some (some (.ref p))→H p≠none:=fun j r' p h ho hs=>by
  obtain ⟨v',e,q⟩:=S.at_ j r' h (by rintro rfl; cases ho)
  rw [hs] at e; cases e
  cases r' with
  | un=>cases ho
  | va d=>cases ho
  | ow ds=>obtain ⟨p',xs,e,_,h,_⟩:=q; cases e; rw [h]; simp
  | oT ds=>obtain ⟨p',xs,e,_,h,_⟩:=q; cases e; rw [h]; simp
  | oK ds=>obtain ⟨p',xs,e,_,h,_⟩:=q; cases e; rw [h]; simp
  | aw a ds=>obtain ⟨p',xs,e,_,h,_⟩:=q; cases e; rw [h]; simp
  | aT a ds=>obtain ⟨p',xs,e,_,h,_⟩:=q; cases e; rw [h]; simp
  | aK a ds=>obtain ⟨p',xs,e,_,h,_⟩:=q; cases e; rw [h]; simp
  | fo s=>cases ho
 refine ⟨S1.bas,by simp [S.len],fun j r' hj hu=>?_,fun j j' r1 r2 p hne h1 h2 o1 o2 e1 e2=>?_⟩
 ·by_cases q:j=i
  ·subst q
   have hi:j<ρ.length:=by
    have:=(G8.mp hj).1
    simpa using this
   rw [Iu hi] at hj; cases hj
   exact ⟨v,Iu (by rw [S.len]; exact hi),hr.weak fr0⟩
  ·rw [Iv (Hu q)] at hj ⊢
   exact S1.at_ j r' hj hu
 ·have hlt:∀ {j:Nat} {r:Sl},(ρ.set i r)[j]?=some r→j<ρ.length:=fun {j r} h=>by
   have:=(G8.mp h).1
   simpa using this
  by_cases q1:j=i
  ·subst q1
   have hi:j<ρ.length:=by have:=(G8.mp h1).1; simpa using this
   rw [Iu hi] at h1; cases h1
   rw [Iu (by rw [S.len]; exact hi)] at e1
   rw [Iv hne] at h2 e2
   exact old j' r2 p h2 o2 e2 (fresh p o1 (by simpa using e1))
  ·by_cases q2:j'=i
   ·subst q2
    have hi:j'<ρ.length:=by have:=(G8.mp h2).1; simpa using this
    rw [Iu hi] at h2; cases h2
    rw [Iu (by rw [S.len]; exact hi)] at e2
    rw [Iv (Hu hne)] at h1 e1
    exact old j r1 p h1 o1 e1 (fresh p o2 (by simpa using e2))
   ·rw [Iv (Hu q1)] at h1 e1
    rw [Iv (Hu q2)] at h2 e2
    exact S.sep j j' r1 r2 p hne h1 h2 o1 o2 e1 e2
theorem StR.weak {ρ':List Sl} (S:StR K H₀ Hf₀ σ H Hf ρ) (hl:ρ'.length=ρ.length) (h:∀ (i:Nat) (r:Sl),ρ'[i]?=some r→r≠.un→ρ[i]?=some r):StR K H₀ Hf₀ σ H Hf ρ' :=
 ⟨S.bas,by rw [S.len,hl],fun i r e hu=>S.at_ i r (h i r e hu) hu,fun i j r r' p hne h1 h2 o1 o2=>S.sep i j r r' p hne (h i r h1 (by rintro rfl; cases o1)) (h j r' h2 (by rintro rfl; cases o2)) o1 o2⟩
end
section
variable {P:Program} {w:World} {K:GW} {mg:Str→Option Value} {base:Heap} {k:Nat} {N:List Str} {sc:Scope} {bk:Bool}
noncomputable def bE (X:Cx) (e:Expr):TE:=fun σ H Q=>∀ pins s,Inv X pins σ H s→wpAny (model X.prog X.w) X.A (eval e X.env) (EP X pins σ Q) X.xe s
theorem pbE {X:Cx} {e:Expr}:PE X e (bE X e):=fun pins s σ H Q I h=>h pins s I
theorem bu {X:Cx} {e:Expr} {t:TE} (h:PE X e t) {σ:L2.St} {H:Hp} {Q:VK} (q:t σ H Q):bE X e σ H Q:=fun pins s I=>h pins s σ H Q I q
noncomputable def bT (X:Cx) (e:Expr):TT:=fun σ H Q=>∀ pins s,Inv X pins σ H s→wpAny (model X.prog X.w) X.A (isTrue e X.env (eval e X.env)) (TP X pins σ Q) X.xe s
theorem pbT {X:Cx} {e:Expr}:PT X e (bT X e):=fun pins s σ H Q I h=>h pins s I
theorem tw {X:Cx} {e:Expr} {t:TT} (h:PT X e t) {σ:L2.St} {H:Hp} {Q:Bool→Hp→Prop} (q:t σ H Q):bT X e σ H Q:=fun pins s I=>h pins s σ H Q I q
noncomputable def bA (X:Cx) (es:List Expr):TA:=fun σ H Q=>∀ pos pins s,Inv X pins σ H s→wpAny (model X.prog X.w) X.A (spliced (backTo pos (starEach es X.env))) (AP X pins σ Q) X.xe s
theorem pbA {X:Cx} {es:List Expr}:PA X es (bA X es):=fun pos pins s σ H Q I h=>h pos pins s I
theorem lQ {X:Cx} {es:List Expr} {t:TA} (h:PA X es t) {σ:L2.St} {H:Hp} {Q:List V→Hp→Prop} (q:t σ H Q):bA X es σ H Q:=fun pos pins s I=>h pos pins s σ H Q I q
noncomputable def bS (X:Cx) (st:Stmt):TS:=fun D σ H=>∀ pins s,Inv X pins σ H s→wpAny (model X.prog X.w) X.A (exec st X.env) (SP X pins D) X.xe s
theorem pbS {X:Cx} {st:Stmt}:PS X st (bS X st):=fun pins s σ H D I h=>h pins s I
theorem c7 {X:Cx} {st:Stmt} {t:TS} (h:PS X st t) {σ:L2.St} {H:Hp} {D:Ends} (q:t D σ H):bS X st D σ H:=fun pins s I=>h pins s σ H D I q
noncomputable def bSs (X:Cx) (st:List Stmt):TS:=fun D σ H=>∀ pins s,Inv X pins σ H s→wpAny (model X.prog X.w) X.A (execs st X.env) (SP X pins D) X.xe s
theorem oW {X:Cx} {st:List Stmt}:PSs X st (bSs X st):=fun pins s σ H D I h=>h pins s I
theorem yc {X:Cx} {st:List Stmt} {t:TS} (h:PSs X st t) {σ:L2.St} {H:Hp} {D:Ends} (q:t D σ H):bSs X st D σ H:=fun pins s I=>h pins s σ H D I q
noncomputable def bG (X:Cx) (tg:Expr):TG:=fun v σ H Q=>∀ pins s u,Inv X pins σ H s→RelV v u→wpAny (model X.prog X.w) X.A (assign tg X.env u) (fun _ s'=>∃ σ' H',Inv X pins σ' H' s'∧Q σ' H') X.xe s
theorem pbG {X:Cx} {tg:Expr}:PG X tg (bG X tg):=fun pins s σ H v u Q I r h=>h pins s u I r
theorem yd {X:Cx} {tg:Expr} {t:TG} (h:PG X tg t) {v:V} {σ:L2.St} {H:Hp} {Q:L2.St→Hp→Prop} (q:t v σ H Q):bG X tg v σ H Q:=fun pins s u I r=>h pins s σ H v u Q I r q
variable (c:Ctx P w K mg base k N sc bk)
noncomputable def EvX (e:Expr) (ρ:List Sl) (R:Sl→Prop):Prop :=
 ∀ (σ:L2.St) (H Hf:Hp) (Q:VK),aU c σ H Hf ρ→(∀ r v H' Hf',R r→aM c.X.K (fun p=>H p=none) H' Hf' r v→Grw H Hf H' Hf'→Q v H')→bE c.X e σ H Q
noncomputable def EvE (e:Expr) (ρ:List Sl) (R:D→Prop):Prop :=
 ∀ (σ:L2.St) (H Hf:Hp) (Q:VK),aU c σ H Hf ρ→(∀ d v H' Hf',R d→Rep c.X.K Hf' d v→Grw H Hf H' Hf'→Q v H')→bE c.X e σ H Q
noncomputable def EvT (e:Expr) (ρ:List Sl) (R:Bool→Prop):Prop :=
 ∀ (σ:L2.St) (H Hf:Hp) (Q:Bool→Hp→Prop),aU c σ H Hf ρ→(∀ b H' Hf',R b→Grw H Hf H' Hf'→Q b H')→bT c.X e σ H Q
noncomputable def EvA (es:List Expr) (ρ:List Sl) (R:List D→Prop):Prop :=
 ∀ (σ:L2.St) (H Hf:Hp) (Q:List V→Hp→Prop),aU c σ H Hf ρ→(∀ ds vs H' Hf',R ds→aj c.X.K Hf' ds vs→Grw H Hf H' Hf'→Q vs H')→bA c.X es σ H Q
structure Pt where
 rt:Sl→Prop
 bk:List Sl→Prop:=fun _=>False
 ct:List Sl→Prop:=fun _=>False
structure ye (nx:List Sl→Prop) (p:Pt) (D:Ends):Prop where
 nx:∀ σ H Hf ρ,aU c σ H Hf ρ→nx ρ→D.nx σ H
 rt:∀ r v H Hf,Grw c.B c.Hf H Hf→aM c.X.K c.fr H Hf r v→p.rt r→D.rt v H
 bk:∀ σ H Hf ρ,aU c σ H Hf ρ→p.bk ρ→D.bk σ H
 ct:∀ σ H Hf ρ,aU c σ H Hf ρ→p.ct ρ→D.ct σ H
noncomputable def EvS (st:Stmt) (ρ:List Sl) (nx:List Sl→Prop) (p:Pt):Prop :=
 ∀ (σ:L2.St) (H Hf:Hp) (D:Ends),aU c σ H Hf ρ→ye c nx p D→bS c.X st D σ H
noncomputable def aW (st:List Stmt) (ρ:List Sl) (nx:List Sl→Prop) (p:Pt):Prop :=
 ∀ (σ:L2.St) (H Hf:Hp) (D:Ends),aU c σ H Hf ρ→ye c nx p D→bSs c.X st D σ H
noncomputable def EvG (tg:Expr) (d:D) (ρ:List Sl) (R:List Sl→Prop):Prop :=
 ∀ (σ:L2.St) (H Hf:Hp) (v:V) (Q:L2.St→Hp→Prop),aU c σ H Hf ρ→Rep c.X.K Hf d v→(∀ σ' H' Hf' ρ',aU c σ' H' Hf' ρ'→Grw H Hf H' Hf'→R ρ'→Q σ' H')→bG c.X tg v σ H Q
variable {c}
noncomputable def Sl.fz:Sl→Option D
 | .va d=>some d
 | .ow ds=>some (.lst ds)
 | _=>none
noncomputable def FzP (R:D→Prop) (r:Sl):Prop:=∃ d,r.fz=some d∧R d
theorem E5 {K:GW} {H Hf H' Hf':Hp} {r:Sl} {v:V} {d:D} (e:r.fz=some d) (h:aM K (fun p=>H p=none) H' Hf' r v) (g:Grw H Hf H' Hf') :
 ∃ Hf2,Rep K Hf2 d v∧Grw H Hf H' Hf2:=by
 cases r with
 | un=>cases e
 | va d'=>cases e; exact ⟨Hf',h,g⟩
 | oT _=>cases e
 | oK _=>cases e
 | aw _ _=>cases e
 | aT _ _=>cases e
 | aK _ _=>cases e
 | fo _=>cases e
 | ow ds =>
  cases e
  obtain ⟨p,xs,rfl,hp,h1,h2,h3⟩:=h
  have sf:aG Hf' (upd Hf' p (.lst xs)):=fun b o e=>by rw [ai (az e h2)]; exact e
  have sb:aG (upd Hf' p (.lst xs)) H':=fun b o e=>by
   by_cases q:b=p
   ·subst q; rw [ah] at e; rw [h1]; exact e
   ·rw [ai q] at e; exact g.b b o e
  refine ⟨upd Hf' p (.lst xs),aH.mpr ⟨p,xs,rfl,.inl (.inl ah),h3.mono sf⟩,g.s,g.f.trans sf,sb,fun b q1 q2 q3=>?_⟩
  have e:=g.n b q1 q2 q3
  by_cases q:b=p
  ·subst q; exact absurd hp q2
  ·rw [ai q]; exact e
theorem e_x {e:Expr} {ρ:List Sl} {R:D→Prop} (h:EvX c e ρ (FzP R)):EvE c e ρ R:=fun σ H Hf Q S q =>
 h σ H Hf Q S fun r v H' Hf' ⟨d,e1,rd⟩ rs g=>let ⟨Hf2,h1,g2⟩:=E5 e1 rs g; q d v H' Hf2 rd h1 g2
theorem x_e {e:Expr} {ρ:List Sl} {R:Sl→Prop} (h:EvE c e ρ fun d=>R (.va d)):EvX c e ρ R:=fun σ H Hf Q S q =>
 h σ H Hf Q S fun d v H' Hf' rd h1 g=>q (.va d) v H' Hf' rd h1 g
theorem EvE.imp {e:Expr} {ρ:List Sl} {R R':D→Prop} (h:EvE c e ρ R) (hi:∀ d,R d→R' d):EvE c e ρ R':=fun σ H Hf Q S q=>h σ H Hf Q S fun d v H' Hf' rd=>q d v H' Hf' (hi d rd)
theorem EvX.imp {e:Expr} {ρ:List Sl} {R R':Sl→Prop} (h:EvX c e ρ R) (hi:∀ d,R d→R' d):EvX c e ρ R':=fun σ H Hf Q S q=>h σ H Hf Q S fun d v H' Hf' rd=>q d v H' Hf' (hi d rd)
theorem EvT.imp {e:Expr} {ρ:List Sl} {R R':Bool→Prop} (h:EvT c e ρ R) (hi:∀ d,R d→R' d):EvT c e ρ R':=fun σ H Hf Q S q=>h σ H Hf Q S fun d H' Hf' rd=>q d H' Hf' (hi d rd)
theorem tD {x:Str} {pos:Pos} {ρ:List Sl} {R:D→Prop} {i:Nat} {d:D} (hN:At N i x) (hs:At ρ i (.va d)) (hR:R d)
 (hd:(x == ("__debug__":Str))=false:=by decide) (hcd:(x == ("__classdict__":Str))=false:=by decide) :
 EvE c (.Name x pos) ρ R:=fun σ H Hf Q S q=>by
 obtain ⟨v,e,r⟩:=S.va hs.get
 exact bu (qM (X:=c.X) (i:=i) (by rw [c.eN]; exact hN.get) (by rw [c.esc]; rcases c.vis x hN.mem with h | h; exact .inl h; exact .inr (.inl h)) hd hcd) ⟨v,e,q d v H Hf hR r (.refl S.sb)⟩
theorem e_int {i:Int} {j:Nat} {pos:Pos} {ρ:List Sl} {R:D→Prop} (hR:R (.int i)):EvE c (.Constant (.int i) j pos) ρ R:=fun σ H Hf Q S q =>
 bu Ep (q _ _ H Hf hR (au.mpr rfl) (.refl S.sb))
theorem e_bl {i:Bool} {j:Nat} {pos:Pos} {ρ:List Sl} {R:D→Prop} (hR:R (.bl i)):EvE c (.Constant (.bool i) j pos) ρ R:=fun σ H Hf Q S q =>
 bu xA (q _ _ H Hf hR (bY.mpr rfl) (.refl S.sb))
theorem qX {x:Str} {pos:Pos} {ρ:List Sl} {R:D→Prop} {i:Int} {t:Tok} (hm:mg x=some (.int i t)) (hR:R (.int i)) (hg:sc.names.lookup x=some .globalImplicit:=by walk_at "u") (hd:(x == ("__debug__":Str))=false:=by decide) :
 EvE c (.Name x pos) ρ R:=fun σ H Hf Q S q =>
 bu (sR (X:=c.X) (v:=.int i) (u:=.int i t) (by unfold Gl HH; rw [c.esc]; exact hg) (by rw [c.emg]; exact hm) ⟨t,rfl⟩ hd) (q _ _ H Hf hR (au.mpr rfl) (.refl S.sb))
noncomputable def OpD (K:GW) (r:R2) (p:D→D→(Sl→Prop)→Prop):Prop :=
 ∀ (x y:D) (v u:V) (H Hf:Hp) (Q:VK) (R:Sl→Prop),aG Hf H→Rep K Hf x v→Rep K Hf y u→p x y R →
  (∀ z v' H' Hf',R z→aM K (fun p=>H p=none) H' Hf' z v'→Grw H Hf H' Hf'→Q v' H')→r v u H Q
theorem ng {a b:Expr} {op:Operator} {pos:Pos} {ρ:List Sl} {R:Sl→Prop} {r:R2} {p:D→D→(Sl→Prop)→Prop} (ho:OpR c.X (binaryOp op) r) (hd:OpD c.X.K r p)
 (h:EvE c a ρ fun x=>EvE c b ρ fun y=>p x y R):EvX c (.BinOp a op b pos) ρ R:=fun σ H Hf Q S q =>
 bu (xH ho pbE pbE) (h σ H Hf _ S fun x v1 H1 Hf1 h1 r1 g1=>h1 σ H1 Hf1 _ (S.grw g1) fun y v2 H2 Hf2 h2 r2 g2 =>
  hd x y v1 v2 H2 Hf2 Q R g2.b (Rep.mono g2.f x r1) r2 h2 fun z v' H' Hf' hz rz g3 =>
   q z v' H' Hf' hz (rz.weak fun p hp=>(g1.trans g2).s.free hp) ((g1.trans g2).trans g3))
theorem lR {K:GW} {C:Int→Int→Prop} {f:Int→Int→Int}:OpD K (rI C fun i j=>.int (f i j)) fun x y R=>∃ i j,x=.int i∧y=.int j∧C i j∧R (.va (.int (f i j))):=by
 rintro x y v u H Hf Q R s rx ry ⟨i,j,rfl,rfl,hC,hR⟩ q
 rw [au] at rx ry
 exact ⟨i,j,rx,ry,hC,q (.va (.int (f i j))) _ H Hf hR (show Rep K Hf (.int (f i j)) _ from au.mpr rfl) (.refl s)⟩
theorem yf {K:GW} {f:Int→Int→Int}:OpD K (rI0 fun i j=>.int (f i j)) fun x y R=>∃ i j,x=.int i∧y=.int j∧R (.va (.int (f i j))):=by
 rintro x y v u H Hf Q R s rx ry ⟨i,j,rfl,rfl,hR⟩ q
 rw [au] at rx ry
 exact ⟨i,j,rx,ry,q (.va (.int (f i j))) _ H Hf hR (show Rep K Hf (.int (f i j)) _ from au.mpr rfl) (.refl s)⟩
theorem gv {e:Expr} {ρ:List Sl} {R:D→Prop} (h:EvX c e ρ fun r=>∃ d,r=.va d∧R d):EvE c e ρ R:=e_x (h.imp fun r ⟨d,e,hr⟩=>⟨d,by subst e; rfl,hr⟩)
noncomputable def iZ:D→D→Bool
 | .non,.non=>true | .non,.int _=>true | .int _,.non=>true | .non,.bl _=>true | .bl _,.non=>true | .non,.str _=>true | .str _,.non=>true
 | .int _,.int _=>true | .bl _,.bl _=>true | .str _,.str _=>true | .int _,.str _=>true | .str _,.int _=>true | .bl _,.str _=>true | .str _,.bl _=>true
 | _,_=>false
noncomputable instance:DecidableEq D:=fun _ _=>Classical.propDecidable _
inductive EqO:Nat→D→D→Prop where
 | sc {n:Nat} {x y:D} (h:iZ x y=true):EqO n x y
 | tup {n:Nat} {ds es:List D} (h:∀ (i:Nat) (d e:D),ds[i]?=some d→es[i]?=some e→EqO n d e):EqO (n+1) (.tup ds) (.tup es)
 | lst {n:Nat} {ds es:List D} (h:∀ (i:Nat) (d e:D),ds[i]?=some d→es[i]?=some e→EqO n d e):EqO (n+1) (.lst ds) (.lst es)
 | ln {n:Nat} {ds:List D}:EqO n (.lst ds) .non
 | nl {n:Nat} {ds:List D}:EqO n .non (.lst ds)
 | tn {n:Nat} {ds:List D}:EqO n (.tup ds) .non
 | nt {n:Nat} {ds:List D}:EqO n .non (.tup ds)
noncomputable def kW (ds es:List D):Prop:=∀ (i:Nat) (d e:D),ds[i]?=some d→es[i]?=some e→EqO 40 d e
noncomputable def EqOk (x y:D):Prop:=iZ x y=true∨∃ ds es,((x=.tup ds∧y=.tup es)∨(x=.lst ds∧y=.lst es))∧kW ds es
section
variable {a b:Expr} {pos:Pos} {ρ:List Sl} {R:D→Prop}
structure Sd (A B:Prop):Prop where
 s:A
 r:B
structure If2 (A B:Prop) (x:Bool):Prop where
 t:x=true→A
 f:x=false→B
theorem if2_t {A B:Prop} (h1:A):If2 A B true:=⟨fun _=>h1,fun h=>by cases h⟩
theorem if2_f {A B:Prop} (h1:B):If2 A B false:=⟨fun h=>(by cases h),fun _=>h1⟩
theorem BQ {A B p:Prop} {i:Decidable p} (h1:p→A) (h2:¬ p→B):If2 A B (@decide p i):=⟨fun h=>h1 (of_decide_eq_true h),fun h=>h2 (of_decide_eq_false h)⟩
theorem BR {A B:Prop} {x:Bool} (h:If2 B A x):If2 A B (!x):=⟨fun e=>h.f (by simpa using e),fun e=>h.t (by simpa using e)⟩
noncomputable def EqP (x y:D) (T:Bool→Prop):Prop:=EqOk x y∧T (decide (x=y))
theorem BS {i j:Int} {T:Bool→Prop} (h:T (decide (i=j))):EqP (.int i) (.int j) T:=⟨.inl rfl,by
 have e:decide (D.int i=D.int j)=decide (i=j):=by simp
 rw [e]; exact h⟩
theorem BU {ds es:List D} {T:Bool→Prop} (h:Sd (kW ds es) (T (decide (ds=es)))):EqP (.tup ds) (.tup es) T:=⟨.inr ⟨ds,es,.inl ⟨rfl,rfl⟩,h.s⟩,by
 have e:decide (D.tup ds=D.tup es)=decide (ds=es):=by simp
 rw [e]; exact h.r⟩
theorem BV {ds es:List D} {T:Bool→Prop} (h:Sd (kW ds es) (T (decide (ds=es)))):EqP (.lst ds) (.lst es) T:=⟨.inr ⟨ds,es,.inr ⟨rfl,rfl⟩,h.s⟩,by
 have e:decide (D.lst ds=D.lst es)=decide (ds=es):=by simp
 rw [e]; exact h.r⟩
noncomputable def I2 (k:Int→Int→Prop):D→D→Prop:=fun x y=>∃ i j,x=.int i∧y=.int j∧k i j
theorem i2 {k:Int→Int→Prop} {i j:Int} (h:k i j):I2 k (.int i) (.int j):=⟨i,j,rfl,rfl,h⟩
noncomputable def I1 (k:Int→Prop):D→Prop:=fun x=>∃ i,x=.int i∧k i
theorem i1 {k:Int→Prop} {i:Int} (h:k i):I1 k (.int i):=⟨i,rfl,h⟩
noncomputable def B1 (k:Bool→Prop):D→Prop:=fun x=>∃ i,x=.bl i∧k i
theorem b1 {k:Bool→Prop} {i:Bool} (h:k i):B1 k (.bl i):=⟨i,rfl,h⟩
theorem e_sub (h:EvE c a ρ fun x=>EvE c b ρ fun y=>I2 (fun i j=>R (.int (i - j))) x y):EvE c (.BinOp a .Sub b pos) ρ R :=
 gv (ng EH yf (h.imp fun x hx=>hx.imp fun y ⟨i,j,e1,e2,r⟩=>⟨i,j,e1,e2,_,rfl,r⟩))
noncomputable def MulOk (i j:Int):Prop:=IntMulOk i j
noncomputable def yg (j:Int):Prop:=0<j∧j.natAbs.log2<9000
theorem BW:OpR c.X (binaryOp .Mult) (rI MulOk fun i j=>.int (i * j)):=opI fun _ _ _ _ _ _ _ hc q=>mul_int q hc
theorem yh:OpR c.X (binaryOp .FloorDiv) (rI (fun _ j=>yg j) fun i j=>.int (i / j)):=opI fun i j _ _ _ _ _ hc q=>by
 have h1:(0:Int)<j:=hc.1
 exact floordiv_int (by omega) (by rw [Int.fdiv_eq_ediv_of_nonneg i (by omega)]; exact q) (.inl (PyProof.noPylong_of_log2 hc.2))
theorem e_mul (h:EvE c a ρ fun x=>EvE c b ρ fun y=>I2 (fun i j=>Sd (MulOk i j) (R (.int (i * j)))) x y):EvE c (.BinOp a .Mult b pos) ρ R :=
 gv (ng BW lR (h.imp fun x hx=>hx.imp fun y ⟨i,j,e1,e2,⟨hc,r⟩⟩=>⟨i,j,e1,e2,hc,_,rfl,r⟩))
theorem E6 (h:EvE c a ρ fun x=>EvE c b ρ fun y=>I2 (fun i j=>Sd (yg j) (R (.int (i / j)))) x y):EvE c (.BinOp a .FloorDiv b pos) ρ R :=
 gv (ng yh lR (h.imp fun x hx=>hx.imp fun y ⟨i,j,e1,e2,⟨hc,r⟩⟩=>⟨i,j,e1,e2,hc,_,rfl,r⟩))
theorem e_mod (h:EvE c a ρ fun x=>EvE c b ρ fun y=>I2 (fun i j=>Sd (0<j) (R (.int (i % j)))) x y):EvE c (.BinOp a .Mod b pos) ρ R :=
 gv (ng EI lR (h.imp fun x hx=>hx.imp fun y ⟨i,j,e1,e2,⟨hc,r⟩⟩=>⟨i,j,e1,e2,hc,_,rfl,r⟩))
theorem e_pow (h:EvE c a ρ fun x=>EvE c b ρ fun y=>I2 (fun i j=>Sd (xK i j) (R (.int (i ^ j.toNat)))) x y):EvE c (.BinOp a .Pow b pos) ρ R :=
 gv (ng EJ lR (h.imp fun x hx=>hx.imp fun y ⟨i,j,e1,e2,⟨hc,r⟩⟩=>⟨i,j,e1,e2,hc,_,rfl,r⟩))
theorem e_neg (h:EvE c a ρ (I1 fun i=>R (.int (-i)))):EvE c (.UnaryOp .USub a pos) ρ R:=fun σ H Hf Q S q =>
 bu (pe_un EN pbE) (h σ H Hf _ S fun x v H' Hf' hx r g=>by
  obtain ⟨i,rfl,hR⟩:=hx
  rw [au] at r
  exact ⟨i,r,q _ _ H' Hf' hR (au.mpr rfl) g⟩)
noncomputable def yi (K:GW) (r:R2) (p:D→D→(Bool→Prop)→Prop):Prop :=
 ∀ (x y:D) (v u:V) (H Hf:Hp) (Q:VK) (R:Bool→Prop),aG Hf H→Rep K Hf x v→Rep K Hf y u→p x y R→(∀ b,R b→Q (.bl b) H)→r v u H Q
theorem e_cmp {op:CmpOp} {r:R2} {p:D→D→(Bool→Prop)→Prop} (ho:OpR c.X (compareOp op) r) (hd:yi c.X.K r p) (h:EvE c a ρ fun x=>EvE c b ρ fun y=>p x y fun z=>R (.bl z))
 (hm:behindInMarks op b=false):EvE c (.Compare a [op] [b] pos) ρ R:=fun σ H Hf Q S q =>
 bu (Bv ho pbE pbE hm) (h σ H Hf _ S fun x v1 H1 Hf1 h1 r1 g1=>h1 σ H1 Hf1 _ (S.grw g1) fun y v2 H2 Hf2 h2 r2 g2 =>
  hd x y v1 v2 H2 Hf2 Q _ g2.b (Rep.mono g2.f x r1) r2 h2 fun z hz=>q _ _ H2 Hf2 hz (bY.mpr rfl) (g1.trans g2))
theorem tE {op:CmpOp} {r:R2} {p:D→D→(Bool→Prop)→Prop} {T:Bool→Prop} (ho:OpR c.X (compareOp op) r) (hd:yi c.X.K r p) (h:EvE c a ρ fun x=>EvE c b ρ fun y=>p x y T)
 (hm:behindInMarks op b=false):EvT c (.Compare a [op] [b] pos) ρ T:=fun σ H Hf Q S q =>
 tw (Bw ho pbE pbE hm) (h σ H Hf _ S fun x v1 H1 Hf1 h1 r1 g1=>h1 σ H1 Hf1 _ (S.grw g1) fun y v2 H2 Hf2 h2 r2 g2 =>
  hd x y v1 v2 H2 Hf2 _ T g2.b (Rep.mono g2.f x r1) r2 h2 fun z hz=>⟨z,rfl,q _ H2 Hf2 hz (g1.trans g2)⟩)
theorem DO {K:GW} {f:Int→Int→Bool}:yi K (rI0 fun i j=>.bl (f i j)) fun x y R=>I2 (fun i j=>R (f i j)) x y:=by
 rintro x y v u H Hf Q R s rx ry ⟨i,j,rfl,rfl,hR⟩ q
 rw [au] at rx ry
 exact ⟨i,j,rx,ry,q _ hR⟩
theorem tF {x y:D} {v u:V} {K:GW} {H:Hp} (h:iZ x y=true) (rx:Rep K H x v) (ry:Rep K H y u):Bu v u=true∧decide (v=u)=decide (x=y):=by
 cases x <;> cases y <;> simp [iZ] at h <;> simp only [au,bY,bx,dP] at rx ry <;> subst rx <;> subst ry <;> simp [Bu]
variable {T:Bool→Prop}
theorem t_lt (h:EvE c a ρ fun x=>EvE c b ρ fun y=>I2 (fun i j=>T (decide (i<j))) x y):EvT c (.Compare a [.Lt] [b] pos) ρ T:=tE op_lt DO h (jK b)
theorem t_gt (h:EvE c a ρ fun x=>EvE c b ρ fun y=>I2 (fun i j=>T (decide (j<i))) x y):EvT c (.Compare a [.Gt] [b] pos) ρ T:=tE op_gt DO h (jK b)
end
end
section
variable {P:Program} {w:World} {K:GW} {mg:Str→Option Value} {base:Heap} {k:Nat} {N:List Str} {sc:Scope} {bk:Bool} {c:Ctx P w K mg base k N sc bk}
variable {a b e:Expr} {es rest:List Expr} {pos:Pos} {ρ:List Sl} {R:D→Prop} {T:Bool→Prop}
noncomputable def bW (X:Cx) (e:Expr):TT:=fun σ H Q=>∀ whole pins s,Inv X pins σ H s→wpAny (model X.prog X.w) X.A (isTrue e X.env whole) (TP X pins σ Q) X.xe s
theorem pbW {X:Cx} {e:Expr}:PW X e (bW X e):=fun whole pins s σ H Q I h=>h whole pins s I
theorem tG {X:Cx} {e:Expr} {t:TT} (h:PW X e t) {σ:L2.St} {H:Hp} {Q:Bool→Hp→Prop} (q:t σ H Q):bW X e σ H Q:=fun whole pins s I=>h whole pins s σ H Q I q
noncomputable def EvW (c:Ctx P w K mg base k N sc bk) (e:Expr) (ρ:List Sl) (R:Bool→Prop):Prop :=
 ∀ (σ:L2.St) (H Hf:Hp) (Q:Bool→Hp→Prop),aU c σ H Hf ρ→(∀ b H' Hf',R b→Grw H Hf H' Hf'→Q b H')→bW c.X e σ H Q
theorem t_w (h:EvW c e ρ T):EvT c e ρ T:=fun σ H Hf Q S q pins s I=>h σ H Hf Q S q _ pins s I
theorem E7 (h:EvT c a ρ T):EvW c (.BoolOp .And [a] pos) ρ T:=fun σ H Hf Q S q=>tG (pw_and1 pbT) (h σ H Hf Q S q)
theorem w_or1 (h:EvT c a ρ T):EvW c (.BoolOp .Or [a] pos) ρ T:=fun σ H Hf Q S q=>tG (pw_or1 pbT) (h σ H Hf Q S q)
theorem w_and (h:EvT c a ρ (If2 (EvW c (.BoolOp .And (b::rest) pos) ρ T) (T false))):EvW c (.BoolOp .And (a::b::rest) pos) ρ T:=fun σ H Hf Q S q =>
 tG (pw_and pbT pbW) (h σ H Hf _ S fun x H' Hf' hx g=>by
  cases x with
  | true=>exact hx.t rfl σ H' Hf' Q (S.grw g) fun y H2 Hf2 hy g2=>q y H2 Hf2 hy (g.trans g2)
  | false=>exact q false H' Hf' (hx.f rfl) g)
theorem w_or (h:EvT c a ρ (If2 (T true) (EvW c (.BoolOp .Or (b::rest) pos) ρ T))):EvW c (.BoolOp .Or (a::b::rest) pos) ρ T:=fun σ H Hf Q S q =>
 tG (pw_or pbT pbW) (h σ H Hf _ S fun x H' Hf' hx g=>by
  cases x with
  | false=>exact hx.f rfl σ H' Hf' Q (S.grw g) fun y H2 Hf2 hy g2=>q y H2 Hf2 hy (g.trans g2)
  | true=>exact q true H' Hf' (hx.t rfl) g)
theorem t_not (h:EvT c a ρ fun x=>T (!x)):EvT c (.UnaryOp .Not a pos) ρ T:=fun σ H Hf Q S q =>
 tw (Et pbT) (h σ H Hf _ S fun x H' Hf' hx g=>q _ H' Hf' hx g)
theorem e_one {op:BoolOp} (h:EvE c a ρ R):EvE c (.BoolOp op [a] pos) ρ R:=fun σ H Hf Q S q=>bu (Eu pbE) (h σ H Hf Q S q)
theorem e_and (h:EvE c a ρ (B1 (If2 (EvE c (.BoolOp .And (b::rest) pos) ρ R) (R (.bl false))))):EvE c (.BoolOp .And (a::b::rest) pos) ρ R:=fun σ H Hf Q S q =>
 bu (Ew pbE pbE) (h σ H Hf _ S fun x v H' Hf' ⟨k,e,h1⟩ r g=>by
  subst e
  rw [bY] at r
  refine ⟨k,r,?_⟩
  cases k with
  | true=>rw [if_pos rfl]; exact h1.t rfl σ H' Hf' Q (S.grw g) fun y v2 H2 Hf2 hy r2 g2=>q y v2 H2 Hf2 hy r2 (g.trans g2)
  | false=>rw [if_neg G6]; exact q _ _ H' Hf' (h1.f rfl) (bY.mpr rfl) g)
theorem e_not (h:EvE c a ρ (B1 fun k=>R (.bl (!k)))):EvE c (.UnaryOp .Not a pos) ρ R:=fun σ H Hf Q S q =>
 bu (Ey pbE) (h σ H Hf _ S fun x v H' Hf' ⟨k,e,h1⟩ r g=>by
  subst e; rw [bY] at r
  exact ⟨k,r,q _ _ H' Hf' h1 (bY.mpr rfl) g⟩)
theorem BX {t:Expr} {R:Sl→Prop} (h:EvT c t ρ (If2 (EvX c a ρ R) (EvX c b ρ R))):EvX c (.IfExp t a b pos) ρ R:=fun σ H Hf Q S q =>
 bu (xB pbT pbE pbE) (h σ H Hf _ S fun x H' Hf' hx g=>by
  cases x with
  | true=>rw [if_pos rfl]; exact hx.t rfl σ H' Hf' Q (S.grw g) fun y v2 H2 Hf2 hy r2 g2=>q y v2 H2 Hf2 hy (r2.weak fun p hp=>g.s.free hp) (g.trans g2)
  | false=>rw [if_neg G6]; exact hx.f rfl σ H' Hf' Q (S.grw g) fun y v2 H2 Hf2 hy r2 g2=>q y v2 H2 Hf2 hy (r2.weak fun p hp=>g.s.free hp) (g.trans g2))
theorem BY {t:Expr} (h:EvT c t ρ (If2 (EvE c a ρ R) (EvE c b ρ R))):EvE c (.IfExp t a b pos) ρ R :=
 gv (BX (h.imp fun x hx=>⟨fun e=>x_e ((hx.t e).imp fun d h=>⟨d,rfl,h⟩),fun e=>x_e ((hx.f e).imp fun d h=>⟨d,rfl,h⟩)⟩))
theorem t_val (h:EvE c e ρ (B1 T)) (he:∀ (env:Env) whole,isTrue e env whole=(do let v ← whole; standAt e.pos; holding [v] (truthy v)):=by intro _ _; walk_at "u"):EvT c e ρ T:=fun σ H Hf Q S q =>
 tw (Es pbE (he _)) (h σ H Hf _ S fun x v H' Hf' ⟨k,e,h1⟩ r g=>by
  subst e; rw [bY] at r
  exact ⟨k,r,q k H' Hf' h1 g⟩)
theorem i6 {R:List D→Prop} (h:R []):EvA c [] ρ R:=fun σ H Hf Q S q=>lQ cA (q [] [] H Hf h (aq.mpr rfl) (.refl S.sb))
theorem cR {R:List D→Prop} (h:EvE c e ρ fun d=>EvA c es ρ fun ds=>R (d::ds)) (hs:∀ env,starEach (e::es) env=(false,eval e env)::starEach es env:=by intro _; walk_at "u"):EvA c (e::es) ρ R:=fun σ H Hf Q S q =>
 lQ (br pbE pbA (hs _)) (h σ H Hf _ S fun d v H1 Hf1 h1 r1 g1=>h1 σ H1 Hf1 _ (S.grw g1) fun ds vs H2 Hf2 h2 r2 g2=>q _ _ H2 Hf2 h2 (.cons (Rep.mono g2.f d r1) r2) (g1.trans g2))
theorem e_tup {j:Nat} (h:EvA c es ρ fun ds=>Sd (ds.length≤sizeLine) (R (.tup ds))):EvE c (.Tuple es j pos) ρ R:=fun σ H Hf Q S q =>
 bu (xN pbA) (h σ H Hf _ S fun ds vs H' Hf' ⟨hl,hR⟩ r g=>⟨by rw [← r.length]; exact hl,fun p hp=>by
  have g2:=Grw.new g.b hp (o:=.tup vs)
  exact q _ _ _ _ hR (aC.mpr ⟨p,vs,rfl,.inl (.inl ah),r.mono g2.f⟩) (g.trans g2)⟩)
theorem DP {R:Sl→Prop} (h:EvA c es ρ fun ds=>Sd (ds.length≤sizeLine) (R (.ow ds))):EvX c (.List es pos) ρ R:=fun σ H Hf Q S q =>
 bu (EO pbA) (h σ H Hf _ S fun ds vs H' Hf' ⟨hl,hR⟩ r g=>⟨by rw [← r.length]; exact hl,fun p hp=>by
  have g2:=Grw.eG g.b hp (o:=.lst vs)
  exact q _ _ _ _ hR ⟨p,vs,rfl,g.s.free hp,ah,g.b.free hp,r⟩ (g.trans g2)⟩)
variable {st:Stmt} {sts:List Stmt} {nx:List Sl→Prop} {p:Pt}
theorem qY (h:nx ρ):aW c [] ρ nx p:=fun σ H Hf D S o=>yc Bo (o.nx σ H Hf ρ S h)
theorem c8 (h:EvS c st ρ (fun ρ'=>aW c sts ρ' nx p) p):aW c (st::sts) ρ nx p:=fun σ H Hf D S o =>
 yc (xC pbS oW) (h σ H Hf { D with nx:=bSs c.X sts D } S ⟨fun σ' H' Hf' ρ' S' q=>q σ' H' Hf' D S' o,o.rt,o.bk,o.ct⟩)
theorem i7 (h:EvX c e ρ p.rt):EvS c (.Return (some e) pos) ρ nx p:=fun σ H Hf D S o =>
 c7 (xD pbE) (h σ H Hf _ S fun r v H' Hf' hr rs g=>o.rt r v H' Hf' (S.bas.trans g) (rs.weak fun p hp=>S.bas.s.free hp) hr)
theorem yj {x:Str} {pos2:Pos} {i:Nat} {r:Sl} (hN:At N i x) (hi:At ρ i r) (hu:r.owned=true) (h:p.rt r)
 (hd:(x == ("__debug__":Str))=false:=by decide) (hcd:(x == ("__classdict__":Str))=false:=by decide) :
 EvS c (.Return (some (.Name x pos2)) pos) ρ nx p:=fun σ H Hf D S o=>by
 obtain ⟨v,e,rs⟩:=S.at_ i r hi.get (by rintro rfl; cases hu)
 exact c7 (xD (qM (X:=c.X) (i:=i) (by rw [c.eN]; exact hN.get) (by rw [c.esc]; rcases c.vis x hN.mem with h | h; exact .inl h; exact .inr (.inl h)) hd hcd)) ⟨v,e,o.rt r v H Hf S.bas rs h⟩
theorem s_if {A B:List Stmt} {t:Expr} (h:EvT c t ρ (If2 (aW c A ρ nx p) (aW c B ρ nx p))):EvS c (.If t A B pos) ρ nx p:=fun σ H Hf D S o =>
 c7 (ps_if pbT oW oW) (h σ H Hf _ S fun x H' Hf' hx g=>by
  cases x with
  | true=>rw [if_pos rfl]; exact hx.t rfl σ H' Hf' D (S.grw g) o
  | false=>rw [if_neg G6]; exact hx.f rfl σ H' Hf' D (S.grw g) o)
noncomputable def Nx (ρ:List Sl) (i:Nat) (R:List Sl→Prop) (r:Sl):Prop:=∃ ρ',SSet ρ i r ρ'∧R ρ'
theorem nxt {ρ ρ':List Sl} {i:Nat} {R:List Sl→Prop} {r:Sl} (h:SSet ρ i r ρ') (hr:R ρ'):Nx ρ i R r:=⟨ρ',h,hr⟩
theorem s_set {x:Str} {pos2:Pos} {i:Nat} (hN:At N i x) (h:EvX c e ρ (Nx ρ i nx))
 (hs:∀ env,swapsWith e (some (.Name x pos2)) pos.line env=pure false:=by intro _; walk_at "u") (hf:bk=false∨sc.names.lookup x=some .local:=by first | exact .inl rfl | exact .inr (by walk_at "u")):EvS c (.Assign [.Name x pos2] e pos) ρ nx p:=fun σ H Hf D S o =>
 c7 (EC (X:=c.X) (i:=i) (by rw [c.eN]; exact c.nd) (by rw [c.eN]; exact hN.get) (by rw [c.esc]; exact c.vis x hN.mem) pbE (hs _) (c.fn x hf)) (h σ H Hf _ S fun r v H' Hf' ⟨ρ',hs,hx⟩ rs g=>o.nx _ H' Hf' _ (hs.eq ▸ S.set g rs) hx)
theorem dQ {x:Str} {d:D} {R:List Sl→Prop} {i:Nat} (hN:At N i x) (h:Nx ρ i R (.va d)) (hf:bk=false∨sc.names.lookup x=some .local:=by first | exact .inl rfl | exact .inr (by walk_at "u")):EvG c (.Name x pos) d ρ R:=fun σ H Hf v Q S r q=>by
 obtain ⟨ρ',hs,h⟩:=h
 exact yd (mT (X:=c.X) (i:=i) (by rw [c.eN]; exact c.nd) (by rw [c.eN]; exact hN.get) (by rw [c.esc]; exact c.vis x hN.mem) (c.fn x hf)) (q _ H Hf _ (hs.eq ▸ S.set (.refl S.sb) (r:=.va d) r) (.refl S.sb) h)
noncomputable def vv (c:Ctx P w K mg base k N sc bk) (ts:List Expr) (ds:List D) (ρ:List Sl) (R:List Sl→Prop):Prop :=
 ∀ (σ:L2.St) (H Hf:Hp) (vs:List V) (Q:L2.St→Hp→Prop),aU c σ H Hf ρ→aj c.X.K Hf ds vs→(∀ σ' H' Hf' ρ',aU c σ' H' Hf' ρ'→Grw H Hf H' Hf'→R ρ'→Q σ' H') →
  ∀ pins s us,Inv c.X pins σ H s→Vals vs us→wpAny (model c.X.prog c.X.w) c.X.A (assignInOrder ((assignEach ts c.X.env).map (·.2)) us) (fun _ s'=>∃ σ' H',Inv c.X pins σ' H' s'∧Q σ' H') c.X.xe s
theorem E8 {R:List Sl→Prop} (h:R ρ):vv c [] [] ρ R:=fun σ H Hf vs Q S r q pins s us I rv=>by
 rw [aq] at r; subst r
 exact Bq pins s σ H [] us Q I rv ⟨rfl,q σ H Hf ρ S (.refl S.sb) h⟩
theorem BZ {x:Str} {d:D} {ds:List D} {ts:List Expr} {R:List Sl→Prop} {i:Nat} (hN:At N i x) (h:Nx ρ i (fun ρ'=>vv c ts ds ρ' R) (.va d))
 (hs:∀ env,(assignEach (.Name x pos::ts) env).map (·.2)=assign (.Name x pos) env::(assignEach ts env).map (·.2):=by intro _; walk_at "u") (hf:bk=false∨sc.names.lookup x=some .local:=by first | exact .inl rfl | exact .inr (by walk_at "u")):vv c (.Name x pos::ts) (d::ds) ρ R:=fun σ H Hf vs Q S r q pins s us I rv=>by
 obtain ⟨ρ',hs',h⟩:=h
 rw [aB] at r
 obtain ⟨v,vr,rfl,r1,r2⟩:=r
 have hp:PGs c.X ts (fun vs' σ' H' Q'=>∀ pins s us,Inv c.X pins σ' H' s→Vals vs' us→wpAny (model c.X.prog c.X.w) c.X.A (assignInOrder ((assignEach ts c.X.env).map (·.2)) us) (fun _ s'=>∃ σ'' H'',Inv c.X pins σ'' H'' s'∧Q' σ'' H'') c.X.xe s) :=
  fun pins s σ H vs us Q I r h=>h pins s us I r
 refine xE (mT (X:=c.X) (i:=i) (by rw [c.eN]; exact c.nd) (by rw [c.eN]; exact hN.get) (by rw [c.esc]; exact c.vis x hN.mem) (c.fn x hf)) hp (hs _) pins s σ H _ us Q I rv ⟨v,vr,rfl,?_⟩
 have S1:=S.set (i:=i) (.refl S.sb) (r:=.va d) (v:=v) r1
 rw [← hs'.eq] at S1
 exact h _ H Hf vr Q S1 r2 q
theorem g_tup {ts:List Expr} {j:Nat} {d:D} {ds:List D} {R:List Sl→Prop} (he:d=.tup ds) (hl:ds.length=ts.length) (h:vv c ts ds ρ R)
 (hn:∀ env,(assignEach ts env).length=ts.length:=by intro _; walk_at "u") (hst:∀ env,(assignEach ts env).findIdx? (·.1)=none:=by intro _; walk_at "u"):EvG c (.Tuple ts j pos) d ρ R:=fun σ H Hf v Q S r q=>by
 subst he
 rw [aC] at r
 obtain ⟨a,xs,rfl,h1,h2⟩:=r
 have hp:PGs c.X ts (fun vs' σ' H' Q'=>∀ pins s us,Inv c.X pins σ' H' s→Vals vs' us→wpAny (model c.X.prog c.X.w) c.X.A (assignInOrder ((assignEach ts c.X.env).map (·.2)) us) (fun _ s'=>∃ σ'' H'',Inv c.X pins σ'' H'' s'∧Q' σ'' H'') c.X.xe s) :=
  fun pins s σ H vs us Q I r h=>h pins s us I r
 refine yd (Ez (X:=c.X) (k:=j) (n:=ts.length) c.calm hp (hn _) (hst _)) ⟨a,xs,rfl,ak S.sb h1,by rw [← h2.length,hl],?_⟩
 exact h σ H Hf xs Q S h2 fun σ' H' Hf' ρ' S' g' hR=>q σ' H' Hf' ρ' S' g' hR
theorem s_aug {x:Str} {pos2:Pos} {op:Operator} {f:Int→Int→Int} {C:Int→Int→Prop} (ho:OpR c.X (inplaceOp op) (rI C fun i j=>.int (f i j))) {i:Nat} {m:Int} (hN:At N i x) (hi:At ρ i (.va (.int m)))
 (h:EvE c e ρ (I1 fun j=>Sd (C m j) (Nx ρ i nx (.va (.int (f m j)))))) (hf:bk=false∨sc.names.lookup x=some .local:=by first | exact .inl rfl | exact .inr (by walk_at "u")):EvS c (.AugAssign (.Name x pos2) op e pos) ρ nx p:=fun σ H Hf D S o=>by
 obtain ⟨v,e1,r1⟩:=S.va hi.get
 rw [au] at r1; subst r1
 have hip:PIp c.X op (rI C fun i j=>.int (f i j)):=fun pins s σ H x y v u Q I rx ry h=>ho pins s σ H x y v u Q I rx ry h
 refine c7 (ED (X:=c.X) (i:=i) (by rw [c.eN]; exact c.nd) (by rw [c.eN]; exact hN.get) (by rw [c.esc]; exact c.vis x hN.mem) pbE hip (c.fn x hf)) ⟨_,e1,h σ H Hf _ S fun d v H' Hf' ⟨j,ed,⟨hC,ρ',hs,hn⟩⟩ r g=>?_⟩
 subst ed; rw [au] at r
 have S2:=S.set g (i:=i) (r:=.va (.int (f m j))) (show Rep c.X.K Hf' (.int (f m j)) (.int (f m j)) from au.mpr rfl)
 rw [← hs.eq] at S2
 exact ⟨m,j,rfl,r,hC,o.nx _ H' Hf' _ S2 hn⟩
theorem E9 {x:Str} {pos2:Pos} {i:Nat} {m:Int} (hN:At N i x) (hi:At ρ i (.va (.int m))) (h:EvE c e ρ (I1 fun j=>Nx ρ i nx (.va (.int (m - j))))) (hf:bk=false∨sc.names.lookup x=some .local:=by first | exact .inl rfl | exact .inr (by walk_at "u")) :
 EvS c (.AugAssign (.Name x pos2) .Sub e pos) ρ nx p :=
 s_aug (C:=fun _ _=>True) (f:=fun i j=>i - j) (fun pins s σ H x y v u Q I rx ry ⟨i,j,e1,e2,_,q⟩=>Bt pins s σ H x y v u Q I rx ry ⟨i,j,e1,e2,q⟩) hN hi (h.imp fun d ⟨j,e,q⟩=>⟨j,e,trivial,q⟩) hf
theorem tH {t:Expr} {body:List Stmt} (hq:c.X.xe=fun _ _=>False) (I:Nat→List Sl→Prop) {m₀:Nat} (h0:I m₀ ρ)
 (h:∀ m ρ',I m ρ'→EvT c t ρ' (If2 (aW c body ρ' (fun r=>∃ m',m'<m∧I m' r) { ct:=fun r=>∃ m',m'<m∧I m' r,bk:=nx,rt:=p.rt }) (nx ρ'))) :
 EvS c (.While t body [] pos) ρ nx p:=fun σ H Hf D S o =>
 c7 (xF (by rw [hq]; exact PassesOwn.never) pbT oW) ⟨fun m σ H=>∃ Hf ρ',aU c σ H Hf ρ'∧I m ρ',⟨m₀,Hf,ρ,S,h0⟩,fun m σ H ⟨Hf,ρ',S,hI⟩=>h m ρ' hI σ H Hf _ S fun x H' Hf' hx g=>by
  cases x with
  | false=>rw [if_neg G6]; exact o.nx σ H' Hf' ρ' (S.grw g) (hx.f rfl)
  | true =>
   rw [if_pos rfl]
   refine ⟨fun σ' H'=>∃ m',m'<m∧∃ Hf ρ',aU c σ' H' Hf ρ'∧I m' ρ',fun σ' H' ⟨m',hl,hh⟩=>⟨m',hl,hh⟩,?_⟩
   exact hx.t rfl σ H' Hf' _ (S.grw g) ⟨fun σ H Hf ρ S ⟨m',hl,hi⟩=>⟨m',hl,Hf,ρ,S,hi⟩,o.rt,fun σ H Hf ρ S q=>o.nx σ H Hf ρ S q,fun σ H Hf ρ S ⟨m',hl,hi⟩=>⟨m',hl,Hf,ρ,S,hi⟩⟩⟩
end
theorem oX {n:Nat} (h:n≤1000):n≤sizeLine:=JH (vq h)
theorem yk {j:Int} (h:0<j) (h2:j.natAbs.log2<9000):yg j:=⟨h,h2⟩
inductive Res where
 | ok (r:Sl)
 | ex (C:Addr)
noncomputable abbrev Fn:=List D→Res→Prop
noncomputable def spF (K:GW) (F:Fn):Sp:=fun vs H Q E=>∃ Hf ds r,aG Hf H∧aj K Hf ds vs∧F ds r∧match r with
 | .ok sl=>∀ v H' Hf',Grw H Hf H' Hf'→aM K (fun p=>H p=none) H' Hf' sl v→Q v H'
 | .ex C=>∀ a H',aG H H'→E (.ref C) (some a) H'
structure Cal (P:Program) (w:World) (K:GW) (mg:Str→Option Value) (base:Heap) (k:Nat) (x:Str) (F:Fn):Prop where
 ex:∃ f fd ps,mg x=some (.ref f)∧Jb K (.ref f)=true∧Binds K fd ps []∧aX P w K mg base (CXE P w) k f fd ps (spF K F)
section
variable {P:Program} {w:World} {K:GW} {mg:Str→Option Value} {base:Heap} {k:Nat} {N:List Str} {sc:Scope} {bk:Bool} {c:Ctx P w K mg base k N sc bk}
variable {a b e:Expr} {es rest:List Expr} {pos:Pos} {ρ:List Sl} {R:D→Prop} {T:Bool→Prop}
noncomputable def RsP (c:Ctx P w K mg base k N sc bk) (ρ:List Sl) (R:Sl→Prop):Res→Prop
 | .ok sl=>R sl
 | .ex C=>c.RX C ρ
theorem B0 {x:Str} {F:Fn} {j:Nat} (h:Cal P w K mg base j x F) (hj:j≤k):∃ f,mg x=some (.ref f)∧Jb K (.ref f)=true ∧
 ∀ (pins:List (Addr×Obj)) (σ:L2.St) (H Hf:Hp) (s:Shared) (us:List Value) (vs:List V) (ds:List D) (r:Res) (Q:VK),Inv c.X pins σ H s→aU c σ H Hf ρ→Vals vs us→aj c.X.K Hf ds vs→F ds r →
  (∀ sl v H' Hf',r=.ok sl→aM c.X.K (fun p=>H p=none) H' Hf' sl v→Grw H Hf H' Hf'→Q v H')→(∀ C,r=.ex C→c.RX C ρ)→wpAny (model c.X.prog c.X.w) c.X.A (call (.ref f) us) (EP c.X pins σ Q) c.X.xe s:=by
 obtain ⟨f,fd,ps,hm,hk,hb,hF⟩:=h.ex
 refine ⟨f,hm,hk,fun pins σ H Hf s us vs ds r Q I S rv rs hr q hx=>?_⟩
 have hF':aX c.X.prog c.X.w c.X.K c.X.mg c.X.base (CXE c.X.prog c.X.w) k f fd ps (spF c.X.K F):=by rw [c.eP,c.ew,c.eK,c.emg,c.eb]; exact hF.mono hj
 have hsp:spF c.X.K F vs H Q (fun cv ao H'=>∃ C,r=.ex C∧cv=.ref C∧aG H H'):=by
  refine ⟨Hf,ds,r,S.bas.b,rs,hr,?_⟩
  cases r with
  | ok sl=>exact fun v H' Hf' g rs2=>q sl v H' Hf' rfl rs2 g
  | ex C=>exact fun a H' s2=>⟨C,rfl,rfl,s2⟩
 have hl:us.length=ps.length:=by rw [← rv.length]; exact hF'.len _ _ _ _ hsp
 have hb':Binds c.X.K fd ps []:=by rw [c.eK]; exact hb
 have hb2:=hb' s us I.kIn (by simpa using hl)
 rw [Io] at hb2
 refine KC (Kx (hF'.run c.X.A c.X.stack s H ⟨us,[]⟩ us vs Q _ c.room I.By hb2 rv hsp) fun r' s' hq=>?_)
 cases r' with
 | error e =>
  obtain ⟨a,C,H',rfl,hE,C',e1,e2,sm⟩:=hq
  cases e2
  exact c.exc C a pins σ H Hf ρ s H' s' I S (hx C e1) hE sm
 | ok fl =>
  cases fl with
  | ret u=>exact I.after hq
  | next=>exact Ih hq
  | brk=>exact Ih hq
  | cont=>exact Ih hq
theorem x_call {x:Str} {p:Pos} {F:Fn} {j:Nat} {R:Sl→Prop} (h:Cal P w K mg base j x F) (hj:j≤k)
 (ha:EvA c (e::es) ρ fun ds=>∃ r,F ds r∧RsP c ρ R r)
 (hg:sc.names.lookup x=some .globalImplicit:=by walk_at "u") (hdb:(x == ("__debug__":Str))=false:=by decide) (he:∀ env,starEach (e::es) env=(false,eval e env)::starEach es env:=by intro _; walk_at "u")
 (hpl:∀ env,(backTo pos (starEach es env)).any (·.1)=false:=by intro _; walk_at "u"):EvX c (.Call (.Name x p) (e::es) [] pos) ρ R:=fun σ H Hf Q S q pins s I=>by
 obtain ⟨f,hm,hk,run⟩:=B0 (c:=c) (ρ:=ρ) h hj
 refine I0 (gp I (by unfold Gl HH; rw [c.esc]; exact hg) (by rw [c.emg]; exact hm) ?_ hdb)
 refine Lr (h₀:=c.X.base) I.ok.mod.kin (by rw [c.eK]; exact hk) (thn (ha σ H Hf (fun vs H1=>∃ Hf1 ds,(∃ r,F ds r∧RsP c ρ R r)∧aj c.X.K Hf1 ds vs∧Grw H Hf H1 Hf1) S (fun ds vs H1 Hf1 hr rs g=>⟨Hf1,ds,hr,rs,g⟩) pos pins s I) fun us s1 ⟨vs,H1,I1,rv,Hf1,ds,⟨r,hF,hR⟩,rs,g⟩=>⟨I1.kIn,?_⟩) (he _) (hpl _)
 refine run pins σ H1 Hf1 s1 us vs ds r Q I1 (S.grw g) rv rs hF (fun sl v H' Hf' e1 rs2 g2=>?_) fun C e1=>?_
 ·subst e1
  exact q sl v H' Hf' hR (rs2.weak fun p hp=>g.s.free hp) (g.trans g2)
 ·subst e1
  exact hR
theorem bH {x:Str} {p:Pos} {F:Fn} {j:Nat} (h:Cal P w K mg base j x F) (hj:j≤k)
 (ha:EvA c (e::es) ρ fun ds=>∃ r,F ds r∧RsP c ρ (FzP R) r)
 (hg:sc.names.lookup x=some .globalImplicit:=by walk_at "u") (hdb:(x == ("__debug__":Str))=false:=by decide) (he:∀ env,starEach (e::es) env=(false,eval e env)::starEach es env:=by intro _; walk_at "u")
 (hpl:∀ env,(backTo pos (starEach es env)).any (·.1)=false:=by intro _; walk_at "u"):EvE c (.Call (.Name x p) (e::es) [] pos) ρ R:=e_x (x_call h hj ha hg hdb he hpl)
noncomputable def fO (N:List Str) (ds:List D):List Sl:=ds.map .va++Hh (N.length - ds.length) .un
theorem yl {K:GW} {H₀ Hf₀:Hp} {N:List Str} {vs:List V} {ds:List D} (r:aj K Hf₀ ds vs) (sb:aG Hf₀ H₀):StR K H₀ Hf₀ (L2.start N vs) H₀ Hf₀ (fO N ds):=by
 have hl:=r.length
 refine ⟨.refl sb,by simp [L2.start,fO,hl],fun i r' h hu=>?_,fun i j r1 r2 p hne h1 h2 o1 o2=>?_⟩
 ·by_cases q:i<ds.length
  ·have e:(fO N ds)[i]?=some (.va ds[i]):=by
    unfold fO
    rw [Jv (by simpa using q)]; simp [q]
   rw [e] at h; cases h
   obtain ⟨x,e2,rx⟩:=r.get (i:=i) (d:=ds[i]) (by simp)
   refine ⟨x,?_,rx⟩
   unfold L2.start
   rw [Jv (by simp; omega)]
   simp [e2]
  ·unfold fO at h
   rw [Ke (by simp; omega)] at h
   have:=IU h
   exact absurd (Lg this) hu
 ·exfalso
  unfold fO at h1
  by_cases q:i<(ds.map Sl.va).length
  ·rw [Jv q] at h1
   rw [G9] at h1
   cases z:ds[i]? with
   | none=>rw [z] at h1; cases h1
   | some d=>rw [z] at h1; cases h1; cases o1
  ·rw [Ke (by omega)] at h1
   have e3:=Lg (IU h1)
   subst e3; cases o1
theorem cD {x qual:Str} {st:Stmt} {f:Addr} {fd:FuncData} {ps:List Str} {k:Nat} {F:Fn} (Fu:Fun K x qual st f fd) (Sc:aE N ps (aa st)) (Vi:∀ x∈N,Loc (aa st) x) (ar:∀ ds r,F ds r→ds.length=ps.length)
 (hok:∀ ds r,F ds r→∃ sl,r=.ok sl)
 (body:∀ (c:Ctx P w K mg base k N (aa st) false),c.X.xe=(fun _ _=>False)→∀ ds sl,F ds (.ok sl)→aW c (ay st) (fO N ds) (fun _=>sl=.va .non) { rt:=fun r=>r=sl }) :
 aX P w K mg base (CXE P w) (k+1) f fd ps (spF K F):=by
 obtain ⟨oc,od,kV,doc,pm,an,cdv,ct,osl,rfl,lk,hcd⟩:=Fu.ex
 refine xO lk hcd Sc (fun vs H Q E ⟨Hf,ds,r,_,rs,hF,_⟩=>by rw [← rs.length]; exact ar _ _ hF) fun A outer s H vs Q E hr ⟨Hf,ds,r,sb,rs,hF,hq⟩=>?_
 obtain ⟨sl,rfl⟩:=hok _ _ hF
 let X:Cx:=(oG (CXE P w) P w K mg base N qual (aa st) f cdv A outer s H E).nox
 let c:Ctx P w K mg base k N (aa st) false :=
  { X:=X,eP:=rfl,ew:=rfl,eK:=rfl,emg:=rfl,eb:=rfl,eN:=rfl,esc:=rfl,calm:=rfl,top:=fun _=>⟨rfl,rfl,rfl⟩,cb:=fun _ _ _ _ _ I x c h=>I.ok.cab x c rfl h,fn:=fun _ _=>.inl rfl,B:=H,room:=hr,nd:=Sc.nd,vis:=Vi,Hf:=Hf,RX:=fun _ _=>False,
    exc:=fun _ _ _ _ _ _ _ _ _ _ _ _ h _ _=>h.elim,RM:=fun _ _=>False,mde:=fun _ _ _ _ _ _ _ _ _ _ _ _ h _=>h.elim }
 refine ⟨_,PSs.nox (t:=bSs X (ay st)) (oW (X:=X)),?_⟩
 refine body c rfl ds sl hF (L2.start N vs) H Hf _ (yl rs sb) ⟨fun σ H' Hf' ρ S e=>?_,fun r v H' Hf' g rv e=>?_,fun _ _ _ _ _ h=>h.elim,fun _ _ _ _ _ h=>h.elim⟩
 ·subst e
  exact hq .non H' Hf' S.bas (show Rep K Hf' .non .non from bx.mpr rfl)
 ·have e:r=sl:=e
  subst e
  exact hq v H' Hf' g rv
noncomputable def CalD (K:GW) (r:List V→Hp→VK→Prop) (p:List D→(Sl→Prop)→Prop):Prop :=
 ∀ (ds:List D) (vs:List V) (H Hf:Hp) (Q:VK) (R:Sl→Prop),aG Hf H→aj K Hf ds vs→p ds R→(∀ z v' H' Hf',R z→aM K (fun p=>H p=none) H' Hf' z v'→Grw H Hf H' Hf'→Q v' H')→r vs H Q
theorem x_bty {x:Str} {id:String} {p:Pos} {r:List V→Hp→VK→Prop} {q:List D→(Sl→Prop)→Prop} {R:Sl→Prop} (hc:eE c.X (.type id) r) (hd:CalD c.X.K r q) (hm:mg x=none) (hv:bootBuiltins x=some (.type id))
 (ha:EvA c (e::es) ρ fun ds=>q ds R) (hg:sc.names.lookup x=some .globalImplicit:=by walk_at "u") (hn:x≠"__name__":=by decide) (hdb:(x == ("__debug__":Str))=false:=by decide)
 (he:∀ env,starEach (e::es) env=(false,eval e env)::starEach es env:=by intro _; walk_at "u") (hpl:∀ env,(backTo pos (starEach es env)).any (·.1)=false:=by intro _; walk_at "u"):EvX c (.Call (.Name x p) (e::es) [] pos) ρ R:=fun σ H Hf Q S qq =>
 bu (lH hc (by unfold Gl HH; rw [c.esc]; exact hg) (by rw [c.emg]; exact hm) hv pbA hn hdb (he _) (hpl _))
  (ha σ H Hf _ S fun ds vs H1 Hf1 h1 rs g=>hd ds vs H1 Hf1 Q R g.b rs h1 fun z v' H' Hf' hz rz g2=>qq z v' H' Hf' hz (rz.weak fun p hp=>g.s.free hp) (g.trans g2))
theorem lS {K:GW} {H:Hp} {d:D} {vs:List V} (h:aj K H [d] vs):∃ v,vs=[v]∧Rep K H d v:=by
 rw [aB] at h
 obtain ⟨x,r,rfl,h1,h2⟩:=h
 rw [aq] at h2; subst h2
 exact ⟨x,rfl,h1⟩
noncomputable def ym (K:GW) (r:List V→Hp→VK→Prop) (p:List D→(D→Prop)→Prop):Prop :=
 ∀ (ds:List D) (vs:List V) (H Hf:Hp) (Q:VK) (R:D→Prop),aG Hf H→aj K Hf ds vs→p ds R→(∀ d v H' Hf',R d→Rep K Hf' d v→Grw H Hf H' Hf'→Q v H')→r vs H Q
theorem oY {x:Str} {id:String} {p:Pos} {r:List V→Hp→VK→Prop} {q:List D→(D→Prop)→Prop} (hc:eE c.X (.builtin id) r) (hd:ym c.X.K r q) (hm:mg x=none) (hv:bootBuiltins x=some (.builtin id))
 (ha:EvA c (e::es) ρ fun ds=>q ds R) (hg:sc.names.lookup x=some .globalImplicit) (hn:x≠"__name__") (hdb:(x == ("__debug__":Str))=false)
 (he:∀ env,starEach (e::es) env=(false,eval e env)::starEach es env) (hpl:∀ env,(backTo pos (starEach es env)).any (·.1)=false):EvE c (.Call (.Name x p) (e::es) [] pos) ρ R:=fun σ H Hf Q S qq =>
 bu (xP hc (by unfold Gl HH; rw [c.esc]; exact hg) (by rw [c.emg]; exact hm) hv pbA hn hdb (he _) (hpl _))
  (ha σ H Hf _ S fun ds vs H1 Hf1 h1 rs g=>hd ds vs H1 Hf1 Q R g.b rs h1 fun z v' H' Hf' hz rz g2=>qq z v' H' Hf' hz rz (g.trans g2))
theorem e_bty {x:Str} {id:String} {p:Pos} {r:List V→Hp→VK→Prop} {q:List D→(D→Prop)→Prop} (hc:eE c.X (.type id) r) (hd:ym c.X.K r q) (hm:mg x=none) (hv:bootBuiltins x=some (.type id))
 (ha:EvA c (e::es) ρ fun ds=>q ds R) (hg:sc.names.lookup x=some .globalImplicit) (hn:x≠"__name__") (hdb:(x == ("__debug__":Str))=false)
 (he:∀ env,starEach (e::es) env=(false,eval e env)::starEach es env) (hpl:∀ env,(backTo pos (starEach es env)).any (·.1)=false):EvE c (.Call (.Name x p) (e::es) [] pos) ρ R:=fun σ H Hf Q S qq =>
 bu (lH hc (by unfold Gl HH; rw [c.esc]; exact hg) (by rw [c.emg]; exact hm) hv pbA hn hdb (he _) (hpl _))
  (ha σ H Hf _ S fun ds vs H1 Hf1 h1 rs g=>hd ds vs H1 Hf1 Q R g.b rs h1 fun z v' H' Hf' hz rz g2=>qq z v' H' Hf' hz rz (g.trans g2))
section
variable {p:Pos}
end
end
end EV
namespace EV
open PySem PySem.Spec PySem.Calls PyProof.Rows L2
theorem Fb {P:Program} {w:World} {H:Hp} {h:Heap} {a:Addr} {o:HO} (x:aS P w H h a o):∃ u,h.get? a=some u:=by
 cases o with
 | lst xs=>obtain ⟨_,_,_,_,e⟩:=x; exact ⟨_,e⟩
 | tup xs=>obtain ⟨_,_,_,ob,e,_⟩:=x; exact ⟨_,e⟩
 | dK kvs=>obtain ⟨_,_,_,_,o,_,_,e,_⟩:=x; exact ⟨_,e⟩
 | dT kvs=>obtain ⟨_,_,_,_,o,_,_,e,_⟩:=x; exact ⟨_,e⟩
 | set S n=>obtain ⟨o,_,_,_,e,_⟩:=x; exact ⟨_,e⟩
 | ins C dx fs=>obtain ⟨_,_,_,e,_⟩:=x; exact ⟨_,e⟩
 | own y=>exact x
 | xd fs=>obtain ⟨_,⟨_,_,_,e,_⟩,_⟩:=x; exact ⟨_,e⟩
 | rng lo hi=>obtain ⟨_,_,_,e⟩:=x; exact ⟨_,e⟩
 | frz ob u=>obtain ⟨e,_⟩:=x; exact ⟨_,e⟩
 | tbl ps=>exact ⟨_,x⟩
 | met f y=>exact ⟨_,x⟩
 | ext φ =>exact x.2.1
section
variable {P:Program} {w:World} {K:GW} {mg:Str→Option Value} {base:Heap} {N:List Str} {qual:Str} {scope:Scope} {f:Addr} {cd:Value} {A:Around} {outer:List Env} {s:Shared} {H:Hp} {E:XK}
end
section
variable {P:Program} {w:World} {K:GW} {mg:Str→Option Value} {base:Heap} {k:Nat} {N:List Str} {sc:Scope} {bk:Bool} {c:Ctx P w K mg base k N sc bk} {ρ:List Sl} {nx:List Sl→Prop} {p:Pt} {pos np cpos:Pos} {e:Expr}
end
open PySem.W Builtin Builtin.ObjectAttr Builtin.Getset_descriptor
structure ExK (K:GW) (C:Addr):Prop where
 ga:JB K (.ref C) "__getattribute__"=some (some (.builtin "BaseException.__getattribute__"))
 hk:JB K (.ref C) "__getattr__"=some none
 ca:JB K (.ref C) "__class__"=some (some (.builtin "object.__class__"))
 gt:MN K (.builtin "object.__class__") "__get__"=some (some (.builtin "getset_descriptor.__get__"))
 tk:PySem.W.takesIn K (.builtin "object.__class__")=some true
 mo:LX K C (.type "object")=some true
 mb:LX K C (.type "BaseException")=some true
section
variable {prog:Program} {w:World} {A:Around} {E:Value→Shared→Prop} {s:Shared} {K:GW} {x C:Addr} {R:Result→Shared→Prop}
theorem tK {M:Model} {h:Heap} (p:qW x C h):Looks M h (typeOf (.ref x)) (.ref C):=by
 obtain ⟨o,ho,hc,_⟩:=p
 rw [← hc]
 exact (Looks.ld ho).andThen .now
theorem kX {tp:Value} (X:K.In s.heap) (L:Looks (model prog w) s.heap (typeOf (.ref x)) (.ref C)) (hm:LX K C (.type "object")=some true)
 (h:R (.ok (.ret (.ref C))) s):codeAny (model prog w) A (.call (.builtin "getset_descriptor.__get__") ⟨[.builtin "object.__class__",.ref x,tp],[]⟩) R s:=by
 obtain ⟨hh,g,dr,t,os⟩:=s
 have L0:=L
 have L1:=looks_mroIn (M:=model prog w) X hm
 refine codeAny_call_builtin KF.slot_gs.plain KF.entry_gs (KF.slot_gs.check _ _ _ _ _ _ _ _ KF.type_class (KF.args_gs _ _ _) ?_)
 unfold Builtin.«getset_descriptor.__get__» descrGet
 rw [dga_obj]
 refine GU (GX ?_)
 unfold descrGetter descrCheckInstance descrNameAndClass isInstance
 simp only [KF.owner_class]
 repeat lk
 refine ⟨Code.quiet_builtin _ (by decide +kernel),KR KF.entry_class ?_⟩
 unfold Builtin.«object.__class__» shownTypeOf
 repeat lk
 exact h
theorem yo {M:Model} {h:Heap} (X:K.In h) (k:ExK K C):Looks M h (find (.ref x) (.ref C) "__class__") (.bind (.builtin "getset_descriptor.__get__") (.builtin "object.__class__")):=by
 have L1:=looks_findIn (M:=M) X k.ca
 have L2:Looks M h (getOf (some (.builtin "object.__class__"))) (some (.builtin "getset_descriptor.__get__")):=looks_specialIn X k.gt
 have L3:=looks_takesIn (M:=M) X k.tk
 unfold find
 refine L1.andThen (L2.andThen ?_)
 refine Looks.andThen (a:=some (.builtin "getset_descriptor.__get__",.builtin "object.__class__")) ?_ (Looks.tag .now)
 unfold dataDescriptor?
 exact L3.andThen .now
theorem vz {Q:Option Value→Shared→Prop} (X:K.In s.heap) (p:qW x C s.heap) (k:ExK K C) (h:Q (some (.ref C)) { s with toks:=s.toks+1 }):wpAny (model prog w) A (getAttr? (.ref x) "__class__") Q E s:=by
 obtain ⟨hh,g,d,t,os⟩:=s
 have L0:Looks (model prog w) hh (typeOf (.ref x)) (.ref C):=tK p
 have L1:=looks_findIn (M:=model prog w) X k.ga
 have L2:=looks_findIn (M:=model prog w) X k.hk
 have L3:=looks_mroIn (M:=model prog w) X k.mb
 have L4:=yo (M:=model prog w) (x:=x) X k
 unfold getAttr? getAttrBy? getAttrBy
 refine GU (wpAny_mkText (GU (JD (IF (GU (L0.at (GU (L1.at ?_))))))))
 dsimp only
 have hx2:(Value.builtin "BaseException.__getattribute__" == Value.builtin "object.__getattribute__")=false:=by decide +kernel
 rw [hx2,Bool.and_false,if_neg G6]
 unfold getAttrByItsOwn hookBefore
 rw [if_pos (by rfl)]
 refine GU (L2.at ?_)
 refine GU (JD (IF ?_))
 unfold callGetattribute
 rw [if_neg (by simp)]
 unfold boundAndCalled
 have f3:=PySem.F.attrBase_ValueError.ga.bind (.ref x)
 rw [f3]
 refine GU (GX ?_)
 refine KC (codeAny_call_builtin PySem.F.attrBase_ValueError.ga.plain PySem.F.entry_bexc_ga ?_)
 have hk:builtinKind "BaseException.__getattribute__"=some .slot:=by decide +kernel
 have hsplit:splitId "BaseException.__getattribute__"=some ("BaseException","__getattribute__"):=by decide +kernel
 have ha:=PySem.F.args_bexc_ga (.ref x) (K8 "__class__" t)
 simp only [checkBuiltinCall,hk,hsplit]
 dsimp only [Ja,JA]
 have LI:Looks (model prog w) hh (isInstance (.ref x) (.type "BaseException")) true:=L0.andThen L3
 refine GU (LI.at ?_)
 rw [if_neg (by decide)]
 refine HU (Q:=fun _ s1=>s1=⟨hh,g,d,t+1,os⟩) (E:=fun _ _=>False) ?_ (fun _ s1 e1=>?_) (fun _ _ z=>z.elim)
 ·repeat (any_goals (first | assumption | rfl | wp_step))
 subst e1
 unfold «object.__getattribute__»
 repeat (first | with_reducible refine KC ?_ | lk)
 refine kX X L0 k.mo ?_
 repeat lk
 exact h
theorem yq (k:ExK K C):PySem.W.KitX K (.ref x) (.ref C) (qW x C) where
 ty:=fun _ _ _ p=>tK p
 it:=fun _ _ X _=>by
  have hdct:∃ cd,KZ K C=some cd:=by
   obtain ⟨cd,h1,_⟩:=Mm.mp (show (KZ K C).bind _=some true from k.mo)
   exact ⟨cd,h1⟩
  obtain ⟨cdD,hcD⟩:=hdct
  unfold KZ at hcD
  split at hcD
  ·rename_i c' d' cd' sl' ho
   intro A' Q' E' s' k q
   unfold isType loadHead
   exact GU (wpAny_loadPart (k _ _ (X _ _ ho)) (GX q))
  ·cases hcD
 ne:=fun h tp dd its n sl X htp=>by
  obtain ⟨cdD,hcD,_⟩:=Mm.mp (show (KZ K C).bind _=some true from k.mo)
  refine Bool.eq_false_iff.mpr fun q=>?_
  have e:C=tp:=Hr.inj (beq_iff_eq.mp q)
  subst e
  unfold KZ at hcD
  split at hcD
  ·rename_i c' d' cd' sl' ho
   have z:=(X _ _ ho).symm.trans htp
   cases z
  ·cases hcD
 ca:=fun X p h=>vz X p k h
end
inductive TyD (K:GW):D→Value→Prop where
 | non:TyD K .non (.type "NoneType")
 | bl {x:Bool}:TyD K (.bl x) (.type "bool")
 | int {i:Int}:TyD K (.int i) (.type "int")
 | str {x:Str}:TyD K (.str x) (.type "str")
 | lst {ds:List EV.D}:TyD K (.lst ds) (.type "list")
 | tup {ds:List EV.D}:TyD K (.tup ds) (.type "tuple")
 | exc {C:Addr} (k:ExK K C):TyD K (.exc C) (.ref C)
section
variable {X:Cx} {pins:List (Addr×Obj)} {σ:L2.St} {H Hf:Hp} {s:Shared} {A:Around} {E:Value→Shared→Prop} {Q:Value→Shared→Prop} {cv t:Value} {b:Bool}
theorem B3 {d:EV.D} {v:V} {u:Value} (I:Inv X pins σ H s) (sb:aG Hf H) (rx:RelV v u) (rd:Rep X.K Hf d v) (ty:TyD X.K d t) (e:IM X.K t cv=some b) (h:∀ tk,Q (.bool b) { s with toks:=tk }) :
 wpAny (model X.prog X.w) A (call (.builtin "isinstance") [u,cv]) Q E s:=by
 cases ty with
 | non=>rw [bx] at rd; subst rd; cases (show u=Ik from rx); exact JY PySem.W.kitx_none I.kIn Jo e (fun z=>nomatch z) h
 | bl=>rw [bY] at rd; subst rd; cases (show u=JJ _ from rx); exact JY PySem.W.kitx_bool I.kIn Jo e (fun z=>nomatch z) h
 | int=>rw [au] at rd; subst rd; obtain ⟨t,q⟩:=(show ∃ t,u=JM _ t from rx); cases q; exact JY PySem.W.kitx_int I.kIn Jo e (fun z=>nomatch z) h
 | str=>rw [dP] at rd; subst rd; obtain ⟨t,q⟩:=(show ∃ t,u=K8 _ t from rx); cases q; exact JY PySem.W.kitx_str I.kIn Jo e (fun z=>nomatch z) h
 | lst =>
  rw [aH] at rd
  obtain ⟨a,xs,rfl,h1,_⟩:=rd
  cases (show u=Hr a from rx)
  obtain ⟨its,_,p,_⟩:=I.list (sb.seq h1)
  obtain ⟨o,n1,p1,p2,_⟩:=p
  exact JY PySem.W.kitx_list I.kIn ⟨o,p1,p2⟩ e (fun z=>nomatch z) h
 | tup =>
  rw [aC] at rd
  obtain ⟨a,xs,rfl,h1,_⟩:=rd
  cases (show u=Hr a from rx)
  obtain ⟨its,_,p,_⟩:=I.tuple (ak sb h1)
  obtain ⟨o,p1,p2,_⟩:=p
  exact JY PySem.W.kitx_tuple I.kIn ⟨o,p1,p2⟩ e (fun z=>nomatch z) h
 | @exc C k =>
  rw [BP] at rd
  obtain ⟨a,rfl,h1⟩:=rd
  cases (show u=Hr a from rx)
  have p:qW a C s.heap:=(show aS X.prog X.w H s.heap a (.ext (qW a C)) from I.hok a _ (sb _ _ h1)).1
  exact JY (yq k) I.kIn p e (fun z=>nomatch z) h
end
section
variable {P:Program} {w:World} {K:GW} {mg:Str→Option Value} {base:Heap} {k:Nat} {N:List Str} {sc:Scope} {bk:Bool} {c:Ctx P w K mg base k N sc bk} {ρ:List Sl} {pos np cp:Pos} {e:Expr} {R:EV.D→Prop}
noncomputable def gw (mg:Str→Option Value) (x:Str) (cv:Value):Prop:=(∃ C,cv=.ref C∧mg x=some (.ref C))∨(∃ T,cv=.type T∧mg x=none∧bootBuiltins x=some (.type T)∧x≠"__name__")
theorem vA:bootBuiltins "isinstance"=some (.builtin "isinstance"):=by decide +kernel
theorem nh {x:Str} {cv:Value} (hm:mg "isinstance"=none) (hc:gw mg x cv) (h:EvE c e ρ fun d=>∃ t b,TyD K d t∧IM K t cv=some b∧R (.bl b))
 (hgi:sc.names.lookup (GV "isinstance")=some .globalImplicit:=by walk_at "u") (hgx:sc.names.lookup x=some .globalImplicit:=by walk_at "u") (hdx:(x == ("__debug__":Str))=false:=by decide)
 (he:∀ env,starEach [e,.Name x cp] env=(false,eval e env)::starEach [.Name x cp] env:=by intro _; walk_at "u") (he2:∀ env,starEach [.Name x cp] env=[(false,eval (.Name x cp) env)]:=by intro _; walk_at "u")
 (hpl:∀ env,(backTo pos (starEach [.Name x cp] env)).any (·.1)=false:=by intro _; walk_at "u"):EvE c (.Call (.Name "isinstance" np) [e,.Name x cp] [] pos) ρ R:=fun σ H Hf Q S q pins s I=>by
 refine I0 (bX I (by unfold Gl HH; rw [c.esc]; exact hgi) (by rw [c.emg]; exact hm) vA ?_ (by decide) (by decide))
 have hx:∀ (s1:Shared) (H1:Hp) (Q':Value→Shared→Prop),Inv c.X pins σ H1 s1→Q' cv s1→wpAny (model c.X.prog c.X.w) c.X.A (eval (.Name x cp) c.X.env) Q' c.X.xe s1:=fun s1 H1 Q' I1 q'=>by
  rcases hc with ⟨C,rfl,hm'⟩ | ⟨T,rfl,hm',hb,hn⟩
  ·exact gp I1 (by unfold Gl HH; rw [c.esc]; exact hgx) (by rw [c.emg]; exact hm') q' hdx
  ·exact bX I1 (by unfold Gl HH; rw [c.esc]; exact hgx) (by rw [c.emg]; exact hm') hb q' hn hdx
 refine Ng (spliced_more (h σ H Hf (fun v H1=>∃ d Hf1,(∃ t b,TyD K d t∧IM K t cv=some b∧R (.bl b))∧Rep c.X.K Hf1 d v∧Grw H Hf H1 Hf1) S (fun d v H' Hf' hR r g=>⟨d,Hf',hR,r,g⟩) pins s I |> (thn · fun u s1 ⟨v,H1,I1,rv,d,Hf1,⟨t,b,ty,ek,hR⟩,rd,g⟩=>?_)) (he _)) (he _) (hpl _)
 refine spliced_more (hx s1 H1 _ I1 (spliced_none ?_)) (he2 _)
 refine B3 I1 g.b rv rd (by rw [c.eK]; exact ty) (by rw [c.eK]; exact ek) fun tk=>?_
 exact ⟨.bl b,H1,I1.tok tk,rfl,q _ _ H1 Hf1 hR (bY.mpr rfl) g⟩
end
section
variable {X:Cx} {pins:List (Addr×Obj)} {σ:L2.St} {H Hf:Hp} {s:Shared}
theorem ni (I:Inv X pins σ H s) (sb:aG Hf H):∀ (n:Nat) (d e:D) (v:V),EqO n d e→Rep X.K Hf d v→Rep X.K Hf e v→d=e:=by
 intro n
 induction n with
 | zero =>
  intro d e v h r1 r2
  cases h with
  | sc h=>cases d <;> cases e <;> simp [iZ] at h <;> simp_all [Rep]
  | ln=>rw [bx] at r2; subst r2; rw [aH] at r1; obtain ⟨_,_,e,_⟩:=r1; cases e
  | nl=>rw [bx] at r1; subst r1; rw [aH] at r2; obtain ⟨_,_,e,_⟩:=r2; cases e
  | tn=>rw [bx] at r2; subst r2; rw [aC] at r1; obtain ⟨_,_,e,_⟩:=r1; cases e
  | nt=>rw [bx] at r1; subst r1; rw [aC] at r2; obtain ⟨_,_,e,_⟩:=r2; cases e
 | succ n ih =>
  have els:∀ (ds es:List D) (xs:List V),(∀ (i:Nat) (d e:D),ds[i]?=some d→es[i]?=some e→EqO n d e)→aj X.K Hf ds xs→aj X.K Hf es xs→ds=es:=fun ds es xs h q1 q2=>by
   apply LB
   intro i
   cases a:ds[i]? with
   | none =>
    have:ds.length≤i:=by simpa using a
    symm
    rw [List.getElem?_eq_none_iff,q2.length,← q1.length]; exact this
   | some d =>
    obtain ⟨x,ex,rx⟩:=q1.get a
    obtain ⟨e,ee,re⟩:=q2.get' ex
    rw [ee,ih d e x (h i d e a ee) rx re]
  intro d e v h r1 r2
  cases h with
  | sc h=>cases d <;> cases e <;> simp [iZ] at h <;> simp_all [Rep]
  | ln=>rw [bx] at r2; subst r2; rw [aH] at r1; obtain ⟨_,_,e,_⟩:=r1; cases e
  | nl=>rw [bx] at r1; subst r1; rw [aH] at r2; obtain ⟨_,_,e,_⟩:=r2; cases e
  | tn=>rw [bx] at r2; subst r2; rw [aC] at r1; obtain ⟨_,_,e,_⟩:=r1; cases e
  | nt=>rw [bx] at r1; subst r1; rw [aC] at r2; obtain ⟨_,_,e,_⟩:=r2; cases e
  | tup h =>
   rw [aC] at r1 r2
   obtain ⟨a,xs,rfl,p1,q1⟩:=r1
   obtain ⟨a',ys,e',p2,q2⟩:=r2
   cases e'
   have:=I.dD (ak sb p1) (ak sb p2)
   subst this
   rw [els _ _ _ h q1 q2]
  | lst h =>
   rw [aH] at r1 r2
   obtain ⟨a,xs,rfl,p1,q1⟩:=r1
   obtain ⟨a',ys,e',p2,q2⟩:=r2
   cases e'
   have:=I.gq (sb.seq p1) (sb.seq p2)
   subst this
   rw [els _ _ _ h q1 q2]
theorem nj {α:Type} [BEq α] [LawfulBEq α] {a b:α} {i:Decidable (a=b)}:(a == b)=@decide (a=b) i:=by
 by_cases h:a=b
 ·subst h; simp
 ·simp [h]
theorem all_range {ds es:List D} {n m:Nat} (hn:ds.length=n) (hm:es.length=m) (h:n=m):((HE n).all fun j=>decide (ds[j]?=es[j]?))=decide (ds=es):=by
 rw [KW,List.all_eq_true]
 simp only [List.mem_range,decide_eq_true_eq]
 constructor
 ·intro q
  apply LB
  intro i
  by_cases hi:i<n
  ·exact q i hi
  ·rw [Jg (by omega),Jg (by omega)]
 ·rintro rfl; intro _ _; rfl
theorem tL {x y:D} {v v':V} {u u':Value} {A:Around} (h:iZ x y=true) (r1:Rep X.K Hf x v) (r2:Rep X.K Hf y v') (e1:RelV v u) (e2:RelV v' u'):Hx A s u u' (decide (x=y)):=by
 cases x <;> cases y <;> simp [iZ] at h <;> simp only [au,bY,bx,dP] at r1 r2 <;> subst r1 <;> subst r2
 case non.non=>cases e1; cases e2; simpa using Hx.same _
 case non.bl b=>cases e1; cases e2; simpa using Hx.none_bool (A:=A) (s:=s) b
 case non.int i=>cases e1; obtain ⟨t,rfl⟩:=e2; simpa using Hx.none_int (A:=A) (s:=s) i t
 case non.str i=>cases e1; obtain ⟨t,rfl⟩:=e2; simpa using Hx.none_str (A:=A) (s:=s) i t
 case bl.non b=>cases e1; cases e2; simpa using Hx.bool_none (A:=A) (s:=s) b
 case bl.bl a b=>cases e1; cases e2; have q:=Hx.bool_bool (A:=A) (s:=s) a b; rw [nj (i:=inferInstance)] at q; simpa using q
 case bl.str a b=>cases e1; obtain ⟨t,rfl⟩:=e2; simpa using Hx.bool_str (A:=A) (s:=s) a b t
 case int.non a=>obtain ⟨t,rfl⟩:=e1; cases e2; simpa using Hx.int_none (A:=A) (s:=s) a t
 case int.int a b=>obtain ⟨t,rfl⟩:=e1; obtain ⟨t',rfl⟩:=e2; have q:=Hx.int_int (A:=A) (s:=s) a t b t'; rw [nj (i:=inferInstance)] at q; simpa using q
 case int.str a b=>obtain ⟨t,rfl⟩:=e1; obtain ⟨t',rfl⟩:=e2; simpa using Hx.int_str (A:=A) (s:=s) a t b t'
 case str.non a=>obtain ⟨t,rfl⟩:=e1; cases e2; simpa using Hx.str_none (A:=A) (s:=s) a t
 case str.bl a b=>obtain ⟨t,rfl⟩:=e1; cases e2; simpa using Hx.str_bool (A:=A) (s:=s) a t b
 case str.int a b=>obtain ⟨t,rfl⟩:=e1; obtain ⟨t',rfl⟩:=e2; simpa using Hx.str_int (A:=A) (s:=s) a t b t'
 case str.str a b=>obtain ⟨t,rfl⟩:=e1; obtain ⟨t',rfl⟩:=e2; have q:=Hx.str_str (A:=A) (s:=s) a t b t'; rw [nj (i:=inferInstance)] at q; simpa using q
theorem in1_units (A:Around):A.in1.units=A.units+1:=rfl
theorem tM {ds es:List D}:decide (D.tup ds=D.tup es)=decide (ds=es):=by simp
theorem jy {ds es:List D}:decide (D.lst ds=D.lst es)=decide (ds=es):=by simp
theorem nk (I:Inv X pins σ H s) {n:Nat} {A:Around} {ds es:List D} {xs ys:List V} {us ws:List Value} (h:∀ (i:Nat) (d e:D),ds[i]?=some d→es[i]?=some e→EqO n d e)
 (ih:∀ (d e:D) (v v':V) (u u':Value) (A:Around),EqO n d e→Rep X.K Hf d v→Rep X.K Hf e v'→RelV v u→RelV v' u'→A.units+n<cLine→Hx A s u u' (decide (d=e)))
 (q1:aj X.K Hf ds xs) (q2:aj X.K Hf es ys) (r1:Vals xs us) (r2:Vals ys ws) (hu:A.in1.units+n<cLine) :
 ∀ j (h1:j<us.toArray.size) (h2:j<ws.toArray.size),Hx A.in1 s us.toArray[j] ws.toArray[j] (decide (ds[j]?=es[j]?)):=fun j h1 h2=>by
 have l1:=q1.length
 have l2:=q2.length
 have m1:=r1.length
 have m2:=r2.length
 simp only [Hq] at h1 h2
 have hd:ds[j]?=some ds[j]:=HD (by omega)
 have he:es[j]?=some es[j]:=HD (by omega)
 obtain ⟨x,ex,rx⟩:=q1.get hd
 obtain ⟨y,ey,ry⟩:=q2.get he
 obtain ⟨u,eu,ru⟩:=r1.get ex
 obtain ⟨u',eu',ru'⟩:=r2.get ey
 have z1:us.toArray[j]=u:=by
  have:=HD h1
  rw [this] at eu
  simpa using eu
 have z2:ws.toArray[j]=u':=by
  have:=HD h2
  rw [this] at eu'
  simpa using eu'
 rw [z1,z2,hd,he]
 have q:=ih _ _ x y u u' A.in1 (h j _ _ hd he) rx ry ru ru' hu
 simpa using q
theorem lT (I:Inv X pins σ H s) (sb:aG Hf H):∀ (n:Nat) (d e:D) (v v':V) (u u':Value) (A:Around),EqO n d e→Rep X.K Hf d v→Rep X.K Hf e v'→RelV v u→RelV v' u'→A.units+n<cLine→Hx A s u u' (decide (d=e)):=by
 have non:∀ (n:Nat) (d e:D) (v v':V) (u u':Value) (A:Around),A.units<cLine→Rep X.K Hf d v→Rep X.K Hf e v'→RelV v u→RelV v' u' →
  ((∃ ds,d=.lst ds∧e=.non)∨(∃ ds,d=.non∧e=.lst ds)∨(∃ ds,d=.tup ds∧e=.non)∨(∃ ds,d=.non∧e=.tup ds))→Hx A s u u' (decide (d=e)):=by
  intro n d e v v' u u' A hu r1 r2 e1 e2 h
  rcases h with ⟨ds,rfl,rfl⟩ | ⟨ds,rfl,rfl⟩ | ⟨ds,rfl,rfl⟩ | ⟨ds,rfl,rfl⟩
  ·rw [bx] at r2; subst r2; rw [aH] at r1; obtain ⟨a,xs,rfl,p,_⟩:=r1; cases e1; cases e2
   obtain ⟨its,_,q,_⟩:=I.list (sb.seq p)
   simpa using Hx.list_none (A:=A) q.isList hu
  ·rw [bx] at r1; subst r1; rw [aH] at r2; obtain ⟨a,xs,rfl,p,_⟩:=r2; cases e1; cases e2
   obtain ⟨its,_,q,_⟩:=I.list (sb.seq p)
   simpa using Hx.none_list (A:=A) q.isList hu
  ·rw [bx] at r2; subst r2; rw [aC] at r1; obtain ⟨a,xs,rfl,p,_⟩:=r1; cases e1; cases e2
   obtain ⟨its,_,q,_⟩:=I.tuple (ak sb p)
   simpa using Hx.tuple_none (A:=A) (show s.heap.IsTuple a its.toArray from q) hu
  ·rw [bx] at r1; subst r1; rw [aC] at r2; obtain ⟨a,xs,rfl,p,_⟩:=r2; cases e1; cases e2
   obtain ⟨its,_,q,_⟩:=I.tuple (ak sb p)
   simpa using Hx.none_tuple (A:=A) (show s.heap.IsTuple a its.toArray from q) hu
 intro n
 induction n with
 | zero =>
  intro d e v v' u u' A h r1 r2 e1 e2 hu
  cases h with
  | sc h=>exact tL h r1 r2 e1 e2
  | ln=>exact non 0 _ _ _ _ _ _ A (by omega) r1 r2 e1 e2 (.inl ⟨_,rfl,rfl⟩)
  | nl=>exact non 0 _ _ _ _ _ _ A (by omega) r1 r2 e1 e2 (.inr (.inl ⟨_,rfl,rfl⟩))
  | tn=>exact non 0 _ _ _ _ _ _ A (by omega) r1 r2 e1 e2 (.inr (.inr (.inl ⟨_,rfl,rfl⟩)))
  | nt=>exact non 0 _ _ _ _ _ _ A (by omega) r1 r2 e1 e2 (.inr (.inr (.inr ⟨_,rfl,rfl⟩)))
 | succ n ih =>
  intro d e v v' u u' A h r1 r2 e1 e2 hu
  cases h with
  | sc h=>exact tL h r1 r2 e1 e2
  | ln=>exact non 0 _ _ _ _ _ _ A (by omega) r1 r2 e1 e2 (.inl ⟨_,rfl,rfl⟩)
  | nl=>exact non 0 _ _ _ _ _ _ A (by omega) r1 r2 e1 e2 (.inr (.inl ⟨_,rfl,rfl⟩))
  | tn=>exact non 0 _ _ _ _ _ _ A (by omega) r1 r2 e1 e2 (.inr (.inr (.inl ⟨_,rfl,rfl⟩)))
  | nt=>exact non 0 _ _ _ _ _ _ A (by omega) r1 r2 e1 e2 (.inr (.inr (.inr ⟨_,rfl,rfl⟩)))
  | @tup _ ds es h =>
   have hh:=EqO.tup h
   have r1':=r1; have r2':=r2
   rw [aC] at r1 r2
   obtain ⟨a,xs,rfl,p1,q1⟩:=r1
   obtain ⟨b,ys,rfl,p2,q2⟩:=r2
   cases e1; cases e2
   by_cases hab:a=b
   ·subst hab
    have:=ni I sb _ _ _ _ hh r1' r2'
    rw [this]
    simpa using Hx.same _
   ·obtain ⟨us,v1,t1,_⟩:=I.tuple (ak sb p1)
    obtain ⟨ws,v2,t2,_⟩:=I.tuple (ak sb p2)
    have key:=J9.tuples (A:=A) (s:=s) (show s.heap.IsTuple a us.toArray from t1) (show s.heap.IsTuple b ws.toArray from t2) (by omega) (nk I h ih q1 q2 v1 v2 (by rw [in1_units]; omega))
    have hl1:us.toArray.size=ds.length:=by simp [← v1.length,q1.length]
    have hl2:ws.toArray.size=es.length:=by simp [← v2.length,q2.length]
    have e:((HE (min us.toArray.size ws.toArray.size)).all (fun j=>decide (ds[j]?=es[j]?)) && us.toArray.size == ws.toArray.size)=decide (D.tup ds=D.tup es):=by
     rw [tM,hl1,hl2]
     by_cases hl:ds.length=es.length
     ·rw [hl,Nat.min_self]
      simp only [beq_self_eq_true,Bool.and_true]
      exact all_range hl rfl rfl
     ·have:¬ ds=es:=fun z=>hl (by rw [z])
      simp [hl,this]
    rw [e] at key
    exact .of_refs hab key
  | @lst _ ds es h =>
   have hh:=EqO.lst h
   have r1':=r1; have r2':=r2
   rw [aH] at r1 r2
   obtain ⟨a,xs,rfl,p1,q1⟩:=r1
   obtain ⟨b,ys,rfl,p2,q2⟩:=r2
   cases e1; cases e2
   by_cases hab:a=b
   ·subst hab
    have:=ni I sb _ _ _ _ hh r1' r2'
    rw [this]
    simpa using Hx.same _
   ·obtain ⟨us,v1,t1,_⟩:=I.list (sb.seq p1)
    obtain ⟨ws,v2,t2,_⟩:=I.list (sb.seq p2)
    have hl1:us.toArray.size=ds.length:=by simp [← v1.length,q1.length]
    have hl2:ws.toArray.size=es.length:=by simp [← v2.length,q2.length]
    by_cases hl:ds.length=es.length
    ·have key:=J9.lists (A:=A) (s:=s) t1.isList t2.isList (by rw [hl1,hl2,hl]) (by omega) (nk I h ih q1 q2 v1 v2 (by rw [in1_units]; omega))
     rw [hl1,all_range rfl hl.symm rfl,← jy] at key
     exact .of_refs hab key
    ·have key:=J9.lists_lengths (A:=A) (s:=s) t1.isList t2.isList (by rw [hl1,hl2]; simpa using hl) (by omega)
     have e:decide (D.lst ds=D.lst es)=false:=by
      rw [jy]; exact decide_eq_false fun z=>hl (by rw [z])
     rw [e]
     exact .of_refs hab key
theorem oZ (I:Inv X pins σ H s) (sb:aG Hf H) {A:Around} (hu:A.units+50<cLine) {ds es:List D} {d e:D} (hk:(d=.tup ds∧e=.tup es)∨(d=.lst ds∧e=.lst es)) (h:kW ds es) {v v':V} {u u':Value}
 (r1:Rep X.K Hf d v) (r2:Rep X.K Hf e v') (e1:RelV v u) (e2:RelV v' u'):J9 A s u u' (decide (d=e))∧L5 A s u u' (!decide (d=e)):=by
 have ih:=lT I sb 40
 rcases hk with ⟨rfl,rfl⟩ | ⟨rfl,rfl⟩
 ·rw [aC] at r1 r2
  obtain ⟨a,xs,rfl,p1,q1⟩:=r1
  obtain ⟨b,ys,rfl,p2,q2⟩:=r2
  cases e1; cases e2
  obtain ⟨us,v1,t1,_⟩:=I.tuple (ak sb p1)
  obtain ⟨ws,v2,t2,_⟩:=I.tuple (ak sb p2)
  have els:=nk (A:=A) I h ih q1 q2 v1 v2 (by rw [in1_units]; omega)
  have key:=J9.tuples (A:=A) (s:=s) (show s.heap.IsTuple a us.toArray from t1) (show s.heap.IsTuple b ws.toArray from t2) (by omega) els
  have key2:=L5.tuples (A:=A) (s:=s) (show s.heap.IsTuple a us.toArray from t1) (show s.heap.IsTuple b ws.toArray from t2) (by omega) els
  have hl1:us.toArray.size=ds.length:=by simp [← v1.length,q1.length]
  have hl2:ws.toArray.size=es.length:=by simp [← v2.length,q2.length]
  have e:((HE (min us.toArray.size ws.toArray.size)).all (fun j=>decide (ds[j]?=es[j]?)) && us.toArray.size == ws.toArray.size)=decide (D.tup ds=D.tup es):=by
   rw [tM,hl1,hl2]
   by_cases hl:ds.length=es.length
   ·rw [hl,Nat.min_self]
    simp only [beq_self_eq_true,Bool.and_true]
    exact all_range hl rfl rfl
   ·have:¬ ds=es:=fun z=>hl (by rw [z])
    simp [hl,this]
  rw [e] at key key2
  exact ⟨key,key2⟩
 ·rw [aH] at r1 r2
  obtain ⟨a,xs,rfl,p1,q1⟩:=r1
  obtain ⟨b,ys,rfl,p2,q2⟩:=r2
  cases e1; cases e2
  obtain ⟨us,v1,t1,_⟩:=I.list (sb.seq p1)
  obtain ⟨ws,v2,t2,_⟩:=I.list (sb.seq p2)
  have hl1:us.toArray.size=ds.length:=by simp [← v1.length,q1.length]
  have hl2:ws.toArray.size=es.length:=by simp [← v2.length,q2.length]
  by_cases hl:ds.length=es.length
  ·have els:=nk (A:=A) I h ih q1 q2 v1 v2 (by rw [in1_units]; omega)
   have key:=J9.lists (A:=A) (s:=s) t1.isList t2.isList (by rw [hl1,hl2,hl]) (by omega) els
   have key2:=L5.lists (A:=A) (s:=s) t1.isList t2.isList (by rw [hl1,hl2,hl]) (by omega) els
   rw [hl1,all_range rfl hl.symm rfl,← jy] at key key2
   exact ⟨key,key2⟩
  ·have key:=J9.lists_lengths (A:=A) (s:=s) t1.isList t2.isList (by rw [hl1,hl2]; simpa using hl) (by omega)
   have key2:=L5.lists_lengths (A:=A) (s:=s) t1.isList t2.isList (by rw [hl1,hl2]; simpa using hl) (by omega)
   have e:decide (D.lst ds=D.lst es)=false:=by
    rw [jy]; exact decide_eq_false fun z=>hl (by rw [z])
   rw [e]
   exact ⟨key,key2⟩
end
section
variable {P:Program} {w:World} {K:GW} {mg:Str→Option Value} {base:Heap} {k:Nat} {N:List Str} {sc:Scope} {bk:Bool} {c:Ctx P w K mg base k N sc bk} {ρ:List Sl} {pos:Pos} {a b:Expr} {R:D→Prop} {T:Bool→Prop}
noncomputable def B4 (K:GW) (neg:Bool):R2:=fun v u H Q=>∃ x y Hf,aG Hf H∧Rep K Hf x v∧Rep K Hf y u∧EqOk x y∧Q (.bl (if neg then !decide (x=y) else decide (x=y))) H
theorem yr:OpR c.X (compareOp .Eq) (B4 c.X.K false):=fun pins s σ H v u v' u' Q I rv ru ⟨x,y,Hf,sb,rx,ry,ok,q⟩=>by
 rcases ok with h | ⟨ds,es,hk,hi⟩
 ·obtain ⟨z1,z2⟩:=tF h rx ry
  exact op_eq pins s σ H v u v' u' Q I rv ru ⟨z1,by rw [z2]; exact q⟩
 ·exact (oZ I sb (by have:=c.room.un; omega) hk hi rx ry rv ru).1 _ _ _ _ ⟨.bl (decide (x=y)),H,I,rfl,q⟩
theorem Fc:OpR c.X (compareOp .NotEq) (B4 c.X.K true):=fun pins s σ H v u v' u' Q I rv ru ⟨x,y,Hf,sb,rx,ry,ok,q⟩=>by
 rcases ok with h | ⟨ds,es,hk,hi⟩
 ·obtain ⟨z1,z2⟩:=tF h rx ry
  exact op_ne pins s σ H v u v' u' Q I rv ru ⟨z1,by rw [z2]; exact q⟩
 ·exact (oZ I sb (by have:=c.room.un; omega) hk hi rx ry rv ru).2 _ _ _ _ ⟨.bl (!decide (x=y)),H,I,rfl,q⟩
theorem yt {K:GW}:yi K (B4 K false) fun x y R=>EqP x y R:=fun x y v u H Hf Q R s rx ry ⟨h1,h2⟩ q=>⟨x,y,Hf,s,rx,ry,h1,q _ h2⟩
theorem Fd {K:GW}:yi K (B4 K true) fun x y R=>EqP x y fun b=>R (!b):=fun x y v u H Hf Q R s rx ry ⟨h1,h2⟩ q=>⟨x,y,Hf,s,rx,ry,h1,q _ h2⟩
theorem t_eq (h:EvE c a ρ fun x=>EvE c b ρ fun y=>EqP x y T):EvT c (.Compare a [.Eq] [b] pos) ρ T:=tE yr yt h (jK b)
theorem t_ne (h:EvE c a ρ fun x=>EvE c b ρ fun y=>EqP x y fun b=>T (!b)):EvT c (.Compare a [.NotEq] [b] pos) ρ T:=tE Fc Fd h (jK b)
theorem e_eq (h:EvE c a ρ fun x=>EvE c b ρ fun y=>EqP x y fun b=>R (.bl b)):EvE c (.Compare a [.Eq] [b] pos) ρ R:=e_cmp yr yt h (jK b)
end
section
variable {P:Program} {w:World} {K:GW} {mg:Str→Option Value} {base:Heap} {k:Nat} {N:List Str} {sc:Scope} {bk:Bool} {c:Ctx P w K mg base k N sc bk} {ρ:List Sl} {pos:Pos} {a b e:Expr} {es:List Expr} {R:D→Prop} {T:Bool→Prop}
noncomputable def D.row:D→Option (List D)
 | .lst ds=>some ds
 | .tup ds=>some ds
 | _=>none
theorem gx {K:GW} {H:Hp}:∀ {d:D} {ds:List D} {v:V},d.row=some ds→Rep K H d v→∃ p xs,v=.ref p∧aj K H ds xs∧((d=.lst ds∧SqL K H p xs)∨(d=.tup ds∧SqT K H p xs))
 | .lst _,_,_,e,h=>by cases e; rw [aH] at h; obtain ⟨p,xs,rfl,h1,h2⟩:=h; exact ⟨p,xs,rfl,h2,.inl ⟨rfl,h1⟩⟩
 | .tup _,_,_,e,h=>by cases e; rw [aC] at h; obtain ⟨p,xs,rfl,h1,h2⟩:=h; exact ⟨p,xs,rfl,h2,.inr ⟨rfl,h1⟩⟩
noncomputable def IxP (x y:D) (R:D→Prop):Prop:=∃ ds i d,x.row=some ds∧y=.int i∧atI ds i=some d∧R d
theorem tN {ds:List D} {i:Int} {d:D} {R:D→Prop} (h:atI ds i=some d) (hR:R d):IxP (.lst ds) (.int i) R:=⟨ds,i,d,rfl,rfl,h,hR⟩
theorem o7 {ds:List D} {i:Int} {d:D} {R:D→Prop} (h:atI ds i=some d) (hR:R d):IxP (.tup ds) (.int i) R:=⟨ds,i,d,rfl,rfl,h,hR⟩
theorem yu {K:GW} {H:Hp} {ds:List D} {xs:List V} {i:Int} {d:D} (h:aj K H ds xs) (e:atI ds i=some d):∃ x,atI xs i=some x∧Rep K H d x:=by
 unfold atI at e ⊢
 rw [← h.length]
 obtain ⟨j,e1,e2⟩:=Mm.mp e
 obtain ⟨x,e3,rx⟩:=h.get e2
 exact ⟨x,by rw [e1]; exact e3,rx⟩
theorem e_ix (h:EvE c a ρ fun x=>EvE c b ρ fun y=>IxP x y R) (hs:jx b:=by intro _ _; walk_at "u"):EvE c (.Subscript a b pos) ρ R:=fun σ H Hf Q S q =>
 bu (pe_ix (IxR.or BE ET) pbE pbE hs) (h σ H Hf _ S fun x v H1 Hf1 h1 r1 g1=>h1 σ H1 Hf1 _ (S.grw g1) fun y u H2 Hf2 ⟨ds,i,d,e1,e2,e3,hR⟩ r2 g2=>by
  subst e2
  rw [au] at r2; subst r2
  obtain ⟨p,xs,rfl,hr,hk⟩:=gx e1 (Rep.mono g2.f x r1)
  obtain ⟨z,ez,rz⟩:=yu hr e3
  have fin:=q d z H2 Hf2 hR rz (g1.trans g2)
  rcases hk with ⟨_,hk⟩ | ⟨_,hk⟩
  ·exact .inl ⟨p,xs,i,z,rfl,rfl,g2.b.seq hk,ez,fin⟩
  ·exact .inr ⟨p,xs,i,z,rfl,rfl,ak g2.b hk,ez,fin⟩)
theorem tO {K:GW} {H Hf:Hp} (sb:aG Hf H) {d:D} {ds:List D} {p:Addr} {xs:List V} (h:(d=.lst ds∧SqL K Hf p xs)∨(d=.tup ds∧SqT K Hf p xs)):SqL K H p xs∨SqT K H p xs:=h.elim (fun z=>.inl (sb.seq z.2)) fun z=>.inr (ak sb z.2)
theorem yv {K:GW}:ym K (fun xs H Q=>∃ p ys,xs=[.ref p]∧(SqL K H p ys∨SqT K H p ys)∧Q (.int ys.length) H) (fun ds R=>∃ x,ds=[x]∧∃ ys,x.row=some ys∧R (.int ys.length)):=by
 rintro ds vs H Hf Q R s rs ⟨x,rfl,ys,e,hR⟩ q
 obtain ⟨v,rfl,rv⟩:=lS rs
 obtain ⟨p,xs,rfl,hr,hk⟩:=gx e rv
 exact ⟨p,xs,rfl,tO s hk,q _ _ H Hf hR (by rw [hr.length]; exact au.mpr rfl) (.refl s)⟩
theorem e_len {p:Pos} (hm:mg "len"=none) (h:EvE c e ρ fun x=>∃ ys,x.row=some ys∧R (.int ys.length)) (hg:sc.names.lookup (GV "len")=some .globalImplicit:=by walk_at "u")
 (he:∀ env,starEach [e] env=(false,eval e env)::starEach [] env:=by intro _; walk_at "u"):EvE c (.Call (.Name "len" p) [e] [] pos) ρ R :=
 oY mX yv hm PySem.boot_len (cR (h.imp fun d hd=>i6 ⟨d,rfl,hd⟩) he) hg (by decide) (by decide) he (by intro _; walk_at "u")
theorem yw {p:Pos} {R:Sl→Prop} (hm:mg "list"=none) (h:EvE c e ρ fun x=>∃ ys,x.row=some ys∧R (.ow ys)) (hg:sc.names.lookup (GV "list")=some .globalImplicit:=by walk_at "u")
 (he:∀ env,starEach [e] env=(false,eval e env)::starEach [] env:=by intro _; walk_at "u"):EvX c (.Call (.Name "list" p) [e] [] pos) ρ R :=
 x_bty mY (q:=fun ds R=>∃ x ys,ds=[x]∧x.row=some ys∧R (.ow ys)) (fun ds vs H Hf Q R s rs ⟨x,ys,e1,e2,hR⟩ q=>by
  subst e1
  obtain ⟨v,rfl,rv⟩:=lS rs
  obtain ⟨p,xs,rfl,hr,hk⟩:=gx e2 rv
  exact ⟨p,xs,rfl,tO s hk,fun l hl=>by
   have g2:=Grw.eG s hl (o:=.lst xs)
   exact q _ _ _ _ hR ⟨l,xs,rfl,hl,ah,s.free hl,hr⟩ g2⟩) hm PyProof.Rows.boot_list (cR (h.imp fun d ⟨ys,h1,h2⟩=>i6 ⟨d,ys,rfl,h1,h2⟩) he) hg (by decide) (by decide) he (by intro _; walk_at "u")
theorem tP {p:Pos} (hm:mg "tuple"=none) (h:EvE c e ρ fun x=>∃ ys,x.row=some ys∧R (.tup ys)) (hg:sc.names.lookup (GV "tuple")=some .globalImplicit:=by walk_at "u")
 (he:∀ env,starEach [e] env=(false,eval e env)::starEach [] env:=by intro _; walk_at "u"):EvE c (.Call (.Name "tuple" p) [e] [] pos) ρ R :=
 e_bty kU (q:=fun ds R=>∃ x ys,ds=[x]∧x.row=some ys∧R (.tup ys)) (fun ds vs H Hf Q R s rs ⟨x,ys,e1,e2,hR⟩ q=>by
  subst e1
  obtain ⟨v,rfl,rv⟩:=lS rs
  obtain ⟨p,xs,rfl,hr,hk⟩:=gx e2 rv
  rcases hk with ⟨_,hk⟩ | ⟨_,hk⟩
  ·exact ⟨p,xs,rfl,.inl ⟨s.seq hk,fun l hl=>by
    have g2:=Grw.new s hl (o:=.tup xs)
    exact q _ _ _ _ hR (aC.mpr ⟨l,xs,rfl,.inl (.inl ah),hr.mono g2.f⟩) g2⟩⟩
  ·exact ⟨p,xs,rfl,.inr ⟨ak s hk,q _ _ H Hf hR (aC.mpr ⟨p,xs,rfl,hk,hr⟩) (.refl s)⟩⟩) hm PyProof.Rows.boot_tuple (cR (h.imp fun d ⟨ys,h1,h2⟩=>i6 ⟨d,ys,rfl,h1,h2⟩) he) hg (by decide) (by decide) he (by intro _; walk_at "u")
noncomputable def DQ (K:GW):R2:=fun x y H Q=>∃ l b xs zs,x=.ref l∧y=.ref b∧SqL K H l xs∧SqL K H b zs∧xs.length+zs.length≤sizeLine∧∀ p,H p=none→Q (.ref p) (upd H p (.lst (xs++zs)))
theorem B5 {X:Cx}:OpR X (binaryOp .Add) (DQ X.K):=by
 intro pins s σ H x y v u Q I rx ry h
 obtain ⟨l,b,xs,zs,rfl,rfl,hH,hB,hz,q⟩:=h
 cases rx
 cases ry
 obtain ⟨its,r,hl,z⟩:=I.list hH
 obtain ⟨its2,r2,hl2,z2⟩:=I.list hB
 have e1:=r.length
 have e2:=r2.length
 obtain ⟨⟨cls,dd,data,sl⟩,n,p1,p2,p3,p4⟩:=hl
 obtain ⟨⟨cls2,dd2,data2,sl2⟩,n',q1,q2,q3,q4⟩:=hl2
 simp only at p2 p3 p4 q2 q3 q4
 subst p2 p3 p4 q2 q3 q4
 have ea:its.toArray++its2.toArray=(its++its2).toArray:=by simp
 refine LZ ⟨_,p1,rfl⟩ ⟨_,q1,rfl⟩ noFill_list_add seq_list_add PySem.F.slot_list_add PySem.F.entry_list_add (PySem.F.args_list_add_2 _ _) (list_addW l b its.toArray its2.toArray n n' none none sl sl2 (by simp; omega)) ⟨p1,q1,?_⟩
 rw [ea]
 exact ⟨.ref _,_,I.BG (t':=s.toks) (r.append r2) (by rw [HQ]; omega),rfl,q _ I.fresh⟩
noncomputable def yx (K:GW):R2:=fun x y H Q=>∃ a b xs ys,x=.ref a∧y=.ref b∧SqT K H a xs∧SqT K H b ys∧xs.length+ys.length≤sizeLine ∧
 (xs=[]→Q (.ref b) H)∧(ys=[]→Q (.ref a) H)∧∀ p,H p=none→Q (.ref p) (upd H p (.tup (xs++ys)))
theorem yy {X:Cx}:OpR X (binaryOp .Add) (yx X.K):=by
 intro pins s σ H x y v u Q I rx ry h
 obtain ⟨t,b,xs,ys,rfl,rfl,hH,hB,hz,c1,c2,q⟩:=h
 cases rx
 cases ry
 obtain ⟨vs,r,ht,z⟩:=I.tuple hH
 obtain ⟨ws,r2,hb,z2⟩:=I.tuple hB
 obtain ⟨⟨cls,dd,data,sl⟩,ho,hc,n,hd⟩:=id ht
 obtain ⟨⟨cls2,dd2,data2,sl2⟩,ho2,hc2,n2,hd2⟩:=id hb
 simp only at hc hd hc2 hd2
 subst hc hd hc2 hd2
 have e:vs.toArray++ws.toArray=(vs++ws).toArray:=by simp
 have e1:=r.length
 have e2:=r2.length
 by_cases hv:vs=[]
 ·exact LZ ⟨_,ho,rfl⟩ ⟨_,ho2,rfl⟩ MW seq_tuple_add Mr Ml (Mi _ _)
   (tuple_addW0 t b vs.toArray ws.toArray n n2 dd dd2 sl sl2 (by simp [hv])) ⟨ho,ho2,⟨.ref b,H,I,rfl,c1 (by rw [Vals.sX r] at hv; exact hv)⟩⟩
 ·by_cases hw:ws=[]
  ·exact LZ ⟨_,ho,rfl⟩ ⟨_,ho2,rfl⟩ MW seq_tuple_add Mr Ml (Mi _ _)
    (tuple_addW1 t b vs.toArray ws.toArray n n2 dd dd2 sl sl2 (by simpa using hv) (by simp [hw])) ⟨ho,ho2,⟨.ref t,H,I,rfl,c2 (by rw [Vals.sX r2] at hw; exact hw)⟩⟩
  ·refine LZ ⟨_,ho,rfl⟩ ⟨_,ho2,rfl⟩ MW seq_tuple_add Mr Ml (Mi _ _)
    (tuple_addW2 t b vs.toArray ws.toArray n n2 dd dd2 sl sl2 (by simpa using hv) (by simpa using hw) (by rw [Hq,Hq]; omega)) ⟨ho,ho2,?_⟩
   rw [e]
   refine ⟨.ref s.heap.objs.size,_,I.laid (t':=s.toks) (o:=.tup (xs++ys)) (fun b ob q=>G1 _ q) (GZ _) ?_,rfl,q _ (I.hok.fresh (GZ _))⟩
   exact ⟨by rw [HQ]; exact hz,_,r.append r2,IsTup.new _ _⟩
inductive jT:D→D→(Sl→Prop)→Prop where
 | int {i j:Int} {R:Sl→Prop} (h:R (.va (.int (i+j)))):jT (.int i) (.int j) R
 | lst {ds es:List D} {R:Sl→Prop} (h:Sd (ds.length+es.length≤sizeLine) (R (.ow (ds++es)))):jT (.lst ds) (.lst es) R
 | tup {ds es:List D} {R:Sl→Prop} (h:Sd (ds.length+es.length≤sizeLine) (R (.va (.tup (ds++es))))):jT (.tup ds) (.tup es) R
 | str {x y:Str} {R:Sl→Prop} (h:Sd (x.length+y.length≤sizeLine) (R (.va (.str (x++y))))):jT (.str x) (.str y) R
theorem i8 {K:GW} {H:Hp} {ds:List D} (h:aj K H ds []):ds=[]:=by
 have:=h.length; cases ds with
 | nil=>rfl
 | cons _ _=>simp at this
theorem B6 {K:GW}:OpD K (fun x y H Q=>(((rI0 fun i j=>V.int (i+j)) x y H Q∨DQ K x y H Q)∨yx K x y H Q)∨∃ i j,x=.str i∧y=.str j∧i.length+j.length≤sizeLine∧Q (.str (i++j)) H) jT:=by
 rintro x y v u H Hf Q R s rx ry h q
 cases h with
 | @int i j _ h =>
  rw [au] at rx ry
  exact .inl (.inl (.inl ⟨i,j,rx,ry,q (.va (.int (i+j))) _ H Hf h (show Rep K Hf (.int (i+j)) _ from au.mpr rfl) (.refl s)⟩))
 | @lst ds es _ h =>
  rw [aH] at rx ry
  obtain ⟨a,xs,rfl,h1,h2⟩:=rx
  obtain ⟨b,ys,rfl,h3,h4⟩:=ry
  refine .inl (.inl (.inr ⟨a,b,xs,ys,rfl,rfl,s.seq h1,s.seq h3,by rw [← h2.length,← h4.length]; exact h.s,fun p hp=>?_⟩))
  exact q (.ow (ds++es)) _ _ _ h.r ⟨p,xs++ys,rfl,hp,ah,s.free hp,h2.append h4⟩ (Grw.eG s hp)
 | @tup ds es _ h =>
  rw [aC] at rx ry
  obtain ⟨a,xs,rfl,h1,h2⟩:=rx
  obtain ⟨b,ys,rfl,h3,h4⟩:=ry
  refine .inl (.inr ⟨a,b,xs,ys,rfl,rfl,ak s h1,ak s h3,by rw [← h2.length,← h4.length]; exact h.s,fun e=>?_,fun e=>?_,fun p hp=>?_⟩)
  ·subst e
   have:=i8 h2
   subst this
   exact q (.va (.tup ([]++es))) _ H Hf h.r (show Rep K Hf (.tup ([]++es)) _ from aC.mpr ⟨b,ys,rfl,h3,h4⟩) (.refl s)
  ·subst e
   have:=i8 h4
   subst this
   exact q (.va (.tup (ds++[]))) _ H Hf h.r (show Rep K Hf (.tup (ds++[])) _ from aC.mpr ⟨a,xs,rfl,h1,by rw [Io]; exact h2⟩) (.refl s)
  ·have g:=Grw.new s hp (o:=.tup (xs++ys))
   exact q (.va (.tup (ds++es))) _ _ _ h.r (show Rep K _ (.tup (ds++es)) _ from aC.mpr ⟨p,xs++ys,rfl,.inl (.inl ah),(h2.append h4).mono g.f⟩) g
 | @str x y _ h =>
  rw [dP] at rx ry
  exact .inr ⟨x,y,rx,ry,h.s,q (.va (.str (x++y))) _ H Hf h.r (show Rep K Hf (.str (x++y)) _ from dP.mpr rfl) (.refl s)⟩
theorem DR {R:Sl→Prop} (h:EvE c a ρ fun x=>EvE c b ρ fun y=>jT x y R):EvX c (.BinOp a .Add b pos) ρ R :=
 ng (OpR.or (OpR.or (OpR.or EG B5) yy) qQ) B6 h
noncomputable def cutD {α:Type} (xs:List α) (lo hi:Option Int):List α:=(xs.drop (HT.sIx xs.length 0 lo)).take (HT.sIx xs.length xs.length hi - HT.sIx xs.length 0 lo)
theorem o8 {K:GW} {H:Hp} {ds:List D} {xs:List V} (h:aj K H ds xs) (lo hi:Option Int):aj K H (cutD ds lo hi) (mV xs lo hi):=by
 unfold cutD mV
 rw [h.length]
 exact (h.drop _).take _
noncomputable def bP (X:Cx) (e:Option Expr):TO:=fun σ H Q=>∀ pins s,Inv X pins σ H s→wpAny (model X.prog X.w) X.A (evalPart e X.env) (fun u s'=>∃ o H',Inv X pins σ H' s'∧IsPart u o∧Q o H') X.xe s
theorem pbP {X:Cx} {e:Option Expr}:PO X e (bP X e):=fun pins s σ H Q I h=>h pins s I
noncomputable def EvP (c:Ctx P w K mg base k N sc bk) (e:Option Expr) (ρ:List Sl) (R:Option Int→Prop):Prop :=
 ∀ (σ:L2.St) (H Hf:Hp) (Q:Option Int→Hp→Prop),aU c σ H Hf ρ→(∀ o H' Hf',R o→Grw H Hf H' Hf'→Q o H')→bP c.X e σ H Q
theorem Fe {R:Option Int→Prop} (h:R none):EvP c none ρ R:=fun σ H Hf Q S q pins s I=>BB pins s σ H Q I (q none H Hf h (.refl S.sb))
theorem Ff {R:Option Int→Prop} (h:EvE c e ρ (I1 fun i=>R (some i))):EvP c (some e) ρ R:=fun σ H Hf Q S q pins s I =>
 BC pbE pins s σ H Q I (h σ H Hf _ S fun d v H' Hf' ⟨i,e,hR⟩ r g=>by subst e; rw [au] at r; exact ⟨i,r,q _ H' Hf' hR g⟩)
noncomputable def rSlTw (K:GW):V→Option Int→Option Int→Hp→VK→Prop:=fun x lo hi H Q=>∃ a xs,x=.ref a∧SqT K H a xs ∧
 (HT.sIx xs.length 0 lo=0∧HT.sIx xs.length xs.length hi=xs.length)∧Q (.ref a) H
theorem fL {prog:Program} {w:World} {A:Around} {E:Value→Shared→Prop} {s:Shared} {t sl:Addr} {items:Array Value} {vl vu:Value} {lo hi:Option Int} {Q:Value→Shared→Prop} (ht:IsTup s.heap t items) (hs:s.heap.IsSliceOf sl vl vu .none) (pl:IsPart vl lo) (pu:IsPart vu hi)
 (hw:HT.sIx items.size 0 lo=0∧HT.sIx items.size items.size hi=items.size) (h:Q (.ref t) s):wpAny (model prog w) A (getItem (.ref t) (.ref sl)) Q E s:=by
 obtain ⟨os,hos,hcs,hds⟩:=id hs
 have hTs:s.TypeIs (.ref sl) "slice":=⟨os,hos,hcs⟩
 unfold getItem
 try with_reducible refine IF ?_
 first | refine GU (GX ?_) | skip
 refine GU (MJ ht.typeIs (by decide) ?_)
 refine GU (Jf (name:=GV "__getitem__") ht.typeIs Ka
  (IJ Ka ht.typeIs entry_tuple_getitem ?_ (args_tuple_getitem _ _)))
 show wpAny _ _ (Builtin.Tuple.tupleItemsOf (.ref t) >>= _) _ _ s
 refine GU (tupleItemsOf_ ht ?_)
 refine GU (JE hTs ?_)
 rw [if_pos (by decide)]
 refine GU (HT.dG hs pl pu ?_)
 have hyes:((((HT.sIx items.size 0 lo:Nat):Int) == 0 && (1:Int) == 1 && (HT.sIx items.size items.size hi - HT.sIx items.size 0 lo) == items.size)=true):=by
  rw [hw.1,hw.2]; simp
 show wpAny _ _ (if (((HT.sIx items.size 0 lo:Nat):Int) == 0 && (1:Int) == 1 && (HT.sIx items.size items.size hi - HT.sIx items.size 0 lo) == items.size)=true then _ else _) _ _ s
 rw [if_pos hyes]
 obtain ⟨⟨cls,dd,data,sl'⟩,ho,hc,n,hd⟩:=id ht
 simp only at hc hd
 subst hc hd
 unfold Builtin.Tuple.tupleIsExact
 wp_walk using Li ho
 exact ⟨_,rfl,GX h⟩
theorem yz {X:Cx}:SlR X (rSlTw X.K):=by
 intro pins s σ H x v vl vu lo hi sl Q I rx hs pl pu h
 obtain ⟨a,xs,rfl,hx,hw,q⟩:=h
 cases rx
 obtain ⟨its,r,ht,hz⟩:=I.tuple hx
 have hlen:its.toArray.size=xs.length:=by rw [Hq]; exact r.length.symm
 refine ⟨"tuple",_,Ka.lookup,ht.typeIs,?_⟩
 exact fL ht hs pl pu (by rw [hlen]; exact hw) ⟨.ref a,H,I,rfl,q⟩
inductive SlP:D→Option Int→Option Int→(Sl→Prop)→Prop where
 | lst {ds:List D} {lo hi:Option Int} {R:Sl→Prop} (h:R (.ow (cutD ds lo hi))):SlP (.lst ds) lo hi R
 | tup {ds:List D} {lo hi:Option Int} {R:Sl→Prop} (h:R (.va (.tup (cutD ds lo hi)))):SlP (.tup ds) lo hi R
theorem vB {α:Type} {xs:List α} {lo hi:Option Int} (h:HT.sIx xs.length 0 lo=0∧HT.sIx xs.length xs.length hi=xs.length):cutD xs lo hi=xs:=by
 unfold cutD; rw [h.1,h.2]; simp
theorem tQ {lo hi:Option Expr} {p2:Pos} {R:Sl→Prop} (h:EvE c e ρ fun x=>EvP c lo ρ fun l=>EvP c hi ρ fun u=>SlP x l u R):EvX c (.Subscript e (.Slice lo hi none p2) pos) ρ R:=fun σ H Hf Q S q =>
 bu (xT (SlR.or (SlR.or BF ES) yz) pbE pbP pbP) (h σ H Hf _ S fun x v H1 Hf1 h1 r1 g1=>h1 σ H1 Hf1 _ (S.grw g1) fun l H2 Hf2 h2 g2=>h2 σ H2 Hf2 _ (S.grw (g1.trans g2)) fun u H3 Hf3 h3 g3=>by
  have r3:=Rep.mono g3.f x (Rep.mono g2.f x r1)
  have g:=(g1.trans g2).trans g3
  cases h3 with
  | lst h =>
   rw [aH] at r3
   obtain ⟨a,xs,rfl,k1,k2⟩:=r3
   refine .inl (.inl ⟨a,xs,rfl,g3.b.seq k1,fun p hp=>?_⟩)
   exact q _ _ _ _ h ⟨p,_,rfl,g.s.free hp,ah,g3.b.free hp,o8 k2 l u⟩ (g.trans (Grw.eG g3.b hp))
  | tup h =>
   rw [aC] at r3
   obtain ⟨a,xs,rfl,k1,k2⟩:=r3
   by_cases hw:HT.sIx xs.length 0 l=0∧HT.sIx xs.length xs.length u=xs.length
   ·refine .inr ⟨a,xs,rfl,ak g3.b k1,hw,?_⟩
    refine q _ _ _ _ h (show Rep c.X.K Hf3 _ _ from aC.mpr ⟨a,xs,rfl,k1,?_⟩) g
    rw [vB (by rw [k2.length]; exact hw)]; exact k2
   ·refine .inl (.inr ⟨a,xs,rfl,ak g3.b k1,hw,fun p hp=>?_⟩)
    have g4:=Grw.new g3.b hp (o:=.tup (mV xs l u))
    exact q _ _ _ _ h (show Rep c.X.K _ _ _ from aC.mpr ⟨p,_,rfl,.inl (.inl ah),(o8 k2 l u).mono g4.f⟩) (g.trans g4))
theorem yC {H₀ Hf₀ H1 Hf1 H Hf:Hp} (a:Grw H₀ Hf₀ H1 Hf1) (b:Grw H₀ Hf1 H Hf):Grw H₀ Hf₀ H Hf :=
 ⟨b.s,a.f.trans b.f,b.b,fun c h1 h2 h3=>b.n c (a.n c h1 h2 h3) h2 h3⟩
theorem StR.re {K:GW} {H₀ Hf₀ H1 Hf1 H Hf:Hp} {σ:L2.St} {ρ:List Sl} (a:Grw H₀ Hf₀ H1 Hf1) (S:StR K H₀ Hf1 σ H Hf ρ):StR K H₀ Hf₀ σ H Hf ρ:=⟨yC a S.bas,S.len,S.at_,S.sep⟩
theorem StR.anew {K:GW} {H₀ Hf₀ H Hf:Hp} {σ:L2.St} {ρ:List Sl} (S:StR K H₀ Hf₀ σ H Hf ρ):StR K H₀ Hf σ H Hf ρ:=⟨⟨S.bas.s,.refl _,S.bas.b,fun _ h _ _=>h⟩,S.len,S.at_,S.sep⟩
noncomputable def Ctx.at_ (c:Ctx P w K mg base k N sc bk) {H1 Hf1:Hp} (a:Grw c.B c.Hf H1 Hf1):Ctx P w K mg base k N sc bk :=
 { X:=c.X,eP:=c.eP,ew:=c.ew,eK:=c.eK,emg:=c.emg,eb:=c.eb,eN:=c.eN,esc:=c.esc,calm:=c.calm,top:=c.top,cb:=c.cb,fn:=c.fn,room:=c.room,nd:=c.nd,vis:=c.vis,B:=c.B,Hf:=Hf1,RX:=c.RX,RM:=c.RM,
   exc:=fun C x pins σ H Hf' ρ s H' s' I S h X sm=>c.exc C x pins σ H Hf' ρ s H' s' I (S.re a) h X sm,mde:=fun C x pins σ H Hf' ρ s h' us I S h hx=>c.mde C x pins σ H Hf' ρ s h' us I (S.re a) h hx }
theorem ye.at_ {nx:List Sl→Prop} {p:Pt} {D:Ends} {H1 Hf1:Hp} (a:Grw c.B c.Hf H1 Hf1) (o:ye c nx p D):ye (c.at_ a) nx p D :=
 ⟨fun σ H Hf ρ S q=>o.nx σ H Hf ρ (StR.re a S) q,fun r v H Hf g rv q=>o.rt r v H Hf (yC a g) rv q,fun σ H Hf ρ S q=>o.bk σ H Hf ρ (StR.re a S) q,fun σ H Hf ρ S q=>o.ct σ H Hf ρ (StR.re a S) q⟩
noncomputable def bI (X:Cx) (tg iter:Expr):TI:=fun σ H R=>∀ pins s,Inv X pins σ H s→wpAny (model X.prog X.w) X.A (eval iter X.env) (fun v s1=>wpAny (model X.prog X.w) X.A (pyIter v) (PIE X pins σ tg R) X.xe s1) X.xe s
theorem pbI {X:Cx} {tg iter:Expr}:PI X tg iter (bI X tg iter):=fun pins s σ H R I h=>h pins s I
structure gy (K:GW) (J:It) (ds:List D) (Hf₀:Hp):Prop where
 go:∀ i d H Hf,aG Hf₀ Hf→aG Hf H→ds[i]?=some d→J.go i H∧∀ x H',J.yld i H x H'→∃ Hf',Grw H Hf H' Hf'∧Rep K Hf' d x
 stop:∀ i H Hf,aG Hf₀ Hf→aG Hf H→ds.length≤i→J.stop i H
noncomputable def EvI (c:Ctx P w K mg base k N sc bk) (tg iter:Expr) (ρ:List Sl) (R:List D→Prop):Prop :=
 ∀ (σ:L2.St) (H Hf:Hp) (Q:It→Hp→Prop),aU c σ H Hf ρ→(∀ ds J H' Hf',R ds→Grw H Hf H' Hf'→gy c.X.K J ds Hf'→Q J H')→bI c.X tg iter σ H Q
theorem vC {K:GW} {ds:List D} {xs:List V} {p:Addr} {Hf₀:Hp} (h:SqL K Hf₀ p xs) (r:aj K Hf₀ ds xs):gy K (Itl K p) ds Hf₀ where
 go:=fun i d H Hf s1 s2 e=>by
  obtain ⟨x,ex,rx⟩:=r.get e
  refine ⟨⟨xs,x,(s1.trans s2).seq h,ex⟩,fun y H' ⟨e1,e2⟩=>?_⟩
  subst e1
  have:=e2 xs ((s1.trans s2).seq h)
  rw [ex] at this; cases this
  exact ⟨Hf,.refl s2,Rep.mono s1 d rx⟩
 stop:=fun i H Hf s1 s2 e=>⟨xs,(s1.trans s2).seq h,by rw [← r.length]; exact e⟩
theorem yD {K:GW} {ds:List D} {xs:List V} {p:Addr} {Hf₀:Hp} (h:SqT K Hf₀ p xs) (r:aj K Hf₀ ds xs):gy K (Itt K p) ds Hf₀ where
 go:=fun i d H Hf s1 s2 e=>by
  obtain ⟨x,ex,rx⟩:=r.get e
  refine ⟨⟨xs,x,ak (s1.trans s2) h,ex⟩,fun y H' ⟨e1,e2⟩=>?_⟩
  subst e1
  have:=e2 xs (ak (s1.trans s2) h)
  rw [ex] at this; cases this
  exact ⟨Hf,.refl s2,Rep.mono s1 d rx⟩
 stop:=fun i H Hf s1 s2 e=>⟨xs,ak (s1.trans s2) h,by rw [← r.length]; exact e⟩
noncomputable def iSeq (K:GW) (tl:TE):TI:=fun σ H R=>tl σ H fun x H1=>∃ a,x=.ref a∧(((∃ xs,SqL K H1 a xs)∧R (Itl K a) H1)∨((∃ xs,SqT K H1 a xs)∧R (Itt K a) H1))
theorem Fg {X:Cx} {tg l:Expr} {tl:TE} (hl:PE X l tl):PI X tg l (iSeq X.K tl):=by
 intro pins s σ H R I h
 refine thn (hl pins s σ H _ I h) fun v s1 ⟨x,H1,I1,r1,q1⟩=>?_
 obtain ⟨a,e,h⟩:=q1
 subst e
 cases r1
 rcases h with ⟨⟨xs,hq⟩,q⟩ | ⟨⟨xs,hq⟩,q⟩
 ·obtain ⟨its,rv,p,hz⟩:=I1.list hq
  refine Lx p.isList ?_
  refine ⟨s1.heap.objs.size,[s1.heap.objs.size],_,_,H1,rfl,I1.kept (t':=s1.toks) fun b o e=>G1 _ e,vf a _,⟨_,G7 _ rfl,rfl,rfl⟩,fun b hb=>?_,q⟩
  have e:b=s1.heap.objs.size:=by simpa using hb
  subst e
  exact I1.jJ (GZ _) (I1.hok.fresh (GZ _))
 ·obtain ⟨its,rv,p,hz⟩:=I1.tuple hq
  refine MG (show s1.heap.IsTuple a its.toArray from p) ?_
  refine ⟨s1.heap.objs.size,[s1.heap.objs.size],_,_,H1,rfl,I1.kept (t':=s1.toks) fun b o e=>G1 _ e,qN a _,⟨_,G7 _ rfl,rfl,rfl⟩,fun b hb=>?_,q⟩
  have e:b=s1.heap.objs.size:=by simpa using hb
  subst e
  exact I1.jJ (GZ _) (I1.hok.fresh (GZ _))
theorem bZ {tg:Expr} {R:List D→Prop} (h:EvE c e ρ fun d=>∃ ds,d.row=some ds∧R ds):EvI c tg e ρ R:=fun σ H Hf Q S q pins s I =>
 Fg pbE pins s σ H Q I (h σ H Hf _ S fun d v H' Hf' ⟨ds,er,hR⟩ r g=>by
  obtain ⟨p,xs,rfl,hr,hk⟩:=gx er r
  refine ⟨p,rfl,?_⟩
  rcases hk with ⟨_,hk⟩ | ⟨_,hk⟩
  ·exact .inl ⟨⟨xs,g.b.seq hk⟩,q ds _ H' Hf' hR g (vC hk hr)⟩
  ·exact .inr ⟨⟨xs,ak g.b hk⟩,q ds _ H' Hf' hR g (yD hk hr)⟩)
noncomputable def kY (lo:Int) (n:Nat):List D:=(HE n).map fun (i:Nat)=>D.int (lo+(i:Int))
theorem yE {K:GW} {lo:Int} {n:Nat} {Hf₀:Hp}:gy K (Itr lo n) (kY lo n) Hf₀ where
 go:=fun i d H Hf s1 s2 e=>by
  unfold kY at e
  rw [G9] at e
  obtain ⟨j,e1,e2⟩:=Hj.mp e
  have hi:i<n:=by
   have:=(G8.mp e1).1
   simpa using this
  have:j=i:=by
   rw [KL hi] at e1; cases e1; rfl
  subst this
  refine ⟨hi,fun x H' ⟨e3,e4⟩=>?_⟩
  subst e3 e4 e2
  exact ⟨Hf,.refl s2,au.mpr rfl⟩
 stop:=fun i H Hf s1 s2 e=>by
  show n≤i
  simpa [kY] using e
noncomputable def yF (i:Int):Prop:= -(2 ^ 62)≤i∧i<2 ^ 62
theorem dI {tg:Expr} {p:Pos} {R:List D→Prop} (hm:mg "range"=none) (h:EvE c e ρ (I1 fun j=>Sd (yF j) (R (kY 0 j.toNat)))) (hg:sc.names.lookup (GV "range")=some .globalImplicit:=by walk_at "u")
 (hs:∀ env,starEach [e] env=(false,eval e env)::starEach [] env:=by intro _; walk_at "u"):EvI c tg (.Call (.Name "range" p) [e] [] pos) ρ R:=fun σ H Hf Q S q pins s I =>
 vg (by unfold Gl HH; rw [c.esc]; exact hg) (by rw [c.emg]; exact hm) (br pbE cA (hs _)) (hs _) pins s σ H Q I (h σ H Hf _ S fun d v H' Hf' ⟨j,ed,⟨hj,hR⟩⟩ r g=>by
  subst ed; rw [au] at r; subst r
  exact ⟨j,rfl,hj.1,hj.2,q _ _ H' Hf' hR g yE⟩)
theorem b9 {tg iter:Expr} {body:List Stmt} {nx:List Sl→Prop} {p:Pt} (hq:c.X.xe=fun _ _=>False)
 (h:EvI c tg iter ρ fun ds=>∃ I:Nat→List Sl→Prop,I 0 ρ ∧
   (∀ c':Ctx P w K mg base k N sc bk,c'.X=c.X→c'.RX=c.RX→c'.RM=c.RM→∀ i d ρ',ds[i]?=some d→I i ρ'→EvG c' tg d ρ' fun ρ''=>aW c' body ρ'' (I (i+1)) { rt:=p.rt,bk:=nx,ct:=I (i+1) })∧∀ ρ',I ds.length ρ'→nx ρ')
 (hs:∀ env x,foldedSetIterable iter env x=pure x:=by intro _ _; walk_at "u"):EvS c (.For tg iter body [] pos) ρ nx p:=fun σ H Hf D S o =>
 c7 (EF (by rw [hq]; exact PassesOwn.never) c.calm pbI pbG oW (hs _)) (h σ H Hf _ S fun ds J H1 Hf1 ⟨I,h0,hb,he⟩ g io=>by
  have S1:=S.grw g
  have gb:Grw c.B c.Hf H1 Hf1:=S1.bas
  refine ⟨fun i m σ H=>m=ds.length - i∧i≤ds.length∧∃ Hf ρ',aU (c.at_ gb) σ H Hf ρ'∧I i ρ',⟨_,rfl,HF _,Hf1,ρ,S1.anew,h0⟩,?_⟩
  rintro i m σ H ⟨rfl,hi,Hf,ρ',S',hI⟩
  by_cases hlt:i<ds.length
  ·have ed:ds[i]?=some ds[i]:=HD hlt
   obtain ⟨hgo,hy⟩:=io.go i _ H Hf S'.bas.f S'.bas.b ed
   refine .inr ⟨hgo,fun σ' H'=>∃ Hf' ρ'',aU (c.at_ gb) σ' H' Hf' ρ''∧I (i+1) ρ'',fun σ' H' ⟨Hf',ρ'',S'',hI'⟩=>⟨_,by omega,rfl,hlt,Hf',ρ'',S'',hI'⟩,fun x H' hx=>?_⟩
   obtain ⟨Hf',g',rx⟩:=hy x H' hx
   refine hb (c.at_ gb) rfl rfl rfl i _ ρ' ed hI σ H' Hf' x _ (S'.grw g') rx fun σ2 H2 Hf2 ρ2 S2 _ hbody=>?_
   exact hbody σ2 H2 Hf2 _ S2 ⟨fun σ H Hf ρ S q=>⟨Hf,ρ,S,q⟩,(o.at_ gb).rt,fun σ H Hf ρ S q=>(o.at_ gb).nx σ H Hf ρ S q,fun σ H Hf ρ S q=>⟨Hf,ρ,S,q⟩⟩
  ·have e:i=ds.length:=by omega
   subst e
   exact .inl ⟨io.stop _ H Hf S'.bas.f S'.bas.b (GZ _),(o.at_ gb).nx σ H Hf ρ' S' (he ρ' hI)⟩)
end
section
variable {X:Cx} {pins:List (Addr×Obj)} {σ:L2.St} {H1 H':Hp} {s1 s':Shared} {a C t:Addr} {B h6:Heap}
end
section
variable {X:Cx} {pins:List (Addr×Obj)} {σ:L2.St} {H:Hp} {s:Shared}
end
section
variable {P:Program} {w:World} {K:GW} {mg:Str→Option Value} {base:Heap} {k:Nat} {N:List Str} {sc:Scope} {bk:Bool} {c:Ctx P w K mg base k N sc bk} {ρ:List Sl} {pos hp hpos np2 ap yp:Pos} {body:List Stmt} {nx:List Sl→Prop} {p:Pt}
end
section
variable {P:Program} {w:World} {K:GW} {mg:Str→Option Value} {base:Heap} {k:Nat} {N:List Str} {sc:Scope} {bk:Bool} {c:Ctx P w K mg base k N sc bk} {ρ:List Sl} {pos:Pos} {a b e:Expr} {es:List Expr} {R:D→Prop} {T:Bool→Prop}
theorem DS {d:D} (h:R d):FzP R (.va d):=⟨d,rfl,h⟩
theorem c9 {ds:List D} (h:R (.lst ds)):FzP R (.ow ds):=⟨.lst ds,rfl,h⟩
theorem Fi (h:EvE c a ρ fun x=>EvE c b ρ fun y=>jT x y (FzP R)):EvE c (.BinOp a .Add b pos) ρ R:=e_x (DR h)
theorem EvA.imp {R R':List D→Prop} (h:EvA c es ρ R) (hi:∀ d,R d→R' d):EvA c es ρ R':=fun σ H Hf Q S q=>h σ H Hf Q S fun d v H' Hf' rd=>q d v H' Hf' (hi d rd)
theorem Fj (h:EvA c es ρ fun ds=>Sd (ds.length≤sizeLine) (R (.lst ds))):EvE c (.List es pos) ρ R:=e_x (DP (h.imp fun ds hd=>⟨hd.s,c9 hd.r⟩))
theorem yG {lo hi:Option Expr} {p2:Pos} (h:EvE c e ρ fun x=>EvP c lo ρ fun l=>EvP c hi ρ fun u=>SlP x l u (FzP R)):EvE c (.Subscript e (.Slice lo hi none p2) pos) ρ R:=e_x (tQ h)
theorem yH {i j:Int} {R:Sl→Prop} (h:R (.va (.int (i+j)))):jT (.int i) (.int j) R:=.int h
theorem yI {ds es:List D} {R:Sl→Prop} (h:Sd (ds.length+es.length≤sizeLine) (R (.ow (ds++es)))):jT (.lst ds) (.lst es) R:=.lst h
theorem yJ {ds es:List D} {R:Sl→Prop} (h:Sd (ds.length+es.length≤sizeLine) (R (.va (.tup (ds++es))))):jT (.tup ds) (.tup es) R:=.tup h
theorem isd {d:D} {t cv:Value} {b:Bool} (ty:TyD K d t) (e:IM K t cv=some b) (h:R (.bl b)):∃ t b,TyD K d t∧IM K t cv=some b∧R (.bl b):=⟨t,b,ty,e,h⟩
theorem e_ixA (h:EvE c a ρ fun x=>EvE c b ρ fun y=>IxP x y R) (hs:jx b:=by with_unfolding_all exact fun _ _=>rfl):EvE c (.Subscript a b pos) ρ R:=e_ix h hs
theorem rowX {x:D} {ds:List D} {Q:List D→Prop} (e:x.row=some ds) (h:Q ds):∃ ys,x.row=some ys∧Q ys:=⟨ds,e,h⟩
theorem aZ {F:Fn} {ds:List D} {sl:Sl} {R:Sl→Prop} (h:F ds (.ok sl)) (r:R sl):∃ r,F ds r∧RsP c ρ R r:=⟨_,h,r⟩
end
section
variable {P:Program} {w:World} {K:GW} {mg:Str→Option Value} {base:Heap} {k:Nat} {N:List Str} {sc:Scope} {bk:Bool} {c:Ctx P w K mg base k N sc bk} {ρ:List Sl} {pos:Pos} {iter:Expr} {R:D→Prop}
end
noncomputable def del (H:Hp) (p:Addr):Hp:=fun b=>if b=p then none else H b
theorem gz {H:Hp} {p:Addr}:del H p p=none:=if_pos rfl
theorem bL {H:Hp} {p b:Addr} (h:b≠p):del H p b=H b:=if_neg h
theorem yK {H₀ H:Hp} {p:Addr} (h:H₀ p=none) (s:aG H₀ H):aG H₀ (del H p):=fun b o e=>by
 rw [bL (az e h)]; exact s b o e
theorem gB {H:Hp} {p b:Addr} {o:HO} (h:del H p b=some o):b≠p∧H b=some o:=by
 by_cases e:b=p
 ·subst e; rw [gz] at h; cases h
 ·rw [bL e] at h; exact ⟨e,h⟩
theorem fD {H Hf:Hp} {p:Addr} {o:HO} (sb:aG Hf H) (hp:Hf p=none):Grw (del H p) Hf (upd H p o) Hf :=
 ⟨fun b u e=>by obtain ⟨h1,h2⟩:=gB e; rw [ai h1]; exact h2,.refl _,fun b u e=>by rw [ai (az e hp)]; exact sb b u e,fun _ h _ _=>h⟩
section
variable {K:GW} {H₀ Hf₀ H Hf H1 Hf1:Hp} {σ:L2.St} {ρ:List Sl}
theorem aM.o9 {fr:Addr→Prop} {r:Sl} {v:V} (ho:r.owned=true) (h:aM K fr H Hf r v):∃ p o,v=.ref p∧fr p∧H p=some o∧Hf p=none∧¬ yb H p:=by
 have nf:∀ {p:Addr} {u:HO},H p=some u→(∀ φ,u≠.ext φ)→¬ yb H p:=fun e k ⟨z,e2⟩=>by rw [e] at e2; exact k _ (IW e2)
 cases r with
 | un=>cases ho
 | va d=>cases ho
 | fo s=>cases ho
 | ow ds=>obtain ⟨p,xs,rfl,f,h1,h2,_⟩:=h; exact ⟨p,_,rfl,f,h1,h2,nf h1 (by intro _ z; cases z)⟩
 | oT ds=>obtain ⟨p,xs,rfl,f,h1,h2,_⟩:=h; exact ⟨p,_,rfl,f,h1,h2,nf h1 (by intro _ z; cases z)⟩
 | oK ds=>obtain ⟨p,xs,rfl,f,h1,h2,_⟩:=h; exact ⟨p,_,rfl,f,h1,h2,nf h1 (by intro _ z; cases z)⟩
 | aw a ds=>obtain ⟨p,xs,rfl,f,h1,h2,_⟩:=h; exact ⟨p,_,rfl,f.1,h1,h2,nf h1 (by intro _ z; cases z)⟩
 | aT a ds=>obtain ⟨p,xs,rfl,f,h1,h2,_⟩:=h; exact ⟨p,_,rfl,f.1,h1,h2,nf h1 (by intro _ z; cases z)⟩
 | aK a ds=>obtain ⟨p,xs,rfl,f,h1,h2,_⟩:=h; exact ⟨p,_,rfl,f.1,h1,h2,nf h1 (by intro _ z; cases z)⟩
theorem aM.pe {fr:Addr→Prop} {r:Sl} {v:V} (ho:r.owned=true) (h:aM K fr H Hf r v):∃ p o,v=.ref p∧fr p∧H p=some o∧Hf p=none :=
 let ⟨p,o,a,b,c,d,_⟩:=h.o9 ho; ⟨p,o,a,b,c,d⟩
theorem aM.del' {fr:Addr→Prop} {r:Sl} {v:V} {p:Addr} (nf:¬ yb H p) (hv:r.owned=true→v≠.ref p) (h:aM K fr H Hf r v):aM K fr (del H p) Hf r v :=
 aM.mv (B:=fun q=>q=p) (.refl _) (fun q o hq e1 _ e3=>⟨by rw [bL hq]; exact e1,e3⟩) (fun _ q e=>by subst e; exact nf) (fun ho q z e=>by subst e; exact hv ho z) h
theorem StR.own (S:StR K H₀ Hf₀ σ H Hf ρ) {i:Nat} {r:Sl} (hi:ρ[i]?=some r) (ho:r.owned=true):∃ p,σ[i]?=some (some (.ref p))∧aM K (fun p=>H₀ p=none) H Hf r (.ref p):=by
 obtain ⟨v,e,q⟩:=S.at_ i r hi (by rintro rfl; cases ho)
 obtain ⟨p,o,rfl,_⟩:=q.pe ho
 exact ⟨p,e,q⟩
theorem StR.upd (S:StR K H₀ Hf₀ σ H Hf ρ) {i:Nat} {r r':Sl} {p:Addr} (hi:ρ[i]?=some r) (ho:r.owned=true) (hp:σ[i]?=some (some (.ref p))) (g:Grw (del H p) Hf H1 Hf1)
 (hr:aM K (fun q=>q=p) H1 Hf1 r' (.ref p)) (ho':r'.owned=true):StR K H₀ Hf₀ σ H1 Hf1 (ρ.set i r'):=by
 obtain ⟨p',ep,q⟩:=S.own hi ho
 rw [hp] at ep; cases ep
 obtain ⟨_,o,e,fp,hHp,hfp,nfz⟩:=q.o9 ho
 cases e
 have hlt:i<ρ.length:=(G8.mp hi).1
 refine ⟨⟨(yK fp S.bas.s).trans g.s,S.bas.f.trans g.f,g.b,fun b h1 h2 h3=>?_⟩,by simp [S.len],fun j r1 hj hu=>?_,fun j j' r1 r2 q' hne h1 h2 o1 o2=>?_⟩
 ·have hb:b≠p:=fun z=>by subst z; exact h2 fp
  cases z:H₀ b with
  | none=>exact absurd z h2
  | some o1 =>
   have e1:=S.bas.s b o1 z
   refine g.n b (S.bas.n b h1 h2 h3) (by rw [bL hb,e1]; simp) fun xs=>?_
   rw [bL hb,e1,← z]; exact h3 xs
 ·by_cases e:j=i
  ·subst e
   rw [Iu hlt] at hj; cases hj
   exact ⟨_,hp,hr.weak fun q' z=>by subst z; exact fp⟩
  ·rw [Iv (Hu e)] at hj
   obtain ⟨v,e1,e2⟩:=S.at_ j r1 hj hu
   exact ⟨v,e1,(e2.del' (p:=p) nfz fun ow z=>by subst z; exact S.sep i j _ _ p (Hu e) hi hj ho ow hp e1).grw g⟩
 ·have out:∀ {j:Nat} {r1:Sl},(ρ.set i r')[j]?=some r1→r1.owned=true→∃ r2,ρ[j]?=some r2∧r2.owned=true:=fun {j r1} hj how=>by
   by_cases e:j=i
   ·subst e; exact ⟨r,hi,ho⟩
   ·rw [Iv (Hu e)] at hj; exact ⟨r1,hj,how⟩
  obtain ⟨r3,a1,a2⟩:=out h1 o1
  obtain ⟨r4,b1,b2⟩:=out h2 o2
  exact S.sep j j' r3 r4 q' hne a1 b1 a2 b2
end
section
variable {P:Program} {w:World} {K:GW} {mg:Str→Option Value} {base:Heap} {k:Nat} {N:List Str} {sc:Scope} {bk:Bool} {c:Ctx P w K mg base k N sc bk} {ρ:List Sl} {pos ap cp px:Pos} {a b e:Expr} {es:List Expr} {R:D→Prop} {T:Bool→Prop} {nx:List Sl→Prop} {p:Pt} {x:Str} {i:Nat}
theorem Ctx.jU (c:Ctx P w K mg base k N sc bk) (hN:At N i x) (hd:(x == ("__debug__":Str))=false) (hcd:(x == ("__classdict__":Str))=false):PE c.X (.Name x px) (tVar i) :=
 qM (X:=c.X) (i:=i) (by rw [c.eN]; exact hN.get) (by rw [c.esc]; rcases c.vis x hN.mem with h | h; exact .inl h; exact .inr (.inl h)) hd hcd
noncomputable def Sl.getL:Sl→Option (List D) | .ow ds=>some ds | .aw _ ds=>some ds | _=>none
noncomputable def Sl.putL:Sl→List D→Sl | .ow _,es=>.ow es | .aw a _,es=>.aw a es | s,_=>s
theorem cC {r:Sl} {ds:List D} (h:r.getL=some ds):r.owned=true:=by cases r <;> first | rfl | cases h
theorem fP {r:Sl} {ds es:List D} (h:r.getL=some ds):(r.putL es).owned=true:=by cases r <;> first | rfl | cases h
theorem repL {K:GW} {fr:Addr→Prop} {H Hf:Hp} {r:Sl} {ds:List D} {p:Addr} (h:r.getL=some ds) (q:aM K fr H Hf r (.ref p)):∃ xs,H p=some (.lst xs)∧Hf p=none∧aj K Hf ds xs:=by
 cases r with
 | ow es=>cases h; obtain ⟨_,xs,e,_,h1,h2,h3⟩:=q; cases e; exact ⟨xs,h1,h2,h3⟩
 | aw a es=>cases h; obtain ⟨_,xs,e,_,h1,h2,h3⟩:=q; cases e; exact ⟨xs,h1,h2,h3⟩
 | _=>cases h
theorem jV {K:GW} {fr:Addr→Prop} {H Hf H1 Hf1:Hp} {r:Sl} {ds es:List D} {p:Addr} {ys:List V} (h:r.getL=some ds) (q:aM K fr H Hf r (.ref p)) (h1:H1 p=some (.lst ys)) (h2:Hf1 p=none) (h3:aj K Hf1 es ys) :
 aM K (fun q=>q=p) H1 Hf1 (r.putL es) (.ref p):=by
 cases r with
 | ow _=>exact ⟨p,ys,rfl,rfl,h1,h2,h3⟩
 | aw a _=>obtain ⟨_,xs,e,f,_⟩:=q; cases e; exact ⟨p,ys,rfl,⟨rfl,f.2⟩,h1,h2,h3⟩
 | _=>cases h
theorem yL {r:Sl} {ds:List D} (hN:At N i x) (hi:At ρ i r) (hr:r.getL=some ds) (h:EvE c e ρ fun d=>Sd (ds.length<sizeLine) (Nx ρ i nx (r.putL (ds++[d]))))
 (hs:∀ env,swapsWith (.Call (.Attribute (.Name x px) "append" ap) [e] [] cp) none pos.line env=pure false:=by intro _; walk_at "u") (hd:(x == ("__debug__":Str))=false:=by decide) (hcd:(x == ("__classdict__":Str))=false:=by decide)
 (hbase:∀ env,attributeBase (.Name x px) "append" env (eval (.Name x px) env)=eval (.Name x px) env:=by intro _; walk_at "u")
 (hfew:∀ env,((backTo cp (starEach [e] env)).all (fun x=> !x.1) && (backToKw cp (keywordEach [] env)).all (fun x=>x.1.isSome)
   && decide (([e]:List Expr).length+([]:List Keyword).length+(if ([]:List Keyword).isEmpty then 0 else 1)<30))=true:=by intro _; walk_at "u")
 (hline:(ap.endLine == cp.line)=true:=by walk_at "u") (he:∀ env,starEach [e] env=(false,eval e env)::starEach [] env:=by intro _; walk_at "u") (hpl:∀ env,(backTo cp (starEach [] env)).any (·.1)=false:=by intro _; walk_at "u") :
 EvS c (.Expr (.Call (.Attribute (.Name x px) "append" ap) [e] [] cp) pos) ρ nx p:=fun σ H Hf D S o=>by
 obtain ⟨q,eq,rq⟩:=S.own hi.get (cC hr)
 obtain ⟨xs,h1,h2,h3⟩:=repL hr rq
 refine c7 (jw (pe_bm PySem.F.plainAttrs_list PySem.F.slot_list_append PySem.F.type_list_append lI (c.jU hN hd hcd) (br pbE cA (he _)) (hbase _) (hfew _) hline (he _) (hpl _)) (hs _)) ⟨_,eq,.inl ⟨rfl,xs,.inl (.inl h1)⟩,?_⟩
 refine h σ H Hf _ S fun d v H' Hf' ⟨hz,ρ',hs',hn⟩ rd g=>?_
 have S':=S.grw g
 have e1:H' q=some (.lst xs):=g.s _ _ h1
 have e2:Hf' q=none:=g.n q h2 (by rw [h1]; simp) (by intro ys; rw [h1]; simp)
 refine ⟨q,xs,v,rfl,rfl,e1,by rw [← h3.length]; exact hz,?_⟩
 refine o.nx _ _ Hf' ρ' ?_ hn
 rw [hs'.eq]
 have rq':=rq.grw g
 exact S'.upd hi.get (cC hr) eq (fD g.b e2) (jV hr rq' ah e2 ((h3.mono g.f).append (.one rd))) (fP hr)
end
section
variable {κ β:Type} [DecidableEq κ]
noncomputable def bf (kvs:List (κ×β)) (k:κ):Option β:=(kvs.find? fun kv=>decide (kv.1=k)).map (·.2)
noncomputable def putD (kvs:List (κ×β)) (k:κ) (v:β):List (κ×β) :=
 if (bf kvs k).isSome=true then kvs.map (fun kv=>if kv.1=k then (kv.1,v) else kv) else kvs++[(k,v)]
theorem aP {q:κ×β} {r:List (κ×β)} {k:κ} (e:q.1=k):bf (q::r) k=some q.2:=by simp [bf,IX,e]
theorem aJ {q:κ×β} {r:List (κ×β)} {k:κ} (e:¬ q.1=k):bf (q::r) k=bf r k:=by simp [bf,IX,e]
end
noncomputable def D.vD:D→Option Key | .int i=>some (.inl i) | .str x=>some (.inr x) | _=>none
noncomputable def D.keys:List D→Option (List Key)
 | []=>some []
 | d::r=>match d.vD,D.keys r with | some k,some ks=>some (k::ks) | _,_=>none
theorem gC {K:GW} {H:Hp} {d:D} {k:Key} {v:V} (h:d.vD=some k) (r:Rep K H d v):v=kV k:=by
 cases d with
 | int i=>cases h; exact au.mp r
 | str x=>cases h; exact dP.mp r
 | _=>cases h
theorem iB {K:GW} {H:Hp}:∀ {ds:List D} {ks:List Key} {xs:List V},D.keys ds=some ks→aj K H ds xs→xs=ks.map kV
 | [],ks,xs,h,r=>by cases h; rw [aq.mp r]; rfl
 | d::ds,ks,xs,h,r=>by
  obtain ⟨x,t,rfl,r1,r2⟩:=aB.mp r
  unfold D.keys at h
  cases e1:d.vD with
  | none=>rw [e1] at h; cases h
  | some k =>
   cases e2:D.keys ds with
   | none=>rw [e1,e2] at h; cases h
   | some ks' =>
    rw [e1,e2] at h; cases h
    rw [gC e1 r1,iB e2 r2]; rfl
noncomputable def Sl.DT:Sl→Bool | .oK _=>true | .aK _ _=>true | .oT _=>true | .aT _ _=>true | _=>false
theorem pq {r:Sl} (h:r.DT=true):r.owned=true:=by cases r <;> first | rfl | cases h
noncomputable def Sl.qZ:Sl→Option (List (Key×D)) | .oK kvs=>some kvs | .aK _ kvs=>some kvs | _=>none
noncomputable def Sl.pA:Sl→List (Key×D)→Sl | .oK _,es=>.oK es | .aK a _,es=>.aK a es | s,_=>s
noncomputable def Sl.vE:Sl→Option (List (List Key×D)) | .oT kvs=>some kvs | .aT _ kvs=>some kvs | _=>none
noncomputable def Sl.yM:Sl→List (List Key×D)→Sl | .oT _,es=>.oT es | .aT a _,es=>.aT a es | s,_=>s
theorem jW {r:Sl} {kvs:List (Key×D)} (h:r.qZ=some kvs):r.owned=true:=by cases r <;> first | rfl | cases h
theorem jX {r:Sl} {kvs es:List (Key×D)} (h:r.qZ=some kvs):(r.pA es).owned=true:=by cases r <;> first | rfl | cases h
theorem q8 {r:Sl} {kvs es:List (List Key×D)} (h:r.vE=some kvs):(r.yM es).owned=true:=by cases r <;> first | rfl | cases h
section
variable {K:GW} {fr:Addr→Prop} {H Hf H1 Hf1:Hp} {r:Sl} {p:Addr}
theorem vF {kvs:List (Key×D)} (h:r.qZ=some kvs) (q:aM K fr H Hf r (.ref p)):∃ xs,H p=some (.dK xs)∧Hf p=none∧KVR K Hf kvs xs:=by
 cases r with
 | oK es=>cases h; obtain ⟨_,xs,e,_,h1,h2,h3⟩:=q; cases e; exact ⟨xs,h1,h2,h3⟩
 | aK a es=>cases h; obtain ⟨_,xs,e,_,h1,h2,h3⟩:=q; cases e; exact ⟨xs,h1,h2,h3⟩
 | _=>cases h
theorem B7 {kvs:List (List Key×D)} (h:r.vE=some kvs) (q:aM K fr H Hf r (.ref p)):∃ xs,H p=some (.dT xs)∧Hf p=none∧TVR K Hf kvs xs:=by
 cases r with
 | oT es=>cases h; obtain ⟨_,xs,e,_,h1,h2,h3⟩:=q; cases e; exact ⟨xs,h1,h2,h3⟩
 | aT a es=>cases h; obtain ⟨_,xs,e,_,h1,h2,h3⟩:=q; cases e; exact ⟨xs,h1,h2,h3⟩
 | _=>cases h
theorem pB {kvs es:List (Key×D)} {ys:List (Key×V)} (h:r.qZ=some kvs) (q:aM K fr H Hf r (.ref p)) (h1:H1 p=some (.dK ys)) (h2:Hf1 p=none) (h3:KVR K Hf1 es ys):aM K (fun q=>q=p) H1 Hf1 (r.pA es) (.ref p):=by
 cases r with
 | oK _=>exact ⟨p,ys,rfl,rfl,h1,h2,h3⟩
 | aK a _=>obtain ⟨_,xs,e,f,_⟩:=q; cases e; exact ⟨p,ys,rfl,⟨rfl,f.2⟩,h1,h2,h3⟩
 | _=>cases h
theorem yN {kvs es:List (List Key×D)} {ys:List (List Key×Addr×V)} (h:r.vE=some kvs) (q:aM K fr H Hf r (.ref p)) (h1:H1 p=some (.dT ys)) (h2:Hf1 p=none) (h3:TVR K Hf1 es ys):aM K (fun q=>q=p) H1 Hf1 (r.yM es) (.ref p):=by
 cases r with
 | oT _=>exact ⟨p,ys,rfl,rfl,h1,h2,h3⟩
 | aT a _=>obtain ⟨_,xs,e,f,_⟩:=q; cases e; exact ⟨p,ys,rfl,⟨rfl,f.2⟩,h1,h2,h3⟩
 | _=>cases h
noncomputable def yO (K:GW) (Hf:Hp):Option D→Option V→Prop
 | none,none=>True
 | some d,some v=>Rep K Hf d v
 | _,_=>False
theorem KVR.val {kvs:List (Key×D)} {xs:List (Key×V)} (h:KVR K Hf kvs xs) (k:Key):yO K Hf (bf kvs k) (jP xs k):=by
 unfold KVR at h
 induction h with
 | nil=>exact Jo
 | @cons a b as bs h t ih =>
  by_cases e:a.1=k
  ·rw [aP e,jQ (h.1.symm.trans e)]; exact h.2
  ·rw [aJ e,jR (fun z=>e (h.1.trans z))]; exact ih
theorem yO.isSome {o:Option D} {u:Option V} (h:yO K Hf o u):o.isSome=u.isSome:=by
 cases o <;> cases u <;> first | rfl | exact h.elim
theorem KVR.put {kvs:List (Key×D)} {xs:List (Key×V)} (h:KVR K Hf kvs xs) (k:Key) {d:D} {v:V} (rd:Rep K Hf d v):KVR K Hf (putD kvs k d) (putK xs k v):=by
 have e:=(h.val k).isSome
 unfold putD putK
 rw [e,oM]
 by_cases q:(jP xs k).isSome=true
 ·rw [if_pos q,if_pos q]
  unfold KVR at h ⊢
  clear e q
  induction h with
  | nil=>exact .nil
  | @cons a b as bs h t ih =>
   rw [G3,G3]
   refine .cons ?_ ih
   by_cases e:a.1=k
   ·rw [if_pos e,if_pos (h.1.symm.trans e)]; exact ⟨h.1,rd⟩
   ·rw [if_neg e,if_neg (fun z=>e (h.1.trans z))]; exact h
 ·rw [if_neg q,if_neg q]; exact Mc h ⟨rfl,rd⟩
theorem TVR.val {kvs:List (List Key×D)} {xs:List (List Key×Addr×V)} (h:TVR K Hf kvs xs) (k:List Key):yO K Hf (bf kvs k) (atT xs k):=by
 unfold TVR at h
 induction h with
 | nil=>exact Jo
 | @cons a b as bs h t ih =>
  by_cases e:a.1=k
  ·have z:L2.atT (b::bs) k=some b.2.2:=by simp [L2.atT,IX,h.1.symm.trans e]
   rw [aP e,z]; exact h.2.2
  ·have z:L2.atT (b::bs) k=L2.atT bs k:=by
    have:¬ b.1=k:=fun z=>e (h.1.trans z)
    simp [L2.atT,IX,this]
   rw [aJ e,z]; exact ih
theorem TVR.put {kvs:List (List Key×D)} {xs:List (List Key×Addr×V)} (h:TVR K Hf kvs xs) (k:List Key) {b:Addr} {d:D} {v:V} (hb:SqT K Hf b (k.map kV)) (rd:Rep K Hf d v):TVR K Hf (putD kvs k d) (oQ xs k b v):=by
 have e:=(h.val k).isSome
 unfold putD oQ
 rw [e]
 by_cases q:(atT xs k).isSome=true
 ·rw [if_pos q,if_pos q]
  unfold TVR at h ⊢
  clear e q
  induction h with
  | nil=>exact .nil
  | @cons a b' as bs h t ih =>
   rw [G3,G3]
   refine .cons ?_ ih
   unfold mZ
   by_cases e:a.1=k
   ·rw [if_pos e,if_pos (h.1.symm.trans e)]; exact ⟨h.1,h.2.1,rd⟩
   ·rw [if_neg e,if_neg (fun z=>e (h.1.trans z))]; exact h
 ·rw [if_neg q,if_neg q]; exact Mc h ⟨rfl,hb,rd⟩
theorem TVR.yP {kvs:List (List Key×D)} {xs:List (List Key×Addr×V)} (h:TVR K Hf kvs xs):∀ x∈xs,SqT K Hf x.2.1 (x.1.map kV):=by
 unfold TVR at h
 induction h with
 | nil=>intro x hx; cases hx
 | @cons a b as bs h t ih =>
  intro x hx
  rcases G5.mp hx with e | hx
  ·subst e; rw [← h.1]; exact h.2.1
  ·exact ih x hx
inductive LkP:Sl→D→Option D→Prop
 | k {r:Sl} {kvs:List (Key×D)} {d:D} {k:Key} (h:r.qZ=some kvs) (hk:d.vD=some k):LkP r d (bf kvs k)
 | t {r:Sl} {kvs:List (List Key×D)} {ds:List D} {k:List Key} (h:r.vE=some kvs) (hk:D.keys ds=some k):LkP r (.tup ds) (bf kvs k)
inductive PtP:Sl→D→D→Sl→Prop
 | k {r:Sl} {kvs:List (Key×D)} {d e:D} {k:Key} (h:r.qZ=some kvs) (hk:d.vD=some k) (hz:kvs.length<sizeLine):PtP r d e (r.pA (putD kvs k e))
 | t {r:Sl} {kvs:List (List Key×D)} {ds:List D} {e:D} {k:List Key} (h:r.vE=some kvs) (hk:D.keys ds=some k) (hz:kvs.length<sizeLine):PtP r (.tup ds) e (r.yM (putD kvs k e))
theorem PtP.owned' {d e:D} {r':Sl} (h:PtP r d e r'):r'.owned=true:=by cases h with | k h _ _=>exact jX h | t h _ _=>exact q8 h
theorem LkP.get {d:D} {o:Option D} {v:V} (h:LkP r d o) (q:aM K fr H Hf r (.ref p)) (rv:Rep K Hf d v) (sb:aG Hf H):∃ u,m9 K H p v u∧yO K Hf o u:=by
 cases h with
 | k h hk =>
  obtain ⟨xs,h1,_,h3⟩:=vF h q
  rw [gC hk rv]
  exact ⟨_,.inl ⟨xs,_,.inl h1,rfl,rfl⟩,h3.val _⟩
 | t h hk =>
  obtain ⟨xs,h1,_,h3⟩:=B7 h q
  obtain ⟨a,ys,rfl,h4,h5⟩:=aC.mp rv
  have:=iB hk h5
  subst this
  exact ⟨_,.inr ⟨xs,_,a,.inl h1,fun x hx=>ak sb (h3.yP x hx),rfl,ak sb h4,rfl⟩,h3.val _⟩
theorem KVR.length {κ:Type} {kvs:List (κ×D)} {xs:List (κ×V)} (h:KVR K Hf kvs xs):kvs.length=xs.length:=IZ h
theorem TVR.length {kvs:List (List Key×D)} {xs:List (List Key×Addr×V)} (h:TVR K Hf kvs xs):kvs.length=xs.length:=IZ h
theorem PtP.put {d e:D} {r':Sl} {v y:V} (h:PtP r d e r') (q:aM K fr H Hf r (.ref p)) (rv:Rep K Hf d v) (ry:Rep K Hf e y) (sb:aG Hf H) :
 ∃ o,BI K H p v y (upd H p o)∧aM K (fun q=>q=p) (upd H p o) Hf r' (.ref p):=by
 cases h with
 | k h hk hz =>
  obtain ⟨xs,h1,h2,h3⟩:=vF h q
  rw [gC hk rv]
  exact ⟨_,.inl ⟨xs,_,h1,rfl,by rw [← h3.length]; exact hz,rfl⟩,pB h q ah h2 (h3.put _ ry)⟩
 | t h hk hz =>
  obtain ⟨xs,h1,h2,h3⟩:=B7 h q
  obtain ⟨a,ys,rfl,h4,h5⟩:=aC.mp rv
  have:=iB hk h5
  subst this
  exact ⟨_,.inr ⟨xs,_,a,h1,fun x hx=>ak sb (h3.yP x hx),rfl,ak sb h4,by rw [← h3.length]; exact hz,rfl⟩,yN h q ah h2 (h3.put _ h4 ry)⟩
end
section
variable {P:Program} {w:World} {K:GW} {mg:Str→Option Value} {base:Heap} {k:Nat} {N:List Str} {sc:Scope} {bk:Bool} {c:Ctx P w K mg base k N sc bk} {ρ:List Sl} {pos ap cp px tp:Pos} {a b e f:Expr} {es:List Expr} {R:D→Prop} {T:Bool→Prop} {nx:List Sl→Prop} {p:Pt} {x:Str} {i:Nat} {r:Sl}
theorem Ctx.hu (c:Ctx P w K mg base k N sc bk):c.X.A.units+1<cLine:=hu_of c.room
theorem tR {R:Sl→Prop} (h:R (.oK [])):EvX c (.Dict [] [] pos) ρ R:=fun σ H Hf Q S q =>
 bu x6 fun p hp=>q (.oK []) (.ref p) _ Hf h ⟨p,[],rfl,hp,ah,S.sb.free hp,.nil⟩ (Grw.eG S.sb hp)
theorem B8 {R:Sl→Prop} (h:R (.oT [])):EvX c (.Dict [] [] pos) ρ R:=fun σ H Hf Q S q =>
 bu x8 fun p hp=>q (.oT []) (.ref p) _ Hf h ⟨p,[],rfl,hp,ah,S.sb.free hp,.nil⟩ (Grw.eG S.sb hp)
theorem Fl (hN:At N i x) (hi:At ρ i r) (h:EvE c e ρ fun dk=>EvE c f ρ fun df=>∃ o,LkP r dk o∧R (o.getD df)) (hd:(x == ("__debug__":Str))=false:=by decide) (hcd:(x == ("__classdict__":Str))=false:=by decide) (ho:r.DT=true:=by rfl)
 (m1:∀ env,attributeBase (.Name x px) "get" env (eval (.Name x px) env)=eval (.Name x px) env:=by intro _; walk_at "u")
 (m2:∀ env,((backTo cp (starEach [e,f] env)).all (fun x=> !x.1) && (backToKw cp (keywordEach [] env)).all (fun x=>x.1.isSome)
   && decide (([e,f]:List Expr).length+([]:List Keyword).length+(if ([]:List Keyword).isEmpty then 0 else 1)<30))=true:=by intro _; walk_at "u")
 (m3:(ap.endLine == cp.line)=true:=by walk_at "u") (m4:∀ env,backTo cp (starEach [e,f] env)=[(false,eval e env),(false,eval f env)]:=by intro _; walk_at "u") :
 EvE c (.Call (.Attribute (.Name x px) "get" ap) [e,f] [] cp) ρ R:=fun σ H Hf Q S q=>by
 obtain ⟨p,ep,rp⟩:=S.own hi.get (pq ho)
 have isd:IsD H p:=by
  cases r with
  | oK kvs=>obtain ⟨xs,h1,_⟩:=vF (r:=.oK kvs) rfl rp; exact .inl ⟨xs,.inl h1⟩
  | aK a kvs=>obtain ⟨xs,h1,_⟩:=vF (r:=.aK a kvs) rfl rp; exact .inl ⟨xs,.inl h1⟩
  | oT kvs=>obtain ⟨xs,h1,_⟩:=B7 (r:=.oT kvs) rfl rp; exact .inr ⟨xs,.inl h1⟩
  | aT a kvs=>obtain ⟨xs,h1,_⟩:=B7 (r:=.aT a kvs) rfl rp; exact .inr ⟨xs,.inl h1⟩
  | _=>cases ho
 refine bu (x9 c.hu (c.jU hN hd hcd) pbE pbE ⟨m1 _,m2 _,m3,m4 _⟩) ⟨_,ep,p,rfl,isd,h σ H Hf _ S fun dk v H1 Hf1 h1 rv g1=>h1 σ H1 Hf1 _ (S.grw g1) fun df y H2 Hf2 ⟨o,lk,hR⟩ ry g2=>?_⟩
 obtain ⟨u,dg,rel⟩:=lk.get (rp.grw (g1.trans g2)) (Rep.mono g2.f _ rv) g2.b
 refine ⟨u,dg,?_⟩
 cases o with
 | none=>cases u with
  | none=>exact q df y H2 Hf2 hR ry (g1.trans g2)
  | some _=>exact rel.elim
 | some d=>cases u with
  | none=>exact rel.elim
  | some v'=>exact q d v' H2 Hf2 hR rel (g1.trans g2)
theorem Fo (hN:At N i x) (hi:At ρ i r) (h:EvE c e ρ fun dv=>EvE c b ρ fun dk=>∃ r',PtP r dk dv r'∧Nx ρ i nx r') (ho:r.owned=true:=by rfl)
 (hs:∀ env,swapsWith e (some (.Subscript (.Name x px) b tp)) pos.line env=pure false:=by intro _; walk_at "u") (hd:(x == ("__debug__":Str))=false:=by decide) (hcd:(x == ("__classdict__":Str))=false:=by decide) :
 EvS c (.Assign [.Subscript (.Name x px) b tp] e pos) ρ nx p:=fun σ H Hf D S o=>by
 obtain ⟨p,ep,rp⟩:=S.own hi.get ho
 refine c7 (BL c.hu (c.jU hN hd hcd) pbE pbE (hs _)) (h σ H Hf _ S fun dv v H1 Hf1 h1 rv g1=>⟨_,ep,h1 σ H1 Hf1 _ (S.grw g1) fun dk y H2 Hf2 ⟨r',pt,ρ',hs',hn⟩ ry g2=>?_⟩)
 have g:=g1.trans g2
 obtain ⟨ob,dp,rp'⟩:=pt.put (rp.grw g) ry (Rep.mono g2.f _ rv) g.b
 refine ⟨p,_,rfl,dp,o.nx _ _ Hf2 ρ' ?_ hn⟩
 rw [hs'.eq]
 obtain ⟨_,_,e0,_,_,hf⟩:=(rp.grw g).pe ho
 cases e0
 exact (S.grw g).upd hi.get ho ep (fD g.b hf) rp' pt.owned'
theorem tS (hN:At N i x) (hi:At ρ i r) (h:EvE c b ρ fun dk=>∃ m:Int,LkP r dk (some (.int m))∧EvE c e ρ (I1 fun j=>∃ r',PtP r dk (.int (m+j)) r'∧Nx ρ i nx r')) (ho:r.owned=true:=by rfl)
 (ha:∀ ov iv new,augStore b ov iv new=(do holding [new,ov,iv] (setItem ov iv new); release [new,ov,iv] []; pure .next):=by intro _ _ _; walk_at "u") (hd:(x == ("__debug__":Str))=false:=by decide) (hcd:(x == ("__classdict__":Str))=false:=by decide) :
 EvS c (.AugAssign (.Subscript (.Name x px) b tp) .Add e pos) ρ nx p:=fun σ H Hf D S o=>by
 obtain ⟨p,ep,rp⟩:=S.own hi.get ho
 have hop:InOp c.X .Add (rI0 fun i j=>.int (i+j)):=Br
 refine c7 (BN c.hu (c.jU hN hd hcd) pbE pbE hop ha) ⟨_,ep,h σ H Hf _ S fun dk y H1 Hf1 ⟨m,lk,h1⟩ ry g1=>?_⟩
 obtain ⟨u,dg,rel⟩:=lk.get (rp.grw g1) ry g1.b
 cases u with
 | none=>exact rel.elim
 | some u =>
  have eu:u=V.int m:=(au (K:=c.X.K) (H:=Hf1)).mp rel
  subst eu
  refine ⟨p,_,rfl,dg,h1 σ H1 Hf1 _ (S.grw g1) fun dj y2 H2 Hf2 ⟨j,ej,r',pt,ρ',hs',hn⟩ ry2 g2=>?_⟩
  subst ej
  rw [au.mp ry2]
  have g:=g1.trans g2
  obtain ⟨ob,dp,rp'⟩:=pt.put (rp.grw g) (Rep.mono g2.f _ ry) (v:=y) (y:=.int (m+j)) (au.mpr rfl) g.b
  refine ⟨m,j,rfl,rfl,_,dp,o.nx _ _ Hf2 ρ' ?_ hn⟩
  rw [hs'.eq]
  obtain ⟨_,_,e0,_,_,hf⟩:=(rp.grw g).pe ho
  cases e0
  exact (S.grw g).upd hi.get ho ep (fD g.b hf) rp' pt.owned'
theorem DU (hN:At N i x) (hi:At ρ i r) (h:EvE c e ρ fun dk=>∃ o,LkP r dk o∧T o.isSome) (ho:r.owned=true:=by rfl) (hm:behindInMarks CmpOp.In (.Name x px)=false:=by walk_at "u")
 (hd:(x == ("__debug__":Str))=false:=by decide) (hcd:(x == ("__classdict__":Str))=false:=by decide):EvT c (.Compare e [.In] [.Name x px] pos) ρ T:=fun σ H Hf Q S q=>by
 obtain ⟨p,ep,rp⟩:=S.own hi.get ho
 refine tw (Er (EY c.hu pbE (c.jU hN hd hcd)) hm) (h σ H Hf _ S fun dk y H1 Hf1 ⟨o,lk,hT⟩ ry g=>⟨_,ep,?_⟩)
 obtain ⟨u,dg,rel⟩:=lk.get (rp.grw g) ry g.b
 refine ⟨p,u,rfl,dg,u.isSome,rfl,q _ H1 Hf1 ?_ g⟩
 rw [← rel.isSome]; exact hT
end
noncomputable abbrev noX:Value→Shared→Prop:=fun _ _=>False
section
variable {prog:Program} {w:World} {A:Around} {R:Result→Shared→Prop} {s:Shared}
theorem nv {elt target iter:Expr} {ifs:List Expr} {scope:Scope} {pos:Pos} {it acc:Value} {env:Env} (I:Nat→Shared→Prop)
 (turn:∀ n s,I n s→wpAny (model prog w) A (pyNext it) (fun r s₁=>match r with
   | none=>R (.ok .next) s₁
   | some v=>wpAny (model prog w) A (letOwnedTupleGo target it v) (fun _ s₁'=>wpAny (model prog w) A (assign target env v) (fun _ s₂ =>
    wpAny (model prog w) A (forIn ifs true fun c r=>if r=true then do let ok ← isTrue c env (eval c env); pure (Ic ok) else pure (Ic r)) (fun ok s₃ =>
     if ok=true then wpAny (model prog w) A (eval elt env) (fun x s₄ =>
      wpAny (model prog w) A (call (.builtin "list.append") [acc,x]) (fun _ s₅=>∃ m,m<n∧I m s₅) noX s₄) noX s₃
     else ∃ m,m<n∧I m s₃) noX s₂) noX s₁') noX s₁) noX s)
 (n:Nat) (h:I n s) :
 codeAny (model prog w) A (.compLoop (.ListComp elt [⟨target,iter,ifs,0⟩] scope pos) 0 it acc env) R s:=by
 refine codeAny_loop rfl I (fun n s hI=>?_) n h
 show wpAny _ A ((compTurn (.ListComp elt [⟨target,iter,ifs,0⟩] scope pos) 0 it acc env).onRaise (fun x=>do noteFrame x env; theTreesLotGoes x)) _ _ s
 refine wpAny_noted ?_
 rw [compTurn_list]
 refine GU (wpAny_standAt (GU (HU (turn n s hI) (fun r s₁ h₁=>?_) fun _ _ f=>f.elim)))
 cases r with
 | none=>exact GX h₁
 | some v =>
  refine GU (HU h₁ (fun _ s₁' h₁'=>?_) fun _ _ f=>f.elim)
  refine GU (HU h₁' (fun _ s₂ h₂=>GU (HU h₂ (fun ok s₃ h₃=>?_) fun _ _ f=>f.elim)) fun _ _ f=>f.elim)
  cases ok with
  | false=>exact GX ⟨rfl,h₃⟩
  | true =>
   exact GU (GU (HU h₃ (fun x s₄ h₄=>GU (HU h₄ (fun _ s₅ h₅=>GX (GX ⟨rfl,h₅⟩)) fun _ _ f=>f.elim)) fun _ _ f=>f.elim))
theorem i9 {env:Env} {Q:Bool→Shared→Prop} {E:Value→Shared→Prop}:∀ (ifs:List Expr),Q false s →
 wpAny (model prog w) A (forIn ifs false fun c r=>if r=true then do let ok ← isTrue c env (eval c env); pure (Ic ok) else pure (Ic r)) Q E s
 | [],h=>GX h
 | t::ts,h=>by
  simp only [JZ,Ib,if_false]
  exact GU (GX (i9 ts h))
theorem q9 {env:Env} {Q:Bool→Shared→Prop} {E:Value→Shared→Prop} {t:Expr} {ts:List Expr}
 (h:wpAny (model prog w) A (isTrue t env (eval t env)) (fun b s'=>if b=true then wpAny (model prog w) A (forIn ts true fun c r=>if r=true then do let ok ← isTrue c env (eval c env); pure (Ic ok) else pure (Ic r)) Q E s' else Q false s') E s) :
 wpAny (model prog w) A (forIn (t::ts) true fun c r=>if r=true then do let ok ← isTrue c env (eval c env); pure (Ic ok) else pure (Ic r)) Q E s:=by
 simp only [JZ,if_true]
 refine GU (GU (HU h (fun b s' hb=>GX ?_) fun _ _ x=>x))
 cases b with
 | true=>exact hb
 | false=>exact i9 ts hb
end
noncomputable def bq (scope sc:Scope):Scope:={ scope with names:=scope.names.map fun (n,k)=>if (k == .free && sc.kind == .function && sc.names.lookup n == some .cell) then (n,.cell) else (n,k) }
theorem pD {scope:Scope} {env:Env} {sc:Scope} (h:env.scope=sc):relabel scope env=bq scope sc:=by
 subst h; rfl
noncomputable def Sl.tag (a:Addr):Sl→Sl
 | .ow ds=>.aw a ds | .oT ds=>.aT a ds | .oK ds=>.aK a ds
 | .aw b ds=>.aw b ds | .aT b ds=>.aT b ds | .aK b ds=>.aK b ds | .fo s=>.fo s
 | .un=>.un | .va d=>.va d
inductive FrS (t:Str→Addr) (nm:List (Str×NameKind)) (N:List Str) (ρ:List Sl):List Str→List Sl→Prop
 | nil:FrS t nm N ρ [] []
 | un {y:Str} {M:List Str} {r:List Sl}:FrS t nm N ρ M r→FrS t nm N ρ (y::M) (.un::r)
 | fr {y:Str} {i:Nat} {s s':Sl} {M:List Str} {r:List Sl} (hN:At N i y) (hs:At ρ i s) (hy:(y,Jt)∈nm) (ht:s.tag (t y)=s'):FrS t nm N ρ M r→FrS t nm N ρ (y::M) (s'::r)
theorem FrS.len {t:Str→Addr} {nm:List (Str×NameKind)} {N M:List Str} {ρ r:List Sl} (h:FrS t nm N ρ M r):M.length=r.length:=by
 induction h with
 | nil=>rfl
 | un t ih=>simp [ih]
 | fr hN hs hy ht t ih=>simp [ih]
inductive WkS:List Sl→List Sl→Prop
 | nil:WkS [] []
 | un {r:Sl} {a b:List Sl}:WkS a b→WkS (.un::a) (r::b)
 | same {r:Sl} {a b:List Sl}:WkS a b→WkS (r::a) (r::b)
theorem WkS.weak {a b:List Sl} (h:WkS a b):a.length=b.length∧∀ (i:Nat) (r:Sl),a[i]?=some r→r≠.un→b[i]?=some r:=by
 induction h with
 | nil=>exact ⟨rfl,fun i r e=>by simp at e⟩
 | un t ih=>exact ⟨by simp [ih.1],fun i r e hu=>by cases i with | zero=>simp at e; exact absurd e.symm hu | succ i=>simpa using ih.2 i r (by simpa using e) hu⟩
 | same t ih=>exact ⟨by simp [ih.1],fun i r e hu=>by cases i with | zero=>simpa using e | succ i=>simpa using ih.2 i r (by simpa using e) hu⟩
section
variable {P:Program} {w:World} {K:GW} {mg:Str→Option Value} {base:Heap} {k:Nat} {N:List Str} {sc:Scope} {bk:Bool} {c:Ctx P w K mg base k N sc bk} {ρ:List Sl} {pos:Pos} {e:Expr} {R:D→Prop} {T:Bool→Prop}
noncomputable def EvC (c:Ctx P w K mg base k N sc bk):List Expr→List Sl→(Bool→Prop)→Prop
 | [],_,T=>T true
 | t::ts,ρ,T=>EvT c t ρ (If2 (EvC c ts ρ T) (T false))
theorem lU (hq:c.X.xe=noX) {pins:List (Addr×Obj)} {σ:L2.St} {Q:Bool→Hp→Prop}:∀ (ifs:List Expr) {H Hf:Hp} {s:Shared},aU c σ H Hf ρ→EvC c ifs ρ T→(∀ b H' Hf',T b→Grw H Hf H' Hf'→Q b H')→Inv c.X pins σ H s →
 wpAny (model c.X.prog c.X.w) c.X.A (forIn ifs true fun t r=>if r=true then do let ok ← isTrue t c.X.env (eval t c.X.env); pure (Ic ok) else pure (Ic r)) (TP c.X pins σ Q) noX s
 | [],H,Hf,s,S,h,q,I=>wpAny_tests_nil ⟨H,I,q true H Hf h (.refl S.sb)⟩
 | t::ts,H,Hf,s,S,h,q,I=>by
  have h0:=h σ H Hf (fun b H'=>∃ Hf',If2 (EvC c ts ρ T) (T false) b∧Grw H Hf H' Hf') S (fun b H' Hf' hb g=>⟨Hf',hb,g⟩) pins s I
  rw [hq] at h0
  refine q9 (thn h0 fun b s' ⟨H',I',Hf',hb,g⟩=>?_)
  cases b with
  | true=>exact lU hq ts (S.grw g) (hb.t rfl) (fun b H2 Hf2 hT g2=>q b H2 Hf2 hT (g.trans g2)) I'
  | false=>exact ⟨H',I',q false H' Hf' (hb.f rfl) g⟩
end
theorem jY {env:Env}:∀ (names:List (Str×NameKind)) (cs:List (Str×Addr)),(∀ x∈names,x.2=.free→∃ a,env.cells.lookup x.1=some a) →
 ∃ cl,(forIn names cs (fun (x:Str×NameKind) (r:List (Str×Addr))=>(if (x.2 == Jt)=true then do let a ← cellOf env x.1; pure (Ic ((x.1,a)::r)) else pure (Ic r):Sem (ForInStep (List (Str×Addr))))))=(pure cl:Sem (List (Str×Addr))) ∧
  (∀ y a,cl.lookup y=some a→cs.lookup y=some a∨env.cells.lookup y=some a∧(y,Jt)∈names)∧(∀ y a,(y,Jt)∈names∨(∃ b,cs.lookup y=some b∧env.cells.lookup y=some b)→env.cells.lookup y=some a→cl.lookup y=some a)
 | [],cs,_=>⟨cs,rfl,fun y a e=>.inl e,fun y a h e=>by
  rcases h with h | ⟨b,h1,h2⟩
  ·cases h
  ·rw [e] at h2; cases h2; exact h1⟩
 | (n,kd)::r,cs,h=>by
  by_cases hk:kd=.free
  ·subst hk
   obtain ⟨a,ea⟩:=h (n,.free) Hg rfl
   obtain ⟨cl,e1,e2,e3⟩:=jY r ((n,a)::cs) fun x hx=>h x (Hl _ hx)
   refine ⟨cl,?_,fun y b e=>?_,fun y b hy e=>?_⟩
   ·rw [JZ]
    simp only [beq_self_eq_true,if_true,cellOf,ea,pure_bind]
    exact e1
   ·rcases e2 y b e with z | ⟨z1,z2⟩
    ·rw [M0] at z
     cases q:(y == n) with
     | true =>
      rw [q] at z; cases z
      have:y=n:=by simpa using q
      subst this
      exact .inr ⟨ea,Hg⟩
     | false=>rw [q] at z; exact .inl z
    ·exact .inr ⟨z1,Hl _ z2⟩
   ·refine e3 y b ?_ e
    rcases hy with hy | ⟨b',h1,h2⟩
    ·rcases G5.mp hy with z | z
     ·cases z; exact .inr ⟨a,by simp,ea⟩
     ·exact .inl z
    ·refine .inr ⟨b',?_,h2⟩
     rw [M0]
     cases q:(y == n) with
     | true =>
      have:y=n:=by simpa using q
      subst this
      rw [ea] at h2; exact h2
     | false=>exact h1
  ·have hb:(kd == Jt)=false:=by simpa using hk
   obtain ⟨cl,e1,e2,e3⟩:=jY r cs fun x hx=>h x (Hl _ hx)
   refine ⟨cl,?_,fun y b e=>?_,fun y b hy e=>?_⟩
   ·rw [JZ]
    simp only [hb,Ib,if_false,pure_bind]
    exact e1
   ·rcases e2 y b e with z | ⟨z1,z2⟩
    ·exact .inl z
    ·exact .inr ⟨z1,Hl _ z2⟩
   ·refine e3 y b ?_ e
    rcases hy with hy | hy
    ·rcases G5.mp hy with z | z
     ·cases z; exact absurd rfl hk
     ·exact .inl z
    ·exact .inr hy
theorem B9 {scope:Scope} {env:Env} (h:∀ x∈scope.names,x.2=.free→∃ a,env.cells.lookup x.1=some a) :
 ∃ cl,closureFor scope env=pure cl∧(∀ y a,cl.lookup y=some a→env.cells.lookup y=some a∧(y,Jt)∈scope.names)∧(∀ y a,(y,Jt)∈scope.names→env.cells.lookup y=some a→cl.lookup y=some a):=by
 obtain ⟨cl,e1,e2,e3⟩:=jY scope.names [] h
 refine ⟨cl,?_,fun y a e=>?_,fun y a hy e=>e3 y a (.inl hy) e⟩
 ·unfold closureFor
  have e1':=congrArg (· >>= fun cs=>(pure cs:Sem _)) e1
  simp only [pure_bind] at e1'
  exact e1'
 ·rcases e2 y a e with z | z
  ·simp at z
  ·exact z
section
variable {P:Program} {w:World} {K:GW} {mg:Str→Option Value} {base:Heap} {k:Nat} {N:List Str} {sc:Scope} {bk:Bool} {c:Ctx P w K mg base k N sc bk} {ρ:List Sl} {pos:Pos}
noncomputable def tT (c:Ctx P w K mg base k N sc bk) (tg:Expr) (ifs:List Expr) (elt:Expr) (ρ0:List Sl) (d:D) (o:Option D):Prop :=
 EvG c tg d ρ0 fun ρ1=>WkS ρ0 ρ1∧EvC c ifs ρ1 (If2 (EvE c elt ρ1 fun e=>o=some e) (o=none))
theorem gD {nm:List (Str×NameKind)} {sc:Scope}:∀ {y:Str} {kd:NameKind},(nm.map fun (x:Str×NameKind)=>match x with | (n,k)=>(if (k == .free && sc.kind == .function && sc.names.lookup n == some .cell)=true then (n,NameKind.cell) else (n,k))).lookup y=some kd→∃ k0,(y,k0)∈nm∧(kd=k0∨kd=.cell∧k0=.free):=by
 induction nm with
 | nil=>intro y kd h; simp at h
 | cons x r ih =>
  obtain ⟨n,k0⟩:=x
  intro y kd h
  rw [G3,M0] at h
  by_cases e:(k0 == .free && sc.kind == .function && sc.names.lookup n == some .cell)=true
  ·simp only [e,if_true] at h
   cases q:(y == n) with
   | true =>
    rw [q] at h; cases h
    have:y=n:=by simpa using q
    subst this
    have hf:k0=.free:=by simp only [KQ,beq_iff_eq] at e; exact e.1.1
    exact ⟨k0,Hg,.inr ⟨rfl,hf⟩⟩
   | false=>rw [q] at h; obtain ⟨k1,h1,h2⟩:=ih h; exact ⟨k1,Hl _ h1,h2⟩
  ·simp only [e,Ib,if_false] at h
   cases q:(y == n) with
   | true =>
    rw [q] at h; cases h
    have:y=n:=by simpa using q
    subst this
    exact ⟨k0,Hg,.inl rfl⟩
   | false=>rw [q] at h; obtain ⟨k1,h1,h2⟩:=ih h; exact ⟨k1,Hl _ h1,h2⟩
theorem FrS.start {t:Str→Addr} {nm:List (Str×NameKind)} {N M:List Str} {ρ r:List Sl} {σ:L2.St} (h:FrS t nm N ρ M r) (hσ:∀ (i:Nat) (s:Sl),ρ[i]?=some s→s≠.un→∃ v,σ[i]?=some (some v)) :
 ∃ σ0:L2.St,σ0.length=r.length∧∀ (j:Nat) (s:Sl),r[j]?=some s→(s=.un∧σ0[j]?=some none)∨∃ (i:Nat) (y:Str) (v:V) (s0:Sl),M[j]?=some y∧(y,Jt)∈nm∧N[i]?=some y∧ρ[i]?=some s0∧s=s0.tag (t y)∧s0≠.un∧σ[i]?=some (some v)∧σ0[j]?=some (some v):=by
 induction h with
 | nil=>exact ⟨[],rfl,fun j s e=>by simp at e⟩
 | un t ih =>
  obtain ⟨σ0,hl,h0⟩:=ih
  refine ⟨none::σ0,by simp [hl],fun j s e=>?_⟩
  cases j with
  | zero=>simp at e; exact .inl ⟨e.symm,by simp⟩
  | succ j =>
   rcases h0 j s (by simpa using e) with ⟨h1,h2⟩ | ⟨i,y,v,s0,h1,h2,h3,h4,h5,h6,h7,h8⟩
   ·exact .inl ⟨h1,by simpa using h2⟩
   ·exact .inr ⟨i,y,v,s0,by simpa using h1,h2,h3,h4,h5,h6,h7,by simpa using h8⟩
 | @fr y i s' s'' M r hN hs hy ht t ih =>
  obtain ⟨σ0,hl,h0⟩:=ih
  by_cases hu:s'=.un
  ·refine ⟨none::σ0,by simp [hl],fun j s e=>?_⟩
   cases j with
   | zero=>simp at e; subst hu; exact .inl ⟨e.symm.trans ht.symm,by simp⟩
   | succ j =>
    rcases h0 j s (by simpa using e) with ⟨h1,h2⟩ | ⟨i,y,v,s0,h1,h2,h3,h4,h5,h6,h7,h8⟩
    ·exact .inl ⟨h1,by simpa using h2⟩
    ·exact .inr ⟨i,y,v,s0,by simpa using h1,h2,h3,h4,h5,h6,h7,by simpa using h8⟩
  ·obtain ⟨v,ev⟩:=hσ i s' hs.get hu
   refine ⟨some v::σ0,by simp [hl],fun j s e=>?_⟩
   cases j with
   | zero=>simp at e; subst e; exact .inr ⟨i,y,v,s',by simp,hy,hN.get,hs.get,ht.symm,hu,ev,by simp⟩
   | succ j =>
    rcases h0 j s (by simpa using e) with ⟨h1,h2⟩ | ⟨i,y,v,s0,h1,h2,h3,h4,h5,h6,h7,h8⟩
    ·exact .inl ⟨h1,by simpa using h2⟩
    ·exact .inr ⟨i,y,v,s0,by simpa using h1,h2,h3,h4,h5,h6,h7,by simpa using h8⟩
noncomputable def Sl.adr:Sl→Option Addr | .aw a _=>some a | .aT a _=>some a | .aK a _=>some a | _=>none
theorem lV {s:Sl} {a:Addr}:(s.tag a).owned=s.owned:=by cases s <;> rfl
theorem Ca {s:Sl} {a:Addr} (h:s.owned=true):∃ b,(s.tag a).adr=some b:=by cases s <;> first | exact ⟨_,rfl⟩ | cases h
theorem tU {K:GW} {fr:Addr→Prop} {H Hf:Hp} {s:Sl} {v:V} {a:Addr} (hv:s.owned=true→v=.ref a) (h:aM K fr H Hf s v):aM K fr H Hf (s.tag a) v:=by
 cases s with
 | ow ds=>obtain ⟨p,xs,e,f,r⟩:=h; exact ⟨p,xs,e,⟨f,by have:=hv rfl; rw [e] at this; cases this; rfl⟩,r⟩
 | oT ds=>obtain ⟨p,xs,e,f,r⟩:=h; exact ⟨p,xs,e,⟨f,by have:=hv rfl; rw [e] at this; cases this; rfl⟩,r⟩
 | oK ds=>obtain ⟨p,xs,e,f,r⟩:=h; exact ⟨p,xs,e,⟨f,by have:=hv rfl; rw [e] at this; cases this; rfl⟩,r⟩
 | _=>exact h
theorem tV {K:GW} {fr:Addr→Prop} {H Hf:Hp} {s:Sl} {p b:Addr} (hb:s.adr=some b) (h:aM K fr H Hf s (.ref p)):p=b:=by
 cases s with
 | aw a ds=>cases hb; obtain ⟨q,xs,e,f,r⟩:=h; cases e; exact f.2
 | aT a ds=>cases hb; obtain ⟨q,xs,e,f,r⟩:=h; cases e; exact f.2
 | aK a ds=>cases hb; obtain ⟨q,xs,e,f,r⟩:=h; cases e; exact f.2
 | _=>cases hb
theorem StR.apart {K:GW} {H₀ Hf₀ H Hf:Hp} {σ:L2.St} {ρ:List Sl} {a:Addr} {o:HO} (S:StR K H₀ Hf₀ σ H Hf ρ) (h0:H₀ a=none) (hf:Hf a=none) (nf:¬ yb H a) (ha:∀ (i:Nat) (r:Sl),ρ[i]?=some r→r.owned=true→σ[i]?≠some (some (.ref a))):StR K H₀ Hf₀ σ (L2.upd H a o) Hf ρ :=
 ⟨⟨fun b u e=>by rw [L2.ai (az e h0)]; exact S.bas.s b u e,S.bas.f,fun b u e=>by rw [L2.ai (az e hf)]; exact S.bas.b b u e,S.bas.n⟩,S.len,fun i r hi hu=>by
   obtain ⟨v,e,q⟩:=S.at_ i r hi hu
   refine ⟨v,e,?_⟩
   have hg:Grw (del H a) Hf (L2.upd H a o) Hf:=fD S.bas.b hf
   exact (q.del' (p:=a) nf fun ow z=>by subst z; exact ha i r hi ow e).grw hg,S.sep⟩
theorem ny {H1 Hf1 H' Hf':Hp} {a:Addr} {o:HO} (g:Grw H1 Hf1 H' Hf') (h1:H1 a=none) (hf:Hf' a=none):Grw H1 Hf1 (upd H' a o) Hf' :=
 ⟨fun b u e=>by rw [ai (az e h1)]; exact g.s b u e,g.f,fun b u e=>by rw [ai (az e hf)]; exact g.b b u e,g.n⟩
theorem tW {elt tg iter:Expr} {ifs:List Expr} {scope:Scope} {N':List Str} {ρ0:(Str→Addr)→List Sl} {R:Sl→Prop} (hq:c.X.xe=noX) (hfr:∀ t,FrS t scope.names N ρ N' (ρ0 t))
 (h:EvI c tg iter ρ fun ds=>Sd (ds.length≤sizeLine) (∃ os:List (Option D),os.length=ds.length ∧
   (∀ c':Ctx P w K mg base k N' (bq scope sc) true,c'.X.xe=noX→∀ (t:Str→Addr) (i:Nat) (d:D) (o:Option D),ds[i]?=some d→os[i]?=some o→tT c' tg ifs elt (ρ0 t) d o)∧R (.ow (os.filterMap id))))
 (hk:scope.kind=.function:=by walk_at "u") (hnc:∀ x∈scope.names,x.2≠.cell:=by decide +kernel) (hnl:∀ x∈scope.names,x.2=.local→scope.names.lookup x.1=some .local:=by decide +kernel)
 (hfree:∀ x∈scope.names,x.2=.free→sc.names.lookup x.1=some .cell:=by decide +kernel) (hnd:N'.Nodup:=by decide +kernel) (hv:∀ x∈N',Loc (bq scope sc) x:=by unfold L2.Loc; decide +kernel)
 (hvf:∀ x∈scope.names,x.2=.free→(bq scope sc).names.lookup x.1=some .cell:=by decide +kernel)
 (hs:∀ env v,foldedSetIterable iter env v=pure v:=by intro _ _; walk_at "u")
 {σ:L2.St} {H Hf:Hp} (S:aU c σ H Hf ρ) {pins:List (Addr×Obj)} {s:Shared} (I:Inv c.X pins σ H s) {use:Option (Value→Sem Unit)} {QQ:Value→Shared→Prop}
 (kont:∀ (s':Shared) (H' Hf':Hp) (a C:Addr) (r:Sl),R r→(∃ m,s'.heap.Ns C m)→C∉c.X.fs→dm c.X pins H' C→aM c.X.K (fun p=>H p=none) H' Hf' r (.ref a)→Grw H Hf H' Hf'→(∀ h5,Jj C s'.heap h5→Inv c.X pins σ H' { s' with heap:=h5 })→compPost (model c.X.prog c.X.w) c.X.A noX use QQ (.ref a) C (.ok .next) s') :
 wpAny (model c.X.prog c.X.w) c.X.A (comprehension (.ListComp elt [⟨tg,iter,ifs,0⟩] scope pos) scope c.X.env (firstIterPos [⟨tg,iter,ifs,0⟩] pos) (newList []) (firstAsync [⟨tg,iter,ifs,0⟩]) (firstIter [⟨tg,iter,ifs,0⟩] c.X.env) use) QQ noX s:=by
 have hI:=h σ H Hf (fun J H1=>∃ ds Hf1,Sd (ds.length≤sizeLine) (∃ os:List (Option D),os.length=ds.length ∧
  (∀ c':Ctx P w K mg base k N' (bq scope sc) true,c'.X.xe=noX→∀ (t:Str→Addr) (i:Nat) (d:D) (o:Option D),ds[i]?=some d→os[i]?=some o→tT c' tg ifs elt (ρ0 t) d o)∧R (.ow (os.filterMap id)))∧Grw H Hf H1 Hf1∧gy c.X.K J ds Hf1) S (fun ds J H' Hf' hR g io=>⟨ds,Hf',hR,g,io⟩) pins s I
 rw [hq] at hI
 have hcells:∀ x∈scope.names,x.2=.free→∃ a,c.X.env.cells.lookup x.1=some a:=fun x hx hf=>I.ok.has x.1 (.inl (by unfold HH; rw [c.esc]; exact hfree x hx hf))
 obtain ⟨cl,hclos,hcl1,hcl2⟩:=B9 hcells
 refine wpAny_comprehension_free (cl:=cl) (use:=use) rfl (hs _) hclos hk hnl ?_
 refine thn (show wpAny _ _ (eval iter c.X.env) _ _ _ from hI) fun v s1 h1=>thn h1 fun itv s2 ⟨it,fp,tn,J,H1,e0,I1,Tn,t0,hfp,ds,Hf1,⟨hz,os,hol,hb,hR⟩,g,io⟩=>?_
 subst e0
 have hcell':∀ y∈scope.names,y.2≠.cell:=hnc
 refine Iw (wpAny_newFunctionEnv hcell' (by intro y hy; simp at hy) (fun h4 hns hsb=>?_) hk)
 dsimp only at hns hsb ⊢
 generalize hDe:s2.heap.objs.size=Da at *
 have k3:∀ b u,s2.heap.get? b=some u→(s2.heap.push { cls:=.type "list",dict:=none,data:=.seq ([]:List Value).toArray }).get? b=some u:=fun b u e=>G1 _ e
 generalize hH3:s2.heap.push { cls:=.type "list",dict:=none,data:=.seq ([]:List Value).toArray }=h3 at *
 have hCe:h3.objs.size=Da+1:=by rw [← hH3,IY,hDe]
 have hgD:h3.get? Da=some { cls:=.type "list",dict:=none,data:=.seq ([]:List Value).toArray }:=by rw [← hH3,← hDe]; exact G7 _ rfl
 have hH1D:H1 Da=none:=by rw [← hDe]; exact I1.hok.fresh (GZ _)
 have I3:Inv c.X pins σ (upd H1 Da (.lst [])) { s2 with heap:=h3,toks:=s2.toks }:=I1.laid (a:=Da) (o:=.lst []) (t':=s2.toks) k3 (by rw [hDe]; exact GZ _) ⟨HF _,[],0,.nil,hgD⟩
 have fpne:∀ b∈fp,b≠Da:=fun b hb z=>by
  obtain ⟨o,e,_⟩:=Tn.obj _ _ t0 b hb
  subst z
  exact absurd (G2 e) (by rw [hDe]; exact IS _)
 have fplt:∀ b∈fp,b<h3.objs.size:=fun b hb=>by
  obtain ⟨o,e,_⟩:=Tn.obj _ _ t0 b hb
  exact G2 (k3 b o e)
 let s3:Shared:={ s2 with heap:=h3,toks:=s2.toks }
 let H2:Hp:=upd H1 Da (.lst [])
 let X':Cx:={ prog:=c.X.prog,w:=c.X.w,K:=c.X.K,mg:=c.X.mg,base:=c.X.base,A:=c.X.A,N:=N',s₀:=s3,H₀:=H2,env:=compEnvC scope cl h3.objs.size c.X.env,outer:=c.X.stack,stack:=c.X.stack,ex:=fp,fn:=fun _=>false,calm:=true,pn:=[],xe:=noX }
 have S1:=S.grw g
 have S2:aU c σ H2 Hf1 ρ:=S1.grw (Grw.eG g.b hH1D)
 obtain ⟨t,ht⟩:∃ t:Str→Addr,∀ (i:Nat) (y:Str) (p:Addr),N[i]?=some y→σ[i]?=some (some (.ref p))→t y=p:=by
  classical
  refine ⟨fun y=>if h:∃ (i:Nat) (p:Addr),N[i]?=some y∧σ[i]?=some (some (.ref p)) then h.choose_spec.choose else 0,fun i y p e1 e2=>?_⟩
  have h:∃ (i:Nat) (p:Addr),N[i]?=some y∧σ[i]?=some (some (.ref p)):=⟨i,p,e1,e2⟩
  show (if h:_ then _ else _)=p
  rw [dif_pos h]
  obtain ⟨e3,e4⟩:=h.choose_spec.choose_spec
  have hi:h.choose<N.length:=(G8.mp e3).1
  have e5:h.choose=i:=(List.getElem?_inj hi c.nd).mp (e3.trans e1.symm)
  have e6:=(congrArg (fun z=>σ[z]?) e5).symm.trans e4
  rw [show σ[i]?=some (some (.ref p)) from e2] at e6
  have e4:=e6
  exact (V.ref.inj (IW (IW e4))).symm
 have hfr:=hfr t
 generalize hρ:ρ0 t=ρt at hfr
 obtain ⟨σ0,hσl,hσ0⟩:=hfr.start (σ:=σ) fun i s e hu=>let ⟨v,e2,_⟩:=S2.at_ i s e hu; ⟨v,e2⟩
 have k4:∀ b u,h3.get? b=some u→h4.get? b=some u:=fun b u e=>hsb.extBut b u (Hs (G2 e)) (G1 _ e)
 have hsc:X'.env.scope=bq scope sc:=pD c.esc
 have okX:X'.Ok:={
  mod:=I3.ok.mod
  kind:=hk
  glob:=I3.ok.glob
  blt:=I3.ok.blt
  above:=GZ _
  inj:=fun x y a e1 e2=>I3.ok.inj x y a (hcl1 x a e1).1 (hcl1 y a e2).1
  has:=fun x hx=>by
   have key:(x,Jt)∈scope.names:=by
    have hx':(bq scope sc).names.lookup x=some .cell∨(bq scope sc).names.lookup x=some .free:=by
     unfold HH at hx; rw [hsc] at hx; exact hx
    rcases hx' with hx' | hx'
    ·obtain ⟨k0,h1,h2⟩:=gD hx'
     rcases h2 with h2 | ⟨_,h2⟩
     ·subst h2; exact absurd rfl (hnc _ h1)
     ·subst h2; exact h1
    ·obtain ⟨k0,h1,h2⟩:=gD hx'
     rcases h2 with h2 | ⟨h2,_⟩
     ·subst h2; exact h1
     ·cases h2
   obtain ⟨a,ea⟩:=hcells _ key rfl
   exact ⟨a,hcl2 x a key ea⟩
  cab:=fun x a hf=>by cases hf
  hd:=fun _=>I3.ok.hd c.calm
  frames:=I3.ok.frames
  stk:=.inl rfl
  exf:=fun b hb=>⟨Hs (fplt b hb),fun x a ea=>(hfp b hb).2.2.2.2.1 x a (hcl1 x a ea).1⟩
  bs:=I3.bs
  bsz:=Hi I3.ok.bsz I3.sz
  noex:=fun b o e hb=>by
   rcases (hfp b hb).2.2.2.1 with z | z
   ·exact I3.ok.noex b o e z
   ·exact absurd (Ii (G2 e) (Hi I3.ok.bsz z)) (IS _)
  exfs:=fun b hb m=>by
   rcases G5.mp (I3.qL b m) with z | z
   ·exact (hfp b hb).2.1 z
   ·exact (hfp b hb).2.2.1 z
  iy:=I3.stack
  frf:=I3.sP }
 have I4:Inv X' [] σ0 H2 { s2 with heap:=h4,toks:=s2.toks+([]:List (Str×Value)).length }:={
  ok:=okX
  os:=rfl
  bare:=I3.bare
  base:=Un.kept k4
  loc:=⟨_,hns,fun j y v hy hv' _=>by
   have hj:j<ρt.length:=by
    have:=(G8.mp hv').1
    rw [hσl] at this; exact this
   rcases hσ0 j ρt[j] (HD hj) with ⟨_,z⟩ | ⟨i,y',v',s0,h1,h2,h3',h4',hs5,hs6,h5,h6⟩
   ·rw [z] at hv'; cases hv'
   ·rw [h6] at hv'; cases hv'
    have hy':N'[j]?=some y:=hy
    rw [h1] at hy'; cases hy'
    obtain ⟨m0,hm0,hl⟩:=I3.loc
    have hkc:c.X.env.kindOf y=some .cell:=by unfold HH; rw [c.esc]; exact hfree _ h2 rfl
    obtain ⟨u,r,lk⟩:=hl i y v (by rw [c.eN]; exact h3') h5 (.inr (.inl hkc))
    refine ⟨u,r,?_⟩
    rcases lk with ⟨q1,_⟩ | ⟨_,a,e1,e2⟩
    ·rw [hkc] at q1; cases q1
    ·refine .inr ⟨.inl ?_,a,hcl2 _ a h2 e1,?_⟩
     ·show List.lookup y X'.env.scope.names=_
      rw [hsc]; exact hvf _ h2 rfl
     ·obtain ⟨oc,e3,e4⟩:=e2
      exact ⟨oc,k4 _ _ e3,e4⟩⟩
  cell:=fun x a ea=>by
   obtain ⟨v',oc,e3,e4⟩:=I3.cell x a (hcl1 x a ea).1
   exact ⟨v',oc,k4 _ _ e3,e4⟩
  free:=I3.hok.fresh (GZ _)
  freeC:=fun x a ea=>I3.freeC x a (hcl1 x a ea).1
  pin:=fun q hq'=>by simp at hq'; cases hq'
  hok:=I3.hok.kept k4
  len:=by rw [hσl]; exact hfr.len.symm }
 let c':Ctx P w K mg base k N' (bq scope sc) true :=
  { X:=X',eP:=c.eP,ew:=c.ew,eK:=c.eK,emg:=c.emg,eb:=c.eb,eN:=rfl,esc:=hsc,calm:=rfl,top:=fun z=>(by cases z),cb:=fun z=>(by cases z),fn:=fun x hx=>.inr (by rw [hsc]; exact hx.resolve_left (fun z=>by cases z)),room:=c.room,nd:=hnd,vis:=hv,
    Hf:=c.Hf,B:=c.B,RX:=fun _ _=>False,exc:=fun _ _ _ _ _ _ _ _ _ _ _ _ h _ _=>h.elim,RM:=fun _ _=>False,mde:=fun _ _ _ _ _ _ _ _ _ _ _ _ h _=>h.elim }
 have hN0:N'.length=ρt.length:=hfr.len
 have S4:aU c' σ0 H2 Hf1 ρt:=by
  refine ⟨S2.bas,hσl,fun j r hj hu=>?_,fun j j' r r' p hne e1 e2 o1 o2 f1 f2=>?_⟩
  ·rcases hσ0 j r hj with ⟨z,_⟩ | ⟨i,y,v,s0,h1,h2,h3',h4',hs5,hs6,h5,h6⟩
   ·exact absurd z hu
   ·obtain ⟨v',e3,q3⟩:=S2.at_ i s0 h4' hs6
    rw [h5] at e3; cases e3
    subst hs5
    exact ⟨v,h6,tU (fun ow=>by
     obtain ⟨p,_,rfl,_⟩:=q3.pe ow
     rw [ht i y p h3' h5]) q3⟩
  ·have u1:r≠.un:=by rintro rfl; cases o1
   have u2:r'≠.un:=by rintro rfl; cases o2
   rcases hσ0 j r e1 with ⟨z,_⟩ | ⟨i,y,v,s0,h1,h2,h3',h4',hs5,hs6,h5,h6⟩
   ·exact u1 z
   rcases hσ0 j' r' e2 with ⟨z,_⟩ | ⟨i',y',v',s0',h1',h2',h3'',h4'',hs5',hs6',h5',h6'⟩
   ·exact u2 z
   rw [f1] at h6; cases h6
   rw [f2] at h6'; cases h6'
   have hii:i≠i':=fun z=>by
    subst z
    rw [h3'] at h3''; cases h3''
    have a1:j<N'.length:=(G8.mp h1).1
    exact hne ((List.getElem?_inj a1 hnd).mp (h1.trans h1'.symm))
   subst hs5; subst hs5'
   rw [lV] at o1 o2
   exact S2.sep i i' s0 s0' p hii h4' h4'' o1 o2 h5 h5'
 have howA:∀ (j:Nat) (r:Sl),ρt[j]?=some r→r.owned=true→∃ b,r.adr=some b∧b≠Da:=fun j r hj ho=>by
  rcases hσ0 j r hj with ⟨z,_⟩ | ⟨i,y,v,s0,h1,h2,h3',h4',hs5,hs6,h5,h6⟩
  ·subst z; cases ho
  ·subst hs5
   rw [lV] at ho
   obtain ⟨b,eb⟩:=Ca (a:=t y) ho
   refine ⟨b,eb,fun z=>?_⟩
   obtain ⟨v',e3,q3⟩:=S1.at_ i s0 h4' hs6
   obtain ⟨p,o,e4,_,e5,_⟩:=q3.pe ho
   subst e4
   have q4:=tU (a:=t y) (fun _=>by rw [ht i y p h3' e3]) q3
   have:=tV eb q4
   rw [this,z,hH1D] at e5; cases e5
 have hB0:c.B Da=none:=S1.bas.s.free hH1D
 have fps:∀ {H':Hp},(∀ b∈fp,H' b=none)→∀ b∈fp,dm X' [] H' b:=fun hn b hb =>
  ⟨hn b hb,Hs (fplt b hb),okX.exfs b hb,.inl hb,fun x a ea=>(hfp b hb).2.2.2.2.1 x a (hcl1 x a ea).1,fun p hp=>by cases hp⟩
 have fin:∀ (s':Shared) (σ':L2.St) (H' Hf':Hp) (vs:List V),Inv X' [] σ' H' s'→Grw H1 Hf1 H' Hf'→H' Da=some (.lst vs)→Hf' Da=none→aj c.X.K Hf' (os.filterMap id) vs →
  compPost (model c.X.prog c.X.w) c.X.A noX use QQ (.ref Da) h3.objs.size (.ok .next) s':=fun s' σ' H' Hf' vs I' g' hD hfD hr=>by
  obtain ⟨m,hm,_⟩:=I'.loc
  have hCX:h3.objs.size∉c.X.fs:=I3.nofs (GZ _)
  have hCf:dm c.X pins H' h3.objs.size:=by
   refine ⟨I'.free,fun z=>?_,hCX,.inr I3.sz,fun x a ea z=>?_,fun p hp z=>?_⟩
   ·obtain ⟨m0,hm0,_⟩:=I3.loc
    obtain ⟨o,_,_,e,_⟩:=hm0
    exact absurd (G2 e) (by rw [← z]; exact IS _)
   ·obtain ⟨v',oc,e,_⟩:=I3.cell x a ea
    exact absurd (G2 e) (by rw [z]; exact IS _)
   ·exact absurd (G2 (I3.pin p hp).1) (by rw [z]; exact IS _)
  refine kont s' H' Hf' Da h3.objs.size (.ow (os.filterMap id)) hR ⟨m,hm⟩ hCX hCf ⟨Da,vs,rfl,g.s.free hH1D,hD,hfD,hr⟩ (g.trans g') fun h5 hsb5=>?_
  have ub:Un (frs c.X.stack) fp H2 H' s3.heap h5:=by
   have u:=I'.base
   have ne:∀ b o,s3.heap.get? b=some o→b≠h3.objs.size:=fun b o e=>Hs (G2 e)
   refine ⟨fun b o e n hf hx=>(hsb5.2 b (ne b o e)).trans (u.keep b o e n hf hx),fun b o e n hf hx=>?_,u.free,fun b o e hx=>?_,u.tups,u.frzs,u.tbls⟩
   ·obtain ⟨sl,e2⟩:=u.slot b o e n hf hx
    exact ⟨sl,(hsb5.2 b (ne b o e)).trans e2⟩
   ·obtain ⟨o',e2⟩:=u.there b o e hx
    exact ⟨o',(hsb5.2 b (ne b o e)).trans e2⟩
  have hokf:HOk c.X.prog c.X.w H' h5:=fun b u e=>(I'.hok b u e).stay (fun a o ha e2=>by
   refine (hsb5.2 a ?_).trans e2
   intro z; subst z
   have hfree':H' h3.objs.size=none:=I'.free
   rcases ha with z | z
   ·subst z; rw [hfree'] at e; cases e
   ·rw [hfree'] at z; cases z) (fun _ z=>z) fun _ _ z=>z
  exact I3.DM (ch:=fp) I'.os ub hokf I'.bare fun b hb=>⟨(hfp b hb).2.2.2.1,(hfp b hb).2.1,(hfp b hb).2.2.2.2.1,(hfp b hb).2.2.2.2.2⟩
 have loop:codeAny (model c.X.prog c.X.w) c.X.A (.compLoop (.ListComp elt [⟨tg,iter,ifs,0⟩] scope pos) 0 (.ref it) (.ref Da) X'.env) (compPost (model c.X.prog c.X.w) c.X.A noX use QQ (.ref Da) h3.objs.size) { s2 with heap:=h4,toks:=s2.toks+([]:List (Str×Value)).length }:=by
  refine nv (fun n s'=>∃ (i:Nat) (σ':L2.St) (H' Hf':Hp) (vs:List V),n=ds.length - i∧i≤ds.length∧Inv X' [] σ' H' s'∧tn i s'.heap∧aU c' σ' H' Hf' ρt∧Grw H1 Hf1 H' Hf'∧H' Da=some (.lst vs)∧Hf' Da=none∧aj c.X.K Hf' ((os.take i).filterMap id) vs∧vs.length≤i∧∀ b∈fp,H' b=none) ?_ ds.length
   ⟨0,σ0,H2,Hf1,[],by simp,HF _,I4,Tn.keep _ _ _ t0 fun b hb o e=>k4 b o (k3 b o e),S4,Grw.eG g.b hH1D,ah,g.b.free hH1D,by simpa using aq.mpr rfl,GZ _,fun b hb=>by show upd H1 Da _ b=none; rw [ai (fpne b hb)]; exact (hfp b hb).1⟩
  rintro n s5 ⟨i,σ5,H5,Hf5,vs,rfl,hi,I5,t5,S5,g5,hD5,hfD5,hr5,hlv,fr5⟩
  by_cases hlt:i<ds.length
  ·have ed:ds[i]?=some ds[i]:=HD hlt
   have eo:os[i]?=some (os[i]'(by rw [hol]; exact hlt)):=HD _
   generalize ds[i]=d at ed
   generalize os[i]'(by rw [hol]; exact hlt)=o at eo
   obtain ⟨hgo,hy⟩:=io.go i d H5 Hf5 g5.f g5.b ed
   refine thn (Tn.item X' rfl rfl rfl rfl i [] s5 σ5 H5 noX I5 (fps fr5) t5 hgo) fun r s6 ⟨u,hr,h6⟩=>?_
   subst hr
   refine thn h6 fun _ s7 ⟨x,H7,I7,rx,y7,t7,fr7⟩=>?_
   obtain ⟨Hf7,g7,rx7⟩:=hy x H7 y7
   have I7':=I7.pinned (fps fr7) (Tn.obj _ _ t7)
   have S7:aU c' σ5 H7 Hf7 ρt:=S5.grw g7
   have hasg0:=hb c' rfl t i d o ed eo
   rw [hρ] at hasg0
   have hasg:=hasg0 σ5 H7 Hf7 x (fun σ2 H2'=>∃ Hf2 ρ1,aU c' σ2 H2' Hf2 ρ1∧Grw H7 Hf7 H2' Hf2∧WkS ρt ρ1∧EvC c' ifs ρ1 (If2 (EvE c' elt ρ1 fun e=>o=some e) (o=none))) S7 rx7 (fun σ2 H2' Hf2 ρ1 S' g' hw=>⟨Hf2,ρ1,S',g',hw⟩) _ s7 u I7' rx
   refine thn (show wpAny _ _ _ _ noX _ from hasg) fun _ s8 ⟨σ8,H8,I8,Hf8,ρ8,S8,g8,w8,hC8⟩=>?_
   refine thn (lU (c:=c') rfl ifs S8 hC8 (Q:=fun b H'=>∃ Hf',If2 (EvE c' elt ρ8 fun e=>o=some e) (o=none) b∧Grw H8 Hf8 H' Hf') (fun b H' Hf' hb' g'=>⟨Hf',hb',g'⟩) I8) fun b s9 ⟨H9,I9,Hf9,hb9,g9⟩=>?_
   have g79:=(g7.trans g8).trans g9
   have hD9:H9 Da=some (.lst vs):=g79.s _ _ hD5
   have hfD9:Hf9 Da=none:=g79.n Da hfD5 (by rw [hD5]; simp) (by intro ys; rw [hD5]; simp)
   have keepT:∀ {σ':L2.St} {H':Hp} {s':Shared},Inv X' ([]++iz fp s7.heap) σ' H' s'→tn (i+1) s'.heap∧∀ b∈fp,H' b=none:=fun {σ' H' s'} I' =>
    ⟨Tn.keep _ _ _ t7 fun b hb' ob e=>(I'.pin (b,ob) (Il _ (Il _ (cQ hb' e)))).1,fun b hb'=>by
      obtain ⟨ob,e,_⟩:=Tn.obj _ _ t7 b hb'
      exact (I'.pin (b,ob) (Il _ (Il _ (cQ hb' e)))).2.1⟩
   have wk:∀ {σ':L2.St} {H' Hf':Hp},aU c' σ' H' Hf' ρ8→aU c' σ' H' Hf' ρt:=fun S'=>StR.weak S' w8.weak.1 w8.weak.2
   have tk:(os.take (i+1)).filterMap id=(os.take i).filterMap id++o.toList:=by
    rw [MR,eo,List.filterMap_append]
    cases o <;> rfl
   cases b with
   | false =>
    have eo':=hb9.f rfl
    subst eo'
    rw [if_neg G6]
    obtain ⟨t9,fr9⟩:=keepT I9
    exact ⟨_,by omega,i+1,σ8,H9,Hf9,vs,rfl,hlt,I9.dF,t9,wk (S8.grw g9),g5.trans g79,hD9,hfD9,by rw [tk]; simpa using hr5.mono g79.f,Nat.le_succ_of_le hlv,fr9⟩
   | true =>
    rw [if_pos rfl]
    have hev:=hb9.t rfl σ8 H9 Hf9 (fun v H'=>∃ Hf' e,o=some e∧Rep c.X.K Hf' e v∧Grw H9 Hf9 H' Hf') (S8.grw g9) (fun e v H' Hf' he r g'=>⟨Hf',e,he,r,g'⟩) _ s9 I9
    refine thn (show wpAny _ _ _ _ noX _ from hev) fun u2 s10 ⟨v2,H10,I10,r10,Hf10,e,eo',re,g10⟩=>?_
    subst eo'
    have hD10:H10 Da=some (.lst vs):=g10.s _ _ hD9
    have hfD10:Hf10 Da=none:=g10.n Da hfD9 (by rw [hD9]; simp) (by intro ys; rw [hD9]; simp)
    have app:=lI (X:=X') _ s10 σ8 H10 (.ref Da) [v2] (.ref Da) [u2] (fun _ H'=>H'=upd H10 Da (.lst (vs++[v2]))) I10 rfl (.cons r10 .nil) ⟨Da,vs,v2,rfl,rfl,hD10,Ii (Jz hlv hlt) hz,rfl⟩
    refine thn (show wpAny _ _ _ _ noX _ from app) fun _ s11 ⟨_,H11,I11,_,e11⟩=>?_
    subst e11
    obtain ⟨t11,fr11⟩:=keepT I11
    have S10:aU c' σ8 H10 Hf10 ρ8:=(S8.grw g9).grw g10
    have gA:Grw H1 Hf1 (upd H10 Da (.lst (vs++[v2]))) Hf10:=ny ((g5.trans g79).trans g10) hH1D hfD10
    refine ⟨_,by omega,i+1,σ8,_,Hf10,vs++[v2],rfl,hlt,I11.dF,t11,?_,gA,ah,hfD10,?_,by simp; omega,fr11⟩
    ·refine (wk S10).apart hB0 hfD10 (fun ⟨_,z⟩=>by rw [hD10] at z; cases z) fun j r hj ho=>fun z=>?_
     obtain ⟨b,eb,nb⟩:=howA j r hj ho
     obtain ⟨v',e3,q3⟩:=(wk S10).at_ j r hj (by rintro rfl; cases ho)
     rw [z] at e3; cases e3
     exact nb (tV eb q3).symm
    ·rw [tk]
     exact (hr5.mono (g79.f.trans g10.f)).append (by simpa using aj.one re)
  ·have e:i=ds.length:=by omega
   subst e
   refine thn (Tn.done X' rfl rfl rfl rfl ds.length [] s5 σ5 H5 noX I5 (fps fr5) t5 (io.stop _ H5 Hf5 g5.f g5.b (GZ _))) fun r s6 ⟨hr,I6⟩=>?_
   subst hr
   refine fin s6 σ5 H5 Hf5 vs I6 g5 hD5 hfD5 ?_
   rw [KH (by rw [hol]; exact GZ _)] at hr5
   exact hr5
 exact codeAny_compStart_list loop (Tn.self _ 0 _ _ _ (Tn.keep _ _ _ t0 fun b hb o e=>k4 b o (k3 b o e)) loop)
theorem dw {elt tg iter:Expr} {ifs:List Expr} {scope:Scope} {N':List Str} {ρ0:(Str→Addr)→List Sl} {R:Sl→Prop} (hq:c.X.xe=noX) (hfr:∀ t,FrS t scope.names N ρ N' (ρ0 t))
 (h:EvI c tg iter ρ fun ds=>Sd (ds.length≤sizeLine) (∃ os:List (Option D),os.length=ds.length ∧
   (∀ c':Ctx P w K mg base k N' (bq scope sc) true,c'.X.xe=noX→∀ (t:Str→Addr) (i:Nat) (d:D) (o:Option D),ds[i]?=some d→os[i]?=some o→tT c' tg ifs elt (ρ0 t) d o)∧R (.ow (os.filterMap id))))
 (hk:scope.kind=.function:=by walk_at "u") (hnc:∀ x∈scope.names,x.2≠.cell:=by decide +kernel) (hnl:∀ x∈scope.names,x.2=.local→scope.names.lookup x.1=some .local:=by decide +kernel)
 (hfree:∀ x∈scope.names,x.2=.free→sc.names.lookup x.1=some .cell:=by decide +kernel) (hnd:N'.Nodup:=by decide +kernel) (hv:∀ x∈N',Loc (bq scope sc) x:=by unfold L2.Loc; decide +kernel)
 (hvf:∀ x∈scope.names,x.2=.free→(bq scope sc).names.lookup x.1=some .cell:=by decide +kernel)
 (hs:∀ env v,foldedSetIterable iter env v=pure v:=by intro _ _; walk_at "u"):EvX c (.ListComp elt [⟨tg,iter,ifs,0⟩] scope pos) ρ R:=fun σ H Hf Q S q pins s I=>by
 rw [hq]
 rw [show (eval (.ListComp elt [⟨tg,iter,ifs,0⟩] scope pos) c.X.env)=comprehension (.ListComp elt [⟨tg,iter,ifs,0⟩] scope pos) scope c.X.env (firstIterPos [⟨tg,iter,ifs,0⟩] pos) (newList []) (firstAsync [⟨tg,iter,ifs,0⟩]) (firstIter [⟨tg,iter,ifs,0⟩] c.X.env) from rfl]
 exact tW hq hfr h hk hnc hnl hfree hnd hv hvf hs S I fun s' H' Hf' a C r hr ⟨m,hm⟩ _ _ hrep g hJ=>⟨m,hm,fun h5 hsb5=>⟨.ref a,H',hJ h5 hsb5,rfl,q r _ H' Hf' hr hrep g⟩⟩
theorem nC {a:Addr} {h:Heap}:Jj a h h:=⟨rfl,fun _ _=>rfl⟩
theorem Cb {X:Cx} {pins:List (Addr×Obj)} {σ:L2.St} {H:Hp} {s:Shared} {C:Addr} {h5:Heap} (I:Inv X pins σ H s) (hC:dm X pins H C) (hsb:Jj C s.heap h5):Inv X pins σ H { s with heap:=h5 }:=by
 refine I.DM (ch:=[C]) rfl ⟨fun b o e _ _ hx=>?_,fun b o e _ _ hx=>⟨o.slots,?_⟩,fun b o e n _=>n,fun b o e hx=>⟨o,?_⟩,fun b xs e=>e,fun b o u e=>e,fun b ps e=>⟨#[],by simpa using e⟩⟩ (fun b u e=>(I.hok b u e).stay (fun a o ha e2=>?_) (fun _ z=>z) fun _ _ z=>z) I.bare fun b hb=>?_
 ·exact (hsb.2 b (fun z=>hx (by rw [z]; exact Hg))).trans e
 ·exact (hsb.2 b (fun z=>hx (by rw [z]; exact Hg))).trans e
 ·exact (hsb.2 b (fun z=>hx (by rw [z]; exact Hg))).trans e
 ·refine (hsb.2 a ?_).trans e2
  intro z; subst z
  rcases ha with z | z
  ·subst z; rw [hC.1] at e; cases e
  ·rw [hC.1] at z; cases z
 ·have:b=C:=by simpa using hb
  subst this
  exact ⟨hC.2.2.2.1,hC.2.1,hC.2.2.2.2.1,hC.2.2.2.2.2⟩
theorem Fq {elt tg iter:Expr} {ifs:List Expr} {scope:Scope} {N':List Str} {ρ0:(Str→Addr)→List Sl} {nx:List Sl→Prop} {p:Pt} {x:Str} {pos2 posA:Pos} {i:Nat} (hN:At N i x) (hq:c.X.xe=noX) (hfr:∀ t,FrS t scope.names N ρ N' (ρ0 t))
 (h:EvI c tg iter ρ fun ds=>Sd (ds.length≤sizeLine) (∃ os:List (Option D),os.length=ds.length ∧
   (∀ c':Ctx P w K mg base k N' (bq scope sc) true,c'.X.xe=noX→∀ (t:Str→Addr) (i:Nat) (d:D) (o:Option D),ds[i]?=some d→os[i]?=some o→tT c' tg ifs elt (ρ0 t) d o)∧Nx ρ i nx (.ow (os.filterMap id))))
 (hsw:(pos2.line == pos.line && !scope.names.any fun (n,k)=>n == x && (k == NameKind.local || k == NameKind.cell))=true:=by decide +kernel) (hl:sc.names.lookup x=some .local:=by walk_at "u")
 (hk:scope.kind=.function:=by walk_at "u") (hnc:∀ x∈scope.names,x.2≠.cell:=by decide +kernel) (hnl:∀ x∈scope.names,x.2=.local→scope.names.lookup x.1=some .local:=by decide +kernel)
 (hfree:∀ x∈scope.names,x.2=.free→sc.names.lookup x.1=some .cell:=by decide +kernel) (hnd:N'.Nodup:=by decide +kernel) (hv:∀ x∈N',Loc (bq scope sc) x:=by unfold L2.Loc; decide +kernel)
 (hvf:∀ x∈scope.names,x.2=.free→(bq scope sc).names.lookup x.1=some .cell:=by decide +kernel)
 (hs:∀ env v,foldedSetIterable iter env v=pure v:=by intro _ _; walk_at "u"):EvS c (.Assign [.Name x pos2] (.ListComp elt [⟨tg,iter,ifs,0⟩] scope pos) posA) ρ nx p:=fun σ H Hf D S o pins s I=>by
 have hsw':swapsWith (.ListComp elt [⟨tg,iter,ifs,0⟩] scope pos) (some (.Name x pos2)) posA.line c.X.env=pure true:=by
  have e1:c.X.env.blockKind=.function:=by unfold Env.blockKind; rw [show c.X.env.scope.kind=.function from I.ok.kind]; rfl
  have e2:c.X.env.kindOf x=some .local:=by unfold HH; rw [c.esc]; exact hl
  show pure (c.X.env.blockKind == ScopeKind.function && c.X.env.kindOf x == some NameKind.local && pos2.line == pos.line && !scope.names.any fun (n,k)=>n == x && (k == NameKind.local || k == NameKind.cell))=pure true
  rw [e1,e2]; exact congrArg pure hsw
 rw [hq,exec_Assign_Name_used x pos2 _ posA hsw']
 refine GU (wpAny_standAt ?_)
 refine GU ?_
 rw [show (evalThenUse (.ListComp elt [⟨tg,iter,ifs,0⟩] scope pos) c.X.env (assign (.Name x pos2) c.X.env))=(do let _ ← comprehension (.ListComp elt [⟨tg,iter,ifs,0⟩] scope pos) scope c.X.env (firstIterPos [⟨tg,iter,ifs,0⟩] pos) (newList []) (firstAsync [⟨tg,iter,ifs,0⟩]) (firstIter [⟨tg,iter,ifs,0⟩] c.X.env) (some (assign (.Name x pos2) c.X.env)); pure ()) from rfl]
 refine GU (tW hq hfr h hk hnc hnl hfree hnd hv hvf hs S I fun s' H' Hf' a C r hr ⟨m,hm⟩ hCX hCf hrep g hJ=>?_)
 have J:=hJ s'.heap nC
 obtain ⟨oC,es,ep,e1,e2,e3,e4⟩:=hm
 have fps:∀ b∈[C],dm c.X pins H' b:=fun b hb=>by rw [Ho.mp hb]; exact hCf
 have hob:∀ b∈[C],∃ o,s'.heap.get? b=some o∧∀ v:Option Value,o.data≠.cell v:=fun b hb=>by
  rw [Ho.mp hb]; exact ⟨oC,e1,fun v z=>by rw [e2] at z; cases z⟩
 have J2:=J.pinned fps hob
 have hmem:(C,oC)∈iz [C] s'.heap:=cQ Hg e1
 obtain ⟨ρ',hset,hx⟩:=hr
 have st:=yd (mT (X:=c.X) (i:=i) (pos:=pos2) (by rw [c.eN]; exact c.nd) (by rw [c.eN]; exact hN.get) (by rw [c.esc]; exact c.vis x hN.mem) (c.fn x (.inr hl))) (v:=.ref a) (σ:=σ) (H:=H') (Q:=fun σ' H''=>D.nx σ' H'') (o.nx _ H' Hf' _ (hset.eq ▸ S.set g hrep) hx) _ s' (.ref a) J2 rfl
 rw [hq] at st
 refine thn st fun _ s'' ⟨σ',H'',I'',dn⟩=>?_
 have pC:=I''.pin (C,oC) (Il _ (Il _ hmem))
 refine ⟨m,⟨oC,es,ep,pC.1,e2,e3,e4⟩,fun h' hsb=>?_⟩
 have I3:Inv c.X pins σ' H'' s'':=I''.dF
 have I4:=Cb I3 (C:=C) ⟨pC.2.1,hCf.2⟩ hsb
 exact GX (GX ⟨_,_,I4,dn⟩)
end
mutual
def D.nl:D→Prop
 | .lst _=>False
 | .fdK _ _=>False
 | .fdT _ _=>False
 | .tup ds=>D.nls ds
 | _=>True
def D.nls:List D→Prop
 | []=>True
 | d::ds=>d.nl∧D.nls ds
end
theorem tX:∀ {ds:List D},D.nls ds↔∀ d∈ds,d.nl
 | []=>by simp [D.nls]
 | d::ds=>by simp [D.nls,tX (ds:=ds)]
theorem dR {α:Type} {f:α→D} {l:List α} (h:∀ x∈l,(f x).nl):D.nls (l.map f):=tX.mpr fun d hd=>by
 obtain ⟨x,hx,rfl⟩:=HC.mp hd
 exact h x hx
theorem iC {i:Int}:(D.int i).nl:=by simp [D.nl]
theorem gE (l:List Int):D.nls (l.map D.int):=dR fun x _=>iC
theorem nD {ds:List D} (h:D.nls ds):(D.tup ds).nl:=by simpa [D.nl] using h
noncomputable def HO.mt:HO→Prop | .lst _=>True | .dK _=>True | .dT _=>True | _=>False
theorem vG {Hf:Hp} {p:Addr} {K:GW} {a:Addr} {xs:List V} {o:HO} (hp:Hf p=some o) (hm:HO.mt o) (h:SqT K Hf a xs):SqT K (del Hf p) a xs:=by
 rcases h with (h | ⟨o',h⟩) | h
 ·exact .inl (.inl (by rw [bL (by rintro rfl; rw [hp] at h; cases h; exact hm)]; exact h))
 ·exact .inl (.inr ⟨o',by rw [bL (by rintro rfl; rw [hp] at h; cases h; exact hm)]; exact h⟩)
 ·exact .inr h
mutual
theorem rg {K:GW} {Hf:Hp} {p:Addr} {o:HO} (hp:Hf p=some o) (hm:HO.mt o):∀ (d:D) {v:V},d.nl→Rep K Hf d v→Rep K (del Hf p) d v
 | .non,_,_,h=>by simpa [Rep] using h
 | .bl _,_,_,h=>by simpa [Rep] using h
 | .int _,_,_,h=>by simpa [Rep] using h
 | .str _,_,_,h=>by simpa [Rep] using h
 | .adr _,_,_,h=>by simpa [Rep] using h
 | .tup ds,v,f,h=>by
  simp only [Rep] at h ⊢
  obtain ⟨a,xs,e,h1,h2⟩:=h
  exact ⟨a,xs,e,vG hp hm h1,nE hp hm ds (by simpa [D.nl] using f) h2⟩
 | .lst _,_,f,_=>by simp [D.nl] at f
 | .fdK _ _,_,f,_=>by simp [D.nl] at f
 | .fdT _ _,_,f,_=>by simp [D.nl] at f
 | .exc C,_,_,h=>by
  simp only [Rep] at h ⊢
  obtain ⟨a,e,h⟩:=h
  exact ⟨a,e,by rw [bL (by rintro rfl; rw [hp] at h; cases h; exact hm)]; exact h⟩
theorem nE {K:GW} {Hf:Hp} {p:Addr} {o:HO} (hp:Hf p=some o) (hm:HO.mt o):∀ (ds:List D) {xs:List V},D.nls ds→aj K Hf ds xs→aj K (del Hf p) ds xs
 | [],_,_,h=>by simpa [aj] using h
 | d::ds,xs,f,h=>by
  simp only [aj] at h ⊢
  simp only [D.nls] at f
  obtain ⟨x,r,e,h1,h2⟩:=h
  exact ⟨x,r,e,rg hp hm d f.1 h1,nE hp hm ds f.2 h2⟩
end
noncomputable def Sl.nl:Sl→Prop
 | .va d=>d.nl
 | .ow ds=>D.nls ds
 | _=>False
theorem aM.thaw {K:GW} {H H' Hf':Hp} {p:Addr} {oz:HO} {o:HO} {r:Sl} {v:V} (hp:Hf' p=some oz) (hm:HO.mt oz) (h0:H p=some o) (f:r.nl) (h:aM K (fun p=>H p=none) H' Hf' r v):aM K (fun p=>H p=none) H' (del Hf' p) r v:=by
 cases r with
 | va d=>exact rg hp hm d f h
 | ow ds =>
  obtain ⟨q,xs,rfl,fq,h1,h2,h3⟩:=h
  refine ⟨q,xs,rfl,fq,h1,?_,nE hp hm ds f h3⟩
  rw [bL (by rintro rfl; rw [h0] at fq; cases fq)]; exact h2
 | _=>exact f.elim
section
variable {P:Program} {w:World} {K:GW} {mg:Str→Option Value} {base:Heap} {k:Nat} {N:List Str} {sc:Scope} {bk:Bool} {c:Ctx P w K mg base k N sc bk} {ρ ρ':List Sl} {pos ap cp px tp:Pos} {a b e f:Expr} {es:List Expr} {R:D→Prop} {T:Bool→Prop} {nx:List Sl→Prop} {p:Pt} {x:Str} {i:Nat} {r:Sl} {ds:List D}
noncomputable def Sl.je:Sl→Option D
 | .ow ds=>some (.lst ds) | .aw _ ds=>some (.lst ds)
 | _=>none
theorem jZ {d:D} (h:r.je=some d):r.owned=true:=by cases r <;> first | rfl | cases h
theorem gF {κ:Type} {Hf:Hp} {kvs:List (κ×D)} {xs:List (κ×V)} (h:KVR K Hf kvs xs):xs.map (·.1)=kvs.map (·.1)∧aj K Hf (kvs.map (·.2)) (xs.map (·.2)):=by
 unfold KVR at h
 induction h with
 | nil=>exact ⟨rfl,aq.mpr rfl⟩
 | cons h t ih=>exact ⟨by rw [G3,G3,ih.1,h.1],.cons h.2 ih.2⟩
theorem dJ {Hf:Hp} {kvs:List (List Key×D)} {xs:List (List Key×Addr×V)} (h:TVR K Hf kvs xs):xs.map (·.1)=kvs.map (·.1)∧(∀ y∈xs,SqT K Hf y.2.1 (y.1.map kV))∧aj K Hf (kvs.map (·.2)) (xs.map (·.2.2)):=by
 refine ⟨?_,h.yP,?_⟩
 ·unfold TVR at h
  induction h with
  | nil=>rfl
  | cons h t ih=>rw [G3,G3,ih,h.1]
 ·unfold TVR at h
  induction h with
  | nil=>exact aq.mpr rfl
  | cons h t ih=>exact .cons h.2.2 ih
theorem aM.je {fr:Addr→Prop} {H Hf:Hp} {d:D} {v:V} (h:r.je=some d) (q:aM K fr H Hf r v):∃ p o,v=.ref p∧fr p∧H p=some o∧Hf p=none∧HO.mt o∧Rep K (upd Hf p o) d v:=by
 have sf:∀ {p:Addr} {o:HO},Hf p=none→aG Hf (upd Hf p o):=fun hp b u e=>by rw [ai (az e hp)]; exact e
 cases r with
 | ow ds=>cases h; obtain ⟨p,xs,rfl,f,h1,h2,h3⟩:=q; exact ⟨p,_,rfl,f,h1,h2,trivial,aH.mpr ⟨p,xs,rfl,.inl (.inl ah),h3.mono (sf h2)⟩⟩
 | aw a ds=>cases h; obtain ⟨p,xs,rfl,f,h1,h2,h3⟩:=q; exact ⟨p,_,rfl,f.1,h1,h2,trivial,aH.mpr ⟨p,xs,rfl,.inl (.inl ah),h3.mono (sf h2)⟩⟩
 | _=>cases h
theorem StR.jz {d:D} {H₀ Hf₀ H Hf:Hp} {σ:L2.St} (S:StR K H₀ Hf₀ σ H Hf ρ) (h:ρ[i]?=some r) (hr:r.je=some d) :
 ∃ q o,H q=some o∧Hf q=none∧HO.mt o∧StR K H₀ Hf₀ σ H (L2.upd Hf q o) (ρ.set i (.va d)):=by
 obtain ⟨q,ev,rq⟩:=S.own h (jZ hr)
 obtain ⟨_,o,e0,fq,hq,hfq,hm,rd⟩:=rq.je hr
 cases e0
 have hi:i<ρ.length:=(G8.mp h).1
 have hown:=jZ hr
 have sf:aG Hf (L2.upd Hf q o):=fun b u e=>by rw [L2.ai (az e hfq)]; exact e
 have sb:aG (L2.upd Hf q o) H:=fun b u e=>by
  by_cases z:b=q
  ·subst z; rw [L2.ah] at e; rw [hq]; exact e
  ·rw [L2.ai z] at e; exact S.sb b u e
 refine ⟨q,o,hq,hfq,hm,⟨S.bas.s,S.bas.f.trans sf,sb,fun b h1 h2 h3=>?_⟩,by simp [S.len],fun j r' hj hu=>?_,fun j j' r1 r2 q' hne h1 h2 o1 o2=>?_⟩
 ·have e:=S.bas.n b h1 h2 h3
  by_cases z:b=q
  ·subst z; exact absurd fq h2
  ·rw [L2.ai z]; exact e
 ·by_cases z:j=i
  ·subst z
   rw [Iu hi] at hj
   cases hj
   exact ⟨_,ev,rd⟩
  ·rw [Iv (Hu z)] at hj
   obtain ⟨v,e1,e2⟩:=S.at_ j r' hj hu
   refine ⟨v,e1,?_⟩
   have key:r'.owned=true→v≠.ref q:=fun ho z=>by
    subst z
    exact S.sep i j _ _ q (Hu ‹_›) h hj hown ho ev e1
   exact aM.mv (B:=fun z=>z=q) sf (fun z u hz e1 _ e3=>⟨e1,by rw [L2.ai hz]; exact e3⟩) (by rintro _ z rfl ⟨ys,e9⟩; rw [hq] at e9; cases e9; exact hm) (fun ho z e=>by rintro rfl; exact key ho e) e2
 ·have out:∀ {j:Nat} {r:Sl},(ρ.set i (.va d))[j]?=some r→r.owned=true→ρ[j]?=some r:=fun {j r} hj ho=>by
   by_cases z:j=i
   ·subst z; rw [Iu hi] at hj; cases hj; cases ho
   ·rw [Iv (Hu z)] at hj; exact hj
  exact S.sep j j' r1 r2 q' hne (out h1 o1) (out h2 o2) o1 o2
theorem pF {H Hf H' Hf':Hp} {q:Addr} {o:HO} (sb:aG Hf H) (hq:H q=some o) (hfq:Hf q=none) (g:Grw H (upd Hf q o) H' Hf'):Grw H Hf H' (del Hf' q) :=
 ⟨g.s,fun b o e=>by rw [bL (az e hfq)]; exact g.f b o (by rw [ai (az e hfq)]; exact e),fun b o e=>by obtain ⟨_,e2⟩:=gB e; exact g.b b o e2,fun b h1 h2 h3=>by
   by_cases z:b=q
   ·subst z; exact gz
   ·rw [bL z]; exact g.n b (by rw [ai z]; exact h1) h2 h3⟩
section
variable {d0:D}
theorem yQ (i:Nat) (hi:At ρ i r) (hr:r.je=some d0) (hs:SSet ρ i (.va d0) ρ') (h:EvE c e ρ' fun d=>Sd d.nl (R d)):EvE c e ρ R:=fun σ H Hf Q S q=>by
 obtain ⟨a,o,ha,hfa,hm,S1⟩:=S.jz hi.get hr
 rw [← hs.eq] at S1
 exact h σ H _ Q S1 fun d v H' Hf' ⟨fl,rd⟩ rv g=>q d v H' _ rd (rg (g.f a _ ah) hm d fl rv) (pF S.sb ha hfa g)
theorem DV (i:Nat) {R:Sl→Prop} (hi:At ρ i r) (hr:r.je=some d0) (hs:SSet ρ i (.va d0) ρ') (h:EvX c e ρ' fun d=>Sd d.nl (R d)):EvX c e ρ R:=fun σ H Hf Q S q=>by
 obtain ⟨a,o,ha,hfa,hm,S1⟩:=S.jz hi.get hr
 rw [← hs.eq] at S1
 exact h σ H _ Q S1 fun d v H' Hf' ⟨fl,rd⟩ rv g=>q d v H' _ rd (rv.thaw (g.f a _ ah) hm ha fl) (pF S.sb ha hfa g)
theorem ri {st:List Stmt} (i:Nat) (hi:At ρ i r) (hr:r.je=some d0) (hs:SSet ρ i (.va d0) ρ') (h:aW c st ρ' nx p):aW c st ρ nx p:=fun σ H Hf D S o=>by
 obtain ⟨a,ob,ha,hfa,hm,S1⟩:=S.jz hi.get hr
 rw [← hs.eq] at S1
 exact h σ H _ D S1 o
theorem tY {st:Stmt} (i:Nat) (hi:At ρ i r) (hr:r.je=some d0) (hs:SSet ρ i (.va d0) ρ') (h:EvS c st ρ' nx p):EvS c st ρ nx p:=fun σ H Hf D S o=>by
 obtain ⟨a,ob,ha,hfa,hm,S1⟩:=S.jz hi.get hr
 rw [← hs.eq] at S1
 exact h σ H _ D S1 o
end
theorem e_ixO {p2:Pos} (hN:At N i x) (hi:At ρ i r) (hr:r.je=some (.lst ds)) (hs:SSet ρ i (.va (.lst ds)) ρ') (h:EvE c b ρ' fun y=>Sd y.nl (∃ j d,y=.int j∧atI ds j=some d∧Sd d.nl (R d))) (hx:At ρ' i (.va (.lst ds)))
 (hd:(x == ("__debug__":Str))=false:=by decide) (hcd:(x == ("__classdict__":Str))=false:=by decide) (hp:jx b:=by with_unfolding_all exact fun _ _=>rfl):EvE c (.Subscript (.Name x p2) b pos) ρ R :=
 yQ i hi hr hs (e_ix (tD hN hx (h.imp fun y ⟨_,j,d,e1,e2,e3⟩=>⟨ds,j,d,rfl,e1,e2,e3⟩) hd hcd) hp)
theorem SSet.at {α:Type} {l l':List α} {i:Nat} {r:α} (h:SSet l i r l'):At l' i r:=by
 induction h with
 | z=>exact .z
 | s _ ih=>exact .s ih
theorem Ft {p1 p2:Pos} (hm:mg "len"=none) (hN:At N i x) (hi:At ρ i r) (hr:r.je=some (.lst ds)) (hs:SSet ρ i (.va (.lst ds)) ρ') (h:R (.int ds.length)) (hg:sc.names.lookup (GV "len")=some .globalImplicit:=by walk_at "u")
 (hd:(x == ("__debug__":Str))=false:=by decide) (hcd:(x == ("__classdict__":Str))=false:=by decide)
 (he:∀ env,starEach [.Name x p2] env=(false,eval (.Name x p2) env)::starEach [] env:=by intro _; walk_at "u"):EvE c (.Call (.Name "len" p1) [.Name x p2] [] pos) ρ R :=
 yQ i hi hr hs (e_len hm (tD hN hs.at ⟨ds,rfl,iC,h⟩ hd hcd) hg he)
theorem yR {p1 p2:Pos} (hm:mg "tuple"=none) (hN:At N i x) (hi:At ρ i r) (hr:r.je=some (.lst ds)) (hs:SSet ρ i (.va (.lst ds)) ρ') (h:Sd (D.nls ds) (R (.tup ds))) (hg:sc.names.lookup (GV "tuple")=some .globalImplicit:=by walk_at "u")
 (hd:(x == ("__debug__":Str))=false:=by decide) (hcd:(x == ("__classdict__":Str))=false:=by decide)
 (he:∀ env,starEach [.Name x p2] env=(false,eval (.Name x p2) env)::starEach [] env:=by intro _; walk_at "u"):EvE c (.Call (.Name "tuple" p1) [.Name x p2] [] pos) ρ R :=
 yQ i hi hr hs (tP hm (tD hN hs.at ⟨ds,rfl,nD h.s,h.r⟩ hd hcd) hg he)
end
end EV
set_option maxHeartbeats 0
namespace EV
open PySem PySem.Spec PyProof.Rows L2
section
variable {P:Program} {w:World} {K:GW} {mg:Str→Option Value} {base h:Heap}
noncomputable def aD (K:GW) (mg:Str→Option Value) (x:Str) (st:Stmt):Prop:=∃ f fd,mg x=some (.ref f)∧Fun K x x st f fd
theorem aQ {x:Str} {st:Stmt} {f:Addr} {oc:Value} {od an:Option Addr} {osl:Array (Option Value)} {kV doc pm cdv ct:Value} (KX:K.In h) (G:h.Ns mainGlobals mg) (a:Ig K mainGlobals x=some (some (.ref f)))
 (l:K.lookup f=some ⟨oc,od,.func (Jm x x (cZ st) (ay st) (aa st) .none kV doc pm an cdv ct),osl⟩) (c:LS K cdv x=true) (k:Jb K (.ref f)=true):aD K mg x st :=
 ⟨f,_,PySem.W.mg_of KX G a,E4 l c k⟩
theorem Fv {t:Value} {T:String} {b:Bool} (e:(t == Iz T)=false) (m:PySem.W.kitMeta T=true) (s:PySem.W.subIn K t (.type T)=some b):IM K t (.type T)=some b:=by
 unfold IM PySem.W.kitCls
 simp [e,m,s]
theorem j0 {t:Value} (e:(t == t)=true):IM K t t=some true:=by
 unfold IM
 simp [e]
structure Txt (K:GW) (mg:Str→Option Value):Prop where
 abs:mg "abs"=none
 len:mg "len"=none
 isin:mg "isinstance"=none
 range:mg "range"=none
 int:mg "int"=none
 bool:mg "bool"=none
 tuple:mg "tuple"=none
 list:mg "list"=none
 max:mg "max"=none
 min:mg "min"=none
 sum:mg "sum"=none
 sorted:mg "sorted"=none
 zip:mg "zip"=none
 enum:mg "enumerate"=none
 all:mg "all"=none
 any:mg "any"=none
 dict:mg "dict"=none
 ib:IM K (.type "int") (.type "bool")=some false
theorem Txt.c_int (T:Txt K mg):gw mg "int" (.type "int"):=.inr ⟨_,rfl,T.int,by decide +kernel,by decide +kernel⟩
theorem Txt.Fw (T:Txt K mg):gw mg "bool" (.type "bool"):=.inr ⟨_,rfl,T.bool,by decide +kernel,by decide +kernel⟩
theorem Txt.Cc (T:Txt K mg):gw mg "tuple" (.type "tuple"):=.inr ⟨_,rfl,T.tuple,by decide +kernel,by decide +kernel⟩
theorem Txt.Fx (T:Txt K mg):gw mg "list" (.type "list"):=.inr ⟨_,rfl,T.list,by decide +kernel,by decide +kernel⟩
theorem Fy:IM K (.type "int") (.type "int")=some true:=j0 (by decide)
theorem Fz:IM K (.type "tuple") (.type "tuple")=some true:=j0 (by decide)
theorem FA:IM K (.type "list") (.type "list")=some true:=j0 (by decide)
theorem FD (KX:K.In h) (G:h.Ns mainGlobals mg)
 (z1:Ig K mainGlobals "abs"=some none)
 (z2:Ig K mainGlobals "len"=some none)
 (z3:Ig K mainGlobals "isinstance"=some none)
 (z4:Ig K mainGlobals "range"=some none)
 (z5:Ig K mainGlobals "int"=some none)
 (z6:Ig K mainGlobals "bool"=some none)
 (z7:Ig K mainGlobals "tuple"=some none)
 (z8:Ig K mainGlobals "list"=some none)
 (z9:Ig K mainGlobals "max"=some none)
 (z10:Ig K mainGlobals "min"=some none)
 (z11:Ig K mainGlobals "sum"=some none)
 (z12:Ig K mainGlobals "sorted"=some none)
 (z13:Ig K mainGlobals "zip"=some none)
 (z14:Ig K mainGlobals "enumerate"=some none)
 (z15:Ig K mainGlobals "all"=some none)
 (z16:Ig K mainGlobals "any"=some none)
 (z17:Ig K mainGlobals "dict"=some none)
 (sib:PySem.W.subIn K (.type "int") (.type "bool")=some false):Txt K mg :=
 ⟨Im KX G z1,Im KX G z2,Im KX G z3,Im KX G z4,Im KX G z5,Im KX G z6,Im KX G z7,Im KX G z8,
  Im KX G z9,Im KX G z10,Im KX G z11,Im KX G z12,Im KX G z13,Im KX G z14,Im KX G z15,Im KX G z16,Im KX G z17,
  Fv (by decide) (by decide) sib⟩
theorem aY {k:Nat} {x:Str} {st:Stmt} {F:Fn} {ps:List Str} {f:Addr} {fd:FuncData} (m:mg x=some (.ref f)) (Fu:Fun K x x st f fd) (ok:aX P w K mg base (CXE P w) k f fd ps (spF K F))
 (hb:∀ (kV doc pm:Value) (an:Option Addr) (cdv ct:Value) (us:List Value),us.length=ps.length→bindArgs (Jm x x (cZ st) (ay st) (aa st) .none kV doc pm an cdv ct) ⟨us,[]⟩=pure (ps.zip us)):Cal P w K mg base k x F :=
 ⟨f,fd,ps,m,Fu.kp,Fu.binds hb,ok⟩
theorem kZ {α:Type} (us:List α) (h:us.length=1):∃ a,us=[a]:=by match us,h with | [a],_=>exact ⟨a,rfl⟩
theorem gG {α:Type} (us:List α) (h:us.length=2):∃ a b,us=[a,b]:=by match us,h with | [a,b],_=>exact ⟨a,b,rfl⟩
theorem Cd {α:Type} (us:List α) (h:us.length=3):∃ a b c,us=[a,b,c]:=by match us,h with | [a,b,c],_=>exact ⟨a,b,c,rfl⟩
noncomputable def yS:Fn:=fun ds r=>∃ ns:List Int,ns.length≤63∧ds=[.lst (ns.map D.int)]∧r=.ok (.va (.bl true))
theorem FE {K:GW} (H:Hp) (a:Addr) (ns:List Int) (hl:ns.length≤63) (hS:SqL K H a (ns.map V.int)):spF K yS [.ref a] H (fun v _=>v=.bl true) fun _ _ _=>False :=
 ⟨H,[.lst (ns.map D.int)],.ok (.va (.bl true)),.refl H,.cons (aH.mpr ⟨a,_,rfl,hS,lP ns⟩) (aq.mpr rfl),⟨ns,hl,rfl,rfl⟩,fun v H' Hf' _ r=>(bY (K:=K) (H:=Hf')).mp r⟩
theorem walk {k:Nat} {l:PySem.W.OpenLaw} {q:Program} {loose:List Str} {XP:(Str→Option Value)→Heap→Prop} {YP:World→Heap→Prop} {d:DefRec} {K:Params→GW} (hk:k≤20) (hn:l.most=some 63) (hdf:d.params.defaults=[])
 (hY:∀ (w:World) (h:Heap),YP w h→(K w.params).In h)
 (F:∀ (w:World) (mg:Str→Option Value) (fa:Addr) (h:Heap),(K w.params).In h→h.Ns mainGlobals mg→mg d.name=some (.ref fa) →
   ∃ fd:FuncData,(∀ (s:Shared) (u:Value),BindsTo s fd ⟨[u],[]⟩ [("_law_script",u)])∧∀ base:Heap,(K w.params).In base→base.Ns mainGlobals mg→aX l.prog w (K w.params) mg base (CXE l.prog w) 20 fa fd ["_law_script"] (spF (K w.params) yS)) :
 PySem.W.WalkO q loose XP YP l.row.toRowW d [] (fun f vs=>PySem.call f vs) :=
 L2.BO (n:=63) (k:=20) (x:="_law_script") (CX:=fun w=>CXE l.prog w) (sp:=fun w=>spF (K w.params) yS) hn (by decide) hdf ⟨rfl,by decide,by decide⟩ hY F (fun _ H a ns hl _ hS=>FE H a ns hl hS) fun _ _ _ _ _ ⟨_,_,_,_,_,q⟩=>q
end
section
variable {a b c d:Int}
end
theorem gH {α β:Type} (f:α→β) (xs:List α) (lo hi:Option Int):EV.cutD (xs.map f) lo hi=(EV.cutD xs lo hi).map f:=by
 unfold EV.cutD; simp only [G4,List.map_take,List.map_drop]
theorem gI {α:Type} {xs:List α} {j:Int} (h0:0≤j) (h1:j<xs.length):atI xs j=xs[j.toNat]?:=by
 unfold atI ixN
 rw [if_pos h0,if_pos h1]; rfl
theorem tZ {α:Type} {xs:List α} {j:Int} (h0:j<0) (h1:0≤j+xs.length):atI xs j=xs[(j+xs.length).toNat]?:=by
 unfold atI ixN
 rw [if_neg (by omega)]
 rw [if_pos (by omega)]; rfl
theorem yT {a:Int} (h:a.natAbs<2 ^ 63):IE a≤64:=by
 unfold IE
 by_cases z:a=0
 ·subst z; decide
 ·have e:(a == 0)=false:=by simpa using z
  rw [e,if_neg G6]
  have:=(Nat.log2_lt (n:=a.natAbs) (k:=63) (by omega)).mpr h
  omega
theorem pG {a b:Int} (h:a.natAbs<2 ^ 63):EV.MulOk a b:=IntMulOk.of_left (yT h)
theorem fE {n i:Nat} {d:EV.D} (h:(kY 0 n)[i]?=some d):i<n∧d=.int (i:Int):=by
 unfold kY at h
 simp only [G9,Hj] at h
 obtain ⟨j,h1,rfl⟩:=h
 obtain ⟨hj,rfl⟩:=G8.mp h1
 simp at hj
 exact ⟨hj,by simp⟩
section
variable {P:Program} {w:World} {K:GW} {mg:Str→Option Value} {base:Heap} {k:Nat} {N:List Str} {sc:Scope} {bk:Bool} {c:Ctx P w K mg base k N sc bk} {ρ:List Sl} {pos:Pos} {t:Expr} {A B:List Stmt} {nx:List Sl→Prop} {p:Pt}
end
end EV
namespace EV
open PySem PySem.Spec PySem.Calls PyProof.Rows L2
noncomputable def HO.dct:HO→Prop | .dK _=>True | .dT _=>True | _=>False
theorem nF {X:Cx} {pins:List (Addr×Obj)} {σ:L2.St} {H:Hp} {s:Shared} {a:Addr} {u v:HO} (I:Inv X pins σ H s) (hu:H a=some u) (nu:∀ xs,u≠.tup xs) (nw:∀ y,u≠.own y) (nt:∀ ps,u≠.tbl ps) (nf:∀ o z,X.H₀ a≠some (.frz o z))
 (hv:aS X.prog X.w H s.heap a v):Inv X pins σ (upd H a v) s:=by
 have hne:∀ {b:Addr} {z:HO},H b=some z→z≠u→b≠a:=fun e d q=>by subst q; rw [hu] at e; cases e; exact d rfl
 have hno:∀ {b:Addr},H b=none→b≠a:=fun e q=>by subst q; rw [hu] at e; cases e
 have hst:∀ {b:Addr} {z:HO},aS X.prog X.w H s.heap b z→aS X.prog X.w (upd H a v) s.heap b z:=fun q =>
  q.stay (fun _ _ _ e=>e) (fun b e=>by rw [ai (hne e (Hu (nw _)))]; exact e) fun b xs e=>by rw [ai (hne e (Hu (nu xs)))]; exact e
 have fr:=I.free
 exact {
  ok:=I.ok,os:=I.os,bare:=I.bare,loc:=I.loc,cell:=I.cell,len:=I.len
  base:=⟨I.base.keep,I.base.slot,fun b o h1 h2 h3=>by have e:=I.base.free b o h1 h2 h3; rw [ai (hno e)]; exact e,I.base.there,
   fun b xs e=>by have q:=I.base.tups b xs e; rw [ai (hne q (Hu (nu xs)))]; exact q,
   fun b o z e=>by
    have q:=I.base.frzs b o z e
    by_cases w:b=a
    ·subst w; exact absurd e (nf o z)
    ·rw [ai w]; exact q,
   fun b ps e=>by obtain ⟨m,q⟩:=I.base.tbls b ps e; exact ⟨m,by rw [ai (hne q (Hu (nt _)))]; exact q⟩⟩
  free:=by rw [ai (hno I.free)]; exact I.free
  freeC:=fun x c e=>by have q:=I.freeC x c e; rw [ai (hno q)]; exact q
  pin:=fun q hq=>by obtain ⟨h1,h2,h3⟩:=I.pin q hq; exact ⟨h1,by rw [ai (hno h2)]; exact h2,h3⟩
  hok:=fun b z e=>by
   by_cases w:b=a
   ·subst w; rw [ah] at e; cases e; exact hst hv
   ·rw [ai w] at e; exact hst (I.hok b z e) }
theorem Ce {X:Cx} {pins:List (Addr×Obj)} {σ:L2.St} {H:Hp} {s:Shared} {a:Addr} {u:HO} (I:Inv X pins σ H s) (hu:H a=some u) (hd:HO.dct u) :
 ∃ o,Inv X pins σ (upd H a (.frz o u)) s∧∀ o z,X.H₀ a≠some (.frz o z):=by
 obtain ⟨o,ho⟩:=Fb (I.hok a u hu)
 have nf:∀ o z,X.H₀ a≠some (.frz o z):=fun o z e=>by
  have q:=I.base.frzs a o z e
  rw [hu] at q; cases q; exact hd
 exact ⟨o,nF I hu (by rintro xs rfl; exact hd) (by rintro y rfl; exact hd) (by rintro ps rfl; exact hd) nf ⟨ho,I.hok a u hu⟩,nf⟩
theorem yU {X:Cx} {pins:List (Addr×Obj)} {σ:L2.St} {H:Hp} {s:Shared} {a:Addr} {o:Obj} {u:HO} (I:Inv X pins σ H s) (hu:H a=some (.frz o u)) (nf:∀ o z,X.H₀ a≠some (.frz o z)):Inv X pins σ (upd H a u) s :=
 nF I hu (by intro xs z; cases z) (by intro y z; cases z) (by intro ps z; cases z) nf (I.hok a _ hu).2
noncomputable def Sl.pH:Sl→Option D
 | .oK kvs=>some (.fdK (kvs.map (·.1)) (kvs.map (·.2))) | .aK _ kvs=>some (.fdK (kvs.map (·.1)) (kvs.map (·.2)))
 | .oT kvs=>some (.fdT (kvs.map (·.1)) (kvs.map (·.2))) | .aT _ kvs=>some (.fdT (kvs.map (·.1)) (kvs.map (·.2)))
 | _=>none
theorem j3 {r:Sl} {d:D} (h:r.pH=some d):r.owned=true:=by cases r <;> first | rfl | cases h
section
variable {K:GW} {H₀ Hf₀ H Hf H1 Hf1:Hp} {σ:L2.St} {ρ:List Sl}
theorem aM.pH {fr:Addr→Prop} {r:Sl} {d:D} {v:V} (h:r.pH=some d) (q:aM K fr H Hf r v):∃ p u,v=.ref p∧fr p∧H p=some u∧Hf p=none∧HO.dct u∧∀ o,Rep K (L2.upd Hf p (.frz o u)) d v:=by
 have sf:∀ {p:Addr} {o:HO},Hf p=none→aG Hf (L2.upd Hf p o):=fun hp b u e=>by rw [ai (az e hp)]; exact e
 cases r with
 | oK ds=>cases h; obtain ⟨p,xs,rfl,f,h1,h2,h3⟩:=q; exact ⟨p,_,rfl,f,h1,h2,trivial,fun o=>gu.mpr ⟨p,xs,o,rfl,ah,(gF h3).1,(gF h3).2.mono (sf h2)⟩⟩
 | aK a ds=>cases h; obtain ⟨p,xs,rfl,f,h1,h2,h3⟩:=q; exact ⟨p,_,rfl,f.1,h1,h2,trivial,fun o=>gu.mpr ⟨p,xs,o,rfl,ah,(gF h3).1,(gF h3).2.mono (sf h2)⟩⟩
 | oT ds=>cases h; obtain ⟨p,xs,rfl,f,h1,h2,h3⟩:=q; exact ⟨p,_,rfl,f,h1,h2,trivial,fun o=>nc.mpr ⟨p,xs,o,rfl,ah,(dJ h3).1,fun y hy=>ak (sf h2) ((dJ h3).2.1 y hy),(dJ h3).2.2.mono (sf h2)⟩⟩
 | aT a ds=>cases h; obtain ⟨p,xs,rfl,f,h1,h2,h3⟩:=q; exact ⟨p,_,rfl,f.1,h1,h2,trivial,fun o=>nc.mpr ⟨p,xs,o,rfl,ah,(dJ h3).1,fun y hy=>ak (sf h2) ((dJ h3).2.1 y hy),(dJ h3).2.2.mono (sf h2)⟩⟩
 | _=>cases h
theorem StR.Cf (S:StR K H₀ Hf₀ σ H Hf ρ) {i:Nat} {r:Sl} {d:D} (h:ρ[i]?=some r) (hr:r.pH=some d) :
 ∃ q u,H q=some u∧Hf q=none∧HO.dct u∧∀ o,StR K H₀ Hf₀ σ (L2.upd H q (.frz o u)) (L2.upd Hf q (.frz o u)) (ρ.set i (.va d)):=by
 obtain ⟨q,ev,rq⟩:=S.own h (j3 hr)
 obtain ⟨_,u,e0,fq,hq,hfq,hd,rd⟩:=rq.pH hr
 cases e0
 have hi:i<ρ.length:=(G8.mp h).1
 have hown:=j3 hr
 refine ⟨q,u,hq,hfq,hd,fun o=>⟨⟨fun b z e=>?_,fun b z e=>?_,fun b z e=>?_,fun b h1 h2 h3=>?_⟩,by simp [S.len],fun j r' hj hu=>?_,fun j j' r1 r2 q' hne h1 h2 o1 o2=>?_⟩⟩
 ·rw [L2.ai (az e fq)]; exact S.bas.s b z e
 ·have e2:=S.bas.f b z e
  rw [L2.ai (az e2 hfq)]; exact e2
 ·by_cases w:b=q
  ·subst w; rw [L2.ah] at e ⊢; exact e
  ·rw [L2.ai w] at e ⊢; exact S.sb b z e
 ·have e:=S.bas.n b h1 h2 h3
  by_cases z:b=q
  ·subst z; exact absurd fq h2
  ·rw [L2.ai z]; exact e
 ·have sf:aG Hf (L2.upd Hf q (.frz o u)):=fun b z e=>by rw [L2.ai (az e hfq)]; exact e
  by_cases z:j=i
  ·subst z
   rw [Iu hi] at hj
   cases hj
   exact ⟨_,ev,rd o⟩
  ·rw [Iv (Hu z)] at hj
   obtain ⟨v,e1,e2⟩:=S.at_ j r' hj hu
   refine ⟨v,e1,?_⟩
   have key:r'.owned=true→v≠.ref q:=fun ho z=>by
    subst z
    exact S.sep i j _ _ q (Hu ‹_›) h hj hown ho ev e1
   exact aM.mv (B:=fun z=>z=q) sf (fun z w hz e1 _ e3=>⟨by rw [L2.ai hz]; exact e1,by rw [L2.ai hz]; exact e3⟩) (by rintro _ z rfl ⟨ys,e9⟩; rw [hq] at e9; cases e9; exact hd) (fun ho z e=>by rintro rfl; exact key ho e) e2
 ·have out:∀ {j:Nat} {r:Sl},(ρ.set i (.va d))[j]?=some r→r.owned=true→ρ[j]?=some r:=fun {j r} hj ho=>by
   by_cases z:j=i
   ·subst z; rw [Iu hi] at hj; cases hj; cases ho
   ·rw [Iv (Hu z)] at hj; exact hj
  exact S.sep j j' r1 r2 q' hne (out h1 o1) (out h2 o2) o1 o2
end
theorem vH {H Hf H' Hf':Hp} {q:Addr} {o:Obj} {u:HO} (sb:aG Hf H) (hq:H q=some u) (hfq:Hf q=none) (g:Grw (upd H q (.frz o u)) (upd Hf q (.frz o u)) H' Hf'):Grw H Hf (upd H' q u) (del Hf' q) :=
 ⟨fun b z e=>by
   by_cases w:b=q
   ·subst w; rw [ah]; rw [hq] at e; exact e
   ·rw [ai w]; exact g.s b z (by rw [ai w]; exact e),
   fun b z e=>by rw [bL (az e hfq)]; exact g.f b z (by rw [ai (az e hfq)]; exact e),
   fun b z e=>by obtain ⟨w,e2⟩:=gB e; rw [ai w]; exact g.b b z e2,fun b h1 h2 h3=>by
   by_cases w:b=q
   ·subst w; exact gz
   ·rw [bL w]; exact g.n b (by rw [ai w]; exact h1) (by rw [ai w]; exact h2) fun xs=>by rw [ai w]; exact h3 xs⟩
theorem Cg {Hf:Hp} {p:Addr} {K:GW} {a:Addr} {xs:List V} {o:Obj} {u:HO} (hp:Hf p=some (.frz o u)) (hd:HO.dct u) (h:SqT K Hf a xs):SqT K (del Hf p) a xs:=by
 rcases h with (h | ⟨o',h⟩) | h
 ·exact .inl (.inl (by rw [bL (by rintro rfl; rw [hp] at h; cases h)]; exact h))
 ·exact .inl (.inr ⟨o',by rw [bL (by rintro rfl; rw [hp] at h; cases h; exact hd)]; exact h⟩)
 ·exact .inr h
mutual
theorem yV {K:GW} {Hf:Hp} {p:Addr} {o:Obj} {u:HO} (hp:Hf p=some (.frz o u)) (hd:HO.dct u):∀ (d:D) {v:V},d.nl→Rep K Hf d v→Rep K (del Hf p) d v
 | .non,_,_,h=>by simpa [Rep] using h
 | .bl _,_,_,h=>by simpa [Rep] using h
 | .int _,_,_,h=>by simpa [Rep] using h
 | .str _,_,_,h=>by simpa [Rep] using h
 | .adr _,_,_,h=>by simpa [Rep] using h
 | .tup ds,v,f,h=>by
  simp only [Rep] at h ⊢
  obtain ⟨a,xs,e,h1,h2⟩:=h
  exact ⟨a,xs,e,Cg hp hd h1,nG hp hd ds (by simpa [D.nl] using f) h2⟩
 | .lst _,_,f,_=>by simp [D.nl] at f
 | .fdK _ _,_,f,_=>by simp [D.nl] at f
 | .fdT _ _,_,f,_=>by simp [D.nl] at f
 | .exc C,_,_,h=>by
  simp only [Rep] at h ⊢
  obtain ⟨a,e,h⟩:=h
  exact ⟨a,e,by rw [bL (by rintro rfl; rw [hp] at h; cases h)]; exact h⟩
theorem nG {K:GW} {Hf:Hp} {p:Addr} {o:Obj} {u:HO} (hp:Hf p=some (.frz o u)) (hd:HO.dct u):∀ (ds:List D) {xs:List V},D.nls ds→aj K Hf ds xs→aj K (del Hf p) ds xs
 | [],_,_,h=>by simpa [aj] using h
 | d::ds,xs,f,h=>by
  simp only [aj] at h ⊢
  simp only [D.nls] at f
  obtain ⟨x,r,e,h1,h2⟩:=h
  exact ⟨x,r,e,yV hp hd d f.1 h1,nG hp hd ds f.2 h2⟩
end
section
variable {P:Program} {w:World} {K:GW} {mg:Str→Option Value} {base:Heap} {k:Nat} {N:List Str} {sc:Scope} {bk:Bool} {c:Ctx P w K mg base k N sc bk} {ρ ρ':List Sl} {e:Expr} {R:D→Prop} {T:Bool→Prop} {nx:List Sl→Prop} {p:Pt} {i:Nat} {r:Sl} {d0:D}
theorem yW {σ:L2.St} {H Hf:Hp} {Q:VK} (S:aU c σ H Hf ρ) (hi:At ρ i r) (hr:r.pH=some d0) (hs:SSet ρ i (.va d0) ρ')
 (h:∀ q u o,H q=some u→Hf q=none→HO.dct u→aU c σ (upd H q (.frz o u)) (upd Hf q (.frz o u)) ρ'→bE c.X e σ (upd H q (.frz o u)) fun v H'=>∃ Hf',Grw (upd H q (.frz o u)) (upd Hf q (.frz o u)) H' Hf'∧Q v (upd H' q u)):bE c.X e σ H Q:=by
 obtain ⟨q,u,hq,hfq,hd,S1⟩:=S.Cf hi.get hr
 intro pins s I
 obtain ⟨o,I1,nf⟩:=Ce I hq hd
 have S2:=S1 o
 rw [← hs.eq] at S2
 refine thn (h q u o hq hfq hd S2 pins s I1) fun v s' ⟨x,H',I',rv,Hf',g,hQ⟩=>⟨x,_,yU I' (g.s q _ ah) nf,rv,hQ⟩
theorem rm (i:Nat) {R:Sl→Prop} (hi:At ρ i r) (hr:r.pH=some d0) (hs:SSet ρ i (.va d0) ρ') (h:EvX c e ρ' fun d=>Sd d.nl (R d)):EvX c e ρ R:=fun σ H Hf Q S q=>by
 refine yW S hi hr hs fun a u o ha hfa hd S1=>h σ _ _ _ S1 fun r1 v H' Hf' ⟨fl,rd⟩ rv g=>⟨Hf',g,?_⟩
 have hp:=g.f a _ ah
 refine q r1 v _ (del Hf' a) rd ?_ (vH S.sb ha hfa g)
 have hH:H' a=some (.frz o u):=g.s a _ ah
 cases r1 with
 | va d=>exact yV hp hd d fl rv
 | ow ds =>
  obtain ⟨b,xs,rfl,fb,h1,h2,h3⟩:=rv
  have nb:b≠a:=by rintro rfl; rw [show (upd H b (.frz o u)) b=_ from ah] at fb; cases fb
  exact ⟨b,xs,rfl,by rw [ai nb] at fb; exact fb,by rw [ai nb]; exact h1,by rw [bL nb]; exact h2,nG hp hd ds fl h3⟩
 | _=>exact fl.elim
end
noncomputable def ItG (h:Heap) (it d:Addr) (i n ep:Nat):Prop :=
 ∃ (x:Value) (f:Bool) (k v:Value),h.get? it=some { cls:=.type "dict_itemiterator",dict:=none,data:=.fields #[x,.bool f,.ref d,.int i 0,.int n 0,.int ep 0,k,v],slots:= #[] }∧(x=.none∨∃ a:Addr,x=rawInt a)
section
variable {prog:Program} {w:World} {A:Around} {E:Value→Shared→Prop} {s:Shared} {it d:Addr} {i n ep:Nat} {od:Obj} {es:Array DictEntry}
theorem nH:Builtin.Dict_items.ownsTuple "dict_itemiterator"=true:=by decide
theorem pI {M:Model} {a:Addr} {Q:Option Obj→Shared→Prop} (h:Q (s.heap.get? a) s):wpAny M A (loadIfAlive a) Q E s:=fun Γ p z=>by
 show Sem.wp M Γ (Sem.loadIfAlive a Sem.pure) _ _ p s
 rw [Sem.wp_loadIfAlive,Sem.wp]
 exact h
theorem yX {h:Heap} {x k v a b:Value} {f:Bool} {Q:Value→Shared→Prop} (hs:s.heap=h) (hit:h.get? it=some { cls:=.type "dict_itemiterator",dict:=none,data:=.fields #[x,.bool f,.ref d,.int i 0,.int n 0,.int ep 0,k,v],slots:= #[] }) (hx:x=.none∨∃ a:Addr,x=rawInt a)
 (hQ:∀ h',ItG h' it d i n ep→h'.get? h.objs.size=some { cls:=.type "tuple",data:=.seq #[a,b] }→h'.objs.size=h.objs.size+1→(∀ c o,c≠it→h.get? c=some o→h'.get? c=some o)→Q (.ref h.objs.size) { s with heap:=h' }) :
 wpAny (model prog w) A (Me (.ref it) 6 a b) Q E s:=by
 subst hs
 have lt:it<s.heap.objs.size:=G2 hit
 have ne:s.heap.objs.size≠it:=JG lt
 unfold Me
 refine GU (LP ?_)
 have hit2:=G1 ({ cls:=.type "tuple",data:=.seq [a,b].toArray }:Obj) hit
 have htu:(s.heap.push { cls:=.type "tuple",data:=.seq [a,b].toArray }).get? s.heap.objs.size=some { cls:=.type "tuple",data:=.seq #[a,b] }:=G7 _ rfl
 have hsz:(s.heap.push { cls:=.type "tuple",data:=.seq [a,b].toArray }).objs.size=s.heap.objs.size+1:=IY ..
 have hold:∀ c o,s.heap.get? c=some o→(s.heap.push { cls:=.type "tuple",data:=.seq [a,b].toArray }).get? c=some o:=fun c o e=>G1 _ e
 generalize (s.heap.push { cls:=.type "tuple",data:=.seq [a,b].toArray })=h2 at hit2 htu hsz hold ⊢
 have free:wpAny (model prog w) A (do
  let old:=[← field (.ref it) 6,← field (.ref it) (6+1)]
  setField (.ref it) 6 a; setField (.ref it) (6+1) b
  setField (.ref it) 0 (rawInt s.heap.objs.size); setField (.ref it) 1 (.bool false)
  letGo old [.ref s.heap.objs.size]
  pure (Hr s.heap.objs.size)) Q E { s with heap:=h2 }:=by
  refine GU (HR hit2 rfl (x:=k) rfl (GU (HR hit2 rfl (x:=v) rfl ?_)))
  refine GU (II hit2 (by simp) fun h3 e3 s3=>?_)
  refine GU (II e3 (by simp) fun h4 e4 s4=>?_)
  refine GU (II e4 (by simp) fun h5 e5 s5=>?_)
  refine GU (II e5 (by simp) fun h6 e6 s6=>?_)
  have keep:∀ c o,c≠it→h2.get? c=some o→h6.get? c=some o:=fun c o hc e=>s6.extBut c o hc (s5.extBut c o hc (s4.extBut c o hc (s3.extBut c o hc e)))
  refine GU (J6 (GX (hQ h6 ⟨_,_,_,_,e6,.inr ⟨_,rfl⟩⟩ (keep _ _ ne htu) ?_ fun c o hc e=>keep c o hc (hold c o e))))
  rw [s6.1,s5.1,s4.1,s3.1,hsz]
 have told:∀ (h3:Heap) (x:Value) (f:Bool),h3.get? it=some { cls:=.type "dict_itemiterator",dict:=none,data:=.fields #[x,.bool f,.ref d,.int i 0,.int n 0,.int ep 0,k,v],slots:= #[] }→(x=.none∨∃ a:Addr,x=rawInt a) →
  Jj it h2 h3→Q (.ref s.heap.objs.size) { s with heap:=h3 }:=fun h3 x f e hx' s3 =>
  hQ h3 ⟨x,f,k,v,e,hx'⟩ (s3.extBut _ _ ne htu) (by rw [s3.1,hsz]) fun c o hc e=>s3.extBut c o hc (hold c o e)
 show wpAny _ _ (Nb (.ref it) >>= _) _ _ _
 unfold Nb
 refine GU (GU (HR hit2 rfl (x:=x) rfl ?_))
 rcases hx with rfl | ⟨a0,rfl⟩
 ·exact GX free
 ·show wpAny _ _ (loadIfAlive (a0:Int).toNat >>= _) _ _ _
  refine GU (pI ?_)
  split
  ·exact GX free
  ·refine GU ?_
   refine HR hit2 rfl (x:=.bool f) rfl ?_
   cases f with
   | true =>
    dsimp only
    rw [if_neg (by decide)]
    exact GX (GX (told h2 _ _ hit2 (.inr ⟨a0,rfl⟩) (.refl ..)))
   | false =>
    dsimp only
    rw [if_pos (by decide)]
    refine GU (II hit2 (by simp) fun h3 e3 s3=>?_)
    exact GX (GX (told h3 _ true e3 (.inr ⟨a0,rfl⟩) s3))
theorem ItG.tyIs (h:ItG s.heap it d i n ep):s.TypeIs (.ref it) "dict_itemiterator":=let ⟨_,_,_,_,e,_⟩:=h; ⟨_,e,rfl⟩
theorem next_item {e:DictEntry} {Q:Option Value→Shared→Prop} (hit:ItG s.heap it d i es.size ep) (hod:s.heap.get? d=some od) (hdd:od.data=.dict es ep) (hx:es[i]?=some e)
 (hQ:∀ h',ItG h' it d (i+1) es.size ep→h'.get? s.heap.objs.size=some { cls:=.type "tuple",data:=.seq #[e.key,e.val] }→h'.objs.size=s.heap.objs.size+1→(∀ c o,c≠it→s.heap.get? c=some o→h'.get? c=some o)→Q (some (.ref s.heap.objs.size)) { s with heap:=h' }) :
 wpAny (model prog w) A (pyNext (.ref it)) Q E s:=by
 have hT:=hit.tyIs
 obtain ⟨x,f,k,v,hat,hxx⟩:=hit
 have hlt:i<es.size:=(Kg.mp hx).1
 unfold pyNext
 refine GU (JD (Jf (name:=GV "__next__") hT Kc (IJ Kc hT Ni ?_ (Nd _))))
 refine GU (GX (GU (GU ?_)))
 first | refine GU (La hT (GX ?_)) | refine GU (Lc hT (GX ?_))
 refine GU (wpAny_fieldsOf hat rfl ?_)
 simp only [nH,if_true]
 show wpAny _ _ (if (Hr d == Ik)=true then _ else _) _ _ _
 rw [if_neg (show ¬ (Hr d == Ik)=true from G6)]
 refine GU (GX (GU (MK hod hdd ?_)))
 rw [if_neg (by simp)]
 refine GU (GX (GU (wpAny_dictEpoch hod hdd ?_)))
 rw [if_neg (by simp)]
 refine GX ?_
 simp only [show ¬ ((i:Int)<0) from by omega,if_false,Ij,hx]
 refine GU ?_
 first | refine GU (La hT (GX ?_)) | refine GU (Lc hT (GX ?_))
 refine GU (Mp hT ?_)
 show wpAny _ _ (setField (.ref it) 3 (rawInt ((i:Int)+1)) >>= _) _ _ s
 refine GU (II hat (by simp) fun h1 e1 s1=>?_)
 have e1':h1.get? it=some { cls:=.type "dict_itemiterator",dict:=none,data:=.fields #[x,.bool f,.ref d,.int ((i+1:Nat):Int) 0,.int es.size 0,.int ep 0,k,v],slots:= #[] }:=by
  have q:((i+1:Nat):Int)=(i:Int)+1:=by omega
  rw [q]; simpa [rawInt] using e1
 have hT1:Shared.TypeIs { s with heap:=h1 } (.ref it) "dict_itemiterator":=⟨_,e1',rfl⟩
 refine GU (IF ?_)
 refine GU (Mp hT1 (GU (Mp hT1 ?_)))
 show wpAny _ _ (Me (.ref it) 6 e.key e.val) _ _ { s with heap:=h1 }
 have z1:h1.objs.size=s.heap.objs.size:=s1.1
 refine yX (s:={ s with heap:=h1 }) rfl e1' hxx fun h2 g2 t2 z2 k2=>?_
 rw [z1] at t2 z2 ⊢
 exact GX ⟨_,rfl,GX (hQ h2 g2 t2 z2 fun c o hc q=>k2 c o hc (s1.extBut c o hc q))⟩
theorem next_end {Q:Option Value→Shared→Prop} (hh:A.handled=none) (hit:ItG s.heap it d i es.size ep) (hod:s.heap.get? d=some od) (hdd:od.data=.dict es ep) (hx:es.size≤i)
 (hQ:∀ h',J8 it s.heap h'→Q none { s with heap:=h' }):wpAny (model prog w) A (pyNext (.ref it)) Q E s:=by
 have hT:=hit.tyIs
 obtain ⟨x,f,k,v,hat,hxx⟩:=hit
 unfold pyNext
 refine GU (JD (Jf (name:=GV "__next__") hT Kc (IJ Kc hT Ni ?_ (Nd _))))
 refine GU (GX (GU (GU ?_)))
 first | refine GU (La hT (GX ?_)) | refine GU (Lc hT (GX ?_))
 refine GU (wpAny_fieldsOf hat rfl ?_)
 simp only [nH,if_true]
 show wpAny _ _ (if (Hr d == Ik)=true then _ else _) _ _ _
 rw [if_neg (show ¬ (Hr d == Ik)=true from G6)]
 refine GU (GX (GU (MK hod hdd ?_)))
 rw [if_neg (by simp)]
 refine GU (GX (GU (wpAny_dictEpoch hod hdd ?_)))
 rw [if_neg (by simp)]
 refine GX ?_
 simp only [show ¬ ((i:Int)<0) from by omega,if_false,Ij,Mw hx]
 refine GU ?_
 first | refine GU (La hT (GX ?_)) | refine GU (Lc hT (GX ?_))
 show wpAny _ _ (setField (.ref it) 2 .none >>= _) _ _ s
 refine GU (KY hat rfl (by simp) (GU ?_))
 simp only [newExc,newTuple]
 refine GU (Iw ?_ (by size_fits))
 refine GU (m:=firstArgMember _ _) (wpAny_of_eq (a:=Ik) (by first | rfl | (simp only [firstArgMember]; rfl)) ?_)
 refine Iw ?_ (by size_fits)
 simp only [raiseNew]
 refine GU (wpAny_handled ?_)
 rw [show A.in1.handled=none from hh]
 refine GU (GX (wpAny_throw ?_))
 refine GU (LG (T:="StopIteration") (b:=true) ⟨_,G7 _ rfl,rfl⟩ isSubtype_stop ?_)
 exact GX (hQ _ (((Ko ..).extBut.push _).push _))
theorem Ci {tg:Expr} {a:Addr} {Q:Unit→Shared→Prop} (hit:ItG s.heap it d i n ep) (h:∀ h',ItG h' it d i n ep→Jj it s.heap h'→Q () { s with heap:=h' }):wpAny (model prog w) A (letOwnedTupleGo tg (.ref it) (.ref a)) Q E s:=by
 have stay:Q () s:=h s.heap hit (.refl ..)
 obtain ⟨x,f,k,v,hat,hxx⟩:=hit
 have part:wpAny (model prog w) A (do
  let o ← load it
  match o.cls,o.data with
  | .type n,.fields vs =>
   if (["enumerate","zip","dict_itemiterator","dict_reverseitemiterator","odict_iterator","itertools.zip_longest","itertools.pairwise"].contains n && vs[0]? == some (rawInt a))=true then do
    rule "for.unpacks-the-owned-tuple"
    updateField it 0 .none
   else pure ()
  | _,_=>pure ()) Q E s:=by
  refine GU (wpAny_load hat ?_)
  dsimp only
  split
  ·refine GU (Iq ?_)
   show wpAny _ _ (setField (.ref it) 0 .none) Q E s
   exact II hat (by simp) fun h' e' s'=>h h' ⟨_,_,_,_,e',.inl rfl⟩ s'
  ·exact GX stay
 unfold letOwnedTupleGo
 cases tg <;> first
  | exact GX stay
  | exact part
end
noncomputable def bR:HO→List (V×V)
 | .dK ys=>ys.map fun y=>(kV y.1,y.2)
 | .dT ys=>ys.map fun y=>(.ref y.2.1,y.2.2)
 | _=>[]
theorem t6 {k:Key} {v:Value} (h:jH k v=true):RelV (kV k) v:=by
 rcases bh h with ⟨i,t,rfl,rfl⟩ | ⟨x,t,rfl,rfl⟩
 ·exact ⟨t,rfl⟩
 ·exact ⟨t,rfl⟩
theorem cE {P:Program} {w:World} {H:Hp} {h:Heap} {d:Addr} {o:Obj} {u:HO} (ok:aS P w H h d u) (hd:HO.dct u) (ho:h.get? d=some o) :
 o.ExactDict∧∃ es ep,o.data=.dict es ep∧Paired (fun (a:V×V) (e:DictEntry)=>RelV a.1 e.key∧RelV a.2 e.val) (bR u) es.toList∧(d == sysModules)=false∧(bR u).length≤sizeLine:=by
 cases u with
 | dK ys =>
  obtain ⟨z,y,vs,kv,o',es,ep,h1,h2,h3,h4,h5,h6⟩:=ok
  rw [ho] at h1; cases h1
  refine ⟨h2,es,ep,h3,?_,y,by simpa [bR] using z⟩
  show Paired _ (ys.map _) _
  clear h3 h4 h6 z
  generalize es.toList=l at h5 ⊢
  unfold KV at kv
  induction kv generalizing l with
  | nil=>cases h5; exact .nil
  | @cons a b as bs q t ih =>
   cases h5 with
   | cons r t' t''=>exact .cons ⟨by show L2.RelV (kV a.1) _; rw [q.1]; exact t6 r,by rw [t']; exact q.2⟩ (ih hd _ t'')
 | dT ys =>
  obtain ⟨z,y,xs,kv,o',es,ep,h1,h2,h3,h4,h5⟩:=ok
  rw [ho] at h1; cases h1
  refine ⟨h2,es,ep,h3,?_,y,by simpa [bR] using z⟩
  rw [h4]
  show Paired _ (ys.map _) _
  clear h3 h4 h5 z
  induction kv with
  | nil=>exact .nil
  | @cons a b as bs q t ih =>
   rw [G3,G3]
   refine .cons ⟨?_,q.2.2⟩ (ih hd)
   show Hr b.2.1=Hr a.2.1
   rw [q.2.1]
 | _=>exact hd.elim
theorem dS {α β:Type} {F:α→β→Prop}:∀ {l:List α} {m:List β} {i:Nat} {a:α},Paired F l m→l[i]?=some a→∃ b,m[i]?=some b∧F a b
 | _,_,_,_,.nil,e=>by simp at e
 | _,_,0,_,.cons r _,e=>by simp at e; subst e; exact ⟨_,rfl,r⟩
 | _,_,i+1,a,.cons _ t,e=>by
  obtain ⟨b,h1,h2⟩:=dS (i:=i) t (by simpa using e)
  exact ⟨b,by simpa using h1,h2⟩
noncomputable def Itd (d:Addr) (o:Obj) (u:HO):It :=
 ⟨fun i H=>H d=some (.frz o u)∧i<(bR u).length,fun i H x H'=>∃ p kv,(bR u)[i]?=some kv∧x=.ref p∧H p=none∧H'=upd H p (.tup [kv.1,kv.2]),fun i H=>H d=some (.frz o u)∧(bR u).length≤i⟩
theorem vI:entryFor table "dict_itemiterator.__iter__"=some Builtin.«dict_keyiterator.__iter__» :=entryFor_alias (id':="dict_keyiterator.__iter__") (by kernel_rfl) rfl (by decide +kernel) (by kernel_rfl)
theorem j4 {P:Program} {w:World} {K:GW} {tg:Expr} {d it:Addr} {o:Obj} {u:HO} {es:Array DictEntry} {ep:Nat} (hd:HO.dct u) (hod:o.data=.dict es ep) (hne:it≠d) (hes:es.size=(bR u).length) :
 Turn P w K tg (Itd d o u) [it] it (fun i h=>ItG h it d i es.size ep) where
 mem:=by simp
 obj:=fun i h st b hb=>by
  have e:b=it:=by simpa using hb
  subst e
  obtain ⟨x,f,k,v,e,_⟩:=st
  exact ⟨_,e,fun v z=>by
   have z':KA _=Jp v:=z
   cases z'⟩
 keep:=fun i h h' st k=>by
  obtain ⟨x,f,kk,v,e,hx⟩:=st
  exact ⟨x,f,kk,v,k it (by simp) _ e,hx⟩
 item:=by
  intro X hP hw hK hc i pins s σ H E I hf st hg
  subst hP hw hK
  obtain ⟨hH,hi⟩:=hg
  obtain ⟨f0,f1,f2,f3,f4,f5⟩:=hf it (by simp)
  obtain ⟨ho,ok⟩:=(show aS X.prog X.w H s.heap d (.frz o u) from I.hok d _ hH)
  obtain ⟨_,es',ep',e1,e2,_⟩:=cE ok hd ho
  rw [hod] at e1; cases e1
  obtain ⟨e,he,re⟩:=dS e2 (HD hi)
  have he':es[i]?=some e:=by simpa using he
  refine next_item st ho hod he' fun h1 g1 t1 z1 k1=>?_
  have hil:it<s.heap.objs.size:=by
   obtain ⟨_,_,_,_,q,_⟩:=st
   exact G2 q
  have Hp:H s.heap.objs.size=none:=I.hok.fresh (GZ _)
  have hit0:it≠s.heap.objs.size:=Hs hil
  generalize hkv:(bR u)[i]=kv at re
  have IA:Inv X pins σ (upd H s.heap.objs.size (.tup [kv.1,kv.2])) { s with heap:=s.heap.push { cls:=.type "tuple",data:=.seq #[e.key,e.val] },toks:=s.toks } :=
   I.laid (a:=s.heap.objs.size) (o:=.tup [kv.1,kv.2]) (fun _ _ q=>G1 _ q) (GZ _) ⟨by show 2≤sizeLine; decide,[e.key,e.val],.cons re.1 (.cons re.2 .nil),_,G7 _ rfl,rfl,0,rfl⟩
  have g0:upd H s.heap.objs.size (.tup [kv.1,kv.2]) it=none:=by rw [ai hit0]; exact f0
  have I1:Inv X pins σ (upd H s.heap.objs.size (.tup [kv.1,kv.2])) { s with heap:=h1,toks:=s.toks }:=IA.turned (fun b o hb q=>by
   by_cases z:b=s.heap.objs.size
   ·subst z
    rw [G7 _ rfl] at q; cases q; exact t1
   ·have lt:b<s.heap.objs.size:=by
     have:=G2 q
     rw [IY] at this
     exact Nat.lt_of_le_of_ne (Nat.le_of_lt_succ this) z
    refine k1 b o hb ?_
    rw [LC _ _ _ z] at q; exact q) g0 f1 f3 f4 f5
  refine ⟨_,rfl,Ci (s:={ s with heap:=h1 }) g1 fun h2 g2 s2=>?_⟩
  refine ⟨.ref s.heap.objs.size,_,I1.turned (t':=s.toks) (fun b o hb q=>(s2.2 b hb).trans q) g0 f1 f3 f4 f5,rfl,⟨_,kv,by rw [HD hi,hkv],rfl,Hp,rfl⟩,g2,fun b hb=>?_⟩
  have e:b=it:=by simpa using hb
  rw [e]; exact g0
 done:=by
  intro X hP hw hK hc i pins s σ H E I hf st hg
  subst hP hw hK
  obtain ⟨hH,hi⟩:=hg
  obtain ⟨f0,f1,f2,f3,f4,f5⟩:=hf it (by simp)
  obtain ⟨ho,ok⟩:=(show aS X.prog X.w H s.heap d (.frz o u) from I.hok d _ hH)
  exact next_end (I.ok.hd hc) st ho hod (by omega) fun h' eb=>⟨rfl,I.turned (t':=s.toks) (fun b o hb e=>eb b o hb e) f0 f1 f3 f4 f5⟩
 self:=by
  intro A i s Q E st h
  have hT:=st.tyIs
  refine wpAny_pyIter_slot hT Nl (IJ Nl hT vI ?_ (F.args_dict_itemiterator_iter_1 _))
  show wpAny _ _ (ret (.ref it)) _ _ s
  exact GX ⟨_,rfl,"dict_itemiterator",_,hT,Kc.lookup,h⟩
section
variable {prog:Program} {w:World} {A:Around} {E:Value→Shared→Prop} {s:Shared}
theorem ja (d:Addr) (hd:(d == sysModules)=false) :
 MeetsIn prog w (Builtin.«dict.items» ⟨[.ref d],[]⟩) (fun _ R s=>s.TypeIs (.ref d) "dict"∧R (.ok (.ret (.ref s.heap.objs.size))) { s with heap:=s.heap.push { cls:=.type "dict_items",data:=.fields #[.ref d] } }) :=
 .of_wp fun A R s ⟨hT,h⟩=>by
  unfold Builtin.«dict.items»
  refine GU ?_
  unfold Builtin.Dict.noArgs
  refine GU (wpAny_notOrdered_dict hT (show wpAny _ _ (pure d) _ _ s from GX ?_))
  show wpAny _ _ (Builtin.Dict.showsAll d >>= _) _ _ s
  unfold Builtin.Dict.showsAll
  rw [if_neg (by rw [hd]; exact G6)]
  exact GU (GX (GU (Iw (GX ⟨_,rfl,h⟩))))
theorem lW {v d:Addr} {od:Obj} {es:Array DictEntry} {ep:Nat} {Q:Value→Shared→Prop} (hv:s.heap.IsItemsView v d) (hod:s.heap.get? d=some od) (hdd:od.data=.dict es ep)
 (hQ:Q (.ref s.heap.objs.size) { s with heap:=s.heap.push { cls:=.type "dict_itemiterator",data:=.fields #[.none,.bool false,.ref d,.int 0 0,.int es.size 0,.int ep 0,.none,.none] } }) :
 wpAny (model prog w) A (pyIter (.ref v)) Q E s:=by
 obtain ⟨ov,hov,hcv,hdv⟩:=id hv
 refine wpAny_pyIter_slot hv.typeIs F.slot_dict_items_iter (IJ F.slot_dict_items_iter hv.typeIs F.entry_dict_items_iter ?_ (F.args_dict_items_iter_1 _))
 unfold Builtin.«dict_items.__iter__»
 refine GU (GX (GU ?_))
 unfold Builtin.Dict_items.dictOf
 refine GU (HR hov hdv (x:=.ref d) rfl (GX (GU ?_)))
 unfold Builtin.Dict_items.newIterator
 refine GU (MK hod hdd (GU (wpAny_dictEpoch hod hdd ?_)))
 simp only [nH,if_true]
 refine Iw (GX ⟨_,rfl,"dict_itemiterator",_,⟨_,G7 _ rfl,rfl⟩,Kc.lookup,?_⟩)
  (by simp only [sizeOk,Nc,Hq,HQ,HV,Jk,sizeLine_eq]; omega)
 simpa [rawInt,Nc] using hQ
end
noncomputable def vJ:Key→D | .inl i=>.int i | .inr x=>.str x
noncomputable def D.pairs:D→Option (List D)
 | .fdK ks ds=>some (K2 (fun k d=>D.tup [vJ k,d]) ks ds)
 | .fdT ks ds=>some (K2 (fun k d=>D.tup [.tup (k.map vJ),d]) ks ds)
 | _=>none
noncomputable def FF (te:TE):TI:=fun σ H R=>te σ H fun x H1=>∃ d o u,x=.ref d∧H1 d=some (.frz o u)∧HO.dct u∧∀ v,H1 v=none→R (Itd d o u) (upd H1 v (.ext fun h=>h.IsItemsView v d))
theorem yY {X:Cx} {tg e:Expr} {ap cp:Pos} {te:TE} (he:PE X e te) (hbase:attributeBase e "items" X.env (eval e X.env)=eval e X.env) (hline:(ap.endLine == cp.line)=true):PI X tg (.Call (.Attribute e "items" ap) [] [] cp) (FF te):=by
 intro pins s σ H R I h
 refine ML (T:="dict") (id:="dict.items") hbase rfl hline F.plainAttrs_dict LD F.type_dict_items (thn (he pins s σ H _ I h) fun v s1 ⟨x,H1,I1,r1,d,o,u,ex,hH,hd,q⟩=>?_)
 subst ex
 cases r1
 obtain ⟨ho,ok⟩:=(show aS X.prog X.w H1 s1.heap d (.frz o u) from I1.hok d _ hH)
 obtain ⟨hx,es,ep,hod,hp,hs,hz⟩:=cE ok hd ho
 have hT:s1.TypeIs (.ref d) "dict":=⟨o,ho,hx.1⟩
 refine ⟨hT,fun b z=>by cases z; exact ⟨o,ho,hx.2.1⟩,?_⟩
 show wpAny _ _ (callWith cp (.builtin "dict.items") [.ref d] [] []) _ _ s1
 refine method_meetsIn LD F.entry_dict_items rfl (MD ⟨rfl,hT,F.args_dict_items_1 _,_,ja d hs,hT,?_⟩)
 have Hv:H1 s1.heap.objs.size=none:=I1.hok.fresh (GZ _)
 have hve:(s1.heap.push { cls:=.type "dict_items",data:=.fields #[.ref d] }).IsItemsView s1.heap.objs.size d:=⟨_,G7 _ rfl,rfl,rfl⟩
 have I2:Inv X pins σ (upd H1 s1.heap.objs.size (.ext fun h=>h.IsItemsView s1.heap.objs.size d)) { s1 with heap:=s1.heap.push { cls:=.type "dict_items",data:=.fields #[.ref d] },toks:=s1.toks } :=
  I1.laid (a:=s1.heap.objs.size) (fun _ _ q=>G1 _ q) (GZ _) ⟨hve,⟨_,G7 _ rfl⟩,fun h1 h2 ⟨o,e,r⟩ k=>⟨o,k o e,r⟩⟩
 refine lW hve (G1 _ ho) hod ?_
 have hsz:es.size=(bR u).length:=by rw [IZ hp]; simp
 have I3:=I2.kept (t':=s1.toks) (h':=(s1.heap.push { cls:=.type "dict_items",data:=.fields #[.ref d] }).push { cls:=.type "dict_itemiterator",data:=.fields #[.none,.bool false,.ref d,.int 0 0,.int es.size 0,.int ep 0,.none,.none] }) fun b o e=>G1 _ e
 refine ⟨_,[_],_,_,_,rfl,I3,j4 (o:=o) (u:=u) (es:=es) (ep:=ep) hd hod (fun z=>?_) hsz,⟨.none,false,.none,.none,G7 _ rfl,.inl rfl⟩,fun b hb=>?_,q _ Hv⟩
 ·have lt:=G2 (G1 ({ cls:=.type "dict_items",data:=.fields #[.ref d] }:Obj) ho)
  rw [z] at lt
  exact absurd lt (IS _)
 ·have e:b=(s1.heap.push { cls:=.type "dict_items",data:=.fields #[.ref d] }).objs.size:=by simpa using hb
  subst e
  exact I2.jJ (GZ _) (I2.hok.fresh (GZ _))
section
variable {K:GW} {Hf:Hp}
theorem pJ {k:Key}:Rep K Hf (vJ k) (kV k):=by
 cases k with
 | inl i=>exact au.mpr rfl
 | inr x=>exact dP.mpr rfl
theorem lX:∀ {ks:List Key},aj K Hf (ks.map vJ) (ks.map kV)
 | []=>aq.mpr rfl
 | k::ks=>.cons pJ lX
noncomputable def lY (K:GW) (Hf:Hp) (d:D) (kv:V×V):Prop:=∃ k e,d=.tup [k,e]∧Rep K Hf k kv.1∧Rep K Hf e kv.2
theorem t8:∀ {ys:List (Key×V)} {vs:List D},aj K Hf vs (ys.map (·.2))→Paired (lY K Hf) (K2 (fun k d=>D.tup [vJ k,d]) (ys.map (·.1)) vs) (ys.map fun y=>(kV y.1,y.2))
 | [],vs,h=>by
  cases vs with
  | nil=>exact .nil
  | cons d ds=>obtain ⟨x,r,e,_⟩:=aB.mp h; cases e
 | y::ys,vs,h=>by
  cases vs with
  | nil=>rw [aq] at h; cases h
  | cons d ds =>
   obtain ⟨x,r,e,h1,h2⟩:=aB.mp h
   cases e
   exact .cons ⟨_,_,rfl,pJ,h1⟩ (t8 h2)
theorem uc:∀ {ys:List (List Key×Addr×V)} {vs:List D},(∀ y∈ys,SqT K Hf y.2.1 (y.1.map kV))→aj K Hf vs (ys.map (·.2.2))→Paired (lY K Hf) (K2 (fun k d=>D.tup [.tup (k.map vJ),d]) (ys.map (·.1)) vs) (ys.map fun y=>(.ref y.2.1,y.2.2))
 | [],vs,_,h=>by
  cases vs with
  | nil=>exact .nil
  | cons d ds=>obtain ⟨x,r,e,_⟩:=aB.mp h; cases e
 | y::ys,vs,hk,h=>by
  cases vs with
  | nil=>rw [aq] at h; cases h
  | cons d ds =>
   obtain ⟨x,r,e,h1,h2⟩:=aB.mp h
   cases e
   exact .cons ⟨_,_,rfl,aC.mpr ⟨_,_,rfl,hk y Hg,lX⟩,h1⟩ (uc (fun z hz=>hk z (Hl _ hz)) h2)
theorem lZ {d:D} {ds:List D} {v:V} (hp:d.pairs=some ds) (h:Rep K Hf d v):∃ a o u,v=.ref a∧Hf a=some (.frz o u)∧HO.dct u∧Paired (lY K Hf) ds (bR u):=by
 cases d with
 | fdK ks vs =>
  cases hp
  obtain ⟨a,ys,o,rfl,h1,h2,h3⟩:=gu.mp h
  subst h2
  exact ⟨a,o,_,rfl,h1,trivial,t8 h3⟩
 | fdT ks vs =>
  cases hp
  obtain ⟨a,ys,o,rfl,h1,h2,h3,h4⟩:=nc.mp h
  subst h2
  exact ⟨a,o,_,rfl,h1,trivial,uc h3 h4⟩
 | _=>cases hp
theorem j5 {ds:List D} {a:Addr} {o:Obj} {u:HO} (h:Hf a=some (.frz o u)) (hp:Paired (lY K Hf) ds (bR u)):gy K (Itd a o u) ds Hf where
 go:=fun i d H Hf1 s1 s2 e=>by
  obtain ⟨kv,ekv,k,dd,rfl,r1,r2⟩:=dS hp e
  refine ⟨⟨s2 _ _ (s1 _ _ h),(G8.mp ekv).1⟩,fun x H' ⟨p,kv',e1,e2,e3,e4⟩=>?_⟩
  rw [ekv] at e1; cases e1
  subst e2 e4
  have g:=Grw.new s2 e3 (o:=.tup [kv.1,kv.2])
  exact ⟨upd Hf1 p (.tup [kv.1,kv.2]),g,aC.mpr ⟨p,_,rfl,.inl (.inl ah),.cons (Rep.mono (s1.trans g.f) _ r1) (.cons (Rep.mono (s1.trans g.f) _ r2) (aq.mpr rfl))⟩⟩
 stop:=fun i H Hf1 s1 s2 e=>⟨s2 _ _ (s1 _ _ h),by rw [← IZ hp]; exact e⟩
end
section
variable {P:Program} {w:World} {K:GW} {mg:Str→Option Value} {base:Heap} {k:Nat} {N:List Str} {sc:Scope} {bk:Bool} {c:Ctx P w K mg base k N sc bk} {ρ:List Sl} {ap cp:Pos} {e tg:Expr}
theorem Cj {R:List D→Prop} (h:EvE c e ρ fun d=>∃ ds,d.pairs=some ds∧R ds)
 (hb:∀ env,attributeBase e "items" env (eval e env)=eval e env:=by intro _; walk_at "u") (hl:(ap.endLine == cp.line)=true:=by walk_at "u") :
 EvI c tg (.Call (.Attribute e "items" ap) [] [] cp) ρ R:=fun σ H Hf Q S q pins s I =>
 yY (pbE (X:=c.X)) (hb _) hl pins s σ H Q I (h σ H Hf _ S fun d v H1 Hf1 ⟨ds,hp,hR⟩ rv g=>by
  obtain ⟨a,o,u,e1,e2,e3,e4⟩:=lZ hp rv
  refine ⟨a,o,u,e1,g.b _ _ e2,e3,fun vw hv=>?_⟩
  exact q ds _ _ Hf1 hR (g.trans (Grw.eG g.b hv)) (j5 e2 e4))
theorem FG {x:D} {ds:List D} {Q:List D→Prop} (e:x.pairs=some ds) (h:Q ds):∃ ys,x.pairs=some ys∧Q ys:=⟨ds,e,h⟩
end
end EV
namespace SR
open PySem PyProof.Rows
noncomputable def cg:Bool→Keyed→Array Keyed→Nat→Nat→Nat→StateT SortSt Sem (Option Nat):=sortPriv% PySem.Builtin.gallop
noncomputable def bO:Nat→StateT SortSt Sem Unit:=sortPriv% PySem.Builtin.setMinGallop
noncomputable def cN (left:Bool) (key:Keyed) (arr:Array Keyed) (base i:Nat):StateT SortSt Sem (Option Bool):=do
 let x ← elem' arr (base+i)
 if left then lt' x key else return (← lt' key x).map (!·)
noncomputable abbrev pK:=Option (Option Nat)×Nat×Nat
noncomputable def j6 (bey:Nat→StateT SortSt Sem (Option Bool)) (n lo hi:Nat):StateT SortSt Sem (Option Nat):=do
 let __s ← forIn [0:n] ((none,lo,hi):pK) fun _ __s =>
  if __s.snd.fst≥__s.snd.snd then pure (IP (none,__s.snd.fst,__s.snd.snd))
  else do
   let __x ← bey (__s.snd.fst+(__s.snd.snd - __s.snd.fst) / 2)
   match __x with
   | some more=>if more=true then pure (Ic (none,__s.snd.fst+(__s.snd.snd - __s.snd.fst) / 2+1,__s.snd.snd)) else pure (Ic (none,__s.snd.fst,__s.snd.fst+(__s.snd.snd - __s.snd.fst) / 2))
   | _=>pure (IP (some none,__s.snd.fst,__s.snd.snd))
 match __s.fst with
 | some r=>pure r
 | none=>pure (some __s.snd.snd)
noncomputable def yZ (bey:Nat→StateT SortSt Sem (Option Bool)) (n hint maxofs:Nat):StateT SortSt Sem pK :=
 forIn [0:n] ((none,0,1):pK) fun _ __s =>
  if __s.snd.snd≥maxofs then pure (IP (none,__s.snd.fst,__s.snd.snd))
  else do
   let __x ← bey (hint+__s.snd.snd)
   match __x with
   | some more=>if (!more)=true then pure (IP (none,__s.snd.fst,__s.snd.snd)) else pure (Ic (none,__s.snd.snd,2 * __s.snd.snd+1))
   | _=>pure (IP (some none,__s.snd.fst,__s.snd.snd))
noncomputable def y9 (bey:Nat→StateT SortSt Sem (Option Bool)) (n hint maxofs:Nat):StateT SortSt Sem pK :=
 forIn [0:n] ((none,0,1):pK) fun _ __s =>
  if __s.snd.snd≥maxofs then pure (IP (none,__s.snd.fst,__s.snd.snd))
  else do
   let __x ← bey (hint - __s.snd.snd)
   match __x with
   | some found=>if found=true then pure (IP (none,__s.snd.fst,__s.snd.snd)) else pure (Ic (none,__s.snd.snd,2 * __s.snd.snd+1))
   | _=>pure (IP (some none,__s.snd.fst,__s.snd.snd))
local macro_rules | `(tactic| walk_at "dl gallop")=>do
 let i:=J4 (JR `PySem.Builtin.List.W1All `PySem.Builtin.gallop)
 `(tactic| delta $i)
theorem rA (left:Bool) (key:Keyed) (arr:Array Keyed) (base n hint:Nat):cg left key arr base n hint=(do
 let __x ← cN left key arr base hint
 match __x with
 | some right =>
  if right=true then do
   let __s ← yZ (cN left key arr base) n hint (n - hint)
   match __s.fst with
   | some r=>pure r
   | none=>j6 (cN left key arr base) n (hint+__s.snd.fst+1) (hint+min __s.snd.snd (n - hint))
  else do
   let __s ← y9 (cN left key arr base) n hint (hint+1)
   match __s.fst with
   | some r=>pure r
   | none=>j6 (cN left key arr base) n (hint+1 - min __s.snd.snd (hint+1)) (hint - __s.snd.fst)
 | _=>pure none):=by
 unfold cg
 walk_at "dl gallop"
 unfold yZ y9 j6 cN
 dsimp only
 congr 1
 funext x
 cases x with
 | none=>rfl
 | some right =>
  dsimp only
  cases right with
  | true =>
   rw [if_pos rfl,if_pos rfl]
   congr 1
   funext c
   obtain ⟨r,l,o⟩:=c
   cases r with
   | some r=>rfl
   | none =>
    dsimp only
    congr 1
    funext c
    obtain ⟨r,l,o⟩:=c
    cases r <;> rfl
  | false =>
   rw [if_neg G6,if_neg G6]
   congr 1
   funext c
   obtain ⟨r,l,o⟩:=c
   cases r with
   | some r=>rfl
   | none =>
    dsimp only
    congr 1
    funext c
    obtain ⟨r,l,o⟩:=c
    cases r <;> rfl
section
variable {prog:Program} {w:World} {A:Around} {E:Value→Shared→Prop} {s:Shared} {L:List Keyed} {κ:SortKind} {rk:Keyed→Int}
noncomputable def Cmp (prog:Program) (w:World) (A:Around) (s:Shared) (κ:SortKind) (rk:Keyed→Int) (L:List Keyed):Prop :=
 ∀ x∈L,∀ y∈L,∀ (E:Value→Shared→Prop) (Q:Bool→Shared→Prop),Q (decide (rk x<rk y)) s→wpAny (model prog w) A (keyLt' κ x.1 y.1) Q E s
noncomputable def R (rk:Keyed→Int) (xs:Array Keyed) (i:Nat):Int:=match xs[i]? with | some p=>rk p | none=>0
theorem cO {xs:Array Keyed} {i:Nat} {p:Keyed} (h:xs[i]?=some p):R rk xs i=rk p:=by unfold R; rw [h]
theorem bK {xs ys:Array Keyed} {i j:Nat} (h:xs[i]?=ys[j]?):R rk xs i=R rk ys j:=by unfold R; rw [h]
theorem j7 {st:SortSt} {x y:Keyed} {Q:Option Bool→SortSt→Prop} (hC:Cmp prog w A s κ rk L) (hk:kindOf st=κ) (hx:x∈L) (hy:y∈L) (h:Q (some (decide (rk x<rk y))) st):wpS (model prog w) A E s (lt' x y) Q st:=by
 rw [lt'_eq]
 refine GY (IT ?_)
 rw [hk]
 refine GY (JN (JD (hC x hx y hy _ _ ⟨rfl,?_⟩)))
 exact G0 h
theorem aI {st:SortSt} {arr:Array Keyed} {i:Nat} {p:Keyed} {Q:Keyed→SortSt→Prop} (hi:arr[i]?=some p) (h:Q p st):wpS (model prog w) A E s (elem' arr i) Q st:=by
 rw [elem'_eq,hi]; exact G0 h
theorem vK {st:SortSt} {i j:Nat} {p q:Keyed} {Q:Option Bool→SortSt→Prop} (hC:Cmp prog w A s κ rk L) (hk:kindOf st=κ) (hi:(arrOf st)[i]?=some p) (hj:(arrOf st)[j]?=some q) (hp:p∈L) (hq:q∈L)
 (h:Q (some (decide (R rk (arrOf st) i<R rk (arrOf st) j))) st):wpS (model prog w) A E s (ltAt' i j) Q st:=by
 rw [ltAt'_eq]
 refine GY (IT ?_)
 show wpS _ _ _ _ (do let x ← elem' (arrOf st) i; let y ← elem' (arrOf st) j; lt' x y) Q st
 refine GY (aI hi (GY (aI hj (j7 hC hk hp hq ?_))))
 rw [cO hi,cO hj] at h
 exact h
theorem rB {st:SortSt} {left:Bool} {key:Keyed} {arr:Array Keyed} {base i k:Nat} {p:Keyed} {Q:Option Bool→SortSt→Prop} (hC:Cmp prog w A s κ rk L) (hk:kindOf st=κ) (hkey:key∈L) (hi:arr[base+i]?=some p) (hp:p∈L)
 (hb:(if left=true then rk p<rk key else rk p≤rk key)↔i<k) (h:Q (some (decide (i<k))) st):wpS (model prog w) A E s (cN left key arr base i) Q st:=by
 unfold cN
 refine GY (aI hi ?_)
 cases left with
 | true =>
  simp only [if_true] at hb ⊢
  refine j7 hC hk hp hkey ?_
  rw [decide_eq_decide.mpr hb]; exact h
 | false =>
  simp only [Ib,if_false] at hb ⊢
  refine GY (j7 hC hk hkey hp (G0 ?_))
  have e:(!decide (rk key<rk p))=decide (i<k):=by
   rw [← decide_not]; exact decide_eq_decide.mpr (by rw [← hb]; omega)
  rw [Option.map_some,e]; exact h
theorem j8 {st:SortSt} {bey:Nat→StateT SortSt Sem (Option Bool)} {n lo hi k:Nat} {Q:Option Nat→SortSt→Prop} (hb:∀ i,i<n→∀ (Q:Option Bool→SortSt→Prop),Q (some (decide (i<k))) st→wpS (model prog w) A E s (bey i) Q st)
 (h1:lo≤k) (h2:k≤hi) (h3:hi≤n) (h:Q (some k) st):wpS (model prog w) A E s (j6 bey n lo hi) Q st:=by
 unfold j6
 refine GY (HK (Ip (I:=fun x c st'=>st'=st∧∃ l r,c=(none,l,r)∧l≤k∧k≤r∧r≤n∧r - l≤n - x) (Q:=fun c st'=>st'=st∧∃ l,c=(none,l,k)) ?step ?fin ⟨rfl,lo,hi,rfl,h1,h2,h3,by omega⟩) ?post)
 case fin =>
  rintro c st' ⟨rfl,l,r,rfl,a1,a2,a3,a4⟩
  have:r=k:=by omega
  subst this
  exact ⟨rfl,l,rfl⟩
 case step =>
  rintro x c st' _ hx ⟨rfl,l,r,rfl,a1,a2,a3,a4⟩
  dsimp only
  by_cases hge:l≥r
  ·rw [if_pos hge]
   have:r=k:=by omega
   subst this
   exact G0 ⟨rfl,l,rfl⟩
  ·rw [if_neg hge]
   refine GY (hb _ (by omega) _ ?_)
   dsimp only
   by_cases hm:l+(r - l) / 2<k
   ·rw [decide_eq_true hm,if_pos rfl]
    exact G0 ⟨rfl,_,_,rfl,by omega,by omega,by omega,by omega⟩
   ·rw [decide_eq_false hm,if_neg G6]
    exact G0 ⟨rfl,_,_,rfl,by omega,by omega,by omega,by omega⟩
 case post =>
  rintro c st' ⟨rfl,l,rfl⟩
  exact G0 h
theorem dU {st:SortSt} {left:Bool} {key:Keyed} {arr:Array Keyed} {base n hint k:Nat} {Q:Option Nat→SortSt→Prop} (hC:Cmp prog w A s κ rk L) (hk:kindOf st=κ) (hkey:key∈L) (harr:∀ i,i<n→∃ p,arr[base+i]?=some p∧p∈L)
 (hb:∀ i,i<n→((if left=true then R rk arr (base+i)<rk key else R rk arr (base+i)≤rk key)↔i<k)) (hkn:k≤n) (hh:hint<n) (h:Q (some k) st):wpS (model prog w) A E s (cg left key arr base n hint) Q st:=by
 have bey:∀ i,i<n→∀ (Q:Option Bool→SortSt→Prop),Q (some (decide (i<k))) st→wpS (model prog w) A E s (cN left key arr base i) Q st:=fun i hi Q hQ=>by
  obtain ⟨p,e,hp⟩:=harr i hi
  refine rB hC hk hkey e hp ?_ hQ
  have:=hb i hi
  rw [cO e] at this
  exact this
 rw [rA]
 refine GY (bey hint hh _ ?_)
 dsimp only
 by_cases hr:hint<k
 ·rw [decide_eq_true hr,if_pos rfl]
  unfold yZ
  refine GY (HK (Ip (I:=fun x c st'=>st'=st∧∃ l o,c=(none,l,o)∧hint+l<k∧x<o) (Q:=fun c st'=>st'=st∧∃ l o,c=(none,l,o)∧hint+l<k∧(k≤hint+o∨n - hint≤o)) ?step ?fin ⟨rfl,0,1,rfl,hr,by omega⟩) ?post)
  case fin =>
   rintro c st' ⟨rfl,l,o,rfl,a1,a2⟩
   exact ⟨rfl,l,o,rfl,a1,.inr (by omega)⟩
  case step =>
   rintro x c st' _ hx ⟨rfl,l,o,rfl,a1,a2⟩
   dsimp only
   by_cases hge:o≥n - hint
   ·rw [if_pos hge]; exact G0 ⟨rfl,l,o,rfl,a1,.inr hge⟩
   ·rw [if_neg hge]
    refine GY (bey _ (by omega) _ ?_)
    dsimp only
    by_cases hm:hint+o<k
    ·rw [decide_eq_true hm]; simp only [J1,Ib,if_false]
     exact G0 ⟨rfl,o,2 * o+1,rfl,hm,by omega⟩
    ·rw [decide_eq_false hm]; simp only [Bool.not_false,if_true]
     exact G0 ⟨rfl,l,o,rfl,a1,.inl (by omega)⟩
  case post =>
   rintro c st' ⟨rfl,l,o,rfl,a1,a2⟩
   dsimp only
   exact j8 bey (by omega) (by omega) (by omega) h
 ·rw [decide_eq_false hr,if_neg G6]
  unfold y9
  refine GY (HK (Ip (I:=fun x c st'=>st'=st∧∃ l o,c=(none,l,o)∧l≤hint∧k≤hint - l∧x<o) (Q:=fun c st'=>st'=st∧∃ l o,c=(none,l,o)∧l≤hint∧k≤hint - l∧(hint+1≤k+o∨hint+1≤o)) ?step ?fin ⟨rfl,0,1,rfl,by omega,by omega,by omega⟩) ?post)
  case fin =>
   rintro c st' ⟨rfl,l,o,rfl,a1,a2,a3⟩
   exact ⟨rfl,l,o,rfl,a1,a2,.inr (by omega)⟩
  case step =>
   rintro x c st' _ hx ⟨rfl,l,o,rfl,a1,a2,a3⟩
   dsimp only
   by_cases hge:o≥hint+1
   ·rw [if_pos hge]; exact G0 ⟨rfl,l,o,rfl,a1,a2,.inr hge⟩
   ·rw [if_neg hge]
    refine GY (bey _ (by omega) _ ?_)
    dsimp only
    by_cases hm:hint - o<k
    ·rw [decide_eq_true hm,if_pos rfl]
     exact G0 ⟨rfl,l,o,rfl,a1,a2,.inl (by omega)⟩
    ·rw [decide_eq_false hm,if_neg G6]
     exact G0 ⟨rfl,o,2 * o+1,rfl,by omega,by omega,by omega⟩
  case post =>
   rintro c st' ⟨rfl,l,o,rfl,a1,a2,a3⟩
   dsimp only
   exact j8 bey (by omega) (by omega) (by omega) h
end
noncomputable def j9:Array Keyed→Array Keyed→StateT SortSt Sem (Array Keyed):=sortPriv% PySem.Builtin.mergeLo
theorem dW {M:Model} {A:Around} {E:Value→Shared→Prop} {s:Shared} {g:Nat} {st:SortSt} {Q:Unit→SortSt→Prop} (h:Q () (JK (kindOf st) (arrOf st) (pendingOf st) g (failedOf st))):wpS M A E s (bO g) Q st :=
 Jd (f:=fun st=>JK (kindOf st) (arrOf st) (pendingOf st) g (failedOf st)) h
section
variable {rk:Keyed→Int} {a b:Array Keyed}
noncomputable def Srt (rk:Keyed→Int) (xs:List Keyed):Prop:=xs.Pairwise fun p q=>rk p≤rk q
theorem ud {xs:List Keyed} (h:xs.length≤1):Srt rk xs:=by
 cases xs with
 | nil=>exact KP
 | cons x xs =>
  cases xs with
  | nil=>exact Kh _ _
  | cons y ys=>simp at h
noncomputable def Res (rk:Keyed→Int) (a b r:Array Keyed):Prop:=r.toList.Perm (a.toList++b.toList)∧Srt rk r.toList
structure WL (rk:Keyed→Int) (a b:Array Keyed) (out:Array Keyed) (ia ib:Nat):Prop where
 pa:ia≤a.size
 pb:ib≤b.size
 pm:out.toList.Perm (a.toList.take ia++b.toList.take ib)
 sr:Srt rk out.toList
 ha:∀ p∈out.toList,∀ (j:Nat) (q:Keyed),ia≤j→a[j]?=some q→rk p≤rk q
 hb:∀ p∈out.toList,∀ (j:Nat) (q:Keyed),ib≤j→b[j]?=some q→rk p≤rk q
noncomputable def Up (rk:Keyed→Int) (a:Array Keyed):Prop:=∀ (i j:Nat) (p q:Keyed),i≤j→a[i]?=some p→a[j]?=some q→rk p≤rk q
theorem iD (h:Up rk a):Srt rk a.toList:=by
 unfold Srt
 rw [Mf]
 intro i j hi hj hij
 exact h i j _ _ (JH hij) (by simp at hi ⊢) (by simp at hj ⊢)
theorem FH (h:Srt rk a.toList):Up rk a:=fun i j p q hij e1 e2=>by
 rw [← Ia] at e1 e2
 obtain ⟨h1,r1⟩:=G8.mp e1
 obtain ⟨h2,r2⟩:=G8.mp e2
 subst r1 r2
 rcases Nat.lt_or_eq_of_le hij with z | z
 ·exact (Mf.mp h) i j h1 h2 z
 ·subst z; exact IG _
theorem bw {xs ys:List Keyed} (h1:Srt rk xs) (h2:Srt rk ys) (h3:∀ p∈xs,∀ q∈ys,rk p≤rk q):Srt rk (xs++ys):=List.pairwise_append.mpr ⟨h1,h2,h3⟩
theorem cS (xs:Array Keyed) (i j:Nat):(xs.extract i j).toList=(xs.toList.take j).drop i:=by
 rw [List.drop_take]; simp [List.extract_eq_take_drop]
theorem fF (xs:Array Keyed) (i:Nat):(xs.extract i xs.size).toList=xs.toList.drop i:=by
 rw [cS,KH (by simp)]
theorem gJ (xs:Array Keyed) (i:Nat):(xs.extract i i).toList=[]:=by
 rw [cS,List.drop_take]; simp
theorem ue {xs:Array Keyed} {i j:Nat} {q:Keyed} (h:q∈(xs.extract i j).toList):∃ k,i≤k∧k<j∧xs[k]?=some q:=by
 obtain ⟨n,hn⟩:=Km h
 rw [Ia,Ll] at hn
 split at hn
 ·rename_i z
  exact ⟨i+n,by omega,by omega,hn⟩
 ·cases hn
theorem WL.iE {out:Array Keyed} {ia ib:Nat} (h:WL rk a b out ia ib) (ua:Up rk a) (e:ib=b.size):Res rk a b (out++a.extract ia a.size++b.extract ib b.size):=by
 subst e
 have e0:(out++a.extract ia a.size++b.extract b.size b.size).toList=out.toList++a.toList.drop ia:=by
  rw [IB,IB,fF,fF,List.drop_of_length_le (show b.toList.length≤b.size by simp),Io]
 refine ⟨?_,?_⟩
 ·rw [e0]
  have hp:=h.pm
  rw [KH (show b.toList.length≤b.size by simp)] at hp
  refine (hp.append_right _).trans ?_
  have:(a.toList.take ia++b.toList++a.toList.drop ia).Perm (a.toList.take ia++a.toList.drop ia++b.toList):=by
   rw [Hw,Hw]
   exact Kl _ JT
  rw [Jq] at this
  exact this
 ·rw [e0]
  refine bw h.sr ((iD ua).sublist (MU _ _)) fun p hp q hq=>?_
  obtain ⟨n,hn⟩:=Km hq
  rw [Kq] at hn
  exact h.ha p hp (ia+n) q (by omega) (by rw [← Ia]; exact hn)
theorem WL.iF {out:Array Keyed} {ia ib:Nat} (h:WL rk a b out ia ib) (ub:Up rk b) (e:ia=a.size):Res rk a b (out++a.extract ia a.size++b.extract ib b.size):=by
 subst e
 have e0:(out++a.extract a.size a.size++b.extract ib b.size).toList=out.toList++b.toList.drop ib:=by
  rw [IB,IB,fF,fF,List.drop_of_length_le (show a.toList.length≤a.size by simp),Io]
 refine ⟨?_,?_⟩
 ·rw [e0]
  have hp:=h.pm
  rw [KH (show a.toList.length≤a.size by simp)] at hp
  refine (hp.append_right _).trans ?_
  rw [Hw,Jq]
 ·rw [e0]
  refine bw h.sr ((iD ub).sublist (MU _ _)) fun p hp q hq=>?_
  obtain ⟨n,hn⟩:=Km hq
  rw [Kq] at hn
  exact h.hb p hp (ib+n) q (by omega) (by rw [← Ia]; exact hn)
theorem WL.last {out:Array Keyed} {ia ib:Nat} (h:WL rk a b out ia ib) (ub:Up rk b) (e:ia+1=a.size) (hl:∀ (j:Nat) (p q:Keyed),a[ia]?=some p→b[j]?=some q→rk q≤rk p) :
 Res rk a b (out++b.extract ib b.size++a.extract ia a.size):=by
 have e0:(out++b.extract ib b.size++a.extract ia a.size).toList=out.toList++(b.toList.drop ib++a.toList.drop ia):=by
  rw [IB,IB,fF,fF,Hw]
 refine ⟨?_,?_⟩
 ·rw [e0]
  refine (h.pm.append_right _).trans ?_
  have:(a.toList.take ia++b.toList.take ib++(b.toList.drop ib++a.toList.drop ia)).Perm (a.toList.take ia++a.toList.drop ia++(b.toList.take ib++b.toList.drop ib)):=by
   rw [Hw,Hw]
   refine Kl _ ?_
   rw [← Hw]
   exact JT
  rw [Jq,Jq] at this
  exact this
 ·rw [e0]
  have ml:∀ q∈b.toList.drop ib,∃ j,ib≤j∧b[j]?=some q:=fun q hq=>by
   obtain ⟨n,hn⟩:=Km hq
   rw [Kq] at hn
   exact ⟨ib+n,by omega,by rw [← Ia]; exact hn⟩
  have ml2:∀ q∈a.toList.drop ia,a[ia]?=some q:=fun q hq=>by
   obtain ⟨n,hn⟩:=Km hq
   rw [Kq] at hn
   have:=(G8.mp hn).1
   have hn0:n=0:=by simp at this; omega
   subst hn0
   rw [← Ia]; exact hn
  refine bw h.sr (bw ((iD ub).sublist (MU _ _)) ?_ fun p hp q hq=>?_) fun p hp q hq=>?_
  ·exact ud (by simp; omega)
  ·obtain ⟨j,_,e1⟩:=ml p hp
   exact hl j q p (ml2 q hq) e1
  ·rcases Hy.mp hq with z | z
   ·obtain ⟨j,h1,e1⟩:=ml q z
    exact h.hb p hp j q h1 e1
   ·exact h.ha p hp ia q (GZ _) (ml2 q z)
theorem cj {xs:Array Keyed} {i:Nat} {p:Keyed} (h:xs[i]?=some p):xs.toList.take (i+1)=xs.toList.take i++[p]:=by
 rw [MR,Ia,h]; rfl
theorem WL.eS {out:Array Keyed} {ia ib:Nat} {p:Keyed} (h:WL rk a b out ia ib) (ub:Up rk b) (e:b[ib]?=some p) (hl:∀ (j:Nat) (q:Keyed),ia≤j→a[j]?=some q→rk p≤rk q):WL rk a b (out.push p) ia (ib+1) where
 pa:=h.pa
 pb:=(Kg.mp e).1
 pm:=by
  rw [HL,cj e,← Hw]
  exact h.pm.append_right _
 sr:=by
  rw [HL]
  exact bw h.sr (Kh _ _) fun q hq r hr=>by
   rw [Ho.mp hr]; exact h.hb q hq ib p (GZ _) e
 ha:=fun q hq j r hj er=>by
  rw [HL] at hq
  rcases Hy.mp hq with z | z
  ·exact h.ha q z j r hj er
  ·rw [Ho.mp z]; exact hl j r hj er
 hb:=fun q hq j r hj er=>by
  rw [HL] at hq
  rcases Hy.mp hq with z | z
  ·exact h.hb q z j r (by omega) er
  ·rw [Ho.mp z]; exact ub ib j p r (by omega) e er
theorem WL.eT {out:Array Keyed} {ia ib:Nat} {p:Keyed} (h:WL rk a b out ia ib) (ua:Up rk a) (e:a[ia]?=some p) (hl:∀ (j:Nat) (q:Keyed),ib≤j→b[j]?=some q→rk p≤rk q):WL rk a b (out.push p) (ia+1) ib where
 pa:=(Kg.mp e).1
 pb:=h.pb
 pm:=by
  rw [HL,cj e]
  refine (h.pm.append_right _).trans ?_
  rw [Hw,Hw]
  exact Kl _ JT
 sr:=by
  rw [HL]
  exact bw h.sr (Kh _ _) fun q hq r hr=>by
   rw [Ho.mp hr]; exact h.ha q hq ia p (GZ _) e
 hb:=fun q hq j r hj er=>by
  rw [HL] at hq
  rcases Hy.mp hq with z | z
  ·exact h.hb q z j r hj er
  ·rw [Ho.mp z]; exact hl j r hj er
 ha:=fun q hq j r hj er=>by
  rw [HL] at hq
  rcases Hy.mp hq with z | z
  ·exact h.ha q z j r (by omega) er
  ·rw [Ho.mp z]; exact ua ia j p r (by omega) e er
theorem WL.pM {out:Array Keyed} {ia ib:Nat} (h:WL rk a b out ia ib) (ua:Up rk a):∀ (k:Nat),ia+k≤a.size→(∀ (i j:Nat) (p q:Keyed),ia≤i→i<ia+k→ib≤j→a[i]?=some p→b[j]?=some q→rk p≤rk q)→WL rk a b (out++a.extract ia (ia+k)) (ia+k) ib
 | 0,_,_=>by
  have:out++a.extract ia (ia+0)=out:=by
   apply JL
   rw [IB,Nat.add_zero,gJ,Io]
  rw [this]; exact h
 | k+1,hk,hl=>by
  have ih:=h.pM ua k (by omega) fun i j p q h1 h2=>hl i j p q h1 (by omega)
  have e:a[ia+k]?=some (a[ia+k]'(by omega)):=Hz _
  have z:=ih.eT ua e fun j q hj eq=>hl _ j _ q (by omega) (by omega) hj e eq
  have:out++a.extract ia (ia+(k+1))=(out++a.extract ia (ia+k)).push (a[ia+k]'(by omega)):=by
   apply JL
   simp only [IB,HL,cS]
   rw [show ia+(k+1)=(ia+k)+1 by omega,cj e,Nk (by simp; omega),Hw]
  rw [this]; exact z
theorem WL.pN {out:Array Keyed} {ia ib:Nat} (h:WL rk a b out ia ib) (ub:Up rk b):∀ (k:Nat),ib+k≤b.size→(∀ (i j:Nat) (p q:Keyed),ib≤i→i<ib+k→ia≤j→b[i]?=some p→a[j]?=some q→rk p≤rk q)→WL rk a b (out++b.extract ib (ib+k)) ia (ib+k)
 | 0,_,_=>by
  have:out++b.extract ib (ib+0)=out:=by
   apply JL
   rw [IB,Nat.add_zero,gJ,Io]
  rw [this]; exact h
 | k+1,hk,hl=>by
  have ih:=h.pN ub k (by omega) fun i j p q h1 h2=>hl i j p q h1 (by omega)
  have e:b[ib+k]?=some (b[ib+k]'(by omega)):=Hz _
  have z:=ih.eS ub e fun j q hj eq=>hl _ j _ q (by omega) (by omega) hj e eq
  have:out++b.extract ib (ib+(k+1))=(out++b.extract ib (ib+k)).push (b[ib+k]'(by omega)):=by
   apply JL
   simp only [IB,HL,cS]
   rw [show ib+(k+1)=(ib+k)+1 by omega,cj e,Nk (by simp; omega),Hw]
  rw [this]; exact z
end
section
variable {prog:Program} {w:World} {A:Around} {E:Value→Shared→Prop} {s:Shared} {L:List Keyed} {κ:SortKind} {rk:Keyed→Int} {a b:Array Keyed}
theorem kc (f:Nat→Int) (c:Int):∀ n,(∀ i j,i≤j→j<n→f i≤f j)→∃ k,k≤n∧∀ i,i<n→(f i≤c↔i<k)
 | 0,_=>⟨0,GZ _,fun i hi=>by omega⟩
 | n+1,hm=>by
  obtain ⟨k,h1,h2⟩:=kc f c n fun i j hij hj=>hm i j hij (by omega)
  by_cases hc:f n≤c
  ·refine ⟨n+1,GZ _,fun i hi=>⟨fun _=>hi,fun _=>?_⟩⟩
   exact HJ (hm i n (by omega) (by omega)) hc
  ·refine ⟨k,by omega,fun i hi=>?_⟩
   by_cases hin:i<n
   ·exact h2 i hin
   ·have:i=n:=by omega
    subst this
    exact ⟨fun z=>absurd z hc,fun z=>by omega⟩
theorem kg (f:Nat→Int) (c:Int):∀ n,(∀ i j,i≤j→j<n→f i≤f j)→∃ k,k≤n∧∀ i,i<n→(f i<c↔i<k)
 | 0,_=>⟨0,GZ _,fun i hi=>by omega⟩
 | n+1,hm=>by
  obtain ⟨k,h1,h2⟩:=kg f c n fun i j hij hj=>hm i j hij (by omega)
  by_cases hc:f n<c
  ·refine ⟨n+1,GZ _,fun i hi=>⟨fun _=>hi,fun _=>?_⟩⟩
   exact Lw (hm i n (by omega) (by omega)) hc
  ·refine ⟨k,by omega,fun i hi=>?_⟩
   by_cases hin:i<n
   ·exact h2 i hin
   ·have:i=n:=by omega
    subst this
    exact ⟨fun z=>absurd z hc,fun z=>by omega⟩
theorem up_R (h:Up rk a) {i j:Nat} (hij:i≤j) (hj:j<a.size):R rk a i≤R rk a j:=by
 have e1:a[i]?=some (a[i]'(by omega)):=Hz _
 have e2:a[j]?=some a[j]:=Hz _
 rw [cO e1,cO e2]
 exact h i j _ _ hij e1 e2
structure ck (st st':SortSt):Prop where
 k:kindOf st'=kindOf st
 a:arrOf st'=arrOf st
 p:pendingOf st'=pendingOf st
 f:failedOf st'=failedOf st
theorem ck.refl (st:SortSt):ck st st:=⟨rfl,rfl,rfl,rfl⟩
theorem ck.min {st st':SortSt} (h:ck st st') (g:Nat):ck st (JK (kindOf st') (arrOf st') (pendingOf st') g (failedOf st')):=⟨h.k,h.a,h.p,h.f⟩
theorem ck.trans {s1 s2 s3:SortSt} (h:ck s1 s2) (g:ck s2 s3):ck s1 s3:=⟨g.k.trans h.k,g.a.trans h.a,g.p.trans h.p,g.f.trans h.f⟩
theorem pO {st:SortSt} {key:Keyed} {xs:Array Keyed} {base hint:Nat} {Q:Option Nat→SortSt→Prop} (hC:Cmp prog w A s κ rk L) (hk:kindOf st=κ) (hkey:key∈L) (mx:∀ (i:Nat) (p:Keyed),xs[i]?=some p→p∈L) (ux:Up rk xs) (n:Nat) (hn:base+n≤xs.size) (hh:hint<n)
 (h:∀ k,k≤n→(∀ (i:Nat) (p:Keyed),i<k→xs[base+i]?=some p→rk p≤rk key)→(∀ (i:Nat) (p:Keyed),k≤i→base+i<base+n→xs[base+i]?=some p→rk key<rk p)→Q (some k) st) :
 wpS (model prog w) A E s (cg false key xs base n hint) Q st:=by
 obtain ⟨k,h1,h2⟩:=kc (fun i=>R rk xs (base+i)) (rk key) n fun i j hij hj=>up_R ux (by omega) (by omega)
 refine dU hC hk hkey (fun i hi=>⟨xs[base+i]'(by omega),Hz _,mx _ _ (Hz _)⟩) (fun i hi=>by simp only [Ib,if_false]; exact h2 i hi) h1 hh (h k h1 (fun i p hi e=>?_) fun i p hi hb e=>?_)
 ·have:=(h2 i (by omega)).mpr hi
  rw [cO e] at this; exact this
 ·have:=mt (h2 i (by omega)).mp (by omega)
  rw [cO e] at this; omega
theorem pP {st:SortSt} {key:Keyed} {xs:Array Keyed} {base hint:Nat} {Q:Option Nat→SortSt→Prop} (hC:Cmp prog w A s κ rk L) (hk:kindOf st=κ) (hkey:key∈L) (mx:∀ (i:Nat) (p:Keyed),xs[i]?=some p→p∈L) (ux:Up rk xs) (n:Nat) (hn:base+n≤xs.size) (hh:hint<n)
 (h:∀ k,k≤n→(∀ (i:Nat) (p:Keyed),i<k→xs[base+i]?=some p→rk p<rk key)→(∀ (i:Nat) (p:Keyed),k≤i→base+i<base+n→xs[base+i]?=some p→rk key≤rk p)→Q (some k) st) :
 wpS (model prog w) A E s (cg true key xs base n hint) Q st:=by
 obtain ⟨k,h1,h2⟩:=kg (fun i=>R rk xs (base+i)) (rk key) n fun i j hij hj=>up_R ux (by omega) (by omega)
 refine dU hC hk hkey (fun i hi=>⟨xs[base+i]'(by omega),Hz _,mx _ _ (Hz _)⟩) (fun i hi=>by simp only [if_true]; exact h2 i hi) h1 hh (h k h1 (fun i p hi e=>?_) fun i p hi hb e=>?_)
 ·have:=(h2 i (by omega)).mpr hi
  rw [cO e] at this; exact this
 ·have:=mt (h2 i (by omega)).mp (by omega)
  rw [cO e] at this; omega
structure k9 (rk:Keyed→Int) (a b out:Array Keyed) (ia ib:Nat):Prop where
 w:WL rk a b out ia ib
 la:ia+1<a.size
 lb:ib<b.size
end
section
local macro_rules | `(tactic| walk_at "dl mergeLo")=>do
 let i:=J4 (JR `PySem.Builtin.List.W1All `PySem.Builtin.mergeLo)
 `(tactic| delta $i)
noncomputable abbrev LSt:=Option (Array Keyed)×Array Keyed×Nat×Nat×Nat×Nat×Nat
noncomputable def loA (a b out:Array Keyed) (ia ib:Nat):Array Keyed:=out++a.extract ia a.size++b.extract ib b.size
noncomputable def loB (a b out:Array Keyed) (ia ib:Nat):Array Keyed:=out++b.extract ib b.size++a.extract ia a.size
noncomputable def uf (a b:Array Keyed) (mg ac bc ia ib:Nat) (out:Array Keyed):StateT SortSt Sem (ForInStep LSt):=do
 let p ← elem' a ia
 if (ia+1+1 == a.size)=true then pure (.done (some (loB a b (out.push p) (ia+1) ib),out.push p,ia+1,ib,mg,ac,bc))
 else if (decide (ac<7) && decide (bc<7))=true then pure (.done (none,out.push p,ia+1,ib,mg,ac,bc))
 else pure (.yield (none,out.push p,ia+1,ib,mg,ac,bc))
noncomputable def ug (a b:Array Keyed) (mg ac bc ia ib:Nat) (out:Array Keyed):StateT SortSt Sem (ForInStep LSt):=do
 let q ← elem' b ib
 if (ib+1 == b.size)=true then pure (.done (some (loA a b (out.push q) ia (ib+1)),out.push q,ia,ib+1,mg,ac,bc))
 else do
  let p ← elem' a ia
  let x ← cg true p b (ib+1) (b.size - (ib+1)) 0
  match x with
  | some k=>(if k>0 then
   (if (ib+1+k == b.size)=true then pure (.done (some (loA a b (out.push q++b.extract (ib+1) (ib+1+k)) ia (ib+1+k)),out.push q++b.extract (ib+1) (ib+1+k),ia,ib+1+k,mg,ac,k))
    else uf a b mg ac k ia (ib+1+k) (out.push q++b.extract (ib+1) (ib+1+k)))
   else uf a b mg ac k ia (ib+1) (out.push q))
  | _=>pure (.done (some (loA a b (out.push q) ia (ib+1)),out.push q,ia,ib+1,mg,ac,bc))
noncomputable def uh (a b:Array Keyed) (mg ac bc ia ib:Nat) (out:Array Keyed):StateT SortSt Sem (ForInStep LSt):=do
 bO mg
 let q ← elem' b ib
 let x ← cg false q a ia (a.size - ia) 0
 match x with
 | some k=>(if k>0 then
  (if (ia+k+1 == a.size)=true then pure (.done (some (loB a b (out++a.extract ia (ia+k)) (ia+k) ib),out++a.extract ia (ia+k),ia+k,ib,mg,k,bc))
   else if (ia+k == a.size)=true then pure (.done (some (loA a b (out++a.extract ia (ia+k)) (ia+k) ib),out++a.extract ia (ia+k),ia+k,ib,mg,k,bc))
   else ug a b mg k bc (ia+k) ib (out++a.extract ia (ia+k)))
  else ug a b mg k bc ia ib out)
 | _=>pure (.done (some (loA a b out ia ib),out,ia,ib,mg,ac,bc))
noncomputable def za (a b:Array Keyed) (c:LSt):StateT SortSt Sem (ForInStep LSt) :=
 if c.2.2.2.2.1>1 then uh a b (c.2.2.2.2.1 - 1) c.2.2.2.2.2.1 c.2.2.2.2.2.2 c.2.2.1 c.2.2.2.1 c.2.1 else uh a b c.2.2.2.2.1 c.2.2.2.2.2.1 c.2.2.2.2.2.2 c.2.2.1 c.2.2.2.1 c.2.1
noncomputable abbrev LOn:=Option (Array Keyed)×Array Keyed×Nat×Nat×Nat×Nat
noncomputable def zb (a b:Array Keyed) (mg:Nat) (c:LOn):StateT SortSt Sem (ForInStep LOn):=do
 let q ← elem' b c.2.2.2.1
 let p ← elem' a c.2.2.1
 let x ← lt' q p
 match x with
 | some y=>(if y=true then (do
  let q ← elem' b c.2.2.2.1
  if (c.2.2.2.1+1 == b.size)=true then pure (.done (some (loA a b (c.2.1.push q) c.2.2.1 (c.2.2.2.1+1)),c.2.1.push q,c.2.2.1,c.2.2.2.1+1,0,c.2.2.2.2.2+1))
  else if c.2.2.2.2.2+1≥mg then pure (.done (none,c.2.1.push q,c.2.2.1,c.2.2.2.1+1,0,c.2.2.2.2.2+1))
  else pure (.yield (none,c.2.1.push q,c.2.2.1,c.2.2.2.1+1,0,c.2.2.2.2.2+1)))
  else (do
   let p ← elem' a c.2.2.1
   if (c.2.2.1+1+1 == a.size)=true then pure (.done (some (loB a b (c.2.1.push p) (c.2.2.1+1) c.2.2.2.1),c.2.1.push p,c.2.2.1+1,c.2.2.2.1,c.2.2.2.2.1+1,0))
   else if c.2.2.2.2.1+1≥mg then pure (.done (none,c.2.1.push p,c.2.2.1+1,c.2.2.2.1,c.2.2.2.2.1+1,0))
   else pure (.yield (none,c.2.1.push p,c.2.2.1+1,c.2.2.2.1,c.2.2.2.2.1+1,0))))
 | _=>pure (.done (some (loA a b c.2.1 c.2.2.1 c.2.2.2.1),c.2.1,c.2.2.1,c.2.2.2.1,c.2.2.2.2.1,c.2.2.2.2.2))
noncomputable abbrev LTn:=Option (Array Keyed)×Array Keyed×Nat×Nat×Nat
noncomputable def nI (a b:Array Keyed) (c:LTn):StateT SortSt Sem (ForInStep LTn):=do
 let s ← forIn [:a.size+b.size] ((none,c.2.1,c.2.2.1,c.2.2.2.1,0,0):LOn) fun _ s=>zb a b c.2.2.2.2 s
 match s.1 with
 | some r=>pure (.done (some r,s.2.1,s.2.2.1,s.2.2.2.1,c.2.2.2.2))
 | none=>do
  liftM (rule "list.sort.gallop")
  let t ← forIn [:a.size+b.size] ((none,s.2.1,s.2.2.1,s.2.2.2.1,c.2.2.2.2+1,s.2.2.2.2.1,s.2.2.2.2.2):LSt) fun _ t=>za a b t
  match t.1 with
  | some r=>pure (.done (some r,t.2.1,t.2.2.1,t.2.2.2.1,t.2.2.2.2.1))
  | none=>do
   bO (t.2.2.2.2.1+1)
   pure (.yield (none,t.2.1,t.2.2.1,t.2.2.2.1,t.2.2.2.2.1+1))
theorem pQ (a b:Array Keyed):j9 a b=(do
 liftM (rule "list.sort.merge-lo")
 let p ← elem' b 0
 if (1 == b.size)=true then pure (loA a b #[p] 0 1)
 else if (0+1 == a.size)=true then pure (loB a b #[p] 0 1)
 else do
  let st ← get
  let s ← forIn [:a.size+b.size] ((none,#[p],0,1,gallopOf st):LTn) fun _ c=>nI a b c
  match s.1 with
  | some r=>pure r
  | none=>liftM (unsupported (α:=Array Keyed) "internal:list.sort.merge-bound")):=by
 unfold j9
 walk_at "dl mergeLo"
 dsimp only
 refine congrArg _ (funext fun _=>?_)
 refine congrArg _ (funext fun p=>?_)
 refine congrArg _ (congrArg _ ?_)
 refine congrArg _ (funext fun st=>?_)
 have e:∀ (f g:Nat→LTn→StateT SortSt Sem (ForInStep LTn)) (c:LTn) (k:LTn→StateT SortSt Sem (Array Keyed)),f=g→(forIn [:a.size+b.size] c f >>= k)=(forIn [:a.size+b.size] c g >>= k):=fun _ _ _ _ h=>by rw [h]
 refine (e _ _ _ _ (funext fun _=>funext fun c=>?_)).trans (congrArg _ (funext fun s=>?_))
 ·obtain ⟨o,out,ia,ib,mg⟩:=c
  unfold nI
  dsimp only
  have e2:∀ (f g:Nat→LOn→StateT SortSt Sem (ForInStep LOn)) (c:LOn) (k l:LOn→StateT SortSt Sem (ForInStep LTn)),f=g→k=l→(forIn [:a.size+b.size] c f >>= k)=(forIn [:a.size+b.size] c g >>= l):=fun _ _ _ _ _ h h2=>by rw [h,h2]
  refine e2 _ _ _ _ _ (funext fun _=>funext fun c=>?_) (funext fun s=>?_)
  ·rfl
  ·obtain ⟨o,out,ia,ib,ac,bc⟩:=s
   cases o with
   | some r=>rfl
   | none =>
    dsimp only
    refine congrArg _ (funext fun _=>?_)
    have e3:∀ (f g:Nat→LSt→StateT SortSt Sem (ForInStep LSt)) (c:LSt) (k l:LSt→StateT SortSt Sem (ForInStep LTn)),f=g→k=l→(forIn [:a.size+b.size] c f >>= k)=(forIn [:a.size+b.size] c g >>= l):=fun _ _ _ _ _ h h2=>by rw [h,h2]
    refine e3 _ _ _ _ _ (funext fun _=>funext fun c=>?_) (funext fun s=>?_)
    ·rfl
    ·obtain ⟨o,s⟩:=s
     cases o <;> rfl
 ·obtain ⟨o,s⟩:=s
  cases o <;> rfl
end
theorem some_at {xs:Array Keyed} {i:Nat} (h:i<xs.size):∃ p,xs[i]?=some p:=⟨xs[i],Hz h⟩
section
variable {prog:Program} {w:World} {A:Around} {E:Value→Shared→Prop} {s:Shared} {L:List Keyed} {κ:SortKind} {rk:Keyed→Int} {a b:Array Keyed}
noncomputable def Ck (rk:Keyed→Int) (a b:Array Keyed) (n:Nat) (o:Option (Array Keyed)) (ia ib:Nat) (out:Array Keyed):Prop:=(∃ r,o=some r∧Res rk a b r)∨(o=none∧k9 rk a b out ia ib∧n≤ia+ib)
noncomputable def Cm (rk:Keyed→Int) (a b:Array Keyed) (n:Nat):ForInStep LSt→Prop
 | .done c=>Ck rk a b n c.1 c.2.2.1 c.2.2.2.1 c.2.1
 | .yield c=>c.1=none∧k9 rk a b c.2.1 c.2.2.1 c.2.2.2.1∧n≤c.2.2.1+c.2.2.2.1
theorem l0 {mg ac bc ia ib n:Nat} {out:Array Keyed} {st:SortSt} {Q:ForInStep LSt→SortSt→Prop} {p:Keyed} (lA:∀ {out:Array Keyed} {ia ib:Nat},WL rk a b out ia ib→ia+1=a.size→Res rk a b (loB a b out ia ib)) (W:WL rk a b out ia ib) (ua:Up rk a) (la:ia+1<a.size) (lb:ib<b.size) (ep:a[ia]?=some p)
 (hl:∀ (j:Nat) (r:Keyed),ib≤j→b[j]?=some r→rk p≤rk r) (hn:n≤ia+1+ib) (hQ:∀ x,Cm rk a b n x→Q x st):wpS (model prog w) A E s (uf a b mg ac bc ia ib out) Q st:=by
 unfold uf
 have W4:=W.eT ua ep hl
 refine GY (aI ep ?_)
 by_cases e9:ia+1+1=a.size
 ·rw [if_pos (by simpa using e9)]
  exact G0 (hQ _ (.inl ⟨_,rfl,lA W4 e9⟩))
 rw [if_neg (by simpa using e9)]
 have hL:k9 rk a b (out.push p) (ia+1) ib:=⟨W4,Nat.lt_of_le_of_ne la e9,lb⟩
 split
 ·exact G0 (hQ _ (.inr ⟨rfl,hL,hn⟩))
 ·exact G0 (hQ _ ⟨rfl,hL,hn⟩)
theorem nJ {xs:Array Keyed} {i j:Nat} {p:Keyed} (h:i≤j) (e:xs[j]?=some p):xs[i+(j - i)]?=some p:=by rw [ME h]; exact e
theorem l5 {mg ac bc ia ib n:Nat} {out:Array Keyed} {st:SortSt} {Q:ForInStep LSt→SortSt→Prop} {q:Keyed} (hC:Cmp prog w A s κ rk L) (hk:kindOf st=κ) (ma:∀ (i:Nat) (p:Keyed),a[i]?=some p→p∈L) (mb:∀ (i:Nat) (p:Keyed),b[i]?=some p→p∈L)
 (lA:∀ {out:Array Keyed} {ia ib:Nat},WL rk a b out ia ib→ia+1=a.size→Res rk a b (loB a b out ia ib)) (W:WL rk a b out ia ib) (ua:Up rk a) (ub:Up rk b) (la:ia+1<a.size) (lb:ib<b.size) (eq:b[ib]?=some q)
 (hl:∀ (j:Nat) (r:Keyed),ia≤j→a[j]?=some r→rk q≤rk r) (hn:n≤ia+ib+2) (hQ:∀ x,Cm rk a b n x→Q x st):wpS (model prog w) A E s (ug a b mg ac bc ia ib out) Q st:=by
 unfold ug
 have W2:=W.eS ub eq hl
 refine GY (aI eq ?_)
 by_cases e5:ib+1=b.size
 ·rw [if_pos (by simpa using e5)]
  exact G0 (hQ _ (.inl ⟨_,rfl,W2.iE ua e5⟩))
 rw [if_neg (by simpa using e5)]
 obtain ⟨p,ep⟩:=some_at (xs:=a) (i:=ia) (by omega)
 refine GY (aI ep ?_)
 refine GY (pP hC hk (ma _ _ ep) mb ub _ (by omega) (by omega) fun k hj1 hj2 hj3=>?_)
 dsimp only
 have W3:=W2.pN ub k (by omega) fun i j r p' z1 z2 z3 e6 e7=>HJ (Ju (hj2 (i - (ib+1)) r (by omega) (nJ z1 e6))) (ua ia j p p' z3 ep e7)
 have bwd:∀ (j:Nat) (r:Keyed),ib+1+k≤j→b[j]?=some r→rk p≤rk r:=fun j r hj e6=>hj3 (j - (ib+1)) r (by omega) (by have:=(Kg.mp e6).1; omega) (nJ (Hi (IV _ _) hj) e6)
 by_cases hj0:k>0
 ·rw [if_pos hj0]
  by_cases e8:ib+1+k=b.size
  ·rw [if_pos (by simpa using e8)]
   exact G0 (hQ _ (.inl ⟨_,rfl,W3.iE ua e8⟩))
  rw [if_neg (by simpa using e8)]
  exact l0 lA W3 ua la (by omega) ep bwd (by omega) hQ
 ·rw [if_neg hj0]
  exact l0 lA W2 ua la (by omega) ep (fun j r hj e6=>bwd j r (by omega) e6) (by omega) hQ
theorem l6 {mg ac bc ia ib n:Nat} {out:Array Keyed} {st:SortSt} {Q:ForInStep LSt→SortSt→Prop} (hC:Cmp prog w A s κ rk L) (hk:kindOf st=κ) (ma:∀ (i:Nat) (p:Keyed),a[i]?=some p→p∈L) (mb:∀ (i:Nat) (p:Keyed),b[i]?=some p→p∈L)
 (lA:∀ {out:Array Keyed} {ia ib:Nat},WL rk a b out ia ib→ia+1=a.size→Res rk a b (loB a b out ia ib)) (ua:Up rk a) (ub:Up rk b) (hL:k9 rk a b out ia ib) (hn:n≤ia+ib) (hQ:∀ x st',ck st st'→Cm rk a b n x→Q x st') :
 wpS (model prog w) A E s (uh a b mg ac bc ia ib out) Q st:=by
 unfold uh
 have W:=hL.w
 have la:=hL.la
 have lb:=hL.lb
 obtain ⟨q,eq⟩:=some_at (xs:=b) lb
 refine GY (dW ?_)
 have hQ':=fun x=>hQ x _ ((ck.refl st).min mg)
 refine GY (aI eq ?_)
 refine GY (pO hC (by exact hk) (mb _ _ eq) ma ua _ (by omega) (by omega) fun k hk1 hk2 hk3=>?_)
 dsimp only
 have Wk:=W.pM ua k (by omega) fun i j p r z1 z2 z3 e3 e4=>HJ (hk2 (i - ia) p (by omega) (nJ z1 e3)) (ub ib j q r z3 eq e4)
 have fwd:∀ (j:Nat) (r:Keyed),ia+k≤j→a[j]?=some r→rk q≤rk r:=fun j r hj e3=>Ju (hk3 (j - ia) r (by omega) (by have:=(Kg.mp e3).1; omega) (nJ (Hi (IV _ _) hj) e3))
 by_cases hk0:k>0
 ·rw [if_pos hk0]
  by_cases e3:ia+k+1=a.size
  ·rw [if_pos (by simpa using e3)]
   exact G0 (hQ' _ (.inl ⟨_,rfl,lA Wk e3⟩))
  rw [if_neg (by simpa using e3)]
  by_cases e4:ia+k=a.size
  ·rw [if_pos (by simpa using e4)]
   exact G0 (hQ' _ (.inl ⟨_,rfl,Wk.iF ub e4⟩))
  rw [if_neg (by simpa using e4)]
  exact l5 hC (by exact hk) ma mb lA Wk ua ub (by omega) lb eq fwd (by omega) hQ'
 ·rw [if_neg hk0]
  exact l5 hC (by exact hk) ma mb lA W ua ub la lb eq (fun j r hj e3=>fwd j r (by omega) e3) (by omega) hQ'
theorem vL {mg:Nat} {c:LOn} {n:Nat} {st:SortSt} {Q:ForInStep LOn→SortSt→Prop} (hC:Cmp prog w A s κ rk L) (hk:kindOf st=κ) (ma:∀ (i:Nat) (p:Keyed),a[i]?=some p→p∈L) (mb:∀ (i:Nat) (p:Keyed),b[i]?=some p→p∈L)
 (lA:∀ {out:Array Keyed} {ia ib:Nat},WL rk a b out ia ib→ia+1=a.size→Res rk a b (loB a b out ia ib)) (ua:Up rk a) (ub:Up rk b) (hL:k9 rk a b c.2.1 c.2.2.1 c.2.2.2.1) (hn:n≤c.2.2.1+c.2.2.2.1+1)
 (hQ:∀ o ia ib out z y,Ck rk a b n o ia ib out→Q (.done (o,out,ia,ib,z)) st∧(o=none→Q (.yield (none,out,ia,ib,y)) st)):wpS (model prog w) A E s (zb a b mg c) Q st:=by
 obtain ⟨_,out,ia,ib,ac,bc⟩:=c
 unfold zb
 dsimp only at hL hn ⊢
 have W:=hL.w
 have la:=hL.la
 have lb:=hL.lb
 obtain ⟨q,eq⟩:=some_at (xs:=b) lb
 obtain ⟨p,ep⟩:=some_at (xs:=a) (Nat.lt_of_succ_lt la)
 refine GY (aI eq (GY (aI ep (GY (j7 hC hk (mb _ _ eq) (ma _ _ ep) ?_)))))
 dsimp only
 by_cases hw:rk q<rk p
 ·rw [decide_eq_true hw,if_pos rfl]
  have W1:=W.eS ub eq fun j r hj e=>HJ (Ju hw) (ua ia j p r hj ep e)
  refine GY (aI eq ?_)
  by_cases e3:ib+1=b.size
  ·rw [if_pos (by simpa using e3)]
   exact G0 (hQ _ _ _ _ _ (0,0) (.inl ⟨_,rfl,W1.iE ua e3⟩)).1
  rw [if_neg (by simpa using e3)]
  have z:=hQ none ia (ib+1) (out.push q) (0,bc+1) (0,bc+1) (.inr ⟨rfl,⟨W1,la,by omega⟩,by omega⟩)
  split
  ·exact G0 z.1
  ·exact G0 (z.2 rfl)
 ·rw [decide_eq_false hw,if_neg G6]
  have W1:=W.eT ua ep fun j r hj e=>HJ (Int.not_lt.mp hw) (ub ib j q r hj eq e)
  refine GY (aI ep ?_)
  by_cases e3:ia+1+1=a.size
  ·rw [if_pos (by simpa using e3)]
   exact G0 (hQ _ _ _ _ _ (0,0) (.inl ⟨_,rfl,lA W1 e3⟩)).1
  rw [if_neg (by simpa using e3)]
  have z:=hQ none (ia+1) ib (out.push p) (ac+1,0) (ac+1,0) (.inr ⟨rfl,⟨W1,by omega,lb⟩,by omega⟩)
  split
  ·exact G0 z.1
  ·exact G0 (z.2 rfl)
theorem rC {c:LTn} {n:Nat} {st:SortSt} {Q:ForInStep LTn→SortSt→Prop} (hC:Cmp prog w A s κ rk L) (hk:kindOf st=κ) (ma:∀ (i:Nat) (p:Keyed),a[i]?=some p→p∈L) (mb:∀ (i:Nat) (p:Keyed),b[i]?=some p→p∈L)
 (lA:∀ {out:Array Keyed} {ia ib:Nat},WL rk a b out ia ib→ia+1=a.size→Res rk a b (loB a b out ia ib)) (ua:Up rk a) (ub:Up rk b) (hL:k9 rk a b c.2.1 c.2.2.1 c.2.2.2.1) (hn:n≤c.2.2.1+c.2.2.2.1+1)
 (h1:∀ r z st',ck st st'→Res rk a b r→Q (.done (some r,z)) st') (h2:∀ ia ib out g st',ck st st'→k9 rk a b out ia ib→n≤ia+ib→Q (.yield (none,out,ia,ib,g)) st'):wpS (model prog w) A E s (nI a b c) Q st:=by
 unfold nI
 refine GY (HK (Ip (I:=fun y c st'=>st'=st∧c.1=none∧k9 rk a b c.2.1 c.2.2.1 c.2.2.2.1∧n+y≤c.2.2.1+c.2.2.2.1+1) (Q:=fun c st'=>st'=st∧Ck rk a b n c.1 c.2.2.1 c.2.2.2.1 c.2.1) ?step ?fin ⟨rfl,rfl,hL,hn⟩) ?post)
 case fin =>
  rintro c st' ⟨rfl,hc,hL',hx⟩
  exact ⟨rfl,.inr ⟨hc,hL',by have:=hL'.la; have:=hL'.lb; omega⟩⟩
 case step =>
  rintro y c st' _ hy ⟨rfl,_,hL',hx⟩
  refine vL (n:=n+y) hC hk ma mb lA ua ub hL' hx fun o ia ib out z y hR=>⟨?_,?_⟩
  ·refine ⟨rfl,?_⟩
   rcases hR with hR | ⟨q1,q2,q3⟩
   ·exact .inl hR
   ·exact .inr ⟨q1,q2,Hi (IV _ _) q3⟩
  ·rintro rfl
   rcases hR with ⟨_,q,_⟩ | ⟨q1,q2,q3⟩
   ·cases q
   ·exact ⟨rfl,rfl,q2,MX q3⟩
 case post =>
  rintro ⟨o,out,ia,ib,ac,bc⟩ st' ⟨rfl,hR⟩
  dsimp only at hR ⊢
  rcases hR with ⟨r,rfl,hr⟩ | ⟨rfl,hL2,hn2⟩
  ·exact G0 (h1 r _ _ (.refl _) hr)
  refine GY (JN (Iq ⟨rfl,?_⟩))
  refine GY (HK (Ip (I:=fun y c st''=>ck st' st''∧c.1=none∧k9 rk a b c.2.1 c.2.2.1 c.2.2.2.1∧n≤c.2.2.1+c.2.2.2.1) (Q:=fun c st''=>ck st' st''∧Ck rk a b n c.1 c.2.2.1 c.2.2.2.1 c.2.1) ?gstep ?gfin ⟨.refl _,rfl,hL2,hn2⟩) ?gpost)
  case gfin=>exact fun c st'' ⟨q1,q2,q3,q4⟩=>⟨q1,.inr ⟨q2,q3,q4⟩⟩
  case gstep =>
   rintro y c st'' _ _ ⟨q1,q2,q3,q4⟩
   have key:wpS (model prog w) A E s (za a b c) (fun x st3=>ck st'' st3∧Cm rk a b n x) st'':=by
    unfold za
    split
    ·exact l6 hC (q1.k.trans hk) ma mb lA ua ub q3 q4 fun x st3 k h=>⟨k,h⟩
    ·exact l6 hC (q1.k.trans hk) ma mb lA ua ub q3 q4 fun x st3 k h=>⟨k,h⟩
   refine HK key fun x st3 ⟨k,h⟩=>?_
   cases x with
   | done c=>exact ⟨q1.trans k,h⟩
   | yield c=>exact ⟨q1.trans k,h⟩
  case gpost =>
   rintro ⟨o,out,ia,ib,g,ac,bc⟩ st'' ⟨q1,hR⟩
   dsimp only at hR ⊢
   rcases hR with ⟨r,rfl,hr⟩ | ⟨rfl,hL3,hn3⟩
   ·exact G0 (h1 r _ _ q1 hr)
   ·exact GY (dW (G0 (h2 _ _ _ _ _ (q1.min _) hL3 hn3)))
theorem pR {st:SortSt} {Q:Array Keyed→SortSt→Prop} (hC:Cmp prog w A s κ rk L) (hk:kindOf st=κ) (ma:∀ (i:Nat) (p:Keyed),a[i]?=some p→p∈L) (mb:∀ (i:Nat) (p:Keyed),b[i]?=some p→p∈L) (ua:Up rk a) (ub:Up rk b) (na:1≤a.size) (nb:1≤b.size)
 (h0:∀ p q,a[0]?=some p→b[0]?=some q→rk q≤rk p) (hl:∀ (j:Nat) (p q:Keyed),a[a.size - 1]?=some p→b[j]?=some q→rk q≤rk p) (h:∀ r st',Res rk a b r→ck st st'→Q r st'):wpS (model prog w) A E s (j9 a b) Q st:=by
 have lastA:∀ {out:Array Keyed} {ia ib:Nat},WL rk a b out ia ib→ia+1=a.size→Res rk a b (loB a b out ia ib):=fun hw e=>hw.last ub e fun j p q e1 e2=>hl j p q (by rw [← e]; exact e1) e2
 obtain ⟨q0,eq0⟩:=some_at (xs:=b) (i:=0) nb
 obtain ⟨p0,ep0⟩:=some_at (xs:=a) (i:=0) na
 have W0:WL rk a b #[q0] 0 1:=by
  have z:WL rk a b #[] 0 0:=⟨HF _,HF _,by simp,KP,by simp,by simp⟩
  exact z.eS ub eq0 fun j q _ e=>HJ (h0 p0 q0 ep0 eq0) (ua 0 j p0 q (HF _) ep0 e)
 rw [pQ]
 refine GY (JN (Iq ⟨rfl,?_⟩))
 refine GY (aI eq0 ?_)
 by_cases e1:1=b.size
 ·rw [if_pos (by simpa using e1)]
  exact G0 (h _ _ (W0.iE ua e1) (.refl _))
 rw [if_neg (by simpa using e1)]
 by_cases e2:0+1=a.size
 ·rw [if_pos (by simpa using e2)]
  exact G0 (h _ _ (lastA W0 e2) (.refl _))
 rw [if_neg (by simpa using e2)]
 refine GY (IT ?_)
 refine GY (HK (Ip (I:=fun x c st'=>ck st st'∧c.1=none∧k9 rk a b c.2.1 c.2.2.1 c.2.2.2.1∧x+1≤c.2.2.1+c.2.2.2.1) (Q:=fun c st'=>ck st st'∧∃ r,c.1=some r∧Res rk a b r) ?step ?fin ⟨.refl _,rfl,⟨W0,by dsimp only; omega,by dsimp only; omega⟩,by dsimp only; omega⟩) ?post)
 case fin =>
  rintro c st' ⟨hK,hc,hL,hx⟩
  have h1:=hL.la
  have h2:=hL.lb
  omega
 case post =>
  rintro c st' ⟨hK,r,hc,hr⟩
  rw [hc]
  exact G0 (h r st' hr hK)
 case step =>
  rintro x c st1 _ hx ⟨hK,_,hL,hn⟩
  exact rC (n:=x+2) hC (hK.k.trans hk) ma mb lastA ua ub hL (MX hn) (fun r z st' k hr=>⟨hK.trans k,r,rfl,hr⟩) fun ia ib out g st' k q1 q2=>⟨hK.trans k,rfl,q1,q2⟩
end
noncomputable def kh:Array Keyed→Array Keyed→StateT SortSt Sem (Array Keyed):=sortPriv% PySem.Builtin.mergeHi
local macro_rules | `(tactic| walk_at "dl mergeHi")=>do
 let i:=J4 (JR `PySem.Builtin.List.W1All `PySem.Builtin.mergeHi)
 `(tactic| delta $i)
section
variable {rk:Keyed→Int} {a b:Array Keyed}
structure WH (rk:Keyed→Int) (a b:Array Keyed) (out:Array Keyed) (na nb:Nat):Prop where
 pa:na≤a.size
 pb:nb≤b.size
 pm:out.toList.Perm (a.toList.drop na++b.toList.drop nb)
 sr:Srt rk out.toList.reverse
 ha:∀ p∈out.toList,∀ (j:Nat) (q:Keyed),j<na→a[j]?=some q→rk q≤rk p
 hb:∀ p∈out.toList,∀ (j:Nat) (q:Keyed),j<nb→b[j]?=some q→rk q≤rk p
theorem cF (xs:Array Keyed) (i:Nat):(xs.extract 0 i).toList=xs.toList.take i:=by rw [cS,List.drop_zero]
theorem gK {xs:Array Keyed} {i:Nat} {q:Keyed} (h:q∈xs.toList.take i):∃ j,j<i∧xs[j]?=some q:=by
 obtain ⟨n,hn⟩:=Km h
 have hl:=(G8.mp hn).1
 rw [HN] at hl
 rw [Lf (by omega)] at hn
 exact ⟨n,by omega,by rw [← Ia]; exact hn⟩
theorem WH.res {out:Array Keyed} {na nb:Nat} (h:WH rk a b out na nb) (x:Array Keyed) (hx:x.toList.Perm (a.toList.take na++b.toList.take nb)) (hs:Srt rk x.toList):Res rk a b (x++out.reverse):=by
 have e0:(x++out.reverse).toList=x.toList++out.toList.reverse:=by simp
 refine ⟨?_,?_⟩
 ·rw [e0]
  refine (hx.append ((MS _).trans h.pm)).trans ?_
  have:(a.toList.take na++b.toList.take nb++(a.toList.drop na++b.toList.drop nb)).Perm (a.toList.take na++a.toList.drop na++(b.toList.take nb++b.toList.drop nb)):=by
   rw [Hw,Hw]
   refine Kl _ ?_
   rw [← Hw,← Hw]
   exact List.Perm.append_right _ JT
  rw [Jq,Jq] at this
  exact this
 ·rw [e0]
  refine bw hs h.sr fun p hp q hq=>?_
  have hq':q∈out.toList:=by simpa using hq
  rcases Hy.mp (hx.mem_iff.mp hp) with z | z
  ·obtain ⟨j,h1,e⟩:=gK z
   exact h.ha q hq' j p h1 e
  ·obtain ⟨j,h1,e⟩:=gK z
   exact h.hb q hq' j p h1 e
theorem WH.iF {out:Array Keyed} {na nb:Nat} (h:WH rk a b out na nb) (ub:Up rk b) (e:na=0):Res rk a b (a.extract 0 na++b.extract 0 nb++out.reverse):=by
 subst e
 refine h.res _ ?_ ?_
 ·simp [cF]
 ·have:(a.extract 0 0++b.extract 0 nb).toList=b.toList.take nb:=by rw [IB,cF,cF]; simp
  rw [this]; exact (iD ub).sublist (Lz _ _)
theorem WH.iE {out:Array Keyed} {na nb:Nat} (h:WH rk a b out na nb) (ua:Up rk a) (e:nb=0):Res rk a b (a.extract 0 na++b.extract 0 nb++out.reverse):=by
 subst e
 refine h.res _ ?_ ?_
 ·simp [cF]
 ·have:(a.extract 0 na++b.extract 0 0).toList=a.toList.take na:=by rw [IB,cF,cF]; simp
  rw [this]; exact (iD ua).sublist (Lz _ _)
theorem WH.first {out:Array Keyed} {na nb:Nat} (h:WH rk a b out na nb) (ua:Up rk a) (e:nb=1) (hf:∀ (j:Nat) (p q:Keyed),a[j]?=some p→b[0]?=some q→rk q≤rk p) :
 Res rk a b (b.extract 0 nb++a.extract 0 na++out.reverse):=by
 subst e
 have e1:(b.extract 0 1++a.extract 0 na).toList=b.toList.take 1++a.toList.take na:=by rw [IB,cF,cF]
 refine h.res _ ?_ ?_
 ·rw [e1]; exact JT
 ·rw [e1]
  refine bw ?_ ((iD ua).sublist (Lz _ _)) fun p hp q hq=>?_
  ·exact ud (by simp; omega)
  ·obtain ⟨j,h1,e2⟩:=gK hp
   obtain ⟨j2,h2,e3⟩:=gK hq
   have:j=0:=by omega
   subst this
   exact hf j2 q p e3 e2
theorem l7 {xs:Array Keyed} {i:Nat} {p:Keyed} (hi:1≤i) (h:xs[i - 1]?=some p):xs.toList.drop (i - 1)=p::xs.toList.drop i:=by
 rw [← Ia] at h
 obtain ⟨h1,h2⟩:=G8.mp h
 rw [Mg h1,h2,show i - 1+1=i by omega]
theorem WH.eT {out:Array Keyed} {na nb:Nat} {p:Keyed} (h:WH rk a b out na nb) (ua:Up rk a) (hn:1≤na) (e:a[na - 1]?=some p) (hl:∀ (j:Nat) (q:Keyed),j<nb→b[j]?=some q→rk q≤rk p):WH rk a b (out.push p) (na - 1) nb where
 pa:=by have:=h.pa; omega
 pb:=h.pb
 pm:=by
  rw [HL,l7 hn e]
  refine (h.pm.append_right _).trans ?_
  rw [Ja]
  exact JT
 sr:=by
  rw [HL,MF]
  exact bw (Kh _ _) h.sr fun r hr q hq=>by
   have hr':r=p:=by simpa using hr
   rw [hr']
   exact h.ha q (by simpa using hq) (na - 1) p (by omega) e
 ha:=fun q hq j r hj er=>by
  rw [HL] at hq
  rcases Hy.mp hq with z | z
  ·exact h.ha q z j r (by omega) er
  ·rw [Ho.mp z]; exact ua j (na - 1) r p (by omega) er e
 hb:=fun q hq j r hj er=>by
  rw [HL] at hq
  rcases Hy.mp hq with z | z
  ·exact h.hb q z j r hj er
  ·rw [Ho.mp z]; exact hl j r hj er
theorem WH.eS {out:Array Keyed} {na nb:Nat} {p:Keyed} (h:WH rk a b out na nb) (ub:Up rk b) (hn:1≤nb) (e:b[nb - 1]?=some p) (hl:∀ (j:Nat) (q:Keyed),j<na→a[j]?=some q→rk q≤rk p):WH rk a b (out.push p) na (nb - 1) where
 pa:=h.pa
 pb:=by have:=h.pb; omega
 pm:=by
  rw [HL,l7 hn e]
  refine (h.pm.append_right _).trans ?_
  rw [Hw]
  exact Kl _ JT
 sr:=by
  rw [HL,MF]
  exact bw (Kh _ _) h.sr fun r hr q hq=>by
   have hr':r=p:=by simpa using hr
   rw [hr']
   exact h.hb q (by simpa using hq) (nb - 1) p (by omega) e
 hb:=fun q hq j r hj er=>by
  rw [HL] at hq
  rcases Hy.mp hq with z | z
  ·exact h.hb q z j r (by omega) er
  ·rw [Ho.mp z]; exact ub j (nb - 1) r p (by omega) er e
 ha:=fun q hq j r hj er=>by
  rw [HL] at hq
  rcases Hy.mp hq with z | z
  ·exact h.ha q z j r hj er
  ·rw [Ho.mp z]; exact hl j r hj er
theorem um {xs:Array Keyed} {m n:Nat} {p:Keyed} (h:m<n) (e:xs[m]?=some p):(xs.extract m n).reverse=(xs.extract (m+1) n).reverse.push p:=by
 apply JL
 rw [HL,Kn,Kn,cS,cS]
 rw [← Ia] at e
 obtain ⟨h1,h2⟩:=G8.mp e
 have h3:m<(xs.toList.take n).length:=by rw [HN]; omega
 rw [Mg h3,List.reverse_cons,List.getElem_take,h2]
theorem pS (xs ys:Array Keyed) (p:Keyed):xs++ys.push p=(xs++ys).push p:=by
 apply JL; simp
theorem WH.pM {out:Array Keyed} {na nb:Nat} (h:WH rk a b out na nb) (ua:Up rk a):∀ (k m:Nat),m+k=na→(∀ (i j:Nat) (p q:Keyed),m≤i→i<na→j<nb→a[i]?=some p→b[j]?=some q→rk q≤rk p)→WH rk a b (out++(a.extract m na).reverse) m nb
 | 0,m,hm,_=>by
  have e:m=na:=by omega
  subst e
  have:out++(a.extract m m).reverse=out:=by
   apply JL
   rw [IB,Kn,gJ,List.reverse_nil,Io]
  rw [this]; exact h
 | k+1,m,hm,hl=>by
  have hp:=h.pa
  have ih:=h.pM ua k (m+1) (by omega) fun i j p q h1 h2=>hl i j p q (by omega) h2
  have e:a[m+1 - 1]?=some (a[m]'(by omega)):=Hz (show m<a.size by omega)
  have z:=ih.eT ua (by omega) e fun j q hj eq=>hl m j _ q (GZ _) (by omega) hj (Hz (show m<a.size by omega)) eq
  rw [um (show m<na by omega) (Hz (show m<a.size by omega)),pS]
  exact z
theorem WH.pN {out:Array Keyed} {na nb:Nat} (h:WH rk a b out na nb) (ub:Up rk b):∀ (k m:Nat),m+k=nb→(∀ (i j:Nat) (p q:Keyed),m≤i→i<nb→j<na→b[i]?=some p→a[j]?=some q→rk q≤rk p)→WH rk a b (out++(b.extract m nb).reverse) na m
 | 0,m,hm,_=>by
  have e:m=nb:=by omega
  subst e
  have:out++(b.extract m m).reverse=out:=by
   apply JL
   rw [IB,Kn,gJ,List.reverse_nil,Io]
  rw [this]; exact h
 | k+1,m,hm,hl=>by
  have hp:=h.pb
  have ih:=h.pN ub k (m+1) (by omega) fun i j p q h1 h2=>hl i j p q (by omega) h2
  have e:b[m+1 - 1]?=some (b[m]'(by omega)):=Hz (show m<b.size by omega)
  have z:=ih.eS ub (by omega) e fun j q hj eq=>hl m j _ q (GZ _) (by omega) hj (Hz (show m<b.size by omega)) eq
  rw [um (show m<nb by omega) (Hz (show m<b.size by omega)),pS]
  exact z
structure fN (rk:Keyed→Int) (a b out:Array Keyed) (na nb:Nat):Prop where
 w:WH rk a b out na nb
 la:1≤na
 lb:2≤nb
end
noncomputable abbrev HSt:=Option (Array Keyed)×Nat×Nat×Array Keyed×Nat×Nat×Nat
noncomputable def hiA (a b out:Array Keyed) (na nb:Nat):Array Keyed:=a.extract 0 na++b.extract 0 nb++out.reverse
noncomputable def hiB (a b out:Array Keyed) (na nb:Nat):Array Keyed:=b.extract 0 nb++a.extract 0 na++out.reverse
noncomputable def uo (a b:Array Keyed) (mg ac bc na nb:Nat) (out:Array Keyed):StateT SortSt Sem (ForInStep HSt):=do
 let p ← elem' a (na - 1)
 if (na - 1 == 0)=true then pure (.done (some (hiA a b (out.push p) (na - 1) nb),na - 1,nb,out.push p,mg,ac,bc))
 else if (decide (ac<7) && decide (bc<7))=true then pure (.done (none,na - 1,nb,out.push p,mg,ac,bc))
 else pure (.yield (none,na - 1,nb,out.push p,mg,ac,bc))
noncomputable def uq (a b:Array Keyed) (mg ac bc na nb:Nat) (out:Array Keyed):StateT SortSt Sem (ForInStep HSt):=do
 let q ← elem' b (nb - 1)
 if (nb - 1 == 1)=true then pure (.done (some (hiB a b (out.push q) na (nb - 1)),na,nb - 1,out.push q,mg,ac,bc))
 else do
  let p ← elem' a (na - 1)
  let x ← cg true p b 0 (nb - 1) (nb - 1 - 1)
  match x with
  | some k=>(if nb - 1 - k>0 then
   (if (k == 1)=true then pure (.done (some (hiB a b (out.push q++(b.extract k (nb - 1)).reverse) na k),na,k,out.push q++(b.extract k (nb - 1)).reverse,mg,ac,nb - 1 - k))
    else if (k == 0)=true then pure (.done (some (hiA a b (out.push q++(b.extract k (nb - 1)).reverse) na k),na,k,out.push q++(b.extract k (nb - 1)).reverse,mg,ac,nb - 1 - k))
    else uo a b mg ac (nb - 1 - k) na k (out.push q++(b.extract k (nb - 1)).reverse))
   else uo a b mg ac (nb - 1 - k) na (nb - 1) (out.push q))
  | _=>pure (.done (some (hiA a b (out.push q) na (nb - 1)),na,nb - 1,out.push q,mg,ac,bc))
noncomputable def uu (a b:Array Keyed) (mg ac bc na nb:Nat) (out:Array Keyed):StateT SortSt Sem (ForInStep HSt):=do
 bO mg
 let q ← elem' b (nb - 1)
 let x ← cg false q a 0 na (na - 1)
 match x with
 | some k=>(if na - k>0 then
  (if (k == 0)=true then pure (.done (some (hiA a b (out++(a.extract k na).reverse) k nb),k,nb,out++(a.extract k na).reverse,mg,na - k,bc))
   else uq a b mg (na - k) bc k nb (out++(a.extract k na).reverse))
  else uq a b mg (na - k) bc na nb out)
 | _=>pure (.done (some (hiA a b out na nb),na,nb,out,mg,ac,bc))
noncomputable def zc (a b:Array Keyed) (c:HSt):StateT SortSt Sem (ForInStep HSt) :=
 if c.2.2.2.2.1>1 then uu a b (c.2.2.2.2.1 - 1) c.2.2.2.2.2.1 c.2.2.2.2.2.2 c.2.1 c.2.2.1 c.2.2.2.1 else uu a b c.2.2.2.2.1 c.2.2.2.2.2.1 c.2.2.2.2.2.2 c.2.1 c.2.2.1 c.2.2.2.1
noncomputable abbrev HOn:=Option (Array Keyed)×Nat×Nat×Array Keyed×Nat×Nat
noncomputable def zd (a b:Array Keyed) (mg:Nat) (c:HOn):StateT SortSt Sem (ForInStep HOn):=do
 let q ← elem' b (c.2.2.1 - 1)
 let p ← elem' a (c.2.1 - 1)
 let x ← lt' q p
 match x with
 | some y=>(if y=true then (do
  let p ← elem' a (c.2.1 - 1)
  if (c.2.1 - 1 == 0)=true then pure (.done (some (hiA a b (c.2.2.2.1.push p) (c.2.1 - 1) c.2.2.1),c.2.1 - 1,c.2.2.1,c.2.2.2.1.push p,c.2.2.2.2.1+1,0))
  else if c.2.2.2.2.1+1≥mg then pure (.done (none,c.2.1 - 1,c.2.2.1,c.2.2.2.1.push p,c.2.2.2.2.1+1,0))
  else pure (.yield (none,c.2.1 - 1,c.2.2.1,c.2.2.2.1.push p,c.2.2.2.2.1+1,0)))
  else (do
   let q ← elem' b (c.2.2.1 - 1)
   if (c.2.2.1 - 1 == 1)=true then pure (.done (some (hiB a b (c.2.2.2.1.push q) c.2.1 (c.2.2.1 - 1)),c.2.1,c.2.2.1 - 1,c.2.2.2.1.push q,0,c.2.2.2.2.2+1))
   else if c.2.2.2.2.2+1≥mg then pure (.done (none,c.2.1,c.2.2.1 - 1,c.2.2.2.1.push q,0,c.2.2.2.2.2+1))
   else pure (.yield (none,c.2.1,c.2.2.1 - 1,c.2.2.2.1.push q,0,c.2.2.2.2.2+1))))
 | _=>pure (.done (some (hiA a b c.2.2.2.1 c.2.1 c.2.2.1),c.2.1,c.2.2.1,c.2.2.2.1,c.2.2.2.2.1,c.2.2.2.2.2))
noncomputable abbrev HTn:=Option (Array Keyed)×Nat×Nat×Array Keyed×Nat
noncomputable def iG (a b:Array Keyed) (c:HTn):StateT SortSt Sem (ForInStep HTn):=do
 let s ← forIn [:a.size+b.size] ((none,c.2.1,c.2.2.1,c.2.2.2.1,0,0):HOn) fun _ s=>zd a b c.2.2.2.2 s
 match s.1 with
 | some r=>pure (.done (some r,s.2.1,s.2.2.1,s.2.2.2.1,c.2.2.2.2))
 | none=>do
  liftM (rule "list.sort.gallop")
  let t ← forIn [:a.size+b.size] ((none,s.2.1,s.2.2.1,s.2.2.2.1,c.2.2.2.2+1,s.2.2.2.2.1,s.2.2.2.2.2):HSt) fun _ t=>zc a b t
  match t.1 with
  | some r=>pure (.done (some r,t.2.1,t.2.2.1,t.2.2.2.1,t.2.2.2.2.1))
  | none=>do
   bO (t.2.2.2.2.1+1)
   pure (.yield (none,t.2.1,t.2.2.1,t.2.2.2.1,t.2.2.2.2.1+1))
theorem pU (a b:Array Keyed):kh a b=(do
 liftM (rule "list.sort.merge-hi")
 let p ← elem' a (a.size - 1)
 if (a.size - 1 == 0)=true then pure (hiA a b #[p] (a.size - 1) b.size)
 else if (b.size == 1)=true then pure (hiB a b #[p] (a.size - 1) b.size)
 else do
  let st ← get
  let s ← forIn [:a.size+b.size] ((none,a.size - 1,b.size,#[p],gallopOf st):HTn) fun _ c=>iG a b c
  match s.1 with
  | some r=>pure r
  | none=>liftM (unsupported (α:=Array Keyed) "internal:list.sort.merge-bound")):=by
 unfold kh
 walk_at "dl mergeHi"
 dsimp only
 refine congrArg _ (funext fun _=>?_)
 refine congrArg _ (funext fun p=>?_)
 refine congrArg _ (congrArg _ ?_)
 refine congrArg _ (funext fun st=>?_)
 have h1:∀ (c:HTn),iG a b c=iG a b c:=fun _=>rfl
 have e:∀ (f g:Nat→HTn→StateT SortSt Sem (ForInStep HTn)) (c:HTn) (k:HTn→StateT SortSt Sem (Array Keyed)),f=g→(forIn [:a.size+b.size] c f >>= k)=(forIn [:a.size+b.size] c g >>= k):=fun _ _ _ _ h=>by rw [h]
 refine (e _ _ _ _ (funext fun _=>funext fun c=>?_)).trans (congrArg _ (funext fun s=>?_))
 ·obtain ⟨o,na,nb,out,mg⟩:=c
  unfold iG
  dsimp only
  have e2:∀ (f g:Nat→HOn→StateT SortSt Sem (ForInStep HOn)) (c:HOn) (k l:HOn→StateT SortSt Sem (ForInStep HTn)),f=g→k=l→(forIn [:a.size+b.size] c f >>= k)=(forIn [:a.size+b.size] c g >>= l):=fun _ _ _ _ _ h h2=>by rw [h,h2]
  refine e2 _ _ _ _ _ (funext fun _=>funext fun c=>?_) (funext fun s=>?_)
  ·rfl
  ·obtain ⟨o,na,nb,out,ac,bc⟩:=s
   cases o with
   | some r=>rfl
   | none =>
    dsimp only
    refine congrArg _ (funext fun _=>?_)
    have e3:∀ (f g:Nat→HSt→StateT SortSt Sem (ForInStep HSt)) (c:HSt) (k l:HSt→StateT SortSt Sem (ForInStep HTn)),f=g→k=l→(forIn [:a.size+b.size] c f >>= k)=(forIn [:a.size+b.size] c g >>= l):=fun _ _ _ _ _ h h2=>by rw [h,h2]
    refine e3 _ _ _ _ _ (funext fun _=>funext fun c=>?_) (funext fun s=>?_)
    ·rfl
    ·obtain ⟨o,s⟩:=s
     cases o <;> rfl
 ·obtain ⟨o,s⟩:=s
  cases o <;> rfl
section
variable {prog:Program} {w:World} {A:Around} {E:Value→Shared→Prop} {s:Shared} {L:List Keyed} {κ:SortKind} {rk:Keyed→Int} {a b:Array Keyed}
noncomputable def Cn (rk:Keyed→Int) (a b:Array Keyed) (n:Nat) (o:Option (Array Keyed)) (na nb:Nat) (out:Array Keyed):Prop:=(∃ r,o=some r∧Res rk a b r)∨(o=none∧fN rk a b out na nb∧na+nb≤n)
noncomputable def Co (rk:Keyed→Int) (a b:Array Keyed) (n:Nat):ForInStep HSt→Prop
 | .done c=>Cn rk a b n c.1 c.2.1 c.2.2.1 c.2.2.2.1
 | .yield c=>c.1=none∧fN rk a b c.2.2.2.1 c.2.1 c.2.2.1∧c.2.1+c.2.2.1≤n
theorem l8 {mg ac bc na nb n:Nat} {out:Array Keyed} {st:SortSt} {Q:ForInStep HSt→SortSt→Prop} {p:Keyed} (W:WH rk a b out na nb) (ua:Up rk a) (ub:Up rk b) (la:1≤na) (lb:2≤nb) (ep:a[na - 1]?=some p)
 (hl:∀ (j:Nat) (r:Keyed),j<nb→b[j]?=some r→rk r≤rk p) (hn:na - 1+nb≤n) (hQ:∀ x,Co rk a b n x→Q x st):wpS (model prog w) A E s (uo a b mg ac bc na nb out) Q st:=by
 unfold uo
 have W4:=W.eT ua la ep hl
 refine GY (aI ep ?_)
 by_cases e9:na - 1=0
 ·rw [if_pos (by simpa using e9)]
  exact G0 (hQ _ (.inl ⟨_,rfl,W4.iF ub e9⟩))
 rw [if_neg (by simpa using e9)]
 have hL:fN rk a b (out.push p) (na - 1) nb:=⟨W4,Mt.mpr e9,lb⟩
 split
 ·exact G0 (hQ _ (.inr ⟨rfl,hL,hn⟩))
 ·exact G0 (hQ _ ⟨rfl,hL,hn⟩)
theorem l9 {mg ac bc na nb n:Nat} {out:Array Keyed} {st:SortSt} {Q:ForInStep HSt→SortSt→Prop} {q:Keyed} (hC:Cmp prog w A s κ rk L) (hk:kindOf st=κ) (ma:∀ (i:Nat) (p:Keyed),a[i]?=some p→p∈L) (mb:∀ (i:Nat) (p:Keyed),b[i]?=some p→p∈L)
 (fB:∀ {out:Array Keyed} {na nb:Nat},WH rk a b out na nb→nb=1→Res rk a b (hiB a b out na nb)) (W:WH rk a b out na nb) (ua:Up rk a) (ub:Up rk b) (la:1≤na) (lb:2≤nb) (eq:b[nb - 1]?=some q)
 (hl:∀ (j:Nat) (r:Keyed),j<na→a[j]?=some r→rk r≤rk q) (hn:na+nb≤n+2) (hQ:∀ x,Co rk a b n x→Q x st):wpS (model prog w) A E s (uq a b mg ac bc na nb out) Q st:=by
 unfold uq
 have W2:=W.eS ub (Nat.le_of_succ_le lb) eq hl
 have hpa:=W.pa
 have hpb:=W.pb
 refine GY (aI eq ?_)
 by_cases e5:nb - 1=1
 ·rw [if_pos (by simpa using e5)]
  exact G0 (hQ _ (.inl ⟨_,rfl,fB W2 e5⟩))
 rw [if_neg (by simpa using e5)]
 have lb1:2≤nb - 1:=by omega
 obtain ⟨p,ep⟩:=some_at (xs:=a) (i:=na - 1) (by omega)
 refine GY (aI ep ?_)
 refine GY (pP hC hk (ma _ _ ep) mb ub _ (by omega) (by omega) fun k hj1 hj2 hj3=>?_)
 dsimp only
 have dn2:∀ (i:Nat) (r:Keyed),i<k→b[i]?=some r→rk r<rk p:=fun i r z1 e6=>hj2 i r z1 (by rw [JF]; exact e6)
 by_cases hj0:nb - 1 - k>0
 ·rw [if_pos hj0]
  have W3:=W2.pN ub (nb - 1 - k) k (ME hj1) fun i j r p' z1 z2 z3 e6 e7=>HJ (ua j (na - 1) p' p (Lm z3) e7 ep) (hj3 i r z1 (Nat.add_lt_add_left z2 0) (by rw [JF]; exact e6))
  by_cases e8:k=1
  ·rw [if_pos (by simpa using e8)]
   exact G0 (hQ _ (.inl ⟨_,rfl,fB W3 e8⟩))
  rw [if_neg (by simpa using e8)]
  by_cases e10:k=0
  ·rw [if_pos (by simpa using e10)]
   exact G0 (hQ _ (.inl ⟨_,rfl,W3.iE ua e10⟩))
  rw [if_neg (by simpa using e10)]
  exact l8 W3 ua ub la (by omega) ep (fun j r hj e6=>Ju (dn2 j r hj e6)) (by omega) hQ
 ·rw [if_neg hj0]
  exact l8 W2 ua ub la lb1 ep (fun j r hj e6=>Ju (dn2 j r (by omega) e6)) (by omega) hQ
theorem mh {mg ac bc na nb n:Nat} {out:Array Keyed} {st:SortSt} {Q:ForInStep HSt→SortSt→Prop} (hC:Cmp prog w A s κ rk L) (hk:kindOf st=κ) (ma:∀ (i:Nat) (p:Keyed),a[i]?=some p→p∈L) (mb:∀ (i:Nat) (p:Keyed),b[i]?=some p→p∈L)
 (fB:∀ {out:Array Keyed} {na nb:Nat},WH rk a b out na nb→nb=1→Res rk a b (hiB a b out na nb)) (ua:Up rk a) (ub:Up rk b) (hL:fN rk a b out na nb) (hn:na+nb≤n) (hQ:∀ x st',ck st st'→Co rk a b n x→Q x st') :
 wpS (model prog w) A E s (uu a b mg ac bc na nb out) Q st:=by
 unfold uu
 have W:=hL.w
 have la:=hL.la
 have lb:=hL.lb
 have hpa:=W.pa
 have hpb:=W.pb
 obtain ⟨q,eq⟩:=some_at (xs:=b) (i:=nb - 1) (by omega)
 refine GY (dW ?_)
 have hQ':=fun x=>hQ x _ ((ck.refl st).min mg)
 refine GY (aI eq ?_)
 refine GY (pO hC (by exact hk) (mb _ _ eq) ma ua _ (by omega) (by omega) fun k hk1 hk2 hk3=>?_)
 dsimp only
 have dn1:∀ (i:Nat) (p:Keyed),i<k→a[i]?=some p→rk p≤rk q:=fun i p z1 e3=>hk2 i p z1 (by rw [JF]; exact e3)
 by_cases hk0:na - k>0
 ·rw [if_pos hk0]
  have Wk:=W.pM ua (na - k) k (ME hk1) fun i j p r z1 z2 z3 e3 e4=>HJ (ub j (nb - 1) r q (Lm z3) e4 eq) (Ju (hk3 i p z1 (Nat.add_lt_add_left z2 0) (by rw [JF]; exact e3)))
  by_cases e4:k=0
  ·rw [if_pos (by simpa using e4)]
   exact G0 (hQ' _ (.inl ⟨_,rfl,Wk.iF ub e4⟩))
  rw [if_neg (by simpa using e4)]
  exact l9 hC (by exact hk) ma mb fB Wk ua ub (Mt.mpr e4) lb eq dn1 (by omega) hQ'
 ·rw [if_neg hk0]
  exact l9 hC (by exact hk) ma mb fB W ua ub la lb eq (fun j r hj e3=>dn1 j r (by omega) e3) (by omega) hQ'
theorem vM {mg:Nat} {c:HOn} {n:Nat} {st:SortSt} {Q:ForInStep HOn→SortSt→Prop} (hC:Cmp prog w A s κ rk L) (hk:kindOf st=κ) (ma:∀ (i:Nat) (p:Keyed),a[i]?=some p→p∈L) (mb:∀ (i:Nat) (p:Keyed),b[i]?=some p→p∈L)
 (fB:∀ {out:Array Keyed} {na nb:Nat},WH rk a b out na nb→nb=1→Res rk a b (hiB a b out na nb)) (ua:Up rk a) (ub:Up rk b) (hL:fN rk a b c.2.2.2.1 c.2.1 c.2.2.1) (hn:c.2.1+c.2.2.1≤n+1)
 (hQ:∀ o na nb out z y,Cn rk a b n o na nb out→Q (.done (o,na,nb,out,z)) st∧(o=none→Q (.yield (none,na,nb,out,y)) st)):wpS (model prog w) A E s (zd a b mg c) Q st:=by
 obtain ⟨_,na,nb,out,ac,bc⟩:=c
 unfold zd
 dsimp only at hL hn ⊢
 have W:=hL.w
 have la:=hL.la
 have lb:=hL.lb
 have hpa:=W.pa
 have hpb:=W.pb
 obtain ⟨q,eq⟩:=some_at (xs:=b) (i:=nb - 1) (by omega)
 obtain ⟨p,ep⟩:=some_at (xs:=a) (i:=na - 1) (by omega)
 refine GY (aI eq (GY (aI ep (GY (j7 hC hk (mb _ _ eq) (ma _ _ ep) ?_)))))
 dsimp only
 by_cases hw:rk q<rk p
 ·rw [decide_eq_true hw,if_pos rfl]
  have W1:=W.eT ua la ep fun j r hj e=>HJ (ub j (nb - 1) r q (Lm hj) e eq) (Ju hw)
  refine GY (aI ep ?_)
  by_cases e3:na - 1=0
  ·rw [if_pos (by simpa using e3)]
   exact G0 (hQ _ _ _ _ _ (0,0) (.inl ⟨_,rfl,W1.iF ub e3⟩)).1
  rw [if_neg (by simpa using e3)]
  have z:=hQ none (na - 1) nb (out.push p) (ac+1,0) (ac+1,0) (.inr ⟨rfl,⟨W1,Mt.mpr e3,lb⟩,by omega⟩)
  split
  ·exact G0 z.1
  ·exact G0 (z.2 rfl)
 ·rw [decide_eq_false hw,if_neg G6]
  have W1:=W.eS ub (Nat.le_of_succ_le lb) eq fun j r hj e=>HJ (ua j (na - 1) r p (Lm hj) e ep) (Int.not_lt.mp hw)
  refine GY (aI eq ?_)
  by_cases e3:nb - 1=1
  ·rw [if_pos (by simpa using e3)]
   exact G0 (hQ _ _ _ _ _ (0,0) (.inl ⟨_,rfl,fB W1 e3⟩)).1
  rw [if_neg (by simpa using e3)]
  have z:=hQ none na (nb - 1) (out.push q) (0,bc+1) (0,bc+1) (.inr ⟨rfl,⟨W1,la,by omega⟩,by omega⟩)
  split
  ·exact G0 z.1
  ·exact G0 (z.2 rfl)
theorem rD {c:HTn} {n:Nat} {st:SortSt} {Q:ForInStep HTn→SortSt→Prop} (hC:Cmp prog w A s κ rk L) (hk:kindOf st=κ) (ma:∀ (i:Nat) (p:Keyed),a[i]?=some p→p∈L) (mb:∀ (i:Nat) (p:Keyed),b[i]?=some p→p∈L)
 (fB:∀ {out:Array Keyed} {na nb:Nat},WH rk a b out na nb→nb=1→Res rk a b (hiB a b out na nb)) (ua:Up rk a) (ub:Up rk b) (hL:fN rk a b c.2.2.2.1 c.2.1 c.2.2.1) (hn:c.2.1+c.2.2.1≤n+1) (hm:n+1≤a.size+b.size)
 (h1:∀ r z st',ck st st'→Res rk a b r→Q (.done (some r,z)) st') (h2:∀ na nb out g st',ck st st'→fN rk a b out na nb→na+nb≤n→Q (.yield (none,na,nb,out,g)) st'):wpS (model prog w) A E s (iG a b c) Q st:=by
 unfold iG
 refine GY (HK (Ip (I:=fun y c st'=>st'=st∧c.1=none∧fN rk a b c.2.2.2.1 c.2.1 c.2.2.1∧y+c.2.1+c.2.2.1≤n+1) (Q:=fun c st'=>st'=st∧Cn rk a b n c.1 c.2.1 c.2.2.1 c.2.2.2.1) ?step ?fin ⟨rfl,rfl,hL,by dsimp only; omega⟩) ?post)
 case fin =>
  rintro c st' ⟨rfl,hc,hL',hx⟩
  exact ⟨rfl,.inr ⟨hc,hL',by omega⟩⟩
 case step =>
  rintro y c st' _ hy ⟨rfl,_,hL',hx⟩
  refine vM (n:=n - y) hC hk ma mb fB ua ub hL' (by have:=hL'.la; have:=hL'.lb; omega) fun o na nb out z y hR=>⟨?_,?_⟩
  ·refine ⟨rfl,?_⟩
   rcases hR with hR | ⟨q1,q2,q3⟩
   ·exact .inl hR
   ·exact .inr ⟨q1,q2,by dsimp only; omega⟩
  ·rintro rfl
   rcases hR with ⟨_,q,_⟩ | ⟨q1,q2,q3⟩
   ·cases q
   ·exact ⟨rfl,rfl,q2,by have:=q2.la; have:=q2.lb; dsimp only; omega⟩
 case post =>
  rintro ⟨o,na,nb,out,ac,bc⟩ st' ⟨rfl,hR⟩
  dsimp only at hR ⊢
  rcases hR with ⟨r,rfl,hr⟩ | ⟨rfl,hL2,hn2⟩
  ·exact G0 (h1 r _ _ (.refl _) hr)
  refine GY (JN (Iq ⟨rfl,?_⟩))
  refine GY (HK (Ip (I:=fun y c st''=>ck st' st''∧c.1=none∧fN rk a b c.2.2.2.1 c.2.1 c.2.2.1∧c.2.1+c.2.2.1≤n) (Q:=fun c st''=>ck st' st''∧Cn rk a b n c.1 c.2.1 c.2.2.1 c.2.2.2.1) ?gstep ?gfin ⟨.refl _,rfl,hL2,hn2⟩) ?gpost)
  case gfin=>exact fun c st'' ⟨q1,q2,q3,q4⟩=>⟨q1,.inr ⟨q2,q3,q4⟩⟩
  case gstep =>
   rintro y c st'' _ _ ⟨q1,q2,q3,q4⟩
   have key:wpS (model prog w) A E s (zc a b c) (fun x st3=>ck st'' st3∧Co rk a b n x) st'':=by
    unfold zc
    split
    ·exact mh hC (q1.k.trans hk) ma mb fB ua ub q3 q4 fun x st3 k h=>⟨k,h⟩
    ·exact mh hC (q1.k.trans hk) ma mb fB ua ub q3 q4 fun x st3 k h=>⟨k,h⟩
   refine HK key fun x st3 ⟨k,h⟩=>?_
   cases x with
   | done c=>exact ⟨q1.trans k,h⟩
   | yield c=>exact ⟨q1.trans k,h⟩
  case gpost =>
   rintro ⟨o,na,nb,out,g,ac,bc⟩ st'' ⟨q1,hR⟩
   dsimp only at hR ⊢
   rcases hR with ⟨r,rfl,hr⟩ | ⟨rfl,hL3,hn3⟩
   ·exact G0 (h1 r _ _ q1 hr)
   ·exact GY (dW (G0 (h2 _ _ _ _ _ (q1.min _) hL3 hn3)))
theorem pV {st:SortSt} {Q:Array Keyed→SortSt→Prop} (hC:Cmp prog w A s κ rk L) (hk:kindOf st=κ) (ma:∀ (i:Nat) (p:Keyed),a[i]?=some p→p∈L) (mb:∀ (i:Nat) (p:Keyed),b[i]?=some p→p∈L) (ua:Up rk a) (ub:Up rk b) (na1:1≤a.size) (nb1:1≤b.size)
 (h0:∀ p q,a[0]?=some p→b[0]?=some q→rk q≤rk p) (hl:∀ (j:Nat) (p q:Keyed),a[a.size - 1]?=some p→b[j]?=some q→rk q≤rk p) (h:∀ r st',Res rk a b r→ck st st'→Q r st'):wpS (model prog w) A E s (kh a b) Q st:=by
 obtain ⟨p0,ep0⟩:=some_at (xs:=a) (i:=0) na1
 have firstB:∀ {out:Array Keyed} {na nb:Nat},WH rk a b out na nb→nb=1→Res rk a b (hiB a b out na nb):=fun hw e=>hw.first ua e fun j p q e1 e2=>HJ (h0 p0 q ep0 e2) (ua 0 j p0 p (HF _) ep0 e1)
 obtain ⟨pl,epl⟩:=some_at (xs:=a) (i:=a.size - 1) (by omega)
 have W0:WH rk a b #[pl] (a.size - 1) b.size:=by
  have z:WH rk a b #[] a.size b.size:=⟨GZ _,GZ _,by simp,KP,by simp,by simp⟩
  exact z.eT ua na1 epl fun j q _ e=>hl j pl q epl e
 rw [pU]
 refine GY (JN (Iq ⟨rfl,?_⟩))
 refine GY (aI epl ?_)
 by_cases e1:a.size - 1=0
 ·rw [if_pos (by simpa using e1)]
  exact G0 (h _ _ (W0.iF ub e1) (.refl _))
 rw [if_neg (by simpa using e1)]
 by_cases e2:b.size=1
 ·rw [if_pos (by simpa using e2)]
  exact G0 (h _ _ (firstB W0 e2) (.refl _))
 rw [if_neg (by simpa using e2)]
 refine GY (IT ?_)
 refine GY (HK (Ip (I:=fun x c st'=>ck st st'∧c.1=none∧fN rk a b c.2.2.2.1 c.2.1 c.2.2.1∧x+c.2.1+c.2.2.1<a.size+b.size) (Q:=fun c st'=>ck st st'∧∃ r,c.1=some r∧Res rk a b r) ?step ?fin ⟨.refl _,rfl,⟨W0,by dsimp only; omega,by dsimp only; omega⟩,by dsimp only; omega⟩) ?post)
 case fin =>
  rintro c st' ⟨hK,hc,hL,hx⟩
  have h1:=hL.la
  omega
 case post =>
  rintro c st' ⟨hK,r,hc,hr⟩
  rw [hc]
  exact G0 (h r st' hr hK)
 case step =>
  rintro x c st1 _ hx ⟨hK,_,hL,hn⟩
  have l1:=hL.la
  have l2:=hL.lb
  exact rD (n:=a.size+b.size - x - 2) hC (hK.k.trans hk) ma mb firstB ua ub hL (by omega) (by omega) (fun r z st' k hr=>⟨hK.trans k,r,rfl,hr⟩) fun na nb out g st' k q1 q2=>⟨hK.trans k,rfl,q1,by have:=q1.la; dsimp only; omega⟩
end
noncomputable def Seg (rk:Keyed→Int) (xs:Array Keyed) (lo hi:Nat):Prop:=∀ i j,lo≤i→i≤j→j<hi→R rk xs i≤R rk xs j
noncomputable def Dsc (rk:Keyed→Int) (xs:Array Keyed) (lo hi:Nat):Prop:=∀ i j,lo≤i→i≤j→j<hi→R rk xs j≤R rk xs i
structure Bs (κ:SortKind) (L:List Keyed) (st:SortSt):Prop where
 perm:(arrOf st).toList.Perm L
 kind:kindOf st=κ
 failed:failedOf st=none
structure Mv (st st':SortSt) (lo hi:Nat):Prop where
 out:∀ i,i<lo∨hi≤i→(arrOf st')[i]?=(arrOf st)[i]?
 pend:pendingOf st'=pendingOf st
section
variable {L:List Keyed} {κ:SortKind} {rk:Keyed→Int} {st st' st'':SortSt} {lo hi:Nat}
theorem Bs.size (h:Bs κ L st):(arrOf st).size=L.length:=by simpa using h.perm.length_eq
theorem Bs.at (h:Bs κ L st) {i:Nat} (hi:i<L.length):∃ p,(arrOf st)[i]?=some p∧p∈L:=by
 have hs:=h.size
 refine ⟨(arrOf st)[i]'(by omega),Hz _,h.perm.mem_iff.mp ?_⟩
 rw [MC]; exact MV _
theorem Bs.arr (h:Bs κ L st) {xs:Array Keyed} (hp:xs.toList.Perm (arrOf st).toList):Bs κ L (setArr st xs):=⟨hp.trans h.perm,h.kind,h.failed⟩
theorem Mv.refl:Mv st st lo hi:=⟨fun _ _=>rfl,rfl⟩
theorem Mv.trans (a:Mv st st' lo hi) (b:Mv st' st'' lo hi):Mv st st'' lo hi:=⟨fun i h=>(b.out i h).trans (a.out i h),b.pend.trans a.pend⟩
theorem ze {xs:Array Keyed} {i j:Nat} (hj:j≤xs.size) (k:Nat):R rk (mirror xs i j ((j - i) / 2)) k=if i≤k∧k<j then R rk xs (i+j - 1 - k) else R rk xs k:=by
 have e:=getElem?_mirror_all (i:=i) hj k
 by_cases h:i≤k∧k<j
 ·rw [if_pos h] at e ⊢; exact bK e
 ·rw [if_neg h] at e ⊢; exact bK e
theorem ki {i j:Nat} (hj:j≤(arrOf st).size) (h1:lo≤i) (h2:j≤hi):Mv st (setArr st (mirror (arrOf st) i j ((j - i) / 2))) lo hi :=
 ⟨fun k hk=>by
   have e:=getElem?_mirror_all (i:=i) hj k
   rw [if_neg (by omega)] at e; exact e,rfl⟩
theorem Cp (i:Nat) (xs:Array Keyed):Seg rk xs i (i+1):=fun a b h1 h2 h3=>by
 have:a=b:=by omega
 subst this; exact IG _
theorem zf {xs:Array Keyed} {lo n:Nat} (h:Seg rk xs lo (lo+n)) (hn:1≤n) (hl:¬ R rk xs (lo+n)<R rk xs (lo+n - 1)):Seg rk xs lo (lo+(n+1)):=fun a b h1 h2 h3=>by
 by_cases hb:b<lo+n
 ·exact h a b h1 h2 hb
 ·have e:b=lo+n:=by omega
  subst e
  by_cases ha:a=lo+n
  ·subst ha; exact IG _
  ·exact HJ (h a (lo+n - 1) h1 (by omega) (by omega)) (Int.not_lt.mp hl)
theorem eU {xs:Array Keyed} {lo n:Nat} (h:Dsc rk xs lo (lo+n)) (hn:1≤n) (hl:R rk xs (lo+n)≤R rk xs (lo+n - 1)):Dsc rk xs lo (lo+(n+1)):=fun a b h1 h2 h3=>by
 by_cases hb:b<lo+n
 ·exact h a b h1 h2 hb
 ·have e:b=lo+n:=by omega
  subst e
  by_cases ha:a=lo+n
  ·subst ha; exact IG _
  ·exact HJ hl (h a (lo+n - 1) h1 (by omega) (by omega))
end
section
variable {prog:Program} {w:World} {A:Around} {E:Value→Shared→Prop} {s:Shared} {L:List Keyed} {κ:SortKind} {rk:Keyed→Int} {st:SortSt} {lo nrem:Nat}
theorem kj {i j:Nat} {Q:Option Bool→SortSt→Prop} (hC:Cmp prog w A s κ rk L) (hB:Bs κ L st) (hi:i<L.length) (hj:j<L.length) (h:Q (some (decide (R rk (arrOf st) i<R rk (arrOf st) j))) st):wpS (model prog w) A E s (ltAt' i j) Q st:=by
 obtain ⟨p,ep,hp⟩:=hB.at hi
 obtain ⟨q,eq,hq⟩:=hB.at hj
 exact vK hC hB.kind ep eq hp hq h
theorem dh {i j:Nat} {Q:Unit→SortSt→Prop} (h:Q () (setArr st (mirror (arrOf st) i j ((j - i) / 2)))):wpS (model prog w) A E s (reverseSlice' i j) Q st :=
 Jd (f:=fun s=>setArr s (mirror (arrOf s) i j ((j - i) / 2))) h
noncomputable abbrev AscC:=Option (Option Nat)×Nat
noncomputable def asc (lo a nrem:Nat):StateT SortSt Sem AscC :=
 forIn [a:nrem] ((none,a):AscC) fun _ c=>ltAt' (lo+c.2) (lo+c.2 - 1) >>= fun x=>match x with
  | some smaller=>if smaller=true then pure (IP (none,c.2)) else pure (Ic (none,c.2+1))
  | _=>pure (IP (some none,c.2))
theorem uv {a:Nat} {Q:AscC→SortSt→Prop} (hC:Cmp prog w A s κ rk L) (hB:Bs κ L st) (hn:lo+nrem≤L.length) (h1:1≤a) (h2:a≤nrem) (hs:Seg rk (arrOf st) lo (lo+a))
 (h:∀ n,a≤n→n≤nrem→Seg rk (arrOf st) lo (lo+n)→(n=nrem∨R rk (arrOf st) (lo+n)<R rk (arrOf st) (lo+n - 1))→Q (none,n) st):wpS (model prog w) A E s (asc lo a nrem) Q st:=by
 unfold asc
 refine Ip (I:=fun x c st'=>st'=st∧c=(none,x)∧Seg rk (arrOf st) lo (lo+x)) ?step ?fin ⟨rfl,rfl,hs⟩
 case fin =>
  rintro c st' ⟨rfl,rfl,hs'⟩
  rw [show max a nrem=nrem by omega] at hs' ⊢
  exact h nrem h2 (GZ _) hs' (.inl rfl)
 case step =>
  rintro x c st' hax hxn ⟨rfl,rfl,hs'⟩
  refine GY (kj hC hB (by dsimp only; omega) (by dsimp only; omega) ?_)
  dsimp only
  by_cases hl:R rk (arrOf st') (lo+x)<R rk (arrOf st') (lo+x - 1)
  ·rw [decide_eq_true hl,if_pos rfl]
   exact G0 (h x hax (by omega) hs' (.inr hl))
  ·rw [decide_eq_false hl,if_neg G6]
   exact G0 ⟨rfl,rfl,zf hs' (by omega) hl⟩
noncomputable abbrev DscC:=Option (Option Nat)×Nat×Nat
noncomputable def dsc (lo n nrem:Nat):StateT SortSt Sem DscC :=
 forIn [n:nrem] ((none,n,0):DscC) fun _ c=>ltAt' (lo+c.2.1) (lo+c.2.1 - 1) >>= fun x=>match x with
  | some smaller=>if smaller=true then
   (if c.2.2>0 then reverseSlice' (lo+c.2.1 - (c.2.2+1)) (lo+c.2.1) >>= fun _=>pure (Ic (none,c.2.1+1,0)) else pure (Ic (none,c.2.1+1,0)))
   else ltAt' (lo+c.2.1 - 1) (lo+c.2.1) >>= fun y=>match y with
    | some larger=>if larger=true then pure (IP (none,c.2.1,c.2.2)) else pure (Ic (none,c.2.1+1,c.2.2+1))
    | _=>pure (IP (some none,c.2.1,c.2.2))
  | _=>pure (IP (some none,c.2.1,c.2.2))
theorem gM {xs:Array Keyed} {i j:Nat} (hj:j≤xs.size) (he:∀ k,i≤k→k<j→R rk xs k=R rk xs (j - 1)) (k:Nat):R rk (mirror xs i j ((j - i) / 2)) k=R rk xs k:=by
 rw [ze hj]
 split
 ·rw [he _ (by omega) (by omega),he k (by omega) (by omega)]
 ·rfl
theorem Cq {n:Nat} {Q:DscC→SortSt→Prop} (hC:Cmp prog w A s κ rk L) (hB:Bs κ L st) (hn:lo+nrem≤L.length) (h1:1≤n) (h2:n≤nrem) (hs:Dsc rk (arrOf st) lo (lo+n))
 (h:∀ m neq st',Bs κ L st'→Mv st st' lo (lo+nrem)→n≤m→m≤nrem→Dsc rk (arrOf st') lo (lo+m)→neq+1≤m→(∀ i,lo+m - (neq+1)≤i→i<lo+m→R rk (arrOf st') i=R rk (arrOf st') (lo+m - 1))→Q (none,m,neq) st') :
 wpS (model prog w) A E s (dsc lo n nrem) Q st:=by
 unfold dsc
 refine Ip (I:=fun x c st'=>∃ neq,c=(none,x,neq)∧Bs κ L st'∧Mv st st' lo (lo+nrem)∧Dsc rk (arrOf st') lo (lo+x)∧neq+1≤x∧(∀ i,lo+x - (neq+1)≤i→i<lo+x→R rk (arrOf st') i=R rk (arrOf st') (lo+x - 1))) ?step ?fin
  ⟨0,rfl,hB,.refl,hs,h1,fun i a1 a2=>by congr 1; omega⟩
 case fin =>
  rintro c st' ⟨neq,rfl,hB',hM',hs',hq,he⟩
  rw [show max n nrem=nrem by omega] at hs' hq he ⊢
  exact h nrem neq st' hB' hM' h2 (GZ _) hs' hq he
 case step =>
  rintro x c st' hax hxn ⟨neq,rfl,hB',hM',hs',hq,he⟩
  have hsz:=hB'.size
  refine GY (kj hC hB' (by dsimp only; omega) (by dsimp only; omega) ?_)
  dsimp only
  by_cases hl:R rk (arrOf st') (lo+x)<R rk (arrOf st') (lo+x - 1)
  ·rw [decide_eq_true hl,if_pos rfl]
   by_cases hq0:neq>0
   ·rw [if_pos hq0]
    have key:=gM (rk:=rk) (xs:=arrOf st') (i:=lo+x - (neq+1)) (j:=lo+x) (by omega) he
    refine GY (dh (G0 ⟨0,rfl,hB'.arr (Kf.mp (K4 _ _ _ _)),hM'.trans (ki (by omega) (by omega) (by omega)),?_,by omega,fun i a1 a2=>by congr 1; omega⟩))
    refine eU (fun a b z1 z2 z3=>?_) (by omega) ?_
    ·show R rk (mirror _ _ _ _) b≤R rk (mirror _ _ _ _) a
     rw [key,key]; exact hs' a b z1 z2 z3
    ·show R rk (mirror _ _ _ _) _≤R rk (mirror _ _ _ _) _
     rw [key,key]; omega
   ·rw [if_neg hq0]
    exact G0 ⟨0,rfl,hB',hM',eU hs' (by omega) (by omega),by omega,fun i a1 a2=>by congr 1; omega⟩
  ·rw [decide_eq_false hl,if_neg G6]
   refine GY (kj hC hB' (by omega) (by omega) ?_)
   dsimp only
   by_cases hg:R rk (arrOf st') (lo+x - 1)<R rk (arrOf st') (lo+x)
   ·rw [decide_eq_true hg,if_pos rfl]
    exact G0 (h x neq st' hB' hM' hax (by omega) hs' hq he)
   ·rw [decide_eq_false hg,if_neg G6]
    have heq:R rk (arrOf st') (lo+x)=R rk (arrOf st') (lo+x - 1):=by omega
    refine G0 ⟨neq+1,rfl,hB',hM',eU hs' (by omega) (by omega),by omega,fun i a1 a2=>?_⟩
    rw [show lo+(x+1) - 1=lo+x by omega]
    by_cases hi:i=lo+x
    ·rw [hi]
    ·rw [heq]; exact he i (by omega) (by omega)
noncomputable def countRun':Nat→Nat→StateT SortSt Sem (Option Nat):=sortPriv% PySem.Builtin.countRun
theorem gO {n:Nat} {Q:Option Nat→SortSt→Prop} (hC:Cmp prog w A s κ rk L) (hB:Bs κ L st) (hn:lo+nrem≤L.length) (h1:1≤n) (h2:n≤nrem) (hs:Dsc rk (arrOf st) lo (lo+n))
 (h:∀ m st',Bs κ L st'→Mv st st' lo (lo+nrem)→1≤m→m≤nrem→Seg rk (arrOf st') lo (lo+m)→Q (some m) st') :
 wpS (model prog w) A E s (asc lo n nrem) (fun c st'=>c.1=none∧Q (some c.2) st') (setArr st (mirror (arrOf st) lo (lo+n) ((lo+n - lo) / 2))):=by
 have hsz:=hB.size
 have hB':=hB.arr (Kf.mp (K4 (arrOf st) lo (lo+n) ((lo+n - lo) / 2)))
 refine uv hC hB' hn h1 h2 (fun a b z1 z2 z3=>?_) fun m m1 m2 ms _=>⟨rfl,h m _ hB' (ki (by omega) (GZ _) (by omega)) (by omega) m2 ms⟩
 show R rk (mirror _ _ _ _) a≤R rk (mirror _ _ _ _) b
 rw [ze (by omega),ze (by omega),if_pos (by omega),if_pos (by omega)]
 exact hs _ _ (by omega) (by omega) (by omega)
local macro_rules | `(tactic| walk_at "dl countRun")=>do
 let i:=J4 (JR `PySem.Builtin.List.W1All `PySem.Builtin.countRun)
 `(tactic| delta $i)
theorem wpS_countRun {Q:Option Nat→SortSt→Prop} (hC:Cmp prog w A s κ rk L) (hB:Bs κ L st) (hn:lo+nrem≤L.length) (h1:1≤nrem)
 (h:∀ m st',Bs κ L st'→Mv st st' lo (lo+nrem)→1≤m→m≤nrem→Seg rk (arrOf st') lo (lo+m)→Q (some m) st'):wpS (model prog w) A E s (countRun' lo nrem) Q st:=by
 unfold countRun'
 walk_at "dl countRun"
 dsimp only
 have hsz:=hB.size
 refine GY (show wpS _ _ _ _ (asc lo 1 nrem) _ _ from uv hC hB hn (GZ _) h1 (Cp lo _) fun n n1 n2 ns nor=>?_)
 dsimp only
 by_cases hnn:n=nrem
 ·rw [if_pos (by simpa using hnn)]
  exact G0 (h n st hB .refl n1 n2 ns)
 rw [if_neg (by simpa using hnn)]
 have hlt:=nor.resolve_left hnn
 have rest:∀ (st1:SortSt),Bs κ L st1→Mv st st1 lo (lo+nrem)→Dsc rk (arrOf st1) lo (lo+(n+1))→wpS (model prog w) A E s (dsc lo (n+1) nrem) (fun c st2=>Bs κ L st2∧Mv st st2 lo (lo+nrem)∧c.1=none∧n+1≤c.2.1∧c.2.1≤nrem∧Dsc rk (arrOf st2) lo (lo+c.2.1)∧c.2.2+1≤c.2.1∧(∀ i,lo+c.2.1 - (c.2.2+1)≤i→i<lo+c.2.1→R rk (arrOf st2) i=R rk (arrOf st2) (lo+c.2.1 - 1))) st1 :=
  fun st1 hB1 hM1 hs1=>Cq hC hB1 hn (by omega) (by omega) hs1 fun m neq st2 a1 a2 a3 a4 a5 a6 a7=>⟨a1,hM1.trans a2,rfl,a3,a4,a5,a6,a7⟩
 by_cases hgt:n>1
 ·rw [if_pos hgt]
  refine GY (kj hC hB (by omega) (by omega) ?_)
  dsimp only
  by_cases hrose:R rk (arrOf st) lo<R rk (arrOf st) (lo+n - 1)
  ·rw [decide_eq_true hrose,if_pos rfl]
   exact G0 (h n st hB .refl n1 n2 ns)
  ·rw [decide_eq_false hrose,if_neg G6]
   have hall:∀ k,lo≤k→k<lo+n→R rk (arrOf st) k=R rk (arrOf st) (lo+n - 1):=fun k z1 z2=>by
    have a1:=ns lo k (GZ _) z1 z2
    have a2:=ns k (lo+n - 1) z1 (by omega) (by omega)
    omega
   have key:=gM (rk:=rk) (xs:=arrOf st) (i:=lo) (j:=lo+n) (by omega) hall
   refine GY (dh ?_)
   refine GY (JN (Iq ⟨rfl,?_⟩))
   refine GY (HK (show wpS _ _ _ _ (dsc lo (n+1) nrem) _ _ from rest _ (hB.arr (Kf.mp (K4 _ _ _ _))) (ki (by omega) (GZ _) (by omega)) (eU (fun a b z1 z2 z3=>?_) (by omega) ?_)) fun c st2 hc=>?_)
   ·show R rk (mirror _ _ _ _) b≤R rk (mirror _ _ _ _) a
    rw [key,key,hall b (by omega) z3,hall a z1 (by omega)]; exact IG _
   ·show R rk (mirror _ _ _ _) _≤R rk (mirror _ _ _ _) _
    rw [key,key]; omega
   ·obtain ⟨r,m,neq⟩:=c
    obtain ⟨b1,b2,b3,b4,b5,b6,b7,b8⟩:=hc
    dsimp only at b3 b4 b5 b6 b7 b8 ⊢
    rw [b3]
    dsimp only
    by_cases hq0:neq>0
    ·rw [if_pos hq0]
     have hsz2:=b1.size
     have key2:=gM (rk:=rk) (xs:=arrOf st2) (i:=lo+m - (neq+1)) (j:=lo+m) (by omega) b8
     refine GY (dh (GY (dh (GY (HK (show wpS _ _ _ _ (asc lo m nrem) _ _ from gO (Q:=Q) hC (b1.arr (Kf.mp (K4 _ _ _ _))) hn (by omega) b5 (fun a b z1 z2 z3=>?_) fun k st3 c1 c2 c3 c4 c5=>h k st3 c1 ((b2.trans (ki (by omega) (by omega) (by omega))).trans c2) c3 c4 c5) fun c st4 hc=>?_)))))
     ·show R rk (mirror _ _ _ _) b≤R rk (mirror _ _ _ _) a
      rw [key2,key2]; exact b6 a b z1 z2 z3
     ·obtain ⟨r,k⟩:=c
      obtain ⟨e,hQ⟩:=hc
      dsimp only at e hQ ⊢
      rw [e]
      exact G0 hQ
    ·rw [if_neg hq0]
     refine GY (dh (GY (HK (show wpS _ _ _ _ (asc lo m nrem) _ _ from gO (Q:=Q) hC b1 hn (by omega) b5 b6 fun k st3 c1 c2 c3 c4 c5=>h k st3 c1 (b2.trans c2) c3 c4 c5) fun c st4 hc=>?_)))
     obtain ⟨r,k⟩:=c
     obtain ⟨e,hQ⟩:=hc
     dsimp only at e hQ ⊢
     rw [e]
     exact G0 hQ
 ·rw [if_neg hgt]
  have e1:n=1:=by omega
  subst e1
  refine GY (JN (Iq ⟨rfl,?_⟩))
  refine GY (HK (show wpS _ _ _ _ (dsc lo (1+1) nrem) _ _ from rest st hB .refl (eU (fun a b z1 z2 z3=>?_) (GZ _) (Ju hlt))) fun c st2 hc=>?_)
  ·have:a=b:=by omega
   subst this; exact IG _
  ·obtain ⟨r,m,neq⟩:=c
   obtain ⟨b1,b2,b3,b4,b5,b6,b7,b8⟩:=hc
   dsimp only at b3 b4 b5 b6 b7 b8 ⊢
   rw [b3]
   dsimp only
   by_cases hq0:neq>0
   ·rw [if_pos hq0]
    have hsz2:=b1.size
    have key2:=gM (rk:=rk) (xs:=arrOf st2) (i:=lo+m - (neq+1)) (j:=lo+m) (by omega) b8
    refine GY (dh (GY (dh (GY (HK (show wpS _ _ _ _ (asc lo m nrem) _ _ from gO (Q:=Q) hC (b1.arr (Kf.mp (K4 _ _ _ _))) hn (by omega) b5 (fun a b z1 z2 z3=>?_) fun k st3 c1 c2 c3 c4 c5=>h k st3 c1 ((b2.trans (ki (by omega) (by omega) (by omega))).trans c2) c3 c4 c5) fun c st4 hc=>?_)))))
    ·show R rk (mirror _ _ _ _) b≤R rk (mirror _ _ _ _) a
     rw [key2,key2]; exact b6 a b z1 z2 z3
    ·obtain ⟨r,k⟩:=c
     obtain ⟨e,hQ⟩:=hc
     dsimp only at e hQ ⊢
     rw [e]
     exact G0 hQ
   ·rw [if_neg hq0]
    refine GY (dh (GY (HK (show wpS _ _ _ _ (asc lo m nrem) _ _ from gO (Q:=Q) hC b1 hn (by omega) b5 b6 fun k st3 c1 c2 c3 c4 c5=>h k st3 c1 (b2.trans c2) c3 c4 c5) fun c st4 hc=>?_)))
    obtain ⟨r,k⟩:=c
    obtain ⟨e,hQ⟩:=hc
    dsimp only at e hQ ⊢
    rw [e]
    exact G0 hQ
end
section
variable {prog:Program} {w:World} {A:Around} {E:Value→Shared→Prop} {s:Shared} {L:List Keyed} {κ:SortKind} {rk:Keyed→Int} {st:SortSt} {lo:Nat}
theorem DW {xs:Array Keyed} {src d:Nat} (hs:src<xs.size) (hd:d≤src) (k:Nat):R rk (bubble xs src d) k=if k=src - d then R rk xs src else if src - d<k∧k≤src then R rk xs (k - 1) else R rk xs k:=by
 have e:=getElem?_bubble hs d hd k
 by_cases h1:k=src - d
 ·rw [if_pos h1] at e ⊢; exact bK e
 ·rw [if_neg h1] at e ⊢
  by_cases h2:src - d<k∧k≤src
  ·rw [if_pos h2] at e ⊢; exact bK e
  ·rw [if_neg h2] at e ⊢; exact bK e
theorem zg {i j:Nat} {Q:Unit→SortSt→Prop} (h:Q () (setArr st (bubble (arrOf st) i (i - j)))):wpS (model prog w) A E s (moveDown' i j) Q st :=
 Jd (f:=fun s=>setArr s (bubble (arrOf s) i (i - j))) h
noncomputable def binarySort':Nat→Nat→Nat→StateT SortSt Sem Bool:=sortPriv% PySem.Builtin.binarySort
local macro_rules | `(tactic| walk_at "dl binarySort")=>do
 let i:=J4 (JR `PySem.Builtin.List.W1All `PySem.Builtin.binarySort)
 `(tactic| delta $i)
theorem wpS_binarySort {n ok:Nat} {Q:Bool→SortSt→Prop} (hC:Cmp prog w A s κ rk L) (hB:Bs κ L st) (hn:lo+n≤L.length) (hok:ok≤n) (hs:Seg rk (arrOf st) lo (lo+ok))
 (h:∀ st',Bs κ L st'→Mv st st' lo (lo+n)→Seg rk (arrOf st') lo (lo+n)→Q true st'):wpS (model prog w) A E s (binarySort' lo n ok) Q st:=by
 unfold binarySort'
 walk_at "dl binarySort"
 dsimp only
 refine GY (HK (Ip (I:=fun k c st'=>c.1=none∧Bs κ L st'∧Mv st st' lo (lo+n)∧Seg rk (arrOf st') lo (lo+min k n)) (Q:=fun c st'=>c.1=none∧Bs κ L st'∧Mv st st' lo (lo+n)∧Seg rk (arrOf st') lo (lo+n)) ?step ?fin ?init) ?post)
 case post =>
  rintro ⟨c,u⟩ st' ⟨hc,hB',hM',hs'⟩
  dsimp only at hc ⊢
  rw [hc]
  exact G0 (h st' hB' hM' hs')
 case init =>
  refine ⟨rfl,hB,.refl,fun a b z1 z2 z3=>?_⟩
  by_cases h1:ok=0
  ·have:a=b:=by omega
   subst this; exact IG _
  ·exact hs a b z1 z2 (by omega)
 case fin =>
  rintro c st' ⟨hc,hB',hM',hs'⟩
  rw [show min (max (max ok 1) n) n=n by omega] at hs'
  exact ⟨hc,hB',hM',hs'⟩
 case step =>
  rintro k ⟨c,u⟩ st' hak hkn ⟨rfl,hB',hM',hs'⟩
  rw [show min k n=k by omega] at hs'
  have hsz:=hB'.size
  refine GY (HK (Ip (I:=fun x c st2=>st2=st'∧∃ l r,c=(none,l,r)∧l≤r∧r≤k∧r - l≤k - x∧(∀ i,i<l→R rk (arrOf st') (lo+i)≤R rk (arrOf st') (lo+k))∧(∀ i,r≤i→i<k→R rk (arrOf st') (lo+k)<R rk (arrOf st') (lo+i)))
   (Q:=fun c st2=>st2=st'∧∃ l r,c=(none,l,r)∧l≤k∧(∀ i,i<l→R rk (arrOf st') (lo+i)≤R rk (arrOf st') (lo+k))∧(∀ i,l≤i→i<k→R rk (arrOf st') (lo+k)<R rk (arrOf st') (lo+i))) ?istep ?ifin ⟨rfl,0,k,rfl,by omega,by omega,by omega,fun i hi=>by omega,fun i h1 h2=>by omega⟩) ?ipost)
  case ifin =>
   rintro c st2 ⟨rfl,l,r,rfl,a1,a2,a3,a4,a5⟩
   have:l=r:=by omega
   subst this
   exact ⟨rfl,l,l,rfl,a2,a4,a5⟩
  case istep =>
   rintro x c st2 _ hx ⟨rfl,l,r,rfl,a1,a2,a3,a4,a5⟩
   dsimp only
   by_cases hge:l≥r
   ·rw [if_pos hge]
    have:l=r:=by omega
    subst this
    exact G0 ⟨rfl,l,l,rfl,a2,a4,a5⟩
   ·rw [if_neg hge]
    refine GY (kj hC hB' (by omega) (by omega) ?_)
    dsimp only
    by_cases hl:R rk (arrOf st2) (lo+k)<R rk (arrOf st2) (lo+(l+r) / 2)
    ·rw [decide_eq_true hl,if_pos rfl]
     refine G0 ⟨rfl,l,(l+r) / 2,rfl,by omega,by omega,by omega,a4,fun i h1 h2=>?_⟩
     exact Int.lt_of_lt_of_le hl (hs' _ _ (by omega) (by omega) (by omega))
    ·rw [decide_eq_false hl,if_neg G6]
     refine G0 ⟨rfl,(l+r) / 2+1,r,rfl,by omega,by omega,by omega,fun i h1=>?_,a5⟩
     exact HJ (hs' (lo+i) (lo+(l+r) / 2) (by omega) (by omega) (by omega)) (Int.not_lt.mp hl)
  case ipost =>
   rintro c st2 ⟨rfl,l,r,rfl,hlk,a4,a5⟩
   dsimp only
   have e1:lo+k - (lo+l)=k - l:=by omega
   refine GY (zg (G0 ⟨rfl,hB'.arr (Kf.mp (bubble_perm _ _ _)),?_,?_⟩))
   ·refine hM'.trans ⟨fun i hi=>?_,rfl⟩
    have e:=getElem?_bubble (xs:=arrOf st2) (src:=lo+k) (by omega) (lo+k - (lo+l)) (by omega) i
    rw [if_neg (by omega),if_neg (by omega)] at e
    exact e
   ·rw [show min (k+1) n=k+1 by omega]
    intro i j hi hij hj
    show R rk (bubble (arrOf st2) (lo+k) (lo+k - (lo+l))) i≤R rk (bubble (arrOf st2) (lo+k) (lo+k - (lo+l))) j
    rw [DW (by omega) (by omega),DW (by omega) (by omega),e1]
    have sub:∀ i,lo≤i→lo+(i - lo)=i:=fun i hi=>by omega
    have f4:∀ i,lo≤i→i<lo+l→R rk (arrOf st2) i≤R rk (arrOf st2) (lo+k):=fun i h1 h2=>by have:=a4 (i - lo) (by omega); rwa [sub i h1] at this
    have f5:∀ i,lo+l≤i→i<lo+k→R rk (arrOf st2) (lo+k)<R rk (arrOf st2) i:=fun i h1 h2=>by have:=a5 (i - lo) (by omega) (by omega); rwa [sub i (by omega)] at this
    repeat' split
    all_goals first
     | (exfalso; omega)
     | exact IG _
     | exact f4 _ (by omega) (by omega)
     | exact Ju (f5 _ (by omega) (by omega))
     | exact hs' _ _ (by omega) (by omega) (by omega)
theorem mj:∀ (l:List Keyed) (k sa:Nat) (A:Array Keyed),sa+k+l.length≤A.size→((l.zipIdx k).foldl (fun a (x:Keyed×Nat)=>a.setIfInBounds (sa+x.2) x.1) A).size=A.size ∧
 ∀ i:Nat,((l.zipIdx k).foldl (fun a (x:Keyed×Nat)=>a.setIfInBounds (sa+x.2) x.1) A)[i]?=if sa+k≤i∧i<sa+k+l.length then l[i - (sa+k)]? else A[i]?
 | [],k,sa,A,h=>⟨rfl,fun i=>by rw [if_neg (by simp only [Jk]; omega)]; rfl⟩
 | x::l,k,sa,A,h=>by
  rw [HV] at h
  obtain ⟨h1,h2⟩:=mj l (k+1) sa (A.setIfInBounds (sa+k) x) (by rw [Array.size_setIfInBounds]; omega)
  rw [MY,IL]
  refine ⟨by rw [h1,Array.size_setIfInBounds],fun i=>?_⟩
  rw [h2 i,HV]
  by_cases c1:sa+(k+1)≤i∧i<sa+(k+1)+l.length
  ·rw [if_pos c1,if_pos (by omega),show i - (sa+k)=i - (sa+(k+1))+1 by omega,List.getElem?_cons_succ]
  ·rw [if_neg c1]
   by_cases c2:i=sa+k
   ·subst c2
    rw [if_pos (by omega),Nat.sub_self,List.getElem?_cons_zero,Array.getElem?_setIfInBounds_self_of_lt (by omega)]
   ·rw [if_neg (by omega),Array.getElem?_setIfInBounds_ne (by omega)]
end
noncomputable def fQ:Nat→StateT SortSt Sem Bool:=sortPriv% PySem.Builtin.mergeAt
local macro_rules | `(tactic| walk_at "dl mergeAt")=>do
 let i:=J4 (JR `PySem.Builtin.List.W1All `PySem.Builtin.mergeAt)
 `(tactic| delta $i)
section
variable {prog:Program} {w:World} {A:Around} {E:Value→Shared→Prop} {s:Shared} {L:List Keyed} {κ:SortKind} {rk:Keyed→Int} {st:SortSt}
theorem Cr {M:Model} {st1:SortSt} {Q:PUnit→SortSt→Prop} (h:Q ⟨⟩ st1):wpS M A E s (set st1:StateT SortSt Sem PUnit) Q st:=by
 unfold wpS; rw [StateT.run_set]; exact GX ⟨rfl,h⟩
theorem vN {key:Keyed} {xs:Array Keyed} {base n hint:Nat} {Q:Option Nat→SortSt→Prop} (hC:Cmp prog w A s κ rk L) (hk:kindOf st=κ) (hkey:key∈L) (mx:∀ (i:Nat) (p:Keyed),xs[i]?=some p→p∈L) (hn:base+n≤xs.size) (us:Seg rk xs base (base+n)) (hh:hint<n)
 (h:∀ k,k≤n→(∀ i,base≤i→i<base+k→R rk xs i≤rk key)→(∀ i,base+k≤i→i<base+n→rk key<R rk xs i)→Q (some k) st):wpS (model prog w) A E s (cg false key xs base n hint) Q st:=by
 obtain ⟨k,h1,h2⟩:=kc (fun i=>R rk xs (base+i)) (rk key) n fun i j hij hj=>us _ _ (by omega) (by omega) (by omega)
 refine dU hC hk hkey (fun i hi=>⟨xs[base+i]'(by omega),Hz _,mx _ _ (Hz _)⟩) (fun i hi=>by simp only [Ib,if_false]; exact h2 i hi) h1 hh (h k h1 (fun i hi hk=>?_) fun i hi hk=>?_)
 ·have:=(h2 (i - base) (by omega)).mpr (by omega)
  rwa [show base+(i - base)=i by omega] at this
 ·have:=mt (h2 (i - base) (by omega)).mp (by omega)
  rw [show base+(i - base)=i by omega] at this
  omega
theorem vO {key:Keyed} {xs:Array Keyed} {base n hint:Nat} {Q:Option Nat→SortSt→Prop} (hC:Cmp prog w A s κ rk L) (hk:kindOf st=κ) (hkey:key∈L) (mx:∀ (i:Nat) (p:Keyed),xs[i]?=some p→p∈L) (hn:base+n≤xs.size) (us:Seg rk xs base (base+n)) (hh:hint<n)
 (h:∀ k,k≤n→(∀ i,base≤i→i<base+k→R rk xs i<rk key)→(∀ i,base+k≤i→i<base+n→rk key≤R rk xs i)→Q (some k) st):wpS (model prog w) A E s (cg true key xs base n hint) Q st:=by
 obtain ⟨k,h1,h2⟩:=kg (fun i=>R rk xs (base+i)) (rk key) n fun i j hij hj=>us _ _ (by omega) (by omega) (by omega)
 refine dU hC hk hkey (fun i hi=>⟨xs[base+i]'(by omega),Hz _,mx _ _ (Hz _)⟩) (fun i hi=>by simp only [if_true]; exact h2 i hi) h1 hh (h k h1 (fun i hi hk=>?_) fun i hi hk=>?_)
 ·have:=(h2 (i - base) (by omega)).mpr (by omega)
  rwa [show base+(i - base)=i by omega] at this
 ·have:=mt (h2 (i - base) (by omega)).mp (by omega)
  rw [show base+(i - base)=i by omega] at this
  omega
theorem di {xs:Array Keyed} {i j m:Nat} {p:Keyed} (h:(xs.extract i j)[m]?=some p):xs[i+m]?=some p∧i+m<j:=by
 rw [Ll] at h
 split at h
 ·exact ⟨h,by omega⟩
 ·cases h
theorem uw {xs:Array Keyed} {lo hi i j:Nat} (h:Seg rk xs lo hi) (h1:lo≤i) (h2:j≤hi):Up rk (xs.extract i j):=fun a b p q hab e1 e2=>by
 obtain ⟨f1,g1⟩:=di e1
 obtain ⟨f2,g2⟩:=di e2
 have:=h (i+a) (i+b) (by omega) (by omega) (by omega)
 rwa [cO f1,cO f2] at this
theorem pW {i sa na nb pw pw2:Nat} {Q:Bool→SortSt→Prop} (hC:Cmp prog w A s κ rk L) (hB:Bs κ L st) (p1:(pendingOf st)[i]?=some (sa,na,pw)) (p2:(pendingOf st)[i+1]?=some (sa+na,nb,pw2)) (h1:1≤na) (h2:1≤nb) (hz:sa+na+nb≤L.length)
 (s1:Seg rk (arrOf st) sa (sa+na)) (s2:Seg rk (arrOf st) (sa+na) (sa+na+nb))
 (h:∀ st',Bs κ L st'→(∀ j,j<sa∨sa+na+nb≤j→(arrOf st')[j]?=(arrOf st)[j]?)→pendingOf st'=((pendingOf st).setIfInBounds i (sa,na+nb,pw)).eraseIdxIfInBounds (i+1)→Seg rk (arrOf st') sa (sa+na+nb)→Q true st') :
 wpS (model prog w) A E s (fQ i) Q st:=by
 unfold fQ
 walk_at "dl mergeAt"
 dsimp only
 refine GY (IT ?_)
 rw [p1,p2]
 dsimp only
 have hsz:=hB.size
 have mL:∀ (i:Nat) (p:Keyed),(arrOf st)[i]?=some p→p∈L:=fun i p e=>hB.perm.mem_iff.mp (by
  obtain ⟨h1,h2⟩:=Kg.mp e
  rw [← h2,MC]; exact MV _)
 refine GY (Cr ?_)
 obtain ⟨key,ek,hkL⟩:=hB.at (i:=sa+na) (by omega)
 refine GY (aI ek ?_)
 have rkey:R rk (arrOf st) (sa+na)=rk key:=cO ek
 refine GY (vN hC hB.kind hkL mL (by show _≤(arrOf st).size; omega) s1 (by omega) fun k k1 k2 k3=>?_)
 dsimp only
 by_cases e0:na - k=0
 ·rw [if_pos (by simpa using e0)]
  refine G0 (h _ ⟨hB.perm,hB.kind,hB.failed⟩ (fun _ _=>rfl) rfl fun a b z1 z2 z3=>?_)
  by_cases hb:b<sa+na
  ·exact s1 a b z1 z2 hb
  ·by_cases ha:sa+na≤a
   ·exact s2 a b ha z2 z3
   ·refine HJ (k2 a z1 (by omega)) ?_
    rw [← rkey]; exact s2 (sa+na) b (GZ _) (by omega) z3
 rw [if_neg (by simpa using e0)]
 obtain ⟨key2,ek2,hk2L⟩:=hB.at (i:=sa+k+(na - k) - 1) (by omega)
 have rkey2:R rk (arrOf st) (sa+na - 1)=rk key2:=by rw [← cO (rk:=rk) ek2]; congr 1; omega
 refine GY (aI ek2 ?_)
 refine GY (vO hC (by exact hB.kind) hk2L mL (by show _≤(arrOf st).size; omega) s2 (by omega) fun m m1 m2 m3=>?_)
 dsimp only
 by_cases e1:m=0
 ·exfalso
  have a1:=m3 (sa+na) (by omega) (by omega)
  have a2:=k3 (sa+na - 1) (by omega) (by omega)
  rw [rkey2] at a2; rw [rkey] at a1; omega
 rw [if_neg (by simpa using e1)]
 have mx:∀ (i:Nat) (p:Keyed),((arrOf st).extract (sa+k) (sa+na))[i]?=some p→p∈L:=fun i p e=>mL _ p (di e).1
 have my:∀ (i:Nat) (p:Keyed),((arrOf st).extract (sa+na) (sa+na+m))[i]?=some p→p∈L:=fun i p e=>mL _ p (di e).1
 have ux:Up rk ((arrOf st).extract (sa+k) (sa+na)):=uw s1 (by omega) (GZ _)
 have uy:Up rk ((arrOf st).extract (sa+na) (sa+na+m)):=uw s2 (GZ _) (by omega)
 have zx:((arrOf st).extract (sa+k) (sa+na)).size=na - k:=by rw [Array.size_extract]; omega
 have zy:((arrOf st).extract (sa+na) (sa+na+m)).size=m:=by rw [Array.size_extract]; omega
 have h0:∀ p q,((arrOf st).extract (sa+k) (sa+na))[0]?=some p→((arrOf st).extract (sa+na) (sa+na+m))[0]?=some q→rk q≤rk p:=fun p q e2 e3=>by
  obtain ⟨f1,g1⟩:=di e2
  obtain ⟨f2,g2⟩:=di e3
  have a1:=k3 (sa+k+0) (by omega) (by omega)
  rw [cO f1] at a1
  have a2:rk q=rk key:=by rw [← rkey,← cO (rk:=rk) f2]; rfl
  omega
 have hl:∀ (j:Nat) (p q:Keyed),((arrOf st).extract (sa+k) (sa+na))[((arrOf st).extract (sa+k) (sa+na)).size - 1]?=some p→((arrOf st).extract (sa+na) (sa+na+m))[j]?=some q→rk q≤rk p:=fun j p q e2 e3=>by
  rw [zx] at e2
  obtain ⟨f1,g1⟩:=di e2
  obtain ⟨f2,g2⟩:=di e3
  have a1:=m2 (sa+na+j) (by omega) (by omega)
  rw [cO f2] at a1
  have a2:rk p=rk key2:=by rw [← rkey2,← cO (rk:=rk) f1]; congr 1; omega
  omega
 have fin:∀ (r:Array Keyed) (st2:SortSt),Res rk ((arrOf st).extract (sa+k) (sa+na)) ((arrOf st).extract (sa+na) (sa+na+m)) r→kindOf st2=kindOf st→arrOf st2=arrOf st→pendingOf st2=((pendingOf st).setIfInBounds i (sa,na+nb,pw)).eraseIdxIfInBounds (i+1)→failedOf st2=failedOf st →
  Q true (setArr st2 (KD (fun a (x:Keyed×Nat)=>a.setIfInBounds (sa+k+x.2) x.1) (arrOf st2) r.toList.zipIdx)):=fun r st2 hr e2 e3 e4 e5=>by
  have hlen:r.toList.length=na - k+m:=by
   have:=hr.1.length_eq
   simp only [HQ,Ie,zx,zy] at this ⊢
   exact this
  obtain ⟨w1,w2⟩:=mj r.toList 0 (sa+k) (arrOf st) (by omega)
  generalize hW:KD (fun a (x:Keyed×Nat)=>a.setIfInBounds (sa+k+x.2) x.1) (arrOf st) r.toList.zipIdx=W at w1 w2
  rw [e3,hW]
  have rW:∀ i,sa+k≤i→i<sa+na+m→R rk W i=R rk r (i - (sa+k)):=fun i z1 z2=>by
   refine bK ?_
   rw [w2,if_pos (by omega),Ia]; rfl
  have rO:∀ i,(i<sa+k∨sa+na+m≤i)→R rk W i=R rk (arrOf st) i:=fun i z=>by
   refine bK ?_
   rw [w2,if_neg (by omega)]
  have elt:∀ i,sa+k≤i→i<sa+na+m→∃ t,sa+k≤t∧t<sa+na+m∧R rk W i=R rk (arrOf st) t:=fun i z1 z2=>by
   have hi:i - (sa+k)<r.size:=by rw [← Ie]; omega
   have e6:r[i - (sa+k)]?=some r[i - (sa+k)]:=Hz hi
   have hm:r[i - (sa+k)]∈r.toList:=by rw [MC]; exact MV _
   rw [rW i z1 z2,cO e6]
   rcases Hy.mp (hr.1.mem_iff.mp hm) with z | z
   ·obtain ⟨t,t1,t2,t3⟩:=ue z
    exact ⟨t,t1,by omega,(cO t3).symm⟩
   ·obtain ⟨t,t1,t2,t3⟩:=ue z
    exact ⟨t,by omega,by omega,(cO t3).symm⟩
  have ur:=FH hr.2
  refine h _ ⟨?_,e2.trans hB.kind,e5.trans hB.failed⟩ (fun j hj=>?_) e4 fun a b z1 z2 z3=>?_
  ·
   refine List.Perm.trans ?_ hB.perm
   have eW:W.toList=(arrOf st).toList.take (sa+k)++r.toList++(arrOf st).toList.drop (sa+na+m):=by
    apply LB
    intro j
    rw [Ia,w2,Hw,KI,KI,HN,Kq,KS (by rw [Ie]; omega)]
    by_cases c1:j<sa+k
    ·rw [if_neg (by omega),if_pos c1,Lf c1,Ia]
    ·rw [if_neg c1]
     by_cases c2:j - (sa+k)<r.toList.length
     ·rw [if_pos (by omega),if_pos c2]; rfl
     ·rw [if_neg (by omega),if_neg c2,Ia]; congr 1; omega
   have eA:(arrOf st).toList=(arrOf st).toList.take (sa+k)++(((arrOf st).extract (sa+k) (sa+na)).toList++((arrOf st).extract (sa+na) (sa+na+m)).toList)++(arrOf st).toList.drop (sa+na+m):=by
    apply LB
    intro j
    rw [Hw,Hw,KI,KI,KI,HN,Ie,Ie,Ie,zx,zy,Kq,KS (by omega)]
    by_cases c1:j<sa+k
    ·rw [if_pos c1,Lf c1]
    ·rw [if_neg c1]
     by_cases c2:j - (sa+k)<na - k
     ·rw [if_pos c2,Ia,Ia,Ll,if_pos (by omega)]; congr 1; omega
     ·rw [if_neg c2]
      by_cases c3:j - (sa+k) - (na - k)<m
      ·rw [if_pos c3,Ia,Ia,Ll,if_pos (by omega)]; congr 1; omega
      ·rw [if_neg c3]; congr 1; omega
   show W.toList.Perm _
   rw [eW]
   conv=>rhs; rw [eA]
   exact (Kl _ hr.1).append_right _
  ·show W[j]?=_
   rw [w2,if_neg (by omega)]
  ·show R rk W a≤R rk W b
   have kk:∀ t,sa+na≤t→t<sa+na+nb→rk key≤R rk (arrOf st) t:=fun t t1 t2=>by rw [← rkey]; exact s2 _ t (GZ _) t1 t2
   have kk2:∀ t,sa≤t→t<sa+na→R rk (arrOf st) t≤rk key2:=fun t t1 t2=>by rw [← rkey2]; exact s1 t _ t1 (by omega) (by omega)
   by_cases c1:a<sa+k
   ·rw [rO a (.inl c1)]
    have la:=k2 a z1 c1
    by_cases d1:b<sa+k
    ·rw [rO b (.inl d1)]; exact s1 a b z1 z2 (by omega)
    ·by_cases d2:b<sa+na+m
     ·obtain ⟨t,t1,t2,t3⟩:=elt b (by omega) d2
      rw [t3]
      by_cases d3:t<sa+na
      ·exact s1 a t z1 (by omega) d3
      ·exact HJ la (kk t (by omega) (by omega))
     ·rw [rO b (.inr (by omega))]
      exact HJ la (kk b (by omega) z3)
   ·by_cases c2:a<sa+na+m
    ·by_cases d2:b<sa+na+m
     ·rw [rW a (by omega) c2,rW b (by omega) d2]
      have f1:r[a - (sa+k)]?=some (r[a - (sa+k)]'(by rw [← Ie]; omega)):=Hz _
      have f2:r[b - (sa+k)]?=some (r[b - (sa+k)]'(by rw [← Ie]; omega)):=Hz _
      rw [cO f1,cO f2]
      exact ur _ _ _ _ (by omega) f1 f2
     ·obtain ⟨t,t1,t2,t3⟩:=elt a (by omega) c2
      rw [t3,rO b (.inr (by omega))]
      by_cases d3:t<sa+na
      ·exact HJ (kk2 t (by omega) d3) (m3 b (by omega) z3)
      ·exact s2 t b (by omega) (by omega) z3
    ·rw [rO a (.inr (by omega)),rO b (.inr (by omega))]
     exact s2 a b (by omega) z2 z3
 have post:∀ (r:Array Keyed) (st2:SortSt),failedOf st2=failedOf st→(failedOf st2).isNone=true:=fun r st2 e=>by rw [e,hB.failed]; rfl
 by_cases hle:na - k≤m
 ·rw [if_pos hle]
  refine GY (pR hC (by exact hB.kind) mx my ux uy (by show 1≤((arrOf st).extract (sa+k) (sa+na)).size; omega) (by show 1≤((arrOf st).extract (sa+na) (sa+na+m)).size; omega) h0 hl fun r st2 hr hK=>?_)
  refine GY (Jd (GY (IT ?_)))
  have e9:failedOf st2=none:=hK.f.trans hB.failed
  have z:=fin r st2 hr hK.k hK.a hK.p hK.f
  refine G0 ?_
  show Q (failedOf st2).isNone _
  rw [e9]; exact z
 ·rw [if_neg hle]
  refine GY (pV hC (by exact hB.kind) mx my ux uy (by show 1≤((arrOf st).extract (sa+k) (sa+na)).size; omega) (by show 1≤((arrOf st).extract (sa+na) (sa+na+m)).size; omega) h0 hl fun r st2 hr hK=>?_)
  refine GY (Jd (GY (IT ?_)))
  have e9:failedOf st2=none:=hK.f.trans hB.failed
  have z:=fin r st2 hr hK.k hK.a hK.p hK.f
  refine G0 ?_
  show Q (failedOf st2).isNone _
  rw [e9]; exact z
end
noncomputable abbrev minR:Nat→Nat→Nat→Nat:=sortPriv% PySem.Builtin.minRun
noncomputable def pX:StateT SortSt Sem Unit:=sortPriv% PySem.Builtin.sortRuns
local macro_rules | `(tactic| walk_at "dl sortRuns")=>do
 let i:=J4 (JR `PySem.Builtin.List.W1All `PySem.Builtin.sortRuns)
 `(tactic| delta $i)
noncomputable def Chn (rk:Keyed→Int) (xs:Array Keyed):Nat→List (Nat×Nat×Nat)→Nat→Prop
 | a,[],b=>a=b
 | a,p::r,b=>p.1=a∧1≤p.2.1∧Seg rk xs a (a+p.2.1)∧Chn rk xs (a+p.2.1) r b
section
variable {rk:Keyed→Int} {xs ys:Array Keyed}
theorem Chn.le:∀ {ps:List (Nat×Nat×Nat)} {a b:Nat},Chn rk xs a ps b→a+ps.length≤b
 | [],a,b,h=>by have:a=b:=h; simp; omega
 | p::r,a,b,h=>by
  obtain ⟨_,h1,_,h2⟩:=h
  have:=h2.le
  rw [HV]; omega
theorem Chn.app:∀ {ps qs:List (Nat×Nat×Nat)} {a b:Nat},Chn rk xs a (ps++qs) b↔∃ m,Chn rk xs a ps m∧Chn rk xs m qs b
 | [],qs,a,b=>⟨fun h=>⟨a,rfl,h⟩,fun ⟨m,h1,h2⟩=>by have:a=m:=h1; subst this; exact h2⟩
 | p::r,qs,a,b=>by
  constructor
  ·rintro ⟨h1,h2,h3,h4⟩
   obtain ⟨m,h5,h6⟩:=Chn.app.mp h4
   exact ⟨m,⟨h1,h2,h3,h5⟩,h6⟩
  ·rintro ⟨m,⟨h1,h2,h3,h5⟩,h6⟩
   exact ⟨h1,h2,h3,Chn.app.mpr ⟨m,h5,h6⟩⟩
theorem Chn.congr:∀ {ps:List (Nat×Nat×Nat)} {a b:Nat},Chn rk xs a ps b→(∀ i,a≤i→i<b→R rk ys i=R rk xs i)→Chn rk ys a ps b
 | [],a,b,h,_=>h
 | p::r,a,b,h,e=>by
  obtain ⟨h1,h2,h3,h4⟩:=h
  have hl:=h4.le
  refine ⟨h1,h2,fun i j z1 z2 z3=>?_,h4.congr fun i z1 z2=>e i (by omega) z2⟩
  rw [e i z1 (by omega),e j (by omega) (by omega)]
  exact h3 i j z1 z2 z3
theorem Chn.mod (f:Nat×Nat×Nat→Nat×Nat×Nat) (hf:∀ p,(f p).1=p.1∧(f p).2.1=p.2.1):∀ {ps:List (Nat×Nat×Nat)} {a b:Nat} (i:Nat),Chn rk xs a ps b→Chn rk xs a (ps.modify i f) b
 | [],a,b,i,h=>by simpa using h
 | p::r,a,b,0,h=>by
  obtain ⟨h1,h2,h3,h4⟩:=h
  rw [List.modify_zero_cons]
  refine ⟨(hf p).1.trans h1,by rw [(hf p).2]; exact h2,by rw [(hf p).2]; exact h3,by rw [(hf p).2]; exact h4⟩
 | p::r,a,b,i+1,h=>by
  obtain ⟨h1,h2,h3,h4⟩:=h
  rw [List.modify_succ_cons]
  exact ⟨h1,h2,h3,h4.mod f hf i⟩
theorem Chn.two:∀ {ps:List (Nat×Nat×Nat)} {a b:Nat} (i:Nat),Chn rk xs a ps b→i+1<ps.length→∃ s n pw m pw2,ps[i]?=some (s,n,pw)∧ps[i+1]?=some (s+n,m,pw2)∧1≤n∧1≤m∧a≤s∧s+n+m≤b∧Seg rk xs s (s+n)∧Seg rk xs (s+n) (s+n+m) ∧
 ∀ ys:Array Keyed,(∀ j,j<s∨s+n+m≤j→R rk ys j=R rk xs j)→Seg rk ys s (s+n+m)→Chn rk ys a ((ps.set i (s,n+m,pw)).eraseIdx (i+1)) b
 | [],a,b,i,h,hi=>by simp at hi
 | [p],a,b,i,h,hi=>by simp at hi
 | p::q::r,a,b,0,h,hi=>by
  obtain ⟨h1,h2,h3,h4,h5,h6,h7⟩:=h
  obtain ⟨s,n,pw⟩:=p
  obtain ⟨s',m,pw2⟩:=q
  dsimp only at h1 h2 h3 h4 h5 h6 h7
  subst h1; subst h4
  have hl:=h7.le
  refine ⟨s,n,pw,m,pw2,rfl,rfl,h2,h5,GZ _,by omega,h3,h6,fun ys e hs=>?_⟩
  refine ⟨rfl,by dsimp only; omega,by dsimp only; rw [← Nat.add_assoc]; exact hs,?_⟩
  dsimp only
  rw [← Nat.add_assoc]
  exact h7.congr fun i z1 z2=>e i (.inr z1)
 | p::q::r,a,b,i+1,h,hi=>by
  obtain ⟨h1,h2,h3,h4⟩:=h
  obtain ⟨s,n,pw,m,pw2,e1,e2,a1,a2,a3,a4,a5,a6,a7⟩:=h4.two i (by simpa using hi)
  refine ⟨s,n,pw,m,pw2,by simpa using e1,by simpa using e2,a1,a2,by omega,a4,a5,a6,fun ys e hs=>?_⟩
  rw [List.set_cons_succ,List.eraseIdx_cons_succ]
  refine ⟨h1,h2,fun j j' z1 z2 z3=>?_,a7 ys e hs⟩
  rw [e j (.inl (by omega)),e j' (.inl (by omega))]
  exact h3 j j' z1 z2 z3
end
section
variable {prog:Program} {w:World} {A:Around} {E:Value→Shared→Prop} {s:Shared} {L:List Keyed} {κ:SortKind} {rk:Keyed→Int} {st:SortSt}
theorem fR {i b:Nat} {Q:Bool→SortSt→Prop} (hC:Cmp prog w A s κ rk L) (hB:Bs κ L st) (hc:Chn rk (arrOf st) 0 (pendingOf st).toList b) (hb:b≤L.length) (hi:i+1<(pendingOf st).size)
 (h:∀ st',Bs κ L st'→Chn rk (arrOf st') 0 (pendingOf st').toList b→(∀ j,b≤j→(arrOf st')[j]?=(arrOf st)[j]?)→(pendingOf st').size+1=(pendingOf st).size→Q true st'):wpS (model prog w) A E s (fQ i) Q st:=by
 obtain ⟨sa,n,pw,m,pw2,e1,e2,a1,a2,a3,a4,a5,a6,a7⟩:=hc.two i (by rw [Ie]; exact hi)
 rw [Ia] at e1 e2
 refine pW hC hB e1 e2 a1 a2 (by omega) a5 a6 fun st' b1 b2 b3 b4=>h st' b1 ?_ (fun j hj=>b2 j (.inr (by omega))) ?_
 ·rw [b3,Nf,Array.toList_setIfInBounds]
  exact a7 _ (fun j hj=>bK (b2 j hj)) b4
 ·rw [b3,← Ie,Nf,Array.toList_setIfInBounds,List.length_eraseIdx,List.length_set,Ie,if_pos hi]; omega
theorem wpS_sortRuns {Q:Unit→SortSt→Prop} (hC:Cmp prog w A s κ rk L) (hB:Bs κ L st) (hp:pendingOf st= #[]) (h:∀ st',Bs κ L st'→Seg rk (arrOf st') 0 L.length→Q () st'):wpS (model prog w) A E s pX Q st:=by
 unfold pX
 walk_at "dl sortRuns"
 dsimp only
 refine GY (IT ?_)
 have hsz:=hB.size
 rw [hsz]
 obtain ⟨mr,hmr⟩:∃ mr,minR L.length L.length 0=mr:=⟨_,rfl⟩
 delta minR at hmr
 rw [hmr]
 refine GY (HK (Ip (I:=fun x c st'=>c.1=none∧Bs κ L st'∧Chn rk (arrOf st') 0 (pendingOf st').toList c.2∧c.2≤L.length∧(x≤c.2∨L.length≤c.2)) (Q:=fun c st'=>c.1=none∧Bs κ L st'∧Chn rk (arrOf st') 0 (pendingOf st').toList L.length) ?step ?fin ?init) ?post)
 case init=>exact ⟨rfl,hB,by rw [hp]; rfl,HF _,.inl (GZ _)⟩
 case fin =>
  rintro ⟨c,lo⟩ st' ⟨rfl,hB',hC',h1,h2⟩
  dsimp only at hC' h1 h2 ⊢
  have e:lo=L.length:=by
   rcases h2 with z | z
   ·omega
   ·omega
  subst e
  exact ⟨rfl,hB',hC'⟩
 case step =>
  rintro x ⟨c,lo⟩ st' _ hx ⟨rfl,hB',hC',h1,h2⟩
  dsimp only at hC' h1 h2 ⊢
  by_cases hge:lo≥L.length
  ·rw [if_pos hge]
   have e:lo=L.length:=by omega
   subst e
   exact G0 ⟨rfl,hB',hC'⟩
  rw [if_neg hge]
  refine GY (show wpS _ _ _ _ (countRun' lo (L.length - lo)) _ _ from wpS_countRun hC hB' (by omega) (by omega) fun m st1 hB1 hM1 m1 m2 ms=>?_)
  have hC1:Chn rk (arrOf st1) 0 (pendingOf st1).toList lo:=by
   rw [hM1.pend]; exact hC'.congr fun i _ z=>bK (hM1.out i (.inl z))
  dsimp only
  by_cases hmin:m<mr
  ·rw [if_pos (show m<_ from hmin)]
   refine GY (JN (Iq ⟨rfl,?_⟩))
   have hf1:m≤min (L.length - lo) mr:=by omega
   have hf2:lo+min (L.length - lo) mr≤L.length:=by omega
   refine GY (show wpS _ _ _ _ (binarySort' lo (min (L.length - lo) mr) m) _ _ from wpS_binarySort hC hB1 hf2 hf1 ms fun st2 hB2 hM2 hS2=>?_)
   have hC2:Chn rk (arrOf st2) 0 (pendingOf st2).toList lo:=by
    rw [hM2.pend]; exact hC1.congr fun i _ z=>bK (hM2.out i (.inl z))
   simp only [J1,Ib,if_false]
   generalize hF:min (L.length - lo) mr=F at hf1 hf2 hS2
   have hF':=hF
   clear hM2 hM1
   refine GY (IT ?_)
   rcases hbk:(pendingOf st2).back? with _ | ⟨q1,q2,q3⟩
   ·dsimp only
    refine GY (Jd (G0 ⟨rfl,⟨hB2.perm,hB2.kind,hB2.failed⟩,?_,by dsimp only; omega,by dsimp only; omega⟩))
    show Chn rk (arrOf st2) 0 ((pendingOf st2).push (lo,F,0)).toList (lo+(F))
    rw [HL]
    exact Chn.app.mpr ⟨lo,hC2,rfl,by dsimp only; omega,hS2,rfl⟩
   ·dsimp only
    refine GY (HK (Ip (I:=fun y c st'=>c.1=none∧Bs κ L st'∧Chn rk (arrOf st') 0 (pendingOf st').toList lo∧Seg rk (arrOf st') lo (lo+(F))) (Q:=fun c st'=>c.1=none∧Bs κ L st'∧Chn rk (arrOf st') 0 (pendingOf st').toList lo∧Seg rk (arrOf st') lo (lo+(F))) ?_ (fun _ _ z=>z) ⟨rfl,hB2,hC2,hS2⟩) ?_)
    ·rintro y ⟨c,u⟩ st3 _ hy ⟨rfl,hB3,hC3,hS3⟩
     refine GY (IT ?_)
     by_cases hs1:(pendingOf st3).size>1
     ·rw [if_pos hs1]
      obtain ⟨⟨r1,r2,r3⟩,er⟩:∃ t,(pendingOf st3)[(pendingOf st3).size - 2]?=some t:=⟨_,Hz (show (pendingOf st3).size - 2<(pendingOf st3).size by omega)⟩
      rw [er]
      dsimp only
      split
      ·exact G0 ⟨rfl,hB3,hC3,hS3⟩
      ·refine GY (show wpS _ _ _ _ (fQ ((pendingOf st3).size - 2)) _ _ from fR hC hB3 hC3 (by omega) (by omega) fun st4 hB4 hC4 ho4 hz4=>?_)
       simp only [J1,Ib,if_false]
       exact G0 ⟨rfl,hB4,hC4,fun a b z1 z2 z3=>by rw [bK (ho4 a z1),bK (ho4 b (by omega))]; exact hS3 a b z1 z2 z3⟩
     ·rw [if_neg hs1]
      exact G0 ⟨rfl,hB3,hC3,hS3⟩
    ·rintro ⟨c,u⟩ st3 ⟨hc,hB3,hC3,hS3⟩
     dsimp only at hc ⊢
     rw [hc]
     dsimp only
     refine GY (Jd (GY (Jd (G0 ⟨rfl,⟨hB3.perm,hB3.kind,hB3.failed⟩,?_,by dsimp only; omega,by dsimp only; omega⟩))))
     show Chn rk (arrOf st3) 0 (((pendingOf st3).modify ((pendingOf st3).size - 1) _).push (lo,F,0)).toList (lo+(F))
     rw [HL,Array.toList_modify]
     refine Chn.app.mpr ⟨lo,?_,rfl,by dsimp only; omega,hS3,rfl⟩
     refine Chn.mod _ (fun p=>?_) _ hC3
     exact ⟨rfl,rfl⟩
  ·rw [if_neg (show ¬ m<_ from hmin)]
   refine GY (IT ?_)
   rcases hbk:(pendingOf st1).back? with _ | ⟨q1,q2,q3⟩
   ·dsimp only
    refine GY (Jd (G0 ⟨rfl,⟨hB1.perm,hB1.kind,hB1.failed⟩,?_,by dsimp only; omega,by dsimp only; omega⟩))
    show Chn rk (arrOf st1) 0 ((pendingOf st1).push (lo,m,0)).toList (lo+(m))
    rw [HL]
    exact Chn.app.mpr ⟨lo,hC1,rfl,by dsimp only; omega,ms,rfl⟩
   ·dsimp only
    refine GY (HK (Ip (I:=fun y c st'=>c.1=none∧Bs κ L st'∧Chn rk (arrOf st') 0 (pendingOf st').toList lo∧Seg rk (arrOf st') lo (lo+(m))) (Q:=fun c st'=>c.1=none∧Bs κ L st'∧Chn rk (arrOf st') 0 (pendingOf st').toList lo∧Seg rk (arrOf st') lo (lo+(m))) ?_ (fun _ _ z=>z) ⟨rfl,hB1,hC1,ms⟩) ?_)
    ·rintro y ⟨c,u⟩ st3 _ hy ⟨rfl,hB3,hC3,hS3⟩
     refine GY (IT ?_)
     by_cases hs1:(pendingOf st3).size>1
     ·rw [if_pos hs1]
      obtain ⟨⟨r1,r2,r3⟩,er⟩:∃ t,(pendingOf st3)[(pendingOf st3).size - 2]?=some t:=⟨_,Hz (show (pendingOf st3).size - 2<(pendingOf st3).size by omega)⟩
      rw [er]
      dsimp only
      split
      ·exact G0 ⟨rfl,hB3,hC3,hS3⟩
      ·refine GY (show wpS _ _ _ _ (fQ ((pendingOf st3).size - 2)) _ _ from fR hC hB3 hC3 (by omega) (by omega) fun st4 hB4 hC4 ho4 hz4=>?_)
       simp only [J1,Ib,if_false]
       exact G0 ⟨rfl,hB4,hC4,fun a b z1 z2 z3=>by rw [bK (ho4 a z1),bK (ho4 b (by omega))]; exact hS3 a b z1 z2 z3⟩
     ·rw [if_neg hs1]
      exact G0 ⟨rfl,hB3,hC3,hS3⟩
    ·rintro ⟨c,u⟩ st3 ⟨hc,hB3,hC3,hS3⟩
     dsimp only at hc ⊢
     rw [hc]
     dsimp only
     refine GY (Jd (GY (Jd (G0 ⟨rfl,⟨hB3.perm,hB3.kind,hB3.failed⟩,?_,by dsimp only; omega,by dsimp only; omega⟩))))
     show Chn rk (arrOf st3) 0 (((pendingOf st3).modify ((pendingOf st3).size - 1) _).push (lo,m,0)).toList (lo+(m))
     rw [HL,Array.toList_modify]
     refine Chn.app.mpr ⟨lo,?_,rfl,by dsimp only; omega,hS3,rfl⟩
     refine Chn.mod _ (fun p=>?_) _ hC3
     exact ⟨rfl,rfl⟩
 case post =>
  rintro ⟨c,lo⟩ st' ⟨hc,hB',hC'⟩
  dsimp only at hc ⊢
  rw [hc]
  dsimp only
  have hl0:=hC'.le
  rw [Ie] at hl0
  refine GY (HK (Ip (I:=fun x c st2=>c.1=none∧Bs κ L st2∧Chn rk (arrOf st2) 0 (pendingOf st2).toList L.length∧((pendingOf st2).size≤1∨(pendingOf st2).size+x≤L.length)) (Q:=fun c st2=>c.1=none∧Bs κ L st2∧Chn rk (arrOf st2) 0 (pendingOf st2).toList L.length∧(pendingOf st2).size≤1) ?mstep ?mfin ⟨rfl,hB',hC',.inr (by omega)⟩) ?mpost)
  case mfin =>
   rintro c2 st2 ⟨a1,a2,a3,a4⟩
   exact ⟨a1,a2,a3,by omega⟩
  case mpost =>
   rintro ⟨c2,u⟩ st2 ⟨a1,a2,a3,a4⟩
   dsimp only at a1 ⊢
   rw [a1]
   refine G0 (h st2 a2 ?_)
   rw [← Ie] at a4
   match e:(pendingOf st2).toList,a4 with
   | [],_ =>
    rw [e] at a3
    have z:0=L.length:=a3
    intro i j _ _ hj; omega
   | [p],_ =>
    rw [e] at a3
    obtain ⟨b1,b2,b3,b4⟩:=a3
    have z:0+p.2.1=L.length:=b4
    rw [← z]; exact b3
  case mstep =>
   rintro x ⟨c2,u⟩ st2 _ hx ⟨a1,a2,a3,a4⟩
   refine GY (IT ?_)
   by_cases hs1:(pendingOf st2).size≤1
   ·rw [if_pos hs1]
    exact G0 ⟨rfl,a2,a3,hs1⟩
   ·rw [if_neg hs1]
    have key:∀ i,i+1<(pendingOf st2).size→wpS (model prog w) A E s (fQ i) (fun r st3=>r=true∧Bs κ L st3∧Chn rk (arrOf st3) 0 (pendingOf st3).toList L.length∧(pendingOf st3).size+1=(pendingOf st2).size) st2:=fun i hi =>
     fR hC a2 a3 (GZ _) hi fun st3 b1 b2 _ b3=>⟨rfl,b1,b2,b3⟩
    refine GY (HK (show wpS _ _ _ _ (fQ _) _ _ from key _ ?_) fun r st3 hr=>?_)
    ·unfold pendingOf at hs1 ⊢
     repeat' split
     all_goals omega
    ·obtain ⟨rfl,b1,b2,b3⟩:=hr
     simp only [J1,Ib,if_false]
     exact G0 ⟨rfl,b1,b2,.inr (by omega)⟩
end
end SR
set_option autoImplicit false
namespace SR
open PySem PyProof.Rows
section
variable {prog:Program} {w:World} {A:Around} {E:Value→Shared→Prop} {s:Shared} {rk:Keyed→Int} {κ:SortKind}
noncomputable def dup (vs:List Value):List Keyed:=vs.map fun v=>(v,v)
theorem uz (vs:List Value):(vs.toArray.zip vs.toArray).toList=dup vs:=by
 unfold dup
 rw [Array.toList_zip]
 induction vs with
 | nil=>rfl
 | cons v vs ih=>simpa using ih
noncomputable def Ord (rk:Keyed→Int) (b:Bool) (out:List Value):Prop:=out.Pairwise fun x y=>if b then rk (y,y)≤rk (x,x) else rk (x,x)≤rk (y,y)
theorem pY {vs:List Value} {xs:Array Keyed} (h:xs.toList.Perm (dup vs)):(xs.toList.map (·.2)).Perm vs∧∀ p∈xs.toList,p=(p.2,p.2):=by
 refine ⟨?_,fun p hp=>?_⟩
 ·have q:=h.map (·.2)
  have e:(dup vs).map (·.2)=vs:=by
   unfold dup
   rw [HP]
   exact List.map_id' vs
  rwa [e] at q
 ·have:=h.mem_iff.mp hp
  simp only [dup,HC] at this
  obtain ⟨v,_,rfl⟩:=this
  rfl
theorem Cs {vs:List Value} {st:SortSt} (hp:(arrOf st).toList.Perm (dup vs)) (hs:Seg rk (arrOf st) 0 (dup vs).length) (b:Bool) :
 ((if b=true then ((arrOf st).map (·.2)).reverse else (arrOf st).map (·.2)).toList).Perm vs∧Ord rk b (if b=true then ((arrOf st).map (·.2)).reverse else (arrOf st).map (·.2)).toList:=by
 obtain ⟨h1,h2⟩:=pY hp
 have up:((arrOf st).toList.map (·.2)).Pairwise fun x y=>rk (x,x)≤rk (y,y):=by
  rw [KN]
  refine Mf.mpr fun i j hi hj hij=>?_
  have l:=hp.length_eq
  simp only [Ie] at hi hj l
  have z:=hs i j (HF _) (JH hij) (by omega)
  have ei:(arrOf st)[i]?=some ((arrOf st).toList[i]'(by simpa using hi)):=by simp [hi]
  have ej:(arrOf st)[j]?=some ((arrOf st).toList[j]'(by simpa using hj)):=by simp [hj]
  rw [cO ei,cO ej] at z
  have e1:=h2 _ (HW (show i<(arrOf st).toList.length by simpa using hi))
  have e2:=h2 _ (HW (show j<(arrOf st).toList.length by simpa using hj))
  rw [e1,e2] at z
  exact z
 cases b with
 | false=>simp only [Ib,if_false,M7]; exact ⟨h1,up.imp fun h=>by simpa using h⟩
 | true =>
  simp only [if_true,Kn,M7]
  refine ⟨(MS _).trans h1,?_⟩
  unfold Ord
  rw [List.pairwise_reverse]
  exact up.imp fun h=>by simpa using h
noncomputable def Keys (prog:Program) (w:World) (A:Around) (s:Shared) (a:Addr) (vs:List Value) (κ:SortKind) (rk:Keyed→Int):Prop :=
 ∀ h':Heap,(∀ c o,c≠a→s.heap.get? c=some o→h'.get? c=some o) →
  (∀ (Q:SortKind→Shared→Prop) (E:Value→Shared→Prop),2≤vs.length→Q κ { s with heap:=h' }→wpAny (model prog w) A (keyKind' vs.toArray) Q E { s with heap:=h' })∧Cmp prog w A { s with heap:=h' } κ rk (dup vs)
theorem vP {a:Addr} {vs:List Value} {n:Nat} {b:Bool} {P:Fin→Shared→Prop} (ho:s.heap.get? a=some (seqObj "list" vs.toArray n)) (hk:Keys prog w A s a vs κ rk) (hz:vs.length≤sizeLine)
 (h:∀ out:Array Value,out.toList.Perm vs→Ord rk b out.toList→P (.done (.ret .none)) { s with heap:=sortedHeap s.heap a vs out }) :
 wpAny (model prog w) A (Builtin.«list.sort» ⟨[.ref a],[(GV "reverse",.bool b)]⟩) P E s:=by
 rw [list_sort_rev]
 have lta:a<s.heap.objs.size:=G2 ho
 refine GU (J3 ho rfl (GU (IQ ho rfl ?_ (by simpa using hz))))
 obtain ⟨e1,ho1⟩:∃ e1,(s.heap.update a (HG fun _=> #[])).get? a=some (seqObj "list" #[] e1):=⟨_,LL ho (fun _=> #[])⟩
 have oth:∀ c o,c≠a→s.heap.get? c=some o→(s.heap.update a (HG fun _=> #[])).get? c=some o:=fun c o hc q=>by rw [Jr _ _ _ _ hc]; exact q
 have sz1:(s.heap.update a (HG fun _=> #[])).objs.size=s.heap.objs.size:=M5 ..
 refine GU (Ky ho1 rfl (GU (LP ?_ (by simpa using hz))))
 refine GU (LW (IF ?_))
 show wpAny (model prog w) A _ P E { s with heap:=((s.heap.update a (HG fun _=> #[])).push (seqObj "tuple" vs.toArray 0)).push (seqObj "list" #[] 0) }
 have ho6:(((s.heap.update a (HG fun _=> #[])).push (seqObj "tuple" vs.toArray 0)).push (seqObj "list" #[] 0)).get? a=some (seqObj "list" #[] e1):=G1 _ (G1 _ ho1)
 obtain ⟨hkk,hC⟩:=hk (((s.heap.update a (HG fun _=> #[])).push (seqObj "tuple" vs.toArray 0)).push (seqObj "list" #[] 0)) fun c o hc q=>G1 _ (G1 _ (oth c o hc q))
 have fin:∀ st':SortSt,(arrOf st').toList.Perm (dup vs)→Seg rk (arrOf st') 0 (dup vs).length →
  P (.done (.ret .none)) { s with heap:=sortedHeap s.heap a vs (if b then ((arrOf st').map (·.2)).reverse else (arrOf st').map (·.2)) }:=fun st' hp hs =>
  let ⟨q1,q2⟩:=Cs hp hs b; h _ q1 q2
 have hstart:(if b=true then (vs.toArray.zip vs.toArray).reverse else vs.toArray.zip vs.toArray).toList.Perm (dup vs):=by
  cases b with
  | false=>rw [if_neg G6,uz]
  | true=>rw [if_pos rfl,Kn,uz]; exact MS _
 dsimp only
 have told:∀ t:Sem Fin,wpAny (model prog w) A t P E { s with heap:=((s.heap.update a (HG fun _=> #[])).push (seqObj "tuple" vs.toArray 0)).push (seqObj "list" #[] 0) } →
  wpAny (model prog w) A (if b=true then (do let _ ← rule "list.sort.reverse"; t) else t) P E { s with heap:=((s.heap.update a (HG fun _=> #[])).push (seqObj "tuple" vs.toArray 0)).push (seqObj "list" #[] 0) }:=fun t ht=>by
  split
  ·exact GU (Iq ht)
  ·exact ht
 refine told _ ?_
 have hlen:∀ {xs:Array Keyed},xs.toList.Perm (dup vs)→(if b=true then (Array.map (fun x=>x.snd) xs).reverse else Array.map (fun x=>x.snd) xs).size≤sizeLine+1:=fun {xs} hp=>by
  have l:=hp.length_eq
  simp only [Ie,dup,G4] at l
  split
  ·rw [Array.size_reverse,Array.size_map]; omega
  ·rw [Array.size_map]; omega
 by_cases h2:vs.toArray.size<2
 ·rw [if_pos h2,if_pos h2]
  refine GU (GX ?_)
  rw [StateT.run_pure]
  refine GU (GX ?_)
  dsimp only
  refine GU (Ky ho6 rfl (GU (IQ ho6 rfl ?_ (hsz2:=hlen hstart))))
  simp only [bne_self_eq_false,Ib,if_false]
  refine GX (fin (JK general' (if b=true then (vs.toArray.zip vs.toArray).reverse else vs.toArray.zip vs.toArray) #[] 7 none) hstart ?_)
  intro i j _ hij hj
  have hl:(dup vs).length<2:=by simpa [dup] using h2
  have:i=j:=by omega
  subst this; exact IG _
 ·rw [if_neg h2,if_neg h2]
  refine GU (hkk _ _ (by simpa using h2) ?_)
  refine GU (HU (wpS_sortRuns (κ:=κ) (rk:=rk) (L:=dup vs) (st:=JK κ (if b=true then (vs.toArray.zip vs.toArray).reverse else vs.toArray.zip vs.toArray) #[] 7 none)
   (Q:=fun _ st'=>(arrOf st').toList.Perm (dup vs)∧failedOf st'=none∧Seg rk (arrOf st') 0 (dup vs).length) hC ⟨hstart,rfl,rfl⟩ rfl fun st' a1 a2=>⟨a1.perm,a1.failed,a2⟩) ?_ fun _ _ e=>e)
  rintro ⟨⟨⟩,st'⟩ s' ⟨rfl,hp,hf,hs⟩
  dsimp only
  refine GU (Ky ho6 rfl (GU (IQ ho6 rfl ?_ (hsz2:=hlen hp))))
  rw [hf]
  simp only [bne_self_eq_false,Ib,if_false]
  exact GX (fin st' hp hs)
end
section
variable {α:Type} {lt:α→α→Bool} {L:List α}
theorem filter_le {p q:α→Bool}:∀ {l:List α},(∀ z∈l,p z=true→q z=true)→(l.filter p).length≤(l.filter q).length
 | [],_=>GZ _
 | x::l,h=>by
  have ih:=filter_le (l:=l) fun z hz=>h z (Hl _ hz)
  have hx:=h x Hg
  cases e:p x with
  | false =>
   rw [KG (by simp [e])]
   by_cases e2:q x=true
   ·rw [JQ e2]; exact Nat.le_succ_of_le ih
   ·rw [KG e2]; exact ih
  | true =>
   rw [JQ e,JQ (hx e)]
   exact MX ih
theorem filter_lt {p q:α→Bool}:∀ {l:List α},(∀ z∈l,p z=true→q z=true)→(∃ z∈l,q z=true∧p z=false)→(l.filter p).length<(l.filter q).length
 | [],_,h=>by obtain ⟨z,h,_⟩:=h; cases h
 | x::l,h,g=>by
  have h':∀ z∈l,p z=true→q z=true:=fun z hz=>h z (Hl _ hz)
  have hx:=h x Hg
  by_cases e:p x=true
  ·rw [JQ e,JQ (hx e)]
   obtain ⟨z,hz,z1,z2⟩:=g
   rcases G5.mp hz with rfl | hz
   ·rw [e] at z2; cases z2
   ·exact Nat.succ_lt_succ (filter_lt h' ⟨z,hz,z1,z2⟩)
  ·rw [KG e]
   by_cases e2:q x=true
   ·rw [JQ e2]; exact Nat.lt_succ_of_le (filter_le h')
   ·rw [KG e2]
    obtain ⟨z,hz,z1,z2⟩:=g
    rcases G5.mp hz with rfl | hz
    ·exact absurd z1 e2
    ·exact filter_lt h' ⟨z,hz,z1,z2⟩
structure Lin (lt:α→α→Bool) (L:List α):Prop where
 irr:∀ x∈L,lt x x=false
 tr:∀ x∈L,∀ y∈L,∀ z∈L,lt x y=true→lt y z=true→lt x z=true
 tot:∀ x∈L,∀ y∈L,x≠y→lt x y=true∨lt y x=true
noncomputable def rank (lt:α→α→Bool) (L:List α) (x:α):Int:=((L.filter fun z=>lt z x).length:Int)
theorem jA (h:Lin lt L) {x y:α} (hx:x∈L) (hy:y∈L) (e:lt x y=true):rank lt L x<rank lt L y:=by
 have q:=filter_lt (l:=L) (p:=fun z=>lt z x) (q:=fun z=>lt z y) (fun z hz hzx=>h.tr z hz x hx y hy hzx e) ⟨x,hx,e,h.irr x hx⟩
 unfold rank; omega
theorem Ct (h:Lin lt L) {x y:α} (hx:x∈L) (hy:y∈L):decide (rank lt L x<rank lt L y)=lt x y:=by
 classical
 cases e:lt x y with
 | true=>exact decide_eq_true (jA h hx hy e)
 | false =>
  refine decide_eq_false fun z=>?_
  by_cases w:x=y
  ·subst w; exact absurd z (Int.lt_irrefl _)
  ·rcases h.tot x hx y hy w with q | q
   ·rw [e] at q; cases q
   ·have:=jA h hy hx q; omega
theorem eV {β:Type} {S:α→β→Prop} {m n:List β} (hp:n.Perm m):∀ {l:List α},Paired S l m→∃ l',l'.Perm l∧Paired S l' n:=by
 induction hp with
 | nil=>intro l h; exact ⟨l,.refl _,h⟩
 | cons x _ ih =>
  intro l h
  cases h with
  | cons r t=>obtain ⟨l',h1,h2⟩:=ih t; exact ⟨_::l',h1.cons _,.cons r h2⟩
 | swap x y l' =>
  intro l h
  cases h with
  | cons r t=>cases t with | cons r2 t2=>exact ⟨_,.swap _ _ _,.cons r2 (.cons r t2)⟩
 | trans _ _ ih1 ih2 =>
  intro l h
  obtain ⟨l1,h1,h2⟩:=ih2 h
  obtain ⟨l2,h3,h4⟩:=ih1 h2
  exact ⟨l2,h3.trans h1,h4⟩
theorem fS {β:Type} {S:α→β→Prop} {l:List α} {m:List β} (h:Paired S l m):∀ u∈m,∃ x∈l,S x u:=by
 induction h with
 | nil=>intro u hu; cases hu
 | cons r t ih =>
  intro u hu
  rcases G5.mp hu with rfl | hu
  ·exact ⟨_,Hg,r⟩
  ·obtain ⟨x,h1,h2⟩:=ih u hu; exact ⟨x,Hl _ h1,h2⟩
open Classical in
noncomputable def zh {β:Type} (S:α→Value→Prop) (lt:α→α→Bool) (L:List α) (p:Value×β):Int:=if h:∃ x,x∈L∧S x p.1 then rank lt L h.choose else 0
theorem jB {β:Type} {S:α→Value→Prop} (inj:∀ x y u,S x u→S y u→x=y) {x:α} {p:Value×β} (hx:x∈L) (h:S x p.1):zh S lt L p=rank lt L x:=by
 have e:∃ x,x∈L∧S x p.1:=⟨x,hx,h⟩
 unfold zh
 rw [dif_pos e,inj _ _ _ e.choose_spec.2 h]
theorem zj {S:α→Value→Prop} (inj:∀ x y u,S x u→S y u→x=y) (h:Lin lt L) (nd:L.Nodup) {us out:List Value} (hL:Paired S L us) (hp:out.Perm us) {b:Bool} (ho:Ord (zh S lt L) b out) :
 ∃ L',L'.Perm L∧L'.Pairwise (fun x y=>if b then lt y x=true else lt x y=true)∧Paired S L' out:=by
 obtain ⟨L',h1,h2⟩:=eV hp hL
 refine ⟨L',h1,?_,h2⟩
 have hm:∀ x∈L',x∈L:=fun x hx=>h1.mem_iff.mp hx
 have nd':L'.Nodup:=h1.nodup_iff.mpr nd
 clear h1 hp hL nd
 unfold Ord at ho
 induction h2 with
 | nil=>exact .nil
 | @cons x u xs us r t ih =>
  obtain ⟨q1,q2⟩:=Kp.mp ho
  obtain ⟨n1,n2⟩:=IK.mp nd'
  refine .cons (fun y hy=>?_) (ih q2 (fun z hz=>hm z (Hl _ hz)) n2)
  have hx:=hm x Hg
  have hyL:=hm y (Hl _ hy)
  obtain ⟨v,hv,sv⟩:∃ v∈us,S y v:=by
   clear ih ho q1 q2 n1 n2 hm nd'
   induction t with
   | nil=>cases hy
   | cons r t ih2 =>
    rcases G5.mp hy with rfl | hy
    ·exact ⟨_,Hg,r⟩
    ·obtain ⟨v,h1,h2⟩:=ih2 hy; exact ⟨v,Hl _ h1,h2⟩
  have q:=q1 v hv
  rw [jB inj hx (p:=(u,u)) r,jB inj hyL (p:=(v,v)) sv] at q
  have ne:x≠y:=fun z=>n1 (z ▸ hy)
  cases b with
  | true =>
   simp only [if_true] at q ⊢
   rcases h.tot x hx y hyL ne with w | w
   ·have:=jA h hx hyL w; omega
   ·exact w
  | false =>
   simp only [Ib,if_false] at q ⊢
   rcases h.tot x hx y hyL ne with w | w
   ·exact w
   ·have:=jA h hyL hx w; omega
end
section
variable {prog:Program} {w:World} {A:Around} {s:Shared} {κ:SortKind} {α:Type} {lt:α→α→Bool} {L:List α} {us:List Value}
theorem FI {S:α→Value→Prop} (inj:∀ x y u,S x u→S y u→x=y) (h:Lin lt L) (hL:Paired S L us)
 (hk:∀ x∈L,∀ y∈L,∀ u v,S x u→S y v→∀ (E:Value→Shared→Prop) (Q:Bool→Shared→Prop),Q (lt x y) s→wpAny (model prog w) A (keyLt' κ u v) Q E s):Cmp prog w A s κ (zh S lt L) (dup us):=by
 intro p hp q hq E Q hQ
 simp only [dup,HC] at hp hq
 obtain ⟨u,hu,rfl⟩:=hp
 obtain ⟨v,hv,rfl⟩:=hq
 obtain ⟨x,hx,sx⟩:=fS hL u hu
 obtain ⟨y,hy,sy⟩:=fS hL v hv
 refine hk x hx y hy u v sx sy E Q ?_
 rw [jB inj hx (p:=(u,u)) sx,jB inj hy (p:=(v,v)) sy,Ct h hx hy] at hQ
 exact hQ
end
end SR
namespace SR
open PySem PySem.Calls PyProof.Rows L2 EV
theorem lg (a:Addr):Builtin.«list.sort» ⟨[.ref a],[(GV "key",.builtin "len")]⟩=(do
 let items ← JS (.ref a)
 Jw (.ref a) fun _=> #[]
 let before ← seqEpoch a
 let held ← newTuple items.toList
 let keyStore ← newList []
 holding [held,keyStore] do
  rule "list.sort.key"
  for x in items do
   match ← (call (.builtin "len") [x]).attempt with
   | .ok k=>Jw keyStore (·.push k)
   | .error e =>
    rule "list.sort.key-raised"
    let made ← JS keyStore
    Jw keyStore fun _=> #[]
    letGo made.toList.reverse [e]
    Jw (.ref a) fun _=>items; throw e
  let keys ← JS keyStore
  let kind ← if items.size<2 then pure general' else keyKind' keys
  let ((),s) ← (if items.size<2 then pure () else sortRuns').run (JK kind (keys.zip items) #[] 7 none)
  Jw keyStore fun _=> #[]
  letGo ((arrOf s).map (·.1)).toList (failedOf s).toList
  let touched:=(← seqEpoch a) != before
  Jw (.ref a) fun _=>(arrOf s).map (·.2)
  if let some e:=failedOf s then rule "list.sort.comparison-raised"; throw e
  if touched then rule "list.sort.modified"; raiseError "ValueError" "list modified during sort"
  ret .none):=by
 rfl
theorem fT (a v:Value):argsOk "list.sort" ⟨[a],[(GV "key",v)]⟩:=by unfold argsOk; kernel_rfl
theorem jf (a v:Value):argsOk "sorted" ⟨[a],[(GV "key",v)]⟩:=by unfold argsOk; kernel_rfl
section
variable {prog:Program} {w:World} {A:Around} {E:Value→Shared→Prop} {s:Shared}
noncomputable def intOf (p:Keyed):Int:=match p.1 with | .int m _=>m | _=>0
theorem uA:∀ {ks vs:List Value},ks.length=vs.length→(ks.zip vs).map (·.2)=vs
 | [],[],_=>rfl
 | k::ks,v::vs,h=>by rw [MH,G3,uA (by simpa using h)]
 | [],_::_,h=>by simp at h
 | _::_,[],h=>by simp at h
theorem uB {ks vs:List Value} {ms:List Int} (h:IntsAre ks ms) {p:Keyed} (hp:p∈ks.zip vs):∃ m t,p.1=.int m t:=by
 obtain ⟨k,v⟩:=p
 exact h.all k (LM hp).1
theorem zk {a:Addr} {vs:List Value} {n:Nat} {P:Fin→Shared→Prop} (ho:s.heap.get? a=some (seqObj "list" vs.toArray n)) (hz:vs.length≤sizeLine)
 (hv:∀ v∈vs,∃ (l:Addr) (items:Array Value),v=.ref l∧l≠a∧s.heap.IsList l items∧items.size≤sizeLine)
 (h:∀ (out:Array Value) (h':Heap) (tk e:Nat),out.toList.Perm vs→h'.get? a=some (seqObj "list" out e)→(∀ c o,c≠a→s.heap.get? c=some o→h'.get? c=some o)→P (.done (.ret .none)) { s with heap:=h',toks:=tk }) :
 wpAny (model prog w) A (Builtin.«list.sort» ⟨[.ref a],[(GV "key",.builtin "len")]⟩) P E s:=by
 rw [lg]
 have lta:a<s.heap.objs.size:=G2 ho
 refine GU (J3 ho rfl (GU (IQ ho rfl ?_ (by simpa using hz))))
 obtain ⟨e1,ho1⟩:∃ e1,(s.heap.update a (HG fun _=> #[])).get? a=some (seqObj "list" #[] e1):=⟨_,LL ho (fun _=> #[])⟩
 have oth:∀ c o,c≠a→s.heap.get? c=some o→(s.heap.update a (HG fun _=> #[])).get? c=some o:=fun c o hc q=>by rw [Jr _ _ _ _ hc]; exact q
 refine GU (Ky ho1 rfl (GU (LP ?_ (by simpa using hz))))
 refine GU (LW (IF ?_))
 generalize hkS:((s.heap.update a (HG fun _=> #[])).push (seqObj "tuple" vs.toArray 0)).objs.size=kS
 have hks:(((s.heap.update a (HG fun _=> #[])).push (seqObj "tuple" vs.toArray 0)).push (seqObj "list" #[] 0)).get? kS=some (seqObj "list" #[] 0):=by rw [← hkS]; exact G7 _ rfl
 have kne:∀ c,c<s.heap.objs.size→c≠kS:=fun c hc e=>by
  rw [← hkS,size_push',M5] at e; omega
 have k1:∀ c o,c≠a→s.heap.get? c=some o→(((s.heap.update a (HG fun _=> #[])).push (seqObj "tuple" vs.toArray 0)).push (seqObj "list" #[] 0)).get? c=some o:=fun c o hc q=>G1 _ (G1 _ (oth c o hc q))
 have ho6:(((s.heap.update a (HG fun _=> #[])).push (seqObj "tuple" vs.toArray 0)).push (seqObj "list" #[] 0)).get? a=some (seqObj "list" #[] e1):=G1 _ (G1 _ ho1)
 dsimp only
 generalize (((s.heap.update a (HG fun _=> #[])).push (seqObj "tuple" vs.toArray 0)).push (seqObj "list" #[] 0))=h1 at hks k1 ho6 ⊢
 have hak:a≠kS:=kne a lta
 refine GU (Iq ?_)
 refine GU (HU (wpAny_forIn_array' _ (fun rest _ s'=>∃ (dn:List Value) (ks:List Value) (ms:List Int) (hh:Heap) (tk e:Nat),vs=dn++rest∧s'={ s with heap:=hh,toks:=tk }∧IntsAre ks ms∧ks.length=dn.length∧hh.get? kS=some (seqObj "list" ks.toArray e)∧∀ c o,c≠kS→h1.get? c=some o→hh.get? c=some o)
  (fun _ s'=>∃ (ks:List Value) (ms:List Int) (hh:Heap) (tk e:Nat),s'={ s with heap:=hh,toks:=tk }∧IntsAre ks ms∧ks.length=vs.length∧hh.get? kS=some (seqObj "list" ks.toArray e)∧∀ c o,c≠kS→h1.get? c=some o→hh.get? c=some o) ?turn ?fin _ _ ?beg) ?rest fun _ _ e=>e)
 case beg=>exact ⟨[],[],[],h1,_,0,rfl,rfl,.nil,rfl,hks,fun _ _ _ q=>q⟩
 case fin =>
  rintro _ s' ⟨dn,ks,ms,hh,tk,e,e1,e2,e3,e4,e5,e6⟩
  rw [Io] at e1
  exact ⟨ks,ms,hh,tk,e,e2,e3,by rw [e4,e1],e5,e6⟩
 case turn =>
  rintro v rest _ s' ⟨dn,ks,ms,hh,tk,e,ev,rfl,e3,e4,e5,e6⟩
  obtain ⟨l,items,rfl,hla,hli,hsz⟩:=hv v (by rw [ev]; simp)
  obtain ⟨o,q1,q2,q3⟩:=hli
  have hl':hh.IsList l items:=⟨o,e6 l o (kne l (G2 q1)) (k1 l o hla q1),q2,q3⟩
  refine GU (JD (call_len_list hl' (by have:=mU; omega) ?_))
  dsimp only
  have hkl:ks.length≤sizeLine:=by rw [e4]; have:=congrArg Kz ev; simp at this; omega
  refine GU (IQ e5 rfl ?_ (by simpa using hkl) (by simp; omega))
  refine GX ⟨dn++[.ref l],ks++[.int items.size (tk+1)],ms++[(items.size:Int)],_,_,e+1,by rw [ev]; simp,rfl,e3.append (.cons _ _ .nil),by simp [e4],?_,fun c o hc q=>?_⟩
  ·have:=LL e5 (fun a=>a.push (.int items.size (tk+1)))
   simpa using this
  ·rw [Jr _ _ _ _ hc]; exact e6 c o hc q
 case rest =>
  rintro _ s' ⟨ks,ms,hh,tk,e,rfl,e3,e4,e5,e6⟩
  refine GU (J3 e5 rfl ?_)
  have zl:(ks.toArray.zip vs.toArray).toList=ks.zip vs:=by rw [Array.toList_zip]
  have hoa:=e6 a _ hak ho6
  have pl:∀ {st':SortSt},(arrOf st').toList.Perm (ks.zip vs)→((arrOf st').map (·.2)).toList.Perm vs:=fun {st'} hp=>by
   rw [M7]
   have:=hp.map (·.2)
   rwa [uA e4] at this
  have ho7:(hh.update kS (HG fun _=>(#[]:Array Value))).get? a=some (seqObj "list" #[] e1):=by rw [Jr _ _ _ _ hak]; exact hoa
  have fin:∀ (out:Array Value),out.toList.Perm vs→P (.done (.ret .none)) { s with heap:=(hh.update kS (HG fun _=>(#[]:Array Value))).update a (HG fun _=>out),toks:=tk }:=fun out hp =>
   h out _ _ _ hp (LL ho7 (fun _=>out)) fun c o hc q=>by
    have lc:=G2 q
    rw [Jr _ _ _ _ hc,Jr _ _ _ _ (kne c lc)]
    exact e6 c o (kne c lc) (k1 c o hc q)
  have hkz:(ks.toArray:Array Value).size≤sizeLine:=by rw [Hq,e4]; exact hz
  have oz:∀ {out:Array Value},out.toList.Perm vs→out.size≤sizeLine+1:=fun {out} hp=>by
   have l:=hp.length_eq
   rw [Ie] at l; omega
  by_cases h2:vs.toArray.size<2
  ·rw [if_pos h2,if_pos h2]
   refine GU (GX ?_)
   rw [StateT.run_pure]
   refine GU (GX ?_)
   dsimp only
   have p0:=pl (st':=JK general' (ks.toArray.zip vs.toArray) #[] 7 none) (by show (ks.toArray.zip vs.toArray).toList.Perm _; rw [zl])
   refine GU (IQ e5 rfl ?_ hkz)
   refine GU (J6 ?_)
   refine GU (Ky ho7 rfl (GU (IQ ho7 rfl ?_ (hsz2:=oz p0))))
   simp only [bne_self_eq_false,Ib,if_false]
   exact GX (fin _ p0)
  ·rw [if_neg h2,if_neg h2]
   rw [ksk_kind (kz:=ms) e3 (by rw [Hq,e4]; simpa using h2)]
   refine GU (GX ?_)
   have hC:Cmp prog w A { s with heap:=hh,toks:=tk } oneType' intOf (ks.zip vs):=fun x hx y hy E Q hQ=>by
    obtain ⟨m,t,ex⟩:=uB e3 hx
    obtain ⟨m',t',ey⟩:=uB e3 hy
    unfold intOf at hQ
    rw [ex,ey] at hQ ⊢
    rw [keyLt'_oneType]
    exact oneLt_int hQ
   refine GU (HU (wpS_sortRuns (κ:=oneType') (rk:=intOf) (L:=ks.zip vs) (st:=JK oneType' (ks.toArray.zip vs.toArray) #[] 7 none)
    (Q:=fun _ st'=>(arrOf st').toList.Perm (ks.zip vs)∧failedOf st'=none) hC ⟨(by show (ks.toArray.zip vs.toArray).toList.Perm _; rw [zl]),rfl,rfl⟩ rfl fun st' a1 a2=>⟨a1.perm,a1.failed⟩) ?_ fun _ _ e=>e)
   rintro ⟨⟨⟩,st'⟩ s' ⟨rfl,hp,hf⟩
   dsimp only
   refine GU (IQ e5 rfl ?_ hkz)
   refine GU (J6 ?_)
   refine GU (Ky ho7 rfl (GU (IQ ho7 rfl ?_ (hsz2:=oz (pl hp)))))
   rw [hf]
   simp only [bne_self_eq_false,Ib,if_false]
   exact GX (fin _ (pl hp))
end
end SR
namespace EV
open PySem PySem.Spec PySem.Calls PyProof.Rows L2
theorem vQ (b:Bool) (x y:Value):keyLt' (tuples' b) x y=(do
 let xs ← JS x
 let ys ← JS y
 for ((p,q),i) in (xs.toList.zip ys.toList).zipIdx do
  if !(← eqBool p q) then return ← oneLt' (b && i == 0) p q
 return decide (xs.size<ys.size)):=rfl
theorem uC:∀ l:List Int,HT.lexLt l l=false
 | []=>rfl
 | x::l=>by rw [HT.cB,if_pos rfl]; exact uC l
theorem zm:∀ {a b c:List Int},HT.lexLt a b=true→HT.lexLt b c=true→HT.lexLt a c=true
 | [],[],_,h,_=>by cases h
 | [],_::_,[],_,h=>by cases h
 | [],_::_,_::_,_,_=>rfl
 | _::_,[],_,h,_=>by cases h
 | _::_,_::_,[],_,h=>by cases h
 | x::a,y::b,z::c,h,g=>by
  rw [HT.cB] at h g ⊢
  by_cases e:x=y
  ·subst e
   rw [if_pos rfl] at h
   by_cases f:x=z
   ·subst f; rw [if_pos rfl] at g ⊢; exact zm h g
   ·rw [if_neg f] at g ⊢; exact g
  ·rw [if_neg e] at h
   have h:=of_decide_eq_true h
   by_cases f:y=z
   ·subst f; rw [if_neg e]; exact decide_eq_true h
   ·rw [if_neg f] at g
    have g:=of_decide_eq_true g
    rw [if_neg (by omega)]; exact decide_eq_true (by omega)
theorem nK:∀ {a b:List Int},a≠b→HT.lexLt a b=true∨HT.lexLt b a=true
 | [],[],h=>absurd rfl h
 | [],_::_,_=>.inl rfl
 | _::_,[],_=>.inr rfl
 | x::a,y::b,h=>by
  rw [HT.cB,HT.cB]
  by_cases e:x=y
  ·subst e
   rw [if_pos rfl,if_pos rfl]
   exact nK fun z=>h (by rw [z])
  ·rw [if_neg e,if_neg (Hu e)]
   rcases Int.lt_or_gt_of_ne e with z | z
   ·exact .inl (decide_eq_true z)
   ·exact .inr (decide_eq_true z)
noncomputable abbrev Trm:=List Int×Int
noncomputable def cu (x y:Trm):Bool:=if x.1=y.1 then decide (x.2<y.2) else HT.lexLt x.1 y.1
theorem jC (L:List Trm):SR.Lin cu L where
 irr:=fun x _=>by unfold cu; rw [if_pos rfl]; exact decide_eq_false (Int.lt_irrefl _)
 tr:=fun x _ y _ z _ h g=>by
  unfold cu at *
  by_cases e:x.1=y.1
  ·rw [if_pos e] at h
   by_cases f:y.1=z.1
   ·rw [if_pos f] at g; rw [if_pos (e.trans f)]
    exact decide_eq_true (Int.lt_trans (of_decide_eq_true h) (of_decide_eq_true g))
   ·rw [if_neg f] at g; rw [if_neg (fun w=>f (e.symm.trans w)),e]; exact g
  ·rw [if_neg e] at h
   by_cases f:y.1=z.1
   ·rw [if_neg (fun w=>e (w.trans f.symm)),← f]; exact h
   ·rw [if_neg f] at g
    have q:=zm h g
    rw [if_neg fun w=>by rw [w,uC] at q; cases q]; exact q
 tot:=fun x _ y _ h=>by
  unfold cu
  by_cases e:x.1=y.1
  ·rw [if_pos e,if_pos e.symm]
   have:x.2≠y.2:=fun z=>h (Prod.ext e z)
   rcases Int.lt_or_gt_of_ne this with z | z
   ·exact .inl (decide_eq_true z)
   ·exact .inr (decide_eq_true z)
  ·rw [if_neg e,if_neg (Hu e)]
   exact nK e
noncomputable abbrev av (t:Trm):D:=.tup [.tup (t.1.map .int),.int t.2]
section
variable {X:Cx} {pins:List (Addr×Obj)} {σ:L2.St} {H Hf:Hp} {s:Shared} {A:Around} {E:Value→Shared→Prop}
noncomputable def Stn (K:GW) (Hf:Hp) (d:D) (u:Value):Prop:=∃ v,RelV v u∧Rep K Hf d v
theorem pZ (l m:List Int):EqO 1 (.tup (l.map .int)) (.tup (m.map .int)):=.tup fun i d e h1 h2=>by
 simp only [G9,Hj] at h1 h2
 obtain ⟨x,_,rfl⟩:=h1
 obtain ⟨y,_,rfl⟩:=h2
 exact .sc rfl
theorem Cu (x y:Trm):EqO 2 (av x) (av y):=.tup fun i d e h1 h2=>by
 rcases i with _ | _ | i
 ·simp at h1 h2; subst h1 h2; exact pZ _ _
 ·simp at h1 h2; subst h1 h2; exact .sc rfl
 ·simp at h1
theorem zo {x y:Trm} (h:av x=av y):x=y:=by
 simp only [D.tup.injEq,List.cons.injEq,D.int.injEq,and_true] at h
 have e:x.1=y.1:=by
  exact (List.map_inj_right (f:=D.int) (fun a b e=>by injection e)).mp h.1
 exact Prod.ext e h.2
theorem gP:∀ {l:List Int} {ys:List V},aj X.K Hf (l.map D.int) ys→ys=l.map V.int
 | [],ys,h=>aq.mp h
 | n::l,ys,h=>by
  obtain ⟨y,r,rfl,z1,z2⟩:=aB.mp h
  rw [au] at z1; subst z1
  rw [gP z2]; rfl
theorem Cv (I:Inv X pins σ H s) (sb:aG Hf H) {x y:Trm} {u:Value} (h1:Stn X.K Hf (av x) u) (h2:Stn X.K Hf (av y) u):x=y:=by
 obtain ⟨v,r1,q1⟩:=h1
 obtain ⟨v',r2,q2⟩:=h2
 have:=r1.inj r2
 subst this
 exact zo (ni I sb 2 _ _ _ (Cu x y) q1 q2)
theorem nL (I:Inv X pins σ H s) (sb:aG Hf H) {x:Trm} {u:Value} (h:Stn X.K Hf (av x) u):∃ a b its t,u=.ref a∧IsTup s.heap a #[.ref b,.int x.2 t]∧IsTup s.heap b its∧IntsAre its.toList x.1∧Stn X.K Hf (.tup (x.1.map .int)) (.ref b):=by
 obtain ⟨v,rv,q⟩:=h
 obtain ⟨a,xs,rfl,h1,h2⟩:=aC.mp q
 cases rv
 obtain ⟨p,r,rfl,q1,q2⟩:=aB.mp h2
 obtain ⟨p2,r2,rfl,q3,q4⟩:=aB.mp q2
 rw [aq] at q4; subst q4
 rw [au] at q3; subst q3
 obtain ⟨its,rel,tu,_⟩:=I.tuple (ak sb h1)
 cases rel with
 | cons r1 t1=>cases t1 with
  | cons r2 t2 =>
   cases t2
   obtain ⟨t,rfl⟩:=r2
   obtain ⟨b,ys,rfl,h3,h4⟩:=aC.mp q1
   cases r1
   obtain ⟨its2,rel2,tu2,_⟩:=I.tuple (ak sb h3)
   refine ⟨a,b,its2.toArray,t,rfl,tu,tu2,?_,.ref b,rfl,aC.mpr ⟨b,ys,rfl,h3,h4⟩⟩
   have e:=gP h4
   subst e
   exact intsAre_of rel2
theorem fU {M:Model} {α β:Type} {f:α→Sem β}:∀ (l:List α) (r:List β) {Q:List β→Shared→Prop},Paired (fun a b=>∀ (Q:β→Shared→Prop),Q b s→wpAny M A (f a) Q E s) l r→Q r s→wpAny M A (l.mapM f) Q E s
 | _,_,Q,.nil,h=>by rw [List.mapM_nil]; exact GX h
 | _,_,Q,.cons q t,h=>by
  rw [List.mapM_cons]
  exact GU (q _ (GU (fU _ _ t (GX h))))
theorem zp (I:Inv X pins σ H s) (sb:aG Hf H) {L:List Trm} {us:List Value} (h:Paired (fun x u=>Stn X.K Hf (av x) u) L us) (h2:2≤us.length) {Q:SortKind→Shared→Prop} (hQ:Q (tuples' false) s):wpAny (model X.prog X.w) A (keyKind' us.toArray) Q E s:=by
 have key:∃ fs:List Value,fs.length=us.length∧(∀ f∈fs,s.TypeIs f "tuple")∧Paired (fun u o=>∀ (Q:Option Value→Shared→Prop),Q o s→wpAny (model X.prog X.w) A (firstOfTuple' u) Q E s) us (fs.map some):=by
  clear h2 hQ
  induction h with
  | nil=>exact ⟨[],rfl,by simp,.nil⟩
  | @cons x u L us r t ih =>
   obtain ⟨fs,e1,e2,e3⟩:=ih
   obtain ⟨a,b,its,tk,rfl,t1,t2,_⟩:=nL I sb r
   refine ⟨.ref b::fs,by simp [e1],fun f hf=>?_,.cons (fun Q hQ=>?_) e3⟩
   ·rcases G5.mp hf with rfl | hf
    ·obtain ⟨o,ho,hc,_⟩:=t2; exact ⟨o,ho,hc⟩
    ·exact e2 f hf
   ·obtain ⟨o,ho,hc,n,hd⟩:=t1
    show wpAny _ _ (do
     if (← typeOf (.ref a)) != .type "tuple" then return none
     return (← JS (.ref a))[0]?) _ _ _
    refine GU (JE (T:="tuple") ⟨o,ho,hc⟩ ?_)
    rw [if_neg (by simp)]
    exact GU (J3 ho hd (GX hQ))
 obtain ⟨fs,e1,e2,e3⟩:=key
 rw [keyKind'_eq,List.mapM_toArray]
 simp only [bind_map_left]
 refine GU (fU _ _ e3 ?_)
 rw [if_pos (by simp)]
 refine GU (Iq ?_)
 have e4:(List.map some fs).toArray.filterMap id=fs.toArray:=by simp
 rw [e4,oneTypeOnly'_eq,List.mapM_toArray]
 simp only [bind_map_left]
 have e5:Paired (fun u o=>∀ (Q:Value→Shared→Prop),Q o s→wpAny (model X.prog X.w) A (typeOf u) Q E s) fs (fs.map fun _=>Iz "tuple"):=by
  clear e1 e3 e4
  induction fs with
  | nil=>exact .nil
  | cons f fs ih=>exact .cons (fun Q hQ=>JE (e2 f Hg) hQ) (ih fun g hg=>e2 g (Hl _ hg))
 refine GU (GU (fU _ _ e5 ?_))
 obtain ⟨f,fs',rfl⟩:∃ f fs',fs=f::fs':=by
  match fs,e1 with
  | [],e1=>simp at e1; omega
  | f::fs',_=>exact ⟨f,fs',rfl⟩
 have h0:(List.map (fun _=>Iz "tuple") (f::fs')).toArray[0]?=some (Iz "tuple"):=by simp
 rw [h0]
 dsimp only
 rw [if_pos (by simp)]
 refine GX (GX ?_)
 have e6:(some (Iz "tuple")).any (fun x=>x != Iz "tuple")=false:=by simp
 rw [e6]
 exact hQ
theorem FJ (I:Inv X pins σ H s) (sb:aG Hf H) (hA:A.units+10<cLine) {x y:Trm} {u v:Value} (hx:Stn X.K Hf (av x) u) (hy:Stn X.K Hf (av y) v) {Q:Bool→Shared→Prop} (hQ:Q (cu x y) s):wpAny (model X.prog X.w) A (keyLt' (tuples' false) u v) Q E s:=by
 obtain ⟨a,b,its,t,rfl,⟨o,ho,hc,n,hd⟩,t2,i2,z1⟩:=nL I sb hx
 obtain ⟨a',b',its',t',rfl,⟨o',ho',hc',n',hd'⟩,t2',i2',z2⟩:=nL I sb hy
 rw [vQ]
 refine GU (J3 ho hd (GU (J3 ho' hd' ?_)))
 obtain ⟨w1,r1,q1⟩:=z1
 obtain ⟨w2,r2,q2⟩:=z2
 have e1:Hx A s (.ref b) (.ref b') (decide (D.tup (x.1.map .int)=D.tup (y.1.map .int))):=lT I sb 1 _ _ _ _ _ _ A (pZ x.1 y.1) q1 q2 r1 r2 (by omega)
 have e2:decide (D.tup (x.1.map D.int)=D.tup (y.1.map D.int))=decide (x.1=y.1):=by
  by_cases z:x.1=y.1
  ·rw [z]; simp
  ·have:¬ D.tup (x.1.map D.int)=D.tup (y.1.map D.int):=fun w=>by
    injection w with w
    exact z ((List.map_inj_right (f:=D.int) (fun a b e=>by injection e)).mp w)
   rw [decide_eq_false this,decide_eq_false z]
 rw [e2] at e1
 have ez:((#[Hr b,JM x.2 t]:Array Value).toList.zip (#[Hr b',JM y.2 t']:Array Value).toList).zipIdx=[((Hr b,Hr b'),0),((JM x.2 t,JM y.2 t'),1)]:=rfl
 rw [ez]
 have lti:∀ (bb:Bool) (m n:Int) (t u:Tok) (Q:Bool→Shared→Prop),Q (decide (m<n)) s→wpAny (model X.prog X.w) A (oneLt' (false && bb) (.int m t) (.int n u)) Q E s:=fun bb m n t u Q h=>by
  rw [Bool.false_and,oneLt'_eq,if_neg G6]
  exact GU (lt_int (GX h))
 simp only [JZ,List.forIn_nil]
 refine GU (GU (GU (e1 _ _ _ _ ?_)))
 unfold cu at hQ
 by_cases z:x.1=y.1
 ·rw [if_pos z] at hQ
  rw [decide_eq_true z]
  simp only [J1,Ib,if_false]
  refine GX ?_
  dsimp only
  refine GU (GU ?_)
  refine wpAny_eqBool_int ?_
  by_cases w:x.2=y.2
  ·rw [show (x.2 == y.2)=true by simpa using w]
   simp only [J1,Ib,if_false]
   refine GX (GX ?_)
   dsimp only
   refine GX ?_
   rw [w] at hQ
   simpa using hQ
  ·rw [show (x.2 == y.2)=false by simpa using w]
   simp only [Bool.not_false,if_true]
   refine GU (lti _ _ _ _ _ _ (GX ?_))
   dsimp only
   exact GX (GX hQ)
 ·rw [if_neg z] at hQ
  rw [decide_eq_false z]
  simp only [Bool.not_false,if_true]
  refine GU ?_
  rw [Bool.false_and,oneLt'_eq,if_neg G6]
  refine GU (HT.qR (s:=s) t2 t2' i2 i2' (by omega) ?_)
  refine GX (GX ?_)
  dsimp only
  exact GX (GX hQ)
end
section
variable {X:Cx} {pins:List (Addr×Obj)} {σ:L2.St} {H:Hp} {s:Shared}
noncomputable abbrev cxA (X:Cx) (A:Around):Cx:={ X with A:=A }
theorem ok_at {A:Around} (ok:X.Ok) (h1:X.calm=true→A.handled=none) (h2:A.frames=some X.stack):(cxA X A).Ok :=
 ⟨ok.mod,ok.kind,ok.glob,ok.blt,ok.above,ok.inj,ok.has,ok.cab,h1,h2,ok.stk,ok.exf,ok.bs,ok.bsz,ok.noex,ok.exfs,ok.iy,ok.frf⟩
theorem ko {A:Around} (I:Inv X pins σ H s) (h1:X.calm=true→A.handled=none) (h2:A.frames=some X.stack):Inv (cxA X A) pins σ H s :=
 ⟨ok_at I.ok h1 h2,I.os,I.bare,I.base,I.loc,I.cell,I.free,I.freeC,I.pin,I.hok,I.len⟩
theorem gQ {A:Around} (ok:X.Ok) (I:Inv (cxA X A) pins σ H s):Inv X pins σ H s :=
 ⟨ok,I.os,I.bare,I.base,I.loc,I.cell,I.free,I.freeC,I.pin,I.hok,I.len⟩
theorem Cw {fp:List Addr} {H H':Hp} (h:∀ b∈fp,dm X pins H b) (n:∀ b∈fp,H' b=none):∀ b∈fp,dm X pins H' b:=fun b hb=>⟨n b hb,(h b hb).2⟩
theorem zq {nm:Str} {np:Pos} {S it:Addr} {fp:List Addr} {tn:Nat→Heap→Prop} {J:It} {res:Value} {ds:List D} {Hb Hf0:Hp} {R:Result→Shared→Prop} (hc:X.calm=true) (Tn:Turn X.prog X.w X.K (.Name nm np) J fp it tn) (io:gy X.K J ds Hf0)
 (hS0:Hb S=none) (hSf:S∉fp) (hn:ds.length≤sizeLine) (okX:X.Ok) (h1:X.A.in1.handled=none) (h2:X.A.in1.frames=some X.stack)
 (fin:∀ (s':Shared) (H' Hf':Hp) (xs:List V),Inv X pins σ H' s'→H' S=some (.lst xs)→Hf' S=none→aj X.K Hf' ds xs→Grw Hb Hf0 H' Hf'→R (.ok (.ret res)) s') :
 ∀ (k i:Nat) (s:Shared) (H Hf:Hp) (xs:List V),ds.length - i=k→i≤ds.length→Inv X pins σ H s→tn i s.heap→(∀ b∈fp,dm X pins H b)→H S=some (.lst xs)→Hf S=none→aj X.K Hf (ds.take i) xs→Grw Hb Hf0 H Hf →
  codeAny (model X.prog X.w) X.A (.builtin "list.extend.loop" ⟨[.ref S,.ref it,res],[]⟩) R s:=by
 intro k
 induction k with
 | zero =>
  intro i s H Hf xs hk hi I t hf hS hfS hr g
  have e:i=ds.length:=by omega
  subst e
  rw [IC] at hr
  refine KR PySem.F.entry_extend_loop ?_
  rw [Lo Ld _]
  show wpAny _ X.A.in1 (pyNext (.ref it) >>= _) _ _ s
  refine GU (HU (Tn.done (cxA X X.A.in1) rfl rfl rfl hc _ pins s σ H _ (ko I (fun _=>h1) h2) hf t (io.stop _ H Hf g.f g.b (GZ _))) (fun r s' ⟨e,I'⟩=>?_) fun _ _ x=>x)
  subst e
  exact GX (fin s' H Hf xs (gQ okX I') hS hfS hr g)
 | succ k ih =>
  intro i s H Hf xs hk hi I t hf hS hfS hr g
  have lt:i<ds.length:=by omega
  have ed:ds[i]?=some ds[i]:=HD lt
  obtain ⟨hgo,hy⟩:=io.go i ds[i] H Hf g.f g.b ed
  refine KR PySem.F.entry_extend_loop ?_
  rw [Lo Ld _]
  show wpAny _ X.A.in1 (pyNext (.ref it) >>= _) _ _ s
  refine GU (HU (Tn.item (cxA X X.A.in1) rfl rfl rfl hc i pins s σ H _ (ko I (fun _=>h1) h2) hf t hgo) (fun r s1 ⟨u,e,hu⟩=>?_) fun _ _ x=>x)
  subst e
  show wpAny _ X.A.in1 (letOwnedTupleGo (.Name nm np) (.ref it) u >>= fun _=>(Jw (.ref S) (·.push u) >>= fun _=>again (.builtin "list.extend.loop" ⟨[.ref S,.ref it,res],[]⟩))) _ _ s1
  refine GU (HU hu (fun _ s2 ⟨x,H',I2,rx,y,t2,n2⟩=>?_) fun _ _ x=>x)
  have I2:=gQ okX I2
  obtain ⟨Hf',g',rd⟩:=hy x H' y
  have hS':H' S=some (.lst xs):=g'.s _ _ hS
  have hfS':Hf' S=none:=g'.n S hfS (by rw [hS]; simp) (by intro ys; rw [hS]; simp)
  obtain ⟨z,its,n,rv,el,eo⟩:=I2.oJ hS'
  have hx:xs.length=i:=by rw [← hr.length,HN]; omega
  have hz:(xs++[x]).length≤sizeLine:=by simp only [HQ,HV,Jk]; omega
  refine GU (IQ eo rfl ?_ (by simp; omega) (by simp; omega))
  have ef:(fun a:Array Value=>a.push u) its.toArray=(its++[u]).toArray:=by simp
  have I3:=I2.qV (f:=fun a=>a.push u) (t':=s2.toks) hS' eo ef (rv.append (.cons rx .nil)) hz
  refine GX ⟨plainId_quiet Ld _,ih (i+1) _ (upd H' S (.lst (xs++[x]))) Hf' (xs++[x]) (by omega) lt I3 (Tn.keep _ _ _ t2 fun b hb o e=>?_) (Cw hf fun b hb=>?_) ah hfS' ?_ (ny (g.trans g') hS0 hfS')⟩
  ·exact (Lk _ _ (fun w:S=b=>hSf (w ▸ hb))).trans e
  ·rw [ai (fun w:b=S=>hSf (w ▸ hb))]; exact n2 b hb
  ·rw [MR,ed]
   exact (hr.mono g'.f).append (aj.one rd)
end
section
variable {prog:Program} {w:World} {A:Around} {E:Value→Shared→Prop} {s:Shared}
theorem vR {v:Addr} {Q:Bool→Shared→Prop} (hT:s.TypeIs (.ref v) "dict_items") (hQ:Q false s):wpAny (model prog w) A (Kd (.ref v)) Q E s:=by
 unfold Kd
 refine GU (wpAny_specialOf hT PySem.F.slot_dict_items_len.lookup ?_)
 have e:splitId "dict_items.__len__"=some ("dict_items","__len__"):=by decide +kernel
 dsimp only
 rw [e]
 dsimp only
 refine GU (LG (b:=true) hT (by rw [isSubtype_type]; kernel_rfl) ?_)
 rw [if_neg (by decide)]
 exact GU (JE hT (GX hQ))
end
section
variable {X:Cx} {pins:List (Addr×Obj)} {σ:L2.St} {H Hf:Hp} {s:Shared} {E:Value→Shared→Prop}
theorem Cy {tg:Expr} {v d:Addr} {o:Obj} {u:HO} {A:Around} (I:Inv X pins σ H s) (hv:s.heap.IsItemsView v d) (hH:H d=some (.frz o u)) (hd:HO.dct u) :
 wpAny (model X.prog X.w) A (pyIter (.ref v)) (fun itv s2=>∃ (it:Addr) (es:Array DictEntry) (ep:Nat),itv=.ref it∧s.heap.objs.size≤it∧Inv X pins σ H s2∧Turn X.prog X.w X.K tg (Itd d o u) [it] it (fun i h=>ItG h it d i es.size ep)∧ItG s2.heap it d 0 es.size ep∧(∀ b∈[it],dm X pins H b) ∧
  (∀ b o,s.heap.get? b=some o→s2.heap.get? b=some o)) E s:=by
 obtain ⟨ho,ok⟩:=(show aS X.prog X.w H s.heap d (.frz o u) from I.hok d _ hH)
 obtain ⟨hx,es,ep,hod,hp,hs,hz⟩:=cE ok hd ho
 refine lW hv ho hod ?_
 have hsz:es.size=(bR u).length:=by rw [IZ hp]; simp
 refine ⟨_,es,ep,rfl,GZ _,I.kept (t':=s.toks) fun b o e=>G1 _ e,j4 (o:=o) (u:=u) (es:=es) (ep:=ep) hd hod (fun z=>?_) hsz,⟨.none,false,.none,.none,G7 _ rfl,.inl rfl⟩,fun b hb=>?_,fun b o e=>G1 _ e⟩
 ·have lt:=G2 ho
  rw [← z] at lt
  exact absurd lt (IS _)
 ·have e:b=s.heap.objs.size:=by simpa using hb
  subst e
  exact I.jJ (GZ _) (I.hok.fresh (GZ _))
theorem mq {src S:Addr} {T:String} {ds:List D} {res:Value} {R:Result→Shared→Prop} (hc:X.calm=true) (h1:X.A.in1.handled=none) (h2:X.A.in1.frames=some X.stack) (I1:Inv X pins σ (upd H S (.lst [])) s) (sb:aG Hf H) (HS:H S=none) (hvS:S≠src) (hltS:S<s.heap.objs.size) (hn:ds.length≤sizeLine)
 (hT:(false || Iz T == Iz "list" || Iz T == Iz "tuple")=false) (ty:∀ s':Shared,(∀ b o,s.heap.get? b=some o→s'.heap.get? b=some o)→s'.TypeIs (.ref src) T)
 (hint:∀ (A:Around) (s':Shared) (Q:Bool→Shared→Prop) (E:Value→Shared→Prop),s'.TypeIs (.ref src) T→Q false s'→wpAny (model X.prog X.w) A (Kd (.ref src)) Q E s')
 (iter:wpAny (model X.prog X.w) X.A.in1 (pyIter (.ref src)) (fun itv s2=>∃ (it:Addr) (tn:Nat→Heap→Prop) (J:It),itv=.ref it ∧
   s.heap.objs.size≤it∧Inv X pins σ (upd H S (.lst [])) s2∧Turn X.prog X.w X.K (.Name "x" ⟨0,0,0,0⟩) J [it] it tn∧tn 0 s2.heap∧(∀ b∈[it],dm X pins (upd H S (.lst [])) b)∧(∀ b o,s.heap.get? b=some o→s2.heap.get? b=some o)∧gy X.K J ds Hf) E s)
 (hR:∀ (s':Shared) (H' Hf':Hp) (xs:List V),Inv X pins σ H' s'→H' S=some (.lst xs)→Hf' S=none→aj X.K Hf' ds xs→Grw H Hf H' Hf'→R (.ok (.ret res)) s') :
 wpAny (model X.prog X.w) X.A.in1 (Lb (.ref S) (.ref src) res) (fun fin s'=>match fin with | .done f=>R (.ok f) s' | .again c=>c.quiet=true∧codeAny (model X.prog X.w) X.A c R s') E s:=by
 unfold Lb
 have ne:Builtin.List.listSameRef (.ref S) (.ref src)=false:=by simp [Builtin.List.listSameRef,hvS]
 refine GU (JE (ty s fun _ _ e=>e) ?_)
 rw [if_neg (by rw [ne,hT]; decide)]
 refine GU (HU iter (fun itv s2 ⟨it,tn,J,e,hit,I2,Tn,t0,hf,k2,io⟩=>?_) fun _ _ x=>x)
 subst e
 refine GU (IF (hint _ s2 _ _ (ty s2 k2) ?_))
 have hSne:it≠S:=JG (Ii hltS hit)
 have g0:Grw H Hf (upd H S (.lst [])) Hf:=Grw.eG sb HS
 have fin:∀ s3:Shared,Inv X pins σ (upd H S (.lst [])) s3→tn 0 s3.heap→wpAny (model X.prog X.w) X.A.in1 (again (.builtin "list.extend.loop" ⟨[.ref S,.ref it,res],[]⟩)) (fun fin s'=>match fin with | .done f=>R (.ok f) s' | .again c=>c.quiet=true∧codeAny (model X.prog X.w) X.A c R s') E s3:=fun s3 I3 t3 =>
  GX ⟨plainId_quiet Ld _,zq (X:=X) (Hb:=H) (Hf0:=Hf) hc Tn io HS (fun m=>hSne (Ho.mp m).symm) hn I1.ok h1 h2 hR ds.length 0 s3 _ Hf [] (by simp) (HF _) I3 t3 hf ah (sb.free HS) (aq.mpr rfl) g0⟩
 obtain ⟨_,its,n,rv,el,eo⟩:=I2.oJ (l:=S) (xs:=[]) ah
 cases rv
 split
 ·refine GU (Iq ?_)
  unfold Builtin.List.listTouch
  refine GU (GU (IQ eo rfl ?_))
  have I3:=I2.qV (f:=fun a=>a.push .none) (its':=[.none]) (ys:=[.non]) (t':=s2.toks) ah eo (by simp) (.cons rfl .nil) (by show 1≤sizeLine; decide)
  obtain ⟨_,its3,n3,rv3,el3,eo3⟩:=I3.oJ (l:=S) (xs:=[.non]) ah
  cases rv3 with
  | cons r3 t3 =>
   cases t3
   cases r3
   refine IQ eo3 rfl ?_
   have I4:=I3.qV (f:=fun a=>a.pop) (its':=[]) (ys:=[]) (t':=s2.toks) ah eo3 (by simp) .nil (HF _)
   rw [mR,mR] at I4
   refine fin _ I4 (Tn.keep 0 _ _ t0 fun b hb o e=>?_)
   have hbS:S≠b:=fun w=>hSne (by rw [Ho.mp hb] at w; exact w.symm)
   exact (Lk _ _ hbS).trans ((Lk _ _ hbS).trans e)
 ·exact fin s2 I2 t0
theorem rE {src:Addr} {T:String} {ds:List D} {Q:List Value→Shared→Prop} (hc:X.calm=true) (h1:X.A.in1.handled=none) (h2:X.A.in1.frames=some X.stack) (I:Inv X pins σ H s) (sb:aG Hf H) (hlt:src<s.heap.objs.size) (hn:ds.length≤sizeLine) (hT:(false || Iz T == Iz "list" || Iz T == Iz "tuple")=false)
 (ty:∀ s':Shared,(∀ b o,s.heap.get? b=some o→s'.heap.get? b=some o)→s'.TypeIs (.ref src) T)
 (hint:∀ (A:Around) (s':Shared) (Q:Bool→Shared→Prop) (E:Value→Shared→Prop),s'.TypeIs (.ref src) T→Q false s'→wpAny (model X.prog X.w) A (Kd (.ref src)) Q E s')
 (iter:∀ (A:Around) (s1:Shared) (H1:Hp) (E:Value→Shared→Prop),Inv X pins σ H1 s1→aG Hf H1→(∀ b o,s.heap.get? b=some o→s1.heap.get? b=some o)→wpAny (model X.prog X.w) A (pyIter (.ref src)) (fun itv s2=>∃ (it:Addr) (tn:Nat→Heap→Prop) (J:It),itv=.ref it ∧
   s1.heap.objs.size≤it∧Inv X pins σ H1 s2∧Turn X.prog X.w X.K (.Name "x" ⟨0,0,0,0⟩) J [it] it tn∧tn 0 s2.heap∧(∀ b∈[it],dm X pins H1 b)∧(∀ b o,s1.heap.get? b=some o→s2.heap.get? b=some o)∧gy X.K J ds Hf) E s1)
 (hQ:∀ (us:List Value) (s':Shared) (H' Hf':Hp) (xs:List V),Inv X pins σ H' s'→Vals xs us→aj X.K Hf' ds xs→Grw H Hf H' Hf'→ds.length≤sizeLine→Q us s'):wpAny (model X.prog X.w) X.A (collect (.ref src)) Q E s:=by
 unfold collect
 refine GU (wpAny_runValue (KR PySem.F.entry_proto_collect ?_))
 rw [Lo PySem.F.plain_proto_collect _]
 show wpAny _ X.A.in1 (newList [] >>= fun l=>again (.builtin "list.__iadd__" ⟨[l,.ref src],[]⟩)) _ _ s
 have HS:H s.heap.objs.size=none:=I.hok.fresh (GZ _)
 have hvS:s.heap.objs.size≠src:=JG hlt
 refine GU (Iw (GX ⟨plainId_quiet PySem.F.plain_list_iadd _,KR PySem.F.entry_list_iadd ?_⟩))
 rw [Lo PySem.F.plain_list_iadd _]
 generalize hS:s.heap.objs.size=S at *
 have I1:Inv X pins σ (upd H S (.lst [])) { s with heap:=s.heap.push { cls:=.type "list",data:=.seq ([]:List Value).toArray },toks:=s.toks }:=by
  have:=I.BG (t':=s.toks) (ys:=[]) (its:=[]) .nil (HF _)
  rw [hS] at this
  exact this
 show wpAny _ X.A.in1 (Lb (.ref S) (.ref src) (.ref S)) _ _ { s with heap:=s.heap.push { cls:=.type "list",data:=.seq ([]:List Value).toArray } }
 have k1:∀ b o,s.heap.get? b=some o→(s.heap.push { cls:=.type "list",data:=.seq ([]:List Value).toArray }).get? b=some o:=fun b o e=>G1 _ e
 generalize hs1:({ s with heap:=s.heap.push { cls:=.type "list",data:=.seq ([]:List Value).toArray } }:Shared)=s1
 replace I1:Inv X pins σ (upd H S (.lst [])) s1:=by rw [← hs1]; exact I1
 replace k1:∀ b o,s.heap.get? b=some o→s1.heap.get? b=some o:=by rw [← hs1]; exact k1
 have hltS:S<s1.heap.objs.size:=by rw [← hs1,← hS]; show _<(Heap.push _ _).objs.size; rw [IY]; exact Ks _
 refine mq (R:=fun r s'=>match r with
  | .ok (.ret v)=>wpAny (model X.prog X.w) X.A (do
   let .ref a:=v | unsupported "internal:collect"
   let o ← load a
   match o.data with
   | .seq xs _=>pure xs.toList
   | _=>unsupported "internal:collect") Q E s'
  | .ok _=>False
  | .error e=>E e s') hc h1 h2 I1 sb HS hvS hltS hn hT (fun s' k=>ty s' fun b o e=>k b o (k1 b o e)) hint (iter _ s1 _ _ I1 (Grw.eG sb HS (o:=.lst [])).b k1) fun s' H' Hf' xs I' hS' _ hr g=>?_
 obtain ⟨_,its,n,rv,el,eo⟩:=I'.oJ hS'
 exact GU (wpAny_load eo (GX (hQ its s' H' Hf' xs I' rv hr g hn)))
end
noncomputable def FL (te:TE):TE:=fun σ H Q=>te σ H fun x H1=>∃ d o u,x=.ref d∧H1 d=some (.frz o u)∧HO.dct u∧∀ v,H1 v=none→Q (.ref v) (upd H1 v (.ext fun h=>h.IsItemsView v d))
theorem zu {X:Cx} {e:Expr} {ap cp:Pos} {te:TE} (he:PE X e te) (hbase:attributeBase e "items" X.env (eval e X.env)=eval e X.env) (hline:(ap.endLine == cp.line)=true):PE X (.Call (.Attribute e "items" ap) [] [] cp) (FL te):=by
 intro pins s σ H Q I h
 refine ML (T:="dict") (id:="dict.items") hbase rfl hline F.plainAttrs_dict LD F.type_dict_items (thn (he pins s σ H _ I h) fun v s1 ⟨x,H1,I1,r1,d,o,u,ex,hH,hd,q⟩=>?_)
 subst ex
 cases r1
 obtain ⟨ho,ok⟩:=(show aS X.prog X.w H1 s1.heap d (.frz o u) from I1.hok d _ hH)
 obtain ⟨hx,es,ep,hod,hp,hs,hz⟩:=cE ok hd ho
 have hT:s1.TypeIs (.ref d) "dict":=⟨o,ho,hx.1⟩
 refine ⟨hT,fun b z=>by cases z; exact ⟨o,ho,hx.2.1⟩,?_⟩
 show wpAny _ _ (callWith cp (.builtin "dict.items") [.ref d] [] []) _ _ s1
 refine method_meetsIn LD F.entry_dict_items rfl (MD ⟨rfl,hT,F.args_dict_items_1 _,_,ja d hs,hT,?_⟩)
 have Hv:H1 s1.heap.objs.size=none:=I1.hok.fresh (GZ _)
 have hve:(s1.heap.push { cls:=.type "dict_items",data:=.fields #[.ref d] }).IsItemsView s1.heap.objs.size d:=⟨_,G7 _ rfl,rfl,rfl⟩
 have I2:Inv X pins σ (upd H1 s1.heap.objs.size (.ext fun h=>h.IsItemsView s1.heap.objs.size d)) { s1 with heap:=s1.heap.push { cls:=.type "dict_items",data:=.fields #[.ref d] },toks:=s1.toks } :=
  I1.laid (a:=s1.heap.objs.size) (fun _ _ q=>G1 _ q) (GZ _) ⟨hve,⟨_,G7 _ rfl⟩,fun h1 h2 ⟨o,e,r⟩ k=>⟨o,k o e,r⟩⟩
 exact ⟨.ref s1.heap.objs.size,_,I2,rfl,q _ Hv⟩
section
variable {X:Cx} {pins:List (Addr×Obj)} {σ:L2.St} {H Hf:Hp} {s:Shared} {E:Value→Shared→Prop} {α:Type} {enc:α→D} {lt:α→α→Bool} {κ:SortKind}
theorem p5 {K:GW}:∀ {L:List α} {xs:List V} {us:List Value},aj K Hf (L.map enc) xs→Vals xs us→Paired (fun x u=>Stn K Hf (enc x) u) L us
 | [],xs,us,h,v=>by rw [Jc,aq] at h; subst h; cases v; exact .nil
 | t::L,xs,us,h,v=>by
  rw [G3] at h
  obtain ⟨x,r,rfl,h1,h2⟩:=aB.mp h
  cases v with
  | cons r1 r2=>exact .cons ⟨x,r1,h1⟩ (p5 h2 r2)
theorem p6 {K:GW}:∀ {L:List α} {us:List Value},Paired (fun x u=>Stn K Hf (enc x) u) L us→∃ xs,aj K Hf (L.map enc) xs∧Vals xs us
 | _,_,.nil=>⟨[],aq.mpr rfl,.nil⟩
 | _,_,.cons ⟨x,r1,h1⟩ t=>by
  obtain ⟨xs,h2,h3⟩:=p6 t
  exact ⟨x::xs,.cons h1 h2,.cons r1 h3⟩
structure SrtE (X:Cx) (enc:α→D) (lt:α→α→Bool) (κ:SortKind):Prop where
 lin:∀ L:List α,SR.Lin lt L
 inj:∀ (pins:List (Addr×Obj)) (σ:L2.St) (H Hf:Hp) (s:Shared),Inv X pins σ H s→aG Hf H→∀ x y u,Stn X.K Hf (enc x) u→Stn X.K Hf (enc y) u→x=y
 kind:∀ (pins:List (Addr×Obj)) (σ:L2.St) (H Hf:Hp) (s:Shared) (A:Around) (E:Value→Shared→Prop),Inv X pins σ H s→aG Hf H→∀ (L:List α) (us:List Value),Paired (fun x u=>Stn X.K Hf (enc x) u) L us→2≤us.length→∀ Q:SortKind→Shared→Prop,Q κ s→wpAny (model X.prog X.w) A (keyKind' us.toArray) Q E s
 cmp:∀ (pins:List (Addr×Obj)) (σ:L2.St) (H Hf:Hp) (s:Shared) (A:Around) (E:Value→Shared→Prop),Inv X pins σ H s→aG Hf H→A.units+10<cLine→∀ (x y:α) (u v:Value),Stn X.K Hf (enc x) u→Stn X.K Hf (enc y) v→∀ Q:Bool→Shared→Prop,Q (lt x y) s→wpAny (model X.prog X.w) A (keyLt' κ u v) Q E s
theorem Cz:SrtE X av cu (tuples' false) :=
 ⟨jC,fun _ _ _ _ _ I sb _ _ _ h1 h2=>Cv I sb h1 h2,fun _ _ _ _ _ _ _ I sb _ _ p h2 _ hQ=>zp I sb p h2 hQ,fun _ _ _ _ _ _ _ I sb hA _ _ _ _ hx hy _ hQ=>FJ I sb hA hx hy hQ⟩
noncomputable def jg (lt:α→α→Bool) (b:Bool) (L:List α):Prop:=L.Pairwise fun x y=>if b then lt y x=true else lt x y=true
noncomputable abbrev gR (b:Bool) (L:List Trm):Prop:=jg cu b L
theorem p7 {L:List α} {b:Bool} {A:Around} {us:List Value} {xs:List V} {Q:Value→Shared→Prop} (hs:SrtE X enc lt κ) (I:Inv X pins σ H s) (sb:aG Hf H) (hA:A.units+20<cLine) (hr:aj X.K Hf (L.map enc) xs) (hv:Vals xs us) (hz:us.length≤sizeLine) (nd:L.Nodup)
 (hQ:∀ (L':List α) (xs':List V) (s':Shared),L'.Perm L→jg lt b L'→aj X.K Hf (L'.map enc) xs'→xs'.length≤sizeLine→Inv X pins σ (upd H s.heap.objs.size (.lst xs')) s'→Q (.ref s.heap.objs.size) s') :
 wpAny (model X.prog X.w) A (newList us >>= fun l=>(holding [l] (call (.builtin "list.sort") [l] [(GV "reverse",.bool b)]) >>= fun _=>ret l)) (fun fin s'=>∃ v,fin=.done (.ret v)∧Q v s') E s:=by
 refine GU (LW ?_ hz)
 have ha:(s.heap.push (seqObj "list" us.toArray 0)).get? s.heap.objs.size=some (seqObj "list" us.toArray 0):=G7 _ rfl
 have I1:Inv X pins σ H { s with heap:=s.heap.push (seqObj "list" us.toArray 0),toks:=s.toks }:=I.kept fun b o e=>G1 _ e
 have Ha:H s.heap.objs.size=none:=I.hok.fresh (GZ _)
 obtain ⟨f0,f1,f2,f3,f4,f5⟩:=I.jJ (H':=H) (GZ _) Ha
 have pL:=p5 hr hv
 refine GU (IF (wpAny_call_entry_kw slot_list_sort ⟨_,ha,rfl⟩ entry_list_sort (SR.vP (κ:=κ) (rk:=SR.zh (fun x u=>Stn X.K Hf (enc x) u) lt L) (b:=b) ha ?_ hz fun out hp ho=>⟨_,rfl,?_⟩) (args_list_sort_rev _ _)))
 ·intro h' k
  have I2:=I1.turned (h':=h') (t':=s.toks) (it:=s.heap.objs.size) (fun b o hb e=>k b o hb e) f0 f1 f3 f4 f5
  refine ⟨fun Q E h2 hQ=>hs.kind _ _ _ _ _ _ _ I2 sb _ _ pL h2 _ hQ,SR.FI (fun x y u h1 h2=>hs.inj _ _ _ _ _ I2 sb x y u h1 h2) (hs.lin L) pL fun x _ y _ u v hx hy E Q hQ=>hs.cmp _ _ _ _ _ _ _ I2 sb ?_ _ _ _ _ hx hy _ hQ⟩
  show A.units+1+10<cLine
  omega
 ·obtain ⟨L',p1,p2,p3⟩:=SR.zj (S:=fun x u=>Stn X.K Hf (enc x) u) (fun x y u h1 h2=>hs.inj _ _ _ _ _ I sb x y u h1 h2) (hs.lin L) nd pL hp ho
  obtain ⟨xs',r',v'⟩:=p6 p3
  obtain ⟨e,he⟩:=sortedHeap_at (vs:=us) (out:=out) ha
  have hl:out.toList.length=us.length:=hp.length_eq
  refine GX ⟨_,rfl,hQ L' xs' _ p1 p2 r' ?_ ?_⟩
  ·have:=v'.length; omega
  ·refine I.laid (t':=s.toks) (fun b o q=>?_) (GZ _) ⟨by have:=v'.length; omega,out.toList,e,v',by simpa using he⟩
   have lt:=G2 q
   rw [sortedHeap_old (Hs lt) (by rw [size_push']; exact MQ lt)]
   exact G1 _ q
end
section
variable {X:Cx} {pins:List (Addr×Obj)} {σ:L2.St} {H Hf:Hp} {s:Shared} {E:Value→Shared→Prop}
end
section
variable {P:Program} {w:World} {K:GW} {mg:Str→Option Value} {base:Heap} {k:Nat} {N:List Str} {sc:Scope} {bk:Bool} {c:Ctx P w K mg base k N sc bk} {ρ:List Sl} {ap cp np pos kp kp1:Pos} {e:Expr} {j:Nat}
end
section
variable {X:Cx} {pins:List (Addr×Obj)} {σ:L2.St} {H Hf:Hp} {s:Shared} {E:Value→Shared→Prop}
theorem nM {l:Addr} {ys:List V} {L:List Trm} {b:Bool} {Q:Value→Shared→Prop} (hc:X.calm=true) (I:Inv X pins σ H s) (sb:aG Hf H) (hA:X.A.units+60<cLine) (hl:SqL X.K Hf l ys) (hr:aj X.K Hf (L.map av) ys) (nd:L.Nodup)
 (hQ:∀ (L':List Trm) (xs':List V) (s':Shared) (a:Addr),L'.Perm L→gR b L'→aj X.K Hf (L'.map av) xs'→H a=none→Inv X pins σ (upd H a (.lst xs')) s'→Q (.ref a) s') :
 wpAny (model X.prog X.w) X.A (call (.builtin "sorted") [.ref l] [(GV "reverse",.bool b)]) Q E s:=by
 refine Mq kind_sorted plain_sorted entry_sorted (args_sorted_rev _ _) ?_
 unfold Builtin.«sorted»
 refine GU (m:=checkCount "sorted" 1 1 _) (GX ?_)
 obtain ⟨its,rv,p,hz⟩:=I.list (sb.seq hl)
 have el:=rv.length
 refine GU (collect_list p.isList ?_ (by omega))
 have I2:Inv X pins σ H { s with heap:=(s.heap.push (seqObj "list" #[] 0)).update s.heap.objs.size (HG (· ++its.toArray)),toks:=s.toks }:=I.kept fun c o e=>by
  rw [Jr _ _ _ _ (Hs (G2 e))]
  exact G1 _ e
 refine p7 (b:=b) Cz I2 sb ?_ hr rv (by omega) nd fun L' xs' s2 p1 p2 p3 p4 I3=>hQ L' xs' s2 _ p1 p2 p3 (I2.hok.fresh (GZ _)) I3
 show X.A.units+1+20<cLine
 omega
end
section
variable {P:Program} {w:World} {K:GW} {mg:Str→Option Value} {base:Heap} {k:Nat} {N:List Str} {sc:Scope} {bk:Bool} {c:Ctx P w K mg base k N sc bk} {ρ:List Sl} {ap cp np pos kp kp1:Pos} {e:Expr} {j:Nat}
theorem rF {R:Sl→Prop} (hm:mg "sorted"=none) (h:EvE c e ρ fun d=>∃ L:List Trm,d=.lst (L.map av)∧Sd L.Nodup (∀ L':List Trm,L'.Perm L→gR true L'→R (.ow (L'.map av))))
 (hg:sc.names.lookup (GV "sorted")=some .globalImplicit:=by walk_at "u")
 (he:∀ env,starEach [e] env=(false,eval e env)::starEach [] env:=by intro _; walk_at "u")
 (hpl:∀ env,(backTo pos (starEach [e] env)).any (·.1)=false:=by intro _; walk_at "u") :
 EvX c (.Call (.Name "sorted" np) [e] [⟨some "reverse",.Constant (.bool true) j kp1,kp⟩] pos) ρ R:=fun σ H Hf Q S q pins s I=>by
 have hgl:Gl c.X "sorted":=by unfold Gl HH; rw [c.esc]; exact hg
 refine I0 (bX I hgl (by rw [c.emg]; exact hm) (show bootBuiltins "sorted"=some (.builtin "sorted") by decide +kernel) ?_ (by decide) (by decide))
 refine callWith_kw ?_ (by rw [he]; rfl) (hpl _)
 have hpa:=br (X:=c.X) (e:=e) (es:=[]) pbE cA (he _)
 refine thn (hpa pos pins s σ H (fun vs H1=>∃ x,vs=[x]∧∃ (L:List Trm) (Hf1:Hp),Rep c.X.K Hf1 (.lst (L.map av)) x∧L.Nodup∧Grw H Hf H1 Hf1∧∀ L':List Trm,L'.Perm L→gR true L'→R (.ow (L'.map av))) I ?_) fun us s1 ⟨vs,H1,I1,r1,x,ex,L,Hf1,e1,e7,e8,e9⟩=>?_
 ·exact h σ H Hf _ S fun d v H1 Hf1 ⟨L,hp,⟨hn,hR⟩⟩ rv g=>⟨_,rfl,L,Hf1,by rw [← hp]; exact rv,hn,g,hR⟩
 ·subst ex
  obtain ⟨a0,ys,rfl,hs,hr⟩:=aH.mp e1
  have eu:us=[.ref a0]:=by
   cases r1 with
   | cons q1 q2=>cases q2; cases q1; rfl
  subst eu
  refine kws_cons (thn (xA (X:=c.X) (b:=true) (j:=j) (pos:=kp1) pins s1 σ _ (fun x H2=>x=.bl true∧H2=H1) I1 ⟨rfl,rfl⟩) fun kv s2 ⟨x,H2,I2,rx,e10,e11⟩=>kws_nil ?_)
  subst e10 e11
  have ek:kv=.bool true:=rx
  subst ek
  refine nM (b:=true) c.calm I2 e8.b ?_ hs hr e7 fun L' xs' s' a p1 p2 p3 na I3=>?_
  ·have:=c.room.un
   omega
  ·exact ⟨.ref a,_,I3,rfl,q (.ow (L'.map av)) _ _ Hf1 (e9 L' p1 p2) ⟨a,xs',rfl,e8.s.free na,ah,e8.b.free na,p3⟩ (e8.trans (Grw.eG e8.b na))⟩
end
end EV
namespace EV
open PySem PySem.Spec PyProof.Rows L2
noncomputable def trim (l:List Int):List Int:=(l.reverse.dropWhile fun x=>x == 0).reverse
theorem fG (l:List Int):trim (l++[0])=trim l:=by simp [trim]
theorem mw (l:List Int) {x:Int} (h:x≠0):trim (l++[x])=l++[x]:=by simp [trim,List.dropWhile_cons,h]
theorem iH {l:List Int} {m:Nat} (h:m<l.length):l.take (m+1)=l.take m++[l.getD m 0]:=by
 rw [ID h]; simp [Ir,h]
theorem mz {l:List Int} {m:Nat} (h:m<l.length) (z:l.getD m 0=0) (e:trim (l.take (m+1))=trim l):trim (l.take m)=trim l:=by
 rw [iH h,z,fG] at e; exact e
theorem mC {l:List Int} {m:Nat} (h:m<l.length) (z:l.getD m 0≠0) (e:trim (l.take (m+1))=trim l):l.take (m+1)=trim l:=by
 rw [← e,iH h,mw _ z]
theorem eX (l:List Int):(trim l).length≤l.length:=by
 unfold trim
 rw [List.length_reverse]
 exact Hi (List.dropWhile_sublist _).length_le (by simp)
theorem bM (l:List Int):trim (trim l)=trim l:=by
 unfold trim
 rw [List.reverse_reverse]
 congr 1
 generalize l.reverse=r
 induction r with
 | nil=>rfl
 | cons x r ih=>by_cases h:x == 0 <;> simp [List.dropWhile_cons,h,ih]
theorem zw {α:Type} (l:List α) {m:Nat} (h:m≤l.length):EV.cutD l none (some (m:Int))=l.take m:=by
 unfold EV.cutD HT.sIx
 have e:¬ (m:Int)<0:=by omega
 simp only [e,if_false,Ij]
 simp [KS h]
section
variable {P:Program} {w:World} {K:GW} {mg:Str→Option Value} {base:Heap} {k:Nat} {N:List Str} {sc:Scope} {bk:Bool} {c:Ctx P w K mg base k N sc bk} {ρ:List Sl} {pos ap cp px:Pos} {x:Str} {i:Nat} {nx:List Sl→Prop} {p:Pt}
theorem s_pop {r:Sl} {ds:List D} (hN:At N i x) (hi:At ρ i r) (hr:r.getL=some ds) (h:Sd (ds≠[]) (Nx ρ i nx (r.putL ds.dropLast)))
 (hs:∀ env,swapsWith (.Call (.Attribute (.Name x px) "pop" ap) [] [] cp) none pos.line env=pure false:=by intro _; walk_at "u") (hd:(x == ("__debug__":Str))=false:=by decide) (hcd:(x == ("__classdict__":Str))=false:=by decide)
 (hbase:∀ env,attributeBase (.Name x px) "pop" env (eval (.Name x px) env)=eval (.Name x px) env:=by intro _; walk_at "u")
 (hline:(ap.endLine == cp.line)=true:=by walk_at "u") :
 EvS c (.Expr (.Call (.Attribute (.Name x px) "pop" ap) [] [] cp) pos) ρ nx p:=fun σ H Hf D S o=>by
 obtain ⟨q,eq,rq⟩:=S.own hi.get (cC hr)
 obtain ⟨xs,h1,h2,h3⟩:=repL hr rq
 obtain ⟨hz,ρ',hs',hn⟩:=h
 have hl:=h3.length
 have hlen:0<xs.length:=by
  rw [← hl]; exact List.length_pos_iff.mpr hz
 obtain ⟨y,hy⟩:∃ y,xs[xs.length - 1]?=some y:=⟨_,HD (by omega)⟩
 refine c7 (jw (xV PySem.F.plainAttrs_list PySem.F.slot_list_pop PySem.F.type_list_pop EU (c.jU hN hd hcd) (hbase _) hline) (hs _)) ⟨_,eq,.inl ⟨rfl,xs,.inl (.inl h1)⟩,?_⟩
 refine ⟨q,xs,y,rfl,rfl,h1,hy,?_⟩
 refine o.nx _ _ Hf ρ' ?_ hn
 rw [hs'.eq]
 exact S.upd hi.get (cC hr) eq (fD S.sb h2) (jV hr rq ah h2 h3.dropLast) (fP hr)
end
noncomputable def encA (A:List Trm):List (List Key×D):=A.map fun t=>(t.1.map HA,.int t.2)
theorem nN:∀ {l m:List Int},(l.map (HA:Int→Key))=m.map HA→l=m
 | [],[],_=>rfl
 | x::l,y::m,h=>by
  simp only [G3,List.cons.injEq,HA.injEq] at h
  rw [h.1,nN h.2]
 | [],_::_,h=>by simp at h
 | _::_,[],h=>by simp at h
theorem uD (A:List Trm) (l:List Int):bf (encA A) (l.map HA)=(bf A l).map D.int:=by
 induction A with
 | nil=>rfl
 | cons t A ih =>
  by_cases e:t.1=l
  ·rw [aP e]
   show bf ((t.1.map HA,D.int t.2)::encA A) _=_
   rw [aP (by rw [e])]; rfl
  ·rw [aJ e,← ih]
   show bf ((t.1.map HA,D.int t.2)::encA A) _=_
   rw [aJ fun z=>e (nN z)]
theorem CA (A:List Trm) (l:List Int) (n:Int):putD (encA A) (l.map HA) (.int n)=encA (putD A l n):=by
 unfold putD
 rw [uD]
 by_cases h:(bf A l).isSome=true
 ·rw [if_pos h,if_pos (by rw [JV]; exact h)]
  unfold encA
  rw [HP,HP]
  refine Jy fun t _=>?_
  simp only [LY]
  by_cases e:t.1=l
  ·rw [if_pos e,if_pos (by rw [e])]
  ·rw [if_neg e,if_neg fun z=>e (nN z)]
 ·rw [if_neg h,if_neg (by rw [JV]; exact h)]
  unfold encA
  simp
theorem iI:∀ l:List Int,D.keys (l.map D.int)=some (l.map HA)
 | []=>rfl
 | x::l=>by
  simp only [G3]
  unfold D.keys
  rw [iI l]; rfl
theorem CB (A:List Trm) (l:List Int) (n:Int):(putD A l n).length≤A.length+1:=by
 unfold putD; split <;> simp
theorem CC (A:List Trm):(encA A).length=A.length:=by simp [encA]
theorem p9 {A:List Trm} (l:List Int) (n:Int) (h:(A.map (·.1)).Nodup):((putD A l n).map (·.1)).Nodup:=by
 unfold putD
 split
 ·rw [HP]
  have e:(A.map ((·.1)∘fun kv:Trm=>if kv.1=l then (kv.1,n) else kv))=A.map (·.1):=Jy fun t _=>by
   simp only [LY]; split <;> rfl
  rw [e]; exact h
 ·rename_i q
  rw [HB,LA]
  refine ⟨h,by simp,?_⟩
  intro a ha b hb
  simp at hb
  subst hb
  intro z
  subst z
  apply q
  obtain ⟨t,ht,e⟩:=HC.mp ha
  unfold bf
  rw [JV,List.find?_isSome]
  exact ⟨t,ht,decide_eq_true e⟩
theorem keys_nodup {A:List Trm} (h:(A.map (·.1)).Nodup):A.Nodup:=by
 unfold List.Nodup at *
 rw [KN] at h
 exact h.imp fun q z=>q (by rw [z])
noncomputable def dX (A:List Trm) (t:Trm):List Trm:=putD A (trim t.1) ((bf A (trim t.1)).getD 0+t.2)
noncomputable def aL (ts:List Trm):List Trm:=ts.foldl dX []
theorem qa (ts:List Trm) (t:Trm):aL (ts++[t])=dX (aL ts) t:=by simp [aL]
theorem nO (ts:List Trm) (A:List Trm):(ts.foldl dX A).length≤A.length+ts.length:=by
 induction ts generalizing A with
 | nil=>simp
 | cons t ts ih =>
  have h1:=ih (dX A t)
  have h2:=CB A (trim t.1) ((bf A (trim t.1)).getD 0+t.2)
  simp only [IL,HV]
  unfold dX at *
  omega
theorem fH (ts:List Trm):(aL ts).length≤ts.length:=by
 have:=nO ts []
 simpa [aL] using this
theorem dM (ts:List Trm):((aL ts).map (·.1)).Nodup:=by
 unfold aL
 have:∀ A:List Trm,(A.map (·.1)).Nodup→((ts.foldl dX A).map (·.1)).Nodup:=by
  induction ts with
  | nil=>exact fun A h=>h
  | cons t ts ih=>exact fun A h=>ih _ (p9 _ _ h)
 exact this [] (by simp)
theorem CD (x:Trm):cu x x=false:=(jC [x]).irr x (by simp)
theorem zz {x y z:Trm} (h:cu x y=true) (g:cu y z=true):cu x z=true:=(jC [x,y,z]).tr x (by simp) y (by simp) z (by simp) h g
theorem qb:∀ {L M:List Trm},L.Perm M→gR true L→gR true M→L=M
 | [],M,h,_,_=>by rw [List.nil_perm] at h; exact h.symm
 | x::L,[],h,_,_=>by simp at h
 | x::L,y::M,h,h1,h2=>by
  unfold gR jg at h1 h2
  rw [Kp] at h1 h2
  by_cases e:x=y
  ·subst e
   rw [qb ((List.perm_cons _).mp h) h1.2 h2.2]
  ·exfalso
   have hx:x∈M:=by
    have:=h.subset (Hg)
    rcases G5.mp this with z | z
    ·exact absurd z e
    ·exact z
   have hy:y∈L:=by
    have:=h.symm.subset (Hg)
    rcases G5.mp this with z | z
    ·exact absurd z.symm e
    ·exact z
   have a:=h1.1 y hy
   have b:=h2.1 x hx
   simp only [if_true] at a b
   have:=zz a b
   rw [CD] at this; cases this
noncomputable def vS (t:Trm):List Trm→List Trm
 | []=>[t]
 | x::r=>if cu x t=true then t::x::r else x::vS t r
noncomputable def gS (L:List Trm):List Trm:=L.foldr vS []
theorem kq (t:Trm):∀ L:List Trm,(vS t L).Perm (t::L)
 | []=>.refl _
 | x::r=>by
  unfold vS
  split
  ·exact .refl _
  ·exact ((kq t r).cons x).trans (.swap _ _ _)
theorem bD:∀ L:List Trm,(gS L).Perm L
 | []=>.refl _
 | t::L=>(kq t (gS L)).trans ((bD L).cons t)
theorem CF {x y:Trm} (h:x≠y):cu x y=true∨cu y x=true:=(jC [x,y]).tot x (by simp) y (by simp) h
theorem uE (t:Trm):∀ L:List Trm,t∉L→gR true L→gR true (vS t L)
 | [],_,_=>Kh _ _
 | x::r,hn,h=>by
  have h':=h
  unfold gR jg at h'
  rw [Kp] at h'
  unfold vS
  by_cases e:cu x t=true
  ·rw [if_pos e]
   unfold gR jg
   rw [Kp]
   refine ⟨fun y hy=>?_,h⟩
   simp only [if_true]
   rcases G5.mp hy with rfl | z
   ·exact e
   ·have:=h'.1 y z
    simp only [if_true] at this
    exact zz this e
  ·rw [if_neg e]
   unfold gR jg
   rw [Kp]
   refine ⟨fun y hy=>?_,uE t r (fun z=>hn (Hl _ z)) h'.2⟩
   rcases G5.mp ((kq t r).subset hy) with rfl | z
   ·simp only [if_true]
    rcases CF (x:=x) (y:=y) (fun z=>hn (by rw [z]; exact Hg)) with q | q
    ·exact absurd q e
    ·exact q
   ·exact h'.1 y z
theorem gT:∀ {L:List Trm},L.Nodup→gR true (gS L)
 | [],_=>KP
 | t::L,h=>by
  rw [IK] at h
  exact uE t _ (fun z=>h.1 ((bD L).subset z)) (gT h.2)
theorem rG {L L':List Trm} (hn:L.Nodup) (hp:L'.Perm L) (hs:gR true L'):L'=gS L:=qb (hp.trans (bD L).symm) hs (gT hn)
noncomputable def nz (L:List Trm):List Trm:=L.filter fun t=>t.2 != 0
theorem FN {L:List Trm} (hn:L.Nodup):nz (gS L)=gS (nz L) :=
 rG (MB _ hn) ((bD L).filter _) ((gT hn).filter _)
theorem encK (A:List Trm):(Sl.oT (encA A)).pH=some (.fdT (A.map fun t=>t.1.map HA) (A.map fun t=>.int t.2)):=by
 show some _=some _
 unfold encA
 rw [HP,HP]; rfl
theorem vU (A:List Trm):(D.fdT (A.map fun t=>t.1.map HA) (A.map fun t=>.int t.2)).pairs=some (A.map av):=by
 show some _=some _
 congr 1
 rw [LJ,Ly]
 refine Jy fun t _=>?_
 unfold av
 congr 3
 rw [HP]; rfl
theorem FO {r:Sl} {A:List Trm} (h:r.vE=some (encA A)) (l:List Int):LkP r (.tup (l.map .int)) ((bf A l).map D.int):=by
 rw [← uD]; exact .t h (iI l)
theorem FP {A:List Trm} {l:List Int} {n:Int} (hz:A.length<sizeLine):PtP (.oT (encA A)) (.tup (l.map .int)) (.int n) (.oT (encA (putD A l n))):=by
 rw [← CA]
 exact .t (r:=.oT (encA A)) rfl (iI l) (by rw [CC]; exact hz)
theorem zA (o:Option Int):(o.map D.int).getD (.int 0)=.int (o.getD 0):=by cases o <;> rfl
end EV
namespace EV
open PySem PySem.Spec PySem.Calls PyProof.Rows L2
section
variable {X:Cx} {pins:List (Addr×Obj)} {σ:L2.St} {H:Hp} {s:Shared} {h':Heap}
theorem cP {t':Nat} {L:List Addr} (I:Inv X pins σ H s) (k:∀ b o,b∉L→s.heap.get? b=some o→h'.get? b=some o) (hf:∀ b∈L,dm X pins H b):Inv X pins σ H { s with heap:=h',toks:=t' }:=by
 have nit:∀ b u,H b=some u→b∉L:=fun b u e z=>by rw [(hf b z).1] at e; cases e
 refine I.step (g':=s.gens) (d':=s.drawn) (ch:=L) (fun b hb=>?_) (fun b o _ _ hc e _=>k b o hc e) (fun b o _ _ hc e _=>⟨o.slots,k b o hc e⟩) (fun _ _ _ _ n=>n)
  (fun b o hc e=>⟨o,k b o hc e⟩) (fun _ _ e=>e) (fun _ _ _ e=>e) (fun b ps e=>⟨#[],by rw [e]; simp⟩) (fun m hm=>?_) (fun b u e=>?_) I.bare
 ·obtain ⟨_,f1,_,f3,f4,f5⟩:=hf b hb
  exact ⟨f3,f1,f4,f5⟩
 ·obtain ⟨o,es,ep,ho,r⟩:=hm
  exact ⟨o,es,ep,k _ o (fun z=>(hf _ z).2.1 rfl) ho,r⟩
 ·refine (I.hok b u e).stay (fun c v hc q=>k c v ?_ q) (fun _ q=>q) fun _ _ q=>q
  rcases hc with z | z
  ·rw [z]; exact nit b u e
  ·exact nit c _ z
end
theorem bN {h:Heap} {a b:Addr} {o o':Obj} (e:h.get? a=some o) (e':h.get? b=some o') (n:o.cls≠o'.cls):a≠b:=by
 rintro rfl; rw [e] at e'; cases e'; exact n rfl
theorem mD {h:Heap} {z TI TO i1 i2 l1 l2:Addr} {a b c:Value} {k1 k2:Nat} {xs ys:Array Value} (hT:TI≠TO) (hi:i1≠i2) (hz:IsZip h z TI TO c) (h1:∃ a b,IsPair h TI a b) (h2:IsPair h TO a b)
 (h3:h.IsListIter i1 l1 k1) (h4:h.IsListIter i2 l2 k2) (h5:h.IsList l1 xs) (h6:h.IsList l2 ys):ZipApart z TI TO i1 i2 l1 l2:=by
 obtain ⟨_,_,h1⟩:=h1
 obtain ⟨o3,e3,c3,_⟩:=h3
 obtain ⟨o4,e4,c4,_⟩:=h4
 obtain ⟨o5,e5,c5,_⟩:=h5
 obtain ⟨o6,e6,c6,_⟩:=h6
 exact {
  TIz:=bN h1 hz (by simp)
  TOz:=bN h2 hz (by simp)
  i1z:=bN e3 hz (by rw [c3]; simp)
  i2z:=bN e4 hz (by rw [c4]; simp)
  TITO:=hT
  TIi1:=bN h1 e3 (by rw [c3]; simp)
  TIi2:=bN h1 e4 (by rw [c4]; simp)
  TOi1:=bN h2 e3 (by rw [c3]; simp)
  TOi2:=bN h2 e4 (by rw [c4]; simp)
  i12:=hi
  l1z:=bN e5 hz (by rw [c5]; simp)
  l1TO:=bN e5 h2 (by rw [c5]; simp)
  l1i1:=bN e5 e3 (by rw [c5,c3]; simp)
  l1i2:=bN e5 e4 (by rw [c5,c4]; simp)
  l2z:=bN e6 hz (by rw [c6]; simp)
  l2TO:=bN e6 h2 (by rw [c6]; simp)
  l2i1:=bN e6 e3 (by rw [c6,c3]; simp)
  l2i2:=bN e6 e4 (by rw [c6,c4]; simp) }
noncomputable def Itz (K:GW) (l1 l2:Addr):It :=
 ⟨fun i H=>∃ xs ys x y,SqL K H l1 xs∧SqL K H l2 ys∧xs[i]?=some x∧ys[i]?=some y,
  fun i H v H'=>∃ p x y,v=.ref p∧H p=none∧H'=upd H p (.tup [x,y])∧(∀ xs,SqL K H l1 xs→xs[i]?=some x)∧∀ ys,SqL K H l2 ys→ys[i]?=some y,
  fun i H=>∃ xs ys,SqL K H l1 xs∧SqL K H l2 ys∧(xs.length≤i∨ys.length≤i)⟩
theorem zB {P:Program} {w:World} {K:GW} {elts:List Expr} {k:Nat} {pos:Pos} {z TI TO i1 i2 l1 l2:Addr} (hT:TI≠TO) (hi12:i1≠i2) :
 Turn P w K (.Tuple elts k pos) (Itz K l1 l2) [z,TI,TO,i1,i2] z (fun i h=>IsZip h z TI TO .none∧IsPair h TI (.ref i1) (.ref i2)∧(∃ a b,IsPair h TO a b)∧h.IsListIter i1 l1 i∧h.IsListIter i2 l2 i) where
 mem:=by simp
 obj:=fun i h ⟨hz,hTI,⟨a,b,hTO⟩,⟨o1,e1,_,d1⟩,⟨o2,e2,_,d2⟩⟩ b hb=>by
  simp only [G5,HM,or_false] at hb
  rcases hb with rfl | rfl | rfl | rfl | rfl
  ·exact ⟨_,hz,fun v q=>by have q':KA _=Jp v:=q; cases q'⟩
  ·exact ⟨_,hTI,fun v q=>by have q':Data.seq _ _=Jp v:=q; cases q'⟩
  ·exact ⟨_,hTO,fun v q=>by have q':Data.seq _ _=Jp v:=q; cases q'⟩
  ·exact ⟨_,e1,fun v q=>by rw [d1] at q; cases q⟩
  ·exact ⟨_,e2,fun v q=>by rw [d2] at q; cases q⟩
 keep:=fun i h h' ⟨hz,hTI,⟨a,b,hTO⟩,h1,h2⟩ hk=>⟨hk z (by simp) _ hz,hk TI (by simp) _ hTI,⟨a,b,hk TO (by simp) _ hTO⟩,h1.at fun o e=>hk i1 (by simp) o e,h2.at fun o e=>hk i2 (by simp) o e⟩
 item:=by
  intro X hP hw hK hc i pins s σ H E I hf st hg
  subst hP hw hK
  obtain ⟨hz,hTI,⟨a,b,hTO⟩,h1,h2⟩:=st
  obtain ⟨xs,ys,x,y,q1,q2,hx,hy⟩:=hg
  obtain ⟨its1,rv1,p1,z1⟩:=I.list q1
  obtain ⟨its2,rv2,p2,z2⟩:=I.list q2
  obtain ⟨u1,hu1,ru1⟩:=rv1.get hx
  obtain ⟨u2,hu2,ru2⟩:=rv2.get hy
  have D:=mD hT hi12 hz ⟨_,_,hTI⟩ hTO h1 h2 p1.isList p2.isList
  refine wpAny_pyNext_zip_item D hz hTI hTO h1 h2 p1.isList p2.isList (x:=u1) (y:=u2) (by simpa using hu1) (by simpa using hu2) fun h' a1 a2 a3 a4 a5 a6 hk=>?_
  have Hp:H s.heap.objs.size=none:=I.hok.fresh (GZ _)
  have IA:Inv X pins σ (upd H s.heap.objs.size (.tup [x,y])) { s with heap:=s.heap.push { cls:=.type "tuple",data:=.seq #[u1,u2] },toks:=s.toks } :=
   I.laid (a:=s.heap.objs.size) (o:=.tup [x,y]) (fun _ _ q=>G1 _ q) (GZ _) ⟨by show 2≤sizeLine; decide,[u1,u2],.cons ru1 (.cons ru2 .nil),_,G7 _ rfl,rfl,0,rfl⟩
  have lt:∀ b∈[z,TI,TO,i1,i2],b<s.heap.objs.size:=fun b hb=>by
   obtain ⟨o1,e1,_⟩:=h1
   obtain ⟨o2,e2,_⟩:=h2
   simp only [G5,HM,or_false] at hb
   rcases hb with rfl | rfl | rfl | rfl | rfl
   ·exact G2 hz
   ·exact G2 hTI
   ·exact G2 hTO
   ·exact G2 e1
   ·exact G2 e2
  have gf:∀ b∈[z,TI,TO,i1,i2],dm X pins (upd H s.heap.objs.size (.tup [x,y])) b:=fun b hb=>⟨by rw [ai (Hs (lt b hb))]; exact (hf b hb).1,(hf b hb).2⟩
  have I1:Inv X pins σ (upd H s.heap.objs.size (.tup [x,y])) { s with heap:=h',toks:=s.toks }:=cP (s:={ s with heap:=s.heap.push { cls:=.type "tuple",data:=.seq #[u1,u2] },toks:=s.toks }) (t':=s.toks) (h':=h') (L:=[z,TI,TO,i1,i2]) IA (fun b o hb q=>by
   simp only [G5,HM,or_false,not_or] at hb
   by_cases e:b=s.heap.objs.size
   ·subst e
    rw [G7 _ rfl] at q; cases q; exact a5
   ·refine hk b o hb.1 hb.2.2.1 hb.2.2.2.1 hb.2.2.2.2 ?_
    rw [LC _ _ _ e] at q; exact q) gf
  have b1:IsPair h' TI (.ref i1) (.ref i2):=hk _ _ D.TIz D.TITO D.TIi1 D.TIi2 hTI
  refine ⟨_,rfl,wpAny_letOwnedTupleGo_zip (s:={ s with heap:=h' }) a1 fun h2' hz' hs'=>?_⟩
  refine ⟨.ref s.heap.objs.size,_,cP (s:={ s with heap:=h',toks:=s.toks }) (t':=s.toks) (h':=h2') (L:=[z,TI,TO,i1,i2]) I1 (fun b o hb q=>hs'.extBut b o (fun e=>hb (by simp [e])) q) gf,rfl,
   ⟨_,x,y,rfl,Hp,rfl,fun xs' h=>by rw [I.gq h q1]; exact hx,fun ys' h=>by rw [I.gq h q2]; exact hy⟩,
   ⟨hz',hs'.extBut _ _ D.TIz b1,⟨_,_,hs'.extBut _ _ D.TOz a2⟩,a3.extBut hs'.extBut D.i1z,a4.extBut hs'.extBut D.i2z⟩,fun b hb=>(gf b hb).1⟩
 done:=by
  intro X hP hw hK hc i pins s σ H E I hf st hg
  subst hP hw hK
  obtain ⟨hz,hTI,⟨a,b,hTO⟩,h1,h2⟩:=st
  obtain ⟨xs,ys,q1,q2,hend⟩:=hg
  obtain ⟨its1,rv1,p1,z1⟩:=I.list q1
  obtain ⟨its2,rv2,p2,z2⟩:=I.list q2
  have D:=mD hT hi12 hz ⟨_,_,hTI⟩ hTO h1 h2 p1.isList p2.isList
  have l1:=rv1.length
  have l2:=rv2.length
  refine wpAny_pyNext_zip_end (I.ok.hd hc) D hz hTI hTO h1 h2 p1.isList p2.isList (by simp; omega) fun h' hk=>⟨rfl,cP (t':=s.toks) (L:=[z,TI,TO,i1,i2]) I (fun b o hb q=>?_) hf⟩
  simp only [G5,HM,or_false,not_or] at hb
  exact hk b o hb.1 hb.2.2.1 hb.2.2.2.1 hb.2.2.2.2 q
 self:=fun A i s Q E st h=>LF st.1 h
noncomputable def jh (ds es:List D):List D:=K2 (fun x y=>D.tup [x,y]) ds es
theorem zC {K:GW} {Hf:Hp} {ds es:List D} {xs ys:List V} {l1 l2:Addr} (h1:SqL K Hf l1 xs) (r1:aj K Hf ds xs) (h2:SqL K Hf l2 ys) (r2:aj K Hf es ys):gy K (Itz K l1 l2) (jh ds es) Hf where
 go:=fun i d H Hf1 s1 s2 e=>by
  unfold jh at e
  rw [Nj] at e
  obtain ⟨x,y,ex,ey,rfl⟩:=e
  obtain ⟨v1,f1,g1⟩:=r1.get ex
  obtain ⟨v2,f2,g2⟩:=r2.get ey
  have q1:=(s1.trans s2).seq h1
  have q2:=(s1.trans s2).seq h2
  refine ⟨⟨xs,ys,v1,v2,q1,q2,f1,f2⟩,fun v H' ⟨p,x',y',e1,e2,e3,e4,e5⟩=>?_⟩
  have z1:=e4 xs q1
  have z2:=e5 ys q2
  rw [f1] at z1; cases z1
  rw [f2] at z2; cases z2
  subst e1 e3
  have g:=Grw.new s2 e2 (o:=.tup [v1,v2])
  exact ⟨upd Hf1 p (.tup [v1,v2]),g,aC.mpr ⟨p,_,rfl,.inl (.inl ah),.cons (Rep.mono (s1.trans g.f) _ g1) (.cons (Rep.mono (s1.trans g.f) _ g2) (aq.mpr rfl))⟩⟩
 stop:=fun i H Hf1 s1 s2 e=>⟨xs,ys,(s1.trans s2).seq h1,(s1.trans s2).seq h2,by
  rw [← r1.length,← r2.length]
  unfold jh at e
  rw [List.length_zipWith] at e
  omega⟩
theorem boot_zip:bootBuiltins "zip"=some (.type "zip"):=by decide +kernel
noncomputable def iZip (K:GW) (ta:TA):TI:=fun σ H R=>ta σ H fun vs H1=>∃ l1 l2 xs ys,vs=[.ref l1,.ref l2]∧SqL K H1 l1 xs∧SqL K H1 l2 ys∧R (Itz K l1 l2) H1
theorem FQ {X:Cx} {elts:List Expr} {kt:Nat} {tpos:Pos} {a b:Expr} {ta:TA} {p pos:Pos} (hg:Gl X "zip") (hm:X.mg "zip"=none) (ha:PA X [a,b] ta) (hs:starEach [a,b] X.env=[(false,eval a X.env),(false,eval b X.env)]) (hs2:starEach [b] X.env=[(false,eval b X.env)]) :
 PI X (.Tuple elts kt tpos) (.Call (.Name "zip" p) [a,b] [] pos) (iZip X.K ta):=by
 intro pins s σ H R I h
 refine Call_ (bX I hg hm boot_zip (JP (thn (ha pos pins s σ H _ I h) fun us s1 ⟨vs,H1,I1,r1,q1⟩=>?_) (by rw [hs,hs2]) (by rw [hs2]; rfl)))
 obtain ⟨l1,l2,xs,ys,e,q1,q2,q⟩:=q1
 subst e
 cases r1 with
 | cons r rr =>
  cases rr with
  | cons r' rr =>
   cases rr
   cases r
   cases r'
   obtain ⟨its1,rv1,p1,z1⟩:=I1.list q1
   obtain ⟨its2,rv2,p2,z2⟩:=I1.list q2
   refine call_zip_2 p1.isList p2.isList fun h' a1 a2 a3 a4 a5 a6 hk=>LF a1 ?_
   refine ⟨s1.heap.objs.size+4,[s1.heap.objs.size+4,s1.heap.objs.size+2,s1.heap.objs.size+3,s1.heap.objs.size,s1.heap.objs.size+1],_,_,H1,rfl,I1.kept (t':=s1.toks) hk,zB (fun e=>absurd (Nat.add_left_cancel e) (by decide)) (Hs (Ks _)),⟨a1,a2,⟨_,_,a3⟩,a4,a5⟩,fun b hb=>?_,q⟩
   have hb':s1.heap.objs.size≤b:=by
    simp only [G5,HM,or_false] at hb
    rcases hb with rfl | rfl | rfl | rfl | rfl
    ·exact IV _ _
    ·exact IV _ _
    ·exact IV _ _
    ·exact GZ _
    ·exact IV _ _
   exact I1.jJ hb' (I1.hok.fresh hb')
section
variable {P:Program} {w:World} {K:GW} {mg:Str→Option Value} {base:Heap} {k:Nat} {N:List Str} {sc:Scope} {bk:Bool} {c:Ctx P w K mg base k N sc bk} {ρ:List Sl} {pos tpos p:Pos} {a b:Expr} {elts:List Expr} {kt:Nat}
theorem i_zip {R:List D→Prop} (hm:mg "zip"=none) (h:EvE c a ρ fun x=>EvE c b ρ fun y=>∃ ds es,x=.lst ds∧y=.lst es∧R (jh ds es)) (hg:sc.names.lookup (GV "zip")=some .globalImplicit:=by walk_at "u")
 (hs:∀ env,starEach [a,b] env=(false,eval a env)::starEach [b] env:=by intro _; walk_at "u") (hs2:∀ env,starEach [b] env=(false,eval b env)::starEach [] env:=by intro _; walk_at "u"):EvI c (.Tuple elts kt tpos) (.Call (.Name "zip" p) [a,b] [] pos) ρ R:=fun σ H Hf Q S q pins s I =>
 FQ (by unfold Gl HH; rw [c.esc]; exact hg) (by rw [c.emg]; exact hm) (br pbE (br pbE cA (hs2 _)) (hs _)) (by rw [hs,hs2]; rfl) (by rw [hs2]; rfl) pins s σ H Q I
  (h σ H Hf _ S fun x v1 H1 Hf1 h1 r1 g1=>h1 σ H1 Hf1 _ (S.grw g1) fun y v2 H2 Hf2 ⟨ds,es,e1,e2,hR⟩ r2 g2=>by
    subst e1 e2
    rw [aH] at r1 r2
    obtain ⟨l1,xs,rfl,s1,t1⟩:=r1
    obtain ⟨l2,ys,rfl,s2,t2⟩:=r2
    have s1':=g2.f.seq s1
    exact ⟨l1,l2,xs,ys,rfl,g2.b.seq s1',g2.b.seq s2,q _ _ H2 Hf2 hR (g1.trans g2) (zC s1' (t1.mono g2.f) s2 t2)⟩)
end
theorem jb {K:GW} {H:Hp}:∀ {bs:List Bool} {xs:List V},aj K H (bs.map D.bl) xs→xs=bs.map V.bl
 | [],xs,h=>by rw [Jc,aq] at h; subst h; rfl
 | b::bs,xs,h=>by
  rw [G3,aB] at h
  obtain ⟨x,r,rfl,h1,h2⟩:=h
  rw [bY] at h1
  rw [h1,jb h2]; rfl
theorem qe:∀ {bs:List Bool} {us:List Value},Vals (bs.map V.bl) us→us=bs.map JJ
 | [],_,h=>by cases h; rfl
 | b::bs,_,h=>by
  cases h with
  | cons q t =>
   cases q
   rw [qe t]; rfl
theorem range_all (bs:List Bool):(HE bs.length).all (fun i=>bs.getD i true)=bs.all id:=by
 induction bs with
 | nil=>rfl
 | cons b bs ih =>
  rw [HV,List.range_succ_eq_map,List.all_cons,List.all_map,List.all_cons,← ih]
  rfl
theorem vV {X:Cx} (hc:X.calm=true):eE X (.builtin "all") (fun xs H Q=>∃ (p:Addr) (bs:List Bool),xs=[.ref p]∧SqL X.K H p (bs.map V.bl)∧Q (.bl (bs.all id)) H):=by
 intro pins s σ H xs us Q I r h
 obtain ⟨p,bs,rfl,hq,q⟩:=h
 obtain ⟨u,rfl,rx⟩:=vals1 r
 cases rx
 obtain ⟨its,rv,pl,hz⟩:=I.list hq
 have e:=qe rv
 subst e
 have hlt:p<s.heap.objs.size:=by obtain ⟨o,e,_⟩:=pl.isList; exact G2 e
 refine call_all_walk (Lx pl.isList ?_)
 have hh:X.A.in1.handled=none:=I.ok.hd hc
 refine ⟨_,_,_,_,_,_,fun i=>bs.getD i true,rfl,Walks.list hh s.heap.objs.size p (Hs hlt) (bs.map JJ).toArray,⟨⟨_,G7 _ rfl,rfl,rfl⟩,pl.isList.at fun o e=>G1 _ e⟩,?_,?_⟩
 ·intro i v s Q E hP hQ
  have hP':(bs.map JJ)[i]?=some v:=by simpa using hP
  rw [G9,Hj] at hP'
  obtain ⟨b,hb,rfl⟩:=hP'
  have e:bs.getD i true=b:=by rw [Ir,hb]; rfl
  have hQ':Q (bs.getD i true) s:=hQ
  rw [e] at hQ'
  exact Kr hQ'
 ·intro h' tk hk
  have es:(bs.map JJ).toArray.size=bs.length:=by simp
  rw [es,range_all]
  exact ⟨.bl (bs.all id),H,I.kept (h':=h') (t':=tk) (fun b u e=>hk b u (by simpa using Hs (G2 e)) (G1 _ e)),rfl,q⟩
section
variable {P:Program} {w:World} {K:GW} {mg:Str→Option Value} {base:Heap} {k:Nat} {N:List Str} {sc:Scope} {bk:Bool} {c:Ctx P w K mg base k N sc bk} {ρ:List Sl} {pos p:Pos} {e:Expr} {R:D→Prop}
theorem boot_all:bootBuiltins "all"=some (.builtin "all"):=by decide +kernel
theorem DX (hm:mg "all"=none) (h:EvE c e ρ fun x=>∃ bs:List Bool,x=.lst (bs.map D.bl)∧R (.bl (bs.all id))) (hg:sc.names.lookup (GV "all")=some .globalImplicit:=by walk_at "u")
 (he:∀ env,starEach [e] env=(false,eval e env)::starEach [] env:=by intro _; walk_at "u"):EvE c (.Call (.Name "all" p) [e] [] pos) ρ R :=
 oY (vV c.calm) (q:=fun ds R=>∃ bs:List Bool,ds=[.lst (bs.map D.bl)]∧R (.bl (bs.all id))) (by
  rintro ds vs H Hf Q R s rs ⟨bs,rfl,hR⟩ q
  obtain ⟨v,rfl,rv⟩:=lS rs
  rw [aH] at rv
  obtain ⟨a,xs,rfl,h1,h2⟩:=rv
  rw [jb h2] at h1
  exact ⟨a,bs,rfl,s.seq h1,q _ _ H Hf hR (bY.mpr rfl) (.refl s)⟩) hm boot_all (cR (h.imp fun d ⟨bs,e,hR⟩=>i6 ⟨bs,by rw [e],hR⟩) he) hg (by decide) (by decide) he (by intro _; walk_at "u")
end
end EV
namespace EV
open PySem PySem.Spec PyProof.Rows L2
theorem nP {A:List Trm} {l:List Int} {n:Int} {t:Trm} (h:t∈putD A l n):t.1=l∨t∈A:=by
 unfold putD at h
 split at h
 ·obtain ⟨u,hu,e⟩:=HC.mp h
  split at e
  ·rename_i q; subst e; exact .inl q
  ·subst e; exact .inr hu
 ·rcases Hy.mp h with q | q
  ·exact .inr q
  ·simp at q; subst q; exact .inl rfl
theorem gU {n:Nat} {ts:List Trm} (hl:∀ t∈ts,t.1.length≤n):∀ t∈aL ts,trim t.1=t.1∧t.1.length≤n:=by
 unfold aL
 suffices H:∀ A:List Trm,(∀ t∈A,trim t.1=t.1∧t.1.length≤n)→∀ t∈ts.foldl dX A,trim t.1=t.1∧t.1.length≤n from H [] (by simp)
 induction ts with
 | nil=>exact fun A h=>h
 | cons u ts ih =>
  refine fun A h=>ih (fun t ht=>hl t (Hl _ ht)) _ fun t ht=>?_
  rcases nP ht with e | e
  ·rw [e,bM]
   exact ⟨rfl,Hi (eX _) (hl u Hg)⟩
  ·exact h t e
noncomputable def aV (ts:List Trm):List Trm:=gS (nz (aL ts))
theorem uF {A:List Trm} (h:(A.map (·.1)).Nodup):((nz A).map (·.1)).Nodup:=List.Nodup.sublist (List.filter_sublist.map _) h
theorem mE (ts:List Trm):(aV ts).Perm (nz (aL ts)):=bD _
theorem kr {ts:List Trm} {t:Trm} (h:t∈aV ts):t∈aL ts∧t.2≠0:=by
 have:=(mE ts).subset h
 unfold nz at this
 rw [KU] at this
 exact ⟨this.1,by simpa using this.2⟩
theorem ku (ts:List Trm):(aV ts).length≤ts.length:=by
 rw [(mE ts).length_eq]
 exact Hi (List.length_filter_le _ _) (fH ts)
theorem zD {n:Nat} {ts:List Trm} (h:∀ t∈ts,t.1.length≤n):∀ t∈aV ts,t.1.length≤n:=fun t ht=>(gU h t (kr ht).1).2
end EV
namespace EV
open PySem PySem.Spec PySem.Calls PyProof.Rows L2
theorem CG {K:GW} {f:Int→Int→Int}:ym K (fun xs H Q=>∃ i j,xs=[.int i,.int j]∧Q (.int (f i j)) H) (fun ds R=>∃ i j:Int,ds=[.int i,.int j]∧R (.int (f i j))):=by
 rintro ds vs H Hf Q R s rs ⟨i,j,rfl,hR⟩ q
 obtain ⟨v,r,rfl,r1,r2⟩:=aB.mp rs
 obtain ⟨v',r',rfl,r1',r2'⟩:=aB.mp r2
 rw [aq] at r2'
 subst r2'
 rw [au] at r1 r1'
 subst r1 r1'
 exact ⟨i,j,rfl,q _ _ H Hf hR (au.mpr rfl) (.refl s)⟩
section
variable {P:Program} {w:World} {K:GW} {mg:Str→Option Value} {base:Heap} {k:Nat} {N:List Str} {sc:Scope} {bk:Bool} {c:Ctx P w K mg base k N sc bk} {ρ:List Sl} {pos p:Pos} {a b:Expr} {R:D→Prop}
theorem boot_max:bootBuiltins "max"=some (.builtin "max"):=by decide +kernel
theorem zE (hm:mg "max"=none) (h:EvE c a ρ fun x=>EvE c b ρ fun y=>I2 (fun i j=>R (.int (if j>i then j else i))) x y) (hg:sc.names.lookup (GV "max")=some .globalImplicit:=by walk_at "u")
 (he:∀ env,starEach [a,b] env=(false,eval a env)::starEach [b] env:=by intro _; walk_at "u") (he2:∀ env,starEach [b] env=(false,eval b env)::starEach [] env:=by intro _; walk_at "u")
 (hpl:∀ env,(backTo pos (starEach [b] env)).any (·.1)=false:=by intro _; walk_at "u"):EvE c (.Call (.Name "max" p) [a,b] [] pos) ρ R :=
 oY (vm c.calm) (CG (f:=fun i j=>if j>i then j else i)) hm boot_max (cR (h.imp fun x h1=>cR (h1.imp fun y ⟨i,j,e1,e2,hR⟩=>i6 ⟨i,j,by rw [e1,e2],hR⟩) he2) he) hg (by decide) (by decide) he hpl
theorem DY (h:EvE c a ρ fun x=>EvE c b ρ fun y=>I2 (fun i j=>Sd (xK i j) (R (.int (i * 2 ^ j.toNat)))) x y):EvE c (.BinOp a .LShift b pos) ρ R :=
 gv (ng EK lR (h.imp fun x hx=>hx.imp fun y ⟨i,j,e1,e2,⟨hc,r⟩⟩=>⟨i,j,e1,e2,hc,_,rfl,r⟩))
theorem DZ (h:EvE c a ρ fun x=>EvE c b ρ fun y=>I2 (fun i j=>Sd (0≤j) (R (.int (i / 2 ^ j.toNat)))) x y):EvE c (.BinOp a .RShift b pos) ρ R :=
 gv (ng EL lR (h.imp fun x hx=>hx.imp fun y ⟨i,j,e1,e2,⟨hc,r⟩⟩=>⟨i,j,e1,e2,hc,_,rfl,r⟩))
theorem zF (h:EvE c a ρ fun x=>EvE c b ρ fun y=>I2 (fun i j=>R (.int (Builtin.bitAnd i j))) x y):EvE c (.BinOp a .BitAnd b pos) ρ R :=
 gv (ng EM yf (h.imp fun x hx=>hx.imp fun y ⟨i,j,e1,e2,r⟩=>⟨i,j,e1,e2,_,rfl,r⟩))
end
noncomputable abbrev FnM:=List (Key×D)→List D→(List (Key×D)→Prop)→Prop
noncomputable def spM (K:GW) (F:FnM):Sp:=fun vs H Q _=>∃ Hf p kvs xs us ds B,vs=.ref p::us∧aG Hf H∧H p=some (.dK xs)∧Hf p=none∧KVR K Hf kvs xs∧aj K Hf ds us∧F kvs ds B ∧
 ∀ kvs' H' Hf' xs',B kvs'→Grw (del H p) Hf H' Hf'→H' p=some (.dK xs')→Hf' p=none→KVR K Hf' kvs' xs'→Q .non H'
structure vW (P:Program) (w:World) (K:GW) (mg:Str→Option Value) (base:Heap) (k:Nat) (x:Str) (F:FnM):Prop where
 ex:∃ f fd ps,mg x=some (.ref f)∧Jb K (.ref f)=true∧Binds K fd ps []∧aX P w K mg base (CXE P w) k f fd ps (spM K F)
noncomputable def startM (q:Addr) (kvs:List (Key×D)) (N:List Str) (ds:List D):List Sl:=.aK q kvs::(ds.map .va++Hh (N.length - (ds.length+1)) .un)
theorem vX {K:GW} {H Hf:Hp} {N:List Str} {us:List V} {ds:List D} {q:Addr} {kvs:List (Key×D)} {xs:List (Key×V)} (r:aj K Hf ds us) (sb:aG Hf H) (h1:H q=some (.dK xs)) (h2:Hf q=none) (h3:KVR K Hf kvs xs) :
 StR K (del H q) Hf (L2.start N (.ref q::us)) H Hf (startM q kvs N ds):=by
 have hl:=r.length
 have rest:∀ (i:Nat) (r':Sl),(startM q kvs N ds)[i+1]?=some r'→r'≠.un→∃ d,ds[i]?=some d∧r'=.va d:=fun i r' h hu=>by
  have h':(ds.map Sl.va++Hh (N.length - (ds.length+1)) Sl.un)[i]?=some r':=by simpa [startM] using h
  by_cases w:i<ds.length
  ·rw [Jv (by simpa using w),G9,HD w] at h'
   cases h'
   exact ⟨_,by simp,rfl⟩
  ·rw [Ke (by simp; omega)] at h'
   exact absurd (Lg (IU h')) hu
 refine ⟨⟨fun b o e=>(gB e).2,.refl _,sb,fun _ h _ _=>h⟩,by simp [L2.start,startM,hl],fun i r' h hu=>?_,fun i j r1 r2 p hne e1 e2 o1 o2=>?_⟩
 ·cases i with
  | zero =>
   have:r'=.aK q kvs:=by simpa [startM] using h.symm
   subst this
   exact ⟨.ref q,by simp [L2.start],q,xs,rfl,⟨gz,rfl⟩,h1,h2,h3⟩
  | succ i =>
   obtain ⟨d,hd,rfl⟩:=rest i r' h hu
   obtain ⟨x,e2,rx⟩:=r.get hd
   refine ⟨x,?_,rx⟩
   have hi:i<us.length:=(G8.mp e2).1
   unfold L2.start
   rw [Jv (by simp; omega)]
   simp [e2]
 ·exfalso
  have own:∀ {i:Nat} {r:Sl},(startM q kvs N ds)[i]?=some r→r.owned=true→i=0:=fun {i r} h ho=>by
   cases i with
   | zero=>rfl
   | succ i =>
    obtain ⟨d,_,rfl⟩:=rest i r h (by rintro rfl; cases ho)
    cases ho
  exact hne ((own e1 o1).trans (own e2 o2).symm)
section
variable {P:Program} {w:World} {K:GW} {mg:Str→Option Value} {base:Heap} {k:Nat} {N:List Str} {sc:Scope} {bk:Bool} {c:Ctx P w K mg base k N sc bk} {ρ:List Sl} {pos cp px py:Pos} {es:List Expr} {nx:List Sl→Prop} {p:Pt} {x y:Str} {i:Nat}
theorem fn_m {qual:Str} {st:Stmt} {f:Addr} {fd:FuncData} {ps:List Str} {F:FnM} (Fu:Fun K x qual st f fd) (Sc:aE N ps (aa st)) (Vi:∀ x∈N,Loc (aa st) x) (ar:∀ kvs ds B,F kvs ds B→ds.length+1=ps.length)
 (body:∀ (c:Ctx P w K mg base k N (aa st) false),c.X.xe=(fun _ _=>False)→∀ q kvs ds B,F kvs ds B→aW c (ay st) (startM q kvs N ds) (fun ρ=>∃ kvs' r,B kvs'∧ρ=.aK q kvs'::r) { rt:=fun _=>False }) :
 aX P w K mg base (CXE P w) (k+1) f fd ps (spM K F):=by
 obtain ⟨oc,od,kV,doc,pm,an,cdv,ct,osl,rfl,lk,hcd⟩:=Fu.ex
 refine xO lk hcd Sc (fun vs H Q E ⟨Hf,q,kvs,xs,us,ds,B,e,_,_,_,_,rs,hF,_⟩=>by rw [e,HV,← rs.length]; exact ar _ _ _ hF) fun A outer s H vs Q E hr ⟨Hf,q,kvs,xs,us,ds,B,e,sb,h1,h2,h3,rs,hF,hq⟩=>?_
 subst e
 let X:Cx:=(oG (CXE P w) P w K mg base N qual (aa st) f cdv A outer s H E).nox
 let c:Ctx P w K mg base k N (aa st) false :=
  { X:=X,eP:=rfl,ew:=rfl,eK:=rfl,emg:=rfl,eb:=rfl,eN:=rfl,esc:=rfl,calm:=rfl,top:=fun _=>⟨rfl,rfl,rfl⟩,cb:=fun _ _ _ _ _ I x c h=>I.ok.cab x c rfl h,fn:=fun _ _=>.inl rfl,B:=del H q,room:=hr,nd:=Sc.nd,vis:=Vi,Hf:=Hf,RX:=fun _ _=>False,
    exc:=fun _ _ _ _ _ _ _ _ _ _ _ _ h _ _=>h.elim,RM:=fun _ _=>False,mde:=fun _ _ _ _ _ _ _ _ _ _ _ _ h _=>h.elim }
 refine ⟨_,PSs.nox (t:=bSs X (ay st)) (oW (X:=X)),?_⟩
 refine body c rfl q kvs ds B hF (L2.start N (.ref q::us)) H Hf _ (vX rs sb h1 h2 h3) ⟨fun σ H' Hf' ρ S ⟨kvs',r,hB,e⟩=>?_,fun r v H' Hf' g rv e=>e.elim,fun _ _ _ _ _ h=>h.elim,fun _ _ _ _ _ h=>h.elim⟩
 subst e
 obtain ⟨v,_,q',xs',_,⟨_,rfl⟩,a1,a2,a3⟩:=S.at_ 0 _ rfl (by simp)
 exact hq kvs' H' Hf' xs' hB S.bas a1 a2 a3
theorem uG {F:FnM} {j:Nat} {r:Sl} {kvs:List (Key×D)} (h:vW P w K mg base j x F) (hj:j≤k) (hN:At N i y) (hi:At ρ i r) (hr:r.qZ=some kvs)
 (ha:EvA c es ρ fun ds=>∃ B,F kvs ds B∧∀ kvs',B kvs'→Nx ρ i nx (r.pA kvs'))
 (hg:sc.names.lookup x=some .globalImplicit:=by walk_at "u") (hdb:(x == ("__debug__":Str))=false:=by decide) (hd:(y == ("__debug__":Str))=false:=by decide) (hcd:(y == ("__classdict__":Str))=false:=by decide)
 (he:∀ env,starEach (.Name y py::es) env=(false,eval (.Name y py) env)::starEach es env:=by intro _; walk_at "u")
 (hpl:∀ env,(backTo cp (starEach es env)).any (·.1)=false:=by intro _; walk_at "u")
 (hs:∀ env,swapsWith (.Call (.Name x px) (.Name y py::es) [] cp) none pos.line env=pure false:=by intro _; walk_at "u"):EvS c (.Expr (.Call (.Name x px) (.Name y py::es) [] cp) pos) ρ nx p:=fun σ H Hf D S o=>by
 obtain ⟨q,eq,rq⟩:=S.own hi.get (jW hr)
 obtain ⟨xs,h1,h2,h3⟩:=vF hr rq
 refine c7 (jw pbE (hs _)) (show bE c.X _ σ H (fun _ H'=>D.nx σ H') from fun pins s I=>?_)
 obtain ⟨f,fd,ps,hm,hk,hb,hF⟩:=h.ex
 refine I0 (gp I (by unfold Gl HH; rw [c.esc]; exact hg) (by rw [c.emg]; exact hm) ?_ hdb)
 have hA:bA c.X (.Name y py::es) σ H (fun vs H1=>∃ us Hf1 ds B,vs=.ref q::us∧F kvs ds B∧(∀ kvs',B kvs'→Nx ρ i nx (r.pA kvs'))∧aj c.X.K Hf1 ds us∧Grw H Hf H1 Hf1) :=
  lQ (br (c.jU hN hd hcd) pbA (he _)) ⟨_,eq,ha σ H Hf _ S fun ds vs H1 Hf1 ⟨B,hF,hn⟩ rs g=>⟨vs,Hf1,ds,B,rfl,hF,hn,rs,g⟩⟩
 refine Lr (h₀:=c.X.base) I.ok.mod.kin (by rw [c.eK]; exact hk) (thn (hA cp pins s I) fun us s1 ⟨vs,H1,I1,rv,us',Hf1,ds,B,ev,hF',hn,rs,g⟩=>⟨I1.kIn,?_⟩) (he _) (hpl _)
 subst ev
 have S1:=S.grw g
 have rq1:=rq.grw g
 obtain ⟨xs1,a1,a2,a3⟩:=vF hr rq1
 have hF2:aX c.X.prog c.X.w c.X.K c.X.mg c.X.base (CXE c.X.prog c.X.w) k f fd ps (spM c.X.K F):=by rw [c.eP,c.ew,c.eK,c.emg,c.eb]; exact hF.mono hj
 have hsp:spM c.X.K F (.ref q::us') H1 (fun _ H'=>D.nx σ H') (fun _ _ _=>False):=by
  refine ⟨Hf1,q,kvs,xs1,us',ds,B,rfl,g.b,a1,a2,a3,rs,hF',fun kvs' H' Hf' xs' hB g2 b1 b2 b3=>?_⟩
  obtain ⟨ρ',hs',hn⟩:=hn kvs' hB
  refine o.nx σ H' Hf' ρ' ?_ hn
  rw [hs'.eq]
  exact S1.upd hi.get (jW hr) eq g2 (pB hr rq1 b1 b2 b3) (jX hr)
 have hl:us.length=ps.length:=by rw [← rv.length]; exact hF2.len _ _ _ _ hsp
 have hb':Binds c.X.K fd ps []:=by rw [c.eK]; exact hb
 have hb2:=hb' s1 us I1.kIn (by simpa using hl)
 rw [Io] at hb2
 refine KC (Kx (hF2.run c.X.A c.X.stack s1 H1 ⟨us,[]⟩ us _ _ _ c.room I1.By hb2 rv hsp) fun r' s' hq=>?_)
 cases r' with
 | error e =>
  obtain ⟨a,C,H',rfl,hE,h⟩:=hq
  exact h.elim
 | ok fl =>
  cases fl with
  | ret u=>exact I1.after hq
  | next=>exact Ih hq
  | brk=>exact Ih hq
  | cont=>exact Ih hq
end
theorem aj.many {K:GW} {H:Hp} {ds:List D} {xs:List V} (h:aj K H ds xs):∀ k:Nat,aj K H (Hh k ds).flatten (Hh k xs).flatten
 | 0=>aq.mpr rfl
 | k+1=>by
  rw [Jh,Jh,JW,JW]
  exact h.append (aj.many h k)
theorem aj.set {K:GW} {H:Hp}:∀ {ds:List D} {xs:List V} (i:Nat) {d:D} {v:V},aj K H ds xs→Rep K H d v→aj K H (ds.set i d) (xs.set i v)
 | [],_,i,_,_,h,_=>by rw [aq] at h; subst h; exact aq.mpr rfl
 | e::ds,_,i,d,v,h,q=>by
  obtain ⟨x,r,rfl,h1,h2⟩:=aB.mp h
  cases i with
  | zero=>exact .cons q h2
  | succ i=>exact .cons h1 (aj.set i h2 q)
theorem zG {prog:Program} {w:World} {A:Around} {E:Value→Shared→Prop} {s:Shared} {l:Addr} {items:Array Value} {n k:Nat} {i:Int} {t:Tok} {v:Value} {Q:Unit→Shared→Prop} (hi:i=k) (e:s.heap.get? l=some { cls:=.type "list",data:=.seq items n }) (hk:k<items.size) (hf:items.size<2 ^ 63)
 (hQ:Q () { s with heap:=s.heap.update l (HG fun xs=>xs.setIfInBounds k v) }):wpAny (model prog w) A (setItem (.ref l) (.int i t) v) Q E s:=by
 have ht:s.TypeIs (.ref l) "list":=⟨_,e,rfl⟩
 have hx:items[k]?=some items[k]:=Hz hk
 unfold setItem
 refine IF (GU (MJ ht (by decide) ?_))
 refine GU (Jf (name:=GV "__setitem__") ht PySem.slot_list_setitem (IJ PySem.slot_list_setitem ht PySem.entry_list_setitem ?_ (PySem.args_list_setitem _ _ _)))
 show wpAny _ _ (Builtin.List.listSubscript? (.int i t) >>= _) _ _ s
 refine GU (wpAny_listSubscript_int (fitsIndex_of (show 0≤i by omega) (show i<2 ^ 63 by omega)) ?_)
 clear hf
 subst hi
 show wpAny _ _ ((seqItemAt l k >>= fun r=>pure (r.map fun x=>(k,x))) >>= _) _ _ s
 refine GU (GU (wpAny_seqItemAt e rfl (GX ?_)))
 rw [hx]
 show wpAny _ _ (setSeqItemAt l k v >>= _) _ _ s
 refine GU (wpAny_setSeqItemAt e rfl ?_)
 first
  | exact GU (GX (GX ⟨Ik,rfl,GX hQ⟩))
  | exact GX ⟨Ik,rfl,GX hQ⟩
noncomputable def rLPut:Bp:=fun o i v H Q=>∃ l xs k,o=.ref l∧i=.int (k:Nat)∧H l=some (.lst xs)∧k<xs.length∧Q (upd H l (.lst (xs.set k v)))
theorem zH {X:Cx}:PSet X rLPut:=by
 intro pins s σ H o i v ov iv u Q I r1 r2 r3 h
 obtain ⟨l,xs,k,rfl,rfl,hH,hk,q⟩:=h
 cases r1
 obtain ⟨t,rfl⟩:=r2
 obtain ⟨z,its,n,r,hl,e⟩:=I.oJ hH
 have hbig:xs.length<2 ^ 63:=Jz z (by decide)
 refine zG rfl e (by rw [Hq,← hl]; exact hk) (by rw [Hq,← hl]; exact hbig) ⟨_,I.qV (its':=its.set k u) (t':=s.toks) hH e ?_ (Vals.set r3 k r) (by rw [List.length_set]; exact z),q⟩
 show its.toArray.setIfInBounds k u=(its.set k u).toArray
 simp
theorem CH {X:Cx}:MtR X "int.bit_length" (fun x vs H Q=>∃ i,x=.int i∧vs=[]∧Q (.int (IE i:Nat)) H):=by
 intro pins s σ H x xs v us Q I r1 r2 h
 obtain ⟨i,rfl,rfl,q⟩:=h
 obtain ⟨t,rfl⟩:=r1
 cases r2
 exact PyProof.Rows.call_int_bit_length ⟨.int (IE i:Nat),H,I.tok _,⟨_,rfl⟩,q⟩
section
variable {P:Program} {w:World} {K:GW} {mg:Str→Option Value} {base:Heap} {k:Nat} {N:List Str} {sc:Scope} {bk:Bool} {c:Ctx P w K mg base k N sc bk} {ρ:List Sl} {pos tp ap cp px p1:Pos} {a b e:Expr} {R:D→Prop} {x:Str} {i:Nat} {nx:List Sl→Prop} {p:Pt}
theorem FT (h:EvE c e ρ (I1 fun i=>R (.int (IE i:Nat)))) (hbase:∀ env,attributeBase e "bit_length" env (eval e env)=eval e env:=by intro _; walk_at "u") (hline:(ap.endLine == cp.line)=true:=by walk_at "u") :
 EvE c (.Call (.Attribute e "bit_length" ap) [] [] cp) ρ R:=fun σ H Hf Q S q =>
 bu (xV PySem.F.plainAttrs_int PySem.F.slot_int_bit_length PySem.F.type_int_bit_length CH pbE (hbase _) hline) (h σ H Hf _ S fun d v H' Hf' ⟨i,e,hR⟩ r g=>by
  subst e
  rw [au] at r; subst r
  exact ⟨rfl,i,rfl,rfl,q _ _ H' Hf' hR (au.mpr rfl) g⟩)
theorem x_rep {R:Sl→Prop} (h:EvX c a ρ fun r=>∃ ds,r=.ow ds∧EvE c b ρ (I1 fun n=>Sd ((0≤n∧n<2 ^ 63)∧ds.length * n.toNat≤sizeLine) (R (.ow (Hh n.toNat ds).flatten)))):EvX c (.BinOp a .Mult b pos) ρ R:=fun σ H Hf Q S q =>
 bu (xH EW pbE pbE) (h σ H Hf _ S fun r v H1 Hf1 ⟨ds,er,h1⟩ rr g1=>h1 σ H1 Hf1 _ (S.grw g1) fun dn u H2 Hf2 ⟨n,en,⟨⟨n0,n1⟩,hz⟩,hR⟩ rn g2=>by
  subst er en
  rw [au] at rn; subst rn
  obtain ⟨l,xs,rfl,fl,k1,k2,k3⟩:=rr
  have k1':=g2.s _ _ k1
  refine ⟨l,n,xs,rfl,rfl,k1',by omega,n1,by rw [← k3.length]; exact hz,fun p hp=>?_⟩
  have g3:=Grw.eG (o:=.lst (Hh n.toNat xs).flatten) g2.b hp
  exact q _ _ _ _ hR ⟨p,_,rfl,(g1.trans g2).s.free hp,ah,g2.b.free hp,(k3.mono g2.f).many _⟩ ((g1.trans g2).trans g3))
theorem FU {r:Sl} {ds:List D} (hN:At N i x) (hi:At ρ i r) (hr:r.getL=some ds) (h:EvE c e ρ fun dv=>EvE c b ρ fun dk=>∃ m:Nat,dk=.int m∧Sd (m<ds.length) (Nx ρ i nx (r.putL (ds.set m dv))))
 (hs:∀ env,swapsWithSole [.Subscript (.Name x px) b tp] e pos.line env=pure false:=by intro _; walk_at "u") (hw:∀ env,swappedStores [.Subscript (.Name x px) b tp] e env=pure none:=by intro _; walk_at "u")
 (h1:∀ env,(assignEach [.Subscript (.Name x px) b tp] env).map (·.2)=[assign (.Subscript (.Name x px) b tp) env]:=by intro _; walk_at "u")
 (ha:∀ env v,assign (.Subscript (.Name x px) b tp) env v=(do
   let ov ← holding [v] (eval (.Name x px) env)
   let iv ← holding [v,ov] (eval b env)
   standAt tp
   holding [v,ov,iv] (setItem ov iv v)
   release [v,ov,iv] []):=by intro _ _; walk_at "u")
 (hd:(x == ("__debug__":Str))=false:=by decide) (hcd:(x == ("__classdict__":Str))=false:=by decide):EvS c (.Assign [.Subscript (.Name x px) b tp] e pos) ρ nx p:=fun σ H Hf D S o=>by
 obtain ⟨q,eq,rq⟩:=S.own hi.get (cC hr)
 refine c7 (EB pbE (EA (c.jU hN hd hcd) pbE zH (ha _)) (hs _) (hw _) (h1 _)) (h σ H Hf _ S fun dv v H1 Hf1 h2 rv g1=>⟨_,eq,h2 σ H1 Hf1 _ (S.grw g1) fun dk y H2 Hf2 ⟨m,em,hm,ρ',hs',hn⟩ ry g2=>?_⟩)
 subst em
 rw [au] at ry; subst ry
 have g:=g1.trans g2
 obtain ⟨xs,k1,k2,k3⟩:=repL hr (rq.grw g)
 refine ⟨q,xs,m,rfl,rfl,k1,by rw [← k3.length]; exact hm,o.nx _ _ Hf2 ρ' ?_ hn⟩
 rw [hs'.eq]
 exact (S.grw g).upd hi.get (cC hr) eq (fD g.b k2) (jV hr (rq.grw g) ah k2 (k3.set m (Rep.mono g2.f _ rv))) (fP hr)
end
theorem fV {K:GW} {H:Hp}:∀ {ns:List Int} {xs:List V},aj K H (ns.map D.int) xs→xs=ns.map V.int
 | [],xs,h=>by rw [Jc,aq] at h; subst h; rfl
 | b::bs,xs,h=>by
  rw [G3,aB] at h
  obtain ⟨x,r,rfl,h1,h2⟩:=h
  rw [au] at h1
  rw [h1,fV h2]; rfl
theorem eY {ns:List Int} {us:List Value} (h:Vals (ns.map V.int) us) (i:Nat) (v:Value) (e:us.toArray[i]?=some v):∃ t,v=.int (ns.getD i 0) t:=by
 have e':us[i]?=some v:=by simpa using e
 have hi:i<ns.length:=by
  have:=(G8.mp e').1
  have l:=h.length
  rw [G4] at l
  omega
 obtain ⟨u,hu,r⟩:=h.get (i:=i) (x:=.int (ns.getD i 0)) (by simp [Ir,hi])
 rw [e'] at hu; cases hu
 exact r
theorem kB {X:Cx} {pins:List (Addr×Obj)} {σ:L2.St} {H:Hp} {s:Shared} {p:Addr} {xs:List V} (I:Inv X pins σ H s) (hq:SqL X.K H p xs) :
 ∃ its:List Value,Vals xs its∧s.heap.IsList p its.toArray∧p<s.heap.objs.size:=by
 obtain ⟨its,rv,pl,hz⟩:=I.list hq
 exact ⟨its,rv,pl.isList,by obtain ⟨o,e,_⟩:=pl.isList; exact G2 e⟩
theorem mF {X:Cx} {pins:List (Addr×Obj)} {σ:L2.St} {H:Hp} {s:Shared} {ob:Obj} {h':Heap} {tk:Nat} (I:Inv X pins σ H s) (hk:∀ b o,b∉[s.heap.objs.size]→(s.heap.push ob).get? b=some o→h'.get? b=some o):Inv X pins σ H { s with heap:=h',toks:=tk } :=
 I.kept (h':=h') (t':=tk) fun b u e=>hk b u (by simpa using Hs (G2 e)) (G1 _ e)
theorem vY {X:Cx} (hc:X.calm=true):eE X (.builtin "max") (fun xs H Q=>∃ (p:Addr) (ns:List Int),xs=[.ref p]∧ns≠[]∧SqL X.K H p (ns.map V.int)∧∀ m∈ns,(∀ n∈ns,n≤m)→Q (.int m) H):=by
 intro pins s σ H xs us Q I r h
 obtain ⟨p,ns,rfl,hne,hq,q⟩:=h
 obtain ⟨u,rfl,rx⟩:=vals1 r
 cases rx
 obtain ⟨its,rv,pl,hlt⟩:=kB I hq
 have hn:its.toArray.size=ns.length:=by have l:=rv.length; rw [G4] at l; simp [l]
 have hpos:0<ns.length:=List.length_pos_iff.mpr hne
 refine call_max_walk (Lx pl ?_)
 have hh:X.A.in1.handled=none:=I.ok.hd hc
 refine ⟨_,_,_,_,_,_,_,rfl,Walks.list hh s.heap.objs.size p (Hs hlt) its.toArray,⟨⟨_,G7 _ rfl,rfl,rfl⟩,pl.at fun o e=>G1 _ e⟩,?_,by rw [hn]; exact hpos,CmpOf.ints_gt (fun i=>ns.getD i 0) (eY rv),?_⟩
 ·intro b hb
  show b<(s.heap.push _).objs.size
  rw [IY]
  simp only [G5,HM,or_false] at hb
  rcases hb with rfl | rfl
  ·exact Ks _
  ·exact MQ hlt
 ·intro v h' tk hP hk
  obtain ⟨t,rfl⟩:=eY rv _ _ hP
  obtain ⟨b1,b2⟩:=argBest_gt (fun i=>ns.getD i 0) (its.toArray.size - 1)
  rw [hn] at b1 b2 ⊢
  have J:=mF (s:=s) (tk:=tk) I hk
  refine ⟨.int _,H,J,⟨_,rfl⟩,q _ ?_ fun n hm=>?_⟩
  ·rw [Ir,HD (by omega)]
   exact HW _
  ·obtain ⟨j,hj,rfl⟩:=List.getElem_of_mem hm
   have:=b2 j (by omega)
   rw [show ns.getD j 0=ns[j] by simp [Ir,hj]] at this
   exact this
theorem uH (ns:List Int):∀ j,j≤ns.length→preSum (fun i=>ns.getD i 0) j=(ns.take j).sum
 | 0,_=>rfl
 | j+1,h=>by
  show preSum (fun i=>ns.getD i 0) j+ns.getD j 0=_
  rw [uH ns j (by omega),ID (by omega),Ku]
  simp [Ir,show j<ns.length by omega]
theorem vZ {X:Cx} (hc:X.calm=true):eE X (.builtin "sum") (fun xs H Q=>∃ (p:Addr) (ns:List Int),xs=[.ref p]∧SqL X.K H p (ns.map V.int)∧Q (.int ns.sum) H):=by
 intro pins s σ H xs us Q I r h
 obtain ⟨p,ns,rfl,hq,q⟩:=h
 obtain ⟨u,rfl,rx⟩:=vals1 r
 cases rx
 obtain ⟨its,rv,pl,hlt⟩:=kB I hq
 have hn:its.toArray.size=ns.length:=by have l:=rv.length; rw [G4] at l; simp [l]
 refine call_sum_walkG (Lx pl ?_)
 have hh:X.A.in1.handled=none:=I.ok.hd hc
 refine ⟨_,_,_,_,_,_,fun i=>ns.getD i 0,rfl,Walks.list hh s.heap.objs.size p (Hs hlt) its.toArray,⟨⟨_,G7 _ rfl,rfl,rfl⟩,pl.at fun o e=>G1 _ e⟩,?_,eY rv,?_⟩
 ·intro b hb
  show b<(s.heap.push _).objs.size
  rw [IY]
  simp only [G5,HM,or_false] at hb
  rcases hb with rfl | rfl
  ·exact Ks _
  ·exact MQ hlt
 ·intro h' tk t' hk
  rw [hn,uH ns _ (GZ _),IC]
  have J:=mF (s:=s) (tk:=tk) I hk
  exact ⟨.int ns.sum,H,J,⟨_,rfl⟩,q⟩
section
variable {P:Program} {w:World} {K:GW} {mg:Str→Option Value} {base:Heap} {k:Nat} {N:List Str} {sc:Scope} {bk:Bool} {c:Ctx P w K mg base k N sc bk} {ρ:List Sl} {pos p:Pos} {e:Expr} {R:D→Prop}
theorem boot_sum:bootBuiltins "sum"=some (.builtin "sum"):=by decide +kernel
theorem v5 {K:GW} {Z:List Int→Int→Prop} {r:List V→Hp→VK→Prop} (hr:∀ (p:Addr) (ns:List Int) H Q,SqL K H p (ns.map V.int)→(∀ m,Z ns m→Q (.int m) H)→ns≠[]→r [.ref p] H Q) :
 ym K r (fun ds R=>∃ ns:List Int,ns≠[]∧ds=[.lst (ns.map D.int)]∧∀ m,Z ns m→R (.int m)):=by
 rintro ds vs H Hf Q R s rs ⟨ns,hne,rfl,hR⟩ q
 obtain ⟨v,rfl,rv⟩:=lS rs
 rw [aH] at rv
 obtain ⟨a,xs,rfl,h1,h2⟩:=rv
 rw [fV h2] at h1
 exact hr a ns H Q (s.seq h1) (fun m hm=>q _ _ H Hf (hR m hm) (au.mpr rfl) (.refl s)) hne
theorem FW (hm:mg "max"=none) (h:EvE c e ρ fun x=>∃ ns:List Int,ns≠[]∧x=.lst (ns.map D.int)∧∀ m,(m∈ns∧∀ n∈ns,n≤m)→R (.int m)) (hg:sc.names.lookup (GV "max")=some .globalImplicit:=by walk_at "u")
 (he:∀ env,starEach [e] env=(false,eval e env)::starEach [] env:=by intro _; walk_at "u"):EvE c (.Call (.Name "max" p) [e] [] pos) ρ R :=
 oY (vY c.calm) (v5 (Z:=fun ns m=>m∈ns∧∀ n∈ns,n≤m) fun p ns H Q h q hne=>⟨p,ns,rfl,hne,h,fun m h1 h2=>q m ⟨h1,h2⟩⟩) hm boot_max
  (cR (h.imp fun d ⟨ns,hne,e,hR⟩=>i6 ⟨ns,hne,by rw [e],hR⟩) he) hg (by decide) (by decide) he (by intro _; walk_at "u")
theorem FY (hm:mg "sum"=none) (h:EvE c e ρ fun x=>∃ ns:List Int,x=.lst (ns.map D.int)∧R (.int ns.sum)) (hg:sc.names.lookup (GV "sum")=some .globalImplicit:=by walk_at "u")
 (he:∀ env,starEach [e] env=(false,eval e env)::starEach [] env:=by intro _; walk_at "u"):EvE c (.Call (.Name "sum" p) [e] [] pos) ρ R :=
 oY (vZ c.calm) (q:=fun ds R=>∃ ns:List Int,ds=[.lst (ns.map D.int)]∧R (.int ns.sum)) (by
  rintro ds vs H Hf Q R s rs ⟨ns,rfl,hR⟩ q
  obtain ⟨v,rfl,rv⟩:=lS rs
  rw [aH] at rv
  obtain ⟨a,xs,rfl,h1,h2⟩:=rv
  rw [fV h2] at h1
  exact ⟨a,ns,rfl,s.seq h1,q _ _ H Hf hR (au.mpr rfl) (.refl s)⟩) hm boot_sum (cR (h.imp fun d ⟨ns,e,hR⟩=>i6 ⟨ns,by rw [e],hR⟩) he) hg (by decide) (by decide) he (by intro _; walk_at "u")
end
section
variable {prog:Program} {w:World} {A:Around} {E:Value→Shared→Prop} {s:Shared}
variable {jt tp:Addr} {i:Nat} {items:Array Value}
theorem nextT {Q:Value→Shared→Prop} (hh:A.handled=none) (h1:s.heap.IsTupleIter jt tp i) (h2:s.heap.IsTuple tp items)
 (hv:∀ v,items[i]?=some v→∀ h',h'.IsTupleIter jt tp (i+1)→Jj jt s.heap h'→Q v { s with heap:=h' })
 (hn:items[i]?=none→∀ h' e,J8 jt s.heap h'→(∃ o,h'.get? e=some o∧o.cls=.type "StopIteration")→E (.ref e) { s with heap:=h' }) :
 wpAny (model prog w) A (Je (.ref jt)) Q E s:=by
 obtain ⟨ob,hob,hcb,hdb⟩:=id h1
 obtain ⟨ot,hot,_,m,hdt⟩:=id h2
 unfold Je
 refine GU (Jf (name:=GV "__next__") h1.typeIs F.slot_tuple_iterator_next (IJ F.slot_tuple_iterator_next h1.typeIs F.entry_tuple_iterator_next ?_ (F.args_tuple_iterator_next_1 _)))
 show wpAny _ _ (field (.ref jt) 0 >>= _) _ _ s
 refine GU (HR hob hdb (x:=.ref tp) rfl ?_)
 show wpAny _ _ (if (Hr tp == Ik)=true then _ else _) _ _ s
 rw [if_neg (show ¬ ((Hr tp == Ik)=true) from G6)]
 show wpAny _ _ (field (.ref jt) 1 >>= _) _ _ s
 refine GU (HR hob hdb (x:=.int i 0) rfl ?_)
 show wpAny _ _ (seqItems? (.ref tp) >>= _) _ _ s
 refine GU (Jl hot hdt ?_)
 rw [Ij]
 dsimp only
 cases hx:items[i]? with
 | some v =>
  have q:=hv v hx (s.heap.update jt (Obj.mapFields fun vs=>vs.setIfInBounds 1 (rawInt ((i:Int)+1)))) ⟨_,Heap.get?_update_self _ hob (Obj.isFreed_of_fields (Lu hdb _)),(Obj.cls_mapFields ..).trans hcb,by rw [Lu hdb]; simp [rawInt]⟩ (Ko ..)
  dsimp only
  exact GU (KY hob hdb (by simp) (GX ⟨v,rfl,GX q⟩))
 | none =>
  dsimp only
  refine GU (Iq (GU (KY hob hdb (by simp) (show wpAny _ _ (newExc (.type "StopIteration") [] >>= _) _ _ _ from GU ?_))))
  simp only [newExc,newTuple]
  refine GU (Iw (GU (m:=firstArgMember _ _) (wpAny_of_eq (a:=Ik) (by first | rfl | (simp only [firstArgMember]; rfl)) (Iw ?_ (by size_fits)))) (by size_fits))
  simp only [raiseNew]
  refine GU (wpAny_handled ?_)
  rw [show A.in1.handled=none from hh]
  exact GU (GX (wpAny_throw (hn hx _ _ (((Ko ..).extBut.push _).push _) ⟨_,G7 _ rfl,rfl⟩)))
theorem FZ (hh:A.handled=none) (jt tp:Addr) (hne:tp≠jt) (items:Array Value) :
 Draws prog w A jt [jt,tp] items.size (fun i v=>items[i]?=some v) (fun i h=>h.IsTupleIter jt tp i∧h.IsTuple tp items) where
 live:=fun _ _ ⟨⟨o,ho,_⟩,_⟩=>⟨o,ho⟩
 frame:=fun _ _ _ ⟨⟨o,e,r⟩,⟨o',e',r'⟩⟩ hk=>⟨⟨o,hk jt (by simp) o e,r⟩,o',hk tp (by simp) o' e',r'⟩
 item:=fun i s Q E hi ⟨s1,s2⟩ q=>nextT hh s1 s2 (fun v hv h' a b=>q v h' s.toks hv ⟨a,s2.extBut b.extBut hne⟩ b) fun hx=>by
  rw [Hz hi] at hx; cases hx
 done:=fun s Q E ⟨s1,s2⟩ q=>nextT hh s1 s2 (fun v hv=>by simp at hv) fun _=>q
end
set_option maxHeartbeats 1000000 in
theorem qf (tp:Addr) (items:Array Value) (n:Nat) (dc:Option Addr) (sl:Array (Option Value)) :
 Meets (Builtin.«enumerate.__new__» ⟨[.type "enumerate",.ref tp],[]⟩) (fun _ R s=>s.heap.get? tp=some { cls:=.type "tuple",dict:=dc,data:=.seq items n,slots:=sl } ∧
  R (.ok (.ret (.ref (s.heap.push { cls:=.type "tuple_iterator",data:=.fields #[.ref tp,.int 0 0] }).objs.size)))
   { s with heap:=(s.heap.push { cls:=.type "tuple_iterator",data:=.fields #[.ref tp,.int 0 0] }).push { cls:=.type "enumerate",data:=.fields #[.none,.bool false,.ref s.heap.objs.size,rawInt 0,.none,.none] } }) :=
 .of_wp fun prog w A R ⟨hp,g,d,tk,os⟩ ⟨hl,h⟩=>by
  have hz:=sub_enumerate
  have hT:Heap.IsTuple (Shared.heap ⟨hp,g,d,tk,os⟩) tp items:=⟨_,hl,rfl,n,rfl⟩
  wp_walk using Li hl
  refine wpAny_stack_any fun st=>GX ?_
  split
  ·rename_i k _ _ _ _ _
   cases (k == Iz "enumerate") <;> (wp_walk using Li hl,MG hT; exact ⟨_,rfl,h⟩)
  ·wp_walk using Li hl,MG hT; exact ⟨_,rfl,h⟩
section
variable {prog:Program} {w:World} {A:Around} {E:Value→Shared→Prop} {s:Shared}
theorem rH {tp:Addr} {items:Array Value} {Q:Value→Shared→Prop} (hT:s.heap.IsTuple tp items)
 (h:∀ h',IsEnum h' (s.heap.objs.size+1) s.heap.objs.size 0 .none→h'.IsTupleIter s.heap.objs.size tp 0→(∀ b o,s.heap.get? b=some o→h'.get? b=some o)→Q (.ref (s.heap.objs.size+1)) { s with heap:=h' }) :
 wpAny (model prog w) A (call (.type "enumerate") [.ref tp]) Q E s:=by
 obtain ⟨⟨c,dc,dt,sl⟩,hl,hc,n,hd⟩:=hT
 obtain rfl:c=.type "tuple":=hc
 obtain rfl:dt=.seq items n:=hd
 refine callType_new F.called_enumerate (by decide) (F.typeCall_enumerate_1 _) (F.newCall_enumerate_1 _) (fun ob=>F.args_object_init_2 ob _) F.entry_enumerate_new (qf tp items n dc sl) ⟨hl,?_⟩
 generalize e1:s.heap.push { cls:=.type "tuple_iterator",data:=.fields #[.ref tp,.int 0 0] }=g1
 have hz:g1.objs.size=s.heap.objs.size+1:=by rw [← e1]; exact IY ..
 have hi:g1.get? s.heap.objs.size=some { cls:=.type "tuple_iterator",data:=.fields #[.ref tp,.int 0 0] }:=by rw [← e1]; exact G7 _ rfl
 have hb:∀ b o,s.heap.get? b=some o→g1.get? b=some o:=fun b o q=>by rw [← e1]; exact G1 _ q
 have he:IsEnum (g1.push { cls:=.type "enumerate",data:=.fields #[.none,.bool false,.ref s.heap.objs.size,rawInt 0,.none,.none] }) g1.objs.size s.heap.objs.size 0 .none:=G7 _ rfl
 rw [hz] at he
 show _∧_
 rw [hz]
 exact ⟨⟨_,he,rfl⟩,h _ he ⟨_,G1 _ hi,rfl,rfl⟩ fun b o q=>G1 _ (hb b o q)⟩
end
noncomputable def kC (ds:List D):List D:=ds.zipIdx.map fun x=>D.tup [.int x.2,x.1]
noncomputable def Ite (K:GW) (t:Addr):It :=
 ⟨fun i H=>∃ xs x,SqT K H t xs∧xs[i]?=some x,
  fun i H v H'=>∃ p x,v=.ref p∧H p=none∧H'=upd H p (.tup [.int (i:Nat),x])∧∀ xs,SqT K H t xs→xs[i]?=some x,
  fun i H=>∃ xs,SqT K H t xs∧xs.length≤i⟩
theorem CI {X:Cx} {pins:List (Addr×Obj)} {σ:L2.St} {H:Hp} {s:Shared} {a:Addr} {xs ys:List V} (I:Inv X pins σ H s) (h1:SqT X.K H a xs) (h2:SqT X.K H a ys):xs=ys:=I.dD h1 h2
theorem zI {prog:Program} {w:World} {A:Around} (hh:A.handled=none) (j t:Addr) (items:Array Value) (i:Nat) (hx:items[i]?=none) :
 Draws prog w A j [j,t] i (fun _ _=>False) (fun k h=>k=i∧h.IsTupleIter j t i∧h.IsTuple t items) where
 live:=fun _ _ ⟨_,⟨o,ho,_⟩,_⟩=>⟨o,ho⟩
 frame:=fun _ _ _ ⟨ek,⟨o,e,r⟩,⟨o',e',r'⟩⟩ hk=>⟨ek,⟨o,hk j (by simp) o e,r⟩,o',hk t (by simp) o' e',r'⟩
 item:=fun k s Q E hi ⟨ek,_⟩ _=>absurd ek (Hs hi)
 done:=fun s Q E ⟨_,s1,s2⟩ q=>nextT hh s1 s2 (fun v hv=>by rw [hx] at hv; cases hv) fun _=>q
theorem v7 {P:Program} {w:World} {K:GW} {elts:List Expr} {k:Nat} {pos:Pos} {e j t:Addr} (hne:e≠j) :
 Turn P w K (.Tuple elts k pos) (Ite K t) [e,j] e (fun i h=>(∃ old,IsEnum h e j i old)∧h.IsTupleIter j t i) where
 mem:=by simp
 obj:=fun i h ⟨⟨old,he⟩,⟨o1,e1,_,d1⟩⟩ b hb=>by
  simp only [G5,HM,or_false] at hb
  rcases hb with rfl | rfl
  ·exact ⟨_,he,fun v q=>by have q':KA _=Jp v:=q; cases q'⟩
  ·exact ⟨_,e1,fun v q=>by rw [d1] at q; cases q⟩
 keep:=fun i h h' ⟨⟨old,he⟩,⟨o1,e1,r1⟩⟩ hk=>⟨⟨old,hk e (by simp) _ he⟩,⟨o1,hk j (by simp) _ e1,r1⟩⟩
 item:=by
  intro X hP hw hK hc i pins s σ H E I hf st hg
  subst hP hw hK
  obtain ⟨⟨old,he⟩,hj⟩:=st
  obtain ⟨xs,x,q1,hx⟩:=hg
  obtain ⟨its,rv,p1,z1⟩:=I.tuple q1
  obtain ⟨u,hu,ru⟩:=rv.get hx
  have pT:s.heap.IsTuple t its.toArray:=by obtain ⟨o,ho,hc',n,hd⟩:=p1; exact ⟨o,ho,hc',n,hd⟩
  have hjt:t≠j:=by
   obtain ⟨o,ho,hc',n,hd⟩:=pT
   obtain ⟨o',ho',hc'',_⟩:=hj
   rintro rfl
   rw [ho] at ho'; cases ho'
   rw [hc'] at hc''; exact absurd hc'' (by simp)
  have het:e≠t:=by
   obtain ⟨o,ho,hc',n,hd⟩:=pT
   rintro rfl
   rw [he] at ho; cases ho
   exact absurd hc' (by simp)
  have hi:i<its.toArray.size:=by
   have:i<its.length:=(G8.mp hu).1
   simpa using this
  have hh:X.A.in1.handled=none:=I.ok.hd hc
  refine wpAny_pyNext_enum_itemD (FZ hh j t hjt its.toArray) he ⟨hj,pT⟩ hi hne (by simp; exact ⟨hne,het⟩) fun x' h' tk hPx a1 a2 a3 a4 hk=>?_
  have ex:x'=u:=by
   have:its[i]?=some x':=by simpa using hPx
   rw [hu] at this; cases this; rfl
  subst ex
  have Hp:H s.heap.objs.size=none:=I.hok.fresh (GZ _)
  have IA:Inv X pins σ (upd H s.heap.objs.size (.tup [.int (i:Nat),x])) { s with heap:=s.heap.push { cls:=.type "tuple",data:=.seq #[.int (i:Nat) tk,x'] },toks:=tk+1 } :=
   I.laid (a:=s.heap.objs.size) (o:=.tup [.int (i:Nat),x]) (fun _ _ q=>G1 _ q) (GZ _) ⟨by show 2≤sizeLine; decide,[.int (i:Nat) tk,x'],.cons ⟨tk,rfl⟩ (.cons ru .nil),_,G7 _ rfl,rfl,0,rfl⟩
  have lt:∀ b∈[e,j],b<s.heap.objs.size:=fun b hb=>by
   obtain ⟨o1,e1,_⟩:=hj
   simp only [G5,HM,or_false] at hb
   rcases hb with rfl | rfl
   ·exact G2 he
   ·exact G2 e1
  have gf:∀ b∈[e,j],dm X pins (upd H s.heap.objs.size (.tup [.int (i:Nat),x])) b:=fun b hb=>⟨by rw [ai (Hs (lt b hb))]; exact (hf b hb).1,(hf b hb).2⟩
  have I1:Inv X pins σ (upd H s.heap.objs.size (.tup [.int (i:Nat),x])) { s with heap:=h',toks:=tk+1 } :=
   cP (s:={ s with heap:=s.heap.push { cls:=.type "tuple",data:=.seq #[.int (i:Nat) tk,x'] },toks:=tk+1 }) (t':=tk+1) (h':=h') (L:=[e,j]) IA (fun b o hb q=>by
    simp only [G5,HM,or_false,not_or] at hb
    by_cases z:b=s.heap.objs.size
    ·subst z
     rw [G7 _ rfl] at q; cases q; exact a3
    ·refine hk b o hb.1 hb.2 ?_
     rw [LC _ _ _ z] at q; exact q) gf
  refine ⟨_,rfl,wpAny_letOwnedTupleGo_enum (s:={ s with heap:=h',toks:=tk+1 }) a1 fun h2' hz' hs'=>?_⟩
  refine ⟨.ref s.heap.objs.size,_,cP (s:={ s with heap:=h',toks:=tk+1 }) (t':=tk+1) (h':=h2') (L:=[e,j]) I1 (fun b o hb q=>hs'.extBut b o (fun z=>hb (by simp [z])) q) gf,rfl,
   ⟨_,x,rfl,Hp,rfl,fun xs' h=>by rw [CI I h q1]; exact hx⟩,⟨⟨x',?_⟩,a2.1.extBut hs'.extBut (Hu hne)⟩,fun b hb=>(gf b hb).1⟩
  have hz2:=hz'
  rw [show ((i:Int)+1)=((i+1:Nat):Int) by omega] at hz2
  exact hz2
 done:=by
  intro X hP hw hK hc i pins s σ H E I hf st hg
  subst hP hw hK
  obtain ⟨⟨old,he⟩,hj⟩:=st
  obtain ⟨xs,q1,hend⟩:=hg
  obtain ⟨its,rv,p1,z1⟩:=I.tuple q1
  have pT:s.heap.IsTuple t its.toArray:=by obtain ⟨o,ho,hc',n,hd⟩:=p1; exact ⟨o,ho,hc',n,hd⟩
  have hl:=rv.length
  have hx:its.toArray[i]?=none:=by simp; omega
  have hh:X.A.in1.handled=none:=I.ok.hd hc
  exact wpAny_pyNext_enum_endD (zI hh j t its.toArray i hx) he ⟨rfl,hj,pT⟩ fun h' hk=>⟨rfl,cP (t':=s.toks) (L:=[e,j]) I (fun b o hb q=>hk b o (fun z=>hb (by simp [z])) q) hf⟩
 self:=fun A i s Q E ⟨⟨old,he⟩,_⟩ h=>wpAny_pyIter_enum he h
theorem v8 {K:GW} {Hf:Hp} {ds:List D} {xs:List V} {t:Addr} (h1:SqT K Hf t xs) (r1:aj K Hf ds xs):gy K (Ite K t) (kC ds) Hf where
 go:=fun i d H Hf1 s1 s2 e=>by
  unfold kC at e
  rw [G9,Hj] at e
  obtain ⟨⟨x,m⟩,ex,rfl⟩:=e
  rw [List.getElem?_zipIdx,Hj] at ex
  obtain ⟨x',ex,ee⟩:=ex
  cases ee
  obtain ⟨v1,f1,g1⟩:=r1.get ex
  have q1:=ak (s1.trans s2) h1
  refine ⟨⟨xs,v1,q1,f1⟩,fun v H' ⟨p,y,e1,e2,e3,e4⟩=>?_⟩
  have z1:=e4 xs q1
  rw [f1] at z1; cases z1
  subst e1 e3
  have g:=Grw.new s2 e2 (o:=.tup [.int (i:Nat),v1])
  rw [JF]
  exact ⟨upd Hf1 p (.tup [.int (i:Nat),v1]),g,aC.mpr ⟨p,_,rfl,.inl (.inl ah),.cons (au.mpr rfl) (.cons (Rep.mono (s1.trans g.f) _ g1) (aq.mpr rfl))⟩⟩
 stop:=fun i H Hf1 s1 s2 e=>⟨xs,ak (s1.trans s2) h1,by
  rw [← r1.length]
  simpa [kC] using e⟩
theorem v9:bootBuiltins "enumerate"=some (.type "enumerate"):=by decide +kernel
noncomputable def iEnum (K:GW) (ta:TA):TI:=fun σ H R=>ta σ H fun vs H1=>∃ t xs,vs=[.ref t]∧SqT K H1 t xs∧R (Ite K t) H1
theorem CJ {X:Cx} {elts:List Expr} {kt:Nat} {tpos:Pos} {a:Expr} {ta:TA} {p pos:Pos} (hg:Gl X "enumerate") (hm:X.mg "enumerate"=none) (ha:PA X [a] ta) (hs:starEach [a] X.env=[(false,eval a X.env)]) :
 PI X (.Tuple elts kt tpos) (.Call (.Name "enumerate" p) [a] [] pos) (iEnum X.K ta):=by
 intro pins s σ H R I h
 refine Call_ (bX I hg hm v9 (JP (thn (ha pos pins s σ H _ I h) fun us s1 ⟨vs,H1,I1,r1,q1⟩=>?_) hs (by rfl)))
 obtain ⟨t,xs,e,q1,q⟩:=q1
 subst e
 obtain ⟨u,rfl,rx⟩:=vals1 r1
 cases rx
 obtain ⟨its,rv,p1,z1⟩:=I1.tuple q1
 have pT:s1.heap.IsTuple t its.toArray:=by obtain ⟨o,ho,hc',n,hd⟩:=p1; exact ⟨o,ho,hc',n,hd⟩
 refine rH pT fun h' a1 a2 hk=>wpAny_pyIter_enum a1 ?_
 refine ⟨s1.heap.objs.size+1,[s1.heap.objs.size+1,s1.heap.objs.size],_,_,H1,rfl,I1.kept (t':=s1.toks) hk,v7 (JG (Ks _)),⟨⟨.none,a1⟩,a2⟩,fun b hb=>?_,q⟩
 have hb':s1.heap.objs.size≤b:=by
  simp only [G5,HM,or_false] at hb
  rcases hb with rfl | rfl
  ·exact IV _ _
  ·exact GZ _
 exact I1.jJ hb' (I1.hok.fresh hb')
section
variable {P:Program} {w:World} {K:GW} {mg:Str→Option Value} {base:Heap} {k:Nat} {N:List Str} {sc:Scope} {bk:Bool} {c:Ctx P w K mg base k N sc bk} {ρ:List Sl} {pos tpos p:Pos} {a:Expr} {elts:List Expr} {kt:Nat}
theorem F0 {R:List D→Prop} (hm:mg "enumerate"=none) (h:EvE c a ρ fun x=>∃ ds,x=.tup ds∧R (kC ds)) (hg:sc.names.lookup (GV "enumerate")=some .globalImplicit:=by walk_at "u")
 (hs:∀ env,starEach [a] env=(false,eval a env)::starEach [] env:=by intro _; walk_at "u"):EvI c (.Tuple elts kt tpos) (.Call (.Name "enumerate" p) [a] [] pos) ρ R:=fun σ H Hf Q S q pins s I =>
 CJ (by unfold Gl HH; rw [c.esc]; exact hg) (by rw [c.emg]; exact hm) (br pbE cA (hs _)) (by rw [hs]; rfl) pins s σ H Q I
  (h σ H Hf _ S fun x v1 H1 Hf1 ⟨ds,e1,hR⟩ r1 g1=>by
    subst e1
    rw [aC] at r1
    obtain ⟨t,xs,rfl,s1,t1⟩:=r1
    exact ⟨t,xs,rfl,ak g1.b s1,q _ _ H1 Hf1 hR g1 (v8 s1 t1)⟩)
end
noncomputable def Itdn (lo:Int) (n:Nat):It:=⟨fun i _=>i<n,fun i H x H'=>H'=H∧x=.int (lo - i),fun i _=>n≤i⟩
noncomputable def zJ (lo:Int) (n:Nat):List D:=(HE n).map fun (i:Nat)=>D.int (lo - (i:Int))
theorem wc {P:Program} {w:World} {K:GW} {tg:Expr} (j:Addr) (lo:Int) (n:Nat):Turn P w K tg (Itdn lo n) [j] j (fun i h=>IsRangeIter h j (lo+(i:Nat) * -1) ((n:Int) - (i:Nat)) (-1)) where
 mem:=Ho.mpr rfl
 obj:=fun i h st b hb=>by
  obtain rfl:b=j:=Ho.mp hb
  exact ⟨_,st,fun v z=>by have q:KA _=Jp v:=z; cases q⟩
 keep:=fun i h h' st k=>k j (Ho.mpr rfl) _ st
 item:=by
  intro X hP hw hK hc i pins s σ H E I hf st hg
  subst hP hw hK
  obtain ⟨f0,f1,f2,f3,f4,f5⟩:=hf j (Ho.mpr rfl)
  have W:=Walks.range (prog:=X.prog) (w:=X.w) (I.ok.hd hc) j lo (-1) n
  refine W.item i s _ _ hg st fun v h' tk hv st' kk=>?_
  obtain ⟨t,rfl⟩:=hv
  have I1:Inv X pins σ H { s with heap:=h',toks:=tk }:=I.turned (fun b o hb e=>kk b o (by simpa using hb) e) f0 f1 f3 f4 f5
  have e:lo+(i:Int) * -1=lo - i:=by omega
  exact ⟨_,rfl,oF (s:={ s with heap:=h',toks:=tk }) (n:="range_iterator") st' rfl rfl (by decide) ⟨.int (lo - i),H,I1,⟨t,by rw [e]⟩,⟨rfl,rfl⟩,st',fun b hb=>(hf b hb).1⟩⟩
 done:=by
  intro X hP hw hK hc i pins s σ H E I hf st hg
  subst hP hw hK
  obtain ⟨f0,f1,f2,f3,f4,f5⟩:=hf j (Ho.mpr rfl)
  exact wpAny_pyNext_range_end (I.ok.hd hc) st (by have:n≤i:=hg; omega) fun h' eb=>⟨rfl,I.turned (t':=s.toks) (fun b o hb e=>eb b o hb e) f0 f1 f3 f4 f5⟩
 self:=fun _ _ _ _ _ st h=>wpAny_pyIter_rangeiter st h
theorem kD {lo hi:Int}:Lj lo hi (-1)=((lo - hi).toNat:Int):=by
 unfold Lj
 rw [if_neg (by decide)]
 split
 ·rw [show - (-1:Int)=1 by decide,Int.ediv_one]; omega
 ·omega
theorem small_down {a b:Int} (ha: -(2 ^ 62)≤a) (ha':a<2 ^ 62) (hb: -(2 ^ 62)≤b) (hb':b<2 ^ 62):Builtin.Range.small a b (-1)=true:=by
 unfold Builtin.Range.small
 rw [kD]
 simp only [Builtin.Range.rangeFitsLong,KQ,Bool.or_eq_true,decide_eq_true_eq,beq_iff_eq,show ¬ (-1:Int)>0 by decide,if_false]
 omega
noncomputable def iDown (ta:TA):TI:=fun σ H R=>ta σ H fun vs H1=>∃ i j:Int,vs=[.int i,.int j,.int (-1)]∧(-(2 ^ 62)≤i∧i<2 ^ 62∧ -(2 ^ 62)≤j∧j<2 ^ 62)∧R (Itdn i (i - j).toNat) H1
theorem CK {X:Cx} {tg a b c:Expr} {ta:TA} {p pos:Pos} (hg:Gl X "range") (hm:X.mg "range"=none) (ha:PA X [a,b,c] ta) (hs:starEach [a,b,c] X.env=[(false,eval a X.env),(false,eval b X.env),(false,eval c X.env)])
 (hs2:starEach [b,c] X.env=[(false,eval b X.env),(false,eval c X.env)]):PI X tg (.Call (.Name "range" p) [a,b,c] [] pos) (iDown ta):=by
 intro pins s σ H R I h
 refine Call_ (bX I hg hm boot_range (JP (thn (ha pos pins s σ H _ I h) fun us s1 ⟨vs,H1,I1,r1,q1⟩=>?_) (by rw [hs,hs2]) (by rw [hs2]; rfl)))
 obtain ⟨i,j,e,⟨q1,q2,q3,q4⟩,q⟩:=q1
 subst e
 cases r1 with
 | cons r rr=>cases rr with
  | cons r' rr=>cases rr with
   | cons r'' rr =>
    cases rr
    obtain ⟨t,rfl⟩:=r
    obtain ⟨t',rfl⟩:=r'
    obtain ⟨t'',rfl⟩:=r''
    refine call_range_3 (by decide) ?_ (.inl (PyProof.noPylong_of_log2 (by decide +kernel)))
    refine wpAny_pyIter_range (IsRange.new ..) (small_down q1 q2 q3 q4) ?_
    have I2:Inv X pins σ H1 { s1 with heap:=s1.heap.push { cls:=.type "range",data:=.fields #[.int i t,.int j t',.int (-1) t''] },toks:=s1.toks }:=I1.kept fun b o e=>G1 _ e
    generalize s1.heap.push { cls:=.type "range",data:=.fields #[.int i t,.int j t',.int (-1) t''] }=g at I2 ⊢
    refine ⟨g.objs.size,[g.objs.size],_,_,H1,rfl,I2.kept (t':=s1.toks) fun b o e=>G1 _ e,wc _ i (i - j).toNat,?_,fun b hb=>?_,q⟩
    ·show IsRangeIter _ _ (i+((0:Nat):Int) * -1) ((((i - j).toNat:Nat):Int) - ((0:Nat):Int)) (-1)
     rw [show i+((0:Nat):Int) * -1=i by simp,show (((i - j).toNat:Nat):Int) - ((0:Nat):Int)=Lj i j (-1) by rw [kD]; omega]
     exact G7 _ rfl
    ·obtain rfl:b=g.objs.size:=Ho.mp hb
     exact I2.jJ (GZ _) (I2.hok.fresh (GZ _))
theorem zK {K:GW} {lo:Int} {n:Nat} {Hf₀:Hp}:gy K (Itdn lo n) (zJ lo n) Hf₀ where
 go:=fun i d H Hf s1 s2 e=>by
  unfold zJ at e
  rw [G9] at e
  obtain ⟨j,e1,e2⟩:=Hj.mp e
  have hi:i<n:=by simpa using (G8.mp e1).1
  have:j=i:=by rw [KL hi] at e1; cases e1; rfl
  subst this
  refine ⟨hi,fun x H' ⟨e3,e4⟩=>?_⟩
  subst e3 e4 e2
  exact ⟨Hf,.refl s2,au.mpr rfl⟩
 stop:=fun i H Hf s1 s2 e=>show n≤i by simpa [zJ] using e
section
variable {P:Program} {w:World} {K:GW} {mg:Str→Option Value} {base:Heap} {k:Nat} {N:List Str} {sc:Scope} {bk:Bool} {c:Ctx P w K mg base k N sc bk} {ρ:List Sl} {pos p:Pos} {a b e tg:Expr}
theorem F1 {R:List D→Prop} (hm:mg "range"=none) (h:EvE c a ρ fun x=>EvE c b ρ fun y=>EvE c e ρ fun z=>∃ i j:Int,x=.int i∧y=.int j∧z=.int (-1)∧Sd (yF i) (Sd (yF j) (R (zJ i (i - j).toNat))))
 (hg:sc.names.lookup (GV "range")=some .globalImplicit:=by walk_at "u")
 (hs:∀ env,starEach [a,b,e] env=(false,eval a env)::starEach [b,e] env:=by intro _; walk_at "u") (hs2:∀ env,starEach [b,e] env=(false,eval b env)::starEach [e] env:=by intro _; walk_at "u")
 (hs3:∀ env,starEach [e] env=(false,eval e env)::starEach [] env:=by intro _; walk_at "u"):EvI c tg (.Call (.Name "range" p) [a,b,e] [] pos) ρ R:=fun σ H Hf Q S q pins s I =>
 CK (by unfold Gl HH; rw [c.esc]; exact hg) (by rw [c.emg]; exact hm) (br pbE (br pbE (br pbE cA (hs3 _)) (hs2 _)) (hs _)) (by rw [hs,hs2,hs3]; rfl) (by rw [hs2,hs3]; rfl) pins s σ H Q I
  (h σ H Hf _ S fun x v1 H1 Hf1 h1 r1 g1=>h1 σ H1 Hf1 _ (S.grw g1) fun y v2 H2 Hf2 h2 r2 g2=>h2 σ H2 Hf2 _ (S.grw (g1.trans g2)) fun z v3 H3 Hf3 ⟨i,j,e1,e2,e3,⟨hi,⟨hj,hR⟩⟩⟩ r3 g3=>by
    subst e1 e2 e3; rw [au] at r1 r2 r3; subst r1 r2 r3
    exact ⟨i,j,rfl,⟨hi.1,hi.2,hj.1,hj.2⟩,q _ _ H3 Hf3 hR ((g1.trans g2).trans g3) zK⟩)
end
noncomputable abbrev ltI (x y:Int):Bool:=decide (x<y)
noncomputable def Itk (d:Addr) (o:Obj) (ys:List (Key×V)):It :=
 ⟨fun i H=>H d=some (.frz o (.dK ys))∧i<ys.length,fun i H x H'=>H'=H∧∃ y,ys[i]?=some y∧x=kV y.1,fun i H=>H d=some (.frz o (.dK ys))∧ys.length≤i⟩
section
variable {X:Cx} {pins:List (Addr×Obj)} {σ:L2.St} {H Hf:Hp} {s:Shared} {E:Value→Shared→Prop} {d:Addr} {o:Obj} {ys:List (Key×V)}
theorem nQ (I:Inv X pins σ H s) (hH:H d=some (.frz o (.dK ys))):∃ (vs:List (Key×Value)) (es:Array DictEntry) (ep:Nat),o.data=.dict es ep∧KV ys vs∧s.heap.DictAt (bC X.prog X.w) d vs ep∧(d == sysModules)=false∧ys.length≤sizeLine:=by
 obtain ⟨ho,ok⟩:=(show aS X.prog X.w H s.heap d (.frz o (.dK ys)) from I.hok d _ hH)
 obtain ⟨z,y,vs,kv,o',es,ep,h1,h2,h3,h4,h5,h6⟩:=ok
 rw [ho] at h1; cases h1
 exact ⟨vs,es,ep,h3,kv,⟨o,es,ho,h2,h3,h4,h5,h6⟩,y,z⟩
end
theorem we {P:Program} {w:World} {K:GW} {tg:Expr} {d j:Addr} {o:Obj} {ys:List (Key×V)} {es:Array DictEntry} {ep:Nat} (hod:o.data=.dict es ep):Turn P w K tg (Itk d o ys) [j] j (fun i h=>h.IsKeyIter j d i ys.length ep) where
 mem:=Ho.mpr rfl
 obj:=fun i h ⟨q,e,_,hd⟩ b hb=>by
  obtain rfl:b=j:=Ho.mp hb
  exact ⟨_,e,fun v z=>by rw [hd] at z; cases z⟩
 keep:=fun i h h' ⟨q,e,r⟩ k=>⟨q,k j (Ho.mpr rfl) _ e,r⟩
 item:=by
  intro X hP hw hK hc i pins s σ H E I hf st hg
  subst hP hw hK
  obtain ⟨f0,f1,f2,f3,f4,f5⟩:=hf j (Ho.mpr rfl)
  obtain ⟨hH,hi⟩:=hg
  obtain ⟨vs,es',ep',e1,kv,da,_⟩:=nQ I hH
  rw [hod] at e1; cases e1
  have hl:ys.length=vs.length:=IZ kv
  obtain ⟨⟨ky,v⟩,hv,r1,r2⟩:=dS kv (HD hi)
  rw [hl] at st
  refine wpAny_pyNext_dict_item st da hv fun key h' hkey hit' hs'=>?_
  have I1:Inv X pins σ H { s with heap:=h',toks:=s.toks }:=I.turned (fun b o hb e=>hs'.extBut b o hb e) f0 f1 f3 f4 f5
  obtain ⟨q,e,qc,qd⟩:=id hit'
  rw [← hl] at hit'
  exact ⟨_,rfl,oF (s:={ s with heap:=h',toks:=s.toks }) (n:="dict_keyiterator") e qc qd (by decide) ⟨kV ky,H,I1,t6 hkey,⟨rfl,_,HD hi,by rw [r1]⟩,hit',fun b hb=>(hf b hb).1⟩⟩
 done:=by
  intro X hP hw hK hc i pins s σ H E I hf st hg
  subst hP hw hK
  obtain ⟨f0,f1,f2,f3,f4,f5⟩:=hf j (Ho.mpr rfl)
  obtain ⟨hH,hi⟩:=hg
  obtain ⟨vs,es',ep',e1,kv,da,_⟩:=nQ I hH
  rw [hod] at e1; cases e1
  have hl:ys.length=vs.length:=IZ kv
  rw [hl] at st
  exact wpAny_pyNext_dict_end (I.ok.hd hc) st da (Jg (by omega)) fun h' eb=>⟨rfl,I.turned (t':=s.toks) (fun b o hb e=>eb b o hb e) f0 f1 f3 f4 f5⟩
 self:=fun _ _ _ _ _ st h=>wpAny_pyIter_keyiter st h
theorem wg {K:GW} {Hf:Hp} {d:Addr} {o:Obj} {ys:List (Key×V)} {ns:List Int} (hH:Hf d=some (.frz o (.dK ys))) (hk:ys.map (·.1)=ns.map HA):gy K (Itk d o ys) (ns.map D.int) Hf where
 go:=fun i x H Hf1 s1 s2 e=>by
  rw [G9,Hj] at e
  obtain ⟨n,hn,rfl⟩:=e
  have hq:=congrArg (fun l=>l[i]?) hk
  simp only [G9,hn,Option.map_some] at hq
  obtain ⟨y,hy,ey⟩:=Hj.mp hq
  refine ⟨⟨s2 _ _ (s1 _ _ hH),(G8.mp hy).1⟩,fun v H' ⟨e1,y',e2,e3⟩=>?_⟩
  rw [hy] at e2; cases e2
  subst e1 e3
  exact ⟨Hf1,.refl s2,by rw [ey]; exact au.mpr rfl⟩
 stop:=fun i H Hf1 s1 s2 e=>⟨s2 _ _ (s1 _ _ hH),by
  have:=congrArg Kz hk
  simp only [G4] at this e
  omega⟩
section
variable {prog:Program} {w:World} {A:Around} {E:Value→Shared→Prop} {s:Shared}
theorem wj {v:Addr} {Q:Bool→Shared→Prop} (hT:s.TypeIs (.ref v) "dict") (hQ:Q false s):wpAny (model prog w) A (Kd (.ref v)) Q E s:=by
 unfold Kd
 refine GU (wpAny_specialOf hT PySem.F.slot_dict_len.lookup ?_)
 have e:splitId "dict.__len__"=some ("dict","__len__"):=by decide +kernel
 dsimp only
 rw [e]
 dsimp only
 refine GU (LG (b:=true) hT (by rw [isSubtype_type]; kernel_rfl) ?_)
 rw [if_neg (by decide)]
 exact GU (JE hT (GX hQ))
end
section
variable {X:Cx} {pins:List (Addr×Obj)} {σ:L2.St} {H Hf:Hp} {s:Shared} {E:Value→Shared→Prop}
theorem qg {K:GW}:∀ {L:List Int} {us:List Value},Paired (fun x u=>Stn K Hf (D.int x) u) L us→IntsAre us L
 | _,_,.nil=>.nil
 | _,_,.cons ⟨x,r1,h1⟩ t=>by
  rw [au] at h1; subst h1
  obtain ⟨tk,rfl⟩:=r1
  exact .cons _ _ (qg t)
theorem CL:SrtE X D.int ltI oneType' where
 lin:=fun L=>⟨fun x _=>by simp,fun x _ y _ z _ h g=>by simp only [decide_eq_true_eq] at *; omega,fun x _ y _ h=>by simp only [decide_eq_true_eq]; omega⟩
 inj:=fun _ _ _ _ _ _ _ x y u ⟨v,r1,h1⟩ ⟨v',r2,h2⟩=>by
  rw [au] at h1 h2; subst h1 h2
  obtain ⟨t,rfl⟩:=r1
  obtain ⟨t',e⟩:=r2
  cases e; rfl
 kind:=fun _ _ _ _ _ _ _ _ _ L us p h2 Q hQ=>by
  rw [ksk_kind (kz:=L) (qg p) (by simpa using h2)]
  exact GX hQ
 cmp:=fun _ _ _ _ _ _ _ _ _ _ x y u v ⟨a,r1,h1⟩ ⟨b,r2,h2⟩ Q hQ=>by
  rw [au] at h1 h2; subst h1 h2
  obtain ⟨t,rfl⟩:=r1
  obtain ⟨t',rfl⟩:=r2
  rw [keyLt'_oneType]
  exact oneLt_int hQ
theorem qh {d:Addr} {o:Obj} {ys:List (Key×V)} {ns:List Int} {b:Bool} {Q:Value→Shared→Prop} (hc:X.calm=true) (I:Inv X pins σ H s) (sb:aG Hf H) (hA:X.A.units+60<cLine) (hH:Hf d=some (.frz o (.dK ys))) (hk:ys.map (·.1)=ns.map HA) (nd:ns.Nodup)
 (hQ:∀ (L':List Int) (xs':List V) (s':Shared) (H' Hf':Hp) (a:Addr),L'.Perm ns→jg ltI b L'→aj X.K Hf' (L'.map D.int) xs'→Grw H Hf H' Hf'→H' a=none→Inv X pins σ (upd H' a (.lst xs')) s'→Q (.ref a) s') :
 wpAny (model X.prog X.w) X.A (call (.builtin "sorted") [.ref d] [(GV "reverse",.bool b)]) Q E s:=by
 refine Mq kind_sorted plain_sorted entry_sorted (args_sorted_rev _ _) ?_
 unfold Builtin.«sorted»
 refine GU (m:=checkCount "sorted" 1 1 _) (GX ?_)
 have h1:X.A.in1.handled=none:=I.ok.hd hc
 have h2:X.A.in1.frames=some X.stack:=I.ok.frames
 obtain ⟨vs,es,ep,e1,kv,da,hs,hz⟩:=nQ I (sb _ _ hH)
 have hl:ys.length=vs.length:=IZ kv
 have hn:(ns.map D.int).length=ys.length:=by have:=congrArg Kz hk; simp only [G4] at this ⊢; omega
 refine GU (rE (X:=cxA X X.A.in1) (H:=H) (Hf:=Hf) (ds:=ns.map D.int) (T:="dict") hc h1 h2 (ko I (fun _=>h1) h2) sb da.lt_size (by omega) (by decide) (fun s' k=>(da.keep k).dictOf.typeIs) (fun A s' Q E q h=>wj q h) (fun A s1 H1 E I1 sb1 k1=>?_) fun us s' H' Hf' xs I' rv rr g hz'=>?_)
 ·refine wpAny_pyIter_dict hs (da.keep k1) ?_
  refine ⟨_,_,_,rfl,GZ _,I1.kept (t':=s1.toks) fun b o e=>G1 _ e,we e1,⟨_,G7 _ rfl,rfl,?_⟩,fun b hb=>?_,fun b o e=>G1 _ e,wg hH hk⟩
  ·rw [hl]; rfl
  ·obtain rfl:b=s1.heap.objs.size:=Ho.mp hb
   exact I1.jJ (GZ _) (I1.hok.fresh (GZ _))
 ·have I2:=gQ I.ok I'
  have el:=rr.length
  have el2:=rv.length
  refine p7 (b:=b) CL I2 g.b ?_ rr rv (by omega) nd fun L' xs' s2 p1 p2 p3 p4 I3=>hQ L' xs' s2 H' Hf' _ p1 p2 p3 g (I2.hok.fresh (GZ _)) I3
  show X.A.units+1+20<cLine
  omega
end
section
variable {P:Program} {w:World} {K:GW} {mg:Str→Option Value} {base:Heap} {k:Nat} {N:List Str} {sc:Scope} {bk:Bool} {c:Ctx P w K mg base k N sc bk} {ρ:List Sl} {np pos kp kp1:Pos} {e:Expr} {j:Nat}
theorem rJ {R:Sl→Prop} (hm:mg "sorted"=none) (h:EvE c e ρ fun d=>∃ (ns:List Int) (ds:List D),d=.fdK (ns.map HA) ds∧Sd ns.Nodup (∀ L':List Int,L'.Perm ns→jg ltI true L'→R (.ow (L'.map D.int))))
 (hg:sc.names.lookup (GV "sorted")=some .globalImplicit:=by walk_at "u")
 (he:∀ env,starEach [e] env=(false,eval e env)::starEach [] env:=by intro _; walk_at "u")
 (hpl:∀ env,(backTo pos (starEach [e] env)).any (·.1)=false:=by intro _; walk_at "u") :
 EvX c (.Call (.Name "sorted" np) [e] [⟨some "reverse",.Constant (.bool true) j kp1,kp⟩] pos) ρ R:=fun σ H Hf Q S q pins s I=>by
 have hgl:Gl c.X "sorted":=by unfold Gl HH; rw [c.esc]; exact hg
 refine I0 (bX I hgl (by rw [c.emg]; exact hm) (show bootBuiltins "sorted"=some (.builtin "sorted") by decide +kernel) ?_ (by decide) (by decide))
 refine callWith_kw ?_ (by rw [he]; rfl) (hpl _)
 have hpa:=br (X:=c.X) (e:=e) (es:=[]) pbE cA (he _)
 refine thn (hpa pos pins s σ H (fun vs H1=>∃ x,vs=[x]∧∃ (ns:List Int) (ds:List D) (Hf1:Hp),Rep c.X.K Hf1 (.fdK (ns.map HA) ds) x∧ns.Nodup∧Grw H Hf H1 Hf1∧∀ L':List Int,L'.Perm ns→jg ltI true L'→R (.ow (L'.map D.int))) I ?_) fun us s1 ⟨vs,H1,I1,r1,x,ex,ns,ds,Hf1,e1,e7,e8,e9⟩=>?_
 ·exact h σ H Hf _ S fun d v H1 Hf1 ⟨ns,ds,hp,⟨hn,hR⟩⟩ rv g=>⟨_,rfl,ns,ds,Hf1,by rw [← hp]; exact rv,hn,g,hR⟩
 ·subst ex
  obtain ⟨a0,ys,o,rfl,hs,hk,hr⟩:=gu.mp e1
  have eu:us=[.ref a0]:=by
   cases r1 with
   | cons q1 q2=>cases q2; cases q1; rfl
  subst eu
  refine kws_cons (thn (xA (X:=c.X) (b:=true) (j:=j) (pos:=kp1) pins s1 σ _ (fun x H2=>x=.bl true∧H2=H1) I1 ⟨rfl,rfl⟩) fun kv s2 ⟨x,H2,I2,rx,e10,e11⟩=>kws_nil ?_)
  subst e10 e11
  have ek:kv=.bool true:=rx
  subst ek
  refine qh (b:=true) c.calm I2 e8.b ?_ hs hk e7 fun L' xs' s' H' Hf' a p1 p2 p3 g na I3=>?_
  ·have:=c.room.un
   omega
  ·have gg:=e8.trans g
   exact ⟨.ref a,_,I3,rfl,q (.ow (L'.map D.int)) _ _ Hf' (e9 L' p1 p2) ⟨a,xs',rfl,gg.s.free na,ah,g.b.free na,p3⟩ (gg.trans (Grw.eG g.b na))⟩
end
theorem CM {prog:Program} {w:World} {A:Around} {E:Value→Shared→Prop} {s:Shared} {l:Addr} {o:Obj} {its:List Value} {n:Nat} {k:Int} {u:Tok} {Q:Value→Shared→Prop} (ho:s.heap.get? l=some o) (hc:o.cls=.type "tuple") (hd:o.data=.seq its.toArray n) (hk:0≤k) (hk2:k<2 ^ 63) (hz:its.length * k.toNat≤sizeLine) (hne:its≠[])
 (h1:k=1→Q (.ref l) s) (h2:k≠1→Q (.ref s.heap.objs.size) { s with heap:=s.heap.push { cls:=.type "tuple",data:=.seq (Hh k.toNat its).flatten.toArray } }) :
 wpAny (model prog w) A (Builtin.«tuple.__mul__» ⟨[.ref l,.int k u],[]⟩) (fun fin s'=>∃ v,fin=.done (.ret v)∧Q v s') E s:=by
 unfold Builtin.«tuple.__mul__»
 show wpAny _ _ (asIndex (.int k u) >>= _) _ _ s
 have ea:asIndex (.int k u)=pure k:=rfl
 rw [ea]
 refine GU (GX ?_)
 have b1:(decide (k< -2 ^ 63) || decide (k≥2 ^ 63))=false:=by simp only [Bool.or_eq_false_iff,decide_eq_false_iff_not]; omega
 rw [if_neg (by rw [b1]; exact G6)]
 dsimp only
 refine GU (show wpAny _ _ (seqItems? (.ref l) >>= _) _ _ s from GU (Jl ho hd (GX ?_)))
 have hne':its.toArray.isEmpty=false:=by cases its with | nil=>exact absurd rfl hne | cons a r=>rfl
 rw [hne',Bool.false_or]
 by_cases e:k=1
 ·rw [if_pos (by simp [e])]
  refine GU (GU (JE ⟨o,ho,hc⟩ (GX ?_)))
  rw [if_pos (by decide)]
  exact GU (Iq (GX ⟨_,rfl,h1 e⟩))
 ·rw [if_neg (by simpa using e)]
  have h2':=h2 e
  by_cases e0:k=0
  ·subst e0
   rw [if_pos (by decide)]
   exact GU (Iw (GX ⟨_,rfl,h2'⟩))
  ·have hpos:0<k:=by omega
   rw [if_neg (by simp; omega)]
   have hm:(its.toArray.size:Int) * k=((its.length * k.toNat:Nat):Int):=by
    rw [Int.natCast_mul,Int.toNat_of_nonneg hk,Hq]
   have hs:(sizeLine:Nat)≤(2 ^ 63 - 1) / 8:=by decide
   rw [hm,if_neg (by omega),if_neg (by unfold Builtin.Tuple.tupleTooMany; simp only [decide_eq_true_eq]; omega)]
   have ef:=foldl_rep its k.toNat []
   rw [JA] at ef
   show wpAny _ _ (newObj (.type "tuple") (.seq (KD (fun x1 x2=>x1++x2) ([]:List Value).toArray (Hh k.toNat its.toArray))) >>= _) _ _ _
   rw [ef]
   exact GU (Iw (GX ⟨_,rfl,h2'⟩) (hd:=by
    show (Hh k.toNat its).flatten.toArray.size≤sizeLine
    rw [Hq,len_rep,L7]; exact hz))
theorem rK:fillsNumberSlot (.type "tuple") "mul"=pure false:=PySem.fillsNumberSlot_seq (id:="tuple.__mul__") (r:=some (.builtin "tuple.__rmul__")) M6.lookup (by decide +kernel) F.slot_tuple_rmul.lookup (by decide +kernel)
theorem rL:seqRepeat? (.type "tuple")=pure (some (.builtin "tuple.__mul__")):=by
 unfold seqRepeat?
 rw [PySem.seqSlot_of (T:="tuple") (name:="__mul__") (id:="tuple.__mul__") M6.lookup (by decide +kernel),PySem.seqSlot_of (T:="tuple") (name:="__rmul__") (id:="tuple.__rmul__") F.slot_tuple_rmul.lookup (by decide +kernel)]
 rfl
theorem zL (a:Int) (t:Tok) (l:Addr) (o:Obj) (items:Array Value) (n:Nat) :
 Meets (Builtin.«int.__rmul__» ⟨[.int a t,.ref l],[]⟩) (fun _ R s=>s.heap.get? l=some o∧o.cls=.type "tuple"∧o.data=.seq items n∧R (.ok (.ret Value.notImplemented)) s) :=
 .of_wp fun prog w A R ⟨hp,g,d,tk,os⟩ ⟨hl,hc,hd,h⟩=>by
  obtain ⟨c,dc,dt,sl⟩:=o
  obtain rfl:c=.type "tuple":=hc
  obtain rfl:dt=.seq items n:=hd
  wp_walk
  exact ⟨_,rfl,h⟩
noncomputable def rRepT (K:GW):R2:=fun x y H Q=>∃ l k xs,x=.ref l∧y=.int k∧SqT K H l xs∧xs≠[]∧0≤k∧k<2 ^ 63∧xs.length * k.toNat≤sizeLine∧(k=1→Q (.ref l) H)∧(k≠1→∀ p,H p=none→Q (.ref p) (upd H p (.tup (Hh k.toNat xs).flatten)))
theorem CN {X:Cx}:OpR X (binaryOp .Mult) (rRepT X.K):=by
 intro pins s σ H x y v u Q I rx ry h
 obtain ⟨l,k,xs,rfl,rfl,hq,hne,h0,h1,hz,q1,q2⟩:=h
 cases rx
 obtain ⟨t,rfl⟩:=ry
 obtain ⟨its,r,pl,hz0⟩:=I.tuple hq
 obtain ⟨o,ho,hc,n,hd⟩:=pl
 have hl:=r.length
 refine wpAny_binaryOp_repeat_ref (T:="tuple") (U:="int") (by decide) ⟨o,ho,hc⟩ (fun s'=>K6 s' k t) rK F.fills_int_mul LO rL F.slot_int_index.lookup
  (K7 LO (K6 s k t) F.entry_int_rmul (F.args_int_rmul_2 _ _) (zL k t l o _ _) ⟨ho,hc,hd,rfl,⟨o,ho,hc⟩,IJ M6 ⟨o,ho,hc⟩ F.entry_tuple_mul (CM (its:=its) ho hc hd h0 h1 (by rw [← hl]; exact hz) (by rintro rfl; cases r; exact hne rfl) (fun e=>?_) fun e=>?_) (F.args_tuple_mul_2 _ _)⟩)
 ·exact ⟨.ref l,H,I,rfl,q1 e⟩
 ·have Hp:H s.heap.objs.size=none:=I.hok.fresh (GZ _)
  have hz2:(Hh k.toNat xs).flatten.length≤sizeLine:=by rw [len_rep,L7]; exact hz
  have IA:Inv X pins σ (upd H s.heap.objs.size (.tup (Hh k.toNat xs).flatten)) { s with heap:=s.heap.push { cls:=.type "tuple",data:=.seq (Hh k.toNat its).flatten.toArray },toks:=s.toks } :=
   I.laid (a:=s.heap.objs.size) (o:=.tup (Hh k.toNat xs).flatten) (fun _ _ q=>G1 _ q) (GZ _) ⟨hz2,_,r.rep k.toNat,_,G7 _ rfl,rfl,0,rfl⟩
  exact ⟨.ref s.heap.objs.size,_,IA,rfl,q2 e _ Hp⟩
section
variable {P:Program} {w:World} {K:GW} {mg:Str→Option Value} {base:Heap} {k:Nat} {N:List Str} {sc:Scope} {bk:Bool} {c:Ctx P w K mg base k N sc bk} {ρ:List Sl} {pos:Pos} {a b:Expr} {R:D→Prop}
theorem F2 (h:EvE c a ρ fun x=>EvE c b ρ fun y=>∃ ds n,x=.tup ds∧y=.int n∧Sd (ds≠[]∧0≤n∧n<2 ^ 63∧ds.length * n.toNat≤sizeLine) (R (.tup (Hh n.toNat ds).flatten))):EvE c (.BinOp a .Mult b pos) ρ R:=fun σ H Hf Q S q =>
 bu (xH CN pbE pbE) (h σ H Hf _ S fun x v H1 Hf1 h1 r1 g1=>h1 σ H1 Hf1 _ (S.grw g1) fun y u H2 Hf2 ⟨ds,n,e1,e2,⟨hne,n0,n1,hz⟩,hR⟩ r2 g2=>by
  subst e1 e2
  have r1':=Rep.mono g2.f _ r1
  obtain ⟨l,xs,rfl,k1,k2⟩:=aC.mp r1'
  rw [au] at r2; subst r2
  have hl:=k2.length
  have g:=g1.trans g2
  refine ⟨l,n,xs,rfl,rfl,ak g2.b k1,by rintro rfl; exact hne (List.eq_nil_of_length_eq_zero hl),n0,n1,by rw [← hl]; exact hz,fun e=>?_,fun _ p hp=>?_⟩
  ·subst e
   refine q _ _ H2 Hf2 hR ?_ g
   rw [show (Hh (1:Int).toNat ds).flatten=ds by simp]
   exact r1'
  ·have g3:=Grw.new (o:=.tup (Hh n.toNat xs).flatten) g2.b hp
   exact q _ _ _ _ hR (aC.mpr ⟨p,_,rfl,.inl (.inl ah),(k2.mono g3.f).many _⟩) (g.trans g3))
end
section
variable {P:Program} {w:World} {K:GW} {mg:Str→Option Value} {base:Heap} {k:Nat} {N:List Str} {sc:Scope} {bk:Bool} {c:Ctx P w K mg base k N sc bk} {ρ:List Sl} {pos ap cp:Pos} {e o:Expr} {nx:List Sl→Prop} {p:Pt}
end
end EV
namespace EV
open PySem PySem.Spec PyProof.Rows L2
noncomputable def dig (b:Int):Nat→(Nat→Int)→Int
 | 0,_=>0
 | m+1,f=>f 0 * b ^ m+dig b m (fun i=>f (i+1))
noncomputable abbrev at0 (p:List Int) (i:Nat):Int:=p.getD i 0
noncomputable def pk (b:Int) (p:List Int):Int:=dig b 6 (at0 p)
theorem gW {b:Int}:∀ {m:Nat} {f g:Nat→Int},(∀ i,i<m→f i=g i)→dig b m f=dig b m g
 | 0,_,_,_=>rfl
 | m+1,f,g,h=>by
  unfold dig
  rw [h 0 (by omega),gW (m:=m) fun i hi=>h (i+1) (by omega)]
theorem uI {b:Int}:∀ (m:Nat) (f g:Nat→Int),dig b m (fun i=>f i+g i)=dig b m f+dig b m g
 | 0,_,_=>rfl
 | m+1,f,g=>by
  unfold dig
  rw [uI m (fun i=>f (i+1)) (fun i=>g (i+1)),JI]
  omega
theorem gX {b:Int}:∀ (m:Nat),dig b m (fun _=>0)=0
 | 0=>rfl
 | m+1=>by unfold dig; rw [gX m,J5]; rfl
theorem fW {b:Int} (hb:0<b):∀ (m:Nat) (f:Nat→Int),(∀ i,i<m→0≤f i∧f i<b)→0≤dig b m f∧dig b m f<b ^ m
 | 0,_,_=>⟨IG _,by show (0:Int)<b ^ 0; rw [Int.pow_zero]; decide⟩
 | m+1,f,h=>by
  have h0:=h 0 (by omega)
  have ih:=fW hb m (fun i=>f (i+1)) fun i hi=>h (i+1) (by omega)
  have hp:0<b ^ m:=J7 hb
  unfold dig
  rw [Int.pow_succ]
  have a1:0≤f 0 * b ^ m:=LU h0.1 (by omega)
  have a2:(f 0+1) * b ^ m≤b * b ^ m:=Nh (by omega) (by omega)
  rw [JI,K5] at a2
  rw [Int.mul_comm (b ^ m) b]
  omega
theorem uJ {b:Int} (hb:0<b):∀ (m:Nat) (f:Nat→Int),(∀ i,i<m→0≤f i∧f i<b)→∀ i,i<m→dig b m f / b ^ (m - 1 - i) % b=f i
 | 0,_,_,_,hi=>absurd hi (Nat.not_lt_zero _)
 | m+1,f,h,i,hi=>by
  have ih:=uJ hb m (fun i=>f (i+1)) fun i hi=>h (i+1) (by omega)
  have bd:=fW hb m (fun i=>f (i+1)) fun i hi=>h (i+1) (by omega)
  have hp:0<b ^ m:=J7 hb
  unfold dig
  cases i with
  | zero =>
   rw [show m+1 - 1 - 0=m by omega,Ma,Int.add_mul_ediv_right _ _ (by omega),Int.ediv_eq_zero_of_lt bd.1 bd.2,K3]
   exact Int.emod_eq_of_lt (h 0 (by omega)).1 (h 0 (by omega)).2
  | succ i =>
   have e:b ^ m=b ^ (i+1) * b ^ (m - 1 - i):=by rw [← Int.pow_add]; congr 1; omega
   have hq:0<b ^ (m - 1 - i):=J7 hb
   rw [show m+1 - 1 - (i+1)=m - 1 - i by omega,e,← K0,Ma,Int.add_mul_ediv_right _ _ (by omega),Int.pow_succ,← K0,Int.add_mul_emod_self_right]
   exact ih i (by omega)
theorem iJ {x:Int} {p:List Int} (h:trim (x::p)=x::p):trim p=p:=by
 rcases List.eq_nil_or_concat p with rfl | ⟨r,z,rfl⟩
 ·rfl
 ·rw [List.concat_eq_append] at h ⊢
  by_cases e:z=0
  ·subst e
   rw [← Ja,fG] at h
   have:=congrArg Kz h
   have l:=eX (x::r)
   simp only [HV,HQ,Jk] at this l
   omega
  ·exact mw r e
theorem qi:∀ {p:List Int},trim p=p→p≠[]→(∀ x∈p,0≤x)→∃ i,i<p.length∧0<at0 p i
 | [],_,h,_=>absurd rfl h
 | [x],h,_,h0=>by
  refine ⟨0,by simp,?_⟩
  have:x≠0:=by rintro rfl; simp [trim] at h
  have:=h0 x (by simp)
  show 0<x
  omega
 | x::y::p,h,_,h0=>by
  obtain ⟨i,hi,hq⟩:=qi (iJ h) (by simp) fun z hz=>h0 z (Hl _ hz)
  exact ⟨i+1,by simp only [HV] at *; omega,by simpa [at0] using hq⟩
theorem uK {b:Int} (hb:0<b):∀ (m:Nat) (f:Nat→Int),(∀ i,i<m→0≤f i∧f i<b)→(∃ i,i<m∧0<f i)→0<dig b m f
 | 0,_,_,h=>by obtain ⟨i,hi,_⟩:=h; omega
 | m+1,f,h,⟨i,hi,hq⟩=>by
  have bd:=fW hb m (fun i=>f (i+1)) fun i hi=>h (i+1) (by omega)
  have hp:0<b ^ m:=J7 hb
  unfold dig
  cases i with
  | zero =>
   have:=Int.mul_pos hq hp
   omega
  | succ i =>
   have:=uK hb m (fun i=>f (i+1)) (fun i hi=>h (i+1) (by omega)) ⟨i,by omega,hq⟩
   have:=LU (h 0 (by omega)).1 (show 0≤b ^ m by omega)
   omega
theorem zM {b:Int} (hb:0<b):∀ (m:Nat) (p q:List Int),trim p=p→trim q=q→p.length≤m→q.length≤m→(∀ x∈p,0≤x∧x<b)→(∀ x∈q,0≤x∧x<b)→HT.lexLt p q=true→dig b m (at0 p)<dig b m (at0 q)
 | m,[],[],_,_,_,_,_,_,h=>by cases h
 | m,[],y::q,_,tq,_,lq,_,hq,_=>by
  have e:dig b m (at0 [])=0:=by
   rw [show at0 ([]:List Int)=fun _=>0 from funext fun i=>by simp [at0]]; exact gX m
  rw [e]
  obtain ⟨i,hi,h0⟩:=qi tq (by simp) fun x hx=>(hq x hx).1
  refine uK hb m _ (fun j hj=>?_) ⟨i,by omega,h0⟩
  by_cases z:j<(y::q).length
  ·have:at0 (y::q) j=(y::q)[j]:=by unfold at0; rw [Ir,HD z]; rfl
   rw [this]; exact hq _ (HW _)
  ·have:at0 (y::q) j=0:=by simp only [at0,Ir,Jg (by omega:(y::q).length≤j)]; rfl
   rw [this]; omega
 | m,x::p,[],_,_,_,_,_,_,h=>by cases h
 | 0,x::p,y::q,_,_,lp,_,_,_,_=>by simp at lp
 | m+1,x::p,y::q,tp,tq,lp,lq,hp,hq,h=>by
  simp only [HV] at lp lq
  rw [HT.cB] at h
  have rd:∀ (r:List Int),(∀ z∈r,0≤z∧z<b)→∀ j,0≤at0 r j∧at0 r j<b:=fun r hr j=>by
   by_cases z:j<r.length
   ·have:at0 r j=r[j]:=by unfold at0; rw [Ir,HD z]; rfl
    rw [this]; exact hr _ (HW _)
   ·have:at0 r j=0:=by simp only [at0,Ir,Jg (by omega:r.length≤j)]; rfl
    rw [this]; omega
  have hp':∀ z∈p,0≤z∧z<b:=fun z hz=>hp z (Hl _ hz)
  have hq':∀ z∈q,0≤z∧z<b:=fun z hz=>hq z (Hl _ hz)
  unfold dig
  show x * b ^ m+dig b m (at0 p)<y * b ^ m+dig b m (at0 q)
  by_cases e:x=y
  ·rw [if_pos e] at h
   subst e
   have:=zM hb m p q (iJ tp) (iJ tq) (by omega) (by omega) hp' hq' h
   omega
  ·rw [if_neg e] at h
   have hxy:x<y:=of_decide_eq_true h
   have b1:=fW hb m (at0 p) fun i _=>rd p hp' i
   have b2:=fW hb m (at0 q) fun i _=>rd q hq' i
   have a2:(x+1) * b ^ m≤y * b ^ m:=Nh (by omega) (by have hh:0<b ^ m:=J7 hb; omega)
   rw [JI,K5] at a2
   omega
noncomputable def Bd (b:Int) (p:List Int):Prop:=p.length≤6∧∀ x∈p,0≤x∧x<b
theorem cH {p:List Int} {j:Nat} (z:j<p.length):at0 p j=p[j]:=by unfold at0; rw [Ir,HD z]; rfl
theorem cy {p:List Int} {j:Nat} (z:p.length≤j):at0 p j=0:=by unfold at0; rw [Ir,Jg z]; rfl
theorem D0 {b:Int} (hb:0<b) {p:List Int} (h:Bd b p) (i:Nat):0≤at0 p i∧at0 p i<b:=by
 by_cases z:i<p.length
 ·rw [cH z]; exact h.2 _ (HW _)
 ·rw [cy (by omega)]; omega
theorem qj (p:List Int):∃ m,p=trim p++Hh m 0:=by
 suffices H:∀ r:List Int,∃ m,r=Hh m 0++r.dropWhile fun x=>x == 0 by
  obtain ⟨m,h⟩:=H p.reverse
  refine ⟨m,?_⟩
  have:=congrArg List.reverse h
  rw [List.reverse_reverse,MF,List.reverse_replicate] at this
  exact this
 intro r
 induction r with
 | nil=>exact ⟨0,rfl⟩
 | cons x r ih =>
  by_cases e:x=0
  ·subst e
   obtain ⟨m,h⟩:=ih
   refine ⟨m+1,?_⟩
   rw [Jh,List.dropWhile_cons_of_pos (by simp),Ja,← h]
  ·exact ⟨0,by rw [List.dropWhile_cons_of_neg (by simpa using e)]; rfl⟩
theorem cU (p:List Int) (i:Nat):at0 (trim p) i=at0 p i:=by
 obtain ⟨m,h⟩:=qj p
 by_cases z:i<(trim p).length
 ·have e:at0 p i=at0 (trim p++Hh m 0) i:=by rw [← h]
  rw [e]
  unfold at0
  simp only [Ir]
  rw [Jv z]
 ·rw [cy (by omega)]
  have e:at0 p i=at0 (trim p++Hh m 0) i:=by rw [← h]
  rw [e]
  unfold at0
  simp only [Ir]
  rw [Ke (by omega),Mn]
  split <;> rfl
theorem CO (b:Int) (p:List Int):pk b (trim p)=pk b p:=gW fun i _=>cU p i
theorem qk {p:List Int} {x:Int} (h:x∈trim p):x∈p:=by
 obtain ⟨m,e⟩:=qj p
 rw [e]; exact Jx _ h
theorem nR {b:Int} {p:List Int} (h:Bd b p):Bd b (trim p):=⟨Hi (eX p) h.1,fun x hx=>h.2 x (qk hx)⟩
theorem zN {b:Int} (hb:0<b) {p q:List Int} (hp:Bd b p) (hq:Bd b q) (tp:trim p=p) (tq:trim q=q) (h:HT.lexLt p q=true):pk b p<pk b q:=zM hb 6 p q tp tq hp.1 hq.1 hp.2 hq.2 h
theorem rM {b:Int} (hb:0<b) {p q:List Int} (hp:Bd b p) (hq:Bd b q) (tp:trim p=p) (tq:trim q=q) (h:pk b p=pk b q):p=q:=by
 by_cases e:p=q
 ·exact e
 ·exfalso
  rcases nK e with z | z
  ·have:=zN hb hp hq tp tq z; omega
  ·have:=zN hb hq hp tq tp z; omega
noncomputable def unp (b:Int) (key:Int):List Int:=trim ((HE 6).map fun (i:Nat)=>key / b ^ (5 - i) % b)
theorem F3 {b:Int} (hb:0<b) {p:List Int} (h:Bd b p):unp b (pk b p)=trim p:=by
 have e:((HE 6).map fun (i:Nat)=>pk b p / b ^ (5 - i) % b)=p++Hh (6 - p.length) 0:=by
  refine M4 (by simp; have:=h.1; omega) fun i h1 h2=>?_
  have hi:i<6:=by simpa using h1
  rw [List.getElem_map,List.getElem_range]
  have:=uJ hb 6 (at0 p) (fun j _=>D0 hb h j) i hi
  rw [show 6 - 1 - i=5 - i by omega] at this
  rw [show pk b p=dig b 6 (at0 p) from rfl,this]
  by_cases z:i<p.length
  ·rw [cH z,List.getElem_append_left z]
  ·rw [cy (by omega),List.getElem_append_right (by omega),List.getElem_replicate]
 unfold unp
 rw [e]
 generalize 6 - p.length=m
 induction m with
 | zero=>simp
 | succ m ih=>rw [List.replicate_succ',← Hw,fG]; exact ih
noncomputable def bV (B:List (Int×Int)):List (Key×D):=B.map fun x=>(.inl x.1,.int x.2)
theorem gY (B:List (Int×Int)) (k:Int):bf (bV B) (.inl k)=(bf B k).map D.int:=by
 induction B with
 | nil=>rfl
 | cons t B ih =>
  by_cases e:t.1=k
  ·rw [aP e]
   show bf ((HA t.1,D.int t.2)::bV B) _=_
   rw [aP (by rw [e])]; rfl
  ·rw [aJ e,← ih]
   show bf ((HA t.1,D.int t.2)::bV B) _=_
   rw [aJ fun z=>e (HA.inj z)]
theorem ql (B:List (Int×Int)) (k n:Int):putD (bV B) (.inl k) (.int n)=bV (putD B k n):=by
 unfold putD
 rw [gY]
 by_cases h:(bf B k).isSome=true
 ·rw [if_pos h,if_pos (by rw [JV]; exact h)]
  unfold bV
  rw [HP,HP]
  refine Jy fun t _=>?_
  simp only [LY]
  by_cases e:t.1=k
  ·rw [if_pos e,if_pos (by rw [e])]
  ·rw [if_neg e,if_neg fun z=>e (HA.inj z)]
 ·rw [if_neg h,if_neg (by rw [JV]; exact h)]
  unfold bV
  simp
noncomputable def pkT (b:Int) (t:Trm):Int×Int:=(pk b t.1,t.2)
noncomputable def Gd (b:Int) (A:List Trm):Prop:=∀ t∈A,Bd b t.1∧trim t.1=t.1
theorem rN {b:Int} (hb:0<b) {A:List Trm} {p:List Int} (h:Gd b A) (hp:Bd b p) (tp:trim p=p):bf (A.map (pkT b)) (pk b p)=bf A p:=by
 induction A with
 | nil=>rfl
 | cons t A ih =>
  have ih:=ih fun x hx=>h x (Hl _ hx)
  have ht:=h t Hg
  by_cases e:t.1=p
  ·rw [aP e,G3,aP (show (pkT b t).1=pk b p by unfold pkT; rw [e])]; rfl
  ·rw [aJ e,G3,aJ fun z=>e (rM hb ht.1 hp ht.2 tp z),ih]
theorem F4 {b:Int} (hb:0<b) {A:List Trm} {p:List Int} {n:Int} (h:Gd b A) (hp:Bd b p) (tp:trim p=p):putD (A.map (pkT b)) (pk b p) n=(putD A p n).map (pkT b):=by
 unfold putD
 rw [rN hb h hp tp]
 split
 ·rw [HP,HP]
  refine Jy fun t ht=>?_
  simp only [LY]
  by_cases e:t.1=p
  ·rw [if_pos e,if_pos (show (pkT b t).1=pk b p by unfold pkT; rw [e])]; rfl
  ·rw [if_neg e,if_neg (show ¬ (pkT b t).1=pk b p from fun z=>e (rM hb (h t ht).1 hp (h t ht).2 tp z))]
 ·simp [pkT]
theorem F5 {b:Int} {A:List Trm} {p:List Int} {n:Int} (h:Gd b A) (hp:Bd b p) (tp:trim p=p):Gd b (putD A p n):=fun t ht=>by
 rcases nP ht with e | e
 ·rw [e]; exact ⟨hp,tp⟩
 ·exact h t e
theorem nS {b:Int} {ts:List Trm} (h:∀ t∈ts,Bd b t.1):Gd b (aL ts):=by
 unfold aL
 suffices H:∀ A,Gd b A→Gd b (ts.foldl dX A) from H [] (fun _ h=>by cases h)
 induction ts with
 | nil=>exact fun A h=>h
 | cons u ts ih=>exact fun A hA=>ih (fun t ht=>h t (Hl _ ht)) _ (F5 hA (nR (h u Hg)) (bM _))
theorem F6 {b:Int} (hb:0<b) {ts:List Trm} {t:Trm} (h:∀ t∈ts,Bd b t.1) (ht:Bd b t.1) :
 putD ((aL ts).map (pkT b)) (pk b t.1) ((bf ((aL ts).map (pkT b)) (pk b t.1)).getD 0+t.2)=(aL (ts++[t])).map (pkT b):=by
 rw [qa]
 unfold dX
 rw [← CO b t.1,rN hb (nS h) (nR ht) (bM _),F4 hb (nS h) (nR ht) (bM _)]
theorem qm:∀ {L M:List Int},L.Perm M→L.Pairwise (fun x y=>y<x)→M.Pairwise (fun x y=>y<x)→L=M
 | [],M,h,_,_=>by rw [List.nil_perm] at h; exact h.symm
 | x::L,[],h,_,_=>by simp at h
 | x::L,y::M,h,h1,h2=>by
  rw [Kp] at h1 h2
  by_cases e:x=y
  ·subst e
   rw [qm ((List.perm_cons _).mp h) h1.2 h2.2]
  ·exfalso
   have hx:x∈M:=(G5.mp (h.subset Hg)).resolve_left e
   have hy:y∈L:=(G5.mp (h.symm.subset Hg)).resolve_left (Hu e)
   have a:=h1.1 y hy
   have b:=h2.1 x hx
   omega
theorem uL {A:List Trm} (hk:(A.map (·.1)).Nodup) {t:Trm} (h:t∈A):bf A t.1=some t.2:=by
 induction A with
 | nil=>cases h
 | cons u A ih =>
  rw [G3,IK] at hk
  rcases G5.mp h with rfl | h
  ·exact aP rfl
  ·rw [aJ fun e=>hk.1 (by rw [e]; exact List.mem_map_of_mem h)]
   exact ih hk.2 h
theorem zO {b:Int} (hb:0<b) {ts:List Trm} (h:∀ t∈ts,Bd b t.1) {L':List Int} (hp:L'.Perm (((aL ts).map (pkT b)).map (·.1))) (hs:L'.Pairwise fun x y=>y<x):L'=(gS (aL ts)).map fun t=>pk b t.1:=by
 have hg:=nS h
 have hk:=dM ts
 generalize aL ts=A at *
 refine qm (hp.trans ?_) hs ?_
 ·rw [HP]
  exact ((bD A).map _).symm
 ·rw [KN]
  have hs2:=gT (keys_nodup hk)
  have hm:∀ t∈gS A,t∈A:=fun t ht=>(bD A).subset ht
  have hk2:(gS A).Pairwise fun x y=>x.1≠y.1:=by
   have:=((bD A).map (·.1)).nodup_iff.mpr hk
   unfold List.Nodup at this
   rwa [KN] at this
  unfold gR jg at hs2
  refine M9.imp_of_mem (R:=fun x y=>(if true then cu y x=true else cu x y=true)∧x.1≠y.1) (fun {x y} hx hy q=>?_) (hs2.and hk2)
  obtain ⟨q1,q2⟩:=q
  rw [if_pos rfl] at q1
  unfold cu at q1
  rw [if_neg (Hu q2)] at q1
  exact zN hb (hg _ (hm _ hy)).1 (hg _ (hm _ hx)).1 (hg _ (hm _ hy)).2 (hg _ (hm _ hx)).2 q1
noncomputable def hrn (b:Int) (p:List Int):Int:=p.foldl (fun a x=>a * b+x) 0
theorem zP (b:Int) (p:List Int) (x:Int):hrn b (p++[x])=hrn b p * b+x:=by unfold hrn; rw [MT]; rfl
theorem qo (b:Int):∀ (p:List Int) (a:Int),p.foldl (fun a x=>a * b+x) a=a * b ^ p.length+dig b p.length (at0 p)
 | [],a=>by simp [dig]
 | x::p,a=>by
  rw [IL,qo b p]
  show (a * b+x) * b ^ p.length+_=a * b ^ (p.length+1)+(x * b ^ p.length+dig b p.length (at0 p))
  rw [JI,Int.pow_succ,K0,Int.mul_comm b (b ^ p.length)]
  omega
theorem uM (b:Int) (p:List Int):hrn b p=dig b p.length (at0 p):=by unfold hrn; rw [qo]; omega
theorem qp {b:Int} (k:Nat):∀ (m:Nat) (f:Nat→Int),(∀ i,m≤i→f i=0)→dig b (m+k) f=dig b m f * b ^ k
 | 0,f,h=>by
  rw [JF,gW (g:=fun _=>0) fun i _=>h i (HF _),gX]
  show 0=0 * b ^ k
  rw [J5]
 | m+1,f,h=>by
  rw [show m+1+k=(m+k)+1 by omega]
  unfold dig
  rw [qp k m (fun i=>f (i+1)) fun i hi=>h (i+1) (by omega),JI,Int.pow_add,K0]
theorem F7 {b:Int} {p:List Int} (h:p.length≤6):hrn b p * b ^ (6 - p.length)=pk b p:=by
 rw [uM,← qp (6 - p.length) p.length (at0 p) fun i hi=>cy hi]
 rw [show p.length+(6 - p.length)=6 by omega]
 rfl
theorem zQ {b:Int} (hb:0<b) {p:List Int} (h:∀ x∈p,0≤x∧x<b):0≤hrn b p∧hrn b p<b ^ p.length:=by
 rw [uM]
 exact fW hb _ _ fun i hi=>by rw [cH hi]; exact h _ (HW _)
theorem pk_bd {b:Int} (hb:0<b) {p:List Int} (h:Bd b p):0≤pk b p∧pk b p<b ^ 6:=fW hb _ _ fun i _=>D0 hb h i
theorem two_pos (W:Nat):(0:Int)<2 ^ W:=J7 (by decide)
theorem fJ (W:Nat):((2:Int) ^ W)=((2 ^ W:Nat):Int):=by rw [Int.natCast_pow]; rfl
theorem zR {W n:Nat} (hW:W≤10) (hn:n≤6):((2:Int) ^ W) ^ n≤2 ^ 60:=by
 rw [← Int.pow_mul,fJ,fJ]
 exact Int.ofNat_le.mpr (Nat.pow_le_pow_right (by decide) (Hi (J0 hW hn) (by decide)))
theorem uN {W:Nat} (hW:W≤10) {x:Int} {n:Nat} (hn:n≤6) (h0:0≤x) (h:x<((2:Int) ^ W) ^ n):x.natAbs<2 ^ 64:=by
 have:=zR hW hn
 have h60:(2:Int) ^ 60<2 ^ 64:=by decide
 have:x<((2 ^ 64:Nat):Int):=by rw [← fJ]; omega
 omega
theorem wm {x:Int} (W:Nat) (h:0≤x):Builtin.bitAnd x (1 * 2 ^ W - 1)=x % 2 ^ W:=by
 have hp:=two_pos W
 have e0:(1:Int) * 2 ^ W - 1=((2 ^ W - 1:Nat):Int):=by
  have:0<2 ^ W:=Nat.pow_pos (by decide)
  rw [K5,fJ]; omega
 rw [e0]
 show (match decide (0≤x),decide (0≤((2 ^ W - 1:Nat):Int)) with
  | true,true=>(((x.toNat &&& (((2 ^ W - 1:Nat):Int)).toNat:Nat)):Int)
  | true,false=>_ | false,true=>_ | false,false=>_)=_
 rw [decide_eq_true h,decide_eq_true (Int.natCast_nonneg _)]
 show ((x.toNat &&& (2 ^ W - 1):Nat):Int)=_
 rw [Nat.and_two_pow_sub_one_eq_mod,fJ,Int.natCast_emod,Int.toNat_of_nonneg h]
noncomputable def bQ (p q:List Int):List Int:=(HE (max p.length q.length)).map fun k=>at0 p k+at0 q k
noncomputable def cV (l r:Trm):Trm:=(bQ l.1 r.1,l.2 * r.2)
noncomputable def aF (A B:List Trm):List Trm:=A.flatMap fun l=>B.map (cV l)
theorem gZ (p q:List Int):(bQ p q).length=max p.length q.length:=by simp [bQ]
theorem bF (p q:List Int) (i:Nat):at0 (bQ p q) i=at0 p i+at0 q i:=by
 by_cases z:i<max p.length q.length
 ·rw [cH (by rw [gZ]; exact z)]; simp [bQ]
 ·rw [cy (by rw [gZ]; omega),cy (by omega),cy (by omega)]; rfl
theorem CP (b:Int) (p q:List Int):pk b (bQ p q)=pk b p+pk b q:=by
 unfold pk
 rw [← uI]
 exact gW fun i _=>bF p q i
theorem eZ {A B:List Trm} {t:Trm} (h:t∈aF A B):∃ l∈A,∃ r∈B,t=cV l r:=by
 unfold aF at h
 obtain ⟨l,hl,h⟩:=MZ.mp h
 obtain ⟨r,hr,rfl⟩:=HC.mp h
 exact ⟨l,hl,r,hr,rfl⟩
theorem mG (A B:List Trm) (l:Trm):aF (A++[l]) B=aF A B++B.map (cV l):=by
 unfold aF
 rw [List.flatMap_append,KO,M3,Io]
theorem cG (A B:List Trm):(aF A B).length=A.length * B.length:=by
 induction A with
 | nil=>simp [aF]
 | cons a A ih =>
  unfold aF at *
  rw [KO,HQ,ih,G4,HV,K1]
  omega
end EV
namespace EV
open PySem PySem.Spec PySem.Calls PyProof.Rows L2
theorem zS {K:GW} {H:Hp}:∀ {kvs:List (Key×D)} {ys:List (Key×V)},ys.map (·.1)=kvs.map (·.1)→aj K H (kvs.map (·.2)) (ys.map (·.2))→KVR K H kvs ys
 | [],[],_,_=>.nil
 | [],y::ys,h,_=>by simp at h
 | x::kvs,[],h,_=>by simp at h
 | x::kvs,y::ys,h,r=>by
  rw [G3,G3] at h r
  obtain ⟨v,t,e,r1,r2⟩:=aB.mp r
  injection e with e1 e2
  injection h with h1 h2
  subst e1 e2
  exact .cons ⟨h1.symm,r1⟩ (zS h2 r2)
section
variable {P:Program} {w:World} {K:GW} {mg:Str→Option Value} {base:Heap} {k:Nat} {N:List Str} {sc:Scope} {bk:Bool} {c:Ctx P w K mg base k N sc bk} {ρ:List Sl} {pos:Pos} {a b:Expr} {R:D→Prop}
theorem F8 (h:EvE c a ρ fun x=>EvE c b ρ fun y=>∃ (kvs:List (Key×D)) (kk:Key) (d:D),x=.fdK (kvs.map (·.1)) (kvs.map (·.2))∧y.vD=some kk∧bf kvs kk=some d∧R d) (hs:NoSl b:=by with_unfolding_all exact fun _ _=>rfl):EvE c (.Subscript a b pos) ρ R:=fun σ H Hf Q S q =>
 bu (BK c.hu pbE pbE hs) (h σ H Hf _ S fun x v H1 Hf1 h1 r1 g1=>h1 σ H1 Hf1 _ (S.grw g1) fun y u H2 Hf2 ⟨kvs,kk,d,e1,e2,e3,hR⟩ r2 g2=>by
  subst e1
  obtain ⟨p,ys,o,rfl,k1,k2,k3⟩:=gu.mp r1
  have kv:=(zS k2 k3).mono g2.f
  have rel:=kv.val kk
  rw [e3] at rel
  rw [gC e2 r2]
  cases z:jP ys kk with
  | none=>rw [z] at rel; exact rel.elim
  | some v =>
   rw [z] at rel
   exact ⟨p,v,rfl,.inl ⟨ys,kk,.inr ⟨o,g2.b _ _ (g2.f _ _ k1)⟩,rfl,z.symm⟩,q d v H2 Hf2 hR rel (g1.trans g2)⟩)
end
end EV
namespace EV
open PySem PySem.Spec PyProof.Rows L2
theorem qt {A:List Trm} {l:List Int} {n:Int} {t:Trm} (h:t∈putD A l n):t=(l,n)∨t∈A:=by
 unfold putD at h
 split at h
 ·obtain ⟨u,hu,e⟩:=HC.mp h
  split at e
  ·rename_i q; subst e; exact .inl (by rw [q])
  ·subst e; exact .inr hu
 ·rcases Hy.mp h with q | q
  ·exact .inr q
  ·simp at q; exact .inl q
theorem F9 {A:List Trm} {c:Nat} (h:∀ t∈A,t.2.natAbs≤c) (l:List Int):((bf A l).getD 0).natAbs≤c:=by
 unfold bf
 cases e:A.find? (fun kv=>decide (kv.1=l)) with
 | none=>exact HF _
 | some u=>exact h u (List.mem_of_find?_eq_some e)
theorem uO {m:Nat}:∀ (ts A:List Trm) (c:Nat),(∀ t∈A,t.2.natAbs≤c)→(∀ t∈ts,t.2.natAbs≤m)→∀ t∈ts.foldl dX A,t.2.natAbs≤c+ts.length * m
 | [],A,c,h,_,t,ht=>by simpa using h t ht
 | u::ts,A,c,h,g,t,ht=>by
  have:=uO (m:=m) ts (dX A u) (c+m) (fun t' ht'=>by
   rcases qt ht' with rfl | q
   ·have a:=F9 h (trim u.1)
    have b:=g u Hg
    show ((bf A (trim u.1)).getD 0+u.2).natAbs≤c+m
    omega
   ·have:=h t' q; omega) (fun t h=>g t (Hl _ h)) t ht
  rw [HV,K1]
  omega
theorem Ga {m:Nat} {ts:List Trm} (h:∀ t∈ts,t.2.natAbs≤m):∀ t∈aL ts,t.2.natAbs≤ts.length * m:=fun t ht=>by
 have:=uO ts [] 0 (by simp) h t ht
 omega
theorem wo {n:Nat} (l m:List Int):EqO (n+1) (.tup (l.map D.int)) (.tup (m.map D.int)):=.tup fun i d e h1 h2=>by
 simp only [G9,Hj] at h1 h2
 obtain ⟨a,_,rfl⟩:=h1
 obtain ⟨b,_,rfl⟩:=h2
 exact .sc rfl
theorem zT {n:Nat} (x y:Trm):EqO (n+2) (av x) (av y):=.tup fun i d e h1 h2=>by
 rcases i with _ | _ | i
 ·simp at h1 h2; subst h1 h2; exact wo _ _
 ·simp at h1 h2; subst h1 h2; exact .sc rfl
 ·simp at h1
theorem zU {n:Nat} (L M:List Trm):EqO (n+3) (.lst (L.map av)) (.lst (M.map av)):=.lst fun i d e h1 h2=>by
 simp only [G9,Hj] at h1 h2
 obtain ⟨a,_,rfl⟩:=h1
 obtain ⟨b,_,rfl⟩:=h2
 exact zT a b
theorem zV (es:List D):kW [] es:=fun i d e h _=>by simp at h
theorem mH {d e:D} {ds es:List D} (h:EqO 40 d e) (t:kW ds es):kW (d::ds) (e::es):=fun i a b h1 h2=>by
 cases i with
 | zero=>simp at h1 h2; subst h1 h2; exact h
 | succ i=>exact t i a b (by simpa using h1) (by simpa using h2)
theorem qu {ds:List D} {T:Bool→Prop} (h:kW ds ds) (t:T true):EqP (.lst ds) (.lst ds) T:=BV ⟨h,by rw [decide_eq_true rfl]; exact t⟩
theorem kE {α:Type} (xs:List α) (a b:Nat):(EV.cutD xs (some (a:Int)) (some (b:Int))).length≤b - a:=by
 unfold EV.cutD HT.sIx
 simp only [show ¬ ((a:Int)<0) by omega,show ¬ ((b:Int)<0) by omega,if_false,HN,LK,Ij]
 omega
section
variable {P:Program} {w:World} {K:GW} {mg:Str→Option Value} {base h:Heap}
theorem int_mk {x:Str} {i:Int} {tk:Tok} (KX:K.In h) (G:h.Ns mainGlobals mg) (a:Ig K mainGlobals x=some (some (.int i tk))):∃ tk:Tok,mg x=some (.int i tk):=⟨tk,PySem.W.mg_of KX G a⟩
theorem uP {k:Nat} {x:Str} {st:Stmt} {F:FnM} {ps:List Str} {f:Addr} {fd:FuncData} (m:mg x=some (.ref f)) (Fu:Fun K x x st f fd) (ok:aX P w K mg base (CXE P w) k f fd ps (spM K F))
 (hb:∀ (kV doc pm:Value) (an:Option Addr) (cdv ct:Value) (us:List Value),us.length=ps.length→bindArgs (Jm x x (cZ st) (ay st) (aa st) .none kV doc pm an cdv ct) ⟨us,[]⟩=pure (ps.zip us)):vW P w K mg base k x F :=
 ⟨f,fd,ps,m,Fu.kp,Fu.binds hb,ok⟩
end
theorem cI {n:Nat} (h:n≤100000):n<sizeLine:=Jz h (by decide)
theorem sz9 {n:Nat} (h:n≤100000):n≤sizeLine:=JH (cI h)
structure zW (P:Program) (w:World) (K:GW) (mg:Str→Option Value) (base:Heap) (k:Nat) (f:Addr) (F:Fn):Prop where
 ex:∃ fd ps,Jb K (.ref f)=true∧Binds K fd ps []∧aX P w K mg base (CXE P w) k f fd ps (spF K F)
section
variable {P:Program} {w:World} {K:GW} {mg:Str→Option Value} {base:Heap} {k:Nat} {N:List Str} {sc:Scope} {bk:Bool} {c:Ctx P w K mg base k N sc bk}
variable {a b e:Expr} {es rest:List Expr} {pos:Pos} {ρ:List Sl} {R:D→Prop} {T:Bool→Prop}
theorem Cal.at_ {j:Nat} {x:Str} {F:Fn} (h:Cal P w K mg base j x F):∃ f,mg x=some (.ref f)∧zW P w K mg base j f F:=by
 obtain ⟨f,fd,ps,a,b,c,d⟩:=h.ex
 exact ⟨f,a,fd,ps,b,c,d⟩
theorem zX {x:Str} {f:Addr} (hm:mg x=some (.ref f)) (hR:R (.adr f)) (hg:sc.names.lookup x=some .globalImplicit:=by walk_at "u") (hd:(x == ("__debug__":Str))=false:=by decide) :
 EvE c (.Name x pos) ρ R:=fun σ H Hf Q S q =>
 bu (sR (X:=c.X) (v:=.ref f) (u:=.ref f) (by unfold Gl HH; rw [c.esc]; exact hg) (by rw [c.emg]; exact hm) rfl hd) (q _ _ H Hf hR (dH.mpr rfl) (.refl S.sb))
theorem zY {f:Addr} {F:Fn} {j:Nat} (h:zW P w K mg base j f F) (hj:j≤k):Jb K (.ref f)=true ∧
 ∀ (pins:List (Addr×Obj)) (σ:L2.St) (H Hf:Hp) (s:Shared) (us:List Value) (vs:List V) (ds:List D) (r:Res) (Q:VK),Inv c.X pins σ H s→aU c σ H Hf ρ→Vals vs us→aj c.X.K Hf ds vs→F ds r →
  (∀ sl v H' Hf',r=.ok sl→aM c.X.K (fun p=>H p=none) H' Hf' sl v→Grw H Hf H' Hf'→Q v H')→(∀ C,r=.ex C→c.RX C ρ)→wpAny (model c.X.prog c.X.w) c.X.A (call (.ref f) us) (EP c.X pins σ Q) c.X.xe s:=by
 obtain ⟨fd,ps,hk,hb,hF⟩:=h.ex
 refine ⟨hk,fun pins σ H Hf s us vs ds r Q I S rv rs hr q hx=>?_⟩
 have hF':aX c.X.prog c.X.w c.X.K c.X.mg c.X.base (CXE c.X.prog c.X.w) k f fd ps (spF c.X.K F):=by rw [c.eP,c.ew,c.eK,c.emg,c.eb]; exact hF.mono hj
 have hsp:spF c.X.K F vs H Q (fun cv ao H'=>∃ C,r=.ex C∧cv=.ref C∧aG H H'):=by
  refine ⟨Hf,ds,r,S.bas.b,rs,hr,?_⟩
  cases r with
  | ok sl=>exact fun v H' Hf' g rs2=>q sl v H' Hf' rfl rs2 g
  | ex C=>exact fun a H' s2=>⟨C,rfl,rfl,s2⟩
 have hl:us.length=ps.length:=by rw [← rv.length]; exact hF'.len _ _ _ _ hsp
 have hb':Binds c.X.K fd ps []:=by rw [c.eK]; exact hb
 have hb2:=hb' s us I.kIn (by simpa using hl)
 rw [Io] at hb2
 refine KC (Kx (hF'.run c.X.A c.X.stack s H ⟨us,[]⟩ us vs Q _ c.room I.By hb2 rv hsp) fun r' s' hq=>?_)
 cases r' with
 | error e =>
  obtain ⟨a,C,H',rfl,hE,C',e1,e2,sm⟩:=hq
  cases e2
  exact c.exc C a pins σ H Hf ρ s H' s' I S (hx C e1) hE sm
 | ok fl =>
  cases fl with
  | ret u=>exact I.after hq
  | next=>exact Ih hq
  | brk=>exact Ih hq
  | cont=>exact Ih hq
theorem nT {x:Str} {p:Pos} {F:Fn} {f:Addr} {j i:Nat} {R:Sl→Prop} (h:zW P w K mg base j f F) (hj:j≤k) (hN:At N i x) (hi:At ρ i (.va (.adr f)))
 (ha:EvA c (e::es) ρ fun ds=>∃ r,F ds r∧RsP c ρ R r)
 (hdb:(x == ("__debug__":Str))=false:=by decide) (hcd:(x == ("__classdict__":Str))=false:=by decide) (he:∀ env,starEach (e::es) env=(false,eval e env)::starEach es env:=by intro _; walk_at "u")
 (hpl:∀ env,(backTo pos (starEach es env)).any (·.1)=false:=by intro _; walk_at "u"):EvX c (.Call (.Name x p) (e::es) [] pos) ρ R:=fun σ H Hf Q S q pins s I=>by
 obtain ⟨hk,run⟩:=zY (c:=c) (ρ:=ρ) h hj
 obtain ⟨v0,e0,r0⟩:=S.va hi.get
 rw [dH] at r0
 subst r0
 refine I0 (thn (c.jU hN hdb hcd pins s σ H (fun v H1=>v=.ref f∧H1=H) I ⟨_,e0,rfl,rfl⟩) fun fv s1 ⟨v,H1,I1,rv,e1,e2⟩=>?_)
 subst e1 e2
 have ef:fv=.ref f:=rv
 subst ef
 refine Lr (h₀:=c.X.base) I1.ok.mod.kin (by rw [c.eK]; exact hk) (thn (ha σ _ Hf (fun vs H1=>∃ Hf1 ds,(∃ r,F ds r∧RsP c ρ R r)∧aj c.X.K Hf1 ds vs∧Grw _ Hf H1 Hf1) S (fun ds vs H1 Hf1 hr rs g=>⟨Hf1,ds,hr,rs,g⟩) pos pins s1 I1) fun us s2 ⟨vs,H2,I2,rv,Hf1,ds,⟨r,hF,hR⟩,rs,g⟩=>⟨I2.kIn,?_⟩) (he _) (hpl _)
 refine run pins σ H2 Hf1 s2 us vs ds r Q I2 (S.grw g) rv rs hF (fun sl v H' Hf' e1 rs2 g2=>?_) fun C e1=>?_
 ·subst e1
  exact q sl v H' Hf' hR (rs2.weak fun p hp=>g.s.free hp) (g.trans g2)
 ·subst e1
  exact hR
end
end EV
namespace EV
open PySem PySem.Spec PySem.Calls PyProof.Rows L2
section
variable {X:Cx} {pins:List (Addr×Obj)} {σ:L2.St} {H Hf:Hp} {s:Shared} {E:Value→Shared→Prop}
theorem wu {v d:Addr} {o:Obj} {u:HO} {ds:List D} {Q:Value→Shared→Prop} (hc:X.calm=true) (I:Inv X pins σ H s) (sb:aG Hf H) (hv:s.heap.IsItemsView v d) (hH:Hf d=some (.frz o u)) (hd:HO.dct u) (hp:Paired (lY X.K Hf) ds (bR u))
 (hQ:∀ (a:Addr) (s':Shared) (H' Hf':Hp) (xs:List V),Inv X pins σ H' s'→H' a=some (.lst xs)→H a=none→Hf' a=none→aj X.K Hf' ds xs→Grw H Hf H' Hf'→Q (.ref a) s'):wpAny (model X.prog X.w) X.A (call (.type "list") [.ref v]) Q E s:=by
 obtain ⟨ho,ok⟩:=(show aS X.prog X.w H s.heap d (.frz o u) from I.hok d _ (sb _ _ hH))
 obtain ⟨_,_,_,_,_,_,hz⟩:=cE ok hd ho
 have h1:X.A.in1.handled=none:=I.ok.hd hc
 have h2:X.A.in1.frames=some X.stack:=I.ok.frames
 refine callType_codes (Q₁:=fun obj s₁=>obj=.ref s.heap.objs.size∧s₁={ s with heap:=s.heap.push { cls:=.type "list",data:=.seq #[] } }) F.called_list (F.typeCall_list_1 _) F.entry_list_init
  (code_list_new _ ⟨rfl,rfl⟩) fun obj s₁ h₁=>?_
 obtain ⟨rfl,rfl⟩:=h₁
 have hS:(s.heap.push { cls:=.type "list",data:=.seq #[] }).get? s.heap.objs.size=some { cls:=.type "list",data:=.seq #[] }:=G7 _ rfl
 refine ⟨⟨_,hS,rfl⟩,F.args_list_init_2 _ _,?_⟩
 show wpAny _ X.A.in1.in1 (do let old ← JS (.ref s.heap.objs.size); Jw (.ref s.heap.objs.size) (fun _=> #[]); letGo old.toList.reverse; Lb (.ref s.heap.objs.size) (.ref v) .none) _ _ _
 refine GU (J3 hS rfl ?_)
 have HS:H s.heap.objs.size=none:=I.hok.fresh (GZ _)
 have I1:Inv X pins σ (upd H s.heap.objs.size (.lst [])) { s with heap:=s.heap.push { cls:=.type "list",data:=.seq ([]:List Value).toArray },toks:=s.toks }:=I.BG (t':=s.toks) (ys:=[]) (its:=[]) .nil (HF _)
 refine GU (IQ hS rfl ?_)
 have I2:=I1.qV (f:=fun _=>(#[]:Array Value)) (its':=[]) (ys:=[]) (t':=s.toks) ah (n:=0) hS (by simp) .nil (HF _)
 rw [mR] at I2
 refine GU (J6 ?_)
 have k1:∀ b o,s.heap.get? b=some o→((s.heap.push { cls:=.type "list",data:=.seq ([]:List Value).toArray }).update s.heap.objs.size (HG fun _=>(#[]:Array Value))).get? b=some o:=fun b o e=>by
  rw [Jr _ _ _ _ (Hs (G2 e))]
  exact G1 _ e
 have up:∀ s':Shared,(∀ b o,s.heap.get? b=some o→s'.heap.get? b=some o)→s'.heap.IsItemsView v d:=fun s' k=>by obtain ⟨q,q1,q2⟩:=hv; exact ⟨q,k _ _ q1,q2⟩
 have hne:s.heap.objs.size≠v:=JG (by obtain ⟨_,q,_⟩:=hv; exact G2 q)
 have g0:Grw H Hf (upd H s.heap.objs.size (.lst [])) Hf:=Grw.eG sb HS
 refine mq (X:=cxA X X.A.in1) (T:="dict_items") (ds:=ds) (H:=H) (Hf:=Hf) (R:=wants (fun r s₂=>r=.none∧Q (.ref s.heap.objs.size) s₂) E) hc h1 h2 (ko I2 (fun _=>h1) h2) sb HS hne ?_ (by rw [IZ hp]; exact hz) (by decide) (fun s' k=>(up s' fun b o e=>k b o (k1 b o e)).typeIs) (fun A s' Q E q h=>vR q h) ?_ fun s' H' Hf' xs I' hS' hfS hr g=>⟨rfl,hQ _ s' H' Hf' xs (gQ I.ok I') hS' HS hfS hr g⟩
 ·show _<(Heap.update _ _ _).objs.size
  rw [M5]
  show _<(Heap.push _ _).objs.size
  rw [IY]; exact Ks _
 ·refine HU (Cy (X:=cxA X X.A.in1) (tg:=.Name "x" ⟨0,0,0,0⟩) (ko I2 (fun _=>h1) h2) (up _ k1) (g0.b _ _ hH) hd) (fun itv s2 ⟨it,es,ep,e,hit,I3,Tn,t0,hf,k2⟩=>?_) fun _ _ x=>x
  exact ⟨it,_,_,e,hit,I3,Tn,t0,hf,k2,j5 hH hp⟩
end
section
variable {P:Program} {w:World} {K:GW} {mg:Str→Option Value} {base:Heap} {k:Nat} {N:List Str} {sc:Scope} {bk:Bool} {c:Ctx P w K mg base k N sc bk} {ρ:List Sl} {ap cp np pos kp kp1:Pos} {e:Expr} {j:Nat}
theorem qv {R:Sl→Prop} (hm:mg "list"=none) (h:EvE c e ρ fun d=>∃ ds,d.pairs=some ds∧R (.ow ds)) (hg:sc.names.lookup (GV "list")=some .globalImplicit:=by walk_at "u")
 (hb:∀ env,attributeBase e "items" env (eval e env)=eval e env:=by intro _; walk_at "u") (hl:(ap.endLine == cp.line)=true:=by walk_at "u") :
 EvX c (.Call (.Name "list" np) [.Call (.Attribute e "items" ap) [] [] cp] [] pos) ρ R:=fun σ H Hf Q S q pins s I=>by
 have hgl:Gl c.X "list":=by unfold Gl HH; rw [c.esc]; exact hg
 refine I0 (bX I hgl (by rw [c.emg]; exact hm) (show bootBuiltins "list"=some (.type "list") by decide +kernel) ?_ (by decide) (by decide))
 have hpa:=br (X:=c.X) (e:=.Call (.Attribute e "items" ap) [] [] cp) (es:=[]) (zu pbE (hb _) hl) cA (by rfl)
 refine JP (thn (hpa pos pins s σ H (fun vs H1=>∃ x,vs=[x]∧∃ (v d:Addr) (o:Obj) (u:HO) (ds:List D) (H0 Hf0:Hp),x=.ref v∧H1=upd H0 v (.ext fun h=>h.IsItemsView v d)∧H0 v=none∧Hf0 d=some (.frz o u)∧HO.dct u∧Paired (lY c.X.K Hf0) ds (bR u)∧Grw H Hf H0 Hf0∧R (.ow ds)) I ?_) fun us s1 ⟨vs,H1,I1,r1,x,ex,v,d,o,u,ds,H0,Hf0,e1,e2,e3,e4,e5,e6,e8,e9⟩=>?_) (by rfl) (by rfl)
 ·exact h σ H Hf _ S fun d v H1 Hf1 ⟨ds,hp,hR⟩ rv g=>by
   obtain ⟨a,o,u,e1,e2,e3,e4⟩:=lZ hp rv
   exact ⟨a,o,u,e1,g.b _ _ e2,e3,fun vw hv=>⟨_,rfl,vw,a,o,u,ds,H1,Hf1,rfl,rfl,hv,e2,e3,e4,g,hR⟩⟩
 ·subst ex e1 e2
  have eu:us=[.ref v]:=by
   cases r1 with
   | cons q1 q2=>cases q2; cases q1; rfl
  subst eu
  have g1:Grw H0 Hf0 (upd H0 v (.ext fun h=>h.IsItemsView v d)) Hf0:=Grw.eG e8.b e3
  obtain ⟨hvw,_⟩:=(show aS c.X.prog c.X.w _ s1.heap v (.ext fun h=>h.IsItemsView v d) from I1.hok v _ ah)
  refine wu c.calm I1 g1.b hvw e4 e5 e6 fun a s' H' Hf' xs I' hS' na hfa hr g=>?_
  have gg:=(e8.trans g1).trans g
  exact ⟨.ref a,H',I',rfl,q (.ow ds) _ _ Hf' e9 ⟨a,xs,rfl,e8.s.free (g1.s.free na),hS',hfa,hr⟩ gg⟩
end
section
variable {X:Cx} {pins:List (Addr×Obj)} {σ:L2.St} {H Hf:Hp} {s:Shared} {E:Value→Shared→Prop}
theorem zZ {K:GW}:∀ {ds:List D} {xs:List V} {us:List Value},aj K Hf ds xs→Vals xs us→Paired (fun d u=>Stn K Hf d u) ds us
 | [],xs,us,h,v=>by rw [aq] at h; subst h; cases v; exact .nil
 | t::L,xs,us,h,v=>by
  obtain ⟨x,r,rfl,h1,h2⟩:=aB.mp h
  cases v with
  | cons r1 r2=>exact .cons ⟨x,r1,h1⟩ (zZ h2 r2)
theorem z0 {K:GW}:∀ {ds:List D} {us:List Value},Paired (fun d u=>Stn K Hf d u) ds us→∃ xs,aj K Hf ds xs∧Vals xs us
 | _,_,.nil=>⟨[],aq.mpr rfl,.nil⟩
 | _,_,.cons ⟨x,r1,h1⟩ t=>by
  obtain ⟨xs,h2,h3⟩:=z0 t
  exact ⟨x::xs,.cons h1 h2,.cons r1 h3⟩
theorem rP {l:Addr} {ys:List V} {ds:List D} {Q:Value→Shared→Prop} (hc:X.calm=true) (I:Inv X pins σ H s) (sb:aG Hf H) (hl:SqL X.K Hf l ys) (hr:aj X.K Hf ds ys) (hd:∀ d∈ds,∃ es,d=.lst es)
 (hQ:∀ (ds':List D) (xs':List V) (s':Shared) (a:Addr),ds'.Perm ds→aj X.K Hf ds' xs'→H a=none→Inv X pins σ (upd H a (.lst xs')) s'→Q (.ref a) s') :
 wpAny (model X.prog X.w) X.A (call (.builtin "sorted") [.ref l] [(GV "key",.builtin "len")]) Q E s:=by
 refine Mq kind_sorted plain_sorted entry_sorted (SR.jf _ _) ?_
 unfold Builtin.«sorted»
 refine GU (m:=checkCount "sorted" 1 1 _) (GX ?_)
 obtain ⟨its,rv,p,hz⟩:=I.list (sb.seq hl)
 have el:=rv.length
 refine GU (collect_list p.isList ?_ (by omega))
 have I2:Inv X pins σ H { s with heap:=(s.heap.push (seqObj "list" #[] 0)).update s.heap.objs.size (HG (· ++its.toArray)),toks:=s.toks }:=I.kept fun c o e=>by
  rw [Jr _ _ _ _ (Hs (G2 e))]
  exact G1 _ e
 generalize (s.heap.push (seqObj "list" #[] 0)).update s.heap.objs.size (HG (· ++its.toArray))=h0 at I2 ⊢
 refine GU (LW ?_ (by omega))
 have ha:(h0.push (seqObj "list" its.toArray 0)).get? h0.objs.size=some (seqObj "list" its.toArray 0):=G7 _ rfl
 have Ha:H h0.objs.size=none:=I2.hok.fresh (GZ _)
 have k2:∀ b o,h0.get? b=some o→(h0.push (seqObj "list" its.toArray 0)).get? b=some o:=fun b o e=>G1 _ e
 have I3:Inv X pins σ H { s with heap:=h0.push (seqObj "list" its.toArray 0),toks:=s.toks }:=I2.kept (t':=s.toks) k2
 have pL:=zZ hr rv
 refine GU (IF (wpAny_call_entry_kw slot_list_sort ⟨_,ha,rfl⟩ entry_list_sort (SR.zk ha (by omega) (fun v hv=>?_) fun out h' tk e hp he hk=>⟨_,rfl,?_⟩) (SR.fT _ _)))
 ·obtain ⟨d,hd',x,r1,h1⟩:=SR.fS pL v hv
  obtain ⟨es,rfl⟩:=hd d hd'
  obtain ⟨b,zs,rfl,q1,q2⟩:=aH.mp h1
  cases r1
  obtain ⟨its',rv',p',hz'⟩:=I3.list (sb.seq q1)
  have e':=rv'.length
  refine ⟨b,its'.toArray,rfl,?_,p'.isList,by simp only [Hq]; omega⟩
  rintro rfl
  obtain ⟨_,_,p2,_⟩:=I2.list (sb.seq q1)
  obtain ⟨o,q,_⟩:=p2.isList
  exact IS _ (G2 q)
 ·obtain ⟨ds',p1,p2⟩:=SR.eV hp pL
  obtain ⟨xs',r',v'⟩:=z0 p2
  have hlen:out.toList.length=its.length:=hp.length_eq
  refine GX ⟨_,rfl,hQ ds' xs' _ _ p1 r' Ha ?_⟩
  refine I2.laid (t':=tk) (a:=h0.objs.size) (fun b o q=>hk b o (Hs (G2 q)) (k2 b o q)) (GZ _) ⟨by have:=v'.length; omega,out.toList,e,v',by simpa using he⟩
end
section
variable {P:Program} {w:World} {K:GW} {mg:Str→Option Value} {base:Heap} {k:Nat} {N:List Str} {sc:Scope} {bk:Bool} {c:Ctx P w K mg base k N sc bk} {ρ:List Sl} {ap cp np pos kp kp1:Pos} {e:Expr} {j:Nat}
theorem wz {R:Sl→Prop} (hm:mg "sorted"=none) (hml:mg "len"=none) (h:EvE c e ρ fun d=>∃ ds,d=.lst ds∧Sd (∀ x∈ds,∃ es,x=.lst es) (∀ ds':List D,ds'.Perm ds→R (.ow ds')))
 (hg:sc.names.lookup (GV "sorted")=some .globalImplicit:=by walk_at "u") (hgl:sc.names.lookup (GV "len")=some .globalImplicit:=by walk_at "u")
 (he:∀ env,starEach [e] env=(false,eval e env)::starEach [] env:=by intro _; walk_at "u")
 (hpl:∀ env,(backTo pos (starEach [e] env)).any (·.1)=false:=by intro _; walk_at "u") :
 EvX c (.Call (.Name "sorted" np) [e] [⟨some "key",.Name "len" kp1,kp⟩] pos) ρ R:=fun σ H Hf Q S q pins s I=>by
 have hgs:Gl c.X "sorted":=by unfold Gl HH; rw [c.esc]; exact hg
 have hgl':Gl c.X "len":=by unfold Gl HH; rw [c.esc]; exact hgl
 refine I0 (bX I hgs (by rw [c.emg]; exact hm) (show bootBuiltins "sorted"=some (.builtin "sorted") by decide +kernel) ?_ (by decide) (by decide))
 refine callWith_kw ?_ (by rw [he]; rfl) (hpl _)
 have hpa:=br (X:=c.X) (e:=e) (es:=[]) pbE cA (he _)
 refine thn (hpa pos pins s σ H (fun vs H1=>∃ x,vs=[x]∧∃ (ds:List D) (Hf1:Hp),Rep c.X.K Hf1 (.lst ds) x∧(∀ x∈ds,∃ es,x=.lst es)∧Grw H Hf H1 Hf1∧∀ ds':List D,ds'.Perm ds→R (.ow ds')) I ?_) fun us s1 ⟨vs,H1,I1,r1,x,ex,ds,Hf1,e1,e7,e8,e9⟩=>?_
 ·exact h σ H Hf _ S fun d v H1 Hf1 ⟨ds,hp,⟨hn,hR⟩⟩ rv g=>⟨_,rfl,ds,Hf1,by rw [← hp]; exact rv,hn,g,hR⟩
 ·subst ex
  obtain ⟨a0,ys,rfl,hs,hr⟩:=aH.mp e1
  have eu:us=[.ref a0]:=by
   cases r1 with
   | cons q1 q2=>cases q2; cases q1; rfl
  subst eu
  refine kws_cons (bX I1 hgl' (by rw [c.emg]; exact hml) (show bootBuiltins "len"=some (.builtin "len") by decide +kernel) ?_ (by decide) (by decide))
  refine kws_nil ?_
  exact rP c.calm I1 e8.b hs hr e7 fun ds' xs' s' a p1 p3 na I3=>⟨.ref a,_,I3,rfl,q (.ow ds') _ _ Hf1 (e9 ds' p1) ⟨a,xs',rfl,e8.s.free na,ah,e8.b.free na,p3⟩ (e8.trans (Grw.eG e8.b na))⟩
end
mutual
def Sh.d:Sh→D
 | .v d=>d
 | .l ds=>.lst ds
 | .la _ ds=>.lst ds
 | .t ss=>.tup (Sh.ds ss)
 | .ls ss=>.lst (Sh.ds ss)
def Sh.ds:List Sh→List D
 | []=>[]
 | s::ss=>s.d::Sh.ds ss
end
section
variable {K:GW} {H Hf H' Hf':Hp}
noncomputable abbrev Fp:=List (Addr×List V)
mutual
theorem aR.fz:∀ (s:Sh) {v:V} {fp:Fp},aR K H Hf s v fp→∀ a∈fp,H a.1=some (pl a.1 a.2)∧Hf a.1=none
 | .v d,_,_,h=>by simp only [aR] at h; obtain ⟨_,rfl⟩:=h; intro a ha; cases ha
 | .l ds,_,_,h=>by
  simp only [aR] at h
  obtain ⟨p,xs,e,h1,h2,h3,rfl⟩:=h
  intro a ha
  obtain rfl:=Ho.mp ha
  exact ⟨h1,h2⟩
 | .la p ds,_,_,h=>by
  simp only [aR] at h
  obtain ⟨xs,e,h1,h2,h3,rfl⟩:=h
  intro a ha
  obtain rfl:=Ho.mp ha
  exact ⟨h1,h2⟩
 | .t ss,_,_,h=>by
  simp only [aR] at h
  obtain ⟨a,xs,e,h1,h2⟩:=h
  exact aA.fz ss h2
 | .ls ss,_,_,h=>by
  simp only [aR] at h
  obtain ⟨p,xs,fq,e,h1,h2,h3,rfl⟩:=h
  intro a ha
  rcases G5.mp ha with rfl | ha
  ·exact ⟨h1,h2⟩
  ·exact aA.fz ss h3 a ha
theorem aA.fz:∀ (ss:List Sh) {xs:List V} {fp:Fp},aA K H Hf ss xs fp→∀ a∈fp,H a.1=some (pl a.1 a.2)∧Hf a.1=none
 | [],_,_,h=>by simp only [aA] at h; obtain ⟨_,rfl⟩:=h; intro a ha; cases ha
 | s::ss,_,_,h=>by
  simp only [aA] at h
  obtain ⟨x,r,f1,f2,e,h1,h2,rfl⟩:=h
  intro a ha
  rcases Hy.mp ha with ha | ha
  ·exact aR.fz s h1 a ha
  ·exact aA.fz ss h2 a ha
end
mutual
theorem aR.rep (sf:aG Hf Hf'):∀ (s:Sh) {v:V} {fp:Fp},(∀ a∈fp,Hf' a.1=some (.lst a.2))→aR K H Hf s v fp→Rep K Hf' s.d v
 | .v d,_,_,_,h=>by simp only [aR] at h; exact h.1.mono sf d
 | .l ds,_,_,hk,h=>by
  simp only [aR] at h
  obtain ⟨p,xs,e,h1,h2,h3,rfl⟩:=h
  exact aH.mpr ⟨p,xs,e,.inl (.inl (hk _ Hg)),h3.mono sf ds⟩
 | .la p ds,_,_,hk,h=>by
  simp only [aR] at h
  obtain ⟨xs,e,h1,h2,h3,rfl⟩:=h
  exact aH.mpr ⟨p,xs,e,.inl (.inl (hk _ Hg)),h3.mono sf ds⟩
 | .t ss,_,_,hk,h=>by
  simp only [aR] at h
  obtain ⟨a,xs,e,h1,h2⟩:=h
  exact aC.mpr ⟨a,xs,e,ak sf h1,aA.rep sf ss hk h2⟩
 | .ls ss,_,_,hk,h=>by
  simp only [aR] at h
  obtain ⟨p,xs,fq,e,h1,h2,h3,rfl⟩:=h
  exact aH.mpr ⟨p,xs,e,.inl (.inl (hk _ Hg)),aA.rep sf ss (fun a ha=>hk a (Hl _ ha)) h3⟩
theorem aA.rep (sf:aG Hf Hf'):∀ (ss:List Sh) {xs:List V} {fp:Fp},(∀ a∈fp,Hf' a.1=some (.lst a.2))→aA K H Hf ss xs fp→aj K Hf' (Sh.ds ss) xs
 | [],_,_,_,h=>by simp only [aA] at h; exact aq.mpr h.1
 | s::ss,_,_,hk,h=>by
  simp only [aA] at h
  obtain ⟨x,r,f1,f2,e,h1,h2,rfl⟩:=h
  exact aB.mpr ⟨x,r,e,aR.rep sf s (fun a ha=>hk a (Jx _ ha)) h1,aA.rep sf ss (fun a ha=>hk a (Il _ ha)) h2⟩
end
noncomputable def ji (H:Hp) (fp:Fp):Hp:=fun a=>if a∈fp.map (·.1) then none else H a
noncomputable def iK (g:Addr→List V→HO):Fp→Hp→Hp
 | [],H=>H
 | p::fp,H=>upd (iK g fp H) p.1 (g p.1 p.2)
noncomputable def asL:Addr→List V→HO:=fun _ xs=>.lst xs
theorem dN {fp:Fp} {a:Addr} (h:a∉fp.map (·.1)):ji H fp a=H a:=if_neg h
theorem jD {fp:Fp} {a:Addr} (h:a∈fp.map (·.1)):ji H fp a=none:=if_pos h
theorem bg {g:Addr→List V→HO} {a:Addr}:∀ {fp:Fp},a∉fp.map (·.1)→iK g fp H a=H a
 | [],_=>rfl
 | p::fp,h=>by
  rw [G3,G5,not_or] at h
  show upd _ _ _ a=_
  rw [ai h.1,bg h.2]
theorem g6 {g:Addr→List V→HO}:∀ {fp:Fp},(fp.map (·.1)).Nodup→∀ a∈fp,iK g fp H a.1=some (g a.1 a.2)
 | p::fp,nd,a,ha=>by
  rw [G3,IK] at nd
  show upd _ _ _ a.1=_
  rcases G5.mp ha with rfl | ha
  ·exact ah
  ·rw [ai fun e=>nd.1 (by rw [← e]; exact HC.mpr ⟨a,ha,rfl⟩)]
   exact g6 nd.2 a ha
theorem cW {fp:Fp} {a:Addr} (h:a∈fp.map (·.1)):∃ p∈fp,p.1=a:=HC.mp h
theorem Aa {fp:Fp} (nd:(fp.map (·.1)).Nodup) (hz:∀ a∈fp,H a.1=some (pl a.1 a.2)∧Hf a.1=none) (g:Grw (iK asL fp H) (iK asL fp Hf) H' Hf'):Grw H Hf (iK pl fp H') (ji Hf' fp):=by
 refine ⟨fun b o e=>?_,fun b o e=>?_,fun b o e=>?_,fun b h1 h2 h3=>?_⟩
 ·by_cases m:b∈fp.map (·.1)
  ·obtain ⟨p,hp,rfl⟩:=cW m
   rw [g6 nd p hp,← (hz p hp).1]; exact e
  ·rw [bg m]; exact g.s b o (by rw [bg m]; exact e)
 ·have m:b∉fp.map (·.1):=fun m=>by obtain ⟨p,hp,rfl⟩:=cW m; rw [(hz p hp).2] at e; cases e
  rw [dN m]; exact g.f b o (by rw [bg m]; exact e)
 ·by_cases m:b∈fp.map (·.1)
  ·rw [jD m] at e; cases e
  ·rw [dN m] at e; rw [bg m]; exact g.b b o e
 ·by_cases m:b∈fp.map (·.1)
  ·exact jD m
  ·rw [dN m]; exact g.n b (by rw [bg m]; exact h1) (by rw [bg m]; exact h2) fun xs=>by rw [bg m]; exact h3 xs
end
section
variable {X:Cx} {pins:List (Addr×Obj)} {σ:L2.St} {H:Hp} {s:Shared}
theorem D9 {P:Program} {w:World} {H:Hp} {h:Heap} {p:Addr} {xs:List V}:aS P w H h p (pl p xs)↔aS P w H h p (.lst xs):=by
 constructor
 ·exact fun q=>q.1
 ·rintro ⟨z,its,n,r,e⟩
  exact ⟨⟨z,its,n,r,e⟩,⟨_,e⟩,fun h1 h2 ⟨z,its,n,r,e⟩ k=>⟨z,its,n,r,k _ e⟩⟩
theorem rQ {a:Addr} {xs:List V} (I:Inv X pins σ H s) (h:H a=some (.lst xs)):Inv X pins σ (upd H a (pl a xs)) s :=
 nF I h (by intro _ z; cases z) (by intro _ z; cases z) (by intro _ z; cases z) (fun o z e=>by have q:=I.base.frzs a o z e; rw [h] at q; cases q) (D9.mpr (I.hok a _ h))
theorem Ab {a:Addr} {xs:List V} (I:Inv X pins σ H s) (h:H a=some (pl a xs)):Inv X pins σ (upd H a (.lst xs)) s :=
 nF I h (by intro _ z; cases z) (by intro _ z; cases z) (by intro _ z; cases z) (fun o z e=>by have q:=I.base.frzs a o z e; rw [h] at q; cases q) (D9.mp (I.hok a _ h))
theorem qw (I:Inv X pins σ H s):∀ {fp:Fp},(fp.map (·.1)).Nodup→(∀ a∈fp,H a.1=some (pl a.1 a.2))→Inv X pins σ (iK asL fp H) s
 | [],_,_=>I
 | p::fp,nd,h=>by
  rw [G3,IK] at nd
  exact Ab (qw I nd.2 fun a ha=>h a (Hl _ ha)) (by rw [bg nd.1]; exact h p Hg)
theorem qx (I:Inv X pins σ H s):∀ {fp:Fp},(fp.map (·.1)).Nodup→(∀ a∈fp,H a.1=some (.lst a.2))→Inv X pins σ (iK pl fp H) s
 | [],_,_=>I
 | p::fp,nd,h=>by
  rw [G3,IK] at nd
  exact rQ (qx I nd.2 fun a ha=>h a (Hl _ ha)) (by rw [bg nd.1]; exact h p Hg)
end
inductive NoF:List Sl→Prop where
 | nil:NoF []
 | cons {r:Sl} {l:List Sl} (h:r.isF=false):NoF l→NoF (r::l)
inductive jj:List Sl→Nat→Sh→Prop where
 | z {s:Sh} {l:List Sl}:NoF l→jj (.fo s::l) 0 s
 | s {r:Sl} {l:List Sl} {i:Nat} {s:Sh} (h:r.isF=false):jj l i s→jj (r::l) (i+1) s
theorem NoF.get {l:List Sl} (h:NoF l):∀ {j:Nat} {r:Sl},l[j]?=some r→r.isF=false:=by
 induction h with
 | nil=>intro j r e; simp at e
 | cons h _ ih =>
  intro j r e
  cases j with
  | zero=>simp at e; subst e; exact h
  | succ j=>exact ih (by simpa using e)
theorem jj.at_ {l:List Sl} {i:Nat} {s:Sh} (h:jj l i s):l[i]?=some (.fo s)∧∀ {j:Nat} {r:Sl},j≠i→l[j]?=some r→r.isF=false:=by
 induction h with
 | z h =>
  refine ⟨rfl,fun {j r} hj e=>?_⟩
  cases j with
  | zero=>exact absurd rfl hj
  | succ j=>exact h.get (by simpa using e)
 | s h _ ih =>
  refine ⟨by simpa using ih.1,fun {j r} hj e=>?_⟩
  cases j with
  | zero=>simp at e; subst e; exact h
  | succ j=>exact ih.2 (fun z=>hj (congrArg (· +1) z)) (by simpa using e)
section
variable {K:GW} {H₀ Hf₀ H Hf H1 Hf1:Hp} {σ:L2.St} {ρ:List Sl}
theorem StR.readF (S:StR K H₀ Hf₀ σ H Hf ρ) {i:Nat} {s:Sh} (h:jj ρ i s) :
 ∃ fp:Fp,(fp.map (·.1)).Nodup∧(∀ a∈fp,H a.1=some (pl a.1 a.2)∧Hf a.1=none)∧StR K H₀ Hf₀ σ (iK asL fp H) (iK asL fp Hf) (ρ.set i (.va s.d)):=by
 obtain ⟨hi,ho⟩:=h.at_
 obtain ⟨v,ev,fp,rf,nd,hfr⟩:=S.at_ i _ hi (by intro z; cases z)
 have hz:=aR.fz s rf
 have hlt:i<ρ.length:=(G8.mp hi).1
 have none_in:∀ {b:Addr} {o:HO},Hf b=some o→b∉fp.map (·.1):=fun e m=>by obtain ⟨p,hp,rfl⟩:=cW m; rw [(hz p hp).2] at e; cases e
 have fr_in:∀ {b:Addr},b∈fp.map (·.1)→H₀ b=none:=fun m=>by obtain ⟨p,hp,rfl⟩:=cW m; exact hfr p hp
 have sf:aG Hf (iK asL fp Hf):=fun b o e=>by rw [bg (none_in e)]; exact e
 refine ⟨fp,nd,hz,⟨⟨fun b o e=>?_,S.bas.f.trans sf,fun b o e=>?_,fun b h1 h2 h3=>?_⟩,by simp [S.len],fun j r hj hu=>?_,fun j j' r r' q hne h1 h2 o1 o2=>?_⟩⟩
 ·rw [bg fun m=>by rw [fr_in m] at e; cases e]; exact S.bas.s b o e
 ·by_cases m:b∈fp.map (·.1)
  ·obtain ⟨p,hp,rfl⟩:=cW m
   rw [g6 nd p hp] at e ⊢; exact e
  ·rw [bg m] at e ⊢; exact S.sb b o e
 ·rw [bg fun m=>h2 (fr_in m)]; exact S.bas.n b h1 h2 h3
 ·by_cases q:j=i
  ·subst q
   rw [Iu hlt] at hj
   cases hj
   exact ⟨v,ev,aR.rep sf s (fun a ha=>g6 nd a ha) rf⟩
  ·rw [Iv (Hu q)] at hj
   obtain ⟨v,e1,e2⟩:=S.at_ j r hj hu
   refine ⟨v,e1,aM.mv (B:=fun a=>a∈fp.map (·.1)) sf (fun a o hm e1 _ e3=>⟨by rw [bg hm]; exact e1,by rw [bg hm]; exact e3⟩) (fun hf=>by rw [ho q hj] at hf; cases hf) (fun ow a e m=>?_) e2⟩
   subst e
   obtain ⟨_,_,e,_,_,_,nf⟩:=e2.o9 ow
   cases e
   obtain ⟨p,hp,rfl⟩:=cW m
   exact nf ⟨p.2,(hz p hp).1⟩
 ·have out:∀ {j:Nat} {r:Sl},(ρ.set i (.va s.d))[j]?=some r→r.owned=true→ρ[j]?=some r:=fun {j r} hj ho=>by
   by_cases q:j=i
   ·subst q; rw [Iu hlt] at hj; cases hj; cases ho
   ·rw [Iv (Hu q)] at hj; exact hj
  exact S.sep j j' r r' q hne (out h1 o1) (out h2 o2) o1 o2
end
section
variable {P:Program} {w:World} {K:GW} {mg:Str→Option Value} {base:Heap} {k:Nat} {N:List Str} {sc:Scope} {bk:Bool} {c:Ctx P w K mg base k N sc bk} {ρ ρ':List Sl} {pos ap cp px tp:Pos} {a b e f:Expr} {es:List Expr} {R:D→Prop} {T:Bool→Prop} {nx:List Sl→Prop} {p:Pt} {x:Str} {i:Nat} {s:Sh}
theorem Gb (i:Nat) (h1:jj ρ i s) (hs:SSet ρ i (.va s.d) ρ') (h:EvT c e ρ' T):EvT c e ρ T:=fun σ H Hf Q S q pins s' I=>by
 obtain ⟨fp,nd,hz,S1⟩:=S.readF h1
 rw [← hs.eq] at S1
 refine thn (h σ _ _ (fun b H'=>∃ Hf',T b∧Grw (iK asL fp H) (iK asL fp Hf) H' Hf') S1 (fun b H' Hf' rd g=>⟨Hf',rd,g⟩) pins s' (qw I nd fun a ha=>(hz a ha).1)) fun b s1 ⟨H1,I1,Hf1,rd,g⟩=>?_
 have hL:∀ a∈fp,H1 a.1=some (.lst a.2):=fun a ha=>g.s _ _ (g6 nd a ha)
 exact ⟨_,qx I1 nd hL,q b _ (ji Hf1 fp) rd (Aa nd hz g)⟩
theorem x_fo {R:Sl→Prop} (h:EvX c e ρ fun r=>∃ ds,r=.ow ds∧R (.fo (.l ds))):EvX c e ρ R:=fun σ H Hf Q S q pins s I=>by
 refine thn (h σ H Hf (fun v H'=>∃ ds Hf',aM c.X.K (fun p=>H p=none) H' Hf' (.ow ds) v∧Grw H Hf H' Hf'∧R (.fo (.l ds))) S (fun r v H' Hf' ⟨ds,e,hR⟩ rs g=>⟨ds,Hf',by rw [← e]; exact rs,g,hR⟩) pins s I) fun u s1 ⟨v,H1,I1,rv,ds,Hf1,⟨a,xs,ev,fa,h1,h2,h3⟩,g,hR⟩=>?_
 subst ev
 exact ⟨_,_,rQ I1 h1,rv,q (.fo (.l ds)) _ _ Hf1 hR ⟨[(a,xs)],by simp only [aR]; exact ⟨a,xs,rfl,ah,h2,h3,rfl⟩,by simp,fun b hb=>by obtain rfl:=Ho.mp hb; exact fa⟩ (ny g fa h2)⟩
noncomputable def Sl.sh:Sl→Option Sh | .va d=>some (.v d) | .fo s=>some s | _=>none
theorem Ge {K:GW} {H H' Hf':Hp} {r:Sl} {v:V} {s:Sh} (e:r.sh=some s) (h:aM K (fun p=>H p=none) H' Hf' r v):∃ fp,aR K H' Hf' s v fp∧(fp.map (·.1)).Nodup∧∀ a∈fp,H a.1=none:=by
 cases r with
 | va d=>cases e; exact ⟨[],by simp only [aR]; exact ⟨h,trivial⟩,by simp,by intro a ha; cases ha⟩
 | fo s=>cases e; exact h
 | _=>cases e
noncomputable def CQ (c:Ctx P w K mg base k N sc bk) (es:List Expr) (ρ:List Sl) (R:List Sh→Prop):Prop :=
 ∀ (σ:L2.St) (H Hf:Hp) (Q:List V→Hp→Prop),aU c σ H Hf ρ→(∀ ss vs fp H' Hf',R ss→aA c.X.K H' Hf' ss vs fp→(fp.map (·.1)).Nodup→(∀ a∈fp,H a.1=none)→Grw H Hf H' Hf'→Q vs H')→bA c.X es σ H Q
theorem f_nil {R:List Sh→Prop} (h:R []):CQ c [] ρ R:=fun σ H Hf Q S q=>lQ cA (q [] [] [] H Hf h (by simp [aA]) List.nodup_nil (by intro a ha; cases ha) (.refl S.sb))
theorem rR {R:List Sh→Prop} (h:EvX c e ρ fun r=>∃ s,r.sh=some s∧CQ c es ρ fun ss=>R (s::ss)) (hs:∀ env,starEach (e::es) env=(false,eval e env)::starEach es env:=by intro _; walk_at "u"):CQ c (e::es) ρ R:=fun σ H Hf Q S q =>
 lQ (br pbE pbA (hs _)) (h σ H Hf _ S fun r v H1 Hf1 ⟨s,es,h1⟩ rs g1=>by
  obtain ⟨f1,r1,n1,fr1⟩:=Ge es rs
  have z1:=aR.fz s r1
  refine h1 σ H1 Hf1 _ (S.grw g1) fun ss vs fp H2 Hf2 h2 r2 n2 fr2 g2=>q (s::ss) (v::vs) (f1++fp) H2 Hf2 h2 ?_ ?_ ?_ (g1.trans g2)
  ·simp only [aA]
   refine ⟨v,vs,f1,fp,rfl,aR.mv g2.f s (fun a _ e1 e2=>⟨g2.s _ _ e1,g2.n a.1 e2 (by rw [e1]; simp) (by intro ys z; rw [e1] at z; cases z)⟩) r1,r2,rfl⟩
  ·rw [HB,LA]
   refine ⟨n1,n2,fun a ha b hb e=>?_⟩
   subst e
   obtain ⟨p,hp,rfl⟩:=cW ha
   obtain ⟨p',hp',e'⟩:=cW hb
   have:=(z1 p hp).1
   rw [← e',fr2 p' hp'] at this; cases this
  ·intro a ha
   rcases Hy.mp ha with ha | ha
   ·exact fr1 a ha
   ·exact g1.s.free (fr2 a ha))
theorem aA.len {K:GW} {H Hf:Hp}:∀ {ss:List Sh} {xs:List V} {fp:Fp},aA K H Hf ss xs fp→ss.length=xs.length
 | [],_,_,h=>by simp only [aA] at h; rw [h.1]; rfl
 | s::ss,_,_,h=>by
  simp only [aA] at h
  obtain ⟨x,r,f1,f2,rfl,_,h2,_⟩:=h
  rw [HV,HV,aA.len h2]
theorem Gf {j:Nat} {R:Sl→Prop} (h:CQ c es ρ fun ss=>Sd (ss.length≤sizeLine) (R (.fo (.t ss)))):EvX c (.Tuple es j pos) ρ R:=fun σ H Hf Q S q =>
 bu (xN pbA) (h σ H Hf _ S fun ss vs fp H' Hf' ⟨hl,hR⟩ r nd fr g=>⟨by rw [← aA.len r]; exact hl,fun p hp=>by
  have g2:=Grw.new g.b hp (o:=.tup vs)
  have hz:=aA.fz ss r
  refine q _ _ _ _ hR ⟨fp,?_,nd,fr⟩ (g.trans g2)
  simp only [aR]
  exact ⟨p,vs,rfl,.inl (.inl ah),aA.mv g2.f ss (fun a _ e1 e2=>⟨g2.s _ _ e1,g2.n a.1 e2 (by rw [e1]; simp) (by intro ys z; rw [e1] at z; cases z)⟩) r⟩⟩)
end
noncomputable def spO (K:GW) (ok:Sh→Prop):Sp:=fun vs H Q _=>∃ Hf s v fp,vs=[v]∧aG Hf H∧aR K H Hf s v fp∧(fp.map (·.1)).Nodup∧ok s∧∀ H' Hf',Grw (ji H fp) Hf H' Hf'→Q .non H'
structure CS (P:Program) (w:World) (K:GW) (mg:Str→Option Value) (base:Heap) (k:Nat) (x:Str) (ok:Sh→Prop):Prop where
 ex:∃ f fd ps,mg x=some (.ref f)∧Jb K (.ref f)=true∧Binds K fd ps []∧aX P w K mg base (CXE P w) k f fd ps (spO K ok)
theorem nU {H:Hp} {fp:Fp}:aG (ji H fp) H:=fun b o e=>by
 by_cases m:b∈fp.map (·.1)
 ·rw [jD m] at e; cases e
 ·rw [dN m] at e; exact e
theorem Ac {H Hf:Hp} {fp:Fp} (sb:aG Hf H):Grw (ji H fp) Hf H Hf:=⟨nU,.refl _,sb,fun _ h _ _=>h⟩
theorem wA {K:GW} {H Hf:Hp} {N:List Str} {s:Sh} {v:V} {fp:Fp} (r:aR K H Hf s v fp) (nd:(fp.map (·.1)).Nodup) (sb:aG Hf H) (hN:1≤N.length) :
 StR K (ji H fp) Hf (L2.start N [v]) H Hf (.fo s::Hh (N.length - 1) .un):=by
 have rest:∀ (i:Nat) (r':Sl),(Sl.fo s::Hh (N.length - 1) Sl.un)[i]?=some r'→r'≠.un→i=0∧r'=.fo s:=fun i r' h hu=>by
  cases i with
  | zero=>exact ⟨rfl,by simpa using h.symm⟩
  | succ i=>exact absurd (Lg (IU (by simpa using h))) hu
 refine ⟨Ac sb,by simp [L2.start],fun i r' h hu=>?_,fun i j r1 r2 p hne e1 e2 o1 o2=>?_⟩
 ·obtain ⟨rfl,rfl⟩:=rest i r' h hu
  exact ⟨v,by simp [L2.start],fp,r,nd,fun a ha=>jD (HC.mpr ⟨a,ha,rfl⟩)⟩
 ·obtain ⟨_,rfl⟩:=rest i r1 e1 (by rintro rfl; cases o1)
  cases o1
section
variable {P:Program} {w:World} {K:GW} {mg:Str→Option Value} {base:Heap} {k:Nat} {N:List Str} {sc:Scope} {bk:Bool} {c:Ctx P w K mg base k N sc bk} {ρ ρ':List Sl} {pos cp px py ap:Pos} {e:Expr} {es:List Expr} {nx:List Sl→Prop} {p:Pt} {x y:Str} {i:Nat} {s:Sh} {R:D→Prop}
theorem fn_o {qual:Str} {st:Stmt} {f:Addr} {fd:FuncData} {ps:List Str} {ok:Sh→Prop} (Fu:Fun K x qual st f fd) (Sc:aE N ps (aa st)) (Vi:∀ x∈N,Loc (aa st) x) (h1:ps.length=1) (hN:1≤N.length)
 (body:∀ (c:Ctx P w K mg base k N (aa st) false),c.X.xe=(fun _ _=>False)→∀ s,ok s→aW c (ay st) (.fo s::Hh (N.length - 1) .un) (fun _=>True) { rt:=fun _=>False }) :
 aX P w K mg base (CXE P w) (k+1) f fd ps (spO K ok):=by
 obtain ⟨oc,od,kV,doc,pm,an,cdv,ct,osl,rfl,lk,hcd⟩:=Fu.ex
 refine xO lk hcd Sc (fun vs H Q E ⟨Hf,s,v,fp,e,_⟩=>by rw [e,h1]; rfl) fun A outer st' H vs Q E hr ⟨Hf,s,v,fp,e,sb,rf,nd,hok,hq⟩=>?_
 subst e
 let X:Cx:=(oG (CXE P w) P w K mg base N qual (aa st) f cdv A outer st' H E).nox
 let c:Ctx P w K mg base k N (aa st) false :=
  { X:=X,eP:=rfl,ew:=rfl,eK:=rfl,emg:=rfl,eb:=rfl,eN:=rfl,esc:=rfl,calm:=rfl,top:=fun _=>⟨rfl,rfl,rfl⟩,cb:=fun _ _ _ _ _ I x c h=>I.ok.cab x c rfl h,fn:=fun _ _=>.inl rfl,B:=ji H fp,room:=hr,nd:=Sc.nd,vis:=Vi,Hf:=Hf,RX:=fun _ _=>False,
    exc:=fun _ _ _ _ _ _ _ _ _ _ _ _ h _ _=>h.elim,RM:=fun _ _=>False,mde:=fun _ _ _ _ _ _ _ _ _ _ _ _ h _=>h.elim }
 refine ⟨_,PSs.nox (t:=bSs X (ay st)) (oW (X:=X)),?_⟩
 exact body c rfl s hok (L2.start N [v]) H Hf _ (wA rf nd sb hN) ⟨fun σ H' Hf' ρ S _=>hq H' Hf' S.bas,fun r v H' Hf' g rv e=>e.elim,fun _ _ _ _ _ h=>h.elim,fun _ _ _ _ _ h=>h.elim⟩
theorem bB {α:Type} {l:List α} {i j:Nat} {a b:α} (h:(l.set i a)[j]?=some b):(j=i∧b=a)∨(j≠i∧l[j]?=some b):=by
 by_cases e:j=i
 ·subst e
  have hl:j<l.length:=by have:=(G8.mp h).1; simpa using this
  rw [Iu hl] at h
  exact .inl ⟨rfl,(IW h).symm⟩
 ·rw [Iv (Hu e)] at h
  exact .inr ⟨e,h⟩
theorem StR.gone {H₀ Hf₀ H Hf H1 Hf1:Hp} {σ:L2.St} (S:StR K H₀ Hf₀ σ H Hf ρ) (h:jj ρ i s) {v:V} {fp:Fp} (ev:σ[i]?=some (some v)) (rf:aR K H Hf s v fp) (fr:∀ a∈fp,H₀ a.1=none) (g:Grw (ji H fp) Hf H1 Hf1):StR K H₀ Hf₀ σ H1 Hf1 (ρ.set i .un):=by
 obtain ⟨hi,ho⟩:=h.at_
 have hz:=aR.fz s rf
 have fr_in:∀ {b:Addr},b∈fp.map (·.1)→H₀ b=none:=fun m=>by obtain ⟨p,hp,rfl⟩:=cW m; exact fr p hp
 have s0:aG H₀ (ji H fp):=fun b o e=>by rw [dN fun m=>by rw [fr_in m] at e; cases e]; exact S.bas.s b o e
 refine ⟨⟨s0.trans g.s,S.bas.f.trans g.f,g.b,fun b h1 h2 h3=>?_⟩,by simp [S.len],fun j r hj hu=>?_,fun j j' r r' q hne h1 h2 o1 o2=>?_⟩
 ·cases z:H₀ b with
  | none=>exact absurd z h2
  | some o1 =>
   have e1:=s0 b o1 z
   exact g.n b (S.bas.n b h1 h2 h3) (by rw [e1]; simp) fun xs=>by rw [e1,← z]; exact h3 xs
 ·rcases bB hj with ⟨_,rfl⟩ | ⟨q,hj⟩
  ·exact absurd rfl hu
  ·obtain ⟨v,e1,e2⟩:=S.at_ j r hj hu
   have e3:aM K (fun p=>H₀ p=none) (ji H fp) Hf r v:=aM.mv (B:=fun a=>a∈fp.map (·.1)) (.refl _) (fun a o hm e1 _ e3=>⟨by rw [dN hm]; exact e1,e3⟩) (fun hf=>by rw [ho q hj] at hf; cases hf) (fun ow a e m=>by
    subst e
    obtain ⟨_,_,e,_,_,_,nf⟩:=e2.o9 ow
    cases e
    obtain ⟨p,hp,rfl⟩:=cW m
    exact nf ⟨p.2,(hz p hp).1⟩) e2
   exact ⟨v,e1,e3.grw g⟩
 ·have out:∀ {j:Nat} {r:Sl},(ρ.set i .un)[j]?=some r→r.owned=true→ρ[j]?=some r:=fun {j r} hj ho=>by
   rcases bB hj with ⟨_,rfl⟩ | ⟨_,hj⟩
   ·cases ho
   ·exact hj
  exact S.sep j j' r r' q hne (out h1 o1) (out h2 o2) o1 o2
theorem uQ {ok:Sh→Prop} {j:Nat} (h:CS P w K mg base j x ok) (hj:j≤k) (hN:At N i y) (h1:jj ρ i s) (hok:ok s) (hn:Nx ρ i nx .un)
 (hg:sc.names.lookup x=some .globalImplicit:=by walk_at "u") (hdb:(x == ("__debug__":Str))=false:=by decide) (hd:(y == ("__debug__":Str))=false:=by decide) (hcd:(y == ("__classdict__":Str))=false:=by decide)
 (he:∀ env,starEach [.Name y py] env=(false,eval (.Name y py) env)::starEach [] env:=by intro _; walk_at "u")
 (hpl:∀ env,(backTo cp (starEach [] env)).any (·.1)=false:=by intro _; walk_at "u")
 (hs:∀ env,swapsWith (.Call (.Name x px) [.Name y py] [] cp) none pos.line env=pure false:=by intro _; walk_at "u"):EvS c (.Expr (.Call (.Name x px) [.Name y py] [] cp) pos) ρ nx p:=fun σ H Hf D S o=>by
 obtain ⟨v,ev,fp,rf,nd,hfr⟩:=S.at_ i _ h1.at_.1 (by intro z; cases z)
 obtain ⟨ρ',hs',hn⟩:=hn
 refine c7 (jw pbE (hs _)) (show bE c.X _ σ H (fun _ H'=>D.nx σ H') from fun pins s' I=>?_)
 obtain ⟨f,fd,ps,hm,hk,hb,hF⟩:=h.ex
 refine I0 (gp I (by unfold Gl HH; rw [c.esc]; exact hg) (by rw [c.emg]; exact hm) ?_ hdb)
 have hA:bA c.X [.Name y py] σ H (fun vs H1=>vs=[v]∧H1=H):=lQ (br (c.jU hN hd hcd) cA (he _)) ⟨_,ev,rfl,rfl⟩
 refine Lr (h₀:=c.X.base) I.ok.mod.kin (by rw [c.eK]; exact hk) (thn (hA cp pins s' I) fun us s1 ⟨vs,H1,I1,rv,e1,e2⟩=>⟨I1.kIn,?_⟩) (he _) (hpl _)
 subst e1 e2
 have hF2:aX c.X.prog c.X.w c.X.K c.X.mg c.X.base (CXE c.X.prog c.X.w) k f fd ps (spO c.X.K ok):=by rw [c.eP,c.ew,c.eK,c.emg,c.eb]; exact hF.mono hj
 have hsp:spO c.X.K ok [v] H1 (fun _ H'=>D.nx σ H') (fun _ _ _=>False):=by
  refine ⟨Hf,s,v,fp,rfl,S.sb,rf,nd,hok,fun H' Hf' g=>?_⟩
  refine o.nx σ H' Hf' ρ' ?_ hn
  rw [hs'.eq]
  exact S.gone h1 ev rf hfr g
 have hl:us.length=ps.length:=by rw [← rv.length]; exact hF2.len _ _ _ _ hsp
 have hb':Binds c.X.K fd ps []:=by rw [c.eK]; exact hb
 have hb2:=hb' s1 us I1.kIn (by simpa using hl)
 rw [Io] at hb2
 refine KC (Kx (hF2.run c.X.A c.X.stack s1 H1 ⟨us,[]⟩ us _ _ _ c.room I1.By hb2 rv hsp) fun r' s' hq=>?_)
 cases r' with
 | error e =>
  obtain ⟨a,C,H',rfl,hE,h⟩:=hq
  exact h.elim
 | ok fl =>
  cases fl with
  | ret u=>exact I1.after hq
  | next=>exact Ih hq
  | brk=>exact Ih hq
  | cont=>exact Ih hq
noncomputable def Sh.raw:Sh→Option D | .v d=>some d | .la a _=>some (.adr a) | _=>none
noncomputable def wB:List Sh→Option (List D)
 | []=>some []
 | s::ss=>match s.raw,wB ss with | some d,some ds=>some (d::ds) | _,_=>none
theorem aR.raw {H Hf:Hp} {s:Sh} {v:V} {fp:Fp} {d:D} (e:s.raw=some d) (h:aR K H Hf s v fp):Rep K Hf d v:=by
 cases s with
 | v d'=>cases e; simp only [aR] at h; exact h.1
 | la a ds=>cases e; simp only [aR] at h; obtain ⟨xs,e,_⟩:=h; exact dH.mpr e
 | _=>cases e
theorem aA.raw {H Hf:Hp}:∀ {ss:List Sh} {vs:List V} {fp:Fp} {ds:List D},wB ss=some ds→aA K H Hf ss vs fp→aj K Hf ds vs
 | [],_,_,_,e,h=>by cases e; simp only [aA] at h; exact aq.mpr h.1
 | s::ss,_,_,_,e,h=>by
  simp only [aA] at h
  obtain ⟨x,r,f1,f2,rfl,h1,h2,_⟩:=h
  unfold wB at e
  split at e
  ·rename_i d ds q1 q2
   cases e
   exact .cons (h1.raw q1) (aA.raw q2 h2)
  ·cases e
theorem Gg {ss:List Sh} {ds:List D} (hN:At N i y) (hi:At ρ i (.fo (.t ss))) (hr:wB ss=some ds) (hR:R (.tup ds)) (hd:(y == ("__debug__":Str))=false:=by decide) (hcd:(y == ("__classdict__":Str))=false:=by decide):EvE c (.Name y py) ρ R:=fun σ H Hf Q S q=>by
 obtain ⟨v,ev,fp,rf,nd,hfr⟩:=S.at_ i _ hi.get (by intro z; cases z)
 refine bu (c.jU hN hd hcd) ⟨v,ev,q (.tup ds) v H Hf hR ?_ (.refl S.sb)⟩
 simp only [aR] at rf
 obtain ⟨a,xs,e,h1,h2⟩:=rf
 exact aC.mpr ⟨a,xs,e,h1,aA.raw hr h2⟩
end
section
variable {K:GW} {H₀ Hf₀ H Hf H1 Hf1:Hp} {σ:L2.St} {ρ:List Sl}
noncomputable def laS (L:List (Addr×List D)):List Sh:=L.map fun x=>.la x.1 x.2
theorem uR {q:Addr} {ds:List D} {xs:List V} (q1:H q=some (pl q xs)) (q2:Hf q=none) (q3:aj K Hf ds xs):aR K H Hf (.la q ds) (.ref q) [(q,xs)]:=by
 simp only [aR]
 exact ⟨xs,trivial,q1,q2,q3,rfl⟩
theorem aA.tag:∀ {dss:List (List D)} {vs:List V} {fp:Fp},aA K H Hf (dss.map .l) vs fp→∃ L:List (Addr×List D),L.map (·.2)=dss∧aA K H Hf (laS L) vs fp
 | [],_,_,h=>⟨[],rfl,h⟩
 | ds::dss,_,_,h=>by
  simp only [G3,aA] at h
  obtain ⟨x,r,f1,f2,rfl,h1,h2,rfl⟩:=h
  obtain ⟨L,e,h3⟩:=aA.tag h2
  simp only [aR] at h1
  obtain ⟨p,xs,rfl,q1,q2,q3,rfl⟩:=h1
  refine ⟨(p,ds)::L,by rw [G3,e],?_⟩
  show aA K H Hf (.la p ds::laS L) _ _
  simp only [aA]
  exact ⟨_,r,_,f2,rfl,uR q1 q2 q3,h3,rfl⟩
theorem StR.tagF (S:StR K H₀ Hf₀ σ H Hf ρ) {i:Nat} {dss:List (List D)} (h:ρ[i]?=some (.fo (.t (dss.map .l)))):∃ L:List (Addr×List D),L.map (·.2)=dss∧StR K H₀ Hf₀ σ H Hf (ρ.set i (.fo (.t (laS L)))):=by
 obtain ⟨v,ev,fp,rf,nd,hfr⟩:=S.at_ i _ h (by intro z; cases z)
 simp only [aR] at rf
 obtain ⟨a,xs,e,h1,h2⟩:=rf
 obtain ⟨L,eL,h3⟩:=aA.tag h2
 refine ⟨L,eL,S.bas,by simp [S.len],fun j r hj hu=>?_,fun j j' r r' q hne h1 h2 o1 o2=>?_⟩
 ·rcases bB hj with ⟨rfl,rfl⟩ | ⟨_,hj⟩
  ·exact ⟨v,ev,fp,by simp only [aR]; exact ⟨a,xs,e,h1,h3⟩,nd,hfr⟩
  ·exact S.at_ j r hj hu
 ·have out:∀ {j:Nat} {r:Sl},(ρ.set i (.fo (.t (laS L))))[j]?=some r→r.owned=true→ρ[j]?=some r:=fun {j r} hj ho=>by
   rcases bB hj with ⟨_,rfl⟩ | ⟨_,hj⟩
   ·cases ho
   ·exact hj
  exact S.sep j j' r r' q hne (out h1 o1) (out h2 o2) o1 o2
theorem aA.Ea {q:Addr} {ds:List D}:∀ {pre post:List Sh} {vs:List V} {fp:Fp},aA K H Hf (pre++.la q ds::post) vs fp →
 ∃ (xs:List V) (f1 f2:Fp),fp=f1++(q,xs)::f2∧H q=some (pl q xs)∧Hf q=none∧aj K Hf ds xs∧aA K H Hf (pre++.v (.adr q)::post) vs (f1++f2)
 | [],post,_,_,h=>by
  simp only [JA,aA] at h
  obtain ⟨x,r,f1,f2,rfl,h1,h2,rfl⟩:=h
  simp only [aR] at h1
  obtain ⟨xs,rfl,q1,q2,q3,rfl⟩:=h1
  refine ⟨xs,[],f2,rfl,q1,q2,q3,?_⟩
  simp only [JA,aA]
  exact ⟨_,r,[],f2,rfl,by simp only [aR]; exact ⟨dH.mpr rfl,trivial⟩,h2,rfl⟩
 | s::pre,post,_,_,h=>by
  simp only [Ja,aA] at h
  obtain ⟨x,r,f1,f2,rfl,h1,h2,rfl⟩:=h
  obtain ⟨xs,g1,g2,rfl,q1,q2,q3,q4⟩:=aA.Ea h2
  refine ⟨xs,f1++g1,g2,by rw [Hw],q1,q2,q3,?_⟩
  simp only [Ja,aA]
  exact ⟨x,r,f1,g1++g2,rfl,h1,q4,by rw [Hw]⟩
theorem aA.Eb {q:Addr} {ds:List D} {xs:List V} (q1:H q=some (pl q xs)) (q2:Hf q=none) (q3:aj K Hf ds xs):∀ {pre post:List Sh} {vs:List V} {fp:Fp},aA K H Hf (pre++.v (.adr q)::post) vs fp →
 ∃ (f1 f2:Fp),fp=f1++f2∧aA K H Hf (pre++.la q ds::post) vs (f1++(q,xs)::f2)
 | [],post,_,_,h=>by
  simp only [JA,aA] at h
  obtain ⟨x,r,f1,f2,rfl,h1,h2,rfl⟩:=h
  simp only [aR] at h1
  obtain ⟨h1,rfl⟩:=h1
  rw [dH] at h1
  subst h1
  refine ⟨[],f2,rfl,?_⟩
  simp only [JA,aA]
  exact ⟨_,r,[(q,xs)],f2,rfl,uR q1 q2 q3,h2,rfl⟩
 | s::pre,post,_,_,h=>by
  simp only [Ja,aA] at h
  obtain ⟨x,r,f1,f2,rfl,h1,h2,rfl⟩:=h
  obtain ⟨g1,g2,rfl,q4⟩:=aA.Eb q1 q2 q3 h2
  refine ⟨f1++g1,g2,by rw [Hw],?_⟩
  simp only [Ja,aA]
  exact ⟨x,r,f1,g1++(q,xs)::g2,rfl,h1,q4,by rw [Hw]⟩
theorem StR.Ec (S:StR K H₀ Hf₀ σ H Hf ρ) {i k:Nat} {s:Sh} {q:Addr} {o:HO} {r1 r2:Sl} (h1:jj ρ i s) (hk:k<ρ.length) (hik:k≠i) (fq:H₀ q=none) (hfq:Hf q=none) (hq:∀ (j:Nat) (r:Sl),j≠i→j≠k→ρ[j]?=some r→r.owned=true→σ[j]?≠some (some (.ref q)))
 (v1:r1≠.un→∃ v,σ[i]?=some (some v)∧aM K (fun p=>H₀ p=none) (L2.upd H q o) Hf r1 v) (v2:r2≠.un→∃ v,σ[k]?=some (some v)∧aM K (fun p=>H₀ p=none) (L2.upd H q o) Hf r2 v) (n1:r1.owned=false) (n2:r2.owned=true→σ[k]?=some (some (.ref q))) :
 StR K H₀ Hf₀ σ (L2.upd H q o) Hf ((ρ.set i r1).set k r2):=by
 obtain ⟨hi,ho⟩:=h1.at_
 have get:∀ {j:Nat} {r:Sl},((ρ.set i r1).set k r2)[j]?=some r→(j=k∧r=r2)∨(j≠k∧j=i∧r=r1)∨(j≠k∧j≠i∧ρ[j]?=some r):=fun {j r} h=>by
  rcases bB h with ⟨a,b⟩ | ⟨a,h⟩
  ·exact .inl ⟨a,b⟩
  ·rcases bB h with ⟨b,c⟩ | ⟨b,h⟩
   ·exact .inr (.inl ⟨a,b,c⟩)
   ·exact .inr (.inr ⟨a,b,h⟩)
 refine ⟨⟨fun b u e=>by rw [L2.ai (az e fq)]; exact S.bas.s b u e,S.bas.f,fun b u e=>by rw [L2.ai (az e hfq)]; exact S.bas.b b u e,S.bas.n⟩,by simp [S.len],fun j r hj hu=>?_,fun j j' r r' p hne e1 e2 o1 o2=>?_⟩
 ·rcases get hj with ⟨rfl,rfl⟩ | ⟨_,rfl,rfl⟩ | ⟨a,b,hj⟩
  ·exact v2 hu
  ·exact v1 hu
  ·obtain ⟨v,e1,e2⟩:=S.at_ j r hj hu
   exact ⟨v,e1,aM.mv (B:=fun z=>z=q) (.refl _) (fun z u hz e1 _ e3=>⟨by rw [L2.ai hz]; exact e1,e3⟩) (fun hf=>by rw [ho b hj] at hf; cases hf) (fun ow z ez e=>by subst e; subst ez; exact hq j r b a hj ow e1) e2⟩
 ·rcases get e1 with ⟨rfl,rfl⟩ | ⟨_,rfl,rfl⟩ | ⟨a,b,f1⟩
  ·intro s1 s2
   rw [n2 o1] at s1; cases s1
   rcases get e2 with ⟨rfl,rfl⟩ | ⟨_,rfl,rfl⟩ | ⟨a2,b2,f2⟩
   ·exact hne rfl
   ·rw [n1] at o2; cases o2
   ·exact hq j' r' b2 a2 f2 o2 s2
  ·rw [n1] at o1; cases o1
  ·rcases get e2 with ⟨rfl,rfl⟩ | ⟨_,rfl,rfl⟩ | ⟨a2,b2,f2⟩
   ·intro s1 s2
    rw [n2 o2] at s2; cases s2
    exact hq j r b a f1 o1 s1
   ·rw [n1] at o2; cases o2
   ·exact S.sep j j' r r' p hne f1 f2 o1 o2
end
section
variable {P:Program} {w:World} {K:GW} {mg:Str→Option Value} {base:Heap} {k:Nat} {N:List Str} {sc:Scope} {bk:Bool} {c:Ctx P w K mg base k N sc bk} {ρ ρ':List Sl} {st:Stmt} {sts:List Stmt} {nx:List Sl→Prop} {p:Pt} {i j:Nat}
theorem Gh (i:Nat) {dss:List (List D)} (hi:At ρ i (.fo (.t (dss.map .l)))) (h:∀ L:List (Addr×List D),L.map (·.2)=dss→EvS c st (ρ.set i (.fo (.t (laS L)))) nx p):EvS c st ρ nx p:=fun σ H Hf D S o=>by
 obtain ⟨L,e,S1⟩:=S.tagF hi.get
 exact h L e σ H Hf D S1 o
theorem Ad (i j:Nat) {pre post:List Sh} {q:Addr} {ds:List D} (h1:jj ρ i (.t (pre++.la q ds::post))) (hj:At ρ j (.va (.adr q))) (h:aW c sts ((ρ.set i (.fo (.t (pre++.v (.adr q)::post)))).set j (.aw q ds)) nx p) (hij:j≠i):aW c sts ρ nx p:=fun σ H Hf D S o pins s I=>by
 obtain ⟨v,ev,fp,rf,nd,hfr⟩:=S.at_ i _ h1.at_.1 (by intro z; cases z)
 obtain ⟨vj,evj,rj⟩:=S.va hj.get
 rw [dH] at rj
 subst rj
 simp only [aR] at rf
 obtain ⟨a,vs,e,t1,t2⟩:=rf
 obtain ⟨xs,f1,f2,rfl,q1,q2,q3,q4⟩:=aA.Ea t2
 have fq:c.B q=none:=hfr (q,xs) (by simp)
 have nq:q∉(f1++f2).map (·.1):=fun m=>by
  rw [HB,G3,LA,IK] at nd
  rw [HB,Hy] at m
  rcases m with m | m
  ·exact nd.2.2 q m q Hg rfl
  ·exact nd.2.1.1 m
 have I1:=Ab I q1
 refine h σ _ Hf D (S.Ec h1 (G8.mp hj.get).1 hij fq q2 (fun j' r a b hj' ow e=>?_) (fun _=>⟨v,ev,f1++f2,?_,?_,?_⟩) (fun _=>⟨_,evj,q,xs,rfl,⟨fq,rfl⟩,ah,q2,q3⟩) rfl fun _=>evj) o pins s I1
 ·obtain ⟨v',e',r'⟩:=S.at_ j' r hj' (by rintro rfl; cases ow)
  rw [e] at e'; cases e'
  obtain ⟨_,_,e2,_,_,_,nf⟩:=r'.o9 ow
  cases e2
  exact nf ⟨xs,q1⟩
 ·simp only [aR]
  exact ⟨a,vs,e,t1,aA.mv (.refl _) _ (fun z hz e1 e2=>⟨by rw [ai fun e=>nq (by rw [← e]; exact HC.mpr ⟨z,hz,rfl⟩)]; exact e1,e2⟩) q4⟩
 ·rw [HB] at nd ⊢
  exact nd.sublist (List.Sublist.append (List.Sublist.refl _) (by rw [G3]; exact List.sublist_cons_self _ _))
 ·intro z hz
  exact hfr z (by rcases Hy.mp hz with h | h; exact Jx _ h; exact Il _ (Hl _ h))
theorem Ae (i j:Nat) {pre post:List Sh} {q:Addr} {ds:List D} (h1:jj ρ i (.t (pre++.v (.adr q)::post))) (hj:At ρ j (.aw q ds)) (h:aW c sts ((ρ.set i (.fo (.t (pre++.la q ds::post)))).set j .un) nx p) (hij:j≠i):aW c sts ρ nx p:=fun σ H Hf D S o pins s I=>by
 obtain ⟨v,ev,fp,rf,nd,hfr⟩:=S.at_ i _ h1.at_.1 (by intro z; cases z)
 obtain ⟨vj,evj,rj⟩:=S.at_ j _ hj.get (by intro z; cases z)
 obtain ⟨q',xs,rfl,⟨fq,rfl⟩,q1,q2,q3⟩:=rj
 have hz:=aR.fz _ rf
 simp only [aR] at rf
 obtain ⟨a,vs,e,t1,t2⟩:=rf
 have nq:q'∉fp.map (·.1):=fun m=>by
  obtain ⟨z,hm,rfl⟩:=cW m
  have:=(hz z hm).1
  rw [q1] at this; cases this
 have t3:=aA.mv (H':=upd H q' (pl q' xs)) (.refl _) _ (fun z hz e1 e2=>⟨by rw [ai fun e=>nq (by rw [← e]; exact HC.mpr ⟨z,hz,rfl⟩)]; exact e1,e2⟩) t2
 obtain ⟨f1,f2,rfl,t4⟩:=aA.Eb ah q2 q3 t3
 have I1:=rQ I q1
 refine h σ _ Hf D (S.Ec h1 (G8.mp hj.get).1 hij fq q2 (fun j' r a b hj' ow e=>?_) (fun _=>⟨v,ev,f1++(q',xs)::f2,?_,?_,?_⟩) (fun z=>absurd rfl z) rfl fun z=>by cases z) o pins s I1
 ·exact S.sep j' j r _ q' b hj' hj.get ow rfl e evj
 ·simp only [aR]
  exact ⟨a,vs,e,t1,t4⟩
 ·rw [HB,G3]
  rw [HB] at nd nq
  rw [LA] at nd ⊢
  rw [Hy,not_or] at nq
  refine ⟨nd.1,IK.mpr ⟨nq.2,nd.2.1⟩,fun a ha b hb e=>?_⟩
  rcases G5.mp hb with rfl | hb
  ·subst e; exact nq.1 ha
  ·exact nd.2.2 a ha b hb e
 ·intro z hz
  rcases Hy.mp hz with h | h
  ·exact hfr z (Jx _ h)
  ·rcases G5.mp h with rfl | h
   ·exact fq
   ·exact hfr z (Il _ h)
end
end EV
namespace EV
open PySem PySem.Spec PyProof.Rows L2
noncomputable def iL (t:Trm):Trm:=(t.1,-t.2)
theorem CT {m:List Int} (h:trim m=m) (hn:m≠[]):at0 m (m.length - 1)≠0:=by
 rcases List.eq_nil_or_concat m with rfl | ⟨l,x,rfl⟩
 ·exact absurd rfl hn
 ·rw [List.concat_eq_append] at h ⊢
  intro z
  have e:at0 (l++[x]) ((l++[x]).length - 1)=x:=by
   rw [cH (by simp)]; simp
  rw [e] at z; subst z
  rw [fG] at h
  have:=eX l
  rw [h,HQ,JU] at this
  omega
theorem wC {l m:List Int} (hl:trim l=l) (hm:trim m=m) (h:∀ i,at0 l i=at0 m i):l=m:=by
 have key:∀ {l m:List Int},trim m=m→(∀ i,at0 l i=at0 m i)→m.length≤l.length:=fun {l m} hm h=>by
  rcases Nat.lt_or_ge l.length m.length with z | z
  ·have hn:m≠[]:=by rintro rfl; simp at z
   have:=CT hm hn
   rw [← h,cy (by omega)] at this
   exact absurd rfl this
  ·exact z
 have e:l.length=m.length:=Nat.le_antisymm (key hl fun i=>(h i).symm) (key hm h)
 refine M4 e fun i h1 h2=>?_
 have:=h i
 rwa [cH h1,cH h2] at this
theorem fc {p q:List Int} (h:∀ i,at0 p i=at0 q i):trim p=trim q:=wC (bM p) (bM q) fun i=>by rw [cU,cU,h]
theorem wD (a b:List Int):trim (bQ (trim a) (trim b))=trim (bQ a b):=fc fun i=>by rw [bF,bF,cU,cU]
theorem rS (a b:List Int):trim (bQ (trim a) b)=trim (bQ a b):=fc fun i=>by rw [bF,bF,cU]
theorem rT (a b:List Int):trim (bQ a (trim b))=trim (bQ a b):=fc fun i=>by rw [bF,bF,cU]
theorem wF (a b:List Int):bQ a b=bQ b a:=by
 unfold bQ; rw [Nat.max_comm]; exact Jy fun k _=>Ma _ _
theorem Af (a:List Int):trim (bQ [] a)=trim a:=fc fun i=>by rw [bF,cy (HF _),K3]
theorem rV (a b c:List Int):trim (bQ (bQ a b) c)=trim (bQ a (bQ b c)):=fc fun i=>by
 rw [bF,bF,bF,bF,Int.add_assoc]
noncomputable def ev (g:List Int→Int):List Trm→Int
 | []=>0
 | t::A=>t.2 * g (trim t.1)+ev g A
theorem aN (g:List Int→Int) (t:Trm) (A:List Trm):ev g (t::A)=t.2 * g (trim t.1)+ev g A:=rfl
theorem bJ (g:List Int→Int) (B:List Trm):∀ A,ev g (A++B)=ev g A+ev g B
 | []=>by simp [ev]
 | t::A=>by rw [Ja,aN,aN,bJ g B A]; omega
theorem iM (g:List Int→Int):∀ A:List Trm,ev g (A.map iL)= - ev g A
 | []=>rfl
 | t::A=>by
  rw [G3,aN,aN,iM g A]
  show -t.2 * g (trim t.1)+_=_
  rw [Int.neg_mul]; omega
theorem Ag (g:List Int→Int) (l:Trm):∀ B:List Trm,ev g (B.map (cV l))=l.2 * ev (fun q=>g (trim (bQ (trim l.1) q))) B
 | []=>by simp [ev]
 | r::B=>by
  rw [G3,aN,aN,Ag g l B]
  show l.2 * r.2 * g (trim (bQ l.1 r.1))+_=_
  rw [Int.mul_add,wD,K0]
theorem bz (g:List Int→Int) (B:List Trm):∀ A:List Trm,ev g (aF A B)=ev (fun p=>ev (fun q=>g (trim (bQ p q))) B) A
 | []=>rfl
 | l::A=>by
  show ev g (B.map (cV l)++aF A B)=_
  rw [bJ,Ag,bz g B A]; rfl
theorem ff {g h:List Int→Int} (e:∀ p,trim p=p→g p=h p):∀ A,ev g A=ev h A
 | []=>rfl
 | t::A=>by rw [aN,aN,e _ (bM _),ff e A]
theorem Ah (g h:List Int→Int):∀ A,ev (fun p=>g p+h p) A=ev g A+ev h A
 | []=>rfl
 | t::A=>by rw [aN,aN,aN,Ah g h A,Int.mul_add]; omega
theorem Ed (c:Int) (g:List Int→Int):∀ A,ev (fun p=>c * g p) A=c * ev g A
 | []=>by simp [ev]
 | t::A=>by rw [aN,aN,Ed c g A,Int.mul_add,Int.mul_left_comm]
theorem uS:∀ A,ev (fun _=>0) A=0
 | []=>rfl
 | t::A=>by rw [aN,uS A]; simp
theorem uT (f:List Int→List Int→Int) (B:List Trm):∀ A,ev (fun p=>ev (fun q=>f p q) B) A=ev (fun q=>ev (fun p=>f p q) A) B
 | []=>by show 0=ev (fun _=>0) B; rw [uS]
 | t::A=>by
  show t.2 * ev (fun q=>f (trim t.1) q) B+ev _ A=ev (fun q=>t.2 * f (trim t.1) q+ev (fun p=>f p q) A) B
  rw [Ah,Ed,uT f B A]
noncomputable def eqv (A B:List Trm):Prop:=∀ g,ev g A=ev g B
theorem eqv.rf (A:List Trm):eqv A A:=fun _=>rfl
theorem eqv.app {A B A' B':List Trm} (h:eqv A A') (k:eqv B B'):eqv (A++B) (A'++B'):=fun g=>by rw [bJ,bJ,h g,k g]
theorem eqv.neg {A B:List Trm} (h:eqv A B):eqv (A.map iL) (B.map iL):=fun g=>by rw [iM,iM,h g]
theorem eqv.prod {A B A' B':List Trm} (h:eqv A A') (k:eqv B B'):eqv (aF A B) (aF A' B'):=fun g=>by
 rw [bz,bz,h]; exact ff (fun p _=>k _) _
instance trmSetoid:Setoid (List Trm):=⟨eqv,⟨eqv.rf,fun h g=>(h g).symm,fun h k g=>(h g).trans (k g)⟩⟩
noncomputable def MP:Type:=Quotient trmSetoid
noncomputable def mp (A:List Trm):MP:=Quotient.mk trmSetoid A
theorem cX {A B:List Trm}:mp A=mp B↔eqv A B:=⟨fun h=>Quotient.exact h,fun h=>LR h⟩
noncomputable def cT (n:Int):List Trm:=[([],n)]
theorem jk (g:List Int→Int) (n:Int):ev g (cT n)=n * g []:=by show n * g (trim [])+0=_; rw [L8]; rfl
noncomputable instance:Add MP:=⟨Quotient.lift₂ (fun A B=>mp (A++B)) fun _ _ _ _ h k=>LR (eqv.app h k)⟩
noncomputable instance:Mul MP:=⟨Quotient.lift₂ (fun A B=>mp (aF A B)) fun _ _ _ _ h k=>LR (eqv.prod h k)⟩
noncomputable instance:Neg MP:=⟨Quotient.lift (fun A=>mp (A.map iL)) fun _ _ h=>LR (eqv.neg h)⟩
noncomputable instance:Sub MP:=⟨fun a b=>a+ -b⟩
noncomputable instance:NatCast MP:=⟨fun n=>mp (cT n)⟩
noncomputable instance:IntCast MP:=⟨fun n=>mp (cT n)⟩
noncomputable instance (n:Nat):OfNat MP n:=⟨mp (cT n)⟩
noncomputable instance:SMul Nat MP:=⟨fun n a=>(n:MP) * a⟩
noncomputable instance:SMul Int MP:=⟨fun n a=>(n:MP) * a⟩
noncomputable def MP.pow (a:MP):Nat→MP
 | 0=>1
 | n+1=>MP.pow a n * a
noncomputable instance:HPow MP Nat MP:=⟨MP.pow⟩
theorem rX (A B:List Trm):mp (A++B)=mp A+mp B:=rfl
theorem nV (A B:List Trm):mp (aF A B)=mp A * mp B:=rfl
theorem Gi (A B:List Trm):mp (A++B.map iL)=mp A - mp B:=rfl
theorem rY (n:Int):mp (cT n)=(n:MP):=rfl
theorem mp1 {P:MP→Prop} (h:∀ A,P (mp A)) (a:MP):P a:=Quotient.inductionOn a h
theorem Gj (g:List Int→Int) (A:List Trm):ev g (aF (cT 1) A)=ev g A:=by
 rw [bz,jk,K5]
 exact ff (fun p hp=>by rw [Af,hp]) _
theorem mulC:∀ a b:MP,a * b=b * a:=mp1 fun A=>mp1 fun B=>cX.mpr fun g=>by
 rw [bz,bz,uT]
 exact ff (fun q _=>ff (fun p _=>by rw [wF]) _) _
theorem oneM:∀ a:MP,1 * a=a:=mp1 fun A=>cX.mpr fun g=>Gj g A
theorem addC:∀ a b:MP,a+b=b+a:=mp1 fun A=>mp1 fun B=>cX.mpr fun g=>by rw [bJ,bJ,Ma]
theorem Ef:∀ a b c:MP,(a+b) * c=a * c+b * c:=mp1 fun A=>mp1 fun B=>mp1 fun C=>cX.mpr fun g=>by rw [bz,bJ,bJ,bz,bz]
theorem Eg:∀ a:MP,0 * a=0:=mp1 fun A=>cX.mpr fun g=>by
 rw [bz,jk,jk]; show 0 * _=0 * _; rw [J5,J5]
noncomputable instance:Lean.Grind.CommRing MP where
 add_zero:=mp1 fun A=>cX.mpr fun g=>by rw [bJ,jk]; show _+0 * _=_; rw [J5,L8]
 add_comm:=addC
 add_assoc:=mp1 fun A=>mp1 fun B=>mp1 fun C=>cX.mpr fun g=>by rw [bJ,bJ,bJ,bJ,Int.add_assoc]
 mul_assoc:=mp1 fun A=>mp1 fun B=>mp1 fun C=>cX.mpr fun g=>by
  rw [bz,bz,bz]
  refine ff (fun p _=>?_) _
  rw [bz]
  refine ff (fun q _=>ff (fun r _=>?_) _) _
  rw [rS,rT,rV]
 mul_one:=fun a=>by rw [mulC,oneM]
 one_mul:=oneM
 left_distrib:=fun a b c=>by rw [mulC,Ef,mulC b,mulC c]
 right_distrib:=Ef
 zero_mul:=Eg
 mul_zero:=fun a=>by rw [mulC,Eg]
 pow_zero:=fun _=>rfl
 pow_succ:=fun _ _=>rfl
 ofNat_succ:=fun n=>cX.mpr fun g=>by
  show ev g (cT ((n+1:Nat):Int))=ev g (cT (n:Int)++cT ((1:Nat):Int))
  rw [bJ,jk,jk,jk,Int.natCast_add,JI]
 ofNat_eq_natCast:=fun _=>rfl
 nsmul_eq_natCast_mul:=fun _ _=>rfl
 neg_add_cancel:=mp1 fun A=>cX.mpr fun g=>by
  rw [bJ,iM,jk]; show _=0 * _; rw [J5]; omega
 sub_eq_add_neg:=fun _ _=>rfl
 neg_zsmul:=fun i=>mp1 fun A=>cX.mpr fun g=>by
  show ev g (aF (cT (-i)) A)=ev g ((aF (cT i) A).map iL)
  rw [iM,bz,bz,jk,jk,Int.neg_mul]
 zsmul_natCast_eq_nsmul:=fun _ _=>rfl
 intCast_ofNat:=fun _=>rfl
 intCast_neg:=fun i=>cX.mpr fun g=>by
  show ev g (cT (-i))=ev g ((cT i).map iL)
  rw [iM,jk,jk,Int.neg_mul]
 mul_comm:=mulC
theorem Ai {A:List Trm} {p q:List Int} {n:Int}:(bf (putD A p n) q).getD 0=if q=p then n else (bf A q).getD 0:=by
 unfold putD
 split
 ·rename_i h
  induction A with
  | nil=>simp [bf] at h
  | cons t A ih =>
   rw [G3]
   by_cases e:t.1=p
   ·rw [if_pos e]
    by_cases z:q=p
    ·rw [if_pos z,aP (by rw [e,z])]; rfl
    ·rw [if_neg z,aJ (by rw [e]; exact fun w=>z w.symm),aJ (by rw [e]; exact fun w=>z w.symm)]
     clear ih h
     induction A with
     | nil=>rfl
     | cons u A ih =>
      rw [G3]
      by_cases w:u.1=q
      ·rw [if_neg (by rw [w]; exact z),aP w,aP w]
      ·rw [aJ w,← ih,aJ (by split <;> exact w)]
   ·rw [if_neg e]
    have h':(bf A p).isSome=true:=by rw [aJ e] at h; exact h
    by_cases z:t.1=q
    ·rw [aP z,aP z,if_neg (by rw [← z]; exact e)]
    ·rw [aJ z,aJ z,ih h']
 ·rename_i h
  induction A with
  | nil =>
   rw [JA]
   by_cases z:q=p
   ·rw [if_pos z,aP z.symm]; rfl
   ·rw [if_neg z,aJ fun w=>z w.symm]
  | cons t A ih =>
   have h0:¬ t.1=p:=fun e=>h (by rw [aP e]; rfl)
   rw [Ja]
   by_cases z:t.1=q
   ·rw [aP z,aP z,if_neg (by rw [← z]; exact h0)]
   ·rw [aJ z,aJ z,ih (by rw [aJ h0] at h; exact h)]
noncomputable def cf (p:List Int) (A:List Trm):Int:=ev (fun q=>if q=p then 1 else 0) A
theorem Aj (p:List Int):∀ ts:List Trm,(bf (aL ts) p).getD 0=cf p ts:=by
 intro ts
 suffices H:∀ (ts A:List Trm),(bf (ts.foldl dX A) p).getD 0=(bf A p).getD 0+cf p ts by
  have:=H ts []
  rw [show (bf ([]:List Trm) p).getD 0=0 from rfl,K3] at this
  exact this
 intro ts
 induction ts with
 | nil=>intro A; show _=_+0; rw [L8]; rfl
 | cons t ts ih =>
  intro A
  rw [IL,ih]
  unfold dX
  rw [Ai]
  show _=_+(t.2 * (if trim t.1=p then 1 else 0)+cf p ts)
  by_cases z:p=trim t.1
  ·rw [if_pos z,if_pos z.symm,z]; omega
  ·rw [if_neg z,if_neg fun w=>z w.symm]; omega
theorem Ak {ts:List Trm} {t:Trm}:t∈nz (aL ts)↔trim t.1=t.1∧t.2≠0∧t.2=cf t.1 ts:=by
 have hk:=dM ts
 constructor
 ·intro h
  unfold nz at h
  rw [KU] at h
  refine ⟨?_,by simpa using h.2,?_⟩
  ·have bd:∃ n,∀ t∈ts,t.1.length≤n:=by
    clear h hk
    induction ts with
    | nil=>exact ⟨0,fun t h=>by cases h⟩
    | cons u ts ih =>
     obtain ⟨n,hn⟩:=ih
     refine ⟨max n u.1.length,fun t ht=>?_⟩
     rcases G5.mp ht with rfl | ht
     ·omega
     ·have:=hn t ht; omega
   obtain ⟨n,hn⟩:=bd
   exact (gU hn t h.1).1
  ·rw [← Aj,uL hk h.1]; rfl
 ·rintro ⟨h1,h2,h3⟩
  unfold nz
  rw [KU]
  refine ⟨?_,by simpa using h2⟩
  rw [← Aj] at h3
  cases e:bf (aL ts) t.1 with
  | none=>rw [e] at h3; exact absurd h3 h2
  | some n =>
   rw [e] at h3
   have h3':t.2=n:=h3
   unfold bf at e
   obtain ⟨u,hu,e2⟩:=Hj.mp e
   have m:=List.mem_of_find?_eq_some hu
   have z:u.1=t.1:=by simpa using List.find?_some hu
   have:u=t:=Prod.ext z (by rw [e2,h3'])
   rw [← this]; exact m
theorem qy {L M:List Trm} (h1:L.Nodup) (h2:M.Nodup) (h:∀ t,t∈L↔t∈M):L.Perm M:=(List.perm_ext_iff_of_nodup h1 h2).mpr h
theorem Al {A B:List Trm} (h:eqv A B):aV A=aV B:=by
 have nA:=keys_nodup (uF (dM A))
 have nB:=keys_nodup (uF (dM B))
 have hp:(nz (aL A)).Perm (nz (aL B)):=qy nA nB fun t=>by rw [Ak,Ak]; unfold cf; rw [h]
 exact rG nB ((bD _).trans hp) (gT nA)
theorem kF {A B:List Trm} (h:mp A=mp B):aV A=aV B:=Al (cX.mp h)
theorem Gk (g:List Int→Int) {A:List Trm} {p:List Int} (hp:trim p=p) (n:Int) (hk:(A.map (·.1)).Nodup) (ht:∀ t∈A,trim t.1=t.1):ev g (putD A p n)=ev g A+(n - (bf A p).getD 0) * g p:=by
 unfold putD
 split
 ·rename_i h
  induction A with
  | nil=>simp [bf] at h
  | cons t A ih =>
   rw [G3]
   rw [G3,IK] at hk
   by_cases e:t.1=p
   ·rw [if_pos e]
    have same:A.map (fun kv:Trm=>if kv.1=p then (kv.1,n) else kv)=A:=by
     refine (Jy fun u hu=>?_).trans (List.map_id A)
     rw [if_neg fun z=>hk.1 (by rw [e,← z]; exact HC.mpr ⟨u,hu,rfl⟩)]; rfl
    rw [same,aP e]
    rw [aN,aN]
    show n * g (trim t.1)+_=_+(n - t.2) * _
    rw [ht t Hg,e,Int.sub_mul]; omega
   ·rw [if_neg e]
    rw [aN,aN,ih hk.2 (fun u hu=>ht u (Hl _ hu)) (by rw [aJ e] at h; exact h),aJ e]; omega
 ·rename_i h
  have e:bf A p=none:=by
   cases e:bf A p with
   | none=>rfl
   | some n=>rw [e] at h; exact absurd rfl h
  rw [bJ,e]
  show _+(n * g (trim p)+0)=_+(n - 0) * _
  rw [hp,Int.sub_zero,L8]
theorem uU (ts:List Trm):eqv (aL ts) ts:=by
 suffices H:∀ (ts A:List Trm),(A.map (·.1)).Nodup→(∀ t∈A,trim t.1=t.1)→eqv (ts.foldl dX A) (A++ts) from H ts [] (by simp) (by simp)
 intro ts
 induction ts with
 | nil=>intro A _ _ g; simp
 | cons t ts ih =>
  intro A hk ht g
  have ih':ev g (ts.foldl dX (dX A t))=ev g (dX A t++ts):=ih _ (p9 _ _ hk) (fun u hu=>by
   rcases nP hu with e | e
   ·rw [e,bM]
   ·exact ht u e) g
  rw [IL,ih',bJ,bJ]
  unfold dX
  rw [Gk g (bM _) _ hk ht]
  show _=_+(t.2 * g (trim t.1)+ev g ts)
  rw [Int.sub_mul,JI]; omega
theorem CU (g:List Int→Int) {A B:List Trm} (h:A.Perm B):ev g A=ev g B:=by
 induction h with
 | nil=>rfl
 | cons x _ ih=>rw [aN,aN,ih]
 | swap x y l=>rw [aN,aN,aN,aN]; omega
 | trans _ _ a b=>rw [a,b]
theorem Am (g:List Int→Int):∀ A:List Trm,ev g (nz A)=ev g A
 | []=>rfl
 | t::A=>by
  unfold nz
  by_cases h:t.2=0
  ·rw [KG (by simp [h])]
   show ev g (nz A)=t.2 * _+_
   rw [Am g A,h,J5,K3]
  ·rw [JQ (by simp [h])]
   show _+ev g (nz A)=_
   rw [Am g A]; rfl
theorem An (ts:List Trm):eqv (aV ts) ts:=fun g=>by
 show ev g (gS (nz (aL ts)))=_
 rw [CU g (bD _),Am,uU ts g]
theorem uV (A:List Trm):mp (aV A)=mp A:=cX.mpr (An A)
theorem Gm (A:List Trm):mp (aL A)=mp A:=cX.mpr (uU A)
noncomputable def stp {α:Type} (xs:List α) (lo hi st:Option Int):List α:=(sliceRange (sliceBounds lo hi st xs.length).1 (sliceBounds lo hi st xs.length).2.1 (sliceBounds lo hi st xs.length).2.2).filterMap (xs[·]?)
theorem div_le_self {m st:Int} (h:0<m) (hs:0<st):(m+st - 1) / st≤m:=by
 have e:(m+st - 1) / st<m+1:=by
  apply Int.ediv_lt_of_lt_mul hs
  have:0≤m * (st - 1):=LU (by omega) (by omega)
  rw [Int.mul_sub,Int.mul_one] at this
  rw [JI,K5]
  omega
 omega
theorem uW {α:Type} {xs:List α} {lo hi:Option Int} {k:Int} (hk:0<k):(stp xs lo hi (some k)).length≤xs.length:=by
 unfold stp
 refine Hi (List.length_filterMap_le ..) ?_
 have h0:0≤(sliceBounds lo hi (some k) xs.length).1:=by
  cases lo with
  | none=>simp only [sliceBounds,LH]; rw [if_pos hk]; omega
  | some i=>simp only [sliceBounds,LH]; rw [if_pos hk]; omega
 have h1:(sliceBounds lo hi (some k) xs.length).2.1≤xs.length:=by
  cases hi with
  | none=>simp only [sliceBounds,LH]; rw [if_pos hk]; omega
  | some i=>simp only [sliceBounds,LH]; rw [if_pos hk]; omega
 have h2:(sliceBounds lo hi (some k) xs.length).2.2=k:=rfl
 rw [h2]
 unfold sliceRange
 simp only [G4,List.length_range]
 rw [if_pos (by exact hk)]
 split
 ·rename_i z
  have:=div_le_self (m:=(sliceBounds lo hi (some k) xs.length).2.1 - (sliceBounds lo hi (some k) xs.length).1) (by omega) hk
  omega
 ·simp
theorem CV {α β:Type} (f:α→β) (xs:List α) (lo hi st:Option Int):stp (xs.map f) lo hi st=(stp xs lo hi st).map f:=by
 unfold stp
 rw [G4,List.map_filterMap]
 congr 1
 funext i
 rw [G9]
theorem wG {xs:List V} {its:List Value} (h:Vals xs its):∀ ns:List Nat,Vals (ns.filterMap (xs[·]?)) (ns.filterMap (its[·]?)):=by
 intro ns
 induction ns with
 | nil=>exact .nil
 | cons n ns ih =>
  rw [Ji,Ji]
  by_cases z:n<xs.length
  ·obtain ⟨u,e,hu⟩:=h.get (HD z)
   rw [HD z,e]
   exact .cons hu ih
  ·rw [Jg (by omega),Jg (by rw [← h.length]; omega)]
   exact ih
theorem wH {K:GW} {H:Hp} {ds:List D} {xs:List V} (h:aj K H ds xs):∀ ns:List Nat,aj K H (ns.filterMap (ds[·]?)) (ns.filterMap (xs[·]?)):=by
 intro ns
 induction ns with
 | nil=>exact aq.mpr rfl
 | cons n ns ih =>
  rw [Ji,Ji]
  by_cases z:n<ds.length
  ·obtain ⟨u,e,hu⟩:=h.get (HD z)
   rw [HD z,e]
   exact aB.mpr ⟨_,_,rfl,hu,ih⟩
  ·rw [Jg (by omega),Jg (by rw [← h.length]; omega)]
   exact ih
noncomputable def tStp (X:Cx) (te:TE) (tl th ts:TO):TE:=fun σ H Q=>te σ H fun x H1=>tl σ H1 fun l H2=>th σ H2 fun u H3=>ts σ H3 fun t H4=>∃ a xs k,x=.ref a∧SqL X.K H4 a xs∧t=some k∧0<k∧∀ p,H4 p=none→Q (.ref p) (upd H4 p (.lst (stp xs l u (some k))))
section
variable {X:Cx} {e:Expr} {te:TE} {lo hi:Option Expr} {st:Expr} {tl th ts:TO} {pos p2:Pos}
theorem Gn (he:PE X e te) (hl:PO X lo tl) (hu:PO X hi th) (ht:PO X (some st) ts):PE X (.Subscript e (.Slice lo hi (some st) p2) pos) (tStp X te tl th ts):=by
 intro pins s σ H Q I h
 refine Subscript_ (thn (he pins s σ H _ I h) fun v s1 ⟨x,H1,I1,r1,q1⟩=>?_)
 refine wpAny_Slice (thn (hl pins s1 σ H1 _ I1 q1) fun vl s2 ⟨l,H2,I2,pl,q2⟩=>thn (hu pins s2 σ H2 _ I2 q2) fun vu s3 ⟨u,H3,I3,pu,q3⟩=>thn (ht pins s3 σ H3 _ I3 q3) fun vt s4 ⟨t,H4,I4,pt,q4⟩=>?_)
 obtain ⟨a,xs,k,rfl,hx,rfl,hk,q⟩:=q4
 have I5:Inv X pins σ H4 { s4 with heap:=s4.heap.push { cls:=.type "slice",data:=.fields #[vl,vu,vt] } }:=I4.kept (t':=s4.toks) fun b ob q=>G1 _ q
 cases r1
 obtain ⟨its,r,hi,hz⟩:=I5.list hx
 have hlen:=r.length
 show wpAny (model X.prog X.w) X.A (subscriptTail e (.Slice lo _ (some st) p2) (.ref a) (.ref s4.heap.objs.size)) (EP X pins σ Q) X.xe { s4 with heap:=s4.heap.push { cls:=.type "slice",data:=.fields #[vl,vu,vt] } }
 refine tail_any (ops:=[.ref a,.ref s4.heap.objs.size]) hi.isList.typeIs MM.lookup ?_ (by walk_at "u")
 refine wpAny_getItem_list_slice hi.isList (Heap.IsSliceOf.new ..) pl pu pt (by intro e; injection e with e; omega) ?_ (by rw [Hq] <;> omega)
 have I6:=I5
 generalize hS:({ s4 with heap:=s4.heap.push { cls:=.type "slice",data:=.fields #[vl,vu,vt] } }:Shared)=S at I6 ⊢
 have ep:slicePick its.toArray l u (some k)=(stp its l u (some k)).toArray:=by
  unfold slicePick stp
  simp only [Hq,List.getElem?_toArray]
 rw [ep]
 refine ⟨.ref S.heap.objs.size,_,I6.laid (t':=S.toks) (o:=.lst (stp xs l u (some k))) (fun b ob q=>G1 _ q) (GZ _) ?_,rfl,q _ (I6.hok.fresh (GZ _))⟩
 exact ⟨Hi (uW hk) hz,_,0,by unfold stp; rw [hlen]; exact wG r _,G7 _ rfl⟩
end
section
variable {P:Program} {w:World} {K:GW} {mg:Str→Option Value} {base:Heap} {k:Nat} {N:List Str} {sc:Scope} {bk:Bool} {c:Ctx P w K mg base k N sc bk}
variable {e:Expr} {pos:Pos} {ρ:List Sl}
theorem x_stp {lo hi:Option Expr} {st:Expr} {p2:Pos} {R:Sl→Prop} (h:EvE c e ρ fun x=>EvP c lo ρ fun l=>EvP c hi ρ fun u=>EvP c (some st) ρ fun t=>∃ ds k,x=.lst ds∧t=some k∧0<k∧R (.ow (stp ds l u (some k)))):EvX c (.Subscript e (.Slice lo hi (some st) p2) pos) ρ R:=fun σ H Hf Q S q =>
 bu (Gn pbE pbP pbP pbP) (h σ H Hf _ S fun x v H1 Hf1 h1 r1 g1=>h1 σ H1 Hf1 _ (S.grw g1) fun l H2 Hf2 h2 g2=>h2 σ H2 Hf2 _ (S.grw (g1.trans g2)) fun u H3 Hf3 h3 g3=>h3 σ H3 Hf3 _ (S.grw ((g1.trans g2).trans g3)) fun t H4 Hf4 h4 g4=>by
  obtain ⟨ds,k,rfl,rfl,hk,hR⟩:=h4
  have r3:=Rep.mono g4.f _ (Rep.mono g3.f _ (Rep.mono g2.f _ r1))
  have g:=((g1.trans g2).trans g3).trans g4
  rw [aH] at r3
  obtain ⟨a,xs,rfl,k1,k2⟩:=r3
  refine ⟨a,xs,k,rfl,g4.b.seq k1,rfl,hk,fun p hp=>?_⟩
  exact q _ _ _ _ hR ⟨p,_,rfl,g.s.free hp,ah,g4.b.free hp,by unfold stp; rw [k2.length]; exact wH k2 _⟩ (g.trans (Grw.eG g4.b hp)))
end
end EV
namespace EV
open PySem PySem.Spec PySem.Calls PyProof.Rows L2
structure Drw (prog:Program) (w:World) (L:List Addr) (i:Addr) (N N':Heap→Prop) (x:Value):Prop where
 keep:∀ {b:Addr} {h h':Heap},b∈L→J8 b h h'→N h→N h'
 keep':∀ {b:Addr} {h h':Heap},b∈L→J8 b h h'→N' h→N' h'
 run:∀ {A:Around} {E Q:Value→Shared→Prop} {s:Shared},N s.heap→(∀ h',N' h'→Jj i s.heap h'→Q x { s with heap:=h' })→wpAny (model prog w) A (Je (.ref i)) Q E s
structure Dry (prog:Program) (w:World) (L:List Addr) (i:Addr) (N:Heap→Prop):Prop where
 keep:∀ {b:Addr} {h h':Heap},b∈L→J8 b h h'→N h→N h'
 run:∀ {A:Around} {E Q:Value→Shared→Prop} {s:Shared},A.handled=none→N s.heap→(∀ h' e,J8 i s.heap h'→(∃ o,h'.get? e=some o∧o.cls=.type "StopIteration")→E (.ref e) { s with heap:=h' })→wpAny (model prog w) A (Je (.ref i)) Q E s
structure Five (z TI TO i1 i2:Addr):Prop where
 a:TI≠z
 b:TO≠z
 c:i1≠z
 d:i2≠z
 e:TI≠TO
 f:TI≠i1
 g:TI≠i2
 h:TO≠i1
 i:TO≠i2
 j:i1≠i2
section
variable {prog:Program} {w:World} {A:Around} {E:Value→Shared→Prop} {s:Shared} {z TI TO i1 i2:Addr} {x y a b:Value} {N1 N1' N2 N2':Heap→Prop}
theorem Ao {Q:Value→Shared→Prop} (D:Five z TI TO i1 i2) (hz:IsZip s.heap z TI TO .none) (hTI:IsPair s.heap TI (.ref i1) (.ref i2)) (hTO:IsPair s.heap TO a b)
 (d1:Drw prog w [z,TO,i2] i1 N1 N1' x) (d2:Drw prog w [z,TO,i1] i2 N2 N2' y) (h1:N1 s.heap) (h2:N2 s.heap)
 (up1:∀ {h h':Heap},(∀ c o,c≠z→h.get? c=some o→h'.get? c=some o)→N1' h→N1' h') (up2:∀ {h h':Heap},(∀ c o,c≠z→h.get? c=some o→h'.get? c=some o)→N2' h→N2' h')
 (q:∀ h',IsZip h' z TI TO (rawInt s.heap.objs.size)→IsPair h' TO x y→N1' h'→N2' h'→IsPair h' s.heap.objs.size x y →
   (∀ c o,c≠z→c≠TO→c≠i1→c≠i2→s.heap.get? c=some o→h'.get? c=some o)→Q (.ref s.heap.objs.size) { s with heap:=h' }) :
 wpAny (model prog w) A (Builtin.«zip.__next__» ⟨[.ref z],[]⟩) (fun fin s'=>∃ v,fin=.done (.ret v)∧Q v s') E s:=by
 refine GU (m:=field (.ref z) 2) (HR hz rfl (x:=.bool false) rfl ?_)
 refine GU (m:=field (.ref z) 3) (HR hz rfl (x:=.ref TI) rfl (GU (Jl hTI rfl ?_)))
 refine GU (m:=K9 (.ref z)) ?_
 unfold K9
 refine GU (HR hz rfl (x:=.none) rfl (GX ?_))
 simp only [if_true]
 refine GU (Iq (GU (HR hz rfl (x:=.ref TO) rfl (GU (II hz (by simp) fun g1 (k1:IsZip g1 z TI TO .ellipsis) b1=>?_)))))
 have c1:=b1.extBut
 refine GU ?_
 simp only [MY,List.zipIdx_nil,JZ,List.forIn_nil]
 refine GU (GU (LV ?_))
 refine GU (m:=Je (.ref i1)) (d1.run (d1.keep (by simp) c1 h1) fun g2 m1 b2=>GX ?_)
 have c2:=b2.extBut
 have o2:IsPair g2 TO a b:=c2 _ _ D.h (c1 _ _ D.b hTO)
 refine GU (Jl o2 rfl (GU (MA o2 fun g3 (o3:IsPair g3 TO x b) b3=>GU (J6 (GX ?_)))))
 have c3:=b3.extBut
 refine GU (GU (LV ?_))
 refine GU (m:=Je (.ref i2)) (d2.run (d2.keep (by simp) c3 (d2.keep (by simp) c2 (d2.keep (by simp) c1 h2))) fun g4 m2 b4=>GX ?_)
 have c4:=b4.extBut
 have o4:IsPair g4 TO x b:=c4 _ _ D.i o3
 refine GU (Jl o4 rfl (GU (MA o4 fun g5 (o5:IsPair g5 TO x y) b5=>GU (J6 (GX (GX ?_))))))
 have c5:=b5.extBut
 refine GU (Jl o5 rfl (GU (LP ?_)))
 have sz:g5.objs.size=s.heap.objs.size:=by rw [b5.1,b4.1,b3.1,b2.1,b1.1]
 have k5:IsZip g5 z TI TO .ellipsis:=c5 _ _ D.b.symm (c4 _ _ D.d.symm (c3 _ _ D.b.symm (c2 _ _ D.c.symm k1)))
 have all:∀ c o,c≠z→c≠TO→c≠i1→c≠i2→s.heap.get? c=some o→g5.get? c=some o:=fun c o n1 n2 n3 n4 e=>c5 _ _ n2 (c4 _ _ n4 (c3 _ _ n2 (c2 _ _ n3 (c1 _ _ n1 e))))
 have m1':N1' g5:=d1.keep' (by simp) c5 (d1.keep' (by simp) c4 (d1.keep' (by simp) c3 m1))
 have m2':N2' g5:=d2.keep' (by simp) c5 m2
 refine GU (m:=Na (.ref z) (.ref g5.objs.size)) ?_
 unfold Na
 have k6:IsZip (g5.push { cls:=.type "tuple",data:=.seq #[x,y] }) z TI TO .ellipsis:=G1 _ k5
 refine GU (II k6 (by simp) fun g7 (k7:IsZip g7 z TI TO (rawInt g5.objs.size)) b7=>II k7 (by simp) fun g8 (k8:IsZip g8 z TI TO (rawInt g5.objs.size)) b8=>?_)
 have up:∀ c o,c≠z→g5.get? c=some o→g8.get? c=some o:=fun c o n e=>b8.extBut _ _ n (b7.extBut _ _ n (G1 _ e))
 have nz:g5.objs.size≠z:=JG (G2 k5)
 have p8:IsPair g8 g5.objs.size x y:=b8.extBut _ _ nz (b7.extBut _ _ nz (G7 _ rfl))
 refine GX ⟨_,rfl,?_⟩
 show Q (.ref g5.objs.size) _
 rw [sz] at k8 p8 ⊢
 exact q g8 k8 (up _ _ D.b o5) (up1 up m1') (up2 up m2') p8 fun c o n1 n2 n3 n4 e=>up c o n1 (all c o n1 n2 n3 n4 e)
theorem CW {Q:PySem.Fin→Shared→Prop} (hh:A.handled=none) (D:Five z TI TO i1 i2) (hz:IsZip s.heap z TI TO .none) (hTI:IsPair s.heap TI (.ref i1) (.ref i2)) (hTO:IsPair s.heap TO a b)
 (d:Dry prog w [z] i1 N1∨∃ x N1',Drw prog w [z] i1 N1 N1' x∧Dry prog w [z,TO,i1] i2 N2) (h1:N1 s.heap) (h2:N2 s.heap)
 (q:∀ h' e,(∀ c o,c≠z→c≠TO→c≠i1→c≠i2→s.heap.get? c=some o→h'.get? c=some o)→(∃ o,h'.get? e=some o∧o.cls=.type "StopIteration")→E (.ref e) { s with heap:=h' }) :
 wpAny (model prog w) A (Builtin.«zip.__next__» ⟨[.ref z],[]⟩) Q E s:=by
 refine GU (m:=field (.ref z) 2) (HR hz rfl (x:=.bool false) rfl ?_)
 refine GU (m:=field (.ref z) 3) (HR hz rfl (x:=.ref TI) rfl (GU (Jl hTI rfl ?_)))
 refine GU (m:=K9 (.ref z)) ?_
 unfold K9
 refine GU (HR hz rfl (x:=.none) rfl (GX ?_))
 simp only [if_true]
 refine GU (Iq (GU (HR hz rfl (x:=.ref TO) rfl (GU (II hz (by simp) fun g1 (k1:IsZip g1 z TI TO .ellipsis) b1=>?_)))))
 have c1:=b1.extBut
 refine GU ?_
 simp only [MY,List.zipIdx_nil,JZ,List.forIn_nil]
 refine GU (GU (LV ?_))
 refine GU (m:=Je (.ref i1)) ?_
 rcases d with d | ⟨x,N1',d1,d2⟩
 ·refine d.run hh (d.keep (by simp) c1 h1) fun g2 e b2 ⟨oe,e1,e2⟩=>?_
  have k2:IsZip g2 z TI TO .ellipsis:=b2 _ _ D.c.symm k1
  have ne:e≠z:=fun u=>by subst u; rw [k2] at e1; cases e1; simp at e2
  exact II k2 (by simp) fun g3 _ b3=>q g3 e (fun c o n1 _ n3 _ u=>b3.extBut _ _ n1 (b2 _ _ n3 (c1 _ _ n1 u))) ⟨oe,b3.extBut _ _ ne e1,e2⟩
 ·refine d1.run (d1.keep (by simp) c1 h1) fun g2 m1 b2=>GX ?_
  have c2:=b2.extBut
  have o2:IsPair g2 TO a b:=c2 _ _ D.h (c1 _ _ D.b hTO)
  refine GU (Jl o2 rfl (GU (MA o2 fun g3 (o3:IsPair g3 TO x b) b3=>GU (J6 (GX ?_)))))
  have c3:=b3.extBut
  refine GU (GU (LV ?_))
  refine GU (m:=Je (.ref i2)) (d2.run hh (d2.keep (by simp) c3 (d2.keep (by simp) c2 (d2.keep (by simp) c1 h2))) fun g4 e b4 ⟨oe,e1,e2⟩=>?_)
  have k4:IsZip g4 z TI TO .ellipsis:=b4 _ _ D.d.symm (c3 _ _ D.b.symm (c2 _ _ D.c.symm k1))
  have ne:e≠z:=fun u=>by subst u; rw [k4] at e1; cases e1; simp at e2
  exact II k4 (by simp) fun g5 _ b5=>q g5 e (fun c o n1 n2 n3 n4 u=>b5.extBut _ _ n1 (b4 _ _ n4 (c3 _ _ n2 (c2 _ _ n3 (c1 _ _ n1 u))))) ⟨oe,b5.extBut _ _ ne e1,e2⟩
end
section
variable {prog:Program} {w:World} {A:Around} {E:Value→Shared→Prop} {s:Shared} {i l:Addr} {us:Array Value} {k:Nat} {L:List Addr}
noncomputable def fM (i l:Addr) (us:Array Value) (k:Nat) (h:Heap):Prop:=IsTupIter h i l k∧IsTup h l us
theorem fM.keep {b:Addr} {h h':Heap} (t:fM i l us k h) (e:J8 b h h') (n1:i≠b) (n2:l≠b):fM i l us k h':=⟨t.1.extBut e n1,t.2.extBut e n2⟩
theorem nW {x:Value} (hL:∀ b∈L,i≠b∧l≠b) (hil:l≠i) (hx:us[k]?=some x):Drw prog w L i (fM i l us k) (fM i l us (k+1)) x where
 keep:=fun hb e t=>t.keep e (hL _ hb).1 (hL _ hb).2
 keep':=fun hb e t=>t.keep e (hL _ hb).1 (hL _ hb).2
 run:=fun {A E Q s} t q=>by
  obtain ⟨o,ho,hc,hd⟩:=id t.1
  obtain ⟨ol,hol,_,nl,hdl⟩:=id t.2
  unfold Je
  refine GU (Jf (name:=GV "__next__") t.1.typeIs Lp (IJ Lp t.1.typeIs entry_tupleiter_next ?_ (args_tupleiter_next _)))
  refine GU (m:=field (.ref i) 0) (HR ho hd (x:=.ref l) rfl ?_)
  show wpAny _ _ (if (Hr l == Ik)=true then _ else _) _ _ s
  rw [if_neg (show ¬ ((Hr l == Ik)=true) from G6)]
  refine GU (m:=field (.ref i) 1) (HR ho hd (x:=.int k 0) rfl ?_)
  refine GU (m:=seqItems? (.ref l)) (Jl hol hdl ?_)
  simp only [Ij,hx]
  refine GU (KY ho hd (by simp) (GX ⟨x,rfl,GX (q _ ⟨?_,t.2.extBut (Ko ..).extBut hil⟩ (Ko ..))⟩))
  exact ⟨_,Heap.get?_update_self _ ho (Obj.isFreed_of_fields (Lu hd _)),(Obj.cls_mapFields ..).trans hc,by rw [Lu hd]; simp [rawInt]⟩
theorem uX (hL:∀ b∈L,i≠b∧l≠b) (hx:us[k]?=none):Dry prog w L i (fM i l us k) where
 keep:=fun hb e t=>t.keep e (hL _ hb).1 (hL _ hb).2
 run:=fun {A E Q s} hh t q=>by
  obtain ⟨o,ho,hc,hd⟩:=id t.1
  obtain ⟨ol,hol,_,nl,hdl⟩:=id t.2
  unfold Je
  refine GU (Jf (name:=GV "__next__") t.1.typeIs Lp (IJ Lp t.1.typeIs entry_tupleiter_next ?_ (args_tupleiter_next _)))
  refine GU (m:=field (.ref i) 0) (HR ho hd (x:=.ref l) rfl ?_)
  show wpAny _ _ (if (Hr l == Ik)=true then _ else _) _ _ s
  rw [if_neg (show ¬ ((Hr l == Ik)=true) from G6)]
  refine GU (m:=field (.ref i) 1) (HR ho hd (x:=.int k 0) rfl ?_)
  refine GU (m:=seqItems? (.ref l)) (Jl hol hdl ?_)
  simp only [Ij,hx]
  refine GU (Iq (GU (KY ho hd (by simp) ?_)))
  refine GU (m:=newExc (.type "StopIteration") []) ?_
  simp only [newExc,newTuple]
  refine GU (Iw ?_ (by size_fits))
  refine GU (m:=firstArgMember _ _) (wpAny_of_eq (a:=Ik) (by first | rfl | (simp only [firstArgMember]; rfl)) ?_)
  refine Iw ?_ (by size_fits)
  simp only [raiseNew]
  refine GU (wpAny_handled ?_)
  first | rw [show A.in1.handled=none from hh] | rw [hh]
  refine GU (GX (wpAny_throw ?_))
  exact q _ _ (((Ko ..).extBut.push _).push _) ⟨_,G7 _ rfl,rfl⟩
theorem ap1 {z TI TO i1 i2 l1 l2:Addr} (D:ZipApart z TI TO i1 i2 l1 l2):∀ b∈[z,TO,i2],i1≠b∧l1≠b:=by
 intro b hb
 simp only [G5,HM,or_false] at hb
 rcases hb with rfl | rfl | rfl
 ·exact ⟨D.i1z,D.l1z⟩
 ·exact ⟨D.TOi1.symm,D.l1TO⟩
 ·exact ⟨D.i12,D.l1i2⟩
theorem ap2 {z TI TO i1 i2 l1 l2:Addr} (D:ZipApart z TI TO i1 i2 l1 l2):∀ b∈[z,TO,i1],i2≠b∧l2≠b:=by
 intro b hb
 simp only [G5,HM,or_false] at hb
 rcases hb with rfl | rfl | rfl
 ·exact ⟨D.i2z,D.l2z⟩
 ·exact ⟨D.TOi2.symm,D.l2TO⟩
 ·exact ⟨D.i12.symm,D.l2i1⟩
theorem ap0 {z TI TO i1 i2 l1 l2:Addr} (D:ZipApart z TI TO i1 i2 l1 l2):∀ b∈[z],i1≠b∧l1≠b:=by
 intro b hb
 cases Ho.mp hb
 exact ⟨D.i1z,D.l1z⟩
theorem wI {z TI TO i1 i2 l1 l2:Addr} {xs ys:Array Value} {x y a b:Value} {k:Nat} {Q:Option Value→Shared→Prop} (D:ZipApart z TI TO i1 i2 l1 l2)
 (hz:IsZip s.heap z TI TO .none) (hTI:IsPair s.heap TI (.ref i1) (.ref i2)) (hTO:IsPair s.heap TO a b) (h1:fM i1 l1 xs k s.heap) (h2:fM i2 l2 ys k s.heap) (hx:xs[k]?=some x) (hy:ys[k]?=some y)
 (q:∀ h',IsZip h' z TI TO (rawInt s.heap.objs.size)→IsPair h' TO x y→fM i1 l1 xs (k+1) h'→fM i2 l2 ys (k+1) h'→IsPair h' s.heap.objs.size x y →
   (∀ c o,c≠z→c≠TO→c≠i1→c≠i2→s.heap.get? c=some o→h'.get? c=some o)→Q (some (.ref s.heap.objs.size)) { s with heap:=h' }):wpAny (model prog w) A (pyNext (.ref z)) Q E s:=by
 have hT:s.TypeIs (.ref z) "zip":=⟨_,hz,rfl⟩
 have up:∀ {i l:Addr} {us:Array Value} {k:Nat},i≠z→l≠z→∀ {h h':Heap},(∀ c o,c≠z→h.get? c=some o→h'.get? c=some o)→fM i l us k h→fM i l us k h':=fun n1 n2 h h' e t=>by
  obtain ⟨⟨o,r1,r2⟩,⟨o',r3,r4⟩⟩:=t
  exact ⟨⟨o,e _ _ n1 r1,r2⟩,⟨o',e _ _ n2 r3,r4⟩⟩
 unfold pyNext
 exact GU (JD (Jf (name:=GV "__next__") hT LN
  (IJ LN hT F.entry_zip_next
    (Ao ⟨D.TIz,D.TOz,D.i1z,D.i2z,D.TITO,D.TIi1,D.TIi2,D.TOi1,D.TOi2,D.i12⟩ hz hTI hTO
      (nW (ap1 D) D.l1i1 hx) (nW (ap2 D) D.l2i2 hy) h1 h2
      (up D.i1z D.l1z) (up D.i2z D.l2z) fun h' a1 a2 a3 a4 a5 a6=>GX (q h' a1 a2 a3 a4 a5 a6)) (F.args_zip_next_1 _))))
theorem wJ {z TI TO i1 i2 l1 l2:Addr} {xs ys:Array Value} {a b:Value} {k:Nat} {Q:Option Value→Shared→Prop} (hh:A.handled=none) (D:ZipApart z TI TO i1 i2 l1 l2)
 (hz:IsZip s.heap z TI TO .none) (hTI:IsPair s.heap TI (.ref i1) (.ref i2)) (hTO:IsPair s.heap TO a b) (h1:fM i1 l1 xs k s.heap) (h2:fM i2 l2 ys k s.heap) (hend:xs.size≤k∨ys.size≤k)
 (q:∀ h',(∀ c o,c≠z→c≠TO→c≠i1→c≠i2→s.heap.get? c=some o→h'.get? c=some o)→Q none { s with heap:=h' }):wpAny (model prog w) A (pyNext (.ref z)) Q E s:=by
 have hT:s.TypeIs (.ref z) "zip":=⟨_,hz,rfl⟩
 unfold pyNext
 refine GU (JD (Jf (name:=GV "__next__") hT LN
  (IJ LN hT F.entry_zip_next (CW (N1:=fM i1 l1 xs k) (N2:=fM i2 l2 ys k) hh ⟨D.TIz,D.TOz,D.i1z,D.i2z,D.TITO,D.TIi1,D.TIi2,D.TOi1,D.TOi2,D.i12⟩ hz hTI hTO ?_ h1 h2 fun h' e hk he=>?_) (F.args_zip_next_1 _))))
 ·by_cases z:k<xs.size
  ·exact .inr ⟨_,_,nW (ap0 D) D.l1i1 (Hz z),uX (ap2 D) (Mw (by omega))⟩
  ·exact .inl (uX (ap0 D) (Mw (by omega)))
 ·obtain ⟨o,ho,hc⟩:=he
  refine GU (LG (T:="StopIteration") (b:=true) ⟨o,ho,hc⟩ isSubtype_stop ?_)
  exact GX (q _ hk)
end
noncomputable def Itz2 (K:GW) (l1 l2:Addr):It :=
 ⟨fun i H=>∃ xs ys x y,SqT K H l1 xs∧SqT K H l2 ys∧xs[i]?=some x∧ys[i]?=some y,
  fun i H v H'=>∃ p x y,v=.ref p∧H p=none∧H'=upd H p (.tup [x,y])∧(∀ xs,SqT K H l1 xs→xs[i]?=some x)∧∀ ys,SqT K H l2 ys→ys[i]?=some y,
  fun i H=>∃ xs ys,SqT K H l1 xs∧SqT K H l2 ys∧(xs.length≤i∨ys.length≤i)⟩
theorem wK {P:Program} {w:World} {K:GW} {elts:List Expr} {k:Nat} {pos:Pos} {z TI TO i1 i2 l1 l2:Addr} (D:ZipApart z TI TO i1 i2 l1 l2) :
 Turn P w K (.Tuple elts k pos) (Itz2 K l1 l2) [z,TI,TO,i1,i2] z (fun i h=>IsZip h z TI TO .none∧IsPair h TI (.ref i1) (.ref i2)∧(∃ a b,IsPair h TO a b)∧IsTupIter h i1 l1 i∧IsTupIter h i2 l2 i) where
 mem:=by simp
 obj:=fun i h ⟨hz,hTI,⟨a,b,hTO⟩,⟨o1,e1,_,d1⟩,⟨o2,e2,_,d2⟩⟩ b hb=>by
  simp only [G5,HM,or_false] at hb
  rcases hb with rfl | rfl | rfl | rfl | rfl
  ·exact ⟨_,hz,fun v q=>by have q':KA _=Jp v:=q; cases q'⟩
  ·exact ⟨_,hTI,fun v q=>by have q':Data.seq _ _=Jp v:=q; cases q'⟩
  ·exact ⟨_,hTO,fun v q=>by have q':Data.seq _ _=Jp v:=q; cases q'⟩
  ·exact ⟨_,e1,fun v q=>by rw [d1] at q; cases q⟩
  ·exact ⟨_,e2,fun v q=>by rw [d2] at q; cases q⟩
 keep:=fun i h h' ⟨hz,hTI,⟨a,b,hTO⟩,⟨o1,e1,r1⟩,⟨o2,e2,r2⟩⟩ hk=>⟨hk z (by simp) _ hz,hk TI (by simp) _ hTI,⟨a,b,hk TO (by simp) _ hTO⟩,⟨o1,hk i1 (by simp) _ e1,r1⟩,⟨o2,hk i2 (by simp) _ e2,r2⟩⟩
 item:=by
  intro X hP hw hK hc i pins s σ H E I hf st hg
  subst hP hw hK
  obtain ⟨hz,hTI,⟨a,b,hTO⟩,h1,h2⟩:=st
  obtain ⟨xs,ys,x,y,q1,q2,hx,hy⟩:=hg
  obtain ⟨its1,rv1,p1,z1⟩:=I.tuple q1
  obtain ⟨its2,rv2,p2,z2⟩:=I.tuple q2
  obtain ⟨u1,hu1,ru1⟩:=rv1.get hx
  obtain ⟨u2,hu2,ru2⟩:=rv2.get hy
  refine wI D hz hTI hTO ⟨h1,p1⟩ ⟨h2,p2⟩ (x:=u1) (y:=u2) (by simpa using hu1) (by simpa using hu2) fun h' a1 a2 a3 a4 a5 hk=>?_
  have Hp:H s.heap.objs.size=none:=I.hok.fresh (GZ _)
  have IA:Inv X pins σ (upd H s.heap.objs.size (.tup [x,y])) { s with heap:=s.heap.push { cls:=.type "tuple",data:=.seq #[u1,u2] },toks:=s.toks } :=
   I.laid (a:=s.heap.objs.size) (o:=.tup [x,y]) (fun _ _ q=>G1 _ q) (GZ _) ⟨by show 2≤sizeLine; decide,[u1,u2],.cons ru1 (.cons ru2 .nil),_,G7 _ rfl,rfl,0,rfl⟩
  have lt:∀ b∈[z,TI,TO,i1,i2],b<s.heap.objs.size:=fun b hb=>by
   obtain ⟨o1,e1,_⟩:=h1
   obtain ⟨o2,e2,_⟩:=h2
   simp only [G5,HM,or_false] at hb
   rcases hb with rfl | rfl | rfl | rfl | rfl
   ·exact G2 hz
   ·exact G2 hTI
   ·exact G2 hTO
   ·exact G2 e1
   ·exact G2 e2
  have gf:∀ b∈[z,TI,TO,i1,i2],dm X pins (upd H s.heap.objs.size (.tup [x,y])) b:=fun b hb=>⟨by rw [ai (Hs (lt b hb))]; exact (hf b hb).1,(hf b hb).2⟩
  have I1:Inv X pins σ (upd H s.heap.objs.size (.tup [x,y])) { s with heap:=h',toks:=s.toks }:=cP (s:={ s with heap:=s.heap.push { cls:=.type "tuple",data:=.seq #[u1,u2] },toks:=s.toks }) (t':=s.toks) (h':=h') (L:=[z,TI,TO,i1,i2]) IA (fun b o hb q=>by
   simp only [G5,HM,or_false,not_or] at hb
   by_cases e:b=s.heap.objs.size
   ·subst e
    rw [G7 _ rfl] at q; cases q; exact a5
   ·refine hk b o hb.1 hb.2.2.1 hb.2.2.2.1 hb.2.2.2.2 ?_
    rw [LC _ _ _ e] at q; exact q) gf
  have b1:IsPair h' TI (.ref i1) (.ref i2):=hk _ _ D.TIz D.TITO D.TIi1 D.TIi2 hTI
  refine ⟨_,rfl,wpAny_letOwnedTupleGo_zip (s:={ s with heap:=h' }) a1 fun h2' hz' hs'=>?_⟩
  refine ⟨.ref s.heap.objs.size,_,cP (s:={ s with heap:=h',toks:=s.toks }) (t':=s.toks) (h':=h2') (L:=[z,TI,TO,i1,i2]) I1 (fun b o hb q=>hs'.extBut b o (fun e=>hb (by simp [e])) q) gf,rfl,
   ⟨_,x,y,rfl,Hp,rfl,fun xs' h=>by rw [I.dD h q1]; exact hx,fun ys' h=>by rw [I.dD h q2]; exact hy⟩,
   ⟨hz',hs'.extBut _ _ D.TIz b1,⟨_,_,hs'.extBut _ _ D.TOz a2⟩,a3.1.extBut hs'.extBut D.i1z,a4.1.extBut hs'.extBut D.i2z⟩,fun b hb=>(gf b hb).1⟩
 done:=by
  intro X hP hw hK hc i pins s σ H E I hf st hg
  subst hP hw hK
  obtain ⟨hz,hTI,⟨a,b,hTO⟩,h1,h2⟩:=st
  obtain ⟨xs,ys,q1,q2,hend⟩:=hg
  obtain ⟨its1,rv1,p1,z1⟩:=I.tuple q1
  obtain ⟨its2,rv2,p2,z2⟩:=I.tuple q2
  have l1:=rv1.length
  have l2:=rv2.length
  refine wJ (I.ok.hd hc) D hz hTI hTO ⟨h1,p1⟩ ⟨h2,p2⟩ (by simp; omega) fun h' hk=>⟨rfl,cP (t':=s.toks) (L:=[z,TI,TO,i1,i2]) I (fun b o hb q=>?_) hf⟩
  simp only [G5,HM,or_false,not_or] at hb
  exact hk b o hb.1 hb.2.2.1 hb.2.2.2.1 hb.2.2.2.2 q
 self:=fun A i s Q E st h=>LF st.1 h
theorem wL {K:GW} {Hf:Hp} {ds es:List D} {xs ys:List V} {l1 l2:Addr} (h1:SqT K Hf l1 xs) (r1:aj K Hf ds xs) (h2:SqT K Hf l2 ys) (r2:aj K Hf es ys):gy K (Itz2 K l1 l2) (jh ds es) Hf where
 go:=fun i d H Hf1 s1 s2 e=>by
  unfold jh at e
  rw [Nj] at e
  obtain ⟨x,y,ex,ey,rfl⟩:=e
  obtain ⟨v1,f1,g1⟩:=r1.get ex
  obtain ⟨v2,f2,g2⟩:=r2.get ey
  have q1:=ak (s1.trans s2) h1
  have q2:=ak (s1.trans s2) h2
  refine ⟨⟨xs,ys,v1,v2,q1,q2,f1,f2⟩,fun v H' ⟨p,x',y',e1,e2,e3,e4,e5⟩=>?_⟩
  have z1:=e4 xs q1
  have z2:=e5 ys q2
  rw [f1] at z1; cases z1
  rw [f2] at z2; cases z2
  subst e1 e3
  have g:=Grw.new s2 e2 (o:=.tup [v1,v2])
  exact ⟨upd Hf1 p (.tup [v1,v2]),g,aC.mpr ⟨p,_,rfl,.inl (.inl ah),.cons (Rep.mono (s1.trans g.f) _ g1) (.cons (Rep.mono (s1.trans g.f) _ g2) (aq.mpr rfl))⟩⟩
 stop:=fun i H Hf1 s1 s2 e=>⟨xs,ys,ak (s1.trans s2) h1,ak (s1.trans s2) h2,by
  rw [← r1.length,← r2.length]
  unfold jh at e
  rw [List.length_zipWith] at e
  omega⟩
noncomputable abbrev ztI (h:Heap) (l:Addr):Heap:=h.push { cls:=.type "tuple_iterator",data:=.fields #[.ref l,.int 0 0] }
noncomputable abbrev ztP (h:Heap) (a b:Value):Heap:=h.push { cls:=.type "tuple",data:=.seq #[a,b] }
noncomputable abbrev zt1 (h:Heap) (l1 _l2:Addr):Heap:=ztI h l1
noncomputable abbrev zt2 (h:Heap) (l1 l2:Addr):Heap:=ztI (zt1 h l1 l2) l2
noncomputable abbrev zt3 (h:Heap) (l1 l2:Addr):Heap:=ztP (zt2 h l1 l2) (.ref h.objs.size) (.ref (zt1 h l1 l2).objs.size)
noncomputable abbrev zt4 (h:Heap) (l1 l2:Addr):Heap:=ztP (zt3 h l1 l2) .none .none
noncomputable abbrev zt5 (h:Heap) (l1 l2:Addr):Heap:=(zt4 h l1 l2).push { cls:=.type "zip",data:=.fields #[.none,.bool false,.bool false,.ref (zt2 h l1 l2).objs.size,.ref (zt3 h l1 l2).objs.size] }
theorem rZ (l1 l2:Addr) (xs ys:Array Value):Meets (Builtin.«zip.__new__» ⟨[.type "zip",.ref l1,.ref l2],[]⟩) (fun _ R s=>IsTup s.heap l1 xs∧IsTup s.heap l2 ys∧R (.ok (.ret (.ref (zt4 s.heap l1 l2).objs.size))) { s with heap:=zt5 s.heap l1 l2 }) :=
 .of_wp fun prog w A R s h=>by
  obtain ⟨hp,g,d,tk,os⟩:=s
  obtain ⟨e1,e2,h⟩:=h
  have hsub:=PySem.sub_zip
  have t1:IsTup (Shared.heap ⟨hp,g,d,tk,os⟩) l1 xs:=e1
  have t2:IsTup (Shared.heap ⟨hp.push { cls:=.type "tuple_iterator",data:=.fields #[.ref l1,.int 0 0] },g,d,tk,os⟩) l2 ys:=IsTup.push e2 _
  wp_walk using iter_tuple t1,iter_tuple t2
  exact ⟨_,rfl,h⟩
section
variable {prog:Program} {w:World} {A:Around} {E:Value→Shared→Prop} {s:Shared}
theorem wM {l1 l2:Addr} {xs ys:Array Value} {Q:Value→Shared→Prop} (e1:IsTup s.heap l1 xs) (e2:IsTup s.heap l2 ys)
 (h:∀ h',IsZip h' (s.heap.objs.size+4) (s.heap.objs.size+2) (s.heap.objs.size+3) .none→IsPair h' (s.heap.objs.size+2) (.ref s.heap.objs.size) (.ref (s.heap.objs.size+1)) →
   IsPair h' (s.heap.objs.size+3) .none .none→IsTupIter h' s.heap.objs.size l1 0→IsTupIter h' (s.heap.objs.size+1) l2 0 →
   (∀ c o,s.heap.get? c=some o→h'.get? c=some o)→Q (.ref (s.heap.objs.size+4)) { s with heap:=h' }):wpAny (model prog w) A (call (.type "zip") [.ref l1,.ref l2]) Q E s:=by
 refine callType_new F.called_zip (by decide) (F.typeCall_zip_2 _ _) (F.newCall_zip_2 _ _) (fun obj=>F.args_object_init_3 obj _ _) F.entry_zip_new (rZ l1 l2 xs ys) ⟨e1,e2,?_⟩
 have z1:(zt1 s.heap l1 l2).objs.size=s.heap.objs.size+1:=IY ..
 have z2:(zt2 s.heap l1 l2).objs.size=s.heap.objs.size+2:=by rw [IY,z1]
 have z3:(zt3 s.heap l1 l2).objs.size=s.heap.objs.size+3:=by rw [IY,z2]
 have z4:(zt4 s.heap l1 l2).objs.size=s.heap.objs.size+4:=by rw [IY,z3]
 have g5:(zt5 s.heap l1 l2).get? (zt4 s.heap l1 l2).objs.size=some _:=G7 _ rfl
 have g4:(zt5 s.heap l1 l2).get? (zt3 s.heap l1 l2).objs.size=some _:=G1 _ (G7 _ rfl)
 have g3:(zt5 s.heap l1 l2).get? (zt2 s.heap l1 l2).objs.size=some _:=G1 _ (G1 _ (G7 _ rfl))
 have g2:(zt5 s.heap l1 l2).get? (zt1 s.heap l1 l2).objs.size=some _:=G1 _ (G1 _ (G1 _ (G7 _ rfl)))
 have g1:(zt5 s.heap l1 l2).get? s.heap.objs.size=some _:=G1 _ (G1 _ (G1 _ (G1 _ (G7 _ rfl))))
 have q:=h (zt5 s.heap l1 l2)
 rw [← z2,← z3,← z4] at q
 have pr:IsPair (zt5 s.heap l1 l2) (zt2 s.heap l1 l2).objs.size (.ref s.heap.objs.size) (.ref (s.heap.objs.size+1)):=by rw [← z1]; exact g3
 refine ⟨⟨_,g5,rfl⟩,q g5 pr g4 ⟨_,g1,rfl,rfl⟩ ⟨_,by rw [← z1]; exact g2,rfl,rfl⟩ fun c o x=>G1 _ (G1 _ (G1 _ (G1 _ (G1 _ x))))⟩
end
theorem apart_new {n l1 l2:Nat} (h1:l1<n) (h2:l2<n):ZipApart (n+4) (n+2) (n+3) n (n+1) l1 l2:=by
 constructor <;> first | exact Hs (by omega) | exact JG (by omega)
noncomputable def iZip2 (K:GW) (ta:TA):TI:=fun σ H R=>ta σ H fun vs H1=>∃ l1 l2 xs ys,vs=[.ref l1,.ref l2]∧SqT K H1 l1 xs∧SqT K H1 l2 ys∧R (Itz2 K l1 l2) H1
theorem CY {X:Cx} {elts:List Expr} {kt:Nat} {tpos:Pos} {a b:Expr} {ta:TA} {p pos:Pos} (hg:Gl X "zip") (hm:X.mg "zip"=none) (ha:PA X [a,b] ta) (hs:starEach [a,b] X.env=[(false,eval a X.env),(false,eval b X.env)]) (hs2:starEach [b] X.env=[(false,eval b X.env)]) :
 PI X (.Tuple elts kt tpos) (.Call (.Name "zip" p) [a,b] [] pos) (iZip2 X.K ta):=by
 intro pins s σ H R I h
 refine Call_ (bX I hg hm EV.boot_zip (JP (thn (ha pos pins s σ H _ I h) fun us s1 ⟨vs,H1,I1,r1,q1⟩=>?_) (by rw [hs,hs2]) (by rw [hs2]; rfl)))
 obtain ⟨l1,l2,xs,ys,e,q1,q2,q⟩:=q1
 subst e
 cases r1 with
 | cons r rr =>
  cases rr with
  | cons r' rr =>
   cases rr
   cases r
   cases r'
   obtain ⟨its1,rv1,p1,z1⟩:=I1.tuple q1
   obtain ⟨its2,rv2,p2,z2⟩:=I1.tuple q2
   have b1:l1<s1.heap.objs.size:=by obtain ⟨_,e,_⟩:=p1; exact G2 e
   have b2:l2<s1.heap.objs.size:=by obtain ⟨_,e,_⟩:=p2; exact G2 e
   refine wM p1 p2 fun h' a1 a2 a3 a4 a5 hk=>LF a1 ?_
   refine ⟨s1.heap.objs.size+4,[s1.heap.objs.size+4,s1.heap.objs.size+2,s1.heap.objs.size+3,s1.heap.objs.size,s1.heap.objs.size+1],_,_,H1,rfl,I1.kept (t':=s1.toks) hk,wK (apart_new b1 b2),⟨a1,a2,⟨_,_,a3⟩,a4,a5⟩,fun b hb=>?_,q⟩
   have hb':s1.heap.objs.size≤b:=by
    simp only [G5,HM,or_false] at hb
    rcases hb with rfl | rfl | rfl | rfl | rfl
    ·exact IV _ _
    ·exact IV _ _
    ·exact IV _ _
    ·exact GZ _
    ·exact IV _ _
   exact I1.jJ hb' (I1.hok.fresh hb')
section
variable {P:Program} {w:World} {K:GW} {mg:Str→Option Value} {base:Heap} {k:Nat} {N:List Str} {sc:Scope} {bk:Bool} {c:Ctx P w K mg base k N sc bk} {ρ:List Sl} {pos tpos p:Pos} {a b:Expr} {elts:List Expr} {kt:Nat}
theorem Gp {R:List D→Prop} (hm:mg "zip"=none) (h:EvE c a ρ fun x=>EvE c b ρ fun y=>∃ ds es,x=.tup ds∧y=.tup es∧R (jh ds es)) (hg:sc.names.lookup (GV "zip")=some .globalImplicit:=by walk_at "u")
 (hs:∀ env,starEach [a,b] env=(false,eval a env)::starEach [b] env:=by intro _; walk_at "u") (hs2:∀ env,starEach [b] env=(false,eval b env)::starEach [] env:=by intro _; walk_at "u"):EvI c (.Tuple elts kt tpos) (.Call (.Name "zip" p) [a,b] [] pos) ρ R:=fun σ H Hf Q S q pins s I =>
 CY (by unfold Gl HH; rw [c.esc]; exact hg) (by rw [c.emg]; exact hm) (br pbE (br pbE cA (hs2 _)) (hs _)) (by rw [hs,hs2]; rfl) (by rw [hs2]; rfl) pins s σ H Q I
  (h σ H Hf _ S fun x v1 H1 Hf1 h1 r1 g1=>h1 σ H1 Hf1 _ (S.grw g1) fun y v2 H2 Hf2 ⟨ds,es,e1,e2,hR⟩ r2 g2=>by
    subst e1 e2
    rw [aC] at r1 r2
    obtain ⟨l1,xs,rfl,s1,t1⟩:=r1
    obtain ⟨l2,ys,rfl,s2,t2⟩:=r2
    have s1':=ak g2.f s1
    exact ⟨l1,l2,xs,ys,rfl,ak g2.b s1',ak g2.b s2,q _ _ H2 Hf2 hR (g1.trans g2) (wL s1' (t1.mono g2.f) s2 t2)⟩)
end
end EV
namespace EV
open PySem PySem.Spec PyProof.Rows L2
theorem CZ {P:Program} {w:World} {K:GW} {mg:Str→Option Value} {base:Heap} {k:Nat} {x:Str} {st:Stmt} {ok:Sh→Prop} {ps:List Str} {f:Addr} {fd:FuncData} (m:mg x=some (.ref f)) (Fu:Fun K x x st f fd) (h:aX P w K mg base (CXE P w) k f fd ps (spO K ok))
 (hb:∀ (kV doc pm:Value) (an:Option Addr) (cdv ct:Value) (us:List Value),us.length=ps.length→bindArgs (Jm x x (cZ st) (ay st) (aa st) .none kV doc pm an cdv ct) ⟨us,[]⟩=pure (ps.zip us)):CS P w K mg base k x ok :=
 ⟨f,fd,ps,m,Fu.kp,Fu.binds hb,h⟩
end EV
namespace My
open PySem PySem.Spec PyProof.Rows L2 EV
noncomputable abbrev top (i:Nat):Stmt:=PySem.Challenge.pw_everydraw_k13_raw_rules_of_lines_and_mee.main.body.getD i (.Pass ⟨0,0,0,0⟩)
noncomputable abbrev fX:=top 2
theorem r6:aE ["powers","end"] ["powers"] (aa fX):=⟨rfl,rfl,rfl,by decide +kernel,rfl,by decide +kernel,by decide +kernel⟩
theorem r8:∀ x∈(["powers","end"]:List Str),L2.Loc (aa fX) x:=by unfold L2.Loc; decide +kernel
noncomputable abbrev bU:=top 3
theorem fY:aE ["some","greatest","powers","number","k","power"] ["some"] (aa bU):=⟨rfl,rfl,rfl,by decide +kernel,rfl,by decide +kernel,by decide +kernel⟩
theorem fZ:∀ x∈(["some","greatest","powers","number","k","power"]:List Str),L2.Loc (aa bU) x:=by unfold L2.Loc; decide +kernel
noncomputable abbrev iN:=top 4
theorem wN:aE ["powers","width","key","power"] ["powers","width"] (aa iN):=⟨rfl,rfl,rfl,by decide +kernel,rfl,by decide +kernel,by decide +kernel⟩
theorem wO:∀ x∈(["powers","width","key","power"]:List Str),L2.Loc (aa iN) x:=by unfold L2.Loc; decide +kernel
noncomputable abbrev dY:=top 5
theorem nX:aE ["key","width","mask"] ["key","width"] (aa dY):=⟨rfl,rfl,rfl,by decide +kernel,rfl,by decide +kernel,by decide +kernel⟩
theorem nY:∀ x∈(["key","width","mask"]:List Str),L2.Loc (aa dY) x:=by unfold L2.Loc; decide +kernel
noncomputable abbrev iO:=top 6
theorem wQ:aE ["some","width"] ["some","width"] (aa iO):=⟨rfl,rfl,rfl,by decide +kernel,rfl,by decide +kernel,by decide +kernel⟩
theorem wR:∀ x∈(["some","width"]:List Str),L2.Loc (aa iO) x:=by unfold L2.Loc; decide +kernel
noncomputable abbrev fh:=top 7
theorem qz:aE ["total","width"] ["total","width"] (aa fh):=⟨rfl,rfl,rfl,by decide +kernel,rfl,by decide +kernel,by decide +kernel⟩
theorem qA:∀ x∈(["total","width"]:List Str),L2.Loc (aa fh) x:=by unfold L2.Loc; decide +kernel
noncomputable abbrev cJ:=top 8
theorem jl:aE ["total","left","right","key","number","shift","part","whole"] ["total","left","right"] (aa cJ):=⟨rfl,rfl,rfl,by decide +kernel,rfl,by decide +kernel,by decide +kernel⟩
theorem jm:∀ x∈(["total","left","right","key","number","shift","part","whole"]:List Str),L2.Loc (aa cJ) x:=by unfold L2.Loc; decide +kernel
noncomputable abbrev fj:=top 10
theorem qB:aE ["parts","most","part"] ["parts"] (aa fj):=⟨rfl,rfl,rfl,by decide +kernel,rfl,by decide +kernel,by decide +kernel⟩
theorem qC:∀ x∈(["parts","most","part"]:List Str),L2.Loc (aa fj) x:=by unfold L2.Loc; decide +kernel
noncomputable abbrev fk:=top 11
theorem qD:aE ["whole","part","width","factors","left","right","product"] ["whole","part","width"] (aa fk):=⟨rfl,rfl,rfl,by decide +kernel,rfl,by decide +kernel,by decide +kernel⟩
theorem qE:∀ x∈(["whole","part","width","factors","left","right","product"]:List Str),L2.Loc (aa fk) x:=by unfold L2.Loc; decide +kernel
noncomputable abbrev dz:=top 12
theorem lu:aE ["parts","width","whole","part"] ["parts"] (aa dz):=⟨rfl,rfl,rfl,by decide +kernel,rfl,by decide +kernel,by decide +kernel⟩
theorem ly:∀ x∈(["parts","width","whole","part"]:List Str),L2.Loc (aa dz) x:=by unfold L2.Loc; decide +kernel
noncomputable abbrev f9:=top 14
theorem r9:aE ["total","one","other"] ["total","one","other"] (aa f9):=⟨rfl,rfl,rfl,by decide +kernel,rfl,by decide +kernel,by decide +kernel⟩
theorem sd:∀ x∈(["total","one","other"]:List Str),L2.Loc (aa f9) x:=by unfold L2.Loc; decide +kernel
noncomputable abbrev cK:=top 16
theorem jn:aE ["i","j"] ["i","j"] (aa cK):=⟨rfl,rfl,rfl,by decide +kernel,rfl,by decide +kernel,by decide +kernel⟩
theorem jo:∀ x∈(["i","j"]:List Str),L2.Loc (aa cK) x:=by unfold L2.Loc; decide +kernel
noncomputable abbrev dB:=top 17
theorem lz:aE ["l","m"] ["l","m"] (aa dB):=⟨rfl,rfl,rfl,by decide +kernel,rfl,by decide +kernel,by decide +kernel⟩
theorem lB:∀ x∈(["l","m"]:List Str),L2.Loc (aa dB) x:=by unfold L2.Loc; decide +kernel
noncomputable abbrev gc:=top 19
theorem se:aE ["_law_found"] ["_law_found"] (aa gc):=⟨rfl,rfl,rfl,by decide +kernel,rfl,by decide +kernel,by decide +kernel⟩
theorem sj:∀ x∈(["_law_found"]:List Str),L2.Loc (aa gc) x:=by unfold L2.Loc; decide +kernel
noncomputable abbrev iP:=top 20
theorem wU:aE ["_law_script","_law_k"] ["_law_script","_law_k"] (aa iP):=⟨rfl,rfl,rfl,by decide +kernel,rfl,by decide +kernel,by decide +kernel⟩
theorem wV:∀ x∈(["_law_script","_law_k"]:List Str),L2.Loc (aa iP) x:=by unfold L2.Loc; decide +kernel
noncomputable abbrev gh:=top 21
theorem sq:aE ["_law_cell_here","_law_k","_law_many","_law_number"] ["_law_cell_here","_law_k","_law_many"] (aa gh):=⟨rfl,rfl,rfl,by decide +kernel,rfl,by decide +kernel,by decide +kernel⟩
theorem su:∀ x∈(["_law_cell_here","_law_k","_law_many","_law_number"]:List Str),L2.Loc (aa gh) x:=by unfold L2.Loc; decide +kernel
noncomputable abbrev dZ:=top 22
theorem nZ:aE ["_law_powers","_law_found"] ["_law_powers"] (aa dZ):=⟨rfl,rfl,rfl,by decide +kernel,rfl,by decide +kernel,by decide +kernel⟩
theorem n5:∀ x∈(["_law_powers","_law_found"]:List Str),L2.Loc (aa dZ) x:=by unfold L2.Loc; decide +kernel
noncomputable abbrev kG:=top 23
theorem Aq:aE ["_law_terms","_law_counts","_law_powers","_law_number","_law_short"] ["_law_terms"] (aa kG):=⟨rfl,rfl,rfl,by decide +kernel,rfl,by decide +kernel,by decide +kernel⟩
theorem Ar:∀ x∈(["_law_terms","_law_counts","_law_powers","_law_number","_law_short"]:List Str),L2.Loc (aa kG) x:=by unfold L2.Loc; decide +kernel
noncomputable abbrev d7:=top 24
theorem n6:aE ["_law_one","_law_other","_law_terms","_law_left","_law_first","_law_right","_law_second","_law_wide","_law_powers"] ["_law_one","_law_other"] (aa d7):=⟨rfl,rfl,rfl,by decide +kernel,rfl,by decide +kernel,by decide +kernel⟩
theorem n8:∀ x∈(["_law_one","_law_other","_law_terms","_law_left","_law_first","_law_right","_law_second","_law_wide","_law_powers"]:List Str),L2.Loc (aa d7) x:=by unfold L2.Loc; decide +kernel
noncomputable abbrev iQ:=top 25
theorem wW:aE ["_law_found","_law_due","_law_one","_law_other"] ["_law_found","_law_due"] (aa iQ):=⟨rfl,rfl,rfl,by decide +kernel,rfl,by decide +kernel,by decide +kernel⟩
theorem wX:∀ x∈(["_law_found","_law_due","_law_one","_law_other"]:List Str),L2.Loc (aa iQ) x:=by unfold L2.Loc; decide +kernel
noncomputable abbrev iR:=top 26
theorem wY:aE ["_law_one","_law_other"] ["_law_one","_law_other"] (aa iR):=⟨rfl,rfl,rfl,by decide +kernel,rfl,by decide +kernel,by decide +kernel⟩
theorem wZ:∀ x∈(["_law_one","_law_other"]:List Str),L2.Loc (aa iR) x:=by unfold L2.Loc; decide +kernel
noncomputable abbrev gi:=top 27
theorem sA:aE ["_law_cells","_law_offset","_law_found","_law_k","_law_terms","_law_cell_here"] ["_law_cells","_law_offset"] (aa gi):=⟨rfl,rfl,rfl,by decide +kernel,rfl,by decide +kernel,by decide +kernel⟩
theorem sC:∀ x∈(["_law_cells","_law_offset","_law_found","_law_k","_law_terms","_law_cell_here"]:List Str),L2.Loc (aa gi) x:=by unfold L2.Loc; decide +kernel
noncomputable abbrev cL:=top 28
theorem jq:aE ["_law_cell_here","_law_rest","_law_powers","_law_k"] ["_law_cell_here"] (aa cL):=⟨rfl,rfl,rfl,by decide +kernel,rfl,by decide +kernel,by decide +kernel⟩
theorem jr:∀ x∈(["_law_cell_here","_law_rest","_law_powers","_law_k"]:List Str),L2.Loc (aa cL) x:=by unfold L2.Loc; decide +kernel
noncomputable abbrev cM:=top 29
theorem ju:aE ["_law_found","_law_due"] ["_law_found","_law_due"] (aa cM):=⟨rfl,rfl,rfl,by decide +kernel,rfl,by decide +kernel,by decide +kernel⟩
theorem jv:∀ x∈(["_law_found","_law_due"]:List Str),L2.Loc (aa cM) x:=by unfold L2.Loc; decide +kernel
noncomputable abbrev iS:=top 30
theorem w4:aE ["_law_some"] ["_law_some"] (aa iS):=⟨rfl,rfl,rfl,by decide +kernel,rfl,by decide +kernel,by decide +kernel⟩
theorem w5:∀ x∈(["_law_some"]:List Str),L2.Loc (aa iS) x:=by unfold L2.Loc; decide +kernel
noncomputable abbrev gj:=top 31
theorem sD:aE ["_law_found","_law_terms"] ["_law_found"] (aa gj):=⟨rfl,rfl,rfl,by decide +kernel,rfl,by decide +kernel,by decide +kernel⟩
theorem sE:∀ x∈(["_law_found","_law_terms"]:List Str),L2.Loc (aa gj) x:=by unfold L2.Loc; decide +kernel
noncomputable abbrev d8:=top 32
theorem n9:aE ["_law_one","_law_other","_law_found","_law_k","_law_left","_law_right","_law_near"] ["_law_one","_law_other"] (aa d8):=⟨rfl,rfl,rfl,by decide +kernel,rfl,by decide +kernel,by decide +kernel⟩
theorem oh:∀ x∈(["_law_one","_law_other","_law_found","_law_k","_law_left","_law_right","_law_near"]:List Str),L2.Loc (aa d8) x:=by unfold L2.Loc; decide +kernel
noncomputable abbrev iT:=top 33
theorem w6:aE ["_law_one","_law_other","_law_handed","_law_due","_law_k","_law_found"] ["_law_one","_law_other"] (aa iT):=⟨rfl,rfl,rfl,by decide +kernel,rfl,by decide +kernel,by decide +kernel⟩
theorem w9:∀ x∈(["_law_one","_law_other","_law_handed","_law_due","_law_k","_law_found"]:List Str),L2.Loc (aa iT) x:=by unfold L2.Loc; decide +kernel
noncomputable abbrev sF:=top 34
theorem Gq:aE ["_law_script","_law_cells","_law_one","_law_other","_law_kind","_law_units"] ["_law_script"] (aa sF):=⟨rfl,rfl,rfl,by decide +kernel,rfl,by decide +kernel,by decide +kernel⟩
theorem Gr:∀ x∈(["_law_script","_law_cells","_law_one","_law_other","_law_kind","_law_units"]:List Str),L2.Loc (aa sF) x:=by unfold L2.Loc; decide +kernel
set_option Elab.async false
set_option linter.all false
set_option maxRecDepth 100000
set_option maxHeartbeats 0
local macro_rules | `(tactic| walk_at "side")=> `(tactic| first | omega | assumption | exact iC | exact oX (Nat.le_of_ble_eq_true rfl) | exact yk (by decide) (by decide +kernel) | (show xK _ _; exact ⟨by decide,by decide,by decide +kernel⟩))
local macro_rules | `(tactic| walk_at "at")=> `(tactic| with_reducible (repeat (first | exact At.z | apply At.s)))
local macro_rules | `(tactic| walk_at "sset")=> `(tactic| with_reducible (repeat (first | exact SSet.z | apply SSet.s)))
local macro_rules | `(tactic| walk_at "atI")=> `(tactic| first | assumption | rfl)
local macro_rules | `(tactic| walk_at "own")=> `(tactic| walk_at "u")
local macro_rules | `(tactic| walk_at "evSs")=> `(tactic| first
 | with_reducible refine c8 ?_
 | with_reducible refine qY ?_)
local macro_rules | `(tactic| walk_at "evS")=> `(tactic| first
 | ((with_reducible show EvS _ (Mb [Ht _ _] _ _) _ _ _); with_reducible refine s_set (by walk_at "at") ?_)
 | ((with_reducible show EvS _ (Stmt.If _ _ _ _) _ _ _); walk_at "evIf")
 | ((with_reducible show EvS _ (Stmt.Expr _ _) _ _ _); walk_at "evXp")
 | ((with_reducible show EvS _ (Stmt.Return (some (Ht _ _)) _) _ _ _); with_reducible refine yj (by walk_at "at") (by walk_at "at") rfl ?_)
 | ((with_reducible show EvS _ (Stmt.Return (some _) _) _ _ _); with_reducible refine i7 ?_)
 | ((with_reducible show EvS _ (Stmt.Return none _) _ _ _); with_reducible refine s_retN ?_)
 | ((with_reducible show EvS _ (LQ (Ht _ _) L6 _ _) _ _ _); with_reducible refine s_addq (by walk_at "at") (by walk_at "at") ?_)
 | ((with_reducible show EvS _ (LQ (Ht _ _) Operator.Sub _ _) _ _ _); with_reducible refine E9 (by walk_at "at") (by walk_at "at") ?_)
 | ((with_reducible show EvS _ (LQ (JC (Ht _ _) _ _) L6 _ _) _ _ _); with_reducible refine tS (by walk_at "at") (by walk_at "at") ?_)
 | ((with_reducible show EvS _ (Mb [Expr.Tuple [Ht _ _,Ht _ _] _ _] (Expr.Tuple [_,_] _ _) _) _ _ _); with_reducible refine s_par (by walk_at "at") (by walk_at "at") (by decide) ?_)
 | ((with_reducible show EvS _ (Mb [Expr.Tuple _ _ _] _ _) _ _ _); with_reducible refine s_asg ?_)
 | ((with_reducible show EvS _ (Mb [JC (Ht _ _) _ _] _ _) _ _ _); walk_at "evPut")
 | with_reducible refine s_break ?_
 | with_reducible refine s_continue ?_
 | with_reducible refine s_pass ?_)
local macro_rules | `(tactic| walk_at "evIf")=> `(tactic| with_reducible refine s_if ?_)
local macro_rules | `(tactic| walk_at "evXp")=> `(tactic| with_reducible refine yL (by walk_at "at") (by walk_at "at") (by walk_at "own") ?_)
local macro_rules | `(tactic| walk_at "evPut")=> `(tactic| with_reducible refine Fo (by walk_at "at") (by walk_at "at") ?_ (ho:=by walk_at "own"))
local macro_rules | `(tactic| walk_at "evK")=> `(tactic| first
 | with_reducible refine e_int ?_
 | with_reducible refine e_bl ?_
 | with_reducible refine e_non ?_
 | with_reducible refine e_str ?_)
local macro_rules | `(tactic| walk_at "evCm")=> `(tactic| first
 | with_reducible refine e_isN ?_
 | with_reducible refine e_notN ?_
 | with_reducible refine e_lt ?_
 | with_reducible refine e_eq ?_
 | with_reducible refine e_ne ?_)
local macro_rules | `(tactic| walk_at "evIx")=> `(tactic| first
 | ((with_reducible show EvE _ (JC _ (Expr.Slice _ _ _ _) _) _ _); with_reducible refine yG ?_)
 | ((with_reducible show EvE _ (JC (Ht _ _) _ _) _ _); with_reducible refine e_ixO (by walk_at "at") (by walk_at "at") (by walk_at "own") (by walk_at "sset") ?_ (by walk_at "at"))
 | ((with_reducible show EvE _ (JC (Ht _ _) _ _) _ _); with_reducible refine e_dix (by walk_at "at") (by walk_at "at") ?_)
 | with_reducible refine e_ixA ?_)
local macro_rules | `(tactic| walk_at "evBo")=> `(tactic| first
 | with_reducible refine Fi ?_
 | with_reducible refine e_sub ?_
 | with_reducible refine e_mul ?_
 | with_reducible refine e_mod ?_
 | with_reducible refine E6 ?_
 | with_reducible refine e_pow ?_)
local macro_rules | `(tactic| walk_at "evCa")=> `(tactic| first
 | ((with_reducible show EvE _ (HZ (Expr.Attribute _ _ _) _ _ _) _ _); walk_at "evMt")
 | ((with_reducible show EvE _ (HZ (Ht "isinstance" _) _ _ _) _ _); first
  | with_reducible refine nh (Txt.isin (by assumption)) (Txt.c_int (by assumption)) ?_
  | with_reducible refine nh (Txt.isin (by assumption)) (Txt.Cc (by assumption)) ?_
  | with_reducible refine nh (Txt.isin (by assumption)) (Txt.Fx (by assumption)) ?_
  | with_reducible refine nh (Txt.isin (by assumption)) (Txt.Fw (by assumption)) ?_)
 | ((with_reducible show EvE _ (HZ (Ht "len" _) _ _ _) _ _); first
  | ((with_reducible show EvE _ (HZ _ [Ht _ _] _ _) _ _); with_reducible refine Ft (Txt.len (by assumption)) (by walk_at "at") (by walk_at "at") (by walk_at "own") (by walk_at "sset") ?_)
  | with_reducible refine e_len (Txt.len (by assumption)) ?_)
 | ((with_reducible show EvE _ (HZ (Ht "tuple" _) _ _ _) _ _); first
  | ((with_reducible show EvE _ (HZ _ [Ht _ _] _ _) _ _); with_reducible refine yR (Txt.tuple (by assumption)) (by walk_at "at") (by walk_at "at") (by walk_at "own") (by walk_at "sset") ?_)
  | with_reducible refine tP (Txt.tuple (by assumption)) ?_)
 | ((with_reducible show EvE _ (HZ (Ht "abs" _) _ _ _) _ _); with_reducible refine e_abs (Txt.abs (by assumption)) ?_)
 | ((with_reducible show EvE _ (HZ (Ht "int" _) _ _ _) _ _); with_reducible refine e_intB (Txt.int (by assumption)) ?_))
local macro_rules | `(tactic| walk_at "evMt")=> `(tactic| with_reducible refine Fl (by walk_at "at") (by walk_at "at") ?_ (ho:=by walk_at "own"))
local macro_rules | `(tactic| walk_at "evE")=> `(tactic| first
 | ((with_reducible show EvE _ (Ht _ _) _ _); with_reducible refine tD (by walk_at "at") (by walk_at "at") ?_)
 | ((with_reducible show EvE _ (Expr.Constant _ _ _) _ _); walk_at "evK")
 | ((with_reducible show EvE _ (HZ _ _ _ _) _ _); walk_at "evCa")
 | ((with_reducible show EvE _ (JC _ _ _) _ _); walk_at "evIx")
 | ((with_reducible show EvE _ (Expr.BinOp _ _ _ _) _ _); walk_at "evBo")
 | ((with_reducible show EvE _ (Expr.Compare _ _ _ _) _ _); walk_at "evCm")
 | with_reducible refine e_tup ?_
 | with_reducible refine Fj ?_
 | with_reducible refine e_neg ?_
 | with_reducible refine e_not ?_
 | with_reducible refine e_and ?_
 | with_reducible refine e_or ?_
 | with_reducible refine e_one ?_
 | with_reducible refine BY ?_)
local macro_rules | `(tactic| walk_at "evX")=> `(tactic| first
 | ((with_reducible show EvX _ (Expr.List _ _) _ _); with_reducible refine DP ?_)
 | ((with_reducible show EvX _ (HZ _ _ _ _) _ _); walk_at "evXC")
 | ((with_reducible show EvX _ (Expr.BinOp _ L6 _ _) _ _); with_reducible refine DR ?_)
 | ((with_reducible show EvX _ (JC _ (Expr.Slice _ _ _ _) _) _ _); with_reducible refine tQ ?_)
 | with_reducible refine x_e ?_)
local macro_rules | `(tactic| walk_at "evXC")=> `(tactic| first
 | ((with_reducible show EvX _ (HZ (Ht "list" _) _ _ _) _ _); first
  | ((with_reducible show EvX _ (HZ _ [Ht _ _] _ _) _ _); with_reducible refine x_listO (Txt.list (by assumption)) (by walk_at "at") (by walk_at "at") (by walk_at "own") (by walk_at "sset") ?_)
  | with_reducible refine yw (Txt.list (by assumption)) ?_)
 | with_reducible refine x_e ?_)
local macro_rules | `(tactic| walk_at "evT")=> `(tactic| first
 | ((with_reducible show EvT _ (Expr.Compare _ _ _ _) _ _); first
  | with_reducible refine t_isN ?_
  | with_reducible refine t_notN ?_
  | with_reducible refine t_ne ?_
  | with_reducible refine t_eq ?_
  | with_reducible refine t_lt ?_
  | with_reducible refine t_le ?_
  | with_reducible refine t_gt ?_
  | with_reducible refine t_ge ?_
  | with_reducible refine DU (by walk_at "at") (by walk_at "at") ?_
  | with_reducible refine t_dnotin (by walk_at "at") (by walk_at "at") ?_)
 | with_reducible refine t_not ?_
 | with_reducible refine t_w (w_and ?_)
 | with_reducible refine t_w (w_or ?_)
 | with_reducible refine t_val ?_)
local macro_rules | `(tactic| walk_at "evW")=> `(tactic| first
 | with_reducible refine w_and ?_
 | with_reducible refine w_or ?_
 | with_reducible refine E7 ?_
 | with_reducible refine w_or1 ?_)
local macro_rules | `(tactic| walk_at "evG")=> `(tactic| first
 | ((with_reducible show EvG _ (Ht _ _) _ _ _); with_reducible refine dQ (by walk_at "at") ?_)
 | with_reducible refine g_tup rfl (by walk_at "u") ?_)
local macro_rules | `(tactic| walk_at "evGs")=> `(tactic| first
 | with_reducible refine E8 ?_
 | ((with_reducible show vv _ (_::_) _ _ _); with_reducible refine BZ (by walk_at "at") ?_))
local macro_rules | `(tactic| walk_at "evL")=> `(tactic| first
 | ((with_reducible show Nx _ _ _ _); with_reducible refine nxt (by walk_at "sset") ?_)
 | ((with_reducible show Sd _ _); first | with_reducible refine Sd.mk (by walk_at "side") ?_ | with_reducible refine Sd.mk ?_ ?_)
 | ((with_reducible show If2 _ _ _); first
  | with_reducible refine if2_t ?_
  | with_reducible refine if2_f ?_
  | with_reducible refine BR ?_
  | with_reducible refine BQ (fun h=>?_) (fun h=>?_)
  | with_reducible refine if2 (fun h=>?_) (fun h=>?_))
 | with_reducible refine i2 ?_
 | with_reducible refine i1 ?_
 | with_reducible refine b1 ?_
 | ((with_reducible show EqP _ _ _); first
  | with_reducible refine BS ?_
  | with_reducible refine eqp_bl ?_
  | with_reducible refine eqp_str ?_)
 | ((with_reducible show jT _ _ _); first
  | with_reducible refine yH ?_
  | with_reducible refine yI ?_
  | with_reducible refine yJ ?_)
 | ((with_reducible show FzP _ _); first
  | with_reducible refine DS ?_
  | with_reducible refine c9 ?_)
 | ((with_reducible show IsN _ _); first
  | with_reducible refine isn_t ?_
  | with_reducible refine isn_f (by intro q; cases q) ?_)
 | ((with_reducible show IxP _ _ _); first
  | refine o7 (by rfl) ?_
  | refine tN (by rfl) ?_)
 | ((with_reducible show SlP _ _ _ _); first
  | with_reducible refine EV.SlP.lst ?_
  | with_reducible refine EV.SlP.tup ?_)
 | ((with_reducible show ∃ ys,D.row _=some ys∧_); refine rowX (by rfl) ?_)
 | ((with_reducible show ∃ t b,TyD _ _ t∧_); first
  | with_reducible refine isd .int Fy ?_
  | with_reducible refine isd .int (Txt.ib (by assumption)) ?_
  | with_reducible refine isd .bl kit_bb ?_
  | with_reducible refine isd .lst FA ?_
  | with_reducible refine isd .tup Fz ?_)
 | ((with_reducible show ∃ j d,D.int _=D.int j∧_); refine ⟨_,_,rfl,(by walk_at "atI"),?_⟩)
 | ((with_reducible show ∃ r,_∧RsP _ _ _ r); walk_at "evR"))
local macro_rules | `(tactic| walk_at "ev1")=> `(tactic| first
 | ((with_reducible show EvE _ _ _ _); walk_at "evE")
 | ((with_reducible show EvX _ _ _ _); walk_at "evX")
 | ((with_reducible show EvT _ _ _ _); walk_at "evT")
 | ((with_reducible show aW _ _ _ _ _); walk_at "evSs")
 | ((with_reducible show EvS _ _ _ _ _); walk_at "evS")
 | ((with_reducible show EvA _ _ _ _); first | with_reducible refine cR ?_ | with_reducible refine i6 ?_)
 | ((with_reducible show EvW _ _ _ _); walk_at "evW")
 | ((with_reducible show EvG _ _ _ _ _); walk_at "evG")
 | ((with_reducible show vv _ _ _ _ _); walk_at "evGs")
 | ((with_reducible show EvP _ _ _ _); first | with_reducible refine Fe ?_ | with_reducible refine Ff ?_)
 | walk_at "evL")
local macro_rules | `(tactic| walk_at "ev")=> `(tactic| repeat' (walk_at "ev1"))
section
variable {P:Program} {w:World} {K:GW} {mg:Str→Option Value} {base:Heap}
noncomputable def kH:Fn:=fun ds r=>∃ n:Int,ds=[.int n]∧r=.ok (.va (.bl true))
theorem C0 (n:Int):kH [.int n] (.ok (.va (.bl true))):=⟨n,rfl,rfl⟩
theorem Au {f:Addr} {fd:FuncData} (Fu:Fun K "_law_whole" "_law_whole" gc f fd) (T:Txt K mg):aX P w K mg base (CXE P w) 1 f fd ["_law_found"] (spF K kH):=by
 refine cD Fu se sj (by rintro ds r ⟨a,rfl,_⟩; rfl) (by rintro ds r ⟨a,_,rfl⟩; exact ⟨_,rfl⟩) fun c hq ds sl hF=>?_
 obtain ⟨a,rfl,e⟩:=hF
 injection e with e
 subst e
 show aW c _ [.va (.int a)] _ _
 conv in (ay _)=>whnf
 walk_at "ev"
 rfl
noncomputable def ic:Fn:=fun ds r=>∃ l:List Int,l.length≤64∧ds=[.tup (l.map .int)]∧r=.ok (.va (.tup ((trim l).map .int)))
theorem Av {l:List Int} (h:l.length≤64):ic [.tup (l.map .int)] (.ok (.va (.tup ((trim l).map .int)))):=⟨l,h,rfl,rfl⟩
theorem Aw {cl:List Int} {j:Int} {R:EV.D→Prop} (h0:0≤j) (h1:j<cl.length) (h:R (.int (cl.getD j.toNat 0))):IxP (.tup (cl.map D.int)) (.int j) R:=by
 refine o7 ?_ h
 rw [gI h0 (by simpa using h1)]
 have hj:j.toNat<cl.length:=by omega
 simp [G9,hj]
theorem C1 {f:Addr} {fd:FuncData} (Fu:Fun K "trimmed" "trimmed" fX f fd) (T:Txt K mg):aX P w K mg base (CXE P w) 1 f fd ["powers"] (spF K ic):=by
 refine cD Fu r6 r8 (by rintro ds r ⟨a,_,rfl,_⟩; rfl) (by rintro ds r ⟨a,_,_,rfl⟩; exact ⟨_,rfl⟩) fun c hq ds sl hF=>?_
 obtain ⟨l,hl,rfl,e⟩:=hF
 injection e with e
 subst e
 show aW c _ [.va (.tup (l.map .int)),.un] _ _
 conv in (ay _)=>whnf
 walk_at "ev"
 with_reducible refine tH hq (fun m ρ'=>m≤l.length∧trim (l.take m)=trim l∧ρ'=[.va (.tup (l.map .int)),.va (.int (m:Int))]) (m₀:=l.length) ?_ ?_
 ·refine ⟨GZ _,by rw [IC],?_⟩
  rw [G4]
 ·rintro m ρ' ⟨hm,ht,rfl⟩
  walk_at "ev"
  ·refine Aw (by omega) (by omega) ?_
   have hk:((m:Int) - 1).toNat=m - 1:=by omega
   rw [hk]
   have hm1:m - 1+1=m:=by omega
   walk_at "ev"
   ·exact ⟨m - 1,by omega,by omega,mz (by omega) (by assumption) (by rw [hm1]; exact ht),by rw [show ((m - 1:Nat):Int)=(m:Int) - 1 by omega]⟩
   ·show Sl.va _=Sl.va _
    rw [gH,zw _ hm]
    have:=mC (l:=l) (m:=m - 1) (by omega) (by assumption) (by rw [hm1]; exact ht)
    rw [hm1] at this
    rw [this]
  ·show Sl.va _=Sl.va _
   have:m=0:=by omega
   subst this
   rw [gH,zw _ hm,← ht]
   rfl
noncomputable def thing (a k m:Int):Int :=
 ((a % 2147483647 * 48271+69621 * k * k+7 * k) % 2147483629 * ((a % 2147483647 * 48271+69621 * k * k+7 * k) % 2147483629) % 2147483587) * ((a % 2147483647 * 48271+69621 * k * k+7 * k) % 2147483629 * ((a % 2147483647 * 48271+69621 * k * k+7 * k) % 2147483629) % 2147483587+48271) % 2147483563 % m
theorem ie (a k:Int) {m:Int} (h:0<m):0≤thing a k m∧thing a k m<m:=⟨Int.emod_nonneg _ (by omega),Int.emod_lt_of_pos _ h⟩
noncomputable def kI:Fn:=fun ds r=>∃ a k m:Int,0<m∧m.natAbs<2 ^ 63∧k.natAbs<2 ^ 40∧ds=[.int a,.int k,.int m]∧r=.ok (.va (.int (thing a k m)))
theorem C9 {a k m:Int} (hm:0<m) (h2:m.natAbs<2 ^ 63) (hk:k.natAbs<2 ^ 40):kI [.int a,.int k,.int m] (.ok (.va (.int (thing a k m)))):=⟨a,k,m,hm,h2,hk,rfl,rfl⟩
theorem Ax {f:Addr} {fd:FuncData} (Fu:Fun K "_law_thing" "_law_thing" gh f fd) (T:Txt K mg):aX P w K mg base (CXE P w) 1 f fd ["_law_cell_here","_law_k","_law_many"] (spF K kI):=by
 refine cD Fu sq su (by rintro ds r ⟨a,k,m,_,_,_,rfl,_⟩; rfl) (by rintro ds r ⟨a,k,m,_,_,_,_,rfl⟩; exact ⟨_,rfl⟩) fun c hq ds sl hF=>?_
 obtain ⟨a,k,m,hm,hm2,hk,rfl,e⟩:=hF
 injection e with e
 subst e
 show aW c _ [.va (.int a),.va (.int k),.va (.int m),.un] _ _
 conv in (ay _)=>whnf
 walk_at "ev"
 all_goals first
  | exact pG (by omega)
  | exact dv_few hm hm2
  | rfl
  | trace_state
end
set_option Elab.async false
set_option linter.all false
set_option maxRecDepth 100000
set_option maxHeartbeats 0
section
variable {P:Program} {w:World} {K:GW} {mg:Str→Option Value} {base:Heap}
theorem Ay {l:List Int} {m:Nat} (h:m<l.length):atI ((l.take (m+1)).map D.int) (-1)=some (.int (l.getD m 0)):=by
 have hl:(l.take (m+1)).length=m+1:=by simp; omega
 rw [tZ (by decide) (by simp only [G4,hl]; omega),G4,hl]
 have e:(-1+((m+1:Nat):Int)).toNat=m:=by omega
 rw [e,G9,List.getElem?_take]
 simp [Ir,h]
section
local macro_rules | `(tactic| walk_at "side")=> `(tactic| exact gE _)
local macro_rules | `(tactic| walk_at "evXp")=> `(tactic| ((with_reducible show EvS _ (Stmt.Expr (HZ _ [] _ _) _) _ _ _); with_reducible refine s_pop (by walk_at "at") (by walk_at "at") (by walk_at "own") ?_))
theorem Az {f:Addr} {fd:FuncData} (Fu:Fun K "_law_trimmed" "_law_trimmed" dZ f fd) (T:Txt K mg):aX P w K mg base (CXE P w) 1 f fd ["_law_powers"] (spF K ic):=by
 refine cD Fu nZ n5 (by rintro ds r ⟨a,_,rfl,_⟩; rfl) (by rintro ds r ⟨a,_,_,rfl⟩; exact ⟨_,rfl⟩) fun c hq ds sl hF=>?_
 obtain ⟨l,hl,rfl,e⟩:=hF
 injection e with e
 subst e
 show aW c _ [.va (.tup (l.map .int)),.un] _ _
 conv in (ay _)=>whnf
 walk_at "ev"
 with_reducible refine tH hq (fun m ρ'=>m≤l.length∧trim (l.take m)=trim l∧ρ'=[.va (.tup (l.map .int)),.ow ((l.take m).map .int)]) (m₀:=l.length) ?_ ?_
 ·exact ⟨GZ _,by rw [IC],by rw [IC]⟩
 ·rintro m ρ' ⟨hm,ht,rfl⟩
  have hL:((l.take m).map D.int).length=m:=by simp; omega
  walk_at "ev"
  ·rw [hL] at *
   obtain ⟨n,rfl⟩:∃ n,m=n+1:=⟨m - 1,by omega⟩
   refine ⟨_,_,rfl,Ay (by omega),?_⟩
   walk_at "ev"
   ·intro z; have z':=congrArg Kz z; rw [G4,HN,Jk] at z'; omega
   ·refine ⟨n,by omega,by omega,mz (by omega) (by assumption) ht,?_⟩
    show [_,Sl.ow _]=_
    rw [iH (by omega),HB,List.map_singleton,List.dropLast_concat]
   ·show Sl.va _=Sl.va _
    rw [mC (by omega) (by assumption) ht]
  ·show Sl.va _=Sl.va _
   have:m=0:=by rw [hL] at *; omega
   subst this
   rw [← ht]
   rfl
end
end
set_option Elab.async false
set_option linter.all false
set_option maxRecDepth 100000
set_option maxHeartbeats 0
section
variable {P:Program} {w:World} {K:GW} {mg:Str→Option Value} {base:Heap}
theorem oi (x:Trm):(av x).nl:=nD (by unfold D.nls; exact ⟨nD (gE _),dR (f:=D.int) (l:=[x.2]) fun _ _=>iC⟩)
noncomputable def nzO (t:Trm):Option D:=if t.2≠0 then some (av t) else none
theorem jE:∀ L:List Trm,(L.map nzO).filterMap id=(nz L).map av
 | []=>rfl
 | t::L=>by
  unfold nz
  by_cases h:t.2=0
  ·simp only [G3,nzO,h,ne_eq,not_true,if_false,Ji,id,List.filter_cons,bne_self_eq_false,Ib]
   exact jE L
  ·have hb:(t.2 != 0)=true:=by simpa using h
   rw [List.filter_cons,if_pos hb,G3,G3,Ji]
   simp only [nzO,ne_eq,h,not_false_eq_true,if_true,id]
   rw [jE L]; rfl
noncomputable def oj:Fn:=fun ds r=>∃ ts:List Trm,ts.length≤20000∧(∀ t∈ts,t.1.length≤64)∧ds=[.lst (ts.map av)]∧r=.ok (.ow ((gS (nz (aL ts))).map av))
theorem sG {ts:List Trm} (h:ts.length≤20000) (h2:∀ t∈ts,t.1.length≤64):oj [.lst (ts.map av)] (.ok (.ow ((gS (nz (aL ts))).map av))):=⟨ts,h,h2,rfl,rfl⟩
section
local macro_rules | `(tactic| walk_at "evX")=> `(tactic| first | ((with_reducible show EvX _ (Expr.Dict _ _ _) _ _); with_reducible refine B8 ?_))
local macro_rules | `(tactic| walk_at "evCa")=> `(tactic| first | with_reducible refine bH (F:=ic) (by assumption) (by decide) ?_)
local macro_rules | `(tactic| walk_at "evR")=> `(tactic| first | with_reducible refine aZ (Av ?_) ?_)
theorem Dc {f:Addr} {fd:FuncData} (Fu:Fun K "_law_sum" "_law_sum" kG f fd) (T:Txt K mg) (h1:Cal P w K mg base 1 "_law_trimmed" ic):aX P w K mg base (CXE P w) 2 f fd ["_law_terms"] (spF K oj):=by
 refine cD Fu Aq Ar (by rintro ds r ⟨n,_,_,rfl,_⟩; rfl) (by rintro ds r ⟨n,_,_,_,rfl⟩; exact ⟨_,rfl⟩) fun c hq ds sl hF=>?_
 obtain ⟨ts,hl,hlen,rfl,e⟩:=hF
 injection e with e
 subst e
 show aW c _ [.va (.lst (ts.map av)),.un,.un,.un,.un] _ _
 conv in (ay _)=>whnf
 walk_at "ev"
 with_reducible refine b9 hq (bZ ?_)
 walk_at "ev"
 refine ⟨fun i ρ'=>∃ s2 s3 s4:Sl,ρ'=[.va (.lst (ts.map av)),.oT (encA (aL (ts.take i))),s2,s3,s4],⟨_,_,_,rfl⟩,?_,?_⟩
 ·rintro c' hcX hcR hcM i d ρ' hd ⟨s2,s3,s4,rfl⟩
  simp only [G9,Hj] at hd
  obtain ⟨t,ht,rfl⟩:=hd
  obtain ⟨hi,rfl⟩:=G8.mp ht
  have h6:=hlen _ (HW hi)
  have hsz:(aL (ts.take i)).length<sizeLine:=cI (by have:=fH (ts.take i); rw [HN] at this; omega)
  show EvG c' _ (D.tup [.tup (ts[i].1.map .int),.int ts[i].2]) _ _
  walk_at "ev"
  ·exact h6
  walk_at "ev"
  refine ⟨_,FO (A:=aL (ts.take i)) rfl _,?_⟩
  rw [zA]
  walk_at "ev"
  refine ⟨_,FP hsz,?_⟩
  walk_at "ev"
  have e:aL (ts.take (i+1))=putD (aL (ts.take i)) (trim ts[i].1) ((bf (aL (ts.take i)) (trim ts[i].1)).getD 0+ts[i].2):=by
   rw [ID hi,qa]; rfl
  show ∃ s2 s3 s4:Sl,_=[_,Sl.oT (encA (aL (ts.take (i+1)))),s2,s3,s4]
  rw [e]
  exact ⟨_,_,_,rfl⟩
 ·rintro ρ' ⟨s2,s3,s4,rfl⟩
  rw [G4,IC]
  have hn:=keys_nodup (dM ts)
  with_reducible refine c8 ?_
  with_reducible refine i7 ?_
  refine rF (Txt.sorted T) (e_x (rm 1 (by walk_at "at") (encK _) (by walk_at "sset") (dw hq (N':=["_law_powers","_law_number"]) (ρ0:=fun _=>[.un,.un]) (fun t=>.un (.un .nil)) (Cj ?_))))
  walk_at "ev"
  refine FG (vU _) ⟨?_,(aL ts).map nzO,by simp,?_,?_⟩
  ·exact sz9 (by rw [G4]; have:=fH ts; omega)
  ·intro c' hc t i d o hd ho
   simp only [G9,Hj] at hd ho
   obtain ⟨x,hx,rfl⟩:=hd
   obtain ⟨x',hx',rfl⟩:=ho
   rw [hx] at hx'; cases hx'
   show EvG c' _ (.tup [.tup (x.1.map .int),.int x.2]) _ _
   walk_at "ev"
   refine ⟨.un (.un .nil),?_⟩
   simp only [EvC]
   walk_at "ev"
   all_goals first
    | (show nzO x=some (av x); unfold nzO; rw [if_pos (by assumption)])
    | (show nzO x=none; unfold nzO; rw [if_neg fun h=>h (by assumption)])
  ·rw [jE]
   refine ⟨dR fun x _=>oi x,c9 ⟨_,rfl,MB _ hn,fun L' hp hs=>?_⟩⟩
   have eL:=rG (MB _ hn) hp hs
   rw [eL]
   rfl
end
end
set_option Elab.async false
set_option linter.all false
set_option maxRecDepth 100000
set_option maxHeartbeats 0
section
variable {P:Program} {w:World} {K:GW} {mg:Str→Option Value} {base:Heap}
theorem AA (x y:Trm):kW [.tup (x.1.map .int),.int x.2] [.tup (y.1.map .int),.int y.2]:=fun i d e h1 h2=>by
 rcases i with _ | _ | i
 ·simp at h1 h2; subst h1 h2
  exact .tup fun j d e h1 h2=>by
   simp only [G9,Hj] at h1 h2
   obtain ⟨a,_,rfl⟩:=h1
   obtain ⟨b,_,rfl⟩:=h2
   exact .sc rfl
 ·simp at h1 h2; subst h1 h2
  exact .sc rfl
 ·simp at h1
theorem Dd {x y:Trm} {T:Bool→Prop} (h:T (decide (av x=av y))):EqP (.tup [.tup (x.1.map .int),.int x.2]) (.tup [.tup (y.1.map .int),.int y.2]) T:=by
 refine BU ⟨AA x y,?_⟩
 have e:decide ([D.tup (x.1.map .int),.int x.2]=[D.tup (y.1.map .int),.int y.2])=decide (av x=av y):=by
  unfold av; simp
 rw [e]; exact h
noncomputable def qF:Fn:=fun ds r=>∃ L:List Trm,L.length≤20000∧(∀ t∈L,t.1.length≤64)∧ds=[.lst (L.map av),.lst (L.map av)]∧r=.ok (.va (.bl true))
theorem Gs {L:List Trm} (h:L.length≤20000) (h2:∀ t∈L,t.1.length≤64):qF [.lst (L.map av),.lst (L.map av)] (.ok (.va (.bl true))):=⟨L,h,h2,rfl,rfl⟩
section
local macro_rules | `(tactic| walk_at "evCa")=> `(tactic| first | with_reducible refine bH (F:=kH) (by assumption) (by decide) ?_)
local macro_rules | `(tactic| walk_at "evR")=> `(tactic| first | with_reducible refine aZ (C0 _) ?_)
theorem De {f:Addr} {fd:FuncData} (Fu:Fun K "_law_same" "_law_same" iQ f fd) (T:Txt K mg) (h1:Cal P w K mg base 1 "_law_whole" kH):aX P w K mg base (CXE P w) 2 f fd ["_law_found","_law_due"] (spF K qF):=by
 refine cD Fu wW wX (by rintro ds r ⟨n,_,_,rfl,_⟩; rfl) (by rintro ds r ⟨n,_,_,_,rfl⟩; exact ⟨_,rfl⟩) fun c hq ds sl hF=>?_
 obtain ⟨L,hl,hlen,rfl,e⟩:=hF
 injection e with e
 subst e
 show aW c _ [.va (.lst (L.map av)),.va (.lst (L.map av)),.un,.un] _ _
 conv in (ay _)=>whnf
 walk_at "ev"
 ·with_reducible refine b9 hq (i_zip (Txt.zip T) ?_)
  walk_at "ev"
  refine ⟨_,_,rfl,rfl,?_⟩
  have ez:jh (L.map av) (L.map av)=L.map fun t=>D.tup [av t,av t]:=by
   unfold jh
   rw [LJ,Ly]
  rw [ez]
  refine ⟨fun i ρ'=>∃ s2 s3:Sl,ρ'=[.va (.lst (L.map av)),.va (.lst (L.map av)),s2,s3],⟨_,_,rfl⟩,?_,?_⟩
  ·rintro c' hcX hcR hcM i d ρ' hd ⟨s2,s3,rfl⟩
   simp only [G9,Hj] at hd
   obtain ⟨t,ht,rfl⟩:=hd
   have hlt:=hlen t (IU ht)
   show EvG c' _ (.tup [.tup [.tup (t.1.map .int),.int t.2],.tup [.tup (t.1.map .int),.int t.2]]) _ _
   walk_at "ev"
   ·refine DX (Txt.all T) (e_x (dw (show c'.X.xe=noX by rw [hcX]; exact hq) (N':=["_law_power"]) (ρ0:=fun _=>[.un]) (fun t=>.un .nil) (bZ ?_)))
    walk_at "ev"
    ·exact sz9 (by rw [G4]; omega)
    refine ⟨t.1.map fun _=>some (.bl true),by simp,?_,c9 ⟨t.1.map fun _=>true,?_,?_⟩⟩
    ·intro c2 hc2 tg j d o hd ho
     simp only [G9,Hj] at hd ho
     obtain ⟨x,hx,rfl⟩:=hd
     obtain ⟨x',hx',rfl⟩:=ho
     refine dQ (by walk_at "at") (nxt (by walk_at "sset") ⟨.un .nil,?_⟩)
     simp only [EvC]
     refine ⟨fun _=>?_,fun h=>by cases h⟩
     walk_at "ev"
     rfl
    ·congr 1
     induction t.1 with
     | nil=>rfl
     | cons a l ih=>simpa using ih
    ·have e:((t.1.map fun _=>true).all id)=true:=by simp
     rw [e]
     walk_at "ev"
     refine Dd ?_
     rw [decide_eq_true rfl]
     walk_at "ev"
     exact ⟨_,_,rfl⟩
   ·exact absurd (show (([D.tup (t.1.map .int),.int t.2].length:Nat):Int)=2 from rfl) (by assumption)
  ·rintro ρ' ⟨s2,s3,rfl⟩
   walk_at "ev"
   rfl
 ·exact absurd rfl (by assumption)
end
end
set_option Elab.async false
set_option linter.all false
set_option maxRecDepth 100000
set_option maxHeartbeats 0
section
variable {P:Program} {w:World} {K:GW} {mg:Str→Option Value} {base:Heap}
noncomputable def stG (p:List Int) (g:Nat→Int) (k:Nat):Int:=if at0 p k>g k then at0 p k else g k
noncomputable def gk (L:List Trm) (k:Nat):Int:=L.foldl (fun a t=>if at0 t.1 k>a then at0 t.1 k else a) 0
noncomputable def cY (L:List Trm):List Int:=(HE 6).map (gk L)
noncomputable def gm (p:List Int) (g:Nat→Int) (j k:Nat):Int:=if k<j then stG p g k else g k
theorem uY (L:List Trm) (k:Nat):∀ a:Int,a≤L.foldl (fun a t=>if at0 t.1 k>a then at0 t.1 k else a) a:=by
 induction L with
 | nil=>exact fun a=>IG _
 | cons t L ih =>
  intro a
  rw [IL]
  refine HJ ?_ (ih _)
  split <;> omega
theorem Eh (L:List Trm) (k:Nat):0≤gk L k:=uY L k 0
theorem Df (L:List Trm) (t:Trm):gk (L++[t])=stG t.1 (gk L):=by
 funext k
 unfold gk stG
 rw [MT]; rfl
theorem Dg {p:List Int} {L:List Trm}:gm p (gk L) p.length=stG p (gk L):=by
 funext k
 unfold gm
 split
 ·rfl
 ·unfold stG
  rw [cy (by omega)]
  have:=Eh L k
  rw [if_neg (by omega)]
theorem AB (p:List Int) (g:Nat→Int):gm p g 0=g:=by funext k; unfold gm; rw [if_neg (by omega)]
noncomputable def d9 (g:Nat→Int):List D:=((HE 6).map g).map D.int
theorem AD (p:List Int) (g:Nat→Int) {j:Nat} (h:j<6) (q:stG p g j=at0 p j):(d9 (gm p g j)).set j (.int (at0 p j))=d9 (gm p g (j+1)):=by
 refine M4 (by simp [d9]) fun i h1 h2=>?_
 have hi:i<6:=by simpa [d9] using h2
 rw [List.getElem_set]
 simp only [d9,List.getElem_map,List.getElem_range]
 unfold gm
 by_cases e:j=i
 ·subst e
  rw [if_pos rfl,if_pos (by omega),q]
 ·rw [if_neg e]
  by_cases z:i<j
  ·rw [if_pos z,if_pos (by omega)]
  ·rw [if_neg z,if_neg (by omega)]
theorem xg (p:List Int) (g:Nat→Int) {j:Nat} (q:stG p g j=g j):d9 (gm p g j)=d9 (gm p g (j+1)):=by
 unfold d9
 congr 1
 refine Jy fun i _=>?_
 unfold gm
 by_cases z:i<j
 ·rw [if_pos z,if_pos (by omega)]
 ·by_cases e:i=j
  ·subst e; rw [if_neg z,if_pos (by omega),q]
  ·rw [if_neg z,if_neg (by omega)]
theorem Dh (g:Nat→Int) {j:Nat} (h:j<6):atI (d9 g) (j:Int)=some (.int (g j)):=by
 rw [gI (by omega) (by simp [d9]; omega),Ij]
 simp [d9,h]
noncomputable def kJ:Fn:=fun ds r=>∃ L:List Trm,(∀ t∈L,t.1.length≤6)∧ds=[.lst (L.map av)]∧r=.ok (.ow (d9 (gk L)))
theorem Di {L:List Trm} (h:∀ t∈L,t.1.length≤6):kJ [.lst (L.map av)] (.ok (.ow (d9 (gk L)))):=⟨L,h,rfl,rfl⟩
section
local macro_rules | `(tactic| walk_at "evPut")=> `(tactic| with_reducible refine FU (by walk_at "at") (by walk_at "at") (by walk_at "own") ?_)
local macro_rules | `(tactic| walk_at "evX")=> `(tactic| first | ((with_reducible show EvX _ (Expr.BinOp _ Operator.Mult _ _) _ _); with_reducible refine x_rep ?_))
local macro_rules | `(tactic| walk_at "evE")=> `(tactic| first | ((with_reducible show EvE _ (Ht "PLACES" _) _ _); with_reducible refine qX (by assumption) ?_))
theorem AE {f:Addr} {fd:FuncData} (Fu:Fun K "greatest_powers" "greatest_powers" bU f fd) (T:Txt K mg) (PL:∃ tk:Tok,mg "PLACES"=some (.int 6 tk)):aX P w K mg base (CXE P w) 1 f fd ["some"] (spF K kJ):=by
 obtain ⟨tk,hPL⟩:=PL
 refine cD Fu fY fZ (by rintro ds r ⟨L,_,rfl,_⟩; rfl) (by rintro ds r ⟨L,_,_,rfl⟩; exact ⟨_,rfl⟩) fun c hq ds sl hF=>?_
 obtain ⟨L,hl,rfl,e⟩:=hF
 injection e with e
 subst e
 show aW c _ [.va (.lst (L.map av)),.un,.un,.un,.un,.un] _ _
 conv in (ay _)=>whnf
 walk_at "ev"
 refine ⟨_,rfl,?_⟩
 walk_at "ev"
 ·exact ⟨⟨by decide,by decide⟩,by decide⟩
 walk_at "ev"
 show EvS c _ [.va (.lst (L.map av)),.ow (d9 (gk [])),.un,.un,.un,.un] _ _
 with_reducible refine b9 hq (bZ ?_)
 walk_at "ev"
 refine ⟨fun i ρ'=>∃ s2 s3 s4 s5:Sl,ρ'=[.va (.lst (L.map av)),.ow (d9 (gk (L.take i))),s2,s3,s4,s5],⟨_,_,_,_,rfl⟩,?_,?_⟩
 ·rintro c' hcX hcR hcM i d ρ' hd ⟨s2,s3,s4,s5,rfl⟩
  simp only [G9,Hj] at hd
  obtain ⟨t,ht,rfl⟩:=hd
  obtain ⟨hi,rfl⟩:=G8.mp ht
  have h6:=hl _ (HW hi)
  have hq':c'.X.xe=fun _ _=>False:=by rw [hcX]; exact hq
  show EvG c' _ (D.tup [.tup (L[i].1.map .int),.int L[i].2]) _ _
  walk_at "ev"
  have eg:gk (L.take (i+1))=gm L[i].1 (gk (L.take i)) L[i].1.length:=by rw [ID hi,Df,Dg]
  generalize L[i]=t at h6 eg ⊢
  generalize gk (L.take i)=g at eg ⊢
  with_reducible refine b9 hq' (F0 (Txt.enum (by assumption)) ?_)
  walk_at "ev"
  refine ⟨_,rfl,?_⟩
  refine ⟨fun j ρ'=>∃ s4 s5:Sl,ρ'=[.va (.lst (L.map av)),.ow (d9 (gm t.1 g j)),.va (.tup (t.1.map .int)),.va (.int t.2),s4,s5],⟨s4,s5,by rw [AB]⟩,?_,?_⟩
  ·rintro c2 hcX2 hcR2 hcM2 j d ρ' hd ⟨s4,s5,rfl⟩
   unfold kC at hd
   simp only [G9,Hj,List.getElem?_zipIdx] at hd
   obtain ⟨⟨x,m⟩,⟨y,⟨z,hz,rfl⟩,e⟩,rfl⟩:=hd
   obtain ⟨rfl,rfl⟩:D.int z=x∧0+j=m:=by simpa using e
   obtain ⟨hj,rfl⟩:=G8.mp hz
   have hj6:j<6:=by omega
   have ha:atI (d9 (gm t.1 g j)) (((0+j:Nat):Int))=some (.int (g j)):=by
    rw [JF,Dh _ hj6]; unfold gm; rw [if_neg (by omega)]
   have ep:at0 t.1 j=t.1[j]:=cH hj
   have hj0:0+j=j:=JF j
   rw [hj0] at ha ⊢
   show EvG c2 _ (D.tup [.int (j:Nat),.int t.1[j]]) _ _
   walk_at "ev"
   ·refine ⟨j,rfl,⟨by simp [d9]; omega,?_⟩⟩
    walk_at "ev"
    refine ⟨.va (.int (j:Nat)),.va (.int t.1[j]),?_⟩
    show [_,Sl.ow ((d9 (gm t.1 g j)).set j (.int t.1[j])),_,_,_,_]=_
    rw [← ep,AD t.1 g hj6 (by unfold stG; rw [ep,if_pos (by assumption)])]
   ·refine ⟨.va (.int (j:Nat)),.va (.int t.1[j]),?_⟩
    rw [xg t.1 g (by unfold stG; rw [ep,if_neg (by assumption)])]
  ·rintro ρ' ⟨s4,s5,rfl⟩
   rw [show (kC (t.1.map D.int)).length=t.1.length by simp [kC]]
   walk_at "ev"
   exact ⟨_,_,_,_,by rw [eg]⟩
 ·rintro ρ' ⟨s2,s3,s4,s5,rfl⟩
  rw [G4,IC]
  walk_at "ev"
  rfl
end
noncomputable def mxL (ns:List Int):Int:=ns.foldr max 0
theorem AF:∀ {ns:List Int} {n:Int},n∈ns→n≤mxL ns
 | x::ns,n,h=>by
  show n≤max x (mxL ns)
  rcases G5.mp h with rfl | h
  ·omega
  ·have:=AF h; omega
theorem Ei:∀ (ns:List Int),0≤mxL ns
 | []=>IG _
 | x::ns=>by show 0≤max x (mxL ns); have:=Ei ns; omega
theorem sH:∀ {ns:List Int} {m:Int},0≤m→(∀ n∈ns,n≤m)→mxL ns≤m
 | [],_,h,_=>h
 | x::ns,m,h0,h=>by
  show max x (mxL ns)≤m
  have:=sH h0 fun n hn=>h n (Hl _ hn)
  have:=h x Hg
  omega
theorem AG {L:List Trm} {m:Int} (h:m∈cY L) (h2:∀ n∈cY L,n≤m):m=mxL (cY L):=by
 have h0:0≤m:=by
  unfold cY at h
  obtain ⟨k,_,rfl⟩:=HC.mp h
  exact Eh L k
 exact Int.le_antisymm (AF h) (sH h0 h2)
end
set_option Elab.async false
set_option linter.all false
set_option maxRecDepth 100000
set_option maxHeartbeats 0
section
variable {P:Program} {w:World} {K:GW} {mg:Str→Option Value} {base:Heap}
noncomputable def AH:Fn:=fun ds r=>∃ (p:List Int) (W:Nat),W≤10∧Bd (2 ^ W) p∧ds=[.tup (p.map .int),.int (W:Nat)]∧r=.ok (.va (.int (pk (2 ^ W) p)))
theorem f_key {p:List Int} {W:Nat} (h:W≤10) (h2:Bd (2 ^ W) p):AH [.tup (p.map .int),.int (W:Nat)] (.ok (.va (.int (pk (2 ^ W) p)))):=⟨p,W,h,h2,rfl,rfl⟩
section
local macro_rules | `(tactic| walk_at "evE")=> `(tactic| first | ((with_reducible show EvE _ (Ht "PLACES" _) _ _); with_reducible refine qX (by assumption) ?_))
local macro_rules | `(tactic| walk_at "evBo")=> `(tactic| first | with_reducible refine DY ?_ | with_reducible refine DZ ?_ | with_reducible refine zF ?_)
theorem Gu {f:Addr} {fd:FuncData} (Fu:Fun K "key_of" "key_of" iN f fd) (T:Txt K mg) (PL:∃ tk:Tok,mg "PLACES"=some (.int 6 tk)):aX P w K mg base (CXE P w) 1 f fd ["powers","width"] (spF K AH):=by
 obtain ⟨tk,hPL⟩:=PL
 refine cD Fu wN wO (by rintro ds r ⟨p,W,_,_,rfl,_⟩; rfl) (by rintro ds r ⟨p,W,_,_,_,rfl⟩; exact ⟨_,rfl⟩) fun c hq ds sl hF=>?_
 obtain ⟨p,W,hW,hp,rfl,e⟩:=hF
 injection e with e
 subst e
 have h6:=hp.1
 show aW c _ [.va (.tup (p.map .int)),.va (.int (W:Nat)),.un,.un] _ _
 conv in (ay _)=>whnf
 walk_at "ev"
 with_reducible refine b9 hq (bZ ?_)
 walk_at "ev"
 refine ⟨fun i ρ'=>∃ s3:Sl,ρ'=[.va (.tup (p.map .int)),.va (.int (W:Nat)),.va (.int (hrn (2 ^ W) (p.take i))),s3],⟨_,rfl⟩,?_,?_⟩
 ·rintro c' hcX hcR hcM i d ρ' hd ⟨s3,rfl⟩
  simp only [G9,Hj] at hd
  obtain ⟨x,hx,rfl⟩:=hd
  obtain ⟨hi,rfl⟩:=G8.mp hx
  have bd:=zQ (two_pos W) (p:=p.take i) fun x hx=>hp.2 x (Ln hx)
  have hl:(p.take i).length≤6:=by rw [HN]; omega
  walk_at "ev"
  ·exact ⟨by omega,by omega,uN hW hl bd.1 bd.2⟩
  ·refine ⟨.va (.int p[i]),?_⟩
   rw [ID hi,zP,Ij]
 ·rintro ρ' ⟨s3,rfl⟩
  rw [G4,IC]
  have bd:=zQ (two_pos W) hp.2
  have ew:(W:Int) * (6 - ((p.map D.int).length:Nat))=((W * (6 - p.length):Nat):Int):=by
   rw [G4,Int.natCast_mul,Int.ofNat_sub h6]; rfl
  have ew2:W * (6 - p.length)≤60:=Hi (J0 hW (Nat.sub_le 6 _)) (by decide)
  walk_at "ev"
  ·exact pG (by omega)
  ·rw [ew]; exact ⟨by omega,by omega,uN hW h6 bd.1 bd.2⟩
  ·show Sl.va _=Sl.va _
   rw [ew,Ij,Int.pow_mul,F7 h6]
end
theorem dO {α:Type} (f:α→D):∀ L:List α,(L.map fun t=>some (f t)).filterMap id=L.map f
 | []=>rfl
 | x::L=>by
  rw [G3,G3,Ji]
  exact congrArg (f x:: ·) (dO f L)
noncomputable def qG:Fn:=fun ds r=>∃ (x:Int) (W:Nat),W≤10∧0≤x∧ds=[.int x,.int (W:Nat)]∧r=.ok (.va (.tup ((unp (2 ^ W) x).map .int)))
theorem Gv {x:Int} {W:Nat} (h:W≤10) (h2:0≤x):qG [.int x,.int (W:Nat)] (.ok (.va (.tup ((unp (2 ^ W) x).map .int)))):=⟨x,W,h,h2,rfl,rfl⟩
section
local macro_rules | `(tactic| walk_at "evE")=> `(tactic| first | ((with_reducible show EvE _ (Ht "PLACES" _) _ _); with_reducible refine qX (by assumption) ?_))
local macro_rules | `(tactic| walk_at "evBo")=> `(tactic| first | with_reducible refine DY ?_ | with_reducible refine DZ ?_ | with_reducible refine zF ?_)
local macro_rules | `(tactic| walk_at "evXC")=> `(tactic| first | with_reducible refine x_call (F:=ic) (by assumption) (by decide) ?_)
theorem Dj {f:Addr} {fd:FuncData} (Fu:Fun K "powers_of" "powers_of" dY f fd) (T:Txt K mg) (PL:∃ tk:Tok,mg "PLACES"=some (.int 6 tk)) (h1:Cal P w K mg base 1 "trimmed" ic):aX P w K mg base (CXE P w) 2 f fd ["key","width"] (spF K qG):=by
 obtain ⟨tk,hPL⟩:=PL
 refine cD Fu nX nY (by rintro ds r ⟨x,W,_,_,rfl,_⟩; rfl) (by rintro ds r ⟨x,W,_,_,_,rfl⟩; exact ⟨_,rfl⟩) fun c hq ds sl hF=>?_
 obtain ⟨x,W,hW,hx,rfl,e⟩:=hF
 injection e with e
 subst e
 show aW c _ [.va (.int x),.va (.int (W:Nat)),.un] _ _
 conv in (ay _)=>whnf
 walk_at "ev"
 ·exact ⟨by omega,by omega,by decide⟩
 walk_at "ev"
 rw [Ij]
 refine e_x (dw hq (N':=["k","key","mask","width"]) (ρ0:=fun _=>[.un,.va (.int x),.va (.int (1 * 2 ^ W - 1)),.va (.int (W:Nat))]) (fun t=>.un (.fr (by walk_at "at") (by walk_at "at") (by decide) rfl (.fr (by walk_at "at") (by walk_at "at") (by decide) rfl (.fr (by walk_at "at") (by walk_at "at") (by decide) rfl .nil)))) (F1 (Txt.range T) ?_))
 walk_at "ev"
 refine ⟨rfl,⟨⟨by decide,by decide⟩,⟨⟨by decide,by decide⟩,⟨by decide,?_⟩⟩⟩⟩
 refine ⟨(HE 6).map fun (i:Nat)=>some (.int (x / (2 ^ W) ^ (5 - i) % 2 ^ W)),rfl,?_,c9 ?_⟩
 ·intro c' hc t i d o hd ho
  unfold zJ at hd
  simp only [G9,Hj] at hd ho
  obtain ⟨a,ha,rfl⟩:=hd
  obtain ⟨a',ha',rfl⟩:=ho
  have hi:i<6:=by simpa using (G8.mp ha').1
  rw [KL hi] at ha'; cases ha'
  rw [show (6 - 1 - -1:Int).toNat=6 by decide,KL hi] at ha; cases ha
  refine dQ (by walk_at "at") (nxt (by walk_at "sset") ⟨.un (.same (.same (.same .nil))),?_⟩)
  simp only [EvC]
  refine ⟨fun _=>?_,fun h=>by cases h⟩
  have e5:((W:Int) * (6 - 1 - (i:Int))).toNat=W * (5 - i):=by
   rw [show ((6:Int) - 1 - (i:Int))=((5 - i:Nat):Int) by omega,← Int.natCast_mul,Ij]
  have e6:(0:Int)≤(W:Int) * (6 - 1 - (i:Int)):=LU (by omega) (by omega)
  have hp:(0:Int)<(2 ^ W) ^ (5 - i):=J7 (two_pos W)
  walk_at "ev"
  ·exact pG (by omega)
  ·show some _=some (D.int _)
   rw [e5,Int.pow_mul,wm W (Int.ediv_nonneg hx (by omega))]
 ·refine ⟨_,rfl,?_⟩
  rw [dO (fun (i:Nat)=>D.int (x / (2 ^ W) ^ (5 - i) % 2 ^ W)) (HE 6),show ((HE 6).map fun (i:Nat)=>D.int (x / (2 ^ W) ^ (5 - i) % 2 ^ W))=((HE 6).map fun (i:Nat)=>x / (2 ^ W) ^ (5 - i) % 2 ^ W).map D.int by rw [HP]; rfl]
  walk_at "ev"
  exact aZ (Av (by simp)) rfl
end
noncomputable def pkD (b:Int) (t:Trm):D:=.tup [.int (pk b t.1),.int t.2]
noncomputable def qH:Fn:=fun ds r=>∃ (L:List Trm) (W:Nat),W≤10∧L.length≤20000∧(∀ t∈L,Bd (2 ^ W) t.1)∧ds=[.lst (L.map av),.int (W:Nat)]∧r=.ok (.ow (L.map (pkD (2 ^ W))))
theorem Gw {L:List Trm} {W:Nat} (h:W≤10) (h1:L.length≤20000) (h2:∀ t∈L,Bd (2 ^ W) t.1):qH [.lst (L.map av),.int (W:Nat)] (.ok (.ow (L.map (pkD (2 ^ W))))):=⟨L,W,h,h1,h2,rfl,rfl⟩
section
local macro_rules | `(tactic| walk_at "evCa")=> `(tactic| first | with_reducible refine bH (F:=AH) (by assumption) (by decide) ?_)
theorem Dk {f:Addr} {fd:FuncData} (Fu:Fun K "packed" "packed" iO f fd) (T:Txt K mg) (h1:Cal P w K mg base 1 "key_of" AH):aX P w K mg base (CXE P w) 2 f fd ["some","width"] (spF K qH):=by
 refine cD Fu wQ wR (by rintro ds r ⟨L,W,_,_,_,rfl,_⟩; rfl) (by rintro ds r ⟨L,W,_,_,_,_,rfl⟩; exact ⟨_,rfl⟩) fun c hq ds sl hF=>?_
 obtain ⟨L,W,hW,hL,hb,rfl,e⟩:=hF
 injection e with e
 subst e
 show aW c _ [.va (.lst (L.map av)),.va (.int (W:Nat))] _ _
 conv in (ay _)=>whnf
 refine c8 (i7 (dw hq (N':=["powers","number","width"]) (ρ0:=fun _=>[.un,.un,.va (.int (W:Nat))]) (fun t=>.un (.un (.fr (by walk_at "at") (by walk_at "at") (by decide) rfl .nil))) (bZ ?_)))
 walk_at "ev"
 ·exact sz9 (by rw [G4]; omega)
 refine ⟨L.map fun t=>some (pkD (2 ^ W) t),by simp,?_,by show Sl.ow _=Sl.ow _; rw [dO]⟩
 intro c' hc t i d o hd ho
 simp only [G9,Hj] at hd ho
 obtain ⟨x,hx,rfl⟩:=hd
 obtain ⟨x',hx',rfl⟩:=ho
 rw [hx] at hx'; cases hx'
 have hbx:=hb x (IU hx)
 show EvG c' _ (.tup [.tup (x.1.map .int),.int x.2]) _ _
 walk_at "ev"
 refine ⟨.un (.un (.same .nil)),?_⟩
 simp only [EvC]
 refine ⟨fun _=>?_,fun h=>by cases h⟩
 walk_at "ev"
 refine aZ (f_key hW hbx) ?_
 walk_at "ev"
 rfl
end
end
set_option Elab.async false
set_option linter.all false
set_option maxRecDepth 100000
set_option maxHeartbeats 0
section
variable {P:Program} {w:World} {K:GW} {mg:Str→Option Value} {base:Heap}
noncomputable def Dl:FnM:=fun kvs ds Z=>∃ (ts A B:List Trm) (W:Nat),W≤10∧ts.length+A.length * B.length≤20000∧A.length≤20000∧B.length≤20000∧(∀ t∈ts,Bd (2 ^ W) t.1)∧(∀ l∈A,∀ r∈B,Bd (2 ^ W) (bQ l.1 r.1)∧EV.MulOk l.2 r.2) ∧
 kvs=bV ((aL ts).map (pkT (2 ^ W)))∧ds=[.lst (A.map (pkD (2 ^ W))),.lst (B.map (pkD (2 ^ W)))]∧Z=fun kvs'=>kvs'=bV ((aL (ts++aF A B)).map (pkT (2 ^ W)))
section
local macro_rules | `(tactic| walk_at "evS")=> `(tactic| first | ((with_reducible show EvS _ (LQ (JC (Ht _ _) _ _) L6 _ _) _ _ _); with_reducible refine tS (by walk_at "at") (by walk_at "at") ?_ (ho:=by walk_at "own")))
theorem Gx {f:Addr} {fd:FuncData} (Fu:Fun K "add_products" "add_products" cJ f fd) (T:Txt K mg):aX P w K mg base (CXE P w) 1 f fd ["total","left","right"] (spM K Dl):=by
 refine fn_m Fu jl jm (by rintro kvs ds Z ⟨t0,A,B,W,_,_,_,_,_,_,_,rfl,_⟩; rfl) fun c hq q kvs ds Z hF=>?_
 obtain ⟨t0,A,B,W,hW,hl,hA,hB,hb0,hp,rfl,rfl,rfl⟩:=hF
 have e00:t0=t0++aF (A.take 0) B:=by show t0=t0++[]; rw [Io]
 rw [show bV ((aL t0).map (pkT (2 ^ W)))=bV ((aL (t0++aF (A.take 0) B)).map (pkT (2 ^ W))) by rw [← e00]]
 show aW c _ [.aK q (bV ((aL (t0++aF (A.take 0) B)).map (pkT (2 ^ W)))),.va (.lst (A.map (pkD (2 ^ W)))),.va (.lst (B.map (pkD (2 ^ W)))),.un,.un,.un,.un,.un] _ _
 conv in (ay _)=>whnf
 walk_at "ev"
 with_reducible refine b9 hq (bZ ?_)
 walk_at "ev"
 refine ⟨fun i ρ'=>∃ s3 s4 s5 s6 s7:Sl,ρ'=[.aK q (bV ((aL (t0++aF (A.take i) B)).map (pkT (2 ^ W)))),.va (.lst (A.map (pkD (2 ^ W)))),.va (.lst (B.map (pkD (2 ^ W)))),s3,s4,s5,s6,s7],⟨_,_,_,_,_,rfl⟩,?_,?_⟩
 ·rintro c' hcX hcR hcM i d ρ' hd ⟨s3,s4,s5,s6,s7,rfl⟩
  simp only [G9,Hj] at hd
  obtain ⟨l,hlx,rfl⟩:=hd
  obtain ⟨hi,rfl⟩:=G8.mp hlx
  have hq':c'.X.xe=fun _ _=>False:=by rw [hcX]; exact hq
  show EvG c' _ (.tup [.int (pk (2 ^ W) A[i].1),.int A[i].2]) _ _
  walk_at "ev"
  with_reducible refine b9 hq' (bZ ?_)
  walk_at "ev"
  have hpi:=hp A[i] (HW hi)
  have e0:t0++aF (A.take (i+1)) B=(t0++aF (A.take i) B)++B.map (cV A[i]):=by
   rw [ID hi,mG,Hw]
  have hprev:∀ t∈t0++aF (A.take i) B,Bd (2 ^ W) t.1:=fun t ht=>by
   rcases Hy.mp ht with z | z
   ·exact hb0 t z
   ·obtain ⟨l,hl,r,hr,rfl⟩:=eZ z
    exact (hp l (Ln hl) r hr).1
  have hlen:(t0++aF (A.take i) B).length+B.length≤20000:=by
   rw [HQ,cG,HN,KS (by omega),Nat.add_assoc,← K1]
   exact Hi (Nat.add_le_add_left (Nat.mul_le_mul_right _ (by omega)) _) hl
  generalize A[i]=l at hpi e0 ⊢
  generalize t0++aF (A.take i) B=ts at e0 hprev hlen ⊢
  refine ⟨fun j ρ'=>∃ s5 s6 s7:Sl,ρ'=[.aK q (bV ((aL (ts++(B.take j).map (cV l))).map (pkT (2 ^ W)))),.va (.lst (A.map (pkD (2 ^ W)))),.va (.lst (B.map (pkD (2 ^ W)))),.va (.int (pk (2 ^ W) l.1)),.va (.int l.2),s5,s6,s7],⟨s5,s6,s7,by simp⟩,?_,?_⟩
  ·rintro c2 hcX2 hcR2 hcM2 j d ρ' hd ⟨s5,s6,s7,rfl⟩
   simp only [G9,Hj] at hd
   obtain ⟨r,hrx,rfl⟩:=hd
   obtain ⟨hj,rfl⟩:=G8.mp hrx
   obtain ⟨hb,hm⟩:=hpi B[j] (HW hj)
   have e1:ts++(B.take (j+1)).map (cV l)=(ts++(B.take j).map (cV l))++[cV l B[j]]:=by
    rw [ID hj,HB,Hw]; rfl
   have hprev2:∀ t∈ts++(B.take j).map (cV l),Bd (2 ^ W) t.1:=fun t ht=>by
    rcases Hy.mp ht with z | z
    ·exact hprev t z
    ·obtain ⟨r,hr,rfl⟩:=HC.mp z
     exact (hpi r (Ln hr)).1
   have hlen2:(ts++(B.take j).map (cV l)).length<20000:=by
    rw [HQ,G4,HN]; omega
   have key:=F6 (two_pos W) hprev2 (t:=cV l B[j]) hb
   rw [← e1] at key
   generalize ts++(B.take j).map (cV l)=us at key hlen2 ⊢
   generalize B[j]=r at key hb hm ⊢
   show EvG c2 _ (.tup [.int (pk (2 ^ W) r.1),.int r.2]) _ _
   have ek:pk (2 ^ W) (cV l r).1=pk (2 ^ W) l.1+pk (2 ^ W) r.1:=CP _ _ _
   rw [ek] at key
   have hC:(bV ((aL us).map (pkT (2 ^ W)))).length<sizeLine:=cI (by
    have:=fH us
    simp only [bV,G4]; omega)
   generalize (aL us).map (pkT (2 ^ W))=C at key hC ⊢
   walk_at "ev"
   refine DU (by walk_at "at") (by walk_at "at") ?_
   walk_at "ev"
   refine ⟨_,.k rfl rfl,?_⟩
   rw [gY]
   cases hv:bf C (pk (2 ^ W) l.1+pk (2 ^ W) r.1) with
   | some m =>
    rw [hv] at key
    show If2 _ _ true
    walk_at "ev"
    refine ⟨m,by rw [← show bf (bV C) (.inl (pk (2 ^ W) l.1+pk (2 ^ W) r.1))=some (D.int m) by rw [gY,hv]; rfl]; exact .k rfl rfl,?_⟩
    walk_at "ev"
    refine ⟨_,.k rfl rfl hC,?_⟩
    walk_at "ev"
    refine ⟨.va (.int (pk (2 ^ W) r.1)),.va (.int r.2),.va (.int (pk (2 ^ W) l.1+pk (2 ^ W) r.1)),?_⟩
    show [Sl.aK q (putD (bV C) (.inl (pk (2 ^ W) l.1+pk (2 ^ W) r.1)) (.int (m+l.2 * r.2))),_,_,_,_,_,_,_]=_
    rw [ql,show putD C (pk (2 ^ W) l.1+pk (2 ^ W) r.1) (m+l.2 * r.2)=_ from key]
   | none =>
    rw [hv] at key
    show If2 _ _ false
    walk_at "ev"
    refine ⟨_,.k rfl rfl hC,?_⟩
    walk_at "ev"
    refine ⟨.va (.int (pk (2 ^ W) r.1)),.va (.int r.2),.va (.int (pk (2 ^ W) l.1+pk (2 ^ W) r.1)),?_⟩
    show [Sl.aK q (putD (bV C) (.inl (pk (2 ^ W) l.1+pk (2 ^ W) r.1)) (.int (l.2 * r.2))),_,_,_,_,_,_,_]=_
    rw [ql,← K3 (l.2 * r.2),show putD C (pk (2 ^ W) l.1+pk (2 ^ W) r.1) (0+l.2 * r.2)=_ from key]
  ·rintro ρ' ⟨s5,s6,s7,rfl⟩
   rw [G4,IC,← e0]
   walk_at "ev"
   exact ⟨_,_,_,_,_,rfl⟩
 ·rintro ρ' ⟨s3,s4,s5,s6,s7,rfl⟩
  rw [G4,IC]
  walk_at "ev"
  exact ⟨_,_,rfl,rfl⟩
end
noncomputable def fzI (C:List (Int×Int)):D:=.fdK ((bV C).map (·.1)) ((bV C).map (·.2))
theorem AI (C:List (Int×Int)):(bV C).map (·.1)=(C.map (·.1)).map HA:=by unfold bV; rw [HP,HP]; rfl
noncomputable def AJ:Fn:=fun ds r=>∃ (ts:List Trm) (W:Nat),W≤10∧ts.length≤20000∧(∀ t∈ts,Bd (2 ^ W) t.1)∧ds=[fzI ((aL ts).map (pkT (2 ^ W))),.int (W:Nat)]∧r=.ok (.ow ((aV ts).map av))
theorem f_unp {ts:List Trm} {W:Nat} (h:W≤10) (h1:ts.length≤20000) (h2:∀ t∈ts,Bd (2 ^ W) t.1):AJ [fzI ((aL ts).map (pkT (2 ^ W))),.int (W:Nat)] (.ok (.ow ((aV ts).map av))):=⟨ts,W,h,h1,h2,rfl,rfl⟩
theorem sI {L:List Int} (h:jg ltI true L):L.Pairwise fun x y=>y<x:=by
 unfold jg at h
 exact h.imp fun {x y} q=>by simpa using q
section
local macro_rules | `(tactic| walk_at "evIx")=> `(tactic| with_reducible refine F8 ?_)
local macro_rules | `(tactic| walk_at "evCa")=> `(tactic| first | with_reducible refine bH (F:=qG) (by assumption) (by decide) ?_)
theorem Gy {f:Addr} {fd:FuncData} (Fu:Fun K "unpacked" "unpacked" fh f fd) (T:Txt K mg) (h1:Cal P w K mg base 2 "powers_of" qG):aX P w K mg base (CXE P w) 3 f fd ["total","width"] (spF K AJ):=by
 refine cD Fu qz qA (by rintro ds r ⟨ts,W,_,_,_,rfl,_⟩; rfl) (by rintro ds r ⟨ts,W,_,_,_,_,rfl⟩; exact ⟨_,rfl⟩) fun c hq ds sl hF=>?_
 obtain ⟨ts,W,hW,hl,hb,rfl,e⟩:=hF
 injection e with e
 subst e
 show aW c _ [.va (fzI ((aL ts).map (pkT (2 ^ W)))),.va (.int (W:Nat))] _ _
 conv in (ay _)=>whnf
 refine c8 (i7 (dw hq (N':=["key","total","width"]) (ρ0:=fun _=>[.un,.va (fzI ((aL ts).map (pkT (2 ^ W)))),.va (.int (W:Nat))]) (fun t=>.un (.fr (by walk_at "at") (by walk_at "at") (by decide) rfl (.fr (by walk_at "at") (by walk_at "at") (by decide) rfl .nil))) (bZ (e_x (rJ (Txt.sorted T) ?_)))))
 walk_at "ev"
 have hk:=dM ts
 have hg:=nS hb
 have nd:(((aL ts).map (pkT (2 ^ W))).map (·.1)).Nodup:=by
  rw [HP]
  unfold List.Nodup at hk ⊢
  rw [KN] at hk ⊢
  exact M9.imp_of_mem (fun {x y} hx hy q z=>q (rM (two_pos W) (hg x hx).1 (hg y hy).1 (hg x hx).2 (hg y hy).2 z)) hk
 refine ⟨((aL ts).map (pkT (2 ^ W))).map (·.1),_,by rw [← AI]; rfl,nd,fun L' hp hs=>?_⟩
 have eL:=zO (two_pos W) hb hp (sI hs)
 subst eL
 have hle:=fH ts
 have hpl:=(bD (aL ts)).length_eq
 refine c9 (rowX rfl ⟨sz9 (by simp only [G4]; omega),(gS (aL ts)).map nzO,by simp,?_,?_⟩)
 ·intro c' hc t i d o hd ho
  simp only [G9,Hj] at hd ho
  obtain ⟨n,⟨x,hx,rfl⟩,rfl⟩:=hd
  obtain ⟨x',hx',rfl⟩:=ho
  rw [hx] at hx'; cases hx'
  have hm:x∈aL ts:=(bD (aL ts)).subset (IU hx)
  have hv:bf (bV ((aL ts).map (pkT (2 ^ W)))) (.inl (pk (2 ^ W) x.1))=some (.int x.2):=by
   rw [gY,rN (two_pos W) hg (hg x hm).1 (hg x hm).2,uL hk hm]; rfl
  refine dQ (by walk_at "at") (nxt (by walk_at "sset") ⟨.un (.same (.same .nil)),?_⟩)
  simp only [EvC]
  have h0:=(pk_bd (two_pos W) (hg x hm).1).1
  walk_at "ev"
  refine ⟨_,_,_,rfl,rfl,hv,?_⟩
  walk_at "ev"
  ·unfold nzO; rw [if_neg fun h=>h (by assumption)]
  refine aZ (Gv hW h0) ?_
  rw [F3 (two_pos W) (hg x hm).1,(hg x hm).2]
  walk_at "ev"
  refine ⟨_,_,_,rfl,rfl,hv,?_⟩
  walk_at "ev"
  unfold nzO
  rw [if_pos (by assumption)]
 ·show Sl.ow _=Sl.ow _
  rw [jE,FN (keys_nodup hk)]
  rfl
end
structure AK (A B:List Trm):Prop where
 la:A.length≤20000
 lb:B.length≤20000
 lp:A.length * B.length≤20000
 pa:∀ t∈A,t.1.length≤6∧∀ x∈t.1,0≤x∧x≤500
 pb:∀ t∈B,t.1.length≤6∧∀ x∈t.1,0≤x∧x≤500
 mu:∀ l∈A,∀ r∈B,EV.MulOk l.2 r.2
theorem uZ {k:Nat} {m:Int}:∀ {L:List Trm} (a:Int),a≤m→(∀ t∈L,at0 t.1 k≤m)→L.foldl (fun a t=>if at0 t.1 k>a then at0 t.1 k else a) a≤m
 | [],_,h,_=>h
 | t::L,a,h,q=>by
  rw [IL]
  have:=q t Hg
  exact uZ _ (by split <;> omega) fun u hu=>q u (Hl _ hu)
theorem AL {L:List Trm} {m:Int} (h0:0≤m) (h:∀ t∈L,∀ x∈t.1,x≤m):mxL (cY L)≤m:=by
 refine sH h0 fun n hn=>?_
 unfold cY at hn
 obtain ⟨k,_,rfl⟩:=HC.mp hn
 refine uZ 0 h0 fun t ht=>?_
 by_cases z:k<t.1.length
 ·rw [cH z]; exact h t ht _ (HW _)
 ·rw [cy (by omega)]; exact h0
theorem AM {L:List Trm} {t:Trm} (ht:t∈L) (hl:t.1.length≤6) {x:Int} (hx:x∈t.1):x≤mxL (cY L):=by
 obtain ⟨k,hk,rfl⟩:=List.getElem_of_mem hx
 refine HJ ?_ (AF (show gk L k∈cY L from HC.mpr ⟨k,by simp; omega,rfl⟩))
 unfold gk
 rw [← cH hk]
 suffices H:∀ a:Int,at0 t.1 k≤L.foldl (fun a t=>if at0 t.1 k>a then at0 t.1 k else a) a from H 0
 induction L with
 | nil=>cases ht
 | cons u L ih =>
  intro a
  rw [IL]
  rcases G5.mp ht with rfl | ht
  ·refine HJ ?_ (uY L k _)
   split <;> omega
  ·exact ih ht _
theorem Dm {x:Int} (h:0≤x):x<2 ^ IE x:=by
 unfold IE
 by_cases z:x=0
 ·subst z; decide
 ·have e:(x == 0)=false:=by simpa using z
  rw [e,if_neg G6,fJ]
  have:=Nat.lt_log2_self (n:=x.natAbs)
  omega
theorem bits_le {x:Int} (h:x.natAbs<1024):IE x≤10:=by
 unfold IE
 by_cases z:x=0
 ·subst z; decide
 ·have e:(x == 0)=false:=by simpa using z
  rw [e,if_neg G6]
  have:=(Nat.log2_lt (n:=x.natAbs) (k:=10) (by omega)).mpr h
  omega
end
set_option Elab.async false
set_option linter.all false
set_option maxRecDepth 100000
set_option maxHeartbeats 0
section
variable {P:Program} {w:World} {K:GW} {mg:Str→Option Value} {base:Heap}
theorem om (n:Nat):(kY 0 n).length=n:=by simp [kY]
theorem xh (L:List Trm) (t:Trm):L.map av++[av t]=(L++[t]).map av:=by rw [HB]; rfl
noncomputable def kK:Fn:=fun ds r=>∃ A B:List Trm,AK A B∧ds=[.lst (A.map av),.lst (B.map av)]∧r=.ok (.ow ((aV (aF A B)).map av))
theorem Dn {A B:List Trm} (h:AK A B):kK [.lst (A.map av),.lst (B.map av)] (.ok (.ow ((aV (aF A B)).map av))):=⟨A,B,h,rfl,rfl⟩
theorem xj (n:Nat):(Hh n [D.int 0]).flatten=(Hh n (0:Int)).map D.int:=by
 induction n with
 | zero=>rfl
 | succ n ih=>rw [Jh,JW,ih,Jh]; rfl
theorem AN {p:List Int} {n k:Nat} (h:k<n) (hp:p.length≤n):atI (p.map D.int++(Hh n [D.int 0]).flatten) (k:Int)=some (.int (at0 p k)):=by
 rw [xj,← HB,gI (by omega) (by simp; omega),Ij,G9]
 by_cases z:k<p.length
 ·rw [Jv z,HD z,cH z]; rfl
 ·rw [Ke (by omega),Mn,if_pos (by omega),cy (by omega)]; rfl
section
local macro_rules | `(tactic| walk_at "evBo")=> `(tactic| first | ((with_reducible show EvE _ (Expr.BinOp (Expr.Tuple _ _ _) Operator.Mult _ _) _ _); with_reducible refine F2 ?_))
local macro_rules | `(tactic| walk_at "evCa")=> `(tactic| first
 | ((with_reducible show EvE _ (HZ (Ht "max" _) [_,_] _ _) _ _); with_reducible refine zE (Txt.max (by assumption)) ?_))
theorem AO {f:Addr} {fd:FuncData} (Fu:Fun K "_law_product" "_law_product" d7 f fd) (T:Txt K mg) (h1:Cal P w K mg base 2 "_law_sum" oj):aX P w K mg base (CXE P w) 3 f fd ["_law_one","_law_other"] (spF K kK):=by
 refine cD Fu n6 n8 (by rintro ds r ⟨A,B,_,rfl,_⟩; rfl) (by rintro ds r ⟨A,B,_,_,rfl⟩; exact ⟨_,rfl⟩) fun c hq ds sl hF=>?_
 obtain ⟨A,B,h,rfl,e⟩:=hF
 injection e with e
 subst e
 show aW c _ [.va (.lst (A.map av)),.va (.lst (B.map av)),.un,.un,.un,.un,.un,.un,.un] _ _
 conv in (ay _)=>whnf
 walk_at "ev"
 show EvS c _ [.va (.lst (A.map av)),.va (.lst (B.map av)),.ow ((aF (A.take 0) B).map av),.un,.un,.un,.un,.un,.un] _ _
 with_reducible refine b9 hq (bZ ?_)
 walk_at "ev"
 refine ⟨fun i ρ'=>∃ s3 s4 s5 s6 s7 s8:Sl,ρ'=[.va (.lst (A.map av)),.va (.lst (B.map av)),.ow ((aF (A.take i) B).map av),s3,s4,s5,s6,s7,s8],⟨_,_,_,_,_,_,rfl⟩,?_,?_⟩
 ·rintro c' hcX hcR hcM i d ρ' hd ⟨s3,s4,s5,s6,s7,s8,rfl⟩
  simp only [G9,Hj] at hd
  obtain ⟨l,hlx,rfl⟩:=hd
  obtain ⟨hi,rfl⟩:=G8.mp hlx
  have hq':c'.X.xe=fun _ _=>False:=by rw [hcX]; exact hq
  show EvG c' _ (.tup [.tup (A[i].1.map .int),.int A[i].2]) _ _
  walk_at "ev"
  with_reducible refine b9 hq' (bZ ?_)
  walk_at "ev"
  have hm:=h.mu A[i] (HW hi)
  have h6:=(h.pa A[i] (HW hi)).1
  have e0:aF (A.take (i+1)) B=aF (A.take i) B++B.map (cV A[i]):=by
   rw [ID hi,mG]
  have hlen:(aF (A.take i) B).length+B.length≤20000:=by
   rw [cG,HN,KS (by omega),← K1]
   exact Hi (Nat.mul_le_mul_right _ (by omega)) h.lp
  generalize A[i]=l at hm h6 e0 ⊢
  generalize aF (A.take i) B=ts at e0 hlen ⊢
  refine ⟨fun j ρ'=>∃ s5 s6 s7 s8:Sl,ρ'=[.va (.lst (A.map av)),.va (.lst (B.map av)),.ow ((ts++(B.take j).map (cV l)).map av),.va (.tup (l.1.map .int)),.va (.int l.2),s5,s6,s7,s8],⟨s5,s6,s7,s8,by simp⟩,?_,?_⟩
  ·rintro c2 hcX2 hcR2 hcM2 j d ρ' hd ⟨s5,s6,s7,s8,rfl⟩
   simp only [G9,Hj] at hd
   obtain ⟨r,hrx,rfl⟩:=hd
   obtain ⟨hj,rfl⟩:=G8.mp hrx
   have hmr:=hm B[j] (HW hj)
   have h6r:=(h.pb B[j] (HW hj)).1
   have hq2:c2.X.xe=fun _ _=>False:=by rw [hcX2]; exact hq'
   have e1:ts++(B.take (j+1)).map (cV l)=(ts++(B.take j).map (cV l))++[cV l B[j]]:=by
    rw [ID hj,HB,Hw]; rfl
   have hlen2:((ts++(B.take j).map (cV l)).map av).length<sizeLine:=cI (by
    rw [G4,HQ,G4,HN]; omega)
   generalize ts++(B.take j).map (cV l)=us at e1 hlen2 ⊢
   generalize B[j]=r at hmr h6r e1 ⊢
   show EvG c2 _ (.tup [.tup (r.1.map .int),.int r.2]) _ _
   walk_at "ev"
   have ew:(if ((r.1.map D.int).length:Int)>((l.1.map D.int).length:Int) then ((r.1.map D.int).length:Int) else ((l.1.map D.int).length:Int))=((max l.1.length r.1.length:Nat):Int):=by simp only [G4]; split <;> omega
   rw [ew]
   have hw6:max l.1.length r.1.length≤6:=by omega
   refine Fq (by walk_at "at") hq2 (N':=["_law_k","_law_left","_law_right","_law_wide"]) (ρ0:=fun _=>[.un,.va (.tup (l.1.map .int)),.va (.tup (r.1.map .int)),.va (.int ((max l.1.length r.1.length:Nat):Int))]) (fun t=>.un (.fr (by walk_at "at") (by walk_at "at") (by decide) rfl (.fr (by walk_at "at") (by walk_at "at") (by decide) rfl (.fr (by walk_at "at") (by walk_at "at") (by decide) rfl .nil)))) (dI (Txt.range T) ?_)
   walk_at "ev"
   ·exact ⟨by omega,by omega⟩
   ·rw [om]; exact sz9 (by omega)
   refine ⟨(HE (max l.1.length r.1.length)).map fun k=>some (.int (at0 l.1 k+at0 r.1 k)),by simp [om],?_,?_⟩
   ·intro c3 hc3 t k d o hd ho
    rw [Ij] at hd
    obtain ⟨hk,rfl⟩:=fE hd
    rw [G9,KL hk] at ho
    cases ho
    refine dQ (by walk_at "at") (nxt (by walk_at "sset") ⟨.un (.same (.same (.same .nil))),?_⟩)
    simp only [EvC]
    refine ⟨fun _=>?_,fun h=>by cases h⟩
    walk_at "ev"
    refine ⟨_,_,rfl,rfl,⟨⟨by simp,by omega,by omega,?_⟩,?_⟩⟩
    ·exact sz9 (by simp; omega)
    rw [Ij]
    walk_at "ev"
    ·exact sz9 (by simp; omega)
    refine o7 (AN (p:=l.1) hk (by omega)) ?_
    walk_at "ev"
    refine ⟨_,_,rfl,rfl,⟨⟨by simp,by omega,by omega,?_⟩,?_⟩⟩
    ·exact sz9 (by simp; omega)
    rw [Ij]
    walk_at "ev"
    ·exact sz9 (by simp; omega)
    refine o7 (AN (p:=r.1) hk (by omega)) ?_
    walk_at "ev"
    rfl
   ·rw [dO (fun k=>D.int (at0 l.1 k+at0 r.1 k)),show (HE (max l.1.length r.1.length)).map (fun k=>D.int (at0 l.1 k+at0 r.1 k))=(bQ l.1 r.1).map D.int by unfold bQ; rw [HP]; rfl]
    walk_at "ev"
    ·exact gE _
    refine ⟨.va (.tup (r.1.map .int)),.va (.int r.2),.va (.int ((max l.1.length r.1.length:Nat):Int)),.ow ((bQ l.1 r.1).map .int),?_⟩
    show [_,_,Sl.ow _,_,_,_,_,_,_]=_
    rw [e1,← xh]
    rfl
  ·rintro ρ' ⟨s5,s6,s7,s8,rfl⟩
   rw [G4,IC,← e0]
   walk_at "ev"
   exact ⟨_,_,_,_,_,_,rfl⟩
 ·rintro ρ' ⟨s3,s4,s5,s6,s7,s8,rfl⟩
  rw [G4,IC]
  refine c8 (i7 (DV 2 (by walk_at "at") rfl (by walk_at "sset") (x_call (F:=oj) (by assumption) (by decide) ?_)))
  walk_at "ev"
  refine aZ (sG (by rw [cG]; exact h.lp) fun t ht=>?_) ⟨dR fun x _=>oi x,rfl⟩
  obtain ⟨l,hl,r,hr,rfl⟩:=eZ ht
  show (bQ l.1 r.1).length≤64
  have:=(h.pa l hl).1
  have:=(h.pb r hr).1
  rw [gZ]; omega
end
end
set_option Elab.async false
set_option linter.all false
set_option maxRecDepth 100000
set_option maxHeartbeats 0
section
variable {P:Program} {w:World} {K:GW} {mg:Str→Option Value} {base:Heap}
noncomputable abbrev Part:=Int×List (List Trm)
noncomputable def af (A:List Trm):D:=.lst (A.map av)
noncomputable def fm (p:Part):D:=.tup (.int p.1::p.2.map af)
noncomputable def ig (n:Int) (As:List (List Trm)):List Trm:=As.foldl aF (cT n)
noncomputable def oq (ps:List Part):List Trm:=ps.flatMap fun p=>ig p.1 p.2
noncomputable def cz (As:List (List Trm)):Nat:=(As.map fun A=>max A.length 1).foldr (· * ·) 1
noncomputable def mxA (A:List Trm):Int:=mxL (cY A)
noncomputable def mpP (As:List (List Trm)):MP:=(As.map mp).foldr (· * ·) 1
theorem AQ (As:List (List Trm)):∀ L:List Trm,mp (As.foldl aF L)=mp L * mpP As:=by
 induction As with
 | nil=>intro L; show mp L=mp L * 1; grind
 | cons A As ih =>
  intro L
  rw [IL,ih,nV]
  show _=mp L * (mp A * mpP As)
  grind
theorem eB (n:Int) (As:List (List Trm)):mp (ig n As)=(n:MP) * mpP As:=by unfold ig; rw [AQ,rY]
theorem AR {As Bs:List (List Trm)} (h:As.Perm Bs):mpP As=mpP Bs:=by
 induction h with
 | nil=>rfl
 | cons x _ ih=>exact congrArg (mp x * ·) ih
 | swap x y l=>show mp y * (mp x * mpP l)=mp x * (mp y * mpP l); grind
 | trans _ _ a b=>rw [a,b]
theorem AS (As:List (List Trm)) (A:List Trm):mpP (As++[A])=mpP As * mp A:=by
 induction As with
 | nil=>show mp A * 1=1 * mp A; grind
 | cons B As ih=>show mp B * mpP (As++[A])=mp B * mpP As * mp A; rw [ih]; grind
theorem xm {As Bs:List (List Trm)} (h:As.Perm Bs):cz As=cz Bs:=by
 unfold cz
 induction h with
 | nil=>rfl
 | cons x _ ih=>simp only [G3,Kv] at ih ⊢; rw [ih]
 | swap x y l=>simp only [G3,Kv]; rw [Nat.mul_left_comm]
 | trans _ _ a b=>rw [a,b]
theorem xo (As:List (List Trm)) (A:List Trm):cz (As++[A])=cz As * max A.length 1:=by
 unfold cz
 induction As with
 | nil=>simp
 | cons B As ih=>simp only [Ja,G3,Kv] at ih ⊢; rw [ih,Nat.mul_assoc]
theorem AU (As:List (List Trm)):1≤cz As:=by
 unfold cz
 induction As with
 | nil=>exact GZ _
 | cons B As ih=>simp only [G3,Kv]; exact J0 (m₁:=1) (n₁:=1) (by omega) ih
theorem xq (As:List (List Trm)) (i:Nat):cz (As.take i)≤cz As:=by
 induction As generalizing i with
 | nil=>simp
 | cons B As ih =>
  cases i with
  | zero=>exact AU _
  | succ i =>
   have:=ih i
   unfold cz at *
   simp only [List.take_succ_cons,G3,Kv]
   exact Nat.mul_le_mul_left _ this
noncomputable def Ex (m:Int) (L:List Trm):Prop:=∀ t∈L,t.1.length≤6∧∀ x∈t.1,0≤x∧x≤m
noncomputable def Bn (m:Nat) (L:List Trm):Prop:=∀ t∈L,t.2.natAbs<2 ^ m
theorem Ex.bd {m:Int} {L:List Trm} {W:Nat} (h:Ex m L) (hm:m<2 ^ W):∀ t∈L,Bd (2 ^ W) t.1:=fun t ht=>⟨(h t ht).1,fun x hx=>⟨((h t ht).2 x hx).1,Lw ((h t ht).2 x hx).2 hm⟩⟩
theorem AV {m:Int} {p:List Int} (h0:0≤m) (h:∀ x∈p,0≤x∧x≤m) (k:Nat):0≤at0 p k∧at0 p k≤m:=by
 by_cases z:k<p.length
 ·rw [cH z]; exact h _ (HW _)
 ·rw [cy (by omega)]; omega
theorem Dp {m n:Int} {p q:List Int} (h0:0≤m) (g0:0≤n) (hp:p.length≤6∧∀ x∈p,0≤x∧x≤m) (hq:q.length≤6∧∀ x∈q,0≤x∧x≤n):(bQ p q).length≤6∧∀ x∈bQ p q,0≤x∧x≤m+n:=by
 refine ⟨by rw [gZ]; omega,fun x hx=>?_⟩
 unfold bQ at hx
 obtain ⟨k,_,rfl⟩:=HC.mp hx
 have:=AV h0 hp.2 k
 have:=AV g0 hq.2 k
 omega
theorem Ex.prod {m n:Int} {A B:List Trm} (h0:0≤m) (g0:0≤n) (h:Ex m A) (g:Ex n B):Ex (m+n) (aF A B):=fun t ht=>by
 obtain ⟨l,hl,r,hr,rfl⟩:=eZ ht
 exact Dp h0 g0 (h l hl) (g r hr)
theorem Ex.sum {m:Int} {L:List Trm} (h:Ex m L):Ex m (aL L):=by
 unfold aL
 suffices H:∀ (ts A:List Trm),Ex m A→Ex m ts→Ex m (ts.foldl dX A) from H L [] (fun t ht=>by cases ht) h
 intro ts
 induction ts with
 | nil=>exact fun A hA _=>hA
 | cons u ts ih =>
  refine fun A hA hts=>ih _ (fun t ht=>?_) fun t ht=>hts t (Hl _ ht)
  rcases qt ht with rfl | q
  ·have:=hts u Hg
   exact ⟨Hi (eX _) this.1,fun x hx=>this.2 x (qk hx)⟩
  ·exact hA t q
theorem Ex.mono {m n:Int} {L:List Trm} (h:Ex m L) (hn:m≤n):Ex n L:=fun t ht=>⟨(h t ht).1,fun x hx=>⟨((h t ht).2 x hx).1,HJ ((h t ht).2 x hx).2 hn⟩⟩
theorem Bn.mono {m n:Nat} {L:List Trm} (h:Bn m L) (hn:m≤n):Bn n L:=fun t ht=>Ii (h t ht) (Nat.pow_le_pow_right (by decide) hn)
theorem Bn.prod {m n:Nat} {A B:List Trm} (h:Bn m A) (g:Bn n B):Bn (m+n) (aF A B):=fun t ht=>by
 obtain ⟨l,hl,r,hr,rfl⟩:=eZ ht
 show (l.2 * r.2).natAbs<_
 rw [Int.natAbs_mul,Nat.pow_add]
 exact Nat.mul_lt_mul'' (h l hl) (g r hr)
theorem Bn.sum {m:Nat} {L:List Trm} (h:Bn m L) (hl:L.length<2 ^ 16):Bn (m+16) (aL L):=fun t ht=>by
 have:=Ga (m:=2 ^ m) (fun t ht=>JH (h t ht)) t ht
 refine Jz this ?_
 rw [Nat.pow_add,L7]
 exact Nat.mul_lt_mul_of_pos_left hl (Nat.two_pow_pos m)
theorem u0 {a:Int} {m:Nat} (h:a.natAbs<2 ^ m):IE a≤m+1:=by
 unfold IE
 by_cases z:a=0
 ·subst z; simp
 ·have e:(a == 0)=false:=by simpa using z
  rw [e,if_neg G6]
  have:=(Nat.log2_lt (n:=a.natAbs) (k:=m) (by omega)).mpr h
  omega
theorem sJ {a b:Int} {m n:Nat} (h:a.natAbs<2 ^ m) (g:b.natAbs<2 ^ n) (hm:m+n≤1000000):EV.MulOk a b:=by
 have h1:=u0 h
 have h2:=u0 g
 unfold EV.MulOk IntMulOk Builtin.Int.intTooBig bitsLine
 have e:decide (((IE a+IE b:Nat):Int)>((2 ^ 27:Nat):Int))=false:=by
  apply decide_eq_false
  rw [show (2:Nat) ^ 27=134217728 by decide]
  omega
 simp only [KQ]
 rintro ⟨_,z⟩
 have z':=of_decide_eq_true z
 rw [show (2:Nat) ^ 27=134217728 by decide] at z'
 omega
structure eF (A:List Trm):Prop where
 l:A.length≤20000
 e:Ex 120 A
 b:Bn 2000 A
structure fu (p:Part):Prop where
 n:p.1.natAbs<2 ^ 2000
 m:p.2.length≤8
 f:∀ A∈p.2,eF A
structure fy (ps:List Part):Prop where
 p:∀ p∈ps,fu p
 l:ps.length≤1000
 s:(ps.map fun p=>cz p.2).sum≤20000
theorem AW (A:List Trm):0≤mxA A:=Ei _
theorem eF.mx {A:List Trm} (h:eF A):mxA A≤120:=AL (by decide) fun t ht x hx=>((h.e t ht).2 x hx).2
theorem eF.ex {A:List Trm} (h:eF A):Ex (mxA A) A:=fun t ht=>⟨(h.e t ht).1,fun x hx=>⟨((h.e t ht).2 x hx).1,AM ht (h.e t ht).1 hx⟩⟩
noncomputable def szP (p:Part):Int:=(p.2.map mxA).sum
theorem u5 (As:List (List Trm)):0≤(As.map mxA).sum:=by
 induction As with
 | nil=>exact IG _
 | cons A As ih=>rw [G3,Kw]; have:=AW A; omega
theorem fu.sz {p:Part} (h:fu p):szP p≤960:=by
 have:∀ As:List (List Trm),(∀ A∈As,eF A)→(As.map mxA).sum≤120 * As.length:=fun As=>by
  induction As with
  | nil=>exact fun _=>by simp
  | cons A As ih =>
   intro hA
   have:=ih fun B hB=>hA B (Hl _ hB)
   have:=(hA A Hg).mx
   rw [G3,Kw,HV]; omega
 have h1:=this p.2 h.f
 have h2:=h.m
 unfold szP
 omega
noncomputable def fC (ps:List Part):Int:=ps.foldl (fun m p=>if szP p>m then szP p else m) 0
theorem mJ (ps:List Part):∀ m:Int,m≤ps.foldl (fun m p=>if szP p>m then szP p else m) m:=by
 induction ps with
 | nil=>exact fun m=>IG _
 | cons p ps ih=>intro m; rw [IL]; refine HJ ?_ (ih _); split <;> omega
theorem Dq {ps:List Part} {p:Part} (h:p∈ps):szP p≤fC ps:=by
 unfold fC
 suffices H:∀ m:Int,szP p≤ps.foldl (fun m p=>if szP p>m then szP p else m) m from H 0
 induction ps with
 | nil=>cases h
 | cons q ps ih =>
  intro m
  rw [IL]
  rcases G5.mp h with rfl | h
  ·refine HJ ?_ (mJ ps _)
   split <;> omega
  ·exact ih h _
theorem Dr {ps:List Part} (h:∀ p∈ps,fu p):fC ps≤960:=by
 unfold fC
 suffices H:∀ m:Int,m≤960→ps.foldl (fun m p=>if szP p>m then szP p else m) m≤960 from H 0 (by decide)
 induction ps with
 | nil=>exact fun m hm=>hm
 | cons q ps ih =>
  intro m hm
  rw [IL]
  refine ih (fun p hp=>h p (Hl _ hp)) _ ?_
  have:=(h q Hg).sz
  split <;> omega
noncomputable def AX (ps:List Part):Nat:=IE (fC ps)
theorem Ds {ps:List Part} (h:∀ p∈ps,fu p):AX ps≤10∧∀ p∈ps,szP p<2 ^ AX ps:=by
 have h0:0≤fC ps:=mJ ps 0
 have h1:=Dr h
 exact ⟨bits_le (by omega),fun p hp=>Lw (Dq hp) (Dm h0)⟩
theorem ir {α:Type} (x:α) (xs:List α):EV.cutD (x::xs) (some 1) none=xs:=by
 unfold EV.cutD HT.sIx; simp
noncomputable def AY:Fn:=fun ds r=>∃ ps:List Part,(∀ p∈ps,fu p)∧ds=[.lst (ps.map fm)]∧r=.ok (.va (.int (AX ps:Nat)))
theorem f_wof {ps:List Part} (h:∀ p∈ps,fu p):AY [.lst (ps.map fm)] (.ok (.va (.int (AX ps:Nat)))):=⟨ps,h,rfl,rfl⟩
section
local macro_rules | `(tactic| walk_at "evMt")=> `(tactic| with_reducible refine FT ?_)
local macro_rules | `(tactic| walk_at "evCa")=> `(tactic| first
 | ((with_reducible show EvE _ (HZ (Ht "max" _) [_] _ _) _ _); with_reducible refine FW (Txt.max (by assumption)) ?_)
 | ((with_reducible show EvE _ (HZ (Ht "max" _) [_,_] _ _) _ _); with_reducible refine zE (Txt.max (by assumption)) ?_)
 | ((with_reducible show EvE _ (HZ (Ht "sum" _) _ _ _) _ _); with_reducible refine FY (Txt.sum (by assumption)) ?_)
 | with_reducible refine bH (F:=kJ) (by assumption) (by decide) ?_)
theorem Gz {f:Addr} {fd:FuncData} (Fu:Fun K "width_of" "width_of" fj f fd) (T:Txt K mg) (h1:Cal P w K mg base 1 "greatest_powers" kJ):aX P w K mg base (CXE P w) 2 f fd ["parts"] (spF K AY):=by
 refine cD Fu qB qC (by rintro ds r ⟨ps,_,rfl,_⟩; rfl) (by rintro ds r ⟨ps,_,_,rfl⟩; exact ⟨_,rfl⟩) fun c hq ds sl hF=>?_
 obtain ⟨ps,hp,rfl,e⟩:=hF
 injection e with e
 subst e
 show aW c _ [.va (.lst (ps.map fm)),.un,.un] _ _
 conv in (ay _)=>whnf
 walk_at "ev"
 with_reducible refine b9 hq (bZ ?_)
 walk_at "ev"
 refine ⟨fun i ρ'=>∃ s2:Sl,ρ'=[.va (.lst (ps.map fm)),.va (.int (fC (ps.take i))),s2],⟨_,rfl⟩,?_,?_⟩
 ·rintro c' hcX hcR hcM i d ρ' hd ⟨s2,rfl⟩
  simp only [G9,Hj] at hd
  obtain ⟨p,hpx,rfl⟩:=hd
  obtain ⟨hi,rfl⟩:=G8.mp hpx
  have hpo:=hp ps[i] (HW hi)
  have eg:fC (ps.take (i+1))=if szP ps[i]>fC (ps.take i) then szP ps[i] else fC (ps.take i):=by
   unfold fC; rw [ID hi,MT]; rfl
  generalize ps[i]=p at hpo eg ⊢
  show EvG c' _ (.tup (.int p.1::p.2.map af)) _ _
  walk_at "ev"
  refine e_x (dw (show c'.X.xe=noX by rw [hcX]; exact hq) (N':=["some"]) (ρ0:=fun _=>[.un]) (fun t=>.un .nil) (bZ ?_))
  walk_at "ev"
  ·rw [ir,G4]; exact sz9 (by have:=hpo.m; omega)
  rw [ir]
  refine ⟨p.2.map fun A=>some (.int (mxA A)),by simp,?_,c9 ?_⟩
  ·intro c2 hc2 t j d o hd ho
   simp only [G9,Hj] at hd ho
   obtain ⟨A,hA,rfl⟩:=hd
   obtain ⟨A',hA',rfl⟩:=ho
   rw [hA] at hA'; cases hA'
   have hf:=hpo.f A (IU hA)
   refine dQ (by walk_at "at") (nxt (by walk_at "sset") ⟨.un .nil,?_⟩)
   simp only [EvC]
   refine ⟨fun _=>?_,fun h=>by cases h⟩
   show EvE c2 _ [.va (.lst (A.map av))] _
   walk_at "ev"
   refine aZ (Di fun t ht=>(hf.e t ht).1) (c9 ⟨cY A,by simp [cY],rfl,fun m ⟨m1,m2⟩=>?_⟩)
   rw [AG m1 m2]; rfl
  ·rw [dO]
   refine ⟨p.2.map mxA,by rw [HP]; rfl,?_⟩
   walk_at "ev"
   refine ⟨.va (fm p),?_⟩
   rw [eg]; rfl
 ·rintro ρ' ⟨s2,rfl⟩
  rw [G4,IC]
  walk_at "ev"
  rfl
end
end
set_option Elab.async false
set_option linter.all false
set_option maxRecDepth 100000
set_option maxHeartbeats 0
section
variable {P:Program} {w:World} {K:GW} {mg:Str→Option Value} {base:Heap}
theorem Dt {α:Type} (x:α) (xs:List α):atI (x::xs) 0=some x:=by rw [gI (by decide) (by simp)]; rfl
theorem GA (b:Int):pk b []=0:=(gW (g:=fun _=>0) fun i _=>cy (HF _)).trans (gX _)
theorem Ej (b n:Int):(cT n).map (pkD b)=[.tup [.int 0,.int n]]:=by show [D.tup [.int (pk b []),.int n]]=_; rw [GA]
theorem AZ {α:Type} (xs:List α):EV.cutD xs none (some (-1))=xs.dropLast:=by
 unfold EV.cutD HT.sIx
 rw [Mz]
 simp only [List.drop_zero]
 congr 1
 split <;> omega
theorem Du {α:Type} (xs:List α) (x:α):atI (xs++[x]) (-1)=some x:=by
 rw [tZ (by decide) (by simp; omega),show (-1+((xs++[x]).length:Int)).toNat=xs.length by simp; omega]
 simp
noncomputable def pkL (b:Int) (A:List Trm):D:=.lst (A.map (pkD b))
theorem A0 {α β:Type} {f:α→β} {L:List α} {M:List β} (h:M.Perm (L.map f)):∃ L':List α,L'.Perm L∧M=L'.map f:=by
 have p:∀ L:List α,Paired (fun a b=>b=f a) L (L.map f):=fun L=>by
  induction L with
  | nil=>exact .nil
  | cons x L ih=>exact .cons rfl ih
 obtain ⟨L',h1,h2⟩:=SR.eV h (p L)
 refine ⟨L',h1,?_⟩
 clear h1 h p
 induction h2 with
 | nil=>rfl
 | cons r _ ih=>rw [r,ih]; rfl
theorem xr (C:List (Int×Int)):(fzI C).pairs=some (C.map fun c=>D.tup [.int c.1,.int c.2]):=by
 show some _=some _
 congr 1
 unfold bV
 rw [HP,HP,LJ,Ly]
 rfl
theorem xu (b:Int) (L:List Trm):(fzI (L.map (pkT b))).pairs=some (L.map (pkD b)):=by
 rw [xr,HP]; rfl
theorem GB (b:Int) (L:List Trm):D.nls (L.map (pkD b)):=dR fun x _=>nD (by unfold D.nls; exact ⟨iC,by unfold D.nls; exact ⟨iC,by unfold D.nls; trivial⟩⟩)
structure Way (n:Int) (As:List (List Trm)) (L:List Trm):Prop where
 m:mp L=(n:MP) * mpP As
 l:L.length≤cz As
 e:Ex (As.map mxA).sum L
 b:Bn (2000+2016 * As.length) L
theorem Dv {n:Int} (h:n.natAbs<2 ^ 2000):Way n [] (cT n) where
 m:=by rw [rY]; show _=_ * (1:MP); grind
 l:=GZ _
 e:=fun t ht=>by
  have:t=([],n):=by simpa [cT] using ht
  subst this
  exact ⟨HF _,fun x hx=>by cases hx⟩
 b:=fun t ht=>by
  have:t=([],n):=by simpa [cT] using ht
  subst this
  exact h
theorem sL:eF (cT 1) where
 l:=by show (1:Nat)≤_; omega
 e:=fun t ht=>by
  have:t=([],1):=by simpa [cT] using ht
  subst this
  exact ⟨HF _,fun x hx=>by cases hx⟩
 b:=fun t ht=>by
  have:t=([],1):=by simpa [cT] using ht
  subst this
  exact Lv (by decide)
theorem xw (As:List (List Trm)) (A:List Trm):((As++[A]).map mxA).sum=(As.map mxA).sum+mxA A:=by
 rw [HB,Ku]; simp
theorem kL {n:Int} {As:List (List Trm)} {L A:List Trm} (h:Way n As L) (f:eF A):mp (aF L A)=(n:MP) * mpP (As++[A])∧(aF L A).length≤cz (As++[A])∧Ex ((As++[A]).map mxA).sum (aF L A)∧Bn (2000+2016 * As.length+2000) (aF L A):=by
 refine ⟨?_,?_,?_,h.b.prod f.b⟩
 ·rw [nV,h.m,AS]; grind
 ·rw [cG,xo]; exact J0 h.l (by omega)
 ·rw [xw]; exact Ex.prod (u5 _) (AW _) h.e f.ex
theorem A1 {n:Int} {As:List (List Trm)} {L A:List Trm} (h:Way n As L) (f:eF A) (hl:cz (As++[A])≤20000):Way n (As++[A]) (aL (aF L A)):=by
 obtain ⟨h1,h2,h3,h4⟩:=kL h f
 refine ⟨by rw [Gm,h1],Hi (fH _) h2,h3.sum,(h4.sum (Jz (Hi h2 hl) (by decide))).mono ?_⟩
 rw [HQ,JU]; omega
theorem A2 {As Bs:List (List Trm)} (h:As.Perm Bs):(As.map mxA).sum=(Bs.map mxA).sum:=by
 induction h with
 | nil=>rfl
 | cons x _ ih=>rw [G3,Kw,G3,Kw,ih]
 | swap x y l=>simp only [G3,Kw]; omega
 | trans _ _ a b=>rw [a,b]
theorem A3 (As:List (List Trm)) (i:Nat):((As.take i).map mxA).sum≤(As.map mxA).sum:=by
 have e:(As.map mxA).sum=((As.take i).map mxA).sum+((As.drop i).map mxA).sum:=by rw [← Ku,← HB,Jq]
 have:=u5 (As.drop i)
 omega
noncomputable def ou:FnM:=fun kvs ds Z=>∃ (ts:List Trm) (p:Part) (W:Nat),W≤10∧fu p∧szP p<2 ^ W∧ts.length+cz p.2≤20000∧(∀ t∈ts,Bd (2 ^ W) t.1)∧kvs=bV ((aL ts).map (pkT (2 ^ W)))∧ds=[fm p,.int (W:Nat)] ∧
 Z=fun kvs'=>∃ X,mp X=mp (ig p.1 p.2)∧X.length≤cz p.2∧(∀ t∈X,Bd (2 ^ W) t.1)∧kvs'=bV ((aL (ts++X)).map (pkT (2 ^ W)))
section
local macro_rules | `(tactic| walk_at "evX")=> `(tactic| first | ((with_reducible show EvX _ (Expr.Dict _ _ _) _ _); with_reducible refine tR ?_))
local macro_rules | `(tactic| walk_at "evXC")=> `(tactic| first
 | ((with_reducible show EvX _ (HZ (Ht "sorted" _) _ _ _) _ _); with_reducible refine wz (Txt.sorted (by assumption)) (Txt.len (by assumption)) ?_)
 | ((with_reducible show EvX _ (HZ (Ht "list" _) [HZ _ _ _ _] _ _) _ _); refine rm 6 (by walk_at "at") rfl (by walk_at "sset") (qv (Txt.list (by assumption)) ?_)))
local macro_rules | `(tactic| walk_at "evXp")=> `(tactic| with_reducible refine uG (F:=Dl) (by assumption) (by decide) (by walk_at "at") (by walk_at "at") (by walk_at "own") ?_)
theorem A4 {f:Addr} {fd:FuncData} (Fu:Fun K "add_part" "add_part" fk f fd) (T:Txt K mg) (h1:Cal P w K mg base 2 "packed" qH) (h2:vW P w K mg base 1 "add_products" Dl):aX P w K mg base (CXE P w) 3 f fd ["whole","part","width"] (spM K ou):=by
 refine fn_m Fu qD qE (by rintro kvs ds Z ⟨ts,p,W,_,_,_,_,_,_,rfl,_⟩; rfl) fun c hq q kvs ds Z hF=>?_
 obtain ⟨ts,p,W,hW,hp,hsz,hl,hb,rfl,rfl,rfl⟩:=hF
 show aW c _ [.aK q (bV ((aL ts).map (pkT (2 ^ W)))),.va (.tup (.int p.1::p.2.map af)),.va (.int (W:Nat)),.un,.un,.un,.un] _ _
 conv in (ay _)=>whnf
 walk_at "ev"
 refine e_x (dw hq (N':=["some","width"]) (ρ0:=fun _=>[.un,.va (.int (W:Nat))]) (fun t=>.un (.fr (by walk_at "at") (by walk_at "at") (by decide) rfl .nil)) (bZ ?_))
 walk_at "ev"
 ·rw [ir,G4]; exact sz9 (by have:=hp.m; omega)
 rw [ir]
 refine ⟨p.2.map fun A=>some (pkL (2 ^ W) A),by simp,?_,c9 ?_⟩
 ·intro c2 hc2 t j d o hd ho
  simp only [G9,Hj] at hd ho
  obtain ⟨A,hA,rfl⟩:=hd
  obtain ⟨A',hA',rfl⟩:=ho
  rw [hA] at hA'; cases hA'
  have hm:=IU hA
  have hf:=hp.f A hm
  refine dQ (by walk_at "at") (nxt (by walk_at "sset") ⟨.un (.same .nil),?_⟩)
  simp only [EvC]
  refine ⟨fun _=>?_,fun h=>by cases h⟩
  show EvE c2 _ [.va (.lst (A.map av)),_] _
  refine bH (F:=qH) h1 (by decide) ?_
  walk_at "ev"
  have hx:mxA A<2 ^ W:=by
   refine Lw ?_ hsz
   obtain ⟨l,r,e⟩:=List.append_of_mem hm
   unfold szP
   rw [e,HB,G3,Ku,Kw]
   have:=u5 l
   have:=u5 r
   omega
  exact aZ (Gw hW hf.l (hf.ex.bd hx)) (c9 rfl)
 rw [dO]
 refine ⟨_,rfl,fun x hx=>by obtain ⟨A,_,rfl⟩:=HC.mp hx; exact ⟨_,rfl⟩,fun ds' hp'=>?_⟩
 obtain ⟨As,hpm,rfl⟩:=A0 hp'
 have hfa:∀ A∈As,eF A:=fun A hA=>hp.f A (hpm.mem_iff.mp hA)
 have hpl:=xm hpm
 have hps:=A2 hpm
 have hlen:=hpm.length_eq
 refine nxt (by walk_at "sset") ?_
 with_reducible refine ri 3 (by walk_at "at") rfl (by walk_at "sset") ?_
 walk_at "ev"
 refine o7 (Dt _ _) ?_
 walk_at "ev"
 with_reducible refine tY 4 (by walk_at "at") rfl (by walk_at "sset") ?_
 rw [← Ej (2 ^ W) p.1]
 with_reducible refine b9 hq (bZ ?_)
 walk_at "ev"
 rw [AZ]
 have hcap:∀ i,cz (As.take i)≤20000:=fun i=>Hi (xq As i) (by omega)
 have hm8:As.length≤8:=by rw [hlen]; exact hp.m
 have fac:∀ (i:Nat) (L A:List Trm),As[i]?=some A→Way p.1 (As.take i) L→eF A∧As.take (i+1)=As.take i++[A]∧mp (aF L A)=(p.1:MP) * mpP (As.take (i+1))∧(aF L A).length≤cz (As.take (i+1))∧(∀ l∈L,∀ r∈A,Bd (2 ^ W) (bQ l.1 r.1)∧EV.MulOk l.2 r.2)∧L.length≤20000:=fun i L A hA hw=>by
  obtain ⟨hi,rfl⟩:=G8.mp hA
  have hf:=hfa As[i] (HW hi)
  have et:As.take (i+1)=As.take i++[As[i]]:=ID hi
  obtain ⟨q1,q2,q3,q4⟩:=kL hw hf
  rw [← et] at q1 q2 q3
  refine ⟨hf,et,q1,q2,fun l hl r hr=>⟨?_,?_⟩,Hi hw.l (hcap i)⟩
  ·have hm:cV l r∈aF L As[i]:=MZ.mpr ⟨l,hl,HC.mpr ⟨r,hr,rfl⟩⟩
   have hx:=A3 As (i+1)
   exact q3.bd (by unfold szP at hsz; omega) _ hm
  ·refine sJ (hw.b l hl) (hf.b r hr) ?_
   rw [HN]; omega
 refine ⟨fun i ρ'=>∃ (L:List Trm) (s5 s6:Sl),Way p.1 (As.take i) L∧ρ'=[.aK q (bV ((aL ts).map (pkT (2 ^ W)))),.va (.tup (.int p.1::p.2.map af)),.va (.int (W:Nat)),.va (.lst (As.map (pkL (2 ^ W)))),.va (.lst (L.map (pkD (2 ^ W)))),s5,s6],⟨_,_,_,Dv hp.n,rfl⟩,?_,?_⟩
 ·rintro c' hcX hcR hcM i d ρ' hd ⟨L,s5,s6,hw,rfl⟩
  rw [← List.map_dropLast] at hd
  simp only [G9,Hj] at hd
  obtain ⟨A,hA,rfl⟩:=hd
  rw [List.getElem?_dropLast] at hA
  replace hA:As[i]?=some A:=by
   split at hA
   ·exact hA
   ·cases hA
  obtain ⟨hf,et,q1,q2,q3,q4⟩:=fac i L A hA hw
  have q5:=hcap (i+1)
  have q6:=A1 hw hf (by rw [← et]; exact q5)
  rw [← et] at q6
  show EvG c' _ (.lst (A.map (pkD (2 ^ W)))) _ _
  walk_at "ev"
  refine ⟨_,⟨[],L,A,W,hW,by rw [cG] at q2; show 0+_≤_; omega,q4,hf.l,(by intro t ht; cases ht),q3,rfl,rfl,rfl⟩,?_⟩
  rintro kvs' rfl
  walk_at "ev"
  refine ⟨_,xu _ _,GB _ _,?_⟩
  repeat ((fail_if_success (with_reducible show aW _ [] _ _ _)); walk_at "ev1")
  with_reducible refine ri 4 (by walk_at "at") rfl (by walk_at "sset") ?_
  walk_at "ev"
  exact ⟨_,_,_,q6,rfl⟩
 ·rintro ρ' ⟨L,s5,s6,hw,rfl⟩
  rw [List.length_dropLast,G4] at hw
  walk_at "ev"
  ·have hne:As≠[]:=by rintro rfl; simp at *
   obtain ⟨i0,A,e0⟩:∃ i0 A,As=i0++[A]:=⟨As.dropLast,As.getLast hne,(List.dropLast_concat_getLast hne).symm⟩
   have ei:As.length - 1=i0.length:=by rw [e0]; simp
   have hA:As[As.length - 1]?=some A:=by rw [ei,e0]; simp
   have etl:As.take (As.length - 1+1)=As:=KH (by omega)
   obtain ⟨hf,et,q1,q2,q3,q4⟩:=fac _ L A hA hw
   rw [etl] at q1 q2
   refine tN (show atI (As.map (pkL (2 ^ W))) (-1)=some (pkL (2 ^ W) A) by rw [e0,HB]; exact Du _ _) ?_
   walk_at "ev"
   refine ⟨_,⟨ts,L,A,W,hW,by rw [cG] at q2; omega,q4,hf.l,hb,q3,rfl,rfl,rfl⟩,?_⟩
   rintro kvs' rfl
   walk_at "ev"
   refine ⟨_,_,⟨aF L A,by rw [q1,eB,AR hpm],by rw [← hpl]; exact q2,fun t ht=>?_,rfl⟩,rfl⟩
   obtain ⟨l,hl,r,hr,rfl⟩:=eZ ht
   exact (q3 l hl r hr).1
  ·have e0:As=[]:=by
    cases As with
    | nil=>rfl
    | cons A As=>simp at *
   have hw0:Way p.1 [] L:=by rw [e0] at hw; exact hw
   have p0:p.2=[]:=List.length_eq_zero_iff.mp (by rw [← hlen,e0]; rfl)
   obtain ⟨q1,q2,q3,q4⟩:=kL hw0 sL
   have hL:L.length≤1:=hw0.l
   have q5:(aF L (cT 1)).length≤1:=q2
   have h0W:(0:Int)<2 ^ W:=two_pos W
   have hx:(([]++[cT 1]:List (List Trm)).map mxA).sum<2 ^ W:=h0W
   have hp1:cz p.2=1:=by rw [p0]; rfl
   rw [← Ej (2 ^ W) 1]
   refine ⟨_,⟨ts,L,cT 1,W,hW,by rw [cG] at q5; omega,by omega,sL.l,hb,fun l hl r hr=>⟨?_,?_⟩,rfl,rfl,rfl⟩,?_⟩
   ·exact q3.bd hx _ (MZ.mpr ⟨l,hl,HC.mpr ⟨r,hr,rfl⟩⟩)
   ·exact sJ (hw0.b l hl) (sL.b r hr) (by show 2000+2016 * 0+2000≤_; omega)
   rintro kvs' rfl
   walk_at "ev"
   refine ⟨_,_,⟨aF L (cT 1),?_,by rw [hp1]; exact q5,q3.bd hx,rfl⟩,rfl⟩
   rw [q1,eB,p0]
   show _ * (mp (cT 1) * 1)=_ * (1:MP)
   rw [rY]
   show _ * ((1:MP) * 1)=_ * (1:MP)
   grind
end
end
set_option Elab.async false
set_option linter.all false
set_option maxRecDepth 100000
set_option maxHeartbeats 0
section
variable {P:Program} {w:World} {K:GW} {mg:Str→Option Value} {base:Heap}
theorem qI (ps:List Part) (p:Part):mp (oq (ps++[p]))=mp (oq ps)+mp (ig p.1 p.2):=by
 unfold oq
 rw [List.flatMap_append,rX]
 congr 1
 rw [KO,M3,Io]
theorem qJ (l:List Nat) (i:Nat):(l.take i).sum≤l.sum:=by
 rw [← Jq i l,Ku,Jq]; omega
noncomputable def sM:Fn:=fun ds r=>∃ ps:List Part,fy ps∧ds=[.lst (ps.map fm)]∧r=.ok (.ow ((aV (oq ps)).map av))
theorem A5 {ps:List Part} (h:fy ps):sM [.lst (ps.map fm)] (.ok (.ow ((aV (oq ps)).map av))):=⟨ps,h,rfl,rfl⟩
section
local macro_rules | `(tactic| walk_at "evX")=> `(tactic| first | ((with_reducible show EvX _ (Expr.Dict _ _ _) _ _); with_reducible refine tR ?_))
local macro_rules | `(tactic| walk_at "evCa")=> `(tactic| first | with_reducible refine bH (F:=AY) (by assumption) (by decide) ?_)
local macro_rules | `(tactic| walk_at "evXp")=> `(tactic| with_reducible refine uG (F:=ou) (by assumption) (by decide) (by walk_at "at") (by walk_at "at") (by walk_at "own") ?_)
local macro_rules | `(tactic| walk_at "evXC")=> `(tactic| first | ((with_reducible show EvX _ (HZ (Ht "unpacked" _) _ _ _) _ _); refine rm 2 (by walk_at "at") rfl (by walk_at "sset") (x_call (F:=AJ) (by assumption) (by decide) ?_)))
theorem GC {f:Addr} {fd:FuncData} (Fu:Fun K "poly_total" "poly_total" dz f fd) (T:Txt K mg) (h1:Cal P w K mg base 2 "width_of" AY) (h2:vW P w K mg base 3 "add_part" ou) (h3:Cal P w K mg base 3 "unpacked" AJ):aX P w K mg base (CXE P w) 4 f fd ["parts"] (spF K sM):=by
 refine cD Fu lu ly (by rintro ds r ⟨ps,_,rfl,_⟩; rfl) (by rintro ds r ⟨ps,_,_,rfl⟩; exact ⟨_,rfl⟩) fun c hq ds sl hF=>?_
 obtain ⟨ps,h,rfl,e⟩:=hF
 injection e with e
 subst e
 show aW c _ [.va (.lst (ps.map fm)),.un,.un,.un] _ _
 conv in (ay _)=>whnf
 obtain ⟨hW,hsz⟩:=Ds h.p
 walk_at "ev"
 refine aZ (f_wof h.p) ?_
 walk_at "ev"
 generalize AX ps=W at hW hsz ⊢
 with_reducible refine b9 hq (bZ ?_)
 walk_at "ev"
 refine ⟨fun i ρ'=>∃ (ts:List Trm) (s3:Sl),mp ts=mp (oq (ps.take i))∧ts.length≤((ps.take i).map fun p=>cz p.2).sum∧(∀ t∈ts,Bd (2 ^ W) t.1)∧ρ'=[.va (.lst (ps.map fm)),.va (.int (W:Nat)),.oK (bV ((aL ts).map (pkT (2 ^ W)))),s3],⟨[],_,rfl,GZ _,(by intro t ht; cases ht),rfl⟩,?_,?_⟩
 ·rintro c' hcX hcR hcM i d ρ' hd ⟨ts,s3,hm,hl,hb,rfl⟩
  simp only [G9,Hj] at hd
  obtain ⟨p,hpx,rfl⟩:=hd
  obtain ⟨hi,rfl⟩:=G8.mp hpx
  have et:ps.take (i+1)=ps.take i++[ps[i]]:=ID hi
  have hmem:ps[i]∈ps:=HW hi
  have hcap:((ps.take (i+1)).map fun p=>cz p.2).sum≤20000:=by rw [List.map_take]; exact Hi (qJ _ _) h.s
  have ec:((ps.take (i+1)).map fun p=>cz p.2).sum=((ps.take i).map fun p=>cz p.2).sum+cz ps[i].2:=by rw [et,HB,Ku]; simp
  rw [ec] at hcap
  walk_at "ev"
  refine ⟨_,⟨ts,ps[i],W,hW,h.p _ hmem,hsz _ hmem,by omega,hb,rfl,rfl,rfl⟩,?_⟩
  rintro kvs' ⟨X,x1,x2,x3,rfl⟩
  walk_at "ev"
  refine ⟨ts++X,.va (fm ps[i]),?_,?_,fun t ht=>(Hy.mp ht).elim (hb t) (x3 t),rfl⟩
  ·rw [rX,hm,x1,et,qI]
  ·rw [ec,HQ]; omega
 ·rintro ρ' ⟨ts,s3,hm,hl,hb,rfl⟩
  rw [G4,IC] at hm hl
  walk_at "ev"
  refine aZ (f_unp (ts:=ts) hW (by have:=h.s; omega) hb) ⟨dR fun x _=>oi x,?_⟩
  show Sl.ow _=Sl.ow _
  rw [kF hm]
end
end
set_option Elab.async false
set_option linter.all false
set_option maxRecDepth 100000
set_option maxHeartbeats 0
section
variable {P:Program} {w:World} {K:GW} {mg:Str→Option Value} {base:Heap}
noncomputable def crs (p q r s:List Trm):List Part:=[(1,[p,q]),(-1,[r,s])]
noncomputable def xx (ps:List Part):List D:=(aV (oq ps)).map av
noncomputable def crP (a b c x y z:List Trm):List (List Part):=[crs b z c y,crs c x a z,crs a y b x]
noncomputable def Fcr (P:Program) (w:World) (K:GW) (mg:Str→Option Value) (base:Heap):Fn:=fun ds r=>∃ (f:Addr) (a b c x y z:List Trm),zW P w K mg base 4 f sM∧(∀ ps∈crP a b c x y z,fy ps) ∧
 ds=[.adr f,.tup [af a,af b,af c],.tup [af x,af y,af z]]∧r=.ok (.fo (.t ((crP a b c x y z).map fun ps=>.l (xx ps))))
noncomputable def lC:Fn:=fun ds r=>∃ (a b c x y z:List Trm),(∀ ps∈crP a b c x y z,fy ps) ∧
 ds=[.tup [af a,af b,af c],.tup [af x,af y,af z]]∧r=.ok (.fo (.t ((crP a b c x y z).map fun ps=>.l (xx ps))))
theorem f_cr {f:Addr} {a b c x y z:List Trm} (hf:zW P w K mg base 4 f sM) (h:∀ ps∈crP a b c x y z,fy ps):Fcr P w K mg base [.adr f,.tup [af a,af b,af c],.tup [af x,af y,af z]] (.ok (.fo (.t ((crP a b c x y z).map fun ps=>.l (xx ps))))):=⟨f,a,b,c,x,y,z,hf,h,rfl,rfl⟩
theorem f_cr2 {a b c x y z:List Trm} (h:∀ ps∈crP a b c x y z,fy ps):lC [.tup [af a,af b,af c],.tup [af x,af y,af z]] (.ok (.fo (.t ((crP a b c x y z).map fun ps=>.l (xx ps))))):=⟨a,b,c,x,y,z,h,rfl,rfl⟩
section
theorem ok_cr {f:Addr} {fd:FuncData} (Fu:Fun K "crossed" "crossed" f9 f fd):aX P w K mg base (CXE P w) 5 f fd ["total","one","other"] (spF K (Fcr P w K mg base)):=by
 refine cD Fu r9 sd (by rintro ds r ⟨f,a,b,c,x,y,z,_,_,rfl,_⟩; rfl) (by rintro ds r ⟨f,a,b,c,x,y,z,_,_,_,rfl⟩; exact ⟨_,rfl⟩) fun k hq ds sl hF=>?_
 obtain ⟨g,a,b,c,x,y,z,hg,h,rfl,e⟩:=hF
 injection e with e
 subst e
 have h1:fy (crs b z c y):=h _ (by simp [crP])
 have h2:fy (crs c x a z):=h _ (by simp [crP])
 have h3:fy (crs a y b x):=h _ (by simp [crP])
 show aW k _ [.va (.adr g),.va (.tup [af a,af b,af c]),.va (.tup [af x,af y,af z])] _ _
 conv in (ay _)=>whnf
 walk_at "evSs"
 refine i7 ?_
 refine Gf ?_
 refine rR ?_
 refine x_fo (nT hg (by decide) (by walk_at "at") (by walk_at "at") ?_)
 walk_at "ev"
 refine aZ (A5 h1) ⟨_,rfl,_,rfl,?_⟩
 refine rR ?_
 refine x_fo (nT hg (by decide) (by walk_at "at") (by walk_at "at") ?_)
 walk_at "ev"
 refine aZ (A5 h2) ⟨_,rfl,_,rfl,?_⟩
 refine rR ?_
 refine x_fo (nT hg (by decide) (by walk_at "at") (by walk_at "at") ?_)
 walk_at "ev"
 refine aZ (A5 h3) ⟨_,rfl,_,rfl,?_⟩
 refine f_nil ?_
 refine Sd.mk (oX (Nat.le_of_ble_eq_true rfl)) ?_
 exact rfl
theorem GD {f:Addr} {fd:FuncData} (Fu:Fun K "through_line" "through_line" cK f fd) (h1:Cal P w K mg base 4 "poly_total" sM) (h2:Cal P w K mg base 5 "crossed" (Fcr P w K mg base)):aX P w K mg base (CXE P w) 6 f fd ["i","j"] (spF K lC):=by
 refine cD Fu jn jo (by rintro ds r ⟨a,b,c,x,y,z,_,rfl,_⟩; rfl) (by rintro ds r ⟨a,b,c,x,y,z,_,_,rfl⟩; exact ⟨_,rfl⟩) fun k hq ds sl hF=>?_
 obtain ⟨a,b,c,x,y,z,h,rfl,e⟩:=hF
 injection e with e
 subst e
 obtain ⟨g,hm,hg⟩:=h1.at_
 show aW k _ [.va (.tup [af a,af b,af c]),.va (.tup [af x,af y,af z])] _ _
 conv in (ay _)=>whnf
 walk_at "evSs"
 refine i7 (x_call (F:=Fcr P w K mg base) h2 (by decide) ?_)
 refine cR (zX hm ?_)
 walk_at "ev"
 exact aZ (f_cr hg h) rfl
theorem Dw {f:Addr} {fd:FuncData} (Fu:Fun K "meet_point" "meet_point" dB f fd) (h1:Cal P w K mg base 4 "poly_total" sM) (h2:Cal P w K mg base 5 "crossed" (Fcr P w K mg base)):aX P w K mg base (CXE P w) 6 f fd ["l","m"] (spF K lC):=by
 refine cD Fu lz lB (by rintro ds r ⟨a,b,c,x,y,z,_,rfl,_⟩; rfl) (by rintro ds r ⟨a,b,c,x,y,z,_,_,rfl⟩; exact ⟨_,rfl⟩) fun k hq ds sl hF=>?_
 obtain ⟨a,b,c,x,y,z,h,rfl,e⟩:=hF
 injection e with e
 subst e
 obtain ⟨g,hm,hg⟩:=h1.at_
 show aW k _ [.va (.tup [af a,af b,af c]),.va (.tup [af x,af y,af z])] _ _
 conv in (ay _)=>whnf
 walk_at "evSs"
 refine i7 (x_call (F:=Fcr P w K mg base) h2 (by decide) ?_)
 refine cR (zX hm ?_)
 walk_at "ev"
 exact aZ (f_cr hg h) rfl
end
end
set_option Elab.async false
set_option linter.all false
set_option maxRecDepth 100000
set_option maxHeartbeats 0
section
variable {P:Program} {w:World} {K:GW} {mg:Str→Option Value} {base:Heap}
noncomputable def goC:Nat→Int→List Int×Int
 | 0,r=>([],r)
 | i+1,r=>((goC i r).1++[(goC i r).2 / 5 % 4],(goC i r).2 / 4)
noncomputable def smT (n:Int):Trm :=
 if n % 2=1 then ((goC (n / 2 % 5).toNat (n / 2)).1,(goC (n / 2 % 5).toNat (n / 2)).2 / 5 % (2 * 10 ^ Int.toNat 9+1) - 10 ^ Int.toNat 9)
 else ((HE (thing (n / 2) 0 4).toNat).map fun (i:Nat)=>thing (n / 2) (1+(i:Int)) 2,thing (n / 2) 9 7 - 3)
theorem u6 (i:Nat) (r:Int):(goC i r).1.length=i:=by
 induction i with
 | zero=>rfl
 | succ i ih=>simp [goC,ih]
theorem GF (i:Nat) (r:Int):∀ x∈(goC i r).1,0≤x∧x≤3:=by
 induction i with
 | zero=>intro x hx; cases hx
 | succ i ih =>
  intro x hx
  simp only [goC,Hy,Ho] at hx
  rcases hx with hx | rfl
  ·exact ih x hx
  ·omega
noncomputable def SmT (t:Trm):Prop:=t.1.length≤4∧(∀ x∈t.1,0≤x∧x≤3)∧t.2.natAbs<2 ^ 31
theorem GG (n:Int):SmT (smT n):=by
 unfold smT
 split
 ·refine ⟨by rw [u6]; omega,GF _ _,?_⟩
  show ((goC (n / 2 % 5).toNat (n / 2)).2 / 5 % (2 * 1000000000+1) - 1000000000).natAbs<2 ^ 31
  omega
 ·have h4:=ie (n / 2) 0 (m:=4) (by decide)
  have h7:=ie (n / 2) 9 (m:=7) (by decide)
  refine ⟨by simp; omega,fun x hx=>?_,?_⟩
  ·obtain ⟨i,_,rfl⟩:=HC.mp hx
   have:=ie (n / 2) (1+(i:Int)) (m:=2) (by decide)
   omega
  ·show (thing (n / 2) 9 7 - 3).natAbs<2 ^ 31
   omega
theorem kM (n:Nat):(kY 0 n).length=n:=by simp [kY]
noncomputable def A6:Fn:=fun ds r=>∃ n:Int,ds=[.int n]∧r=.ok (.va (av (smT n)))
theorem f_smt (n:Int):A6 [.int n] (.ok (.va (av (smT n)))):=⟨n,rfl,rfl⟩
section
local macro_rules | `(tactic| walk_at "side")=> `(tactic| exact gE _)
local macro_rules | `(tactic| walk_at "evCa")=> `(tactic| with_reducible refine bH (F:=kI) (by assumption) (by decide) ?_)
local macro_rules | `(tactic| walk_at "evR")=> `(tactic| first | with_reducible refine aZ (C9 ?_ ?_ ?_) ?_)
theorem GH {f:Addr} {fd:FuncData} (Fu:Fun K "_law_small_term" "_law_small_term" cL f fd) (T:Txt K mg) (h1:Cal P w K mg base 1 "_law_thing" kI):aX P w K mg base (CXE P w) 2 f fd ["_law_cell_here"] (spF K A6):=by
 refine cD Fu jq jr (by rintro ds r ⟨n,rfl,_⟩; rfl) (by rintro ds r ⟨n,_,rfl⟩; exact ⟨_,rfl⟩) fun c hq ds sl hF=>?_
 obtain ⟨n,rfl,e⟩:=hF
 injection e with e
 subst e
 show aW c _ [.va (.int n),.un,.un,.un] _ _
 conv in (ay _)=>whnf
 walk_at "ev"
 ·with_reducible refine b9 hq (dI (Txt.range (by assumption)) ?_)
  walk_at "ev"
  ·exact ⟨by omega,by omega⟩
  refine ⟨fun i ρ'=>∃ s4:Sl,ρ'=[.va (.int n),.va (.int (goC i (n / 2)).2),.ow ((goC i (n / 2)).1.map .int),s4],⟨.un,rfl⟩,?_,?_⟩
  ·rintro c' hcX hcR hcM i d ρ' hd ⟨s4,rfl⟩
   obtain ⟨hi,rfl⟩:=fE hd
   have hlen:((goC i (n / 2)).1.map D.int).length=i:=by rw [G4,u6]
   walk_at "ev"
   ·exact cI (by omega)
   ·refine ⟨.va (.int (i:Int)),?_⟩
    show [_,_,Sl.ow _,_]=_
    simp only [goC,HB,G3,Jc]
  ·rintro ρ' ⟨s4,rfl⟩
   rw [kM]
   walk_at "ev"
   all_goals first
    | exact pG (by decide)
    | decide
    | exact ⟨by decide,by decide,by decide +kernel⟩
    | (show Sl.va _=Sl.va _; unfold smT; rw [if_pos (by assumption)])
 ·have t4:=ie (n / 2) 0 (m:=4) (by decide)
  with_reducible refine b9 hq (dI (Txt.range (by assumption)) ?_)
  walk_at "ev"
  ·decide
  ·decide
  ·decide
  walk_at "ev"
  ·exact ⟨by omega,by omega⟩
  refine ⟨fun i ρ'=>∃ s4:Sl,ρ'=[.va (.int n),.va (.int (n / 2)),.ow (((HE i).map fun (i:Nat)=>thing (n / 2) (1+(i:Int)) 2).map .int),s4],⟨.un,rfl⟩,?_,?_⟩
  ·rintro c' hcX hcR hcM i d ρ' hd ⟨s4,rfl⟩
   obtain ⟨hi,rfl⟩:=fE hd
   have hlen:(((HE i).map fun (i:Nat)=>thing (n / 2) (1+(i:Int)) 2).map D.int).length=i:=by simp
   walk_at "ev"
   ·decide
   ·decide
   ·omega
   walk_at "ev"
   ·exact cI (by omega)
   ·refine ⟨.va (.int (i:Int)),?_⟩
    show [_,_,Sl.ow _,_]=_
    simp only [List.range_succ,HB,G3,Jc]
  ·rintro ρ' ⟨s4,rfl⟩
   rw [kM]
   walk_at "ev"
   ·decide
   ·decide
   ·decide
   walk_at "ev"
   show Sl.va _=Sl.va _
   unfold smT
   rw [if_neg (by assumption)]
end
end
set_option Elab.async false
set_option linter.all false
set_option maxRecDepth 100000
set_option maxHeartbeats 0
section
variable {P:Program} {w:World} {K:GW} {mg:Str→Option Value} {base:Heap}
theorem A7 {α:Type} {xs:List α} {lo hi:Option Int} {x:α} (h:x∈EV.cutD xs lo hi):x∈xs:=List.mem_of_mem_drop (Ln h)
theorem A8 {α:Type} (xs:List α):(EV.cutD xs none (some 4)).length≤4:=by
 unfold EV.cutD
 have:HT.sIx xs.length xs.length (some 4)≤4:=by
  simp only [HT.sIx,show ¬ ((4:Int)<0) by decide,if_false]
  exact Nat.min_le_left _ _
 rw [HN]; omega
noncomputable def iU (cs:List Int) (o:Int) (k:Int):List Trm:=EV.cutD ((stp cs (some (3 * o+k)) none (some 9)).map smT) none (some 4)++[([],k+1)]
theorem kN (cs:List Int) (o k:Int):(iU cs o k).length≤5:=by
 unfold iU
 rw [HQ]
 have:=A8 ((stp cs (some (3 * o+k)) none (some 9)).map smT)
 simp only [JU]; omega
theorem jF (cs:List Int) (o k:Int) (hk:k.natAbs<5):∀ t∈iU cs o k,SmT t:=by
 intro t ht
 unfold iU at ht
 rcases Hy.mp ht with h | h
 ·obtain ⟨n,_,rfl⟩:=HC.mp (A7 h)
  exact GG n
 ·rw [Ho] at h
  subst h
  exact ⟨HF _,(by intro x hx; cases hx),by show (k+1).natAbs<2 ^ 31; omega⟩
noncomputable def thr (cs:List Int) (o:Int):List (List Trm):=(HE 3).map fun (k:Nat)=>aV (iU cs o k)
noncomputable def A9:Fn:=fun ds r=>∃ (cs:List Int) (o:Int),o.natAbs<10∧cs.length≤1000∧ds=[.lst (cs.map .int),.int o]∧r=.ok (.va (.tup ((thr cs o).map af)))
theorem at123 {i:Nat} (h:i<3):atI [D.int 1,D.int 2,D.int 3] (i:Int)=some (D.int ((i:Int)+1)):=by
 obtain rfl | rfl | rfl:i=0∨i=1∨i=2:=by omega
 all_goals rfl
section
local macro_rules | `(tactic| walk_at "side")=> `(tactic| exact gE _)
local macro_rules | `(tactic| walk_at "evCa")=> `(tactic| first | with_reducible refine bH (F:=A6) (by assumption) (by decide) ?_)
local macro_rules | `(tactic| walk_at "evR")=> `(tactic| first | with_reducible refine aZ (f_smt _) ?_)
theorem Ba {f:Addr} {fd:FuncData} (Fu:Fun K "_law_three" "_law_three" gi f fd) (T:Txt K mg) (h1:Cal P w K mg base 2 "_law_small_term" A6) (h2:Cal P w K mg base 2 "_law_sum" oj):aX P w K mg base (CXE P w) 3 f fd ["_law_cells","_law_offset"] (spF K A9):=by
 refine cD Fu sA sC (by rintro ds r ⟨cs,o,_,_,rfl,_⟩; rfl) (by rintro ds r ⟨cs,o,_,_,_,rfl⟩; exact ⟨_,rfl⟩) fun c hq ds sl hF=>?_
 obtain ⟨cs,o,ho,hl,rfl,e⟩:=hF
 injection e with e
 subst e
 show aW c _ [.va (.lst (cs.map .int)),.va (.int o),.un,.un,.un,.un] _ _
 conv in (ay _)=>whnf
 walk_at "ev"
 with_reducible refine b9 hq (dI (Txt.range (by assumption)) ?_)
 walk_at "ev"
 ·exact ⟨by decide,by decide⟩
 refine ⟨fun i ρ'=>∃ s3 s4 s5:Sl,ρ'=[.va (.lst (cs.map .int)),.va (.int o),.ow (((HE i).map fun (k:Nat)=>aV (iU cs o k)).map af),s3,s4,s5],⟨_,_,_,rfl⟩,?_,?_⟩
 ·rintro c' hcX hcR hcM i d ρ' hd ⟨s3,s4,s5,rfl⟩
  obtain ⟨hi,rfl⟩:=fE hd
  have hi':i<3:=hi
  walk_at "ev"
  refine b9 (by rw [hcX]; exact hq) (bZ (e_x (x_stp ?_)))
  walk_at "ev"
  ·exact pG (by decide)
  refine ⟨_,9,rfl,rfl,by decide,?_⟩
  rw [CV]
  walk_at "ev"
  refine ⟨fun j ρ''=>∃ s5:Sl,ρ''=[.va (.lst (cs.map .int)),.va (.int o),.ow (((HE i).map fun (k:Nat)=>aV (iU cs o k)).map af),.va (.int (i:Int)),.ow (((((stp cs (some (3 * o+i)) none (some 9)).take j).map smT).map av)),s5],⟨_,rfl⟩,?_,?_⟩
  ·rintro c'' hdX hdR hdM j d ρ'' hd ⟨s5,rfl⟩
   simp only [G9,Hj] at hd
   obtain ⟨n,hn,rfl⟩:=hd
   obtain ⟨hj,rfl⟩:=G8.mp hn
   have hs:(stp cs (some (3 * o+(i:Int))) none (some 9)).length≤cs.length:=uW (by decide)
   walk_at "ev"
   ·exact cI (by rw [G4,G4,HN]; omega)
   ·refine ⟨.va (.int (stp cs (some (3 * o+(i:Int))) none (some 9))[j]),?_⟩
    show [_,_,_,_,Sl.ow _,_]=_
    rw [ID hj,HB,HB]
    rfl
  ·rintro ρ'' ⟨s5,rfl⟩
   rw [G4,IC]
   walk_at "ev"
   refine e_x (DV 4 (by walk_at "at") rfl (by walk_at "sset") (x_call (F:=oj) (by assumption) (by decide) ?_))
   walk_at "ev"
   refine tN (at123 hi') ?_
   walk_at "ev"
   ·have:=A8 (((stp cs (some (3 * o+(i:Int))) none (some 9)).map smT).map av)
    exact sz9 (by simp only [JU]; omega)
   have eL:iU cs o (i:Int)=EV.cutD ((stp cs (some (3 * o+(i:Int))) none (some 9)).map smT) none (some 4)++[([],(i:Int)+1)]:=rfl
   have eM:(iU cs o (i:Int)).map av=EV.cutD (((stp cs (some (3 * o+(i:Int))) none (some 9)).map smT).map av) none (some 4)++[.tup [.tup [],.int ((i:Int)+1)]]:=by rw [eL]; simp only [gH,HB]; rfl
   refine ⟨_,⟨iU cs o i,Hi (kN ..) (by decide),fun t ht=>Hi (jF cs o i (by omega) t ht).1 (by decide),by rw [eM],rfl⟩,?_⟩
   refine ⟨dR fun x _=>oi x,c9 ?_⟩
   walk_at "ev"
   ·exact cI (by rw [G4,G4,List.length_range]; omega)
   ·show ∃ s3 s4 s5:Sl,[_,_,Sl.ow _,_,_,_]=[_,_,Sl.ow (((HE (i+1)).map fun (k:Nat)=>aV (iU cs o k)).map af),s3,s4,s5]
    simp only [List.range_succ,HB,G3,Jc]
    exact ⟨_,_,_,rfl⟩
 ·rintro ρ' ⟨s3,s4,s5,rfl⟩
  rw [kM]
  walk_at "evSs"
  refine tY 2 (by walk_at "at") rfl (by walk_at "sset") ?_
  walk_at "ev"
  rfl
end
end
set_option Elab.async false
set_option linter.all false
set_option maxRecDepth 100000
set_option maxHeartbeats 0
section
variable {P:Program} {w:World} {K:GW} {mg:Str→Option Value} {base:Heap}
theorem smap {α β:Type} (L:List α) (f:α→β):(L.map fun x=>some (f x)).filterMap id=L.map f:=by
 induction L with
 | nil=>rfl
 | cons a l ih=>simpa using ih
noncomputable def iV:Fn:=fun ds r=>∃ A B:List Trm,A.length+B.length≤20000∧(∀ t∈A++B,t.1.length≤64)∧ds=[.lst (A.map av),.lst (B.map av)]∧r=.ok (.ow ((aV (A++B.map iL)).map av))
theorem Dy {A B:List Trm} (h:A.length+B.length≤20000) (h2:∀ t∈A++B,t.1.length≤64):iV [.lst (A.map av),.lst (B.map av)] (.ok (.ow ((aV (A++B.map iL)).map av))):=⟨A,B,h,h2,rfl,rfl⟩
noncomputable def mK:Fn:=fun ds r=>∃ Ls:List (List Trm),Ls.length≤1000∧ds=[.tup (Ls.map af)]∧r=.ok (.va (.tup (Ls.map af)))
theorem GI {Ls:List (List Trm)} (h:Ls.length≤1000):mK [.tup (Ls.map af)] (.ok (.va (.tup (Ls.map af)))):=⟨Ls,h,rfl,rfl⟩
noncomputable def iW:Fn:=fun ds r=>∃ Ls:List (List Trm),Ls.length=3∧(∀ L∈Ls,L.length≤20000∧∀ t∈L,t.1.length≤64)∧ds=[.tup (Ls.map af),.tup (Ls.map af)]∧r=.ok (.va (.bl true))
theorem Dz {Ls:List (List Trm)} (h:Ls.length=3) (h2:∀ L∈Ls,L.length≤20000∧∀ t∈L,t.1.length≤64):iW [.tup (Ls.map af),.tup (Ls.map af)] (.ok (.va (.bl true))):=⟨Ls,h,h2,rfl,rfl⟩
section
local macro_rules | `(tactic| walk_at "evXC")=> `(tactic| first | with_reducible refine x_call (F:=oj) (by assumption) (by decide) ?_)
local macro_rules | `(tactic| walk_at "evR")=> `(tactic| first | with_reducible refine aZ (sG ?_ ?_) ?_)
theorem Bb {f:Addr} {fd:FuncData} (Fu:Fun K "_law_less" "_law_less" iR f fd) (T:Txt K mg) (h1:Cal P w K mg base 2 "_law_sum" oj):aX P w K mg base (CXE P w) 3 f fd ["_law_one","_law_other"] (spF K iV):=by
 refine cD Fu wY wZ (by rintro ds r ⟨A,B,_,_,rfl,_⟩; rfl) (by rintro ds r ⟨A,B,_,_,_,rfl⟩; exact ⟨_,rfl⟩) fun c hq ds sl hF=>?_
 obtain ⟨A,B,hl,hp,rfl,e⟩:=hF
 injection e with e
 subst e
 show aW c _ [.va (.lst (A.map av)),.va (.lst (B.map av))] _ _
 conv in (ay _)=>whnf
 walk_at "ev"
 refine e_x (dw hq (N':=["_law_powers","_law_number"]) (ρ0:=fun _=>[.un,.un]) (fun t=>.un (.un .nil)) (bZ ?_))
 walk_at "ev"
 ·exact sz9 (by rw [G4]; omega)
 refine ⟨B.map fun t=>some (av (iL t)),by simp,?_,c9 ?_⟩
 ·intro c' hc t i d o hd ho
  simp only [G9,Hj] at hd ho
  obtain ⟨x,hx,rfl⟩:=hd
  obtain ⟨x',hx',rfl⟩:=ho
  rw [hx] at hx'; cases hx'
  show EvG c' _ (.tup [.tup (x.1.map .int),.int x.2]) _ _
  walk_at "ev"
  refine ⟨.un (.un .nil),?_⟩
  simp only [EvC]
  refine ⟨fun _=>?_,fun h=>by cases h⟩
  walk_at "ev"
  rw [Int.zero_sub]
  rfl
 ·rw [smap]
  rw [show (B.map fun t=>av (iL t))=(B.map iL).map av by rw [HP]; rfl]
  walk_at "ev"
  ·rw [G4,G4,G4]; exact sz9 (by omega)
  rw [← HB]
  refine aZ (sG (by rw [HQ,G4]; omega) fun t ht=>?_) rfl
  rcases Hy.mp ht with q | q
  ·exact hp t (Jx _ q)
  ·obtain ⟨u,hu,rfl⟩:=HC.mp q
   exact hp u (Il _ hu)
end
theorem DA {f:Addr} {fd:FuncData} (Fu:Fun K "_law_copy" "_law_copy" iS f fd) (T:Txt K mg):aX P w K mg base (CXE P w) 1 f fd ["_law_some"] (spF K mK):=by
 refine cD Fu w4 w5 (by rintro ds r ⟨A,_,rfl,_⟩; rfl) (by rintro ds r ⟨A,_,_,rfl⟩; exact ⟨_,rfl⟩) fun c hq ds sl hF=>?_
 obtain ⟨Ls,hl,rfl,e⟩:=hF
 injection e with e
 subst e
 show aW c _ [.va (.tup (Ls.map af))] _ _
 conv in (ay _)=>whnf
 walk_at "ev"
 refine e_x (dw hq (N':=["_law_terms"]) (ρ0:=fun _=>[.un]) (fun t=>.un .nil) (bZ ?_))
 walk_at "ev"
 ·exact sz9 (by rw [G4]; omega)
 refine ⟨Ls.map fun t=>some (af t),by simp,?_,c9 ?_⟩
 ·intro c' hc t i d o hd ho
  simp only [G9,Hj] at hd ho
  obtain ⟨x,hx,rfl⟩:=hd
  obtain ⟨x',hx',rfl⟩:=ho
  rw [hx] at hx'; cases hx'
  refine dQ (by walk_at "at") (nxt (by walk_at "sset") ⟨.un .nil,?_⟩)
  simp only [EvC]
  refine ⟨fun _=>?_,fun h=>by cases h⟩
  refine e_x (yw (Txt.list T) ?_)
  walk_at "ev"
  rfl
 ·rw [smap]
  walk_at "ev"
  rfl
section
local macro_rules | `(tactic| walk_at "evCa")=> `(tactic| first | with_reducible refine bH (F:=qF) (by assumption) (by decide) ?_)
theorem Bc {f:Addr} {fd:FuncData} (Fu:Fun K "_law_same_three" "_law_same_three" cM f fd) (T:Txt K mg) (h1:Cal P w K mg base 2 "_law_same" qF):aX P w K mg base (CXE P w) 3 f fd ["_law_found","_law_due"] (spF K iW):=by
 refine cD Fu ju jv (by rintro ds r ⟨A,_,_,rfl,_⟩; rfl) (by rintro ds r ⟨A,_,_,_,rfl⟩; exact ⟨_,rfl⟩) fun c hq ds sl hF=>?_
 obtain ⟨Ls,hl,hL,rfl,e⟩:=hF
 injection e with e
 subst e
 show aW c _ [.va (.tup (Ls.map af)),.va (.tup (Ls.map af))] _ _
 conv in (ay _)=>whnf
 walk_at "ev"
 ·refine DX (Txt.all T) (e_x (dw hq (N':=["_law_one","_law_other"]) (ρ0:=fun _=>[.un,.un]) (fun t=>.un (.un .nil)) (Gp (Txt.zip T) ?_)))
  walk_at "ev"
  refine ⟨_,_,rfl,rfl,?_⟩
  have ez:jh (Ls.map af) (Ls.map af)=Ls.map fun t=>D.tup [af t,af t]:=by
   unfold jh
   rw [LJ,Ly]
  rw [ez]
  refine Sd.mk (sz9 (by rw [G4]; omega)) ⟨Ls.map fun _=>some (.bl true),by simp,?_,c9 ⟨Ls.map fun _=>true,?_,?_⟩⟩
  ·intro c' hc t i d o hd ho
   simp only [G9,Hj] at hd ho
   obtain ⟨x,hx,rfl⟩:=hd
   obtain ⟨x',hx',rfl⟩:=ho
   have hx2:=hL x (IU hx)
   show EvG c' _ (.tup [.lst (x.map av),.lst (x.map av)]) _ _
   walk_at "ev"
   refine ⟨.un (.un .nil),?_⟩
   simp only [EvC]
   refine ⟨fun _=>?_,fun h=>by cases h⟩
   walk_at "ev"
   exact aZ (Gs hx2.1 hx2.2) (DS rfl)
  ·rw [smap,HP]
   rfl
  ·rw [show ((Ls.map fun _=>true).all id)=true by simp]
 ·exact absurd (show (((Ls.map af).length:Nat):Int)=3 by rw [G4,hl]; rfl) (by assumption)
end
end
set_option Elab.async false
set_option linter.all false
set_option maxRecDepth 100000
set_option maxHeartbeats 0
section
variable {P:Program} {w:World} {K:GW} {mg:Str→Option Value} {base:Heap}
noncomputable def spD:D:=.tup [.tup [.int 12],.int 1]
noncomputable def spL (i:Nat) (L:List (Addr×List D)):List (Addr×List D):=(L.take i).map (fun x=>(x.1,x.2++[spD]))++L.drop i
theorem Be:∀ L:List (Addr×List D),wB (laS L)=some (L.map fun x=>D.adr x.1)
 | []=>rfl
 | x::L=>by
  have:=Be L
  unfold laS at this ⊢
  simp only [G3,wB,Sh.raw,this]
theorem sN (A B:List (Addr×List D)):laS (A++B)=laS A++laS B:=by unfold laS; rw [HB]
theorem Bf {L:List (Addr×List D)} {i:Nat} (h:i<L.length):laS (spL i L)=laS ((L.take i).map fun x=>(x.1,x.2++[spD]))++.la L[i].1 L[i].2::laS (L.drop (i+1)):=by
 unfold spL
 rw [sN,Mg h]
 rfl
theorem Bg {L:List (Addr×List D)} {i:Nat} (h:i<L.length):laS ((L.take i).map fun x=>(x.1,x.2++[spD]))++.la L[i].1 (L[i].2++[spD])::laS (L.drop (i+1))=laS (spL (i+1) L):=by
 unfold spL
 rw [sN,ID h,HB,sN,Hw]
 rfl
noncomputable def u7 (s:Sh):Prop:=∃ dss:List (List D),s=.t (dss.map .l)∧dss.length≤1000∧∀ ds∈dss,ds.length≤20000
theorem Bh {f:Addr} {fd:FuncData} (Fu:Fun K "_law_spoil" "_law_spoil" gj f fd):aX P w K mg base (CXE P w) 1 f fd ["_law_found"] (spO K u7):=by
 refine fn_o Fu sD sE rfl (by decide) fun c hq s hs=>?_
 obtain ⟨dss,rfl,hl,hd'⟩:=hs
 show aW c _ [.fo (.t (dss.map .l)),.un] _ _
 conv in (ay _)=>whnf
 refine c8 (Gh 0 (by walk_at "at") fun L e=>?_)
 subst e
 show EvS c _ [.fo (.t (laS L)),.un] _ _
 have hll:L.length≤1000:=by rw [← G4 (f:=(·.2))]; exact hl
 with_reducible refine b9 hq (bZ (Gg (by walk_at "at") (by walk_at "at") (Be L) ?_))
 refine ⟨_,rfl,fun i ρ'=>ρ'=[.fo (.t (laS (spL i L))),.un],rfl,?_,?_⟩
 ·rintro c' hcX hcR hcM i d ρ' hd rfl
  simp only [G9,Hj] at hd
  obtain ⟨x,hx,rfl⟩:=hd
  obtain ⟨hi,rfl⟩:=G8.mp hx
  have hli:L[i].2.length≤20000:=hd' _ (HC.mpr ⟨_,HW hi,rfl⟩)
  refine dQ (by walk_at "at") (nxt (by walk_at "sset") ?_)
  rw [Bf hi]
  refine Ad 0 1 (.z (.cons rfl .nil)) (by walk_at "at") ?_ (by decide)
  show aW c' _ [.fo (.t (laS ((L.take i).map fun x=>(x.1,x.2++[spD]))++.v (.adr L[i].1)::laS (L.drop (i+1)))),.aw L[i].1 L[i].2] _ _
  refine c8 ?_
  with_reducible refine yL (by walk_at "at") (by walk_at "at") (by walk_at "own") ?_
  generalize hG:(fun ρ''=>aW c' [] ρ'' _ _)=G
  walk_at "ev"
  ·exact cI (by omega)
  subst hG
  show aW c' _ [.fo (.t (laS ((L.take i).map fun x=>(x.1,x.2++[spD]))++.v (.adr L[i].1)::laS (L.drop (i+1)))),.aw L[i].1 (L[i].2++[spD])] _ _
  refine Ae 0 1 (.z (.cons rfl .nil)) (by walk_at "at") ?_ (by decide)
  refine qY ?_
  show [Sl.fo (.t _),Sl.un]=_
  rw [Bg hi]
 ·rintro ρ' rfl
  exact qY trivial
end
set_option Elab.async false
set_option linter.all false
set_option maxRecDepth 100000
set_option maxHeartbeats 0
section
variable {P:Program} {w:World} {K:GW} {mg:Str→Option Value} {base:Heap}
structure SmP (A:List Trm):Prop where
 l:A.length≤5
 e:Ex 3 A
 b:Bn 47 A
theorem SmP.fac {A:List Trm} (h:SmP A):eF A:=⟨Hi h.l (by decide),h.e.mono (by decide),h.b.mono (by decide)⟩
theorem Ex.DB {m:Int} {L:List Trm} (h:Ex m L):Ex m (aV L):=fun t ht=>Ex.sum h t (kr ht).1
theorem Bn.DB {m:Nat} {L:List Trm} (h:Bn m L) (hl:L.length<2 ^ 16):Bn (m+16) (aV L):=fun t ht=>Bn.sum h hl t (kr ht).1
theorem SmP.tim {A B:List Trm} (h:SmP A) (g:SmP B):AK A B where
 la:=Hi h.l (by decide)
 lb:=Hi g.l (by decide)
 lp:=Hi (J0 h.l g.l) (by decide)
 pa:=h.e.mono (by decide)
 pb:=g.e.mono (by decide)
 mu:=fun l hl r hr=>sJ (h.b l hl) (g.b r hr) (by decide)
theorem SmP.pl2 {A B:List Trm} (h:SmP A) (g:SmP B):My.cz [A,B]≤25:=by
 have h1:=h.l
 have h2:=g.l
 show max A.length 1 * (max B.length 1 * 1)≤25
 rw [Nat.mul_one]
 exact Hi (J0 (show max A.length 1≤5 by omega) (show max B.length 1≤5 by omega)) (by decide)
theorem SmP.crs {p q r s:List Trm} (hp:SmP p) (hq:SmP q) (hr:SmP r) (hs:SmP s):fy (crs p q r s) where
 p:=by
  intro x hx
  simp only [My.crs,G5,HM,or_false] at hx
  rcases hx with rfl | rfl
  ·refine ⟨?_,by show (2:Nat)≤8; decide,fun A hA=>?_⟩
   ·exact Lv (by decide)
   simp only [G5,HM,or_false] at hA
   rcases hA with rfl | rfl
   ·exact hp.fac
   ·exact hq.fac
  ·refine ⟨?_,by show (2:Nat)≤8; decide,fun A hA=>?_⟩
   ·exact Lv (by decide)
   simp only [G5,HM,or_false] at hA
   rcases hA with rfl | rfl
   ·exact hr.fac
   ·exact hs.fac
 l:=by show (2:Nat)≤1000; decide
 s:=by
  have h1:=hp.pl2 hq
  have h2:=hr.pl2 hs
  show My.cz [p,q]+(My.cz [r,s]+0)≤20000
  omega
noncomputable def lcr (p q r s:List Trm):List Trm:=aV (aV (aF p q)++(aV (aF r s)).map iL)
theorem iu {A B:List Trm} (h:SmP A) (g:SmP B):∀ t∈aV (aF A B),t.1.length≤64:=fun t ht=>Hi ((Ex.prod (by decide) (by decide) h.e g.e).DB t ht).1 (by decide)
theorem jG {A B:List Trm} (h:SmP A) (g:SmP B):(aV (aF A B)).length≤25:=Hi (ku _) (by rw [cG]; exact J0 h.l g.l)
theorem f_lcr {p q r s:List Trm} (hp:SmP p) (hq:SmP q) (hr:SmP r) (hs:SmP s):iV [.lst ((aV (aF p q)).map av),.lst ((aV (aF r s)).map av)] (.ok (.ow ((lcr p q r s).map av))) :=
 Dy (by have:=jG hp hq; have:=jG hr hs; omega) fun t ht=>(Hy.mp ht).elim (iu hp hq t) (iu hr hs t)
theorem GJ (p q r s:List Trm):aV (oq (crs p q r s))=lcr p q r s:=by
 unfold lcr
 refine kF ?_
 rw [Gi,uV,uV,nV,nV]
 unfold oq crs
 rw [KO,KO,M3,Io,rX,eB,eB]
 simp only [mpP,G3,Jc,Kv,List.foldr_nil]
 grind
noncomputable def lc3 (a b c x y z:List Trm):List (List Trm):=[lcr b z c y,lcr c x a z,lcr a y b x]
noncomputable def Bj:Fn:=fun ds r=>∃ a b c x y z:List Trm,SmP a∧SmP b∧SmP c∧SmP x∧SmP y∧SmP z∧ds=[.tup [af a,af b,af c],.tup [af x,af y,af z]]∧r=.ok (.va (.tup ((lc3 a b c x y z).map af)))
section
local macro_rules | `(tactic| walk_at "evCa")=> `(tactic| first
 | with_reducible refine bH (F:=kK) (by assumption) (by decide) ?_
 | with_reducible refine bH (F:=iV) (by assumption) (by decide) ?_)
local macro_rules | `(tactic| walk_at "evR")=> `(tactic| first
 | refine aZ (Dn (SmP.tim (by assumption) (by assumption))) ?_
 | refine aZ (f_lcr (by assumption) (by assumption) (by assumption) (by assumption)) ?_)
theorem GK {f:Addr} {fd:FuncData} (Fu:Fun K "_law_crossed" "_law_crossed" d8 f fd) (T:Txt K mg) (h1:Cal P w K mg base 3 "_law_product" kK) (h2:Cal P w K mg base 3 "_law_less" iV):aX P w K mg base (CXE P w) 4 f fd ["_law_one","_law_other"] (spF K Bj):=by
 refine cD Fu n9 oh (by rintro ds r ⟨a,b,c,x,y,z,_,_,_,_,_,_,rfl,_⟩; rfl) (by rintro ds r ⟨a,b,c,x,y,z,_,_,_,_,_,_,_,rfl⟩; exact ⟨_,rfl⟩) fun k hq ds sl hF=>?_
 obtain ⟨a,b,c,x,y,z,ha,hb,hc,hx,hy,hz,rfl,e⟩:=hF
 injection e with e
 subst e
 show aW k _ [.va (.tup [af a,af b,af c]),.va (.tup [af x,af y,af z]),.un,.un,.un,.un,.un] _ _
 conv in (ay _)=>whnf
 walk_at "ev"
 with_reducible refine b9 hq (dI (Txt.range (by assumption)) ?_)
 walk_at "ev"
 ·exact ⟨by decide,by decide⟩
 refine ⟨fun i ρ'=>∃ s3 s4 s5 s6:Sl,ρ'=[.va (.tup [af a,af b,af c]),.va (.tup [af x,af y,af z]),.ow (((lc3 a b c x y z).take i).map af),s3,s4,s5,s6],⟨_,_,_,_,rfl⟩,?_,?_⟩
 ·rintro c' hcX hcR hcM i d ρ' hd ⟨s3,s4,s5,s6,rfl⟩
  obtain ⟨hi,rfl⟩:=fE hd
  have hi':i<3:=hi
  obtain rfl | rfl | rfl:i=0∨i=1∨i=2:=by omega
  ·walk_at "ev"
   ·exact cI (by rw [G4,HN]; omega)
   ·exact ⟨_,_,_,_,rfl⟩
  ·walk_at "ev"
   ·exact cI (by rw [G4,HN]; omega)
   ·exact ⟨_,_,_,_,rfl⟩
  ·walk_at "ev"
   ·exact cI (by rw [G4,HN]; omega)
   ·exact ⟨_,_,_,_,rfl⟩
 ·rintro ρ' ⟨s3,s4,s5,s6,rfl⟩
  rw [om]
  walk_at "evSs"
  refine tY 2 (by walk_at "at") rfl (by walk_at "sset") ?_
  walk_at "ev"
  rfl
end
end
set_option Elab.async false
set_option linter.all false
set_option maxRecDepth 100000
set_option maxHeartbeats 0
section
variable {P:Program} {w:World} {K:GW} {mg:Str→Option Value} {base:Heap}
theorem mO {n:Nat} (Ls Ms:List (List Trm)):EqO (n+4) (.tup (Ls.map af)) (.tup (Ms.map af)):=.tup fun i d e h1 h2=>by
 simp only [G9,Hj] at h1 h2
 obtain ⟨a,_,rfl⟩:=h1
 obtain ⟨b,_,rfl⟩:=h2
 exact zU a b
theorem qK (L1 L2:List (List Trm)):kW [.tup (L1.map af),.tup (L2.map af)] [.tup (L1.map af),.tup (L2.map af)]:=mH (mO L1 L1) (mH (mO L2 L2) (zV _))
theorem sO {p q r s:List Trm} (hp:SmP p) (hq:SmP q) (hr:SmP r) (hs:SmP s):(lcr p q r s).length≤20000∧∀ t∈lcr p q r s,t.1.length≤64:=by
 unfold lcr
 have h1:=jG hp hq
 have h2:=jG hr hs
 refine ⟨Hi (ku _) (by rw [HQ,G4]; omega),zD fun t ht=>?_⟩
 rcases Hy.mp ht with h | h
 ·exact iu hp hq t h
 ·obtain ⟨u,hu,rfl⟩:=HC.mp h
  exact iu hr hs u hu
structure Six (a b c x y z:List Trm):Prop where
 a:SmP a
 b:SmP b
 c:SmP c
 x:SmP x
 y:SmP y
 z:SmP z
theorem Six.lc {a b c x y z:List Trm} (h:Six a b c x y z):∀ L∈lc3 a b c x y z,L.length≤20000∧∀ t∈L,t.1.length≤64:=by
 intro L hL
 simp only [lc3,G5,HM,or_false] at hL
 rcases hL with rfl | rfl | rfl
 ·exact sO h.b h.z h.c h.y
 ·exact sO h.c h.x h.a h.z
 ·exact sO h.a h.y h.b h.x
theorem Six.tot {a b c x y z:List Trm} (h:Six a b c x y z):∀ ps∈crP a b c x y z,fy ps:=by
 intro L hL
 simp only [crP,G5,HM,or_false] at hL
 rcases hL with rfl | rfl | rfl
 ·exact SmP.crs h.b h.z h.c h.y
 ·exact SmP.crs h.c h.x h.a h.z
 ·exact SmP.crs h.a h.y h.b h.x
noncomputable def lcS (a b c x y z:List Trm):List (List D):=(lc3 a b c x y z).map fun A=>A.map av
theorem GL (a b c x y z:List Trm):((crP a b c x y z).map fun ps=>Sh.l (xx ps))=(lcS a b c x y z).map .l:=by
 unfold crP lcS lc3 xx
 simp only [G3,Jc,GJ]
theorem Six.Ek {a b c x y z:List Trm} (h:Six a b c x y z):u7 (.t ((lcS a b c x y z).map .l)):=⟨_,rfl,by show (3:Nat)≤1000; decide,fun ds hd=>by
 obtain ⟨L,hL,rfl⟩:=HC.mp hd
 rw [G4]; exact (h.lc L hL).1⟩
theorem GN {a b c x y z:List Trm} (h:Six a b c x y z):lC [.tup [af a,af b,af c],.tup [af x,af y,af z]] (.ok (.fo (.t ((lcS a b c x y z).map .l)))):=by rw [← GL]; exact f_cr2 h.tot
theorem GO {a b c x y z:List Trm} (h:Six a b c x y z):Bj [.tup [af a,af b,af c],.tup [af x,af y,af z]] (.ok (.va (.tup ((lc3 a b c x y z).map af)))):=⟨a,b,c,x,y,z,h.a,h.b,h.c,h.x,h.y,h.z,rfl,rfl⟩
theorem Bk {a b c x y z:List Trm} (h:Six a b c x y z):iW [(Sh.t ((lcS a b c x y z).map .l)).d,.tup ((lc3 a b c x y z).map af)] (.ok (.va (.bl true))):=Dz rfl h.lc
theorem DC (a b c:List Trm):mK [.tup [af a,af b,af c]] (.ok (.va (.tup [af a,af b,af c]))):=GI (Ls:=[a,b,c]) (by show (3:Nat)≤1000; decide)
noncomputable def iw:Fn:=fun ds r=>∃ a b c x y z:List Trm,Six a b c x y z∧ds=[.tup [af a,af b,af c],.tup [af x,af y,af z]]∧r=.ok (.va (.bl true))
theorem kO {a b c x y z:List Trm} (h:Six a b c x y z):iw [.tup [af a,af b,af c],.tup [af x,af y,af z]] (.ok (.va (.bl true))):=⟨a,b,c,x,y,z,h,rfl,rfl⟩
section
local macro_rules | `(tactic| walk_at "evCa")=> `(tactic| first
 | with_reducible refine bH (F:=mK) (by assumption) (by decide) ?_
 | with_reducible refine bH (F:=Bj) (by assumption) (by decide) ?_
 | with_reducible refine bH (F:=iW) (by assumption) (by decide) ?_)
local macro_rules | `(tactic| walk_at "evXC")=> `(tactic| first
 | with_reducible refine x_call (x:=GV "through_line") (F:=lC) (by assumption) (by decide) ?_
 | with_reducible refine x_call (x:=GV "meet_point") (F:=lC) (by assumption) (by decide) ?_)
local macro_rules | `(tactic| walk_at "evR")=> `(tactic| first
 | refine aZ (DC _ _ _) ?_
 | refine aZ (GO (by assumption)) ?_
 | refine aZ (Bk (by assumption)) ?_
 | refine aZ (GN (by assumption)) ?_)
local macro_rules | `(tactic| walk_at "evIf")=> `(tactic| first
 | refine s_if (Gb 5 (.s rfl (.s rfl (.s rfl (.s rfl (.s rfl (.z .nil)))))) (by walk_at "sset") ?_))
theorem DE {f:Addr} {fd:FuncData} (Fu:Fun K "_law_good" "_law_good" iT f fd) (T:Txt K mg) (h1:Cal P w K mg base 6 "through_line" lC) (h2:Cal P w K mg base 6 "meet_point" lC)
 (h3:Cal P w K mg base 1 "_law_copy" mK) (h4:Cal P w K mg base 4 "_law_crossed" Bj) (h5:Cal P w K mg base 3 "_law_same_three" iW) (h6:CS P w K mg base 1 "_law_spoil" u7):aX P w K mg base (CXE P w) 7 f fd ["_law_one","_law_other"] (spF K iw):=by
 refine cD Fu w6 w9 (by rintro ds r ⟨a,b,c,x,y,z,_,rfl,_⟩; rfl) (by rintro ds r ⟨a,b,c,x,y,z,_,_,rfl⟩; exact ⟨_,rfl⟩) fun k hq ds sl hF=>?_
 obtain ⟨a,b,c,x,y,z,h,rfl,e⟩:=hF
 injection e with e
 subst e
 show aW k _ [.va (.tup [af a,af b,af c]),.va (.tup [af x,af y,af z]),.un,.un,.un,.un] _ _
 conv in (ay _)=>whnf
 walk_at "ev"
 refine tY 2 (by walk_at "at") rfl (by walk_at "sset") ?_
 with_reducible refine b9 hq (dI (Txt.range (by assumption)) ?_)
 walk_at "ev"
 ·exact ⟨by decide,by decide⟩
 refine ⟨fun i ρ'=>∃ s4:Sl,ρ'=[.va (.tup [af a,af b,af c]),.va (.tup [af x,af y,af z]),.va (.lst [.tup [af a,af b,af c],.tup [af x,af y,af z]]),.va (.tup ((lc3 a b c x y z).map af)),s4,.un],⟨_,rfl⟩,?_,?_⟩
 ·rintro c' hcX hcR hcM i d ρ' hd ⟨s4,rfl⟩
  obtain ⟨hi,rfl⟩:=fE hd
  walk_at "ev"
  refine uQ h6 (by decide) (by walk_at "at") (.s rfl (.s rfl (.s rfl (.s rfl (.s rfl (.z .nil)))))) h.Ek ?_
  walk_at "ev"
  refine qu (qK [a,b,c] [x,y,z]) ?_
  walk_at "ev"
  refine uQ h6 (by decide) (by walk_at "at") (.s rfl (.s rfl (.s rfl (.s rfl (.s rfl (.z .nil)))))) h.Ek ?_
  walk_at "ev"
  exact ⟨_,rfl⟩
 ·rintro ρ' ⟨s4,rfl⟩
  walk_at "ev"
  refine qu (qK [a,b,c] [x,y,z]) ?_
  rfl
end
end
set_option Elab.async false
set_option linter.all false
set_option maxRecDepth 100000
set_option maxHeartbeats 0
section
variable {P:Program} {w:World} {K:GW} {mg:Str→Option Value} {base:Heap}
noncomputable def mP (ns:List Int) (k:Nat):Int:=if k<ns.length then ns.getD k 0 % 2147483647 else 0
noncomputable def mQ:Fn:=fun ds r=>∃ (ns:List Int) (k:Nat),ds=[.lst (ns.map .int),.int (k:Int)]∧r=.ok (.va (.int (mP ns k)))
theorem GP (ns:List Int) (k:Nat):mQ [.lst (ns.map .int),.int (k:Int)] (.ok (.va (.int (mP ns k)))):=⟨ns,k,rfl,rfl⟩
theorem GQ {ns:List Int} {k:Nat} (h:k<ns.length):atI (ns.map D.int) (k:Int)=some (D.int (ns.getD k 0)):=by
 rw [gI (by omega) (by simp; omega),Ij,G9,HD h,Ir,HD h]
 rfl
theorem DF (ns:List Int):mQ [.lst (ns.map .int),.int 0] (.ok (.va (.int (mP ns 0)))):=GP ns 0
theorem DG {f:Addr} {fd:FuncData} (Fu:Fun K "_law_cell" "_law_cell" iP f fd) (T:Txt K mg):aX P w K mg base (CXE P w) 1 f fd ["_law_script","_law_k"] (spF K mQ):=by
 refine cD Fu wU wV (by rintro ds r ⟨ns,k,rfl,_⟩; rfl) (by rintro ds r ⟨ns,k,_,rfl⟩; exact ⟨_,rfl⟩) fun c hq ds sl hF=>?_
 obtain ⟨ns,k,rfl,e⟩:=hF
 injection e with e
 subst e
 show aW c _ [.va (.lst (ns.map .int)),.va (.int (k:Int))] _ _
 conv in (ay _)=>whnf
 walk_at "ev"
 ·have hk:k<ns.length:=by simp only [G4] at *; omega
  refine tN (GQ hk) ?_
  walk_at "ev"
  show Sl.va _=Sl.va _
  unfold mP
  rw [if_pos hk]
 ·have hk:¬ k<ns.length:=by simp only [G4] at *; omega
  show Sl.va _=Sl.va _
  unfold mP
  rw [if_neg hk]
theorem iX (cs:List Int) (o:Int) {k:Int} (hk:k.natAbs<5):SmP (aV (iU cs o k)) where
 l:=Hi (ku _) (kN ..)
 e:=Ex.DB fun t ht=>⟨Hi (jF cs o k hk t ht).1 (by decide),(jF cs o k hk t ht).2.1⟩
 b:=Bn.DB (fun t ht=>(jF cs o k hk t ht).2.2) (Jz (kN ..) (by decide))
theorem gn:SmP []:=⟨HF _,(fun t ht=>by cases ht),fun t ht=>by cases ht⟩
theorem Bl:SmP [([],1)]:=⟨by decide,(fun t ht=>by cases Ho.mp ht; exact ⟨HF _,fun x hx=>by cases hx⟩),fun t ht=>by cases Ho.mp ht; exact Lv (by decide)⟩
noncomputable def th (cs:List Int) (o:Int) (k:Nat):List Trm:=aV (iU cs o (k:Int))
theorem GR {cs:List Int} {o:Int} (ho:o.natAbs<10) (hl:cs.length≤1000):A9 [.lst (cs.map .int),.int o] (.ok (.va (.tup [af (th cs o 0),af (th cs o 1),af (th cs o 2)]))):=⟨cs,o,ho,hl,rfl,rfl⟩
section
variable {a b c x y z:List Trm}
theorem DH (ha:SmP a) (hb:SmP b) (hx:SmP x) (hy:SmP y) (hz:SmP z):iw [.tup [af a,af b,.lst []],.tup [af x,af y,af z]] (.ok (.va (.bl true))):=kO ⟨ha,hb,gn,hx,hy,hz⟩
theorem DI (hx:SmP x) (hy:SmP y) (hz:SmP z) (ha:SmP a) (hb:SmP b):iw [.tup [af x,af y,af z],.tup [af a,af b,.lst []]] (.ok (.va (.bl true))):=kO ⟨hx,hy,hz,ha,hb,gn⟩
theorem DJ (hx:SmP x) (hy:SmP y) (hz:SmP z):iw [.tup [.lst [.tup [.tup [],.int 1]],.lst [],.lst []],.tup [af x,af y,af z]] (.ok (.va (.bl true))):=kO ⟨Bl,gn,gn,hx,hy,hz⟩
theorem DK (ha:SmP a) (hb:SmP b):iw [.tup [.lst [.tup [.tup [],.int 1]],.lst [],.lst []],.tup [af a,af b,.lst []]] (.ok (.va (.bl true))):=kO ⟨Bl,gn,gn,ha,hb,gn⟩
end
theorem kE {α:Type} (xs:List α) (a b:Nat):(EV.cutD xs (some (a:Int)) (some (b:Int))).length≤b - a:=by
 unfold EV.cutD HT.sIx
 simp only [show ¬ ((a:Int)<0) by omega,show ¬ ((b:Int)<0) by omega,if_false,HN,LK,Ij]
 omega
section
local macro_rules | `(tactic| walk_at "evR")=> `(tactic| first
 | with_reducible refine aZ (GR (by decide) (by assumption)) ?_
 | with_reducible refine aZ (DF _) ?_
 | with_reducible refine aZ (kO ⟨by assumption,by assumption,by assumption,by assumption,by assumption,by assumption⟩) ?_
 | with_reducible refine aZ (DH (by assumption) (by assumption) (by assumption) (by assumption) (by assumption)) ?_
 | with_reducible refine aZ (DI (by assumption) (by assumption) (by assumption) (by assumption) (by assumption)) ?_
 | with_reducible refine aZ (DJ (by assumption) (by assumption) (by assumption)) ?_
 | with_reducible refine aZ (DK (by assumption) (by assumption)) ?_)
local macro_rules | `(tactic| walk_at "evCa")=> `(tactic| first
 | with_reducible refine bH (F:=A9) (by assumption) (by decide) ?_
 | with_reducible refine bH (F:=mQ) (by assumption) (by decide) ?_
 | with_reducible refine bH (F:=iw) (by assumption) (by decide) ?_)
theorem GS {f:Addr} {fd:FuncData} (Fu:Fun K "law" "law" sF f fd) (T:Txt K mg) (h1:Cal P w K mg base 1 "_law_cell" mQ) (h2:Cal P w K mg base 3 "_law_three" A9) (h3:Cal P w K mg base 7 "_law_good" iw):aX P w K mg base (CXE P w) 8 f fd ["_law_script"] (spF K yS):=by
 refine cD Fu Gq Gr (by rintro ds r ⟨ns,_,rfl,_⟩; rfl) (by rintro ds r ⟨ns,_,_,rfl⟩; exact ⟨_,rfl⟩) fun c hq ds sl hF=>?_
 obtain ⟨ns,hl,rfl,e⟩:=hF
 injection e with e
 subst e
 show aW c _ [.va (.lst (ns.map D.int)),.un,.un,.un,.un,.un] _ _
 conv in (ay _)=>whnf
 refine c8 ?_
 generalize hG:(fun ρ'=>aW c _ ρ' _ _)=G
 walk_at "ev"
 ·have:(EV.cutD (ns.map D.int) (some 2) (some 63)).length≤61:=kE _ 2 63
  exact sz9 (by simp only [JU]; omega)
 subst hG
 show aW c _ [.va (.lst (ns.map D.int)),.ow (EV.cutD (ns.map D.int) (some 2) (some 63)++[.int 5]),.un,.un,.un,.un] _ _
 have hcs:EV.cutD (ns.map D.int) (some 2) (some 63)++[D.int 5]=(EV.cutD ns (some 2) (some 63)++[5]).map .int:=by rw [gH,HB]; rfl
 have hcl:(EV.cutD ns (some 2) (some 63)++[5]).length≤1000:=by
  have:(EV.cutD ns (some 2) (some 63)).length≤61:=kE _ 2 63
  rw [HQ,JU]; omega
 rw [hcs]
 generalize EV.cutD ns (some 2) (some 63)++[5]=cs at hcl ⊢
 refine ri 1 (by walk_at "at") rfl (by walk_at "sset") ?_
 have a0:SmP (th cs 0 0):=iX cs 0 (by decide)
 have a1:SmP (th cs 0 1):=iX cs 0 (by decide)
 have a2:SmP (th cs 0 2):=iX cs 0 (by decide)
 have b0:SmP (th cs 1 0):=iX cs 1 (by decide)
 have b1:SmP (th cs 1 1):=iX cs 1 (by decide)
 have b2:SmP (th cs 1 2):=iX cs 1 (by decide)
 iterate 30 walk_at "ev1"
 generalize th cs 0 0=p0 at a0 ⊢
 generalize th cs 0 1=p1 at a1 ⊢
 generalize th cs 0 2=p2 at a2 ⊢
 generalize th cs 1 0=q0 at b0 ⊢
 generalize th cs 1 1=q1 at b1 ⊢
 generalize th cs 1 2=q2 at b2 ⊢
 iterate 10 walk_at "ev1"
 generalize mP ns 0 % 8=kd
 walk_at "ev"
 all_goals rfl
end
end
set_option Elab.async false
set_option linter.all false
set_option maxRecDepth 100000
set_option maxHeartbeats 0
section
variable {P:Program} {w:World} {K:GW} {mg:Str→Option Value} {base h:Heap}
theorem DL {fa:Addr} (hfa:mg "law"=some (.ref fa)) (T:Txt K mg) (xPLACES:∃ tk:Tok,mg "PLACES"=some (.int 6 tk))
 (D2:aD K mg "trimmed" (top 2))
 (D3:aD K mg "greatest_powers" (top 3))
 (D4:aD K mg "key_of" (top 4))
 (D5:aD K mg "powers_of" (top 5))
 (D6:aD K mg "packed" (top 6))
 (D7:aD K mg "unpacked" (top 7))
 (D8:aD K mg "add_products" (top 8))
 (D10:aD K mg "width_of" (top 10))
 (D11:aD K mg "add_part" (top 11))
 (D12:aD K mg "poly_total" (top 12))
 (D14:aD K mg "crossed" (top 14))
 (D16:aD K mg "through_line" (top 16))
 (D17:aD K mg "meet_point" (top 17))
 (D19:aD K mg "_law_whole" (top 19))
 (D20:aD K mg "_law_cell" (top 20))
 (D21:aD K mg "_law_thing" (top 21))
 (D22:aD K mg "_law_trimmed" (top 22))
 (D23:aD K mg "_law_sum" (top 23))
 (D24:aD K mg "_law_product" (top 24))
 (D25:aD K mg "_law_same" (top 25))
 (D26:aD K mg "_law_less" (top 26))
 (D27:aD K mg "_law_three" (top 27))
 (D28:aD K mg "_law_small_term" (top 28))
 (D29:aD K mg "_law_same_three" (top 29))
 (D30:aD K mg "_law_copy" (top 30))
 (D31:aD K mg "_law_spoil" (top 31))
 (D32:aD K mg "_law_crossed" (top 32))
 (D33:aD K mg "_law_good" (top 33))
 (D34:aD K mg "law" (top 34))
 : ∃ fd:FuncData,(∀ (s:Shared) (u:Value),BindsTo s fd ⟨[u],[]⟩ [("_law_script",u)])∧∀ base:Heap,K.In base→base.Ns mainGlobals mg→aX P w K mg base (CXE P w) 20 fa fd ["_law_script"] (spF K yS):=by
 obtain ⟨f2,fd2,m2,Fu2⟩:=D2
 obtain ⟨f3,fd3,m3,Fu3⟩:=D3
 obtain ⟨f4,fd4,m4,Fu4⟩:=D4
 obtain ⟨f5,fd5,m5,Fu5⟩:=D5
 obtain ⟨f6,fd6,m6,Fu6⟩:=D6
 obtain ⟨f7,fd7,m7,Fu7⟩:=D7
 obtain ⟨f8,fd8,m8,Fu8⟩:=D8
 obtain ⟨f10,fd10,m10,Fu10⟩:=D10
 obtain ⟨f11,fd11,m11,Fu11⟩:=D11
 obtain ⟨f12,fd12,m12,Fu12⟩:=D12
 obtain ⟨f14,fd14,m14,Fu14⟩:=D14
 obtain ⟨f16,fd16,m16,Fu16⟩:=D16
 obtain ⟨f17,fd17,m17,Fu17⟩:=D17
 obtain ⟨f19,fd19,m19,Fu19⟩:=D19
 obtain ⟨f20,fd20,m20,Fu20⟩:=D20
 obtain ⟨f21,fd21,m21,Fu21⟩:=D21
 obtain ⟨f22,fd22,m22,Fu22⟩:=D22
 obtain ⟨f23,fd23,m23,Fu23⟩:=D23
 obtain ⟨f24,fd24,m24,Fu24⟩:=D24
 obtain ⟨f25,fd25,m25,Fu25⟩:=D25
 obtain ⟨f26,fd26,m26,Fu26⟩:=D26
 obtain ⟨f27,fd27,m27,Fu27⟩:=D27
 obtain ⟨f28,fd28,m28,Fu28⟩:=D28
 obtain ⟨f29,fd29,m29,Fu29⟩:=D29
 obtain ⟨f30,fd30,m30,Fu30⟩:=D30
 obtain ⟨f31,fd31,m31,Fu31⟩:=D31
 obtain ⟨f32,fd32,m32,Fu32⟩:=D32
 obtain ⟨f33,fd33,m33,Fu33⟩:=D33
 obtain ⟨f34,fd34,m34,Fu34⟩:=D34
 have e:=hfa.symm.trans m34
 cases e
 refine ⟨fd34,?_,fun base _ _=>?_⟩
 ·obtain ⟨oc,od,kV,doc,pm,an,cdv,ct,osl,rfl,lk,hcd⟩:=Fu34.ex
  exact fun s u=>.of_eq rfl
 have C2:Cal P w K mg base 1 "trimmed" (ic):=aY (ps:=["powers"]) m2 Fu2 (C1 Fu2 T) (fun _ _ _ _ _ _ us hl=>by obtain ⟨a,rfl⟩:=kZ us hl; rfl)
 have C3:Cal P w K mg base 1 "greatest_powers" (kJ):=aY (ps:=["some"]) m3 Fu3 (AE Fu3 T xPLACES) (fun _ _ _ _ _ _ us hl=>by obtain ⟨a,rfl⟩:=kZ us hl; rfl)
 have C4:Cal P w K mg base 1 "key_of" (AH):=aY (ps:=["powers","width"]) m4 Fu4 (Gu Fu4 T xPLACES) (fun _ _ _ _ _ _ us hl=>by obtain ⟨a,b,rfl⟩:=gG us hl; rfl)
 have C5:Cal P w K mg base 2 "powers_of" (qG):=aY (ps:=["key","width"]) m5 Fu5 (Dj Fu5 T xPLACES C2) (fun _ _ _ _ _ _ us hl=>by obtain ⟨a,b,rfl⟩:=gG us hl; rfl)
 have C6:Cal P w K mg base 2 "packed" (qH):=aY (ps:=["some","width"]) m6 Fu6 (Dk Fu6 T C4) (fun _ _ _ _ _ _ us hl=>by obtain ⟨a,b,rfl⟩:=gG us hl; rfl)
 have C7:Cal P w K mg base 3 "unpacked" (AJ):=aY (ps:=["total","width"]) m7 Fu7 (Gy Fu7 T C5) (fun _ _ _ _ _ _ us hl=>by obtain ⟨a,b,rfl⟩:=gG us hl; rfl)
 have C8:vW P w K mg base 1 "add_products" (Dl):=uP (ps:=["total","left","right"]) m8 Fu8 (Gx Fu8 T) (fun _ _ _ _ _ _ us hl=>by obtain ⟨a,b,c,rfl⟩:=Cd us hl; rfl)
 have C10:Cal P w K mg base 2 "width_of" (AY):=aY (ps:=["parts"]) m10 Fu10 (Gz Fu10 T C3) (fun _ _ _ _ _ _ us hl=>by obtain ⟨a,rfl⟩:=kZ us hl; rfl)
 have C11:vW P w K mg base 3 "add_part" (ou):=uP (ps:=["whole","part","width"]) m11 Fu11 (A4 Fu11 T C6 C8) (fun _ _ _ _ _ _ us hl=>by obtain ⟨a,b,c,rfl⟩:=Cd us hl; rfl)
 have C12:Cal P w K mg base 4 "poly_total" (sM):=aY (ps:=["parts"]) m12 Fu12 (GC Fu12 T C10 C11 C7) (fun _ _ _ _ _ _ us hl=>by obtain ⟨a,rfl⟩:=kZ us hl; rfl)
 have C14:Cal P w K mg base 5 "crossed" (Fcr P w K mg base):=aY (ps:=["total","one","other"]) m14 Fu14 (ok_cr Fu14) (fun _ _ _ _ _ _ us hl=>by obtain ⟨a,b,c,rfl⟩:=Cd us hl; rfl)
 have C16:Cal P w K mg base 6 "through_line" (lC):=aY (ps:=["i","j"]) m16 Fu16 (GD Fu16 C12 C14) (fun _ _ _ _ _ _ us hl=>by obtain ⟨a,b,rfl⟩:=gG us hl; rfl)
 have C17:Cal P w K mg base 6 "meet_point" (lC):=aY (ps:=["l","m"]) m17 Fu17 (Dw Fu17 C12 C14) (fun _ _ _ _ _ _ us hl=>by obtain ⟨a,b,rfl⟩:=gG us hl; rfl)
 have C19:Cal P w K mg base 1 "_law_whole" (kH):=aY (ps:=["_law_found"]) m19 Fu19 (Au Fu19 T) (fun _ _ _ _ _ _ us hl=>by obtain ⟨a,rfl⟩:=kZ us hl; rfl)
 have C20:Cal P w K mg base 1 "_law_cell" (mQ):=aY (ps:=["_law_script","_law_k"]) m20 Fu20 (DG Fu20 T) (fun _ _ _ _ _ _ us hl=>by obtain ⟨a,b,rfl⟩:=gG us hl; rfl)
 have C21:Cal P w K mg base 1 "_law_thing" (kI):=aY (ps:=["_law_cell_here","_law_k","_law_many"]) m21 Fu21 (Ax Fu21 T) (fun _ _ _ _ _ _ us hl=>by obtain ⟨a,b,c,rfl⟩:=Cd us hl; rfl)
 have C22:Cal P w K mg base 1 "_law_trimmed" (ic):=aY (ps:=["_law_powers"]) m22 Fu22 (Az Fu22 T) (fun _ _ _ _ _ _ us hl=>by obtain ⟨a,rfl⟩:=kZ us hl; rfl)
 have C23:Cal P w K mg base 2 "_law_sum" (oj):=aY (ps:=["_law_terms"]) m23 Fu23 (Dc Fu23 T C22) (fun _ _ _ _ _ _ us hl=>by obtain ⟨a,rfl⟩:=kZ us hl; rfl)
 have C24:Cal P w K mg base 3 "_law_product" (kK):=aY (ps:=["_law_one","_law_other"]) m24 Fu24 (AO Fu24 T C23) (fun _ _ _ _ _ _ us hl=>by obtain ⟨a,b,rfl⟩:=gG us hl; rfl)
 have C25:Cal P w K mg base 2 "_law_same" (qF):=aY (ps:=["_law_found","_law_due"]) m25 Fu25 (De Fu25 T C19) (fun _ _ _ _ _ _ us hl=>by obtain ⟨a,b,rfl⟩:=gG us hl; rfl)
 have C26:Cal P w K mg base 3 "_law_less" (iV):=aY (ps:=["_law_one","_law_other"]) m26 Fu26 (Bb Fu26 T C23) (fun _ _ _ _ _ _ us hl=>by obtain ⟨a,b,rfl⟩:=gG us hl; rfl)
 have C28:Cal P w K mg base 2 "_law_small_term" (A6):=aY (ps:=["_law_cell_here"]) m28 Fu28 (GH Fu28 T C21) (fun _ _ _ _ _ _ us hl=>by obtain ⟨a,rfl⟩:=kZ us hl; rfl)
 have C27:Cal P w K mg base 3 "_law_three" (A9):=aY (ps:=["_law_cells","_law_offset"]) m27 Fu27 (Ba Fu27 T C28 C23) (fun _ _ _ _ _ _ us hl=>by obtain ⟨a,b,rfl⟩:=gG us hl; rfl)
 have C29:Cal P w K mg base 3 "_law_same_three" (iW):=aY (ps:=["_law_found","_law_due"]) m29 Fu29 (Bc Fu29 T C25) (fun _ _ _ _ _ _ us hl=>by obtain ⟨a,b,rfl⟩:=gG us hl; rfl)
 have C30:Cal P w K mg base 1 "_law_copy" (mK):=aY (ps:=["_law_some"]) m30 Fu30 (DA Fu30 T) (fun _ _ _ _ _ _ us hl=>by obtain ⟨a,rfl⟩:=kZ us hl; rfl)
 have C31:CS P w K mg base 1 "_law_spoil" (u7):=CZ (ps:=["_law_found"]) m31 Fu31 (Bh Fu31) (fun _ _ _ _ _ _ us hl=>by obtain ⟨a,rfl⟩:=kZ us hl; rfl)
 have C32:Cal P w K mg base 4 "_law_crossed" (Bj):=aY (ps:=["_law_one","_law_other"]) m32 Fu32 (GK Fu32 T C24 C26) (fun _ _ _ _ _ _ us hl=>by obtain ⟨a,b,rfl⟩:=gG us hl; rfl)
 have C33:Cal P w K mg base 7 "_law_good" (iw):=aY (ps:=["_law_one","_law_other"]) m33 Fu33 (DE Fu33 T C16 C17 C30 C32 C29 C31) (fun _ _ _ _ _ _ us hl=>by obtain ⟨a,b,rfl⟩:=gG us hl; rfl)
 exact (GS Fu34 T C20 C27 C33).mono (by decide)
end
end My
open PySem PySem.W PyProof.Rows
set_option maxRecDepth 100000 in
set_option maxHeartbeats 0 in
theorem PySem.Challenge.cw_everydraw_k13_raw_rules_of_lines_and_mee_holds : PySem.Challenge.rw_everydraw_k13_raw_rules_of_lines_and_mee.Holds := by
 w_on; o_law; k_head; (case hw=>w_witness2)
 k_fill
 refine EV.walk (k:=20) (l:=PySem.Challenge.rw_everydraw_k13_raw_rules_of_lines_and_mee) (by decide) rfl rfl (fun w h Y=>PySem.W.kIn_of Y) ?F
 case F =>
  intro w mg fa h KX G hmg
  have D2:EV.aD (L2.KOf KX) mg (Str.ofString "trimmed") (My.top 2):=by
   dsimp only [L2.KOf]
   refine' EV.aQ KX G ?a ?l ?c ?k
   (case a=>k_is); (case l=>k_is); (case c=>k_is); (case k=>k_is)
  have D3:EV.aD (L2.KOf KX) mg (Str.ofString "greatest_powers") (My.top 3):=by
   dsimp only [L2.KOf]
   refine' EV.aQ KX G ?a ?l ?c ?k
   (case a=>k_is); (case l=>k_is); (case c=>k_is); (case k=>k_is)
  have D4:EV.aD (L2.KOf KX) mg (Str.ofString "key_of") (My.top 4):=by
   dsimp only [L2.KOf]
   refine' EV.aQ KX G ?a ?l ?c ?k
   (case a=>k_is); (case l=>k_is); (case c=>k_is); (case k=>k_is)
  have D5:EV.aD (L2.KOf KX) mg (Str.ofString "powers_of") (My.top 5):=by
   dsimp only [L2.KOf]
   refine' EV.aQ KX G ?a ?l ?c ?k
   (case a=>k_is); (case l=>k_is); (case c=>k_is); (case k=>k_is)
  have D6:EV.aD (L2.KOf KX) mg (Str.ofString "packed") (My.top 6):=by
   dsimp only [L2.KOf]
   refine' EV.aQ KX G ?a ?l ?c ?k
   (case a=>k_is); (case l=>k_is); (case c=>k_is); (case k=>k_is)
  have D7:EV.aD (L2.KOf KX) mg (Str.ofString "unpacked") (My.top 7):=by
   dsimp only [L2.KOf]
   refine' EV.aQ KX G ?a ?l ?c ?k
   (case a=>k_is); (case l=>k_is); (case c=>k_is); (case k=>k_is)
  have D8:EV.aD (L2.KOf KX) mg (Str.ofString "add_products") (My.top 8):=by
   dsimp only [L2.KOf]
   refine' EV.aQ KX G ?a ?l ?c ?k
   (case a=>k_is); (case l=>k_is); (case c=>k_is); (case k=>k_is)
  have D10:EV.aD (L2.KOf KX) mg (Str.ofString "width_of") (My.top 10):=by
   dsimp only [L2.KOf]
   refine' EV.aQ KX G ?a ?l ?c ?k
   (case a=>k_is); (case l=>k_is); (case c=>k_is); (case k=>k_is)
  have D11:EV.aD (L2.KOf KX) mg (Str.ofString "add_part") (My.top 11):=by
   dsimp only [L2.KOf]
   refine' EV.aQ KX G ?a ?l ?c ?k
   (case a=>k_is); (case l=>k_is); (case c=>k_is); (case k=>k_is)
  have D12:EV.aD (L2.KOf KX) mg (Str.ofString "poly_total") (My.top 12):=by
   dsimp only [L2.KOf]
   refine' EV.aQ KX G ?a ?l ?c ?k
   (case a=>k_is); (case l=>k_is); (case c=>k_is); (case k=>k_is)
  have D14:EV.aD (L2.KOf KX) mg (Str.ofString "crossed") (My.top 14):=by
   dsimp only [L2.KOf]
   refine' EV.aQ KX G ?a ?l ?c ?k
   (case a=>k_is); (case l=>k_is); (case c=>k_is); (case k=>k_is)
  have D16:EV.aD (L2.KOf KX) mg (Str.ofString "through_line") (My.top 16):=by
   dsimp only [L2.KOf]
   refine' EV.aQ KX G ?a ?l ?c ?k
   (case a=>k_is); (case l=>k_is); (case c=>k_is); (case k=>k_is)
  have D17:EV.aD (L2.KOf KX) mg (Str.ofString "meet_point") (My.top 17):=by
   dsimp only [L2.KOf]
   refine' EV.aQ KX G ?a ?l ?c ?k
   (case a=>k_is); (case l=>k_is); (case c=>k_is); (case k=>k_is)
  have D19:EV.aD (L2.KOf KX) mg (Str.ofString "_law_whole") (My.top 19):=by
   dsimp only [L2.KOf]
   refine' EV.aQ KX G ?a ?l ?c ?k
   (case a=>k_is); (case l=>k_is); (case c=>k_is); (case k=>k_is)
  have D20:EV.aD (L2.KOf KX) mg (Str.ofString "_law_cell") (My.top 20):=by
   dsimp only [L2.KOf]
   refine' EV.aQ KX G ?a ?l ?c ?k
   (case a=>k_is); (case l=>k_is); (case c=>k_is); (case k=>k_is)
  have D21:EV.aD (L2.KOf KX) mg (Str.ofString "_law_thing") (My.top 21):=by
   dsimp only [L2.KOf]
   refine' EV.aQ KX G ?a ?l ?c ?k
   (case a=>k_is); (case l=>k_is); (case c=>k_is); (case k=>k_is)
  have D22:EV.aD (L2.KOf KX) mg (Str.ofString "_law_trimmed") (My.top 22):=by
   dsimp only [L2.KOf]
   refine' EV.aQ KX G ?a ?l ?c ?k
   (case a=>k_is); (case l=>k_is); (case c=>k_is); (case k=>k_is)
  have D23:EV.aD (L2.KOf KX) mg (Str.ofString "_law_sum") (My.top 23):=by
   dsimp only [L2.KOf]
   refine' EV.aQ KX G ?a ?l ?c ?k
   (case a=>k_is); (case l=>k_is); (case c=>k_is); (case k=>k_is)
  have D24:EV.aD (L2.KOf KX) mg (Str.ofString "_law_product") (My.top 24):=by
   dsimp only [L2.KOf]
   refine' EV.aQ KX G ?a ?l ?c ?k
   (case a=>k_is); (case l=>k_is); (case c=>k_is); (case k=>k_is)
  have D25:EV.aD (L2.KOf KX) mg (Str.ofString "_law_same") (My.top 25):=by
   dsimp only [L2.KOf]
   refine' EV.aQ KX G ?a ?l ?c ?k
   (case a=>k_is); (case l=>k_is); (case c=>k_is); (case k=>k_is)
  have D26:EV.aD (L2.KOf KX) mg (Str.ofString "_law_less") (My.top 26):=by
   dsimp only [L2.KOf]
   refine' EV.aQ KX G ?a ?l ?c ?k
   (case a=>k_is); (case l=>k_is); (case c=>k_is); (case k=>k_is)
  have D27:EV.aD (L2.KOf KX) mg (Str.ofString "_law_three") (My.top 27):=by
   dsimp only [L2.KOf]
   refine' EV.aQ KX G ?a ?l ?c ?k
   (case a=>k_is); (case l=>k_is); (case c=>k_is); (case k=>k_is)
  have D28:EV.aD (L2.KOf KX) mg (Str.ofString "_law_small_term") (My.top 28):=by
   dsimp only [L2.KOf]
   refine' EV.aQ KX G ?a ?l ?c ?k
   (case a=>k_is); (case l=>k_is); (case c=>k_is); (case k=>k_is)
  have D29:EV.aD (L2.KOf KX) mg (Str.ofString "_law_same_three") (My.top 29):=by
   dsimp only [L2.KOf]
   refine' EV.aQ KX G ?a ?l ?c ?k
   (case a=>k_is); (case l=>k_is); (case c=>k_is); (case k=>k_is)
  have D30:EV.aD (L2.KOf KX) mg (Str.ofString "_law_copy") (My.top 30):=by
   dsimp only [L2.KOf]
   refine' EV.aQ KX G ?a ?l ?c ?k
   (case a=>k_is); (case l=>k_is); (case c=>k_is); (case k=>k_is)
  have D31:EV.aD (L2.KOf KX) mg (Str.ofString "_law_spoil") (My.top 31):=by
   dsimp only [L2.KOf]
   refine' EV.aQ KX G ?a ?l ?c ?k
   (case a=>k_is); (case l=>k_is); (case c=>k_is); (case k=>k_is)
  have D32:EV.aD (L2.KOf KX) mg (Str.ofString "_law_crossed") (My.top 32):=by
   dsimp only [L2.KOf]
   refine' EV.aQ KX G ?a ?l ?c ?k
   (case a=>k_is); (case l=>k_is); (case c=>k_is); (case k=>k_is)
  have D33:EV.aD (L2.KOf KX) mg (Str.ofString "_law_good") (My.top 33):=by
   dsimp only [L2.KOf]
   refine' EV.aQ KX G ?a ?l ?c ?k
   (case a=>k_is); (case l=>k_is); (case c=>k_is); (case k=>k_is)
  have D34:EV.aD (L2.KOf KX) mg (Str.ofString "law") (My.top 34):=by
   dsimp only [L2.KOf]
   refine' EV.aQ KX G ?a ?l ?c ?k
   (case a=>k_is); (case l=>k_is); (case c=>k_is); (case k=>k_is)
  have T:EV.Txt (L2.KOf KX) mg:=by
   dsimp only [L2.KOf]
   refine' EV.FD KX G ?z1 ?z2 ?z3 ?z4 ?z5 ?z6 ?z7 ?z8 ?z9 ?z10 ?z11 ?z12 ?z13 ?z14 ?z15 ?z16 ?z17 ?sib
   (case z1=>k_is)
   (case z2=>k_is)
   (case z3=>k_is)
   (case z4=>k_is)
   (case z5=>k_is)
   (case z6=>k_is)
   (case z7=>k_is)
   (case z8=>k_is)
   (case z9=>k_is)
   (case z10=>k_is)
   (case z11=>k_is)
   (case z12=>k_is)
   (case z13=>k_is)
   (case z14=>k_is)
   (case z15=>k_is)
   (case z16=>k_is)
   (case z17=>k_is)
   (case sib=>k_is)
  have xPLACES:∃ tk:Tok,mg (Str.ofString "PLACES")=some (.int 6 tk):=by
   refine' EV.int_mk KX G ?a
   (case a=>k_is)
  exact My.DL hmg T xPLACES D2 D3 D4 D5 D6 D7 D8 D10 D11 D12 D14 D16 D17 D19 D20 D21 D22 D23 D24 D25 D26 D27 D28 D29 D30 D31 D32 D33 D34
#print axioms PySem.Challenge.cw_everydraw_k13_raw_rules_of_lines_and_mee_holds
