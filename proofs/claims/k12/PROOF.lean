import PyProof.Rows.All
import Wide.All
import OpenK.AllK
import Wide.FinOn
import Lean
import PyProof.EqAt
import PyProof.EqKinds
import PyProof.TupleCall
import KE.KTryMore
import PyProof.NeKinds
import PyProof.DictItemsLoops
import PyProof.Rows.SortRunsK
import PyProof.Rows.SortRev
import PyProof.Tail
import PyProof.CollectIter
import PyProof.WalkInts
import PyProof.SumWalkG
import PyProof.SeqI3
import PyProof.EnumFor
import PyProof.EnumMake
import PyProof.Draws
import PyProof.Rows.Range3
import PyProof.EnumIter
import PySem.Challenge.RW_everydraw_k12_raw_rules_of_points
namespace EV
theorem z2 {α β} {P:α→β→Prop} {G:Prop} (h:∃ a b,P a b) (k:∀ a b,P a b→G):G:=h.elim fun a h=>h.elim (k a)
theorem z3 {α β γ} {P:α→β→ γ →Prop} {G:Prop} (h:∃ a b c,P a b c) (k:∀ a b c,P a b c→G):G:=h.elim fun a h=>z2 h (k a)
theorem z4 {α β γ δ} {P:α→β→ γ → δ →Prop} {G:Prop} (h:∃ a b c d,P a b c d) (k:∀ a b c d,P a b c d→G):G:=h.elim fun a h=>z3 h (k a)
theorem z5 {α β γ δ ε} {P:α→β→ γ → δ → ε →Prop} {G:Prop} (h:∃ a b c d e,P a b c d e) (k:∀ a b c d e,P a b c d e→G):G:=h.elim fun a h=>z4 h (k a)
theorem w2 {a b G:Prop} (h:a∧b) (k:a→b→G):G:=k h.1 h.2
theorem w3 {a b c G:Prop} (h:a∧b∧c) (k:a→b→c→G):G:=w2 h.2 (k h.1)
theorem w4 {a b c d G:Prop} (h:a∧b∧c∧d) (k:a→b→c→d→G):G:=w3 h.2 (k h.1)
theorem w5 {a b c d e G:Prop} (h:a∧b∧c∧d∧e) (k:a→b→c→d→e→G):G:=w4 h.2 (k h.1)
theorem w6 {a b c d e f G:Prop} (h:a∧b∧c∧d∧e∧f) (k:a→b→c→d→e→f→G):G:=w5 h.2 (k h.1)
theorem w7 {a b c d e f g G:Prop} (h:a∧b∧c∧d∧e∧f∧g) (k:a→b→c→d→e→f→g→G):G:=w6 h.2 (k h.1)
theorem w8 {a b c d e f g i G:Prop} (h:a∧b∧c∧d∧e∧f∧g∧i) (k:a→b→c→d→e→f→g→i→G):G:=w7 h.2 (k h.1)
end EV
set_option Elab.async false
set_option linter.all false
set_option maxRecDepth 100000
open PySem.Str renaming ofString→QK
open PySem renaming wpAny_bind→QL,wpAny_pure→QN,Spec→RC,wpAny_field→RD,wpAny_mono→RE,wpAny_rule→RV,wpAny_newObj_type→R0,wpAny_holding→Sf,wpAny_setField_rec→Sj,wpAny_call_entry→Sk,wpAny_Call_Name_kw→SG,wpAny_callSpecial?_slot→SN,wpAny_seqItems→SV,Builtin→Td,wpAny_attempt→Tw,wpAny_typeOf→Tz,wpAny_pyIter_list→T4,wpAny_passesOwn→T7,wpAny_letGo→Ue,wpAny_truthy_bool→UB,codeAny_mono→UE,wpAny_call→UJ,mem_of_lookup→UR,codeAny_builtin→UZ,wpAny_setField→U4,typeIs_int→Ve,call_meets→Vf,wpAny_typeNameOfWhole_itemiter→Vj,wpAny_typeNameOf_itemiter→Vl,tupleKind_room_in1→Vz,wpAny_isInstance→VI,wpAny_newTuple→VU,wpAny_standAt→V0,wpAny_onRaise→V1,wpAny_newList→V2,concat_meets→V5,wpAny_isOneOf_itemiter→Wq,wpAny_updateSeq_pair→Wy,evalArgs_none→WB,wpAny_pyIter_tuple→WE,wpAny_sequenceKey→WN,wpAny_dictEntries→WO,wpAny_Call_method→WQ,slot_list_getitem→WR,noFill_tuple_add→W6
open PySem.W renaming Frag→QM,nsIn→RT,mg_none_of→RZ,kitOne→Sq,keepIn→SK,fnOf→SW,findIn→Tr,kia_one→T8,clsIn→U5,callWith_K→VA,codeIn→VX,mroIn→V3,specialIn→WS,methodObj→WT
open PyProof.Rows renaming wpS_bind→QO,wpS_pure→QT,wpS_mono→RA,wpS_forRange→R1,listUpdate_at→Su,wpS_get→Sw,wpS_modify→SM,wpS_lift→TV,listItems_at→Ub,slot_tuple_getitem→Ul,callWith_type1→Uo,seqEpoch_at→UH,mirror_perm→Vb,slot_tupleiter_next→Vy,get?_update_seq→VP,call_function_entry_kw→Wr,assignInOrder_cons→WG,callWith_builtin1→Xl
open Nat renaming le_refl→QS,le_trans→Q4,ne_of_lt→Ri,zero_le→Rq,lt_of_lt_of_le→RG,lt_irrefl→Sv,lt_of_le_of_lt→Tc,le_add_right→Tp,mul_le_mul→Tt,zero_add→TF,ne_of_gt→TH,le_of_lt→TJ,lt_succ_self→T6,le_of_ble_eq_true→Uv,one_lt_two_pow→UU,min_eq_left→U0,succ_mul→U8,pow_le_pow_right→Vu,le_sub_one_of_lt→Vv,succ_le_succ→VL,mul_comm→V8,log2_lt→Wd,one_le_iff_ne_zero→Wt,add_sub_cancel'→WC,lt_succ_of_lt→WU
open List renaming length_map→QU,map_cons→QW,replicate→QY,mem_cons→Q0,getElem?_eq_some_iff→Q2,getElem?_map→Q3,mem_cons_self→Q6,mem_singleton→Q8,mem_cons_of_mem→Q9,map_append→Ra,size_toArray→Rb,mem_append→Rg,mem_map→Rj,append_assoc→Rk,getElem?_eq_getElem→Ro,length_append→Rr,range→Rt,append_nil→Ru,map_map→Rv,length_take→Rx,length_cons→RH,getElem_mem→RI,map_nil→RJ,not_mem_nil→RP,mem_append_right→RY,getD_eq_getElem?_getD→R3,getElem?_set_self→R4,getElem?_set_ne→R5,flatMap_cons→R8,take_length→R9,take_succ_eq_append_getElem→Sa,length_singleton→Sb,mem_of_getElem?→Si,nodup_cons→Sm,foldr_cons→Sn,foldl_cons→So,replicate_succ→Sy,find?_cons→SA,flatMap_nil→SI,cons_append→SJ,getElem?_eq_none→SO,filterMap_cons→SQ,length_nil→SS,take_append_drop→S0,map_congr_left→S6,getElem?_append_left→Tg,filter_cons_of_pos→Th,mem_append_left→Tj,flatten_cons→To,nil_append→Tq,foldr_nil→Tu,perm_append_comm→T3,forIn_cons→T9,getElem?_append_right→Ur,pairwise_singleton→Uu,getElem?_of_mem→Ux,pairwise_cons→Uz,getElem?_drop→UA,sum_append→UC,sum_cons→UD,length→UI,foldl→UK,eq_of_mem_replicate→UM,filter_cons_of_neg→UN,take_of_length_le→UO,length_replicate→UP,getElem?_append→UQ,getElem?_range→US,pairwise_map→UW,mem_filter→U1,zipWith→U9,getElem?_take_of_lt→Vo,mem_of_mem_take→Vw,zipWith_self→VD,take_sublist→VE,nodup_append→VF,ext_getElem?→VG,zipWith_map→VM,length_drop→VN,ext_getElem→VO,of_mem_zip→VQ,pairwise_iff_getElem→Wf,drop_eq_getElem_cons→Wg,getElem?_replicate→Wo,dropLast_eq_take→Wx,reverse_append→WD,zip_cons_cons→WI,getElem_range→WJ,take_add_one→WV,reverse_perm→WW,foldl_append→WX,drop_sublist→WY,zipIdx_cons→W7,mem_flatMap→W8,lookup_cons→W9,getElem_map→Xa,Pairwise→Xe,drop_append_of_le_length→Xo
open PySem.Heap renaming get?_push_of_some→QV,lt_size→QX,get?_push_size→Q5,size_push→SD,SameBut→SH,get?_update_ne→S9,ExtBut→TM,get?_update_other→Vs,get?_push_ne→WZ,size_update→Xb
open Bool renaming false_ne_true→QZ,false_eq_true→RO,not_true→Ua,and_eq_true→UY,eq_iff_iff→U3
open Option renaming map_eq_some_iff→Q7,isSome_map→T5,getD_some→VJ,bind_eq_some_iff→Wn
open PySem.Value renaming ref→Rc,none→RW,type→R6,bool→TN,int→TU,str→Vg
open Ne renaming symm→Rf
open PySem.Expr renaming Name→Rh,Call→RK,Subscript→Tv,BinOp→Uj,Tuple→UL
open PySem.SeqAt renaming EqAt→Rl,RcAt→Ui,RcNeAt→V6
open Array renaming getElem?_eq_getElem→Rm,toList_push→RB,getElem?_toList→RN,length_toList→RS,toList_append→R7,ext'→TR,perm_iff_toList_perm→Us,getElem?_eq_some_iff→Ut,toList_reverse→Uy,getElem?_extract→Vt,getElem?_eq_none→Wv,mem_toList_iff→WA,getElem_mem→W5,toList_map→Xd,toList_eraseIdxIfInBounds→Xk
open Sum renaming inl→Rn,inr→TX
open Int renaming toNat_natCast→Rp,le_trans→Ry,gcd→RL,le_refl→Sg,toNat→SY,le_of_lt→Tf,add_mul→TL,zero_mul→Ud,pow_pos→Uh,zero_add→UG,mul_assoc→U7,mul_comm→Va,one_mul→Vc,lt_of_le_of_lt→VC,emod_nonneg→VR,natAbs_mul→VY,mul_nonneg→VZ,add_zero→V9,add_comm→Wa,emod_lt_of_pos→WK,mul_le_mul_of_nonneg_right→Xm
open PySem.Obj renaming mapSeq→Rw,data_mapFields→VB
open PySem.Env renaming kindOf→Rz
open ForInStep renaming yield→RQ,done→Ss
open False renaming elim→RU
open PySem.Builtin.Int renaming intBits→Se
open PySem.Builtin.SmallTypes renaming nextOf→Sx,ownedTupleIsFree→Vh,ownedTupleHandOut→Xg
open Option.some renaming inj→Sz
open PySem.Paired renaming length→SE,snoc→Wc
open True renaming intro→SX
open PySem.NameKind renaming free→Te
open PySem.Builtin.List renaming listUpdate→Ti,listItems→TZ,listLengthHint→Uq,listExtendWith→Vk,listTooLong→Wl
open PyProof.Rows.SortSt renaming mk'→TQ
open Lean renaming mkPrivateNameCore→TY,mkIdent→Uc
open PySem.Shared renaming heap→Ug
open PySem.Data renaming cell→Uk,fields→Vd
open PySem.F renaming slot_dict_itemiterator_next→Um,plain_extend_loop→Vm,slot_dict_items→VH,slot_zip_next→VS,slot_int_rmul→VT,args_tuple_add_2→Wi,entry_tuple_add→Wm,slot_tuple_add→Ws,slot_dict_get→Ww,slot_tuple_mul→Xc,args_dict_itemiterator_next_1→Xj,entry_dict_itemiterator_next→Xn,slot_dict_itemiterator_iter→Xp
open List.Perm renaming append_left→Uw
open PySem.Heap.SameBut renaming update→UT
open List.Pairwise renaming nil→UX,filter→Wz
open PySem.Operator renaming Mult→U6,Add→V7
open PySem.Builtin.Slice renaming slicePlaces→Vn,sliceAdjust→Wh
open PySem.Builtin.Tuple renaming tupleExact→Vp
open PySem.AutoSeq1 renaming wpAny_loadPart'→Vq
open PySem.Builtin.Range renaming rangeSize→Vr
open PySem.Around renaming under_plainId→Vx
open PySem.Stmt renaming AugAssign→VV,Assign→Wb
open Quotient renaming sound→VW
open Function renaming comp→V4
open PySem.Builtin.Dict_items renaming pairFromOwner→We,ownedTupleIsFree→Xh,ownedTupleFields→Xi
open PyProof renaming noPylong_of_log2→Wj
open PySem.Calls renaming callWith_builtin→Wu,spliced_cons→WM
open PySem.Challenge renaming rw_everydraw_k12_raw_rules_of_points→Xf
namespace PySem.W.Fast
theorem tw10635900087606489589:True:=⟨⟩
theorem tw18121436033674091355:True:=⟨⟩
theorem tw11305508570278164854:True:=⟨⟩
theorem tw1209171155782458824:True:=⟨⟩
theorem tw16238079114294070071:True:=⟨⟩
theorem tw3422686483887481058:True:=⟨⟩
theorem tw11736486448663427569:True:=⟨⟩
theorem tw570549734498045318:True:=⟨⟩
theorem tw9425756214576973083:True:=⟨⟩
theorem tw3094067674482346610:True:=⟨⟩
theorem tw8769996425374538765:True:=⟨⟩
theorem tw2239436296909743900:True:=⟨⟩
theorem tw6000459827198660716:True:=⟨⟩
theorem tw2331849691849962199:True:=⟨⟩
theorem tw8817747426469178083:True:=⟨⟩
theorem tw2189147644160884205:True:=⟨⟩
theorem tw9974580814385503321:True:=⟨⟩
theorem tw10968466908562139012:True:=⟨⟩
theorem tw1830060095284565109:True:=⟨⟩
theorem tw4593169681847351380:True:=⟨⟩
theorem tw9896621769197468529:True:=⟨⟩
theorem tw5905919243378557554:True:=⟨⟩
theorem tw12586039954863113264:True:=⟨⟩
theorem tw4827704201748293584:True:=⟨⟩
theorem tw9717815586270584560:True:=⟨⟩
theorem tw9212171713808486342:True:=⟨⟩
theorem tw6886762946594348155:True:=⟨⟩
theorem tw3531853497076832054:True:=⟨⟩
theorem tw1637121103156416690:True:=⟨⟩
theorem tw18180656870857564119:True:=⟨⟩
theorem tw6238595862130058290:True:=⟨⟩
theorem tw925158862139241439:True:=⟨⟩
theorem tw3425238639332299688:True:=⟨⟩
theorem tw8524689720460557760:True:=⟨⟩
theorem tw6377068228354991118:True:=⟨⟩
theorem tw5034203268017179330:True:=⟨⟩
theorem tw18211984068663332513:True:=⟨⟩
theorem tw15826041296020104693:True:=⟨⟩
theorem tw15658300192959326713:True:=⟨⟩
theorem tw7231728462201219596:True:=⟨⟩
theorem tw16320649411098236135:True:=⟨⟩
theorem tw6280174662277641666:True:=⟨⟩
theorem tw9853889781218883332:True:=⟨⟩
theorem tw13953998466322323623:True:=⟨⟩
theorem tw11172615913201678819:True:=⟨⟩
theorem tw16285486562436824394:True:=⟨⟩
theorem tw9011468787455801767:True:=⟨⟩
theorem tw13993476213375731851:True:=⟨⟩
theorem tw10806013329760195162:True:=⟨⟩
theorem tw15360628246171757087:True:=⟨⟩
theorem tw3906530842960004184:True:=⟨⟩
theorem tw2019662015340349638:True:=⟨⟩
theorem tw13823301992498291399:True:=⟨⟩
theorem tw18431768463239048745:True:=⟨⟩
theorem tw14017969679491658099:True:=⟨⟩
theorem tw12438556076119259119:True:=⟨⟩
theorem tw5355720317251989045:True:=⟨⟩
theorem tw4481621083245315211:True:=⟨⟩
theorem tw15233695052811973649:True:=⟨⟩
theorem tw16535959011448108863:True:=⟨⟩
theorem tw15531649197095662025:True:=⟨⟩
theorem tw9402122782056380292:True:=⟨⟩
theorem tw2333020775353799590:True:=⟨⟩
theorem tw13276497063313507711:True:=⟨⟩
theorem tw15190098516911769816:True:=⟨⟩
theorem tw5036513606393026049:True:=⟨⟩
theorem tw12256199456936642433:True:=⟨⟩
theorem tw14895541339497884600:True:=⟨⟩
theorem tw4546124839571177532:True:=⟨⟩
theorem tw8970267341620067013:True:=⟨⟩
theorem tw18331512062092692853:True:=⟨⟩
theorem tw10837578865907121178:True:=⟨⟩
theorem tw3506283832258124016:True:=⟨⟩
theorem tw18075613439515350547:True:=⟨⟩
theorem tw10577770173296902766:True:=⟨⟩
theorem tw10486318370857219871:True:=⟨⟩
theorem tw982395400170782774:True:=⟨⟩
theorem tw5922560399844435589:True:=⟨⟩
theorem tw9480936488733717566:True:=⟨⟩
theorem tw3928970574062930574:True:=⟨⟩
theorem tw15613717896182208350:True:=⟨⟩
theorem tw13559620283221561748:True:=⟨⟩
theorem tw5378249578055973305:True:=⟨⟩
theorem tw6481072293017589955:True:=⟨⟩
theorem tw846776314341959099:True:=⟨⟩
theorem tw11746573001004814361:True:=⟨⟩
theorem tw3962307064104452089:True:=⟨⟩
theorem tw9370379610310723118:True:=⟨⟩
theorem tw5992113595243967528:True:=⟨⟩
theorem tw5381501943547459608:True:=⟨⟩
theorem tw16433714630068692723:True:=⟨⟩
theorem tw14643420462716710322:True:=⟨⟩
theorem tw4224053178189908622:True:=⟨⟩
theorem tw2990605287754177596:True:=⟨⟩
theorem tw10865136750121246348:True:=⟨⟩
theorem tw1574366229107465784:True:=⟨⟩
theorem tw1045293190191731110:True:=⟨⟩
theorem tw13602799265397497480:True:=⟨⟩
theorem tw13386243892667295061:True:=⟨⟩
theorem tw2565520745910605678:True:=⟨⟩
end PySem.W.Fast
local macro_rules | `(tactic| walk_at "u") => `(tactic| with_unfolding_all rfl)
namespace L2
open PySem PySem.Spec PyProof.Rows
noncomputable abbrev Key:=Sum Int Str
noncomputable def lI:Key→Value→Bool
 | .inl k,v=>Value.isInt k v
 | .inr x,v=>Value.isStrOf x v
noncomputable def OR (w:World):Key→Int
 | .inl k=>hashInt k
 | .inr x=>hashStr w x
theorem bH:∀ {k:Key} {v:Value},lI k v=true→(∃ i t,k=Rn i∧v=TU i t)∨(∃ x t,k=TX x∧v=Vg x t)
 | .inl i,v,h=>by
  obtain ⟨t,e⟩:=Value.isInt_shape (k:=i) (v:=v) h
  exact .inl ⟨i,t,rfl,e⟩
 | .inr x,v,h=>by
  obtain ⟨t,e⟩:=Value.isStrOf_shape (x:=x) (v:=v) h
  exact .inr ⟨x,t,rfl,e⟩
theorem yr (i) (t:Tok):lI (.inl i) (.int i t)=true:=by simp [lI,Value.isInt]
theorem yt (x) (t:Tok):lI (.inr x) (.str x t)=true:=by simp [lI,Value.isStrOf]
theorem IG (a b):decide ((Rn a:Key)=Rn b)=(a == b):=by
 by_cases e:a=b
 ·subst e; simp
 ·have h:¬ (Rn a:Key)=Rn b:=fun q=>e (Rn.inj q)
  rw [decide_eq_false h]
  exact (beq_eq_false_iff_ne.mpr e).symm
theorem II (a b):decide ((TX a:Key)=TX b)=decide (a=b):=by
 by_cases e:a=b
 ·subst e; simp
 ·have h:¬ (TX a:Key)=TX b:=fun q=>e (TX.inj q)
  rw [decide_eq_false h,decide_eq_false e]
theorem IJ (a) (b):decide ((Rn a:Key)=TX b)=false:=decide_eq_false (fun q=>nomatch q)
theorem IK (a) (b):decide ((TX a:Key)=Rn b)=false:=decide_eq_false (fun q=>nomatch q)
noncomputable def bY (prog:Program) (w:World):PySem.KeyKind prog w Key where
 is:=lI
 hash:=OR w
 inj:=fun v a b ha hb=>by
  rcases bH ha with ⟨i,t,rfl,rfl⟩ | ⟨x,t,rfl,rfl⟩
  ·rcases bH hb with ⟨j,u,rfl,e⟩ | ⟨y,u,rfl,e⟩
   ·injection e with e1 _; rw [e1]
   ·exact nomatch e
  ·rcases bH hb with ⟨j,u,rfl,e⟩ | ⟨y,u,rfl,e⟩
   ·exact nomatch e
   ·injection e with e1 _; rw [e1]
 byValue:=fun k v h=>by
  rcases bH h with ⟨i,t,rfl,rfl⟩ | ⟨x,t,rfl,rfl⟩ <;> rfl
 pyHash:=fun hv h=>by
  rcases bH hv with ⟨i,t,rfl,rfl⟩ | ⟨x,t,rfl,rfl⟩
  ·exact wpAny_pyHash_int h
  ·exact wpAny_pyHash_str h
 eqBool:=fun hu hv h=>by
  rcases bH hu with ⟨i,t,rfl,rfl⟩ | ⟨x,t,rfl,rfl⟩
  ·rcases bH hv with ⟨j,u,rfl,rfl⟩ | ⟨y,u,rfl,rfl⟩
   ·rw [IG] at h; exact wpAny_eqBool_int h
   ·rw [IJ] at h; exact Rl.int_str i t y u _ _ _ _ h
  ·rcases bH hv with ⟨j,u,rfl,rfl⟩ | ⟨y,u,rfl,rfl⟩
   ·rw [IK] at h; exact Rl.str_int x t j u _ _ _ _ h
   ·rw [II] at h; exact wpAny_eqBool_str h
 «strs» :=fun k x t v h=>by
  rcases bH h with ⟨i,u,rfl,e⟩ | ⟨y,u,rfl,e⟩
  ·exact nomatch e
  ·injection e with e1 _
   subst e1
   cases v <;> rfl
theorem rG (prog) (w) (i) (t:Tok):(bY prog w).is (.inl i) (.int i t)=true:=yr i t
theorem rH (prog) (w) (x) (t:Tok):(bY prog w).is (.inr x) (.str x t)=true:=yt x t
inductive V where
 | non | bl (b:Bool) | int (i:Int) | str (x:Str) | byt (b:Array UInt8) | flt (b:UInt64) | ref (a:Addr) | ty (n:String)
 deriving DecidableEq
noncomputable def RelV:V→Value→Prop
 | .non,u=>u=RW
 | .bl b,u=>u=TN b
 | .int i,u=>∃ t,u=TU i t
 | .str x,u=>∃ t,u=Vg x t
 | .byt b,u=>∃ t,u=Value.bytes b t
 | .flt b,u=>∃ t,u=Value.float b t
 | .ref a,u=>u=Rc a
 | .ty n,u=>u=R6 n
noncomputable abbrev Vals:List V→List Value→Prop:=Paired RelV
theorem Vals.length (r:Vals xs us):xs.length=us.length:=SE r
theorem Vals.get:∀ {xs:List V} {us:List Value} {i:Nat} {x:V},Vals xs us→xs[i]?=some x→∃ u,us[i]?=some u∧RelV x u
 | _,_,_,_,.nil,e=>by simp at e
 | _,_,0,_,.cons r _,e=>by simp at e; subst e; exact ⟨_,rfl,r⟩
 | _,_,i+1,x,.cons _ t,e=>by
  obtain ⟨u,h1,h2⟩:=Vals.get (i:=i) (x:=x) t (by simpa using e)
  exact ⟨u,by simpa using h1,h2⟩
theorem Vals.set (r:RelV x u):∀ {xs:List V} {us:List Value} (i:Nat),Vals xs us→Vals (xs.set i x) (us.set i u)
 | _,_,_,.nil=>.nil
 | _,_,0,.cons _ t=>.cons r t
 | _,_,i+1,.cons q t=>.cons q (Vals.set r i t)
theorem Vals.append:∀ {xs ys:List V} {us ws:List Value},Vals xs us→Vals ys ws→Vals (xs++ys) (us++ws)
 | _,_,_,_,.nil,s=>s
 | _,_,_,_,.cons r t,s=>.cons r (Vals.append t s)
theorem Vals.take:∀ {xs:List V} {us:List Value} (n:Nat),Vals xs us→Vals (xs.take n) (us.take n)
 | _,_,0,_=>.nil
 | _,_,_+1,.nil=>.nil
 | _,_,n+1,.cons r t=>.cons r (Vals.take n t)
theorem Vals.drop:∀ {xs:List V} {us:List Value} (n:Nat),Vals xs us→Vals (xs.drop n) (us.drop n)
 | _,_,0,r=>r
 | _,_,_+1,.nil=>.nil
 | _,_,n+1,.cons _ t=>Vals.drop n t
noncomputable def kH:Option V→Option Value→Prop
 | some v,some u=>RelV v u
 | none,none=>True
 | _,_=>False
noncomputable def KV {κ:Type}:List (κ×V)→List (κ×Value)→Prop:=Paired fun (p:κ×V) (q:κ×Value)=>p.1=q.1∧RelV p.2 q.2
noncomputable def kV:Key→V
 | .inl i=>.int i
 | .inr x=>.str x
inductive HO where
 | lst (xs:List V)
 | tup (xs:List V)
 | dK (kvs:List (Key×V)) | dT (kvs:List (List Key×Addr×V))
 | set (S:Int→Bool) (n:Nat)
 | ins (C dx:Addr) (fs:List (Str×V))
 | own (x:Addr)
 | xd (fs:List (Str×V))
 | met (f x:Addr)
 | rng (lo hi:Int)
 | frz (o:Obj) (u:HO)
 | tbl (ps:Array Value)
 | ext (φ :Heap→Prop)
noncomputable abbrev Hp:=Addr→Option HO
noncomputable def upd (H:Hp) (a:Addr) (o:HO):Hp:=fun b=>if b=a then some o else H b
theorem ah:upd H a o a=some o:=by unfold upd; rw [if_pos rfl]
theorem aj (h:b≠a):upd H a o b=H b:=by unfold upd; rw [if_neg h]
theorem p9:upd (upd H a o) a u=upd H a u:=by
 funext b; unfold upd; split <;> rfl
theorem aC {H:Hp} (h:H a=some o) (h':H b=none):a≠b:=by
 intro e; subst e; rw [h] at h'; cases h'
section
variable (P:Program) (w:World)
noncomputable def bw (H:Hp) (h:Heap) (a:Addr):HO→Prop
 | .lst xs=>xs.length≤sizeLine∧∃ (its:List Value) (n:Nat),Vals xs its∧h.get? a=some { cls:=.type "list",data:=.seq its.toArray n }
 | .tup xs=>xs.length≤sizeLine∧∃ its:List Value,Vals xs its∧IsTup h a its.toArray
 | .dK kvs=>kvs.length≤sizeLine∧(a == sysModules)=false∧∃ vs,KV kvs vs∧h.DictOf (bY P w) a vs
 | .dT kvs=>kvs.length≤sizeLine∧(a == sysModules)=false∧∃ xs:List (List Key×Addr×Value),
  Paired (fun (p:List Key×Addr×V) (q:List Key×Addr×Value)=>p.1=q.1∧p.2.1=q.2.1∧RelV p.2.2 q.2.2) kvs xs ∧
  ∃ o es ep,h.get? a=some o∧o.ExactDict∧o.data=.dict es ep∧es.toList=xs.map (entryOfKey (tupleKind (bY P w)))∧(xs.map (·.1)).Nodup
 | .set S n=>h.SetOf (intKind P w) a S n
 | .ins C dx fs=>H dx=some (.own a)∧fs.length≤1000∧dx≠a∧h.get? a=some (PySem.W.instObj C dx) ∧
  ∃ mA,h.Ns1 dx mA∧(∀ f,kH (fs.lookup f) (mA f))∧PySem.Within mA (fs.map (·.1))
 | .own _=>∃ o,h.get? a=some o
 | .xd fs=>∃ mA,h.Ns1 a mA∧∀ f,kH (fs.lookup f) (mA f)
 | .rng lo hi=>∃ t u v,h.get? a=some { cls:=.type "range",data:=.fields #[.int lo t,.int hi u,.int 1 v] }
 | .frz o u=>h.get? a=some o∧bw H h a u
 | .tbl ps=>h.get? a=some { cls:=.none,data:=.fields ps }
 | .met f x=>h.get? a=some (WT (.ref f) (.ref x))
 | .ext φ => φ h∧(∃ o,h.get? a=some o)∧∀ h1 h2:Heap,φ h1→(∀ o,h1.get? a=some o→h2.get? a=some o)→ φ h2
noncomputable def jH (H:Hp) (h:Heap):Prop:=∀ a o,H a=some o→bw P w H h a o
end
section
theorem bw.lt (x:bw P w H h a o):a<h.objs.size:=by
 cases o with
 | lst xs=>obtain ⟨_,_,_,_,e⟩:=x; exact QX e
 | tup xs=>obtain ⟨_,_,_,p⟩:=x; exact p.lt
 | dK kvs=>obtain ⟨_,_,_,_,o,_,_,e,_⟩:=x; exact QX e
 | dT kvs=>obtain ⟨_,_,_,_,o,_,_,e,_⟩:=x; exact QX e
 | set S n=>obtain ⟨o,_,_,_,e,_⟩:=x; exact QX e
 | ins C dx fs=>obtain ⟨_,_,_,e,_⟩:=x; exact QX e
 | own y=>obtain ⟨_,e⟩:=x; exact QX e
 | xd fs=>obtain ⟨_,⟨_,_,_,e,_⟩,_⟩:=x; exact QX e
 | rng lo hi=>obtain ⟨_,_,_,e⟩:=x; exact QX e
 | frz ob u=>obtain ⟨e,_⟩:=x; exact QX e
 | tbl ps=>exact QX (show h.get? a=some _ from x)
 | met f y=>exact QX (show h.get? a=some _ from x)
 | ext φ =>obtain ⟨_,⟨_,e⟩,_⟩:=x; exact QX e
theorem Paired.IL:∀ {l₁:List α} {l₂:List β},Paired F l₁ l₂→(∀ a b,F a b→G a b)→Paired G l₁ l₂
 | _,_,.nil,_=>.nil
 | _,_,.cons r t,f=>.cons (f _ _ r) (Paired.IL t f)
theorem bw.stay (x:bw P w H h a o) (k:∀ b u,(b=a∨H b=some (.own a))→h.get? b=some u→h'.get? b=some u)
 (ho:∀ b,H b=some (.own a)→H' b=some (.own a)) (ht:∀ b xs,H b=some (.tup xs)→H' b=some (.tup xs)):bw P w H' h' a o:=by
 induction o with
 | lst xs=>obtain ⟨z,its,n,r,e⟩:=x; exact ⟨z,its,n,r,k _ _ (.inl rfl) e⟩
 | tup xs=>obtain ⟨z,its,r,ob,e,c⟩:=x; exact ⟨z,its,r,ob,k _ _ (.inl rfl) e,c⟩
 | dK kvs=>obtain ⟨z,y,vs,r,ob,es,ep,e,c⟩:=x; exact ⟨z,y,vs,r,ob,es,ep,k _ _ (.inl rfl) e,c⟩
 | dT kvs =>
  obtain ⟨z,y,xs,r,ob,es,ep,e,c⟩:=x
  exact ⟨z,y,xs,r,ob,es,ep,k _ _ (.inl rfl) e,c⟩
 | set S n=>obtain ⟨ob,es,ep,t,e,c⟩:=x; exact ⟨ob,es,ep,t,k _ _ (.inl rfl) e,c⟩
 | ins C dx fs =>
  obtain ⟨d,z,ne,e,mA,⟨od,es,ep,e2,c⟩,r⟩:=x
  exact ⟨ho _ d,z,ne,k _ _ (.inl rfl) e,mA,⟨od,es,ep,k _ _ (.inr d) e2,c⟩,r⟩
 | own y=>obtain ⟨ob,e⟩:=x; exact ⟨ob,k _ _ (.inl rfl) e⟩
 | xd fs=>obtain ⟨mA,⟨od,es,ep,e,c⟩,r⟩:=x; exact ⟨mA,⟨od,es,ep,k _ _ (.inl rfl) e,c⟩,r⟩
 | rng lo hi=>obtain ⟨t,u,v,e⟩:=x; exact ⟨t,u,v,k _ _ (.inl rfl) e⟩
 | frz ob u ih=>obtain ⟨e,q⟩:=x; exact ⟨k _ _ (.inl rfl) e,ih q⟩
 | tbl ps =>
  have e:h.get? a=some { cls:=.none,data:=.fields ps }:=x
  show h'.get? a=some { cls:=.none,data:=.fields ps }
  exact k a _ (.inl rfl) e
 | met f y =>
  have e:h.get? a=some (WT (.ref f) (.ref y)):=x
  show h'.get? a=some (WT (.ref f) (.ref y))
  exact k a _ (.inl rfl) e
 | ext φ =>obtain ⟨p,⟨o,e⟩,st⟩:=x; exact ⟨st _ _ p fun o q=>k _ _ (.inl rfl) q,⟨o,k _ _ (.inl rfl) e⟩,st⟩
theorem jH.lt (x:jH P w H h) (e:H a=some o):a<h.objs.size:=(x a o e).lt
theorem jH.fresh (x:jH P w H h) (e:h.objs.size≤a):H a=none:=by
 cases q:H a with
 | none=>rfl
 | some u=>exact absurd (RG (x.lt q) e) (Sv _)
theorem jH.kept (x:jH P w H h) (k:∀ b u,h.get? b=some u→h'.get? b=some u):jH P w H h':=fun a o e =>
 (x a o e).stay (fun b u _ q=>k b u q) (fun _ q=>q) fun _ _ q=>q
theorem jH.laid (x:jH P w H h) (k:∀ b u,h.get? b=some u→h'.get? b=some u) (hp:h.objs.size≤a) (new:bw P w (upd H a o) h' a o):jH P w (upd H a o) h':=fun b u e=>by
 have hn:=x.fresh hp
 by_cases hb:b=a
 ·subst hb; rw [ah] at e; cases e; exact new
 ·rw [aj hb] at e
  exact (x b u e).stay (fun c v _ q=>k c v q) (fun c q=>by rw [aj (aC q hn)]; exact q) fun c xs q=>by rw [aj (aC q hn)]; exact q
end
noncomputable def Rd (H:Hp) (a:Addr) (u:HO):Prop:=H a=some u∨∃ o,H a=some (.frz o u)
theorem Rd.ok (r:Rd H a u) (x:jH P w H h):bw P w H h a u:=by
 rcases r with r | ⟨o,r⟩
 ·exact x a u r
 ·obtain ⟨_,q⟩:=x a _ r
  exact q
noncomputable def LS:Option HO→Prop
 | some (.lst _)=>True
 | some (.dK _)=>True
 | some (.dT _)=>True
 | some (.set _ _)=>True
 | some (.ins _ _ _)=>True
 | some (.ext _)=>True
 | _=>False
section
theorem jH.write (ok:jH P w H h) (mu:LS (H x)) (he:e=x∨H e=some (.own x)) (k:∀ b u,b≠e→h.get? b=some u→h'.get? b=some u) (heo:∃ u,h'.get? e=some u)
 (new:bw P w (upd H x o') h' x o'):jH P w (upd H x o') h':=fun b u q=>by
 have nown:∀ c y,H c=some (.own y)→c≠x:=fun c y r z=>by subst z; rw [r] at mu; exact mu
 have ntup:∀ c xs,H c=some (.tup xs)→c≠x:=fun c xs r z=>by subst z; rw [r] at mu; exact mu
 by_cases hb:b=x
 ·subst hb; rw [ah] at q; cases q; exact new
 ·rw [aj hb] at q
  by_cases hbe:b=e
  ·have q':H b=some (.own x):=by
    rcases he with z | z
    ·exact absurd (hbe.trans z) hb
    ·rw [hbe]; exact z
   rw [q] at q'; cases q'
   obtain ⟨v,hv⟩:=heo
   exact ⟨v,by rw [hbe]; exact hv⟩
  ·refine (ok b u q).stay (fun c v hc r=>k c v ?_ r) (fun c r=>by rw [aj (nown c b r)]; exact r) fun c xs r=>by rw [aj (ntup c xs r)]; exact r
   rcases hc with rfl | hc
   ·exact hbe
   ·rintro rfl
    rcases he with z | z
    ·exact nown c b hc z
    ·rw [hc] at z; cases z; exact hb rfl
end
structure Un (fs ex:List Addr) (H H':Hp) (h h':Heap):Prop where
 keep:∀ b o,h.get? b=some o→H b=none→b∉fs→b∉ex→h'.get? b=some o
 slot:∀ b o,h.get? b=some o→H b=none→b∈fs→b∉ex→∃ sl,h'.get? b=some { o with slots:=sl }
 free:∀ b o,h.get? b=some o→H b=none→b∉ex→H' b=none
 there:∀ b o,h.get? b=some o→b∉ex→∃ o',h'.get? b=some o'
 tups:∀ b xs,H b=some (.tup xs)→H' b=some (.tup xs)
 frzs:∀ b o u,H b=some (.frz o u)→H' b=some (.frz o u)
 tbls:∀ b ps,H b=some (.tbl ps)→∃ more,H' b=some (.tbl (ps++more))
section
variable {fs fs' ex ex':List Addr} {H H1 H2:Hp} {h h1 h2 h':Heap} {a x e:Addr} {o:HO}
theorem Un.any (u:Un fs ex H H1 h h1) (q:h.get? b=some ob) (n:H b=none) (hx:b∉ex):∃ sl,h1.get? b=some { ob with slots:=sl }:=by
 by_cases hb:b∈fs
 ·exact u.slot b ob q n hb hx
 ·exact ⟨ob.slots,u.keep b ob q n hb hx⟩
theorem Un.kept (k:∀ b u,h.get? b=some u→h'.get? b=some u):Un fs ex H H h h' :=
 ⟨fun b ob q _ _ _=>k b ob q,fun b ob q _ _ _=>⟨ob.slots,k b ob q⟩,fun _ _ _ n _=>n,fun b ob q _=>⟨ob,k b ob q⟩,fun _ _ q=>q,fun _ _ _ q=>q,fun _ ps q=>⟨#[],by rw [q]; simp⟩⟩
theorem Un.refl:Un fs ex H H h h:=Un.kept fun _ _ q=>q
theorem Un.laid (k:∀ b u,h.get? b=some u→h'.get? b=some u) (hp:h.objs.size≤a) (hn:H a=none):Un fs ex H (upd H a o) h h' where
 keep:=fun b u q _ _ _=>k b u q
 slot:=fun b u q _ _ _=>⟨u.slots,k b u q⟩
 free:=fun b u q n _=>by rw [aj (Ri (RG (QX q) hp))]; exact n
 there:=fun b u q _=>⟨u,k b u q⟩
 tups:=fun b xs q=>by rw [aj (aC q hn)]; exact q
 frzs:=fun b u xs q=>by rw [aj (aC q hn)]; exact q
 tbls:=fun b ps q=>⟨#[],by rw [aj (aC q hn),q]; simp⟩
theorem Un.write (mu:LS (H x)) (he:e=x∨H e=some (.own x)) (k:∀ b u,b≠e→h.get? b=some u→h'.get? b=some u) (heo:∃ u,h'.get? e=some u):Un fs ex H (upd H x o) h h':=by
 have hx:∀ b,H b=none→b≠x:=fun b n z=>by subst z; rw [n] at mu; exact mu
 have hb:∀ b,H b=none→b≠e:=fun b n z=>by
  subst z
  rcases he with r | r
  ·exact hx b n r
  ·rw [n] at r; cases r
 have hm:∀ b u,H b=some u→¬ LS (some u)→b≠x:=fun b u q nm z=>by subst z; rw [q] at mu; exact nm mu
 refine ⟨fun b u q n _ _=>k b u (hb b n) q,fun b u q n _ _=>⟨u.slots,k b u (hb b n) q⟩,fun b u q n _=>by rw [aj (hx b n)]; exact n,fun b u q _=>?_,
  fun b xs q=>by rw [aj (hm b _ q fun z=>z)]; exact q,fun b u xs q=>by rw [aj (hm b _ q fun z=>z)]; exact q,fun b ps q=>⟨#[],by rw [aj (hm b _ q fun z=>z),q]; simp⟩⟩
 by_cases hbe:b=e
 ·subst hbe; exact heo
 ·exact ⟨u,k b u hbe q⟩
end
noncomputable def Oz (h:Heap) (H:Hp):List Addr:=(Rt h.objs.size).filter fun a=>(H a).isSome
noncomputable def qa (h:Heap) (H:Hp):Heap:=PySem.W.hideAll h (Oz h H)
theorem yu (h) (H):(qa h H).objs.size=h.objs.size:=PySem.W.hideAll_size _ _
theorem Az (e:h.get? b=some o) (n:H b=none):(qa h H).get? b=some o :=
 PySem.W.hideAll_get _ e fun hm=>by
  have q:(H b).isSome=true:=(U1.mp hm).2
  rw [n] at q; simp at q
theorem EL (e:(qa h H).get? b=some o):h.get? b=some o∧H b=none:=by
 have e':h.get? b=some o:=PySem.W.of_hideAll (Oz h H) e
 refine ⟨e',?_⟩
 cases q:H b with
 | none=>rfl
 | some x =>
  have hm:b∈Oz h H:=U1.mpr ⟨List.mem_range.mpr (QX e'),by simp [q]⟩
  have z:(qa h H).get? b=none:=PySem.W.hideAll_none (Oz h H) hm
  rw [z] at e; cases e
structure Mod (K:QM) (mg:Str→Option Value) (base:Heap):Prop where
 kin:K.In base
 glob:base.Ns mainGlobals mg
 blt:∃ mb,base.Ns builtinsNs mb∧∀ x:Str,x≠"__name__"→mb x=bootBuiltins x
 nolimit:base.NoLimit
structure Cx where
 prog:Program
 w:World
 K:QM
 mg:Str→Option Value
 base:Heap
 A:Around
 N:List Str
 s₀:Shared
 H₀:Hp
 env:Env
 outer:List Env
 stack:List Env
 ex:List Addr
 fn:Str→Bool
 calm:Bool
 pn:List (Addr×Obj)
 xe:Value→Shared→Prop
noncomputable def frs (l:List Env):List Addr:=l.filterMap (·.frame)
noncomputable abbrev Cx.fs (X:Cx):List Addr:=frs X.outer
noncomputable def OS (sc:Scope) (x:Str):Prop:=sc.names.lookup x=some .local∨sc.names.lookup x=some .cell∨sc.names.lookup x=some .free
noncomputable def Loc (sc:Scope) (x:Str):Prop:=sc.names.lookup x=some .local∨sc.names.lookup x=some .cell
noncomputable def Look (env:Env) (h:Heap) (m:Str→Option Value) (x:Str) (u:Value):Prop :=
 (env.kindOf x=some .local∧m x=some u)∨((env.kindOf x=some .cell∨env.kindOf x=some .free)∧∃ c,env.cells.lookup x=some c∧h.IsCell c (some u))
structure Cx.Ok (X:Cx):Prop where
 mod:Mod X.K X.mg X.base
 kind:X.env.scope.kind=.function
 glob:X.env.globals=mainGlobals
 blt:X.env.builtins=builtinsNs
 above:X.s₀.heap.objs.size≤X.env.locals
 inj:∀ x y c,X.env.cells.lookup x=some c→X.env.cells.lookup y=some c→x=y
 has:∀ x,(X.env.kindOf x=some .cell∨X.env.kindOf x=some .free)→∃ c,X.env.cells.lookup x=some c
 cab:∀ x c,X.fn x=true→X.env.cells.lookup x=some c→X.s₀.heap.objs.size≤c
 hd:X.calm=true→X.A.handled=none
 frames:X.A.frames=some X.stack
 stk:X.stack=X.outer∨(X.stack=X.env::X.outer∧X.env.frame=some X.env.locals)
 exf:∀ b∈X.ex,b≠X.env.locals∧∀ x c,X.env.cells.lookup x=some c→c≠b
 bs:∀ b o,X.base.get? b=some o→X.s₀.heap.get? b=some o∧X.H₀ b=none
 bsz:X.base.objs.size≤X.s₀.heap.objs.size
 noex:∀ b o,X.base.get? b=some o→b∉X.ex
 exfs:∀ b∈X.ex,b∉X.fs
 jI:X.s₀.heap.FunFrames X.base X.outer
 frf:∀ b∈X.fs,X.H₀ b=none
structure Inv (X:Cx) (aa:List (Addr×Obj)) (σ:List (Option V)) (H:Hp) (s:Shared):Prop where
 ok:X.Ok
 os:s.os=X.s₀.os
 bare:AllBare s.gens
 base:Un X.fs X.ex X.H₀ H X.s₀.heap s.heap
 loc:∃ m,s.heap.Ns X.env.locals m∧∀ (i:Nat) (x:Str) (v:V),X.N[i]?=some x→σ[i]?=some (some v)→OS X.env.scope x→∃ u,RelV v u∧Look X.env s.heap m x u
 cell:∀ x c,X.env.cells.lookup x=some c→∃ v,s.heap.IsCell c v
 free:H X.env.locals=none
 freeC:∀ x c,X.env.cells.lookup x=some c→H c=none
 pin:∀ p∈X.pn++aa,s.heap.get? p.1=some p.2∧H p.1=none∧p.1≠X.env.locals∧p.1∉X.fs∧∀ v,p.2.data≠.cell v
 hok:jH X.prog X.w H s.heap
 len:σ.length=X.N.length
section
variable {X:Cx}
theorem Cx.Ok.OT (ok:X.Ok) (e:X.base.get? b=some o):b∉X.fs:=fun hb=>by
 have:=(ok.jI.mem hb).1
 rw [e] at this; cases this
theorem Inv.bs (I:Inv X aa σ H s):∀ b o,X.base.get? b=some o→s.heap.get? b=some o∧H b=none:=fun b o e =>
 ⟨I.base.keep b o (I.ok.bs b o e).1 (I.ok.bs b o e).2 (I.ok.OT e) (I.ok.noex b o e),I.base.free b o (I.ok.bs b o e).1 (I.ok.bs b o e).2 (I.ok.noex b o e)⟩
theorem Inv.bk (I:Inv X aa σ H s):∀ b o,X.base.get? b=some o→s.heap.get? b=some o:=fun b o e=>(I.bs b o e).1
theorem Inv.mod (I:Inv X aa σ H s):Mod X.K X.mg X.base:=I.ok.mod
theorem Inv.qb (I:Inv X aa σ H s):X.K.In s.heap:=I.ok.mod.kin.keeps I.bk
theorem Inv.lt (I:Inv X aa σ H s):X.env.locals<s.heap.objs.size:=let ⟨_,hn,_⟩:=I.loc; hn.lt
theorem Inv.sz (I:Inv X aa σ H s):X.s₀.heap.objs.size≤s.heap.objs.size:=Q4 I.ok.above (TJ I.lt)
theorem Inv.LU (I:Inv X aa σ H s) (h:s.heap.objs.size≤a):a∉X.fs:=fun hb=>by
 obtain ⟨_,o,ho,_⟩:=I.ok.jI.mem hb
 exact absurd (RG (QX ho) (Q4 I.sz h)) (Sv _)
theorem Inv.IM (I:Inv X aa σ H s):∀ x c,X.env.cells.lookup x=some c→c≠X.env.locals:=fun x c e z=>by
 obtain ⟨v,o,ho,hd⟩:=I.cell x c e
 obtain ⟨m,⟨o',es,ep,ho',hd',_⟩,_⟩:=I.loc
 rw [z,ho'] at ho; cases ho; rw [hd'] at hd; cases hd
theorem Inv.jI (I:Inv X aa σ H s):s.heap.FunFrames X.base X.outer:=by
 have all:∀ (l:List Env),(∀ b∈frs l,b∈X.fs)→X.s₀.heap.FunFrames X.base l→s.heap.FunFrames X.base l:=by
  intro l
  induction l with
  | nil=>intro _ _; trivial
  | cons env r ih =>
   intro hs hl
   obtain ⟨hk,⟨L,o,hf,hn,ho,hd⟩,hr⟩:=hl
   have hL:L∈X.fs:=hs L (by unfold frs; rw [SQ,hf]; exact Q6)
   obtain ⟨sl,e⟩:=I.base.slot L o ho (I.ok.frf L hL) hL fun z=>I.ok.exfs L z hL
   exact ⟨hk,⟨L,_,hf,hn,e,hd⟩,ih (fun b hb=>hs b (by unfold frs; rw [SQ,hf]; exact Q9 _ hb)) hr⟩
 exact all X.outer (fun _ hb=>hb) I.ok.jI
theorem Inv.stack (I:Inv X aa σ H s):s.heap.FunFrames X.base X.stack:=by
 rcases I.ok.stk with e | ⟨e,hf⟩
 ·rw [e]; exact I.jI
 ·rw [e]
  obtain ⟨m,hn,_⟩:=I.loc
  refine .cons (by rw [I.ok.kind]; decide) hf hn ?_ I.jI
  exact Heap.get?_none_of_le (Q4 I.ok.bsz I.ok.above)
theorem Inv.uM (I:Inv X aa σ H s):∀ b∈frs X.stack,b∈X.env.locals::X.fs:=fun b hb=>by
 rcases I.ok.stk with e | ⟨e,hf⟩
 ·rw [e] at hb; exact Q9 _ hb
 ·rw [e] at hb
  unfold frs at hb
  rw [SQ,hf] at hb
  exact hb
theorem Inv.wB (I:Inv X aa σ H s):∀ b∈frs X.stack,H b=none:=fun b hb=>by
 rcases Q0.mp (I.uM b hb) with e | hb
 ·rw [e]; exact I.free
 ·obtain ⟨_,o,ho,_⟩:=I.ok.jI.mem hb
  exact I.base.free b o ho (I.ok.frf b hb) fun z=>I.ok.exfs b z hb
theorem Inv.step {ch:List Addr} (I:Inv X aa σ H s)
 (hch:∀ b∈ch,(b∈X.ex∨X.s₀.heap.objs.size≤b)∧b≠X.env.locals∧(∀ x c,X.env.cells.lookup x=some c→c≠b)∧∀ p∈X.pn++aa,p.1≠b)
 (keep:∀ b o,b≠X.env.locals→b∉X.fs→b∉ch→s.heap.get? b=some o→H b=none→h'.get? b=some o)
 (slot:∀ b o,b≠X.env.locals→b∈X.fs→b∉ch→s.heap.get? b=some o→H b=none→∃ sl,h'.get? b=some { o with slots:=sl }) (free:∀ b o,b∉ch→s.heap.get? b=some o→H b=none→H' b=none)
 (there:∀ b o,b∉ch→s.heap.get? b=some o→∃ o',h'.get? b=some o')
 (tups:∀ b xs,H b=some (.tup xs)→H' b=some (.tup xs)) (frzs:∀ b o u,H b=some (.frz o u)→H' b=some (.frz o u)) (tbls:∀ b ps,H b=some (.tbl ps)→∃ more,H' b=some (.tbl (ps++more)))
 (ns:∀ m,s.heap.Ns X.env.locals m→h'.Ns X.env.locals m) (hok:jH X.prog X.w H' h') (hg:AllBare g') :
 Inv X aa σ H' { s with heap:=h',gens:=g',drawn:=d',toks:=t' }:=by
 have neL:∀ b o,X.s₀.heap.get? b=some o→b≠X.env.locals:=fun b o e=>Ri (RG (QX e) I.ok.above)
 have neC:∀ b o,X.s₀.heap.get? b=some o→b∉X.ex→b∉ch:=fun b o e hx hb=>by
  rcases (hch b hb).1 with z | z
  ·exact hx z
  ·exact absurd (RG (QX e) z) (Sv _)
 have cellK:∀ x c,X.env.cells.lookup x=some c→∀ v,s.heap.IsCell c v→h'.IsCell c v:=fun x c e v ⟨o,ho,hd⟩=>by
  have nch:c∉ch:=fun z=>(hch c z).2.2.1 x c e rfl
  by_cases hc:c∈X.fs
  ·obtain ⟨sl,q⟩:=slot c o (I.IM x c e) hc nch ho (I.freeC x c e)
   exact ⟨_,q,hd⟩
  ·exact ⟨o,keep c o (I.IM x c e) hc nch ho (I.freeC x c e),hd⟩
 refine ⟨I.ok,I.os,hg,⟨fun b o e n hb hx=>?_,fun b o e n hb hx=>?_,fun b o e n hx=>?_,fun b o e hx=>?_,fun b xs e=>tups b xs (I.base.tups b xs e),fun b o xs e=>frzs b o xs (I.base.frzs b o xs e),fun b ps e=>?_⟩,?_,fun x c e=>?_,?_,fun x c e=>?_,fun p hp=>?_,hok,I.len⟩
 ·exact keep b o (neL b o e) hb (neC b o e hx) (I.base.keep b o e n hb hx) (I.base.free b o e n hx)
 ·obtain ⟨sl,e1⟩:=I.base.slot b o e n hb hx
  obtain ⟨sl',e2⟩:=slot b _ (neL b o e) hb (neC b o e hx) e1 (I.base.free b o e n hx)
  exact ⟨sl',e2⟩
 ·obtain ⟨o',e1⟩:=I.base.there b o e hx
  exact free b o' (neC b o e hx) e1 (I.base.free b o e n hx)
 ·obtain ⟨o',e1⟩:=I.base.there b o e hx
  exact there b o' (neC b o e hx) e1
 ·obtain ⟨m1,e1⟩:=I.base.tbls b ps e
  obtain ⟨m2,e2⟩:=tbls b _ e1
  exact ⟨m1++m2,by rw [e2,Array.append_assoc]⟩
 ·obtain ⟨m,hn,hl⟩:=I.loc
  refine ⟨m,ns m hn,fun i x v e1 e2 e3=>?_⟩
  obtain ⟨u,r,l⟩:=hl i x v e1 e2 e3
  refine ⟨u,r,?_⟩
  rcases l with l | ⟨k,c,e,z⟩
  ·exact .inl l
  ·exact .inr ⟨k,c,e,cellK x c e _ z⟩
 ·obtain ⟨v,z⟩:=I.cell x c e
  exact ⟨v,cellK x c e v z⟩
 ·obtain ⟨m,⟨o,_,_,ho,_⟩,_⟩:=I.loc
  exact free _ o (fun z=>(hch _ z).2.1 rfl) ho I.free
 ·obtain ⟨v,o,ho,hd⟩:=I.cell x c e
  exact free c o (fun z=>(hch c z).2.2.1 x c e rfl) ho (I.freeC x c e)
 ·obtain ⟨e,n,ne,nf,d⟩:=I.pin p hp
  have nch:p.1∉ch:=fun z=>(hch p.1 z).2.2.2 p hp rfl
  exact ⟨keep p.1 p.2 ne nf nch e n,free p.1 p.2 nch e n,ne,nf,d⟩
theorem Inv.un (I:Inv X aa σ H s) (u:Un X.fs [] H H' s.heap h') (hok:jH X.prog X.w H' h'):Inv X aa σ H' { s with heap:=h',toks:=t' }:=by
 obtain ⟨m,⟨o,es,ep,ho,r⟩,_⟩:=id I.loc
 obtain ⟨sl,hL⟩:=u.any ho I.free (by simp)
 exact I.step (g':=s.gens) (d':=s.drawn) (ch:=[]) (fun _ z=>nomatch z) (fun b o _ hb _ e n=>u.keep b o e n hb (by simp)) (fun b o _ hb _ e n=>u.slot b o e n hb (by simp)) (fun b o _ e n=>u.free b o e n (by simp)) (fun b o _ e=>u.there b o e (by simp)) u.tups u.frzs u.tbls (fun m' hm=>by
  obtain ⟨o',es',ep',ho',r'⟩:=hm
  rw [ho] at ho'; cases ho'
  exact ⟨_,es',ep',hL,r'⟩) hok I.bare
theorem Inv.call (I:Inv X aa σ H s) (u:Un (frs X.stack) ch H H' s.heap h') (hok:jH X.prog X.w H' h') (hg:AllBare g')
 (hch:∀ b∈ch,(b∈X.ex∨X.s₀.heap.objs.size≤b)∧b≠X.env.locals∧(∀ x c,X.env.cells.lookup x=some c→c≠b)∧∀ p∈X.pn++aa,p.1≠b) :
 Inv X aa σ H' { s with heap:=h',gens:=g',drawn:=d',toks:=t' }:=by
 obtain ⟨m,⟨o,es,ep,ho,r⟩,_⟩:=id I.loc
 obtain ⟨sl,hL⟩:=u.any ho I.free fun z=>(hch _ z).2.1 rfl
 exact I.step (ch:=ch) hch (fun b o hL hb hc e n=>u.keep b o e n (fun z=>(Q0.mp (I.uM b z)).elim hL hb) hc) (fun b o _ _ hc e n=>u.any e n hc) (fun b o hc e n=>u.free b o e n hc) (fun b o hc e=>u.there b o e hc) u.tups u.frzs u.tbls (fun m' hm=>by
  obtain ⟨o',es',ep',ho',r'⟩:=hm
  rw [ho] at ho'; cases ho'
  exact ⟨_,es',ep',hL,r'⟩) hok hg
theorem Inv.turned (I:Inv X aa σ H s) (k:∀ b o,b≠it→s.heap.get? b=some o→h'.get? b=some o) (hn:H it=none) (hL:it≠X.env.locals)
 (h1:it∈X.ex∨X.s₀.heap.objs.size≤it) (h2:∀ x c,X.env.cells.lookup x=some c→c≠it) (h3:∀ p∈X.pn++aa,p.1≠it):Inv X aa σ H { s with heap:=h',toks:=t' }:=by
 have nit:∀ b u,H b=some u→b≠it:=fun b u e z=>by rw [z,hn] at e; cases e
 refine I.step (g':=s.gens) (d':=s.drawn) (ch:=[it]) (fun b hb=>?_) (fun b o _ _ hc e _=>k b o (fun z=>hc (by simp [z])) e) (fun b o _ _ hc e _=>⟨o.slots,k b o (fun z=>hc (by simp [z])) e⟩) (fun _ _ _ _ n=>n)
  (fun b o hc e=>⟨o,k b o (fun z=>hc (by simp [z])) e⟩) (fun _ _ e=>e) (fun _ _ _ e=>e) (fun b ps e=>⟨#[],by rw [e]; simp⟩) (fun m hm=>?_) (fun b u e=>?_) I.bare
 ·have e:b=it:=by simpa using hb
  subst e
  exact ⟨h1,hL,h2,h3⟩
 ·obtain ⟨o,es,ep,ho,r⟩:=hm
  exact ⟨o,es,ep,k _ o (Rf hL) ho,r⟩
 ·refine (I.hok b u e).stay (fun c v hc q=>k c v ?_ q) (fun _ q=>q) fun _ _ q=>q
  rcases hc with z | z
  ·rw [z]; exact nit b u e
  ·exact nit c _ z
theorem Inv.tok (I:Inv X aa σ H s) (t):Inv X aa σ H { s with toks:=t }:=I.un (h':=s.heap) (t':=t) Un.refl I.hok
theorem Inv.kept (I:Inv X aa σ H s) (k:∀ b u,s.heap.get? b=some u→h'.get? b=some u):Inv X aa σ H { s with heap:=h',toks:=t' }:=I.un (Un.kept k) (I.hok.kept k)
theorem Inv.laid (I:Inv X aa σ H s) (k:∀ b u,s.heap.get? b=some u→h'.get? b=some u) (hp:s.heap.objs.size≤a) (new:bw X.prog X.w (upd H a o) h' a o) :
 Inv X aa σ (upd H a o) { s with heap:=h',toks:=t' }:=I.un (Un.laid k hp (I.hok.fresh hp)) (I.hok.laid k hp new)
theorem Inv.write (I:Inv X aa σ H s) (mu:LS (H x)) (he:e=x∨H e=some (.own x)) (k:∀ b u,b≠e→s.heap.get? b=some u→h'.get? b=some u) (heo:∃ u,h'.get? e=some u)
 (new:bw X.prog X.w (upd H x o) h' x o):Inv X aa σ (upd H x o) { s with heap:=h',toks:=t' }:=I.un (Un.write mu he k heo) (I.hok.write mu he k heo new)
theorem Inv.wC (I:Inv X aa σ H s) (h:∀ p∈pins',s.heap.get? p.1=some p.2∧H p.1=none∧p.1≠X.env.locals∧p.1∉X.fs∧∀ v,p.2.data≠.cell v):Inv X pins' σ H s :=
 ⟨I.ok,I.os,I.bare,I.base,I.loc,I.cell,I.free,I.freeC,fun p hp=>(Rg.mp hp).elim (fun z=>I.pin p (Tj _ z)) (h p),I.hok,I.len⟩
theorem rJ {N:List Str} (hN:N.Nodup) {i j:Nat} (a:N[i]?=some x) (b:N[j]?=some x):i=j:=by
 obtain ⟨h1,e1⟩:=Q2.mp a
 obtain ⟨h2,e2⟩:=Q2.mp b
 exact (List.getElem_inj hN).mp (e1.trans e2.symm)
theorem yv (I:Inv X aa σ H s) (hN:X.N.Nodup) (hi:X.N[i]?=some x) (hx:Loc X.env.scope x) (r:RelV v u)
 (h:∀ s',Inv X aa (σ.set i (some v)) H s'→(∃ a,SH a s.heap s'.heap∧(a=X.env.locals∨X.env.cells.lookup x=some a))→Q () s') (hf:X.fn x=true∨X.env.scope.names.lookup x=some .local:=by first | exact .inl rfl | exact .inr rfl | assumption):wpAny M A (storeName X.env x u) Q E s:=by
 obtain ⟨m,hn,hl⟩:=id I.loc
 have hcls:(X.env.scope.kind == .class || (X.env.scope.kind == .module && X.env.locals != X.env.globals))=false:=by rw [I.ok.kind]; rfl
 have hiσ:i<σ.length:=by rw [I.len]; exact (Q2.mp hi).1
 have IM:=I.IM
 have tracked:∀ {a:Addr} {h':Heap},(∃ o,s.heap.get? a=some o∧H a=none)→SH a s.heap h'→jH X.prog X.w H h':=fun {a h'} ha hs b ob e=>by
  obtain ⟨_,_,hfree⟩:=ha
  refine (I.hok b ob e).stay (fun c w' hc q=>(hs.2 c ?_).trans q) (fun _ q=>q) fun _ _ q=>q
  rintro rfl
  rcases hc with rfl | hc
  ·rw [hfree] at e; cases e
  ·rw [hfree] at hc; cases hc
 rcases hx with hk | hk
 ·refine wpAny_storeName_local hk hn (fun h' hn' hs=>?_) hcls
  obtain ⟨oL,_,_,hoL,_⟩:=id hn
  refine h _ ⟨I.ok,I.os,I.bare,⟨fun b o e n hb hx=>?_,fun b o e n hb hx=>?_,I.base.free,fun b o e hx=>?_,I.base.tups,I.base.frzs,I.base.tbls⟩,⟨_,hn',fun j y v' e1 e2 e3=>?_⟩,fun y c e=>?_,I.free,I.freeC,fun p hp=>?_,tracked ⟨oL,hoL,I.free⟩ hs,by simpa using I.len⟩ ⟨_,hs,.inl rfl⟩
  ·exact (hs.2 b (Ri (RG (QX e) I.ok.above))).trans (I.base.keep b o e n hb hx)
  ·obtain ⟨sl,e1⟩:=I.base.slot b o e n hb hx
   exact ⟨sl,(hs.2 b (Ri (RG (QX e) I.ok.above))).trans e1⟩
  ·obtain ⟨o',e1⟩:=I.base.there b o e hx
   exact ⟨o',(hs.2 b (Ri (RG (QX e) I.ok.above))).trans e1⟩
  ·by_cases hj:j=i
   ·subst hj
    rw [hi] at e1; cases e1
    rw [R4 hiσ] at e2
    cases e2
    exact ⟨u,r,.inl ⟨hk,by simp⟩⟩
   ·rw [R5 (Rf hj)] at e2
    obtain ⟨u',r',q⟩:=hl j y v' e1 e2 e3
    refine ⟨u',r',?_⟩
    rcases q with ⟨k,e⟩ | ⟨k,c,e,z⟩
    ·refine .inl ⟨k,?_⟩
     have:y≠x:=fun e=>hj (rJ hN e1 (e ▸ hi))
     simp [this,e]
    ·exact .inr ⟨k,c,e,z.sameBut hs (IM y c e)⟩
  ·obtain ⟨w',z⟩:=I.cell y c e
   exact ⟨w',z.sameBut hs (IM y c e)⟩
  ·obtain ⟨e,n,ne,nf,d⟩:=I.pin p hp
   exact ⟨(hs.2 p.1 ne).trans e,n,ne,nf,d⟩
 ·have hfn:X.fn x=true:=by
   rcases hf with z | z
   ·exact z
   ·rw [z] at hk; cases hk
  obtain ⟨c,hc⟩:=I.ok.has x (.inl hk)
  obtain ⟨w',z⟩:=I.cell x c hc
  refine wpAny_storeName_cell I.ok.kind hk hc z (fun h' hc' hs=>?_)
  obtain ⟨oc,hoc,hocd⟩:=id z
  refine h { s with heap:=h' } ⟨I.ok,I.os,I.bare,⟨fun b o e n hb hx=>?_,fun b o e n hb hx=>?_,I.base.free,fun b o e hx=>?_,I.base.tups,I.base.frzs,I.base.tbls⟩,⟨m,hn.sameBut hs (Rf (IM x c hc)),fun j y v' e1 e2 e3=>?_⟩,fun y c' e=>?_,I.free,I.freeC,fun p hp=>?_,tracked ⟨oc,hoc,I.freeC x c hc⟩ hs,by simpa using I.len⟩ ⟨c,hs,.inr hc⟩
  ·exact (hs.2 b (Ri (RG (QX e) (I.ok.cab x c hfn hc)))).trans (I.base.keep b o e n hb hx)
  ·obtain ⟨sl,e1⟩:=I.base.slot b o e n hb hx
   exact ⟨sl,(hs.2 b (Ri (RG (QX e) (I.ok.cab x c hfn hc)))).trans e1⟩
  ·obtain ⟨o',e1⟩:=I.base.there b o e hx
   exact ⟨o',(hs.2 b (Ri (RG (QX e) (I.ok.cab x c hfn hc)))).trans e1⟩
  ·by_cases hj:j=i
   ·subst hj
    rw [hi] at e1; cases e1
    rw [R4 hiσ] at e2
    cases e2
    exact ⟨u,r,.inr ⟨.inl hk,c,hc,hc'⟩⟩
   ·rw [R5 (Rf hj)] at e2
    obtain ⟨u',r',q⟩:=hl j y v' e1 e2 e3
    refine ⟨u',r',?_⟩
    rcases q with q | ⟨k,c',e,z'⟩
    ·exact .inl q
    ·refine .inr ⟨k,c',e,z'.sameBut hs ?_⟩
     rintro rfl
     exact hj (rJ hN e1 (I.ok.inj _ _ _ e hc ▸ hi))
  ·by_cases hcc:c'=c
   ·subst hcc; exact ⟨_,hc'⟩
   ·obtain ⟨w2,z2⟩:=I.cell y c' e
    exact ⟨w2,z2.sameBut hs hcc⟩
  ·obtain ⟨e,n,ne,nf,d⟩:=I.pin p hp
   refine ⟨(hs.2 p.1 ?_).trans e,n,ne,nf,d⟩
   intro q
   rw [q,hoc] at e
   have q':oc=p.2:=Sz e
   exact d w' (by rw [← q']; exact hocd)
theorem gu (I:Inv X aa σ H s) (hN:X.N.Nodup) (hi:X.N[i]?=some x) (hx:Loc X.env.scope x) (r:RelV v u)
 (h:∀ s',Inv X aa (σ.set i (some v)) H s'→Q () s') (hf:X.fn x=true∨X.env.scope.names.lookup x=some .local:=by first | exact .inl rfl | exact .inr rfl | assumption):wpAny M A (storeName X.env x u) Q E s :=
 yv I hN hi hx r (fun s' I' _=>h s' I') hf
theorem Inv.Hu (I:Inv X aa σ H s) (ho:s'.os=s.os) (u:Un (frs X.stack) ch H H' s.heap s'.heap) (hok:jH X.prog X.w H' s'.heap) (hg:AllBare s'.gens)
 (hch:∀ b∈ch,(b∈X.ex∨X.s₀.heap.objs.size≤b)∧b≠X.env.locals∧(∀ x c,X.env.cells.lookup x=some c→c≠b)∧∀ p∈X.pn++aa,p.1≠b):Inv X aa σ H' s':=by
 obtain ⟨h',g',d',t',o'⟩:=s'
 have e:o'=s.os:=ho
 subst e
 exact I.call (g':=g') (t':=t') (d':=d') u hok hg hch
end
noncomputable abbrev XK:=Value→Option Addr→Hp→Prop
noncomputable abbrev St:=List (Option V)
noncomputable abbrev VK:=V→Hp→Prop
noncomputable abbrev TE:=St→Hp→VK→Prop
noncomputable abbrev TT:=St→Hp→(Bool→Hp→Prop)→Prop
noncomputable abbrev TA:=St→Hp→(List V→Hp→Prop)→Prop
structure Ends where
 nx:St→Hp→Prop
 rt:VK
 bk:St→Hp→Prop:=fun _ _=>False
 ct:St→Hp→Prop:=fun _ _=>False
noncomputable abbrev TS:=Ends→St→Hp→Prop
noncomputable def EP (X:Cx) (aa:List (Addr×Obj)) (σ:St) (Q:VK) (u:Value) (s':Shared):Prop:=∃ v H',Inv X aa σ H' s'∧RelV v u∧Q v H'
noncomputable def TP (X:Cx) (aa:List (Addr×Obj)) (σ:St) (Q:Bool→Hp→Prop) (b:Bool) (s':Shared):Prop:=∃ H',Inv X aa σ H' s'∧Q b H'
noncomputable def AP (X:Cx) (aa:List (Addr×Obj)) (σ:St) (Q:List V→Hp→Prop) (us:List Value) (s':Shared):Prop:=∃ vs H',Inv X aa σ H' s'∧Vals vs us∧Q vs H'
noncomputable def SP (X:Cx) (aa:List (Addr×Obj)) (D:Ends) (f:Flow) (s':Shared):Prop :=
 match f with
 | .next=>∃ σ' H',Inv X aa σ' H' s'∧D.nx σ' H'
 | .brk=>∃ σ' H',Inv X aa σ' H' s'∧D.bk σ' H'
 | .cont=>∃ σ' H',Inv X aa σ' H' s'∧D.ct σ' H'
 | .ret u=>∃ v σ' H',Inv X aa σ' H' s'∧RelV v u∧D.rt v H'
noncomputable def PE (X:Cx) (e:Expr) (t:TE):Prop :=
 ∀ (aa:List (Addr×Obj)) (s:Shared) (σ:St) (H:Hp) (Q:VK),Inv X aa σ H s→t σ H Q→wpAny (model X.prog X.w) X.A (eval e X.env) (EP X aa σ Q) X.xe s
noncomputable def PT (X:Cx) (e:Expr) (t:TT):Prop :=
 ∀ (aa:List (Addr×Obj)) (s:Shared) (σ:St) (H:Hp) (Q:Bool→Hp→Prop),Inv X aa σ H s→t σ H Q→wpAny (model X.prog X.w) X.A (isTrue e X.env (eval e X.env)) (TP X aa σ Q) X.xe s
noncomputable def PW (X:Cx) (e:Expr) (t:TT):Prop :=
 ∀ (whole:Sem Value) (aa:List (Addr×Obj)) (s:Shared) (σ:St) (H:Hp) (Q:Bool→Hp→Prop),Inv X aa σ H s→t σ H Q→wpAny (model X.prog X.w) X.A (isTrue e X.env whole) (TP X aa σ Q) X.xe s
noncomputable def PA (X:Cx) (es:List Expr) (t:TA):Prop :=
 ∀ (pos:Pos) (aa:List (Addr×Obj)) (s:Shared) (σ:St) (H:Hp) (Q:List V→Hp→Prop),Inv X aa σ H s→t σ H Q→wpAny (model X.prog X.w) X.A (spliced (backTo pos (starEach es X.env))) (AP X aa σ Q) X.xe s
noncomputable def PS (X:Cx) (st:Stmt) (t:TS):Prop :=
 ∀ (aa:List (Addr×Obj)) (s:Shared) (σ:St) (H:Hp) (D:Ends),Inv X aa σ H s→t D σ H→wpAny (model X.prog X.w) X.A (exec st X.env) (SP X aa D) X.xe s
noncomputable def uI (X:Cx) (st:List Stmt) (t:TS):Prop :=
 ∀ (aa:List (Addr×Obj)) (s:Shared) (σ:St) (H:Hp) (D:Ends),Inv X aa σ H s→t D σ H→wpAny (model X.prog X.w) X.A (execs st X.env) (SP X aa D) X.xe s
theorem bD (h:wpAny M A t Q E s) (hQ:∀ a s,Q a s→Q' a s):wpAny M A t Q' E s:=RE h hQ fun _ _ x=>x
section
noncomputable def LV (i:Nat):TE:=fun σ H Q=>∃ v,σ[i]?=some (some v)∧Q v H
noncomputable def tC (v:V):TE:=fun _ H Q=>Q v H
theorem uN (hN:X.N[i]?=some x) (hv:OS X.env.scope x) (hd:(x == ("__debug__":Str))=false:=by decide) (hcd:(x == ("__classdict__":Str))=false:=by decide):PE X (.Name x pos) (LV i):=by
 intro aa s σ H Q I h
 obtain ⟨v,e,h⟩:=h
 obtain ⟨m,hn,hl⟩:=I.loc
 obtain ⟨u,r,l⟩:=hl i x v hN e hv
 have fin:EP X aa σ Q u s:=⟨v,H,I,r,h⟩
 rcases l with ⟨hk,hm⟩ | ⟨hk,c,hc,hcell⟩
 ·exact wpAny_Name (wpAny_loadName_local I.ok.kind hk hn hm fin) hd
 ·rcases hk with hk | hk
  ·exact wpAny_Name (wpAny_loadName_cell I.ok.kind hk hc hcell fin) hd
  ·exact wpAny_Name (wpAny_loadName_free I.ok.kind hk hc hcell fin hcd) hd
theorem IP {i j pos}:PE X (.Constant (.int i) j pos) (tC (.int i)):=fun _ _ _ H _ I h=>wpAny_Constant_int ⟨.int i,H,I.tok _,⟨_,rfl⟩,h⟩
theorem AA {b j pos}:PE X (.Constant (.bool b) j pos) (tC (.bl b)):=fun _ _ _ H _ I h=>Constant_bool ⟨.bl b,H,I,rfl,h⟩
noncomputable def Gl (X:Cx) (x:Str):Prop:=X.env.kindOf x=some .globalImplicit
theorem i6 (I:Inv X aa σ H s) (hg:Gl X x) (hm:X.mg x=some u) (h:Q u s)
 (hd:(x == ("__debug__":Str))=false:=by decide):wpAny (model X.prog X.w) X.A (eval (.Name x pos) X.env) Q E s :=
 Calls.Name_function_global I.ok.kind hg (Calls.loadGlobal_global (by rw [I.ok.glob]; exact I.mod.glob.keeps I.bk) hm h) hd
theorem cX (I:Inv X aa σ H s) (hg:Gl X x) (hm:X.mg x=none) (hv:bootBuiltins x=some u) (h:Q u s)
 (hn:x≠"__name__":=by decide) (hd:(x == ("__debug__":Str))=false:=by decide):wpAny (model X.prog X.w) X.A (eval (.Name x pos) X.env) Q E s:=by
 obtain ⟨mb,h1,h2⟩:=I.mod.blt
 exact Calls.Name_function_global I.ok.kind hg (Calls.loadGlobal_builtin (by rw [I.ok.glob]; exact I.mod.glob.keeps I.bk) hm (by rw [I.ok.blt]; exact h1.keeps I.bk) ((h2 x hn).trans hv) h) hd
theorem wD (hg:Gl X x) (hm:X.mg x=some u) (r:RelV v u) (hd:(x == ("__debug__":Str))=false:=by decide):PE X (.Name x pos) (tC v) :=
 fun _ _ _ H _ I h=>i6 I hg hm ⟨v,H,I,r,h⟩ hd
noncomputable def PC (X:Cx) (op:CmpOp) (a b:Expr) (t:TE):Prop :=
 ∀ (aa:List (Addr×Obj)) (s:Shared) (σ:St) (H:Hp) (Q:VK),Inv X aa σ H s→t σ H Q →
  wpAny (model X.prog X.w) X.A (eval a X.env) (fun v s₁=>wpAny (model X.prog X.w) X.A (eval b X.env) (fun u s₂=>wpAny (model X.prog X.w) X.A (compareOp op v u) (EP X aa σ Q) X.xe s₂) X.xe s₁) X.xe s
noncomputable def tB (t:TE):TT:=fun σ H Q=>t σ H fun x H1=>∃ c,x=.bl c∧Q c H1
theorem IQ (h:PC X op a b t) (h1:behindInMarks op b=false:=by first | exact nobehind _ (by decide) (by decide) | rfl):PT X (.Compare a [op] [b] pos) (tB t):=by
 intro aa s σ H Q I hw
 refine wpAny_isTrue_Compare1 (bD (h aa s σ H _ I hw) fun v s1 h1=>bD h1 fun u s2 h2=>bD h2 fun c s3 ⟨x,H1,I1,r1,q1⟩=>?_) h1
 obtain ⟨d,rfl,q⟩:=q1
 cases r1
 exact UB ⟨H1,I1,q⟩
theorem IS (h:PE X e t) (he:∀ whole,isTrue e X.env whole=(do let v ← whole; standAt e.pos; holding [v] (truthy v)):=by intro _; rfl):PT X e (tB t):=by
 intro aa s σ H Q I hw
 refine isTrue_plain (bD (h aa s σ H _ I hw) fun v s1 ⟨x,H1,I1,r1,q1⟩=>?_) (he _)
 obtain ⟨d,rfl,q⟩:=q1
 cases r1
 exact UB ⟨H1,I1,q⟩
variable {rest:List Expr}
noncomputable def OU (t u:TT):TT:=fun σ H Q=>t σ H fun c H1=>if c=true then u σ H1 Q else Q false H1
noncomputable def Qu (t u:TT):TT:=fun σ H Q=>t σ H fun c H1=>if c=true then Q true H1 else u σ H1 Q
noncomputable def OV (t:TT):TT:=fun σ H Q=>t σ H fun c H1=>Q (!c) H1
theorem pw_and1 (ha:PT X a tA):PW X (.BoolOp .And [a] pos) tA:=by
 intro wh aa s σ H Q I h
 refine isTrue_and (bD (ha aa s σ H Q I h) fun c s1 e=>?_)
 cases c with
 | true=>exact isTrue_and_nil e
 | false=>exact e
theorem pw_or1 (ha:PT X a tA):PW X (.BoolOp .Or [a] pos) tA:=by
 intro wh aa s σ H Q I h
 refine isTrue_or (bD (ha aa s σ H Q I h) fun c s1 e=>?_)
 cases c with
 | false=>exact isTrue_or_nil e
 | true=>exact e
theorem pw_and (ha:PT X a tA) (hb:PW X (.BoolOp .And (b::rest) pos) tB'):PW X (.BoolOp .And (a::b::rest) pos) (OU tA tB'):=by
 intro wh aa s σ H Q I h
 refine isTrue_and (bD (ha aa s σ H _ I h) fun c s1 ⟨H1,I1,q1⟩=>?_)
 cases c with
 | true=>exact hb wh aa s1 σ H1 Q I1 q1
 | false=>exact ⟨H1,I1,q1⟩
theorem pw_or (ha:PT X a tA) (hb:PW X (.BoolOp .Or (b::rest) pos) tB'):PW X (.BoolOp .Or (a::b::rest) pos) (Qu tA tB'):=by
 intro wh aa s σ H Q I h
 refine isTrue_or (bD (ha aa s σ H _ I h) fun c s1 ⟨H1,I1,q1⟩=>?_)
 cases c with
 | true=>exact ⟨H1,I1,q1⟩
 | false=>exact hb wh aa s1 σ H1 Q I1 q1
theorem IT (ha:PT X a tA):PT X (.UnaryOp .Not a pos) (OV tA):=by
 intro aa s σ H Q I h
 exact isTrue_not (ha aa s σ H (fun c H1=>Q (!c) H1) I h)
noncomputable def LW (ta tb:TE):TE:=fun σ H Q=>ta σ H fun x H1=>∃ c,x=.bl c∧if c=true then tb σ H1 Q else Q (.bl false) H1
noncomputable def LX (ta:TE):TE:=fun σ H Q=>ta σ H fun x H1=>∃ c,x=.bl c∧Q (.bl (!c)) H1
theorem IU {op} (h:PE X a t):PE X (.BoolOp op [a] pos) t:=fun aa s σ H Q I hw=>BoolOp_one (h aa s σ H Q I hw)
theorem IV (ha:PE X a ta) (hb:PE X (.BoolOp .And (b::rest) pos) tb):PE X (.BoolOp .And (a::b::rest) pos) (LW ta tb):=by
 intro aa s σ H Q I h
 refine BoolOp_and (bD (ha aa s σ H _ I h) fun v s1 ⟨x,H1,I1,r1,q1⟩=>?_)
 obtain ⟨c,rfl,q1⟩:=q1
 cases r1
 refine UB ?_
 cases c with
 | true=>exact hb aa s1 σ H1 Q I1 q1
 | false=>exact ⟨.bl false,H1,I1,rfl,q1⟩
theorem IW (ha:PE X a ta):PE X (.UnaryOp .Not a pos) (LX ta):=by
 intro aa s σ H Q I h
 refine UnaryOp_ (bD (ha aa s σ H _ I h) fun v s1 ⟨x,H1,I1,r1,q1⟩=>?_)
 obtain ⟨c,rfl,q1⟩:=q1
 cases r1
 exact not_of (UB ⟨.bl (!c),H1,I1,rfl,q1⟩)
noncomputable def Qv (t:TT) (ta tb:TE):TE:=fun σ H Q=>t σ H fun c H1=>if c=true then ta σ H1 Q else tb σ H1 Q
theorem AB (hc:PT X c tA) (ha:PE X a ta) (hb:PE X b tb):PE X (.IfExp c a b pos) (Qv tA ta tb):=by
 intro aa s σ H Q I h
 refine wpAny_IfExp (bD (hc aa s σ H _ I h) fun d s1 ⟨H1,I1,q1⟩=>?_)
 cases d with
 | true=>exact ha aa s1 σ H1 Q I1 q1
 | false=>exact hb aa s1 σ H1 Q I1 q1
end
noncomputable def gn (K:QM) (H:Hp) (a:Addr) (xs:List V):Prop :=
 Rd H a (.lst xs) ∨
  ∃ (o:Obj) (its:Array Value) (n:Nat),K.lookup a=some o∧o.cls=.type "list"∧o.dict=none∧o.data=.seq its n∧its.size≤sizeLine∧Vals xs its.toList
noncomputable def dw (K:QM) (H:Hp) (a:Addr) (xs:List V):Prop :=
 Rd H a (.tup xs) ∨
  ∃ (o:Obj) (its:Array Value) (n:Nat),K.lookup a=some o∧o.cls=.type "tuple"∧o.data=.seq its n∧its.size≤sizeLine∧Vals xs its.toList
noncomputable def OW:Value→Option V
 | .none=>some .non
 | .bool b=>some (.bl b)
 | .int i _=>some (.int i)
 | .str x _=>some (.str x)
 | .bytes b _=>some (.byt b)
 | .float b _=>some (.flt b)
 | .ref a=>some (.ref a)
 | .type n=>some (.ty n)
 | _=>none
theorem RelV.abs (r:RelV x u):OW u=some x:=by
 cases x with
 | non=>cases r; rfl
 | bl _=>cases r; rfl
 | int _=>obtain ⟨t,rfl⟩:=r; rfl
 | str _=>obtain ⟨t,rfl⟩:=r; rfl
 | byt _=>obtain ⟨t,rfl⟩:=r; rfl
 | flt _=>obtain ⟨t,rfl⟩:=r; rfl
 | ref _=>cases r; rfl
 | ty _=>cases r; rfl
theorem RelV.inj (r:RelV x u) (q:RelV y u):x=y:=Sz (r.abs.symm.trans q.abs)
theorem Vals.inj:∀ {xs ys:List V} {us:List Value},Vals xs us→Vals ys us→xs=ys
 | _,_,_,.nil,.nil=>rfl
 | _,_,_,.cons r t,.cons r' t'=>by rw [r.inj r',Vals.inj t t']
section
theorem Inv.list (I:Inv X aa σ H s) (h:gn X.K H a xs):∃ its:List Value,Vals xs its∧PlainL s.heap a its.toArray∧xs.length≤sizeLine:=by
 rcases h with h | ⟨o,its,n,hk,hc,hd,hs,hz,r⟩
 ·obtain ⟨z,its,n,r,e⟩:=h.ok I.hok
  exact ⟨its,r,⟨_,n,e,rfl,rfl,rfl⟩,z⟩
 ·refine ⟨its.toList,r,⟨o,n,I.qb a o hk,hc,hd,by simpa using hs⟩,?_⟩
  have e:=r.length
  simp only [RS] at e
  lia
theorem Inv.tuple (I:Inv X aa σ H s) (h:dw X.K H a xs):∃ its:List Value,Vals xs its∧IsTup s.heap a its.toArray∧xs.length≤sizeLine:=by
 rcases h with h | ⟨o,its,n,hk,hc,hs,hz,r⟩
 ·obtain ⟨z,its,r,p⟩:=h.ok I.hok
  exact ⟨its,r,p,z⟩
 ·refine ⟨its.toList,r,⟨o,I.qb a o hk,hc,n,by simpa using hs⟩,?_⟩
  have e:=r.length
  simp only [RS] at e
  lia
theorem Inv.lJ (I:Inv X aa σ H s) (h:gn X.K H a xs) (h':gn X.K H a ys):xs=ys:=by
 obtain ⟨its,r,⟨o,n,e,_,_,d⟩,_⟩:=I.list h
 obtain ⟨its',r',⟨o',n',e',_,_,d'⟩,_⟩:=I.list h'
 rw [e] at e'; cases e'
 rw [d] at d'
 injection d' with d1 _
 have:its=its':=by simpa using congrArg Array.toList d1
 subst this
 exact r.inj r'
theorem Inv.gW (I:Inv X aa σ H s) (h:dw X.K H a xs) (h':dw X.K H a ys):xs=ys:=by
 obtain ⟨its,r,⟨o,e,_,n,d⟩,_⟩:=I.tuple h
 obtain ⟨its',r',⟨o',e',_,n',d'⟩,_⟩:=I.tuple h'
 rw [e] at e'; cases e'
 rw [d] at d'
 injection d' with d1 _
 have:its=its':=by simpa using congrArg Array.toList d1
 subst this
 exact r.inj r'
end
noncomputable abbrev Cx.nQ (X:Cx) (E:Value→Shared→Prop):Cx:={ X with xe:=E }
noncomputable abbrev Cx.Hw (X:Cx):Cx:=X.nQ fun _ _=>False
theorem Cx.Ok.nQ {X:Cx} (ok:X.Ok) (E):(X.nQ E).Ok :=
 ⟨ok.mod,ok.kind,ok.glob,ok.blt,ok.above,ok.inj,ok.has,ok.cab,ok.hd,ok.frames,ok.stk,ok.exf,ok.bs,ok.bsz,ok.noex,ok.exfs,ok.jI,ok.frf⟩
theorem Cx.Ok.gv {X:Cx} (ok:(X.nQ E).Ok):X.Ok :=
 ⟨ok.mod,ok.kind,ok.glob,ok.blt,ok.above,ok.inj,ok.has,ok.cab,ok.hd,ok.frames,ok.stk,ok.exf,ok.bs,ok.bsz,ok.noex,ok.exfs,ok.jI,ok.frf⟩
section
theorem Inv.nQ (I:Inv X aa σ H s) (E):Inv (X.nQ E) aa σ H s:=⟨I.ok.nQ E,I.os,I.bare,I.base,I.loc,I.cell,I.free,I.freeC,I.pin,I.hok,I.len⟩
theorem Inv.gv (I:Inv (X.nQ E) aa σ H s):Inv X aa σ H s:=⟨I.ok.gv,I.os,I.bare,I.base,I.loc,I.cell,I.free,I.freeC,I.pin,I.hok,I.len⟩
theorem SP.gv (h:SP (X.nQ E) aa D f s'):SP X aa D f s':=by
 cases f with
 | next=>obtain ⟨σ',H',I,q⟩:=h; exact ⟨σ',H',I.gv,q⟩
 | brk=>obtain ⟨σ',H',I,q⟩:=h; exact ⟨σ',H',I.gv,q⟩
 | cont=>obtain ⟨σ',H',I,q⟩:=h; exact ⟨σ',H',I.gv,q⟩
 | ret u=>obtain ⟨v,σ',H',I,r,q⟩:=h; exact ⟨v,σ',H',I.gv,r,q⟩
theorem uI.Hw {st:List Stmt} (h:uI X.Hw st t):uI X st t:=fun aa s σ H D I hw =>
 RE (h aa s σ H D (I.nQ _) hw) (fun _ _ q=>q.gv) fun _ _ z=>RU z
end
section
variable {st:Stmt} {rest:List Stmt}
noncomputable def LY:TS:=fun D σ H=>D.nx σ H
noncomputable def OX (t u:TS):TS:=fun D σ H=>t { D with nx:=u D } σ H
theorem EM:uI X [] LY:=fun _ _ σ H _ I h=>wpAny_execs_nil ⟨σ,H,I,h⟩
theorem AD (h1:PS X st t) (h2:uI X rest u):uI X (st::rest) (OX t u):=by
 intro aa s σ H D I h
 refine wpAny_execs_cons (bD (h1 aa s σ H { D with nx:=u D } I h) fun f s1 q=>?_)
 cases f with
 | next =>
  obtain ⟨σ',H',I',q⟩:=q
  exact h2 aa s1 σ' H' D I' q
 | ret v=>exact q
 | brk=>exact q
 | cont=>exact q
theorem Inv.quiet (I:Inv X aa σ H s):interactive X.env=false:=by simp [interactive,I.ok.kind]
noncomputable def LZ (te:TE):TS:=fun D σ H=>te σ H fun _ H1=>D.nx σ H1
theorem kY (he:PE X e te) (hs:swapsWith e none pos.line X.env=pure false:=by rfl):PS X (.Expr e pos) (LZ te):=by
 intro aa s σ H D I h
 exact wpAny_Expr_any (bD (he aa s σ H _ I h) fun v s1 ⟨x,H1,I1,r1,q1⟩=>⟨σ,H1,I1,q1⟩) I.quiet hs
noncomputable def OY (te:TE):TS:=fun D σ H=>te σ H D.rt
theorem AE (he:PE X e te):PS X (.Return (some e) pos) (OY te):=by
 intro aa s σ H D I h
 exact wpAny_Return_some (bD (he aa s σ H _ I h) fun v s1 ⟨x,H1,I1,r1,q1⟩=>⟨x,σ,H1,I1,r1,q1⟩)
noncomputable def OZ (c:TT) (t u:TS):TS:=fun D σ H=>c σ H fun b H1=>if b=true then t D σ H1 else u D σ H1
theorem L5 (hc:PT X c tc) (ha:uI X a t) (hb:uI X b u):PS X (.If c a b pos) (OZ tc t u):=by
 intro aa s σ H D I h
 refine wpAny_If (bD (hc aa s σ H _ I h) fun d s1 ⟨H1,I1,q1⟩=>?_)
 cases d with
 | true=>exact ha aa s1 σ H1 D I1 q1
 | false=>exact hb aa s1 σ H1 D I1 q1
end
noncomputable abbrev TG:=V→St→Hp→(St→Hp→Prop)→Prop
noncomputable abbrev L6:=List V→St→Hp→(St→Hp→Prop)→Prop
noncomputable def PG (X:Cx) (target:Expr) (t:TG):Prop :=
 ∀ (aa:List (Addr×Obj)) (s:Shared) (σ:St) (H:Hp) (v:V) (u:Value) (Q:St→Hp→Prop),Inv X aa σ H s→RelV v u→t v σ H Q →
  wpAny (model X.prog X.w) X.A (assign target X.env u) (fun _ s'=>∃ σ' H',Inv X aa σ' H' s'∧Q σ' H') X.xe s
noncomputable def LH (X:Cx) (ts:List Expr) (t:L6):Prop :=
 ∀ (aa:List (Addr×Obj)) (s:Shared) (σ:St) (H:Hp) (vs:List V) (us:List Value) (Q:St→Hp→Prop),Inv X aa σ H s→Vals vs us→t vs σ H Q →
  wpAny (model X.prog X.w) X.A (assignInOrder ((assignEach ts X.env).map (·.2)) us) (fun _ s'=>∃ σ' H',Inv X aa σ' H' s'∧Q σ' H') X.xe s
noncomputable abbrev IX:=V→V→V→Hp→(Hp→Prop)→Prop
noncomputable def L7 (X:Cx) (t:IX):Prop :=
 ∀ (aa:List (Addr×Obj)) (s:Shared) (σ:St) (H:Hp) (o i v:V) (ov iv u:Value) (Q:Hp→Prop),Inv X aa σ H s→RelV o ov→RelV i iv→RelV v u→t o i v H Q →
  wpAny (model X.prog X.w) X.A (setItem ov iv u) (fun _ s'=>∃ H',Inv X aa σ H' s'∧Q H') X.xe s
noncomputable abbrev Qf:=V→V→Hp→VK→Prop
noncomputable def Qg (X:Cx) (op:Operator) (t:Qf):Prop :=
 ∀ (aa:List (Addr×Obj)) (s:Shared) (σ:St) (H:Hp) (x y:V) (v u:Value) (Q:VK),Inv X aa σ H s→RelV x v→RelV y u→t x y H Q →
  wpAny (model X.prog X.w) X.A (inplaceOp op v u) (EP X aa σ Q) X.xe s
section
noncomputable def Hx (i:Nat):TG:=fun v σ H Q=>Q (σ.set i (some v)) H
theorem qe (hN:X.N.Nodup) (hi:X.N[i]?=some x) (hx:Loc X.env.scope x) (hf:X.fn x=true∨X.env.scope.names.lookup x=some .local:=by first | exact .inl rfl | exact .inr rfl | assumption):PG X (.Name x pos) (Hx i):=by
 intro aa s σ H v u Q I r h
 exact wpAny_assign_Name (gu I hN hi hx r (fun s' I'=>⟨_,H,I',h⟩) hf)
noncomputable def O0:L6:=fun vs σ H Q=>vs=[]∧Q σ H
noncomputable def L8 (t:TG) (u:L6):L6:=fun vs σ H Q=>∃ v r,vs=v::r∧t v σ H fun σ' H'=>u r σ' H' Q
theorem EN:LH X [] O0:=by
 intro aa s σ H vs us Q I r h
 obtain ⟨e,h⟩:=h
 subst e
 cases r
 exact assignInOrder_nil ⟨σ,H,I,h⟩
theorem AF (h1:PG X e t) (h2:LH X es u)
 (hs:(assignEach (e::es) X.env).map (·.2)=assign e X.env::(assignEach es X.env).map (·.2):=by rfl):LH X (e::es) (L8 t u):=by
 intro aa s σ H vs us Q I r h
 obtain ⟨v,vr,e1,h⟩:=h
 subst e1
 cases r with
 | cons r rr =>
  rw [hs]
  refine WG (bD (h1 aa s σ H _ _ _ I r h) fun _ s1 ⟨σ1,H1,I1,q1⟩=>?_)
  exact h2 aa s1 σ1 H1 _ _ Q I1 rr q1
noncomputable def O1 (K:QM) (n:Nat) (t:L6):TG:=fun v σ H Q=>∃ a xs,v=.ref a∧dw K H a xs∧xs.length=n∧t xs σ H Q
theorem IY (hc:X.calm=true) (h:LH X es t)
 (hn:(assignEach es X.env).length=n:=by rfl) (hst:(assignEach es X.env).findIdx? (·.1)=none:=by rfl):PG X (.Tuple es k pos) (O1 X.K n t):=by
 intro aa s σ H v u Q I r hw
 obtain ⟨a,xs,e1,hq,hl,hw⟩:=hw
 subst e1
 cases r
 obtain ⟨its,rv,ht,hz⟩:=I.tuple hq
 refine assign_Tuple_tuple (I.ok.hd hc) ht (by simp [hn,← hl,rv.length]) hst fun h' hx=>?_
 have I1:Inv X aa σ H { s with heap:=h' }:=I.kept (t':=s.toks) fun b o e=>hx b o (Ri (QX e)) e
 exact h aa _ σ H xs _ Q I1 (by simpa using rv) hw
noncomputable def O2 (to ti:TE) (t:IX):TG:=fun v σ H Q=>to σ H fun o H1=>ti σ H1 fun i H2=>t o i v H2 fun H3=>Q σ H3
theorem IZ (ho:PE X o to) (hi:PE X i ti) (hs:L7 X t)
 (ha:∀ v,assign (.Subscript o i pos) X.env v=(do
   let ov ← holding [v] (eval o X.env)
   let iv ← holding [v,ov] (eval i X.env)
   standAt pos
   holding [v,ov,iv] (setItem ov iv v)
   release [v,ov,iv] []):=by intro _; rfl):PG X (.Subscript o i pos) (O2 to ti t):=by
 intro aa s σ H v u Q I r h
 rw [ha]
 refine QL (Sf (bD (ho aa s σ H _ I h) fun ov s1 ⟨x,H1,I1,r1,q1⟩=>?_))
 refine QL (Sf (bD (hi aa s1 σ H1 _ I1 q1) fun iv s2 ⟨y,H2,I2,r2,q2⟩=>?_))
 refine QL (V0 (QL (Sf (bD (hs aa s2 σ H2 x y v ov iv u _ I2 r1 r2 r q2) fun _ s3 ⟨H3,I3,q3⟩=>?_))))
 exact wpAny_release ⟨σ,H3,I3,q3⟩
noncomputable def Ma (te:TE) (g:TG):TS:=fun D σ H=>te σ H fun x H1=>g x σ H1 D.nx
theorem I0 (he:PE X e te) (hg:PG X tg g) (hs:swapsWithSole [tg] e pos.line X.env=pure false:=by rfl) (hw:swappedStores [tg] e X.env=pure none:=by rfl)
 (h1:(assignEach [tg] X.env).map (·.2)=[assign tg X.env]:=by rfl):PS X (.Assign [tg] e pos) (Ma te g):=by
 intro aa s σ H D I h
 refine wpAny_Assign_stores (bD (he aa s σ H _ I h) fun v s1 ⟨x,H1,I1,r1,q1⟩=>?_) hs hw
 rw [h1]
 exact bD (hg aa s1 σ H1 x v _ I1 r1 q1) fun _ s2 q=>q
theorem Ja (hN:X.N.Nodup) (hi:X.N[i]?=some x) (hx:Loc X.env.scope x) (he:PE X e te) (hs:swapsWith e (some (.Name x pos')) pos.line X.env=pure false:=by rfl) (hf:X.fn x=true∨X.env.scope.names.lookup x=some .local:=by first | exact .inl rfl | exact .inr rfl | assumption) :
 PS X (.Assign [.Name x pos'] e pos) (Ma te (Hx i)):=by
 intro aa s σ H D I h
 refine wpAny_Assign_Name (bD (he aa s σ H _ I h) fun v s1 ⟨y,H1,I1,r1,q1⟩=>?_) hs
 exact gu I1 hN hi hx r1 (fun s2 I2=>⟨_,H1,I2,q1⟩) hf
noncomputable def O3 (i j:Nat) (ta:TA):TS:=fun D σ H=>ta σ H fun vs H1=>∃ v w,vs=[v,w]∧D.nx ((σ.set i (some v)).set j (some w)) H1
theorem Jb {kt k2 pt2} (hc:X.calm=true) (hN:X.N.Nodup) (hi:X.N[i]?=some x) (hj:X.N[j]?=some y) (hij:i≠j)
 (hx:X.env.scope.names.lookup x=some .local) (hy:X.env.scope.names.lookup y=some .local) (ha:PA X [a,b] ta)
 (hw:swappedStores [.Tuple [.Name x px,.Name y py] kt pt] (.Tuple [a,b] k2 pt2) X.env=pure (some [x,y]))
 (hs:swapsWithSole [.Tuple [.Name x px,.Name y py] kt pt] (.Tuple [a,b] k2 pt2) pos.line X.env=pure false:=by rfl) :
 PS X (.Assign [.Tuple [.Name x px,.Name y py] kt pt] (.Tuple [a,b] k2 pt2) pos) (O3 i j ta):=by
 intro aa s σ H D I h
 rw [exec_Assign_arm]
 refine QL (V0 ?_)
 rw [hs]
 refine QL (QN ?_)
 rw [if_neg (by decide)]
 refine QL (Tuple_ (bD (ha _ aa s σ H _ I h) fun us s1 ⟨vs,H1,I1,r1,q1⟩=>?_))
 obtain ⟨v,w,e1,q1⟩:=q1
 subst e1
 obtain ⟨u1,u2,rfl,rv,rw'⟩:∃ u1 u2,us=[u1,u2]∧RelV v u1∧RelV w u2:=by
  cases r1 with
  | cons p q =>
   cases q with
   | cons p' q' =>
    cases q'
    exact ⟨_,_,rfl,p,p'⟩
 refine R0 ?_ (by show 2≤sizeLine; decide)
 have I2:Inv X aa σ H1 { s1 with heap:=s1.heap.push { cls:=.type "tuple",data:=.seq [u1,u2].toArray } }:=I1.kept (t':=s1.toks) fun b o e=>QV _ e
 rw [hw]
 refine QL (QN ?_)
 show wpAny (model X.prog X.w) X.A (do rule "assign.swapped-stores"; let items ← unpackItems (.ref s1.heap.objs.size) 2 none; assignInOrder [fun v=>bindName X.env y v,fun v=>bindName X.env x v] items.reverse; pure Flow.next) _ _ _
 refine QL (RV (QL (unpackItems_tuple (items:= #[u1,u2]) (I.ok.hd hc) (IsTup.new s1.heap _) fun h' hx'=>?_)))
 have I3:=I2.kept (h':=h') (t':=s1.toks) fun b o e=>hx' b o (Ri (QX e)) e
 show wpAny _ _ (assignInOrder [fun v=>bindName X.env y v,fun v=>bindName X.env x v] [u2,u1] >>= fun _=>pure Flow.next) _ _ _
 refine QL (WG (wpAny_bindName (gu I3 hN hj (.inl hy) rw' (fun s2 I4=>?_) (.inr hy))))
 refine WG (wpAny_bindName (gu I4 hN hi (.inl hx) rv (fun s3 I5=>assignInOrder_nil (QN ?_)) (.inr hx)))
 rw [List.set_comm _ _ (Rf hij)] at I5
 exact ⟨_,H1,I5,q1⟩
noncomputable def O4 (i:Nat) (te:TE) (ti:Qf):TS:=fun D σ H=>∃ x,σ[i]?=some (some x)∧te σ H fun y H1=>ti x y H1 fun z H2=>D.nx (σ.set i (some z)) H2
theorem Jc (hN:X.N.Nodup) (hi:X.N[i]?=some x) (hx:Loc X.env.scope x) (he:PE X e te) (ho:Qg X op ti) (hf:X.fn x=true∨X.env.scope.names.lookup x=some .local:=by first | exact .inl rfl | exact .inr rfl | assumption) :
 PS X (.AugAssign (.Name x pos') op e pos) (O4 i te ti):=by
 intro aa s σ H D I h
 obtain ⟨v,e1,h⟩:=h
 obtain ⟨m,hn,hl⟩:=I.loc
 have vis:OS X.env.scope x:=by rcases hx with k | k; exact .inl k; exact .inr (.inl k)
 obtain ⟨u,r,l⟩:=hl i x v hi e1 vis
 refine wpAny_AugAssign_Name ?_
 have go:wpAny (model X.prog X.w) X.A (eval e X.env) (fun w s₂=>wpAny (model X.prog X.w) X.A (inplaceOp op u w) (fun r s₃=>wpAny (model X.prog X.w) X.A (storeName X.env x r) (fun _=>SP X aa D .next) X.xe s₃) X.xe s₂) X.xe s:=by
  refine bD (he aa s σ H _ I h) fun w s1 ⟨y,H1,I1,r1,q1⟩=>?_
  refine bD (ho aa s1 σ H1 v y u w _ I1 r r1 q1) fun z s2 ⟨zv,H2,I2,r2,q2⟩=>?_
  exact gu I2 hN hi hx r2 (fun s3 I3=>⟨_,H2,I3,q2⟩) hf
 rcases l with ⟨hk,hm⟩ | ⟨hk,c,hc,hcell⟩
 ·exact wpAny_loadName_local I.ok.kind hk hn hm go
 ·rcases hk with hk | hk
  ·exact wpAny_loadName_cell I.ok.kind hk hc hcell go
  ·rcases hx with k | k
   ·have:X.env.scope.names.lookup x=some .free:=hk
    rw [k] at this; cases this
   ·have:X.env.scope.names.lookup x=some .free:=hk
    rw [k] at this; cases this
noncomputable def Jd (c:TT) (tb:TS):TS:=fun D σ H=>∃ W:Nat→St→Hp→Prop,(∃ m,W m σ H)∧∀ m σ H,W m σ H →
 c σ H fun b H1=>if b=true then ∃ N:St→Hp→Prop,(∀ σ' H',N σ' H'→∃ m',m'<m∧W m' σ' H')∧tb { D with nx:=N,ct:=N,bk:=D.nx } σ H1 else D.nx σ H1
theorem AG (hp:PassesOwn (model X.prog X.w) X.A X.env X.xe) (hc:PT X c tc) (hb:uI X body tb):PS X (.While c body [] pos) (Jd tc tb):=by
 intro aa s σ H D I h
 obtain ⟨W,⟨m0,w0⟩,turn⟩:=h
 refine wpAny_While (codeAny_whileLoop (fun n s'=>∃ σ' H',Inv X aa σ' H' s'∧W n σ' H') ?_ m0 ⟨σ,H,I,w0⟩)
 rintro n s1 ⟨σ1,H1,I1,w1⟩
 refine T7 hp (bD (hc aa s1 σ1 H1 _ I1 (turn n σ1 H1 w1)) fun b s2 ⟨H2,I2,q2⟩=>?_)
 cases b with
 | true =>
  obtain ⟨N,hN,q2⟩:=q2
  rw [if_pos rfl]
  refine T7 hp (bD (hb aa s2 σ1 H2 _ I2 q2) fun f s3 q3=>?_)
  cases f with
  | next =>
   obtain ⟨σ3,H3,I3,n3⟩:=q3
   obtain ⟨m',hm,w3⟩:=hN σ3 H3 n3
   exact ⟨m',hm,σ3,H3,I3,w3⟩
  | cont =>
   obtain ⟨σ3,H3,I3,n3⟩:=q3
   obtain ⟨m',hm,w3⟩:=hN σ3 H3 n3
   exact ⟨m',hm,σ3,H3,I3,w3⟩
  | brk=>exact q3
  | ret v=>exact q3
 | false =>
  rw [if_neg QZ]
  exact wpAny_execs_nil ⟨σ1,H2,I2,q2⟩
end
structure It where
 go:Nat→Hp→Prop
 yld:Nat→Hp→V→Hp→Prop
 stop:Nat→Hp→Prop
noncomputable def fC (X:Cx) (aa:List (Addr×Obj)) (H:Hp) (b:Addr):Prop :=
 H b=none∧b≠X.env.locals∧b∉X.fs∧(b∈X.ex∨X.s₀.heap.objs.size≤b)∧(∀ x c,X.env.cells.lookup x=some c→c≠b)∧∀ p∈X.pn++aa,p.1≠b
theorem Inv.nR (I:Inv X aa σ H s) (hb:s.heap.objs.size≤b) (hn:H' b=none):fC X aa H' b:=by
 refine ⟨hn,TH (RG I.lt hb),I.LU hb,.inr (Q4 I.sz hb),fun x c e z=>?_,fun p hp z=>?_⟩
 ·obtain ⟨v,q⟩:=I.cell x c e
  exact absurd (RG q.lt (by rw [z]; exact hb)) (Sv _)
 ·exact absurd (RG (QX (I.pin p hp).1) (by rw [z]; exact hb)) (Sv _)
structure Turn (P:Program) (w:World) (K:QM) (tg:Expr) (J:It) (fp:List Addr) (it:Addr) (tn:Nat→Heap→Prop):Prop where
 mem:it∈fp
 obj:∀ i h,tn i h→∀ b∈fp,∃ o,h.get? b=some o∧∀ v,o.data≠.cell v
 keep:∀ i h h',tn i h→(∀ b∈fp,∀ o,h.get? b=some o→h'.get? b=some o)→tn i h'
 item:∀ (X:Cx),X.prog=P→X.w=w→X.K=K→X.calm=true→∀ (i:Nat) (aa:List (Addr×Obj)) (s:Shared) (σ:St) (H:Hp) (E:Value→Shared→Prop),Inv X aa σ H s→(∀ b∈fp,fC X aa H b)→tn i s.heap→J.go i H →
  wpAny (model P w) X.A (pyNext (.ref it)) (fun r s1=>∃ u,r=some u ∧
   wpAny (model P w) X.A (letOwnedTupleGo tg (.ref it) u) (fun _ s2=>∃ x H',Inv X aa σ H' s2∧RelV x u∧J.yld i H x H'∧tn (i+1) s2.heap∧∀ b∈fp,H' b=none) E s1) E s
 done:∀ (X:Cx),X.prog=P→X.w=w→X.K=K→X.calm=true→∀ (i:Nat) (aa:List (Addr×Obj)) (s:Shared) (σ:St) (H:Hp) (E:Value→Shared→Prop),Inv X aa σ H s→(∀ b∈fp,fC X aa H b)→tn i s.heap→J.stop i H →
  wpAny (model P w) X.A (pyNext (.ref it)) (fun r s1=>r=none∧Inv X aa σ H s1) E s
 self:∀ (A:Around) (i:Nat) (s:Shared) (Q:Value→Shared→Prop) (E:Value→Shared→Prop),tn i s.heap→Q (.ref it) s→wpAny (model P w) A (pyIter (.ref it)) Q E s
noncomputable abbrev TI:=St→Hp→(It→Hp→Prop)→Prop
noncomputable def O5 (X:Cx) (aa:List (Addr×Obj)) (σ:St) (tg:Expr) (R:It→Hp→Prop) (itv:Value) (s2:Shared):Prop :=
 ∃ (it:Addr) (fp:List Addr) (tn:Nat→Heap→Prop) (J:It) (H':Hp),itv=.ref it∧Inv X aa σ H' s2∧Turn X.prog X.w X.K tg J fp it tn∧tn 0 s2.heap∧(∀ b∈fp,fC X aa H' b)∧R J H'
noncomputable def PI (X:Cx) (tg iter:Expr) (wi:TI):Prop :=
 ∀ (aa:List (Addr×Obj)) (s:Shared) (σ:St) (H:Hp) (R:It→Hp→Prop),Inv X aa σ H s→wi σ H R →
  wpAny (model X.prog X.w) X.A (eval iter X.env) (fun v s1=>wpAny (model X.prog X.w) X.A (pyIter v) (O5 X aa σ tg R) X.xe s1) X.xe s
theorem rK (ho:s.heap.get? it=some o) (hc:o.cls=.type n) (hd:o.data=.fields vs)
 (hn:["enumerate","zip","dict_itemiterator","dict_reverseitemiterator","odict_iterator","itertools.zip_longest","itertools.pairwise"].contains n=false) (hQ:Q () s):wpAny M A (letOwnedTupleGo tg (.ref it) u) Q E s:=by
 unfold letOwnedTupleGo
 cases tg <;> first
  | exact QN hQ
  | (cases u <;> first
      | exact QN hQ
      | (refine QL (wpAny_load ho ?_)
         rw [hc,hd]
         show wpAny M A (if (["enumerate","zip","dict_itemiterator","dict_reverseitemiterator","odict_iterator","itertools.zip_longest","itertools.pairwise"].contains n && vs[0]? == some (rawInt _))=true then _ else _) Q E s
         rw [if_neg (by intro h; rw [hn,Bool.false_and] at h; cases h)]
         exact QN hQ))
noncomputable def O6 (K:QM) (a:Addr):It :=
 ⟨fun i H=>∃ xs x,gn K H a xs∧xs[i]?=some x,fun i H x H'=>H'=H∧∀ xs,gn K H a xs→xs[i]?=some x,fun i H=>∃ xs,gn K H a xs∧xs.length≤i⟩
noncomputable def O7 (K:QM) (a:Addr):It :=
 ⟨fun i H=>∃ xs x,dw K H a xs∧xs[i]?=some x,fun i H x H'=>H'=H∧∀ xs,dw K H a xs→xs[i]?=some x,fun i H=>∃ xs,dw K H a xs∧xs.length≤i⟩
noncomputable def OA (lo:Int) (n:Nat):It:=⟨fun i _=>i<n,fun i H x H'=>H'=H∧x=.int (lo+i),fun i _=>n≤i⟩
theorem yw {P:Program} {w:World} {K:QM} {tg:Expr} (a it:Addr):Turn P w K tg (O6 K a) [it] it (fun i h=>h.IsListIter it a i) where
 mem:=by simp
 obj:=fun i h st b hb=>by
  have e:b=it:=by simpa using hb
  subst e
  obtain ⟨o,e,c,d⟩:=st
  exact ⟨o,e,fun v z=>by rw [d] at z; cases z⟩
 keep:=fun i h h' st k=>st.at fun o e=>k it (by simp) o e
 item:=by
  intro X hP hw hK hc i aa s σ H E I hf st hg
  subst hP hw hK
  obtain ⟨xs,x,hq,hx⟩:=hg
  obtain ⟨its,rv,p,hz⟩:=I.list hq
  obtain ⟨u,hu,ru⟩:=rv.get hx
  obtain ⟨f0,f1,f2,f3,f4,f5⟩:=hf it (by simp)
  refine wpAny_pyNext_list_item st p.isList (x:=u) (by simpa using hu) fun h' st' sb=>?_
  have I1:Inv X aa σ H { s with heap:=h' }:=I.turned (t':=s.toks) (fun b o hb e=>(sb.2 b hb).trans e) f0 f1 f3 f4 f5
  obtain ⟨o,e,c,d⟩:=id st'
  exact ⟨u,rfl,rK (s:={ s with heap:=h' }) e c d (by decide) ⟨x,H,I1,ru,⟨rfl,fun ys hy=>by rw [I.lJ hy hq]; exact hx⟩,st',fun b hb=>(hf b hb).1⟩⟩
 done:=by
  intro X hP hw hK hc i aa s σ H E I hf st hg
  subst hP hw hK
  obtain ⟨xs,hq,hx⟩:=hg
  obtain ⟨its,rv,p,hz⟩:=I.list hq
  obtain ⟨f0,f1,f2,f3,f4,f5⟩:=hf it (by simp)
  have hl:=rv.length
  exact wpAny_pyNext_list_end (I.ok.hd hc) st p.isList (by simp; lia) fun h' eb=>⟨rfl,I.turned (t':=s.toks) (fun b o hb e=>eb b o hb e) f0 f1 f3 f4 f5⟩
 self:=fun _ _ _ _ _ st h=>wpAny_pyIter_listiter st h
theorem uO {P:Program} {w:World} {K:QM} {tg:Expr} (a it:Addr):Turn P w K tg (O7 K a) [it] it (fun i h=>h.IsTupleIter it a i) where
 mem:=by simp
 obj:=fun i h st b hb=>by
  have e:b=it:=by simpa using hb
  subst e
  obtain ⟨o,e,c,d⟩:=st
  exact ⟨o,e,fun v z=>by rw [d] at z; cases z⟩
 keep:=fun i h h' st k=>st.at fun o e=>k it (by simp) o e
 item:=by
  intro X hP hw hK hc i aa s σ H E I hf st hg
  subst hP hw hK
  obtain ⟨xs,x,hq,hx⟩:=hg
  obtain ⟨its,rv,p,hz⟩:=I.tuple hq
  obtain ⟨u,hu,ru⟩:=rv.get hx
  obtain ⟨f0,f1,f2,f3,f4,f5⟩:=hf it (by simp)
  refine wpAny_pyNext_tuple_item st (show s.heap.IsTuple a its.toArray from p) (x:=u) (by simpa using hu) fun h' st' sb=>?_
  have I1:Inv X aa σ H { s with heap:=h' }:=I.turned (t':=s.toks) (fun b o hb e=>(sb.2 b hb).trans e) f0 f1 f3 f4 f5
  obtain ⟨o,e,c,d⟩:=id st'
  exact ⟨u,rfl,rK (s:={ s with heap:=h' }) e c d (by decide) ⟨x,H,I1,ru,⟨rfl,fun ys hy=>by rw [I.gW hy hq]; exact hx⟩,st',fun b hb=>(hf b hb).1⟩⟩
 done:=by
  intro X hP hw hK hc i aa s σ H E I hf st hg
  subst hP hw hK
  obtain ⟨xs,hq,hx⟩:=hg
  obtain ⟨its,rv,p,hz⟩:=I.tuple hq
  obtain ⟨f0,f1,f2,f3,f4,f5⟩:=hf it (by simp)
  have hl:=rv.length
  exact wpAny_pyNext_tuple_end (I.ok.hd hc) st (show s.heap.IsTuple a its.toArray from p) (by simp; lia) fun h' eb=>⟨rfl,I.turned (t':=s.toks) (fun b o hb e=>eb b o hb e) f0 f1 f3 f4 f5⟩
 self:=fun _ _ _ _ _ st h=>wpAny_pyIter_tupleiter st h
theorem uP {P:Program} {w:World} {K:QM} {tg:Expr} (it:Addr) (lo:Int) (n:Nat):Turn P w K tg (OA lo n) [it] it (fun i h=>IsRangeIter h it (lo+(i:Nat) * 1) ((n:Int) - (i:Nat)) 1) where
 mem:=by simp
 obj:=fun i h st b hb=>by
  have e:b=it:=by simpa using hb
  subst e
  exact ⟨_,st,fun v z=>by
   have z':Vd _=Uk v:=z
   cases z'⟩
 keep:=fun i h h' st k=>k it (by simp) _ st
 item:=by
  intro X hP hw hK hc i aa s σ H E I hf st hg
  subst hP hw hK
  obtain ⟨f0,f1,f2,f3,f4,f5⟩:=hf it (by simp)
  have W:=Walks.range (prog:=X.prog) (w:=X.w) (I.ok.hd hc) it lo 1 n
  refine W.item i s _ _ hg st fun v h' tk hv st' kk=>?_
  obtain ⟨t,rfl⟩:=hv
  have I1:Inv X aa σ H { s with heap:=h',toks:=tk }:=I.turned (fun b o hb e=>kk b o (by simpa using hb) e) f0 f1 f3 f4 f5
  refine ⟨_,rfl,rK (s:={ s with heap:=h',toks:=tk }) (n:="range_iterator") st' rfl rfl (by decide) ⟨.int (lo+i),H,I1,⟨t,?_⟩,⟨rfl,rfl⟩,st',fun b hb=>(hf b hb).1⟩⟩
  rw [Int.mul_one]
 done:=by
  intro X hP hw hK hc i aa s σ H E I hf st hg
  subst hP hw hK
  obtain ⟨f0,f1,f2,f3,f4,f5⟩:=hf it (by simp)
  exact wpAny_pyNext_range_end (I.ok.hd hc) st (by have:n≤i:=hg; lia) fun h' eb=>⟨rfl,I.turned (t':=s.toks) (fun b o hb e=>eb b o hb e) f0 f1 f3 f4 f5⟩
 self:=fun _ _ _ _ _ st h=>wpAny_pyIter_rangeiter st h
section
theorem AH {lo hi:Int} (I:Inv X aa σ H s) (h1: -(2 ^ 62)≤lo) (h2:lo<2 ^ 62) (h3: -(2 ^ 62)≤hi) (h4:hi<2 ^ 62)
 (q:R (OA lo (hi - lo).toNat) H):wpAny (model X.prog X.w) X.A (pyIter (.ref s.heap.objs.size)) (O5 X aa σ tg R) E { s with heap:=s.heap.push { cls:=.type "range",data:=.fields #[.int lo t,.int hi u,.int 1 v] },toks:=tk }:=by
 refine wpAny_pyIter_range (IsRange.new ..) (small_one h1 h2 h3 h4) ?_
 have I1:Inv X aa σ H { s with heap:=s.heap.push { cls:=.type "range",data:=.fields #[.int lo t,.int hi u,.int 1 v] },toks:=tk }:=I.kept fun b o e=>QV _ e
 refine ⟨(s.heap.push { cls:=.type "range",data:=.fields #[.int lo t,.int hi u,.int 1 v] }).objs.size,[(s.heap.push { cls:=.type "range",data:=.fields #[.int lo t,.int hi u,.int 1 v] }).objs.size],_,_,H,rfl,
  I1.kept (t':=tk) fun b o e=>QV _ e,uP _ lo (hi - lo).toNat,?_,fun b hb=>?_,q⟩
 ·have e1:lo+((0:Nat):Int) * 1=lo:=by simp
  have e2:(((hi - lo).toNat:Nat):Int) - ((0:Nat):Int)=Vr lo hi 1:=by rw [rangeSize_one]; split <;> lia
  show IsRangeIter _ _ (lo+((0:Nat):Int) * 1) ((((hi - lo).toNat:Nat):Int) - ((0:Nat):Int)) 1
  rw [e1,e2]
  exact Q5 _ rfl
 ·have e:b=(s.heap.push { cls:=.type "range",data:=.fields #[.int lo t,.int hi u,.int 1 v] }).objs.size:=by simpa using hb
  subst e
  exact I1.nR (QS _) (I1.hok.fresh (QS _))
noncomputable def Mb (ta:TA):TI:=fun σ H R=>ta σ H fun vs H1=>∃ j:Int,vs=[.int j]∧ -(2 ^ 62)≤j∧j<2 ^ 62∧R (OA 0 j.toNat) H1
theorem yx (hg:Gl X "range") (hm:X.mg "range"=none) (ha:PA X [a] ta) (hs:starEach [a] X.env=[(false,eval a X.env)]:=by rfl):PI X tg (.Call (.Name "range" p) [a] [] pos) (Mb ta):=by
 intro aa s σ H R I h
 refine Call_ (cX I hg hm boot_range (Uo (bD (ha pos aa s σ H _ I h) fun us s1 ⟨vs,H1,I1,r1,q1⟩=>?_) hs rfl))
 obtain ⟨j,e,q1,q2,q⟩:=q1
 subst e
 cases r1 with
 | cons r rr =>
  cases rr
  obtain ⟨t,rfl⟩:=r
  exact call_range_1 (AH I1 (by lia) (by lia) q1 q2 (by simpa using q))
noncomputable def O8 (wi:TI) (g:TG) (tb:TS):TS:=fun D σ H=>wi σ H fun J H1=>∃ W:Nat→Nat→St→Hp→Prop,(∃ m,W 0 m σ H1)∧∀ i m σ H,W i m σ H →
 (J.stop i H∧D.nx σ H)∨(J.go i H∧∃ N:St→Hp→Prop,(∀ σ' H',N σ' H'→∃ m',m'<m∧W (i+1) m' σ' H')∧∀ x H',J.yld i H x H'→g x σ H' fun σ2 H2=>tb { D with nx:=N,ct:=N,bk:=D.nx } σ2 H2)
noncomputable def jJ (fp:List Addr) (h:Heap):List (Addr×Obj):=fp.filterMap fun b=>(h.get? b).map fun o=>(b,o)
theorem dZ (hb:b∈fp) (e:h.get? b=some o):(b,o)∈jJ fp h:=List.mem_filterMap.mpr ⟨b,hb,by rw [e]; rfl⟩
theorem yy (hp:p∈jJ fp h):p.1∈fp∧h.get? p.1=some p.2:=by
 obtain ⟨b,hb,e⟩:=List.mem_filterMap.mp hp
 cases q:h.get? b with
 | none=>rw [q] at e; cases e
 | some o =>
  rw [q] at e
  have e':(b,o)=p:=Sz e
  subst e'
  exact ⟨hb,q⟩
theorem Inv.pinned (I:Inv X aa σ H s) (hf:∀ b∈fp,fC X aa H b) (ho:∀ b∈fp,∃ o,s.heap.get? b=some o∧∀ v,o.data≠.cell v):Inv X (aa++jJ fp s.heap) σ H s :=
 I.wC fun p hp=>(Rg.mp hp).elim (fun z=>I.pin p (RY _ z)) fun z=>by
  obtain ⟨hb,e⟩:=yy z
  obtain ⟨f0,f1,f2,_⟩:=hf p.1 hb
  obtain ⟨o,e',d⟩:=ho p.1 hb
  rw [e] at e'; cases e'
  exact ⟨e,f0,f1,f2,d⟩
theorem Inv.fD (I:Inv X (aa++pl) σ H s):Inv X aa σ H s:=I.wC fun p hp=>I.pin p (RY _ (Tj _ hp))
theorem Je (hp:PassesOwn (model X.prog X.w) X.A X.env X.xe) (hc:X.calm=true) (hi:PI X tg iter wi) (hg:PG X tg g) (hb:uI X body tb)
 (hs:∀ x,foldedSetIterable iter X.env x=pure x:=by intro _; rfl):PS X (.For tg iter body [] pos) (O8 wi g tb):=by
 intro aa s σ H D I h
 refine wpAny_For (bD (hi aa s σ H _ I h) fun v s1 h1=>bD h1 fun itv s2 h2=>?_) hs
 obtain ⟨it,fp,tn,J,H2,e,I2,T,st2,f2,W,⟨m0,w0⟩,turn⟩:=h2
 subst e
 have stat:∀ {H':Hp},(∀ b∈fp,H' b=none)→∀ b∈fp,fC X aa H' b:=fun hn b hb=>⟨hn b hb,(f2 b hb).2⟩
 refine codeAny_forLoop_any (fun n s'=>∃ i σ' H',Inv X aa σ' H' s'∧tn i s'.heap∧(∀ b∈fp,H' b=none)∧W i n σ' H') ?_ m0 ⟨0,σ,H2,I2,st2,fun b hb=>(f2 b hb).1,w0⟩
 rintro n s3 ⟨i,σ3,H3,I3,st3,fr3,w3⟩
 rcases turn i n σ3 H3 w3 with ⟨stop,qn⟩ | ⟨go,N,hN,step⟩
 ·refine T7 hp (bD (T.done X rfl rfl rfl hc i aa s3 σ3 H3 X.xe I3 (stat fr3) st3 stop) fun r s4 ⟨hr,I4⟩=>?_)
  subst hr
  exact wpAny_execs_nil ⟨σ3,H3,I4,qn⟩
 ·refine T7 hp (bD (T.item X rfl rfl rfl hc i aa s3 σ3 H3 X.xe I3 (stat fr3) st3 go) fun r s4 ⟨u,hr,h4⟩=>?_)
  subst hr
  refine T7 hp (bD h4 fun _ s5 ⟨x,H5,I5,r5,y5,st5,fr5⟩=>?_)
  have I5':=I5.pinned (stat fr5) (T.obj _ _ st5)
  refine T7 hp (bD (hg _ s5 σ3 H5 x u _ I5' r5 (step x H5 y5)) fun _ s6 ⟨σ6,H6,I6,q6⟩=>?_)
  refine T7 hp (bD (hb _ s6 σ6 H6 _ I6 q6) fun f s7 q7=>?_)
  have again:∀ {σ7:St} {H7:Hp},Inv X (aa++jJ fp s5.heap) σ7 H7 s7→N σ7 H7→∃ m,m<n∧∃ i σ' H',Inv X aa σ' H' s7∧tn i s7.heap∧(∀ b∈fp,H' b=none)∧W i m σ' H':=fun {σ7 H7} I7 n7=>by
   obtain ⟨m',hm,w7⟩:=hN σ7 H7 n7
   refine ⟨m',hm,i+1,σ7,H7,I7.fD,T.keep _ _ _ st5 fun b hb o e=>(I7.pin (b,o) (RY _ (RY _ (dZ hb e)))).1,fun b hb=>?_,w7⟩
   obtain ⟨o,e,d⟩:=T.obj _ _ st5 b hb
   exact (I7.pin (b,o) (RY _ (RY _ (dZ hb e)))).2.1
  cases f with
  | next=>obtain ⟨σ7,H7,I7,n7⟩:=q7; exact again I7 n7
  | cont=>obtain ⟨σ7,H7,I7,n7⟩:=q7; exact again I7 n7
  | brk=>obtain ⟨σ7,H7,I7,q7⟩:=q7; exact ⟨σ7,H7,I7.fD,q7⟩
  | ret v=>obtain ⟨x7,σ7,H7,I7,r7,q7⟩:=q7; exact ⟨x7,σ7,H7,I7.fD,r7,q7⟩
end
noncomputable abbrev R2:=V→V→Hp→VK→Prop
noncomputable def fR (X:Cx) (f:Value→Value→Sem Value) (r:R2):Prop :=
 ∀ (aa:List (Addr×Obj)) (s:Shared) (σ:St) (H:Hp) (x y:V) (v u:Value) (Q:VK),Inv X aa σ H s→RelV x v→RelV y u→r x y H Q →
  wpAny (model X.prog X.w) X.A (f v u) (EP X aa σ Q) X.xe s
noncomputable def O9 (X:Cx) (f:Value→Sem Value) (r:V→Hp→VK→Prop):Prop :=
 ∀ (aa:List (Addr×Obj)) (s:Shared) (σ:St) (H:Hp) (x:V) (v:Value) (Q:VK),Inv X aa σ H s→RelV x v→r x H Q →
  wpAny (model X.prog X.w) X.A (f v) (EP X aa σ Q) X.xe s
noncomputable def fE (X:Cx) (f:Value) (r:List V→Hp→VK→Prop):Prop :=
 ∀ (aa:List (Addr×Obj)) (s:Shared) (σ:St) (H:Hp) (xs:List V) (us:List Value) (Q:VK),Inv X aa σ H s→Vals xs us→r xs H Q →
  wpAny (model X.prog X.w) X.A (call f us) (EP X aa σ Q) X.xe s
noncomputable def OB (r:R2) (ta tb:TE):TE:=fun σ H Q=>ta σ H fun x H1=>tb σ H1 fun y H2=>r x y H2 Q
noncomputable def Qw (r:V→Hp→VK→Prop) (ta:TE):TE:=fun σ H Q=>ta σ H fun x H1=>r x H1 Q
noncomputable def rI (C:Int→Int→Prop) (g:Int→Int→V):R2:=fun x y H Q=>∃ i j,x=.int i∧y=.int j∧C i j∧Q (g i j) H
noncomputable def yz (g:Int→Int→V):R2:=fun x y H Q=>∃ i j,x=.int i∧y=.int j∧Q (g i j) H
noncomputable def rU (g:Int→V):V→Hp→VK→Prop:=fun x H Q=>∃ i,x=.int i∧Q (g i) H
section
theorem Jf (ha:PE X a ta) (hb:PE X b tb) {R:V→V→Hp→Prop} (I:Inv X aa σ H s)
 (h:ta σ H fun x H1=>tb σ H1 fun y H2=>R x y H2) {f:Value→Value→Sem Value}
 (hf:∀ v u s2 x y H2,Inv X aa σ H2 s2→RelV x v→RelV y u→R x y H2→wpAny (model X.prog X.w) X.A (f v u) Q X.xe s2) :
 wpAny (model X.prog X.w) X.A (eval a X.env) (fun v s₁=>wpAny (model X.prog X.w) X.A (eval b X.env) (fun u s₂=>wpAny (model X.prog X.w) X.A (f v u) Q X.xe s₂) X.xe s₁) X.xe s:=by
 refine bD (ha aa s σ H _ I h) fun v s1 ⟨x,H1,I1,r1,q1⟩=>?_
 refine bD (hb aa s1 σ H1 _ I1 q1) fun u s2 ⟨y,H2,I2,r2,q2⟩=>?_
 exact hf v u s2 x y H2 I2 r1 r2 q2
theorem AI (ho:fR X (binaryOp op) r) (ha:PE X a ta) (hb:PE X b tb):PE X (.BinOp a op b pos) (OB r ta tb):=by
 intro aa s σ H Q I h
 exact wpAny_BinOp (Jf ha hb I h fun v u s2 x y H2 I2 rx ry q=>ho aa s2 σ H2 x y v u Q I2 rx ry q)
theorem Mc (ho:O9 X (unaryOp op) r) (ha:PE X a ta):PE X (.UnaryOp op a pos) (Qw r ta):=by
 intro aa s σ H Q I h
 exact UnaryOp_ (bD (ha aa s σ H _ I h) fun v s1 ⟨x,H1,I1,r1,q1⟩=>ho aa s1 σ H1 x v Q I1 r1 q1)
theorem Jg {g:Int→Int→Int}
 (rule:∀ (i j:Int) (t u:Tok) (s:Shared) (Q:Value→Shared→Prop) (E:Value→Shared→Prop),C i j→Q (.int (g i j) s.toks) { s with toks:=s.toks+1 }→wpAny (model X.prog X.w) X.A (f (.int i t) (.int j u)) Q E s) :
 fR X f (rI C fun i j=>.int (g i j)):=by
 intro aa s σ H x y v u Q I rx ry h
 obtain ⟨i,j,rfl,rfl,hc,q⟩:=h
 obtain ⟨t,rfl⟩:=rx
 obtain ⟨t',rfl⟩:=ry
 exact rule i j t t' s _ _ hc ⟨.int (g i j),H,I.tok _,⟨_,rfl⟩,q⟩
theorem AJ {g:Int→Int→Int}
 (rule:∀ (i j:Int) (t u:Tok) (s:Shared) (Q:Value→Shared→Prop) (E:Value→Shared→Prop),Q (.int (g i j) s.toks) { s with toks:=s.toks+1 }→wpAny (model X.prog X.w) X.A (f (.int i t) (.int j u)) Q E s) :
 fR X f (yz fun i j=>.int (g i j)):=by
 intro aa s σ H x y v u Q I rx ry h
 obtain ⟨i,j,rfl,rfl,q⟩:=h
 obtain ⟨t,rfl⟩:=rx
 obtain ⟨t',rfl⟩:=ry
 exact rule i j t t' s _ _ ⟨.int (g i j),H,I.tok _,⟨_,rfl⟩,q⟩
theorem Me {g:Int→Int→Bool}
 (rule:∀ (i j:Int) (t u:Tok) (s:Shared) (Q:Value→Shared→Prop) (E:Value→Shared→Prop),Q (.bool (g i j)) s→wpAny (model X.prog X.w) X.A (f (.int i t) (.int j u)) Q E s) :
 fR X f (yz fun i j=>.bl (g i j)):=by
 intro aa s σ H x y v u Q I rx ry h
 obtain ⟨i,j,rfl,rfl,q⟩:=h
 obtain ⟨t,rfl⟩:=rx
 obtain ⟨t',rfl⟩:=ry
 exact rule i j t t' s _ _ ⟨.bl (g i j),H,I,rfl,q⟩
noncomputable def yC (i j:Int):Prop:=0≤j∧j≤1000000∧i.natAbs<2 ^ 64
theorem uQ (k):(0:Int)≤2 ^ k:=by
 rw [two_pow_cast]
 exact Int.natCast_nonneg _
theorem Jh:fR X (binaryOp .Add) (yz fun i j=>.int (i+j)):=AJ fun _ _ _ _ _ _ _ q=>add_int q
theorem Ji:fR X (binaryOp .Sub) (yz fun i j=>.int (i - j)):=AJ fun _ _ _ _ _ _ _ q=>sub_int q
theorem Jj:fR X (binaryOp .Mod) (rI (fun _ j=>0<j) fun i j=>.int (i % j)):=Jg fun i j _ _ _ _ _ hc q=>by
 have h1:(0:Int)<j:=hc
 exact mod_int' (by lia) (by rw [Int.fmod_eq_emod_of_nonneg i (by lia)]; exact q)
theorem Jk:fR X (binaryOp .Pow) (rI yC fun i j=>.int (i ^ j.toNat)):=Jg fun _ _ _ _ _ _ _ hc q=>pow_int_small hc.1 hc.2.1 hc.2.2 q
theorem Jl:fR X (binaryOp .LShift) (rI yC fun i j=>.int (i * 2 ^ j.toNat)):=Jg fun _ _ _ _ _ _ _ hc q=>lshift_int_small hc.1 hc.2.1 hc.2.2 q
theorem Jm:fR X (binaryOp .RShift) (rI (fun _ j=>0≤j) fun i j=>.int (i / 2 ^ j.toNat)):=Jg fun i j _ _ _ _ _ hc q =>
 rshift_int hc (by rw [Int.fdiv_eq_ediv_of_nonneg i (uQ _)]; exact q)
theorem Jo:fR X (binaryOp .BitAnd) (yz fun i j=>.int (Builtin.bitAnd i j)):=AJ fun _ _ _ _ _ _ _ q=>and_int q
theorem EO:fR X (inplaceOp .Add) (yz fun i j=>.int (i+j)):=AJ fun _ _ _ _ _ _ _ q=>iadd_int q
theorem ER:fR X (inplaceOp .Sub) (yz fun i j=>.int (i - j)):=AJ fun _ _ _ _ _ _ _ q=>isub_int q
theorem Qx {g:Int→Int}
 (rule:∀ (i:Int) (t:Tok) (s:Shared) (Q:Value→Shared→Prop) (E:Value→Shared→Prop),Q (.int (g i) s.toks) { s with toks:=s.toks+1 }→wpAny (model X.prog X.w) X.A (f (.int i t)) Q E s) :
 O9 X f (rU fun i=>.int (g i)):=by
 intro aa s σ H x v Q I rx h
 obtain ⟨i,rfl,q⟩:=h
 obtain ⟨t,rfl⟩:=rx
 exact rule i t s _ _ ⟨.int (g i),H,I.tok _,⟨_,rfl⟩,q⟩
theorem Jp:O9 X (unaryOp .USub) (rU fun i=>.int (-i)):=Qx fun _ _ _ _ _ q=>neg_int q
end
noncomputable def ES:V→V→Bool
 | .non,.non=>true | .non,.int _=>true | .int _,.non=>true | .non,.bl _=>true | .bl _,.non=>true | .non,.str _=>true | .str _,.non=>true
 | .int _,.int _=>true | .bl _,.bl _=>true | .str _,.str _=>true | .byt _,.byt _=>true
 | .int _,.str _=>true | .str _,.int _=>true | .bl _,.str _=>true | .str _,.bl _=>true
 | _,_=>false
noncomputable def Qy:R2:=fun x y H Q=>ES x y=true∧Q (.bl (decide (x=y))) H
noncomputable def Qz:R2:=fun x y H Q=>ES x y=true∧Q (.bl (!decide (x=y))) H
theorem wF:decide (V.int i=V.int j)=(i == j):=by
 rw [U3]
 simp
theorem AK:decide (V.bl i=V.bl j)=(i == j):=by
 rw [U3]
 simp
theorem wG:decide (V.str i=V.str j)=(i == j):=by
 rw [U3]
 simp
theorem wH:decide (V.byt i=V.byt j)=(i.toList == j.toList):=by
 rw [U3]
 cases i
 cases j
 simp
section
theorem bh (I:Inv X aa σ H s) (q:Q (.bl k) H) (e:k=k'):EP X aa σ Q (.bool k') s:=by
 subst e
 exact ⟨.bl k,H,I,rfl,q⟩
theorem Mf:fR X (compareOp .Eq) Qy:=by
 intro aa s σ H x y v u Q I rx ry h
 obtain ⟨hs,q⟩:=h
 cases x with
 | non =>
  cases rx
  cases y with
  | non=>cases ry; exact PySem.EqNone.eq_none_none (bh I q (by simp))
  | bl j=>cases ry; exact PySem.EqNone.eq_none_bool (bh I q (by simp))
  | int j=>obtain ⟨t',rfl⟩:=ry; exact PySem.EqNone.eq_none_int (bh I q (by simp))
  | str j=>obtain ⟨t',rfl⟩:=ry; exact PySem.EqNone.eq_none_str (bh I q (by simp))
  | _=>exact absurd (show false=true from hs) QZ
 | bl i =>
  cases rx
  cases y with
  | non=>cases ry; exact PySem.EqNone.eq_bool_none (bh I q (by simp))
  | bl j=>cases ry; exact eq_bool (bh I q AK)
  | str j=>obtain ⟨t',rfl⟩:=ry; exact PySem.EqMixed.eq_bool_str (bh I q (by simp))
  | _=>exact absurd (show false=true from hs) QZ
 | int i =>
  obtain ⟨t,rfl⟩:=rx
  cases y with
  | non=>cases ry; exact PySem.EqNone.eq_int_none (bh I q (by simp))
  | int j=>obtain ⟨t',rfl⟩:=ry; exact eq_int (bh I q wF)
  | str j=>obtain ⟨t',rfl⟩:=ry; exact PySem.EqMixed.eq_int_str (bh I q (by simp))
  | _=>exact absurd (show false=true from hs) QZ
 | str i =>
  obtain ⟨t,rfl⟩:=rx
  cases y with
  | non=>cases ry; exact PySem.EqNone.eq_str_none (bh I q (by simp))
  | bl j=>cases ry; exact PySem.EqMixed.eq_str_bool (bh I q (by simp))
  | int j=>obtain ⟨t',rfl⟩:=ry; exact PySem.EqMixed.eq_str_int (bh I q (by simp))
  | str j=>obtain ⟨t',rfl⟩:=ry; exact eq_str (bh I q wG)
  | _=>exact absurd (show false=true from hs) QZ
 | byt i =>
  obtain ⟨t,rfl⟩:=rx
  cases y with
  | byt j=>obtain ⟨t',rfl⟩:=ry; exact PySem.W.eq_bytes (bh I q wH)
  | _=>exact absurd (show false=true from hs) QZ
 | _=>cases y <;> exact absurd (show false=true from hs) QZ
theorem Mg:fR X (compareOp .NotEq) Qz:=by
 intro aa s σ H x y v u Q I rx ry h
 obtain ⟨hs,q⟩:=h
 cases x with
 | non =>
  cases rx
  cases y with
  | non=>cases ry; exact PySem.EqNone.ne_none_none (bh I q (by simp))
  | bl j=>cases ry; exact PySem.EqNone.ne_none_bool (bh I q (by simp))
  | int j=>obtain ⟨t',rfl⟩:=ry; exact PySem.EqNone.ne_none_int (bh I q (by simp))
  | str j=>obtain ⟨t',rfl⟩:=ry; exact PySem.EqNone.ne_none_str (bh I q (by simp))
  | _=>exact absurd (show false=true from hs) QZ
 | bl i =>
  cases rx
  cases y with
  | non=>cases ry; exact PySem.EqNone.ne_bool_none (bh I q (by simp))
  | bl j=>cases ry; exact ne_bool (bh I q (congrArg not AK))
  | str j=>obtain ⟨t',rfl⟩:=ry; exact PySem.EqMixed.ne_bool_str (bh I q (by simp))
  | _=>exact absurd (show false=true from hs) QZ
 | int i =>
  obtain ⟨t,rfl⟩:=rx
  cases y with
  | non=>cases ry; exact PySem.EqNone.ne_int_none (bh I q (by simp))
  | int j=>obtain ⟨t',rfl⟩:=ry; exact ne_int (bh I q (congrArg not wF))
  | str j=>obtain ⟨t',rfl⟩:=ry; exact PySem.EqMixed.ne_int_str (bh I q (by simp))
  | _=>exact absurd (show false=true from hs) QZ
 | str i =>
  obtain ⟨t,rfl⟩:=rx
  cases y with
  | non=>cases ry; exact PySem.EqNone.ne_str_none (bh I q (by simp))
  | bl j=>cases ry; exact PySem.EqMixed.ne_str_bool (bh I q (by simp))
  | int j=>obtain ⟨t',rfl⟩:=ry; exact PySem.EqMixed.ne_str_int (bh I q (by simp))
  | str j=>obtain ⟨t',rfl⟩:=ry; exact ne_str (bh I q (congrArg not wG))
  | _=>exact absurd (show false=true from hs) QZ
 | byt i =>
  obtain ⟨t,rfl⟩:=rx
  cases y with
  | byt j=>obtain ⟨t',rfl⟩:=ry; exact PySem.W.ne_bytes (bh I q (congrArg not wH))
  | _=>exact absurd (show false=true from hs) QZ
 | _=>cases y <;> exact absurd (show false=true from hs) QZ
theorem Mh:fR X (compareOp .Lt) (yz fun i j=>.bl (decide (i<j))):=Me fun _ _ _ _ _ _ _ q=>lt_int q
theorem Mi:fR X (compareOp .Gt) (yz fun i j=>.bl (decide (j<i))):=Me fun _ _ _ _ _ _ _ q=>gt_int q
theorem fR.or (h:fR X f r) (h':fR X f r'):fR X f (fun x y H Q=>r x y H Q∨r' x y H Q):=by
 intro aa s σ H x y v u Q I rx ry q
 rcases q with q | q
 ·exact h aa s σ H x y v u Q I rx ry q
 ·exact h' aa s σ H x y v u Q I rx ry q
theorem lK (b) (h:op≠.In:=by decide) (h2:op≠.NotIn:=by decide):behindInMarks op b=false:=by
 have e1:(op == CmpOp.In)=false:=by cases op <;> first | rfl | exact absurd rfl h
 have e2:(op == CmpOp.NotIn)=false:=by cases op <;> first | rfl | exact absurd rfl h2
 cases b <;> simp [behindInMarks,e1,e2]
theorem ET (ho:fR X (compareOp op) r) (ha:PE X a ta) (hb:PE X b tb) (hm:behindInMarks op b=false):PE X (.Compare a [op] [b] pos) (OB r ta tb):=by
 intro aa s σ H Q I h
 exact wpAny_Compare1 (Jf ha hb I h fun v u s2 x y H2 I2 rx ry q=>ho aa s2 σ H2 x y v u Q I2 rx ry q) hm
noncomputable def Mj (t:TE):TT:=fun σ H Q=>t σ H fun x H'=>∃ k,x=.bl k∧Q k H'
theorem EU (ho:fR X (compareOp op) r) (ha:PE X a ta) (hb:PE X b tb) (hm:behindInMarks op b=false):PT X (.Compare a [op] [b] pos) (Mj (OB r ta tb)):=by
 intro aa s σ H Q I h
 refine wpAny_isTrue_Compare1 (bD (ha aa s σ H _ I h) fun v s1 ⟨x,H1,I1,r1,q1⟩=>bD (hb aa s1 σ H1 _ I1 q1) fun u s2 ⟨y,H2,I2,r2,q2⟩ =>
  bD (ho aa s2 σ H2 x y v u _ I2 r1 r2 q2) fun c s3 ⟨z,H3,I3,r3,k,e,q3⟩=>?_) hm
 subst e
 cases r3
 exact UB ⟨H3,I3,q3⟩
theorem qf:(sizeLine:Nat)<2 ^ 63:=by rw [sizeLine_eq]; decide
theorem uR:fR X (binaryOp .Add) (fun x y H Q=>∃ i j,x=.str i∧y=.str j∧i.length+j.length≤sizeLine∧Q (.str (i++j)) H):=by
 intro aa s σ H x y v u Q I rx ry h
 obtain ⟨i,j,rfl,rfl,hz,q⟩:=h
 obtain ⟨t,rfl⟩:=rx
 obtain ⟨t',rfl⟩:=ry
 exact add_str (fun t' tk=>⟨.str (i++j),H,I.tok _,⟨_,rfl⟩,q⟩) hz
theorem vals1 (r:Vals [x] us):∃ u,us=[u]∧RelV x u:=by
 cases r with
 | cons r1 r2=>cases r2; exact ⟨_,rfl,r1⟩
theorem vals2 (r:Vals [x,y] us):∃ u w',us=[u,w']∧RelV x u∧RelV y w':=by
 cases r with
 | cons r1 r2 =>
  cases r2 with
  | cons r3 r4=>cases r4; exact ⟨_,_,rfl,r1,r3⟩
theorem AL:fE X (.builtin "abs") (fun xs H Q=>∃ i,xs=[.int i]∧Q (.int (if i<0 then -i else i)) H):=by
 intro aa s σ H xs us Q I r h
 obtain ⟨i,rfl,q⟩:=h
 obtain ⟨u,rfl,t,rfl⟩:=vals1 r
 exact call_abs_int fun u tk=>⟨.int (if i<0 then -i else i),H,I.tok _,⟨_,rfl⟩,q⟩
theorem yD (hc:X.calm=true):fE X (.builtin "max") (fun xs H Q=>∃ i j,xs=[.int i,.int j]∧Q (.int (if j>i then j else i)) H):=by
 intro aa s σ H xs us Q I r h
 obtain ⟨i,j,rfl,q⟩:=h
 obtain ⟨u,w',rfl,⟨t,rfl⟩,⟨t',rfl⟩⟩:=vals2 r
 refine max_two_ints (I.ok.hd hc) fun h' tk k=>⟨_,H,I.kept k,?_,q⟩
 by_cases hj:j>i
 ·rw [if_pos hj,if_pos hj]; exact ⟨_,rfl⟩
 ·rw [if_neg hj,if_neg hj]; exact ⟨_,rfl⟩
end
structure QA (h:Heap) (x dx C:Addr) (mA:Str→Option Value):Prop where
 obj:h.get? x=some (PySem.W.instObj C dx)
 ns:h.Ns1 dx mA
 ne:dx≠x
section
end
theorem kH.some_of (r:kH (some v) o):∃ u,o=some u∧RelV v u:=by
 cases o with
 | none=>exact (show False from r).elim
 | some u=>exact ⟨u,rfl,r⟩
section
end
structure QB (K:QM) (C:Addr):Prop where
 pg:PySem.W.plainGet K C Str.empty=true
 hd:PySem.W.hasDictIn K C=true
 po:PySem.W.plainOver K C=true
 sa:Tr K (.ref C) "__setattr__"=some (some (.builtin "object.__setattr__"))
structure Con (K:QM) (C:Addr) (f:Str) (v:V) (u:Value):Prop where
 at_:Tr K (.ref C) f=some (some u)
 rel:RelV v u
 get:WS K u "__get__"=some none
 cp:PySem.W.copiedNames.contains f=false
structure Meth (K:QM) (C:Addr) (m:Str) (f:Addr):Prop where
 at_:Tr K (.ref C) m=some (some (.ref f))
 fn:PySem.W.isFn K (.ref f)=true
 kp:SK K (.ref f)=true
section
end
noncomputable def Ml (X:Cx) (op:Operator) (rd:V→V→Hp→VK→Prop):Prop :=
 ∀ (aa:List (Addr×Obj)) (s:Shared) (σ:St) (H:Hp) (x y:V) (u v:Value) (Q:VK),Inv X aa σ H s→RelV x u→RelV y v→rd x y H Q→wpAny (model X.prog X.w) X.A (inplaceOp op u v) (EP X aa σ Q) X.xe s
section
end
section
variable {X:Cx} {aa:List (Addr×Obj)} {σ:St} {H:Hp} {s:Shared} {A:Around} {E:Value→Shared→Prop} {Q:Value→Shared→Prop} {c:Value} {b:Bool}
inductive lM (K:QM) (H:Hp):V→Value→Prop where
 | non:lM K H .non (.type "NoneType")
 | bl (x:Bool):lM K H (.bl x) (.type "bool")
 | int (i:Int):lM K H (.int i) (.type "int")
 | str (x:Str):lM K H (.str x) (.type "str")
 | flt (x:UInt64):lM K H (.flt x) (.type "float")
 | lst {a:Addr} {xs:List V} (e:H a=some (.lst xs)):lM K H (.ref a) (.type "list")
 | frz {a:Addr} {o:Obj} {xs:List V} (e:H a=some (.frz o (.lst xs))):lM K H (.ref a) (.type "list")
 | tup {a:Addr} {xs:List V} (e:H a=some (.tup xs)):lM K H (.ref a) (.type "tuple")
 | dK {a:Addr} {kvs:List (Key×V)} (e:H a=some (.dK kvs)):lM K H (.ref a) (.type "dict")
 | dT {a:Addr} {kvs:List (List Key×Addr×V)} (e:H a=some (.dT kvs)):lM K H (.ref a) (.type "dict")
 | ins {a C dx:Addr} {fs:List (Str×V)} (e:H a=some (.ins C dx fs)) (cl:QB K C) (ha:Tr K (.ref C) "__class__"=some (some (.builtin "object.__class__")))
  (hn:WS K (.builtin "object.__class__") "__get__"=some (some (.builtin "getset_descriptor.__get__"))) (htk:PySem.W.takesIn K (.builtin "object.__class__")=some true)
  (hm:V3 K C (.type "object")=some true):lM K H (.ref a) (.ref C)
end
structure iu (k:Nat) (A:Around):Prop where
 hd:A.handled=none
 dp:A.depth+3 * k+5<recursionLimit
 un:A.units+16 * k+200<cLine
theorem iu.mono (r:iu k A) (h:j≤k):iu j A:=⟨r.hd,by have:=r.dp; lia,by have:=r.un; lia⟩
theorem iu.deeper (r:iu (k+1) A) (env:Env):iu k (A.deeper env) :=
 ⟨r.hd,by have:=r.dp; show A.depth+1+3 * k+5<_; lia,by have:=r.un; show A.units+3+16 * k+200<_; lia⟩
theorem iu.depth (r:iu k A):A.depth<recursionLimit:=by have:=r.dp; lia
theorem iu.units (r:iu k A):A.units+64<cLine:=by have:=r.un; lia
noncomputable def Pa:TA:=fun _ H Q=>Q [] H
noncomputable def Mm (ta:TE) (tr:TA):TA:=fun σ H Q=>ta σ H fun x H1=>tr σ H1 fun xs H2=>Q (x::xs) H2
section
theorem cY:PA X [] Pa:=fun _ _ _ _ H Q I h=>Calls.spliced_nil ⟨[],H,I,.nil,h⟩
theorem bL (ha:PE X e te) (hr:PA X es t) (hs:starEach (e::es) X.env=(false,eval e X.env)::starEach es X.env:=by rfl):PA X (e::es) (Mm te t):=by
 intro pos aa s σ H Q I h
 rw [hs]
 show wpAny _ _ (spliced ((false,eval e X.env)::backTo pos (starEach es X.env))) _ _ s
 refine WM (bD (ha aa s σ H _ I h) fun u s1 ⟨x,H1,I1,r1,q1⟩=>?_)
 exact bD (hr pos aa s1 σ H1 _ I1 q1) fun us s2 ⟨xs,H2,I2,r2,q2⟩=>⟨x::xs,H2,I2,.cons r1 r2,q2⟩
noncomputable def Pb (t:TA):TE:=fun σ H Q=>t σ H fun xs H1=>xs.length≤sizeLine∧∀ p,H1 p=none→Q (.ref p) (upd H1 p (.tup xs))
noncomputable def Pc (t:TA):TE:=fun σ H Q=>t σ H fun xs H1=>xs.length≤sizeLine∧∀ p,H1 p=none→Q (.ref p) (upd H1 p (.lst xs))
theorem AM {x1} (h:PA X es t):PE X (.Tuple es x1 pos) (Pb t):=by
 intro aa s σ H Q I hq
 refine wpAny_Tuple_spliced (bD (h pos aa s σ H _ I hq) fun us s1 ⟨xs,H1,I1,r,z,q⟩=>⟨by rw [← r.length]; exact z,?_⟩)
 have hf:H1 s1.heap.objs.size=none:=I1.hok.fresh (QS _)
 refine ⟨.ref s1.heap.objs.size,upd H1 s1.heap.objs.size (.tup xs),I1.laid (t':=s1.toks) (fun b u e=>QV _ e) (QS _) ?_,rfl,q _ hf⟩
 exact ⟨z,us,r,⟨_,Q5 _ rfl,rfl,_,rfl⟩⟩
theorem Jq (h:PA X es t):PE X (.List es pos) (Pc t):=by
 intro aa s σ H Q I hq
 refine wpAny_List_spliced (bD (h pos aa s σ H _ I hq) fun us s1 ⟨xs,H1,I1,r,z,q⟩=>⟨by rw [← r.length]; exact z,?_⟩)
 have hf:H1 s1.heap.objs.size=none:=I1.hok.fresh (QS _)
 refine ⟨.ref s1.heap.objs.size,upd H1 s1.heap.objs.size (.lst xs),I1.laid (t':=s1.toks) (fun b u e=>QV _ e) (QS _) ?_,rfl,q _ hf⟩
 exact ⟨z,us,0,r,Q5 _ rfl⟩
end
noncomputable abbrev Sp:=List V→Hp→VK→XK→Prop
noncomputable abbrev Jr:=List Env→Hp→Shared→XK→Value→Shared→Prop
structure EW (P:Program) (w:World) (K:QM) (mg:Str→Option Value) (base:Heap) (A:Around) (outer:List Env) (s:Shared) (H:Hp):Prop where
 frames:A.frames=some outer
 mod:Mod K mg base
 bs:∀ b o,base.get? b=some o→s.heap.get? b=some o∧H b=none
 bsz:base.objs.size≤s.heap.objs.size
 jI:s.heap.FunFrames base outer
 frf:∀ b∈frs outer,H b=none
 hok:jH P w H s.heap
 bare:AllBare s.gens
noncomputable def CE (outer:List Env) (P:Program) (w:World) (H:Hp) (s:Shared) (Q:VK) (u:Value) (s':Shared):Prop :=
 ∃ v H',s'.os=s.os∧AllBare s'.gens∧Un (frs outer) [] H H' s.heap s'.heap∧jH P w H' s'.heap∧RelV v u∧Q v H'
noncomputable def CR (CX:Jr) (outer:List Env) (P:Program) (w:World) (H:Hp) (s:Shared) (Q:VK) (E:XK) (r:Result) (s':Shared):Prop :=
 match r with
 | .ok (.ret u)=>CE outer P w H s Q u s'
 | .ok _=>False
 | .error e=>CX outer H s E e s'
structure bf (P:Program) (w:World) (K:QM) (mg:Str→Option Value) (base:Heap) (CX:Jr) (k:Nat) (f:Addr) (fd:FuncData) (ps:List Str) (sp:Sp):Prop where
 len:∀ vs H Q E,sp vs H Q E→vs.length=ps.length
 run:∀ (A:Around) (outer:List Env) (s:Shared) (H:Hp) (args:Args) (us:List Value) (vs:List V) (Q:VK) (E:XK),iu k A→EW P w K mg base A outer s H→BindsTo s fd args (ps.zip us)→Vals vs us→sp vs H Q E →
  codeAny (model P w) A (.call (.ref f) args) (CR CX outer P w H s Q E) s
theorem bf.mono {K:QM} (F:bf P w K mg base CX j f fd ps sp) (h:j≤k) :
 bf P w K mg base CX k f fd ps sp:=⟨F.len,fun A outer s H args us vs Q E hr=>F.run A outer s H args us vs Q E (hr.mono h)⟩
section
theorem Inv.EX (I:Inv X aa σ H s):EW X.prog X.w X.K X.mg X.base X.A X.stack s H :=
 ⟨I.ok.frames,I.ok.mod,I.bs,Q4 I.ok.bsz I.sz,I.stack,I.wB,I.hok,I.bare⟩
theorem Inv.after (I:Inv X aa σ H s) (h:CE X.stack X.prog X.w H s Q u s'):EP X aa σ Q u s':=by
 obtain ⟨v,H',os,bare,un,hok,r,q⟩:=h
 obtain ⟨hh,g,d,t,os'⟩:=s'
 obtain rfl:os'=s.os:=os
 exact ⟨v,H',I.call (h':=hh) (g':=g) (d':=d) (t':=t) (ch:=[]) un hok bare (fun b z=>absurd z (by simp)),r,q⟩
end
noncomputable def Binds (K:QM) (fd:FuncData) (ps:List Str) (ds:List Value):Prop :=
 ∀ (s:Shared) (us:List Value),K.In s.heap→(us++ds).length=ps.length→BindsTo s fd ⟨us,[]⟩ (ps.zip (us++ds))
theorem Binds.all {K:QM} (h:∀ us:List Value,us.length=ps.length→bindArgs fd ⟨us,[]⟩=pure (ps.zip us)):Binds K fd ps []:=fun s us _ hl=>by
 rw [Ru] at hl ⊢
 exact .of_eq (h us hl)
section
variable {X:Cx} {CX:Jr} {k:Nat} {f C:Addr} {fd:FuncData} {ps:List Str} {sp:Sp} {dvs:List V} {ds:List Value} {E:XK} {x m:Str} {p pos apos:Pos} {e o:Expr} {es:List Expr} {ta:TE} {t:TA}
structure Mk (K:QM) (C f:Addr):Prop where
 makes:PySem.W.makesIn K C=true
 init:Tr K (.ref C) "__init__"=some (some (.ref f))
 fn:PySem.W.isFn K (.ref f)=true
 kp:SK K (.ref C)=true
end
section
variable {X:Cx} {CX:Jr} {k:Nat} {f C:Addr} {fd:FuncData} {ps ks:List Str} {sp:Sp} {E:XK} {x m:Str} {p pos apos kpos:Pos} {e o:Expr} {es:List Expr} {kws:List Keyword} {te ta:TE} {t tk:TA} {nm:Option Str}
structure Pd (K:QM) (fd:FuncData) (ps ks:List Str) (g:List Value→List Value→List Value) (gV:List V→List V→List V):Prop where
 to:∀ (s:Shared) (us ws:List Value),K.In s.heap→(g us ws).length=ps.length→BindsTo s fd ⟨us,ks.zip ws⟩ (ps.zip (g us ws))
 rel:∀ {vs:List V} {us:List Value} {zs:List V} {ws:List Value},Vals vs us→Vals zs ws→Vals (gV vs zs) (g us ws)
end
structure aB (N P:List Str) (sc:Scope):Prop where
 kind:sc.kind=.function
 co:sc.isCoroutine=false
 gen:sc.isGenerator=false
 nd:N.Nodup
 pre:N.take P.length=P
 par:∀ x∈P,sc.names.lookup x=some .local∨sc.names.lookup x=some .cell
 nofree:∀ y∈sc.names,y.2≠.free
theorem oM {kindOf:Str→Option NameKind}:∀ {binds:List (Str×Value)} {m:Str→Option Value},(∀ v,(x,v)∉binds)→bindL kindOf binds m x=m x
 | [],_,_=>rfl
 | (n,v)::r,m,h=>by
  unfold bindL
  rw [oM fun w hw=>h w (Q9 _ hw)]
  split
  ·have:x≠n:=by rintro rfl; exact h v Q6
   simp [this]
  ·rfl
theorem oN {kindOf:Str→Option NameKind}:∀ {binds:List (Str×Value)} {m:Str→Option Value},(∀ v,(x,v)∉binds)→bindC kindOf binds m x=m x
 | [],_,_=>rfl
 | (n,v)::r,m,h=>by
  unfold bindC
  rw [oN fun w hw=>h w (Q9 _ hw)]
  split
  ·rfl
  ·have:x≠n:=by rintro rfl; exact h v Q6
   simp [this]
theorem oO {kindOf:Str→Option NameKind}:∀ {P:List Str} {vs:List Value} {i:Nat} {m:Str→Option Value},P.Nodup→P[i]?=some x→vs[i]?=some v→kindOf x=some .local →
 bindL kindOf (P.zip vs) m x=some v
 | [],_,_,_,_,h,_,_=>by simp at h
 | _::_,[],_,_,_,_,h,_=>by simp at h
 | p::P,w::vs,0,m,nd,h1,h2,hk=>by
  simp at h1 h2; subst h1; subst h2
  show bindL kindOf ((p,w)::P.zip vs) m p=_
  unfold bindL
  rw [oM fun v hv=>(Sm.mp nd).1 (VQ hv).1,if_pos hk]
  simp
 | p::P,w::vs,i+1,m,nd,h1,h2,hk=>by
  show bindL kindOf ((p,w)::P.zip vs) m x=_
  unfold bindL
  exact oO (i:=i) (Sm.mp nd).2 (by simpa using h1) (by simpa using h2) hk
theorem oQ {kindOf:Str→Option NameKind}:∀ {P:List Str} {vs:List Value} {i:Nat} {m:Str→Option Value},P.Nodup→P[i]?=some x→vs[i]?=some v→kindOf x≠some .local →
 bindC kindOf (P.zip vs) m x=some v
 | [],_,_,_,_,h,_,_=>by simp at h
 | _::_,[],_,_,_,_,h,_=>by simp at h
 | p::P,w::vs,0,m,nd,h1,h2,hk=>by
  simp at h1 h2; subst h1; subst h2
  show bindC kindOf ((p,w)::P.zip vs) m p=_
  unfold bindC
  rw [oN fun v hv=>(Sm.mp nd).1 (VQ hv).1,if_neg hk]
  simp
 | p::P,w::vs,i+1,m,nd,h1,h2,hk=>by
  show bindC kindOf ((p,w)::P.zip vs) m x=_
  unfold bindC
  exact oQ (i:=i) (Sm.mp nd).2 (by simpa using h1) (by simpa using h2) hk
noncomputable def start (N:List Str) (vs:List V):St:=vs.map some++QY (N.length - vs.length) none
noncomputable def rL (CX:Jr) (P:Program) (w:World) (K:QM) (mg:Str→Option Value) (base:Heap) (N:List Str) (qual:Str) (scope:Scope) (f:Addr) (cd:Value) (A:Around) (outer:List Env) (s:Shared) (H:Hp) (E:XK):Cx where
 prog:=P
 w:=w
 K:=K
 mg:=mg
 base:=base
 A:=A.deeper (envOfC qual scope s.heap.objs.size f cd)
 N:=N
 s₀:=s
 H₀:=H
 env:=envOfC qual scope s.heap.objs.size f cd
 outer:=outer
 stack:=envOfC qual scope s.heap.objs.size f cd::outer
 ex:=[]
 calm:=true
 fn:=fun _=>true
 pn:=[]
 xe:=fun e s'=>wpAny (model P w) (A.deeper (envOfC qual scope s.heap.objs.size f cd)) (leaving (envOfC qual scope s.heap.objs.size f cd) e) (fun _ s''=>CX outer H s E e s'') (fun e' s''=>CX outer H s E e' s'') s'
theorem rM {sc:Scope} (h:sc.names.lookup x=some .cell):∃ c,(cellsFrom n sc.names []).lookup x=some c:=by
 have q:=PySem.W.cellsFrom_some sc.names n [] (.inl h)
 exact Option.isSome_iff_exists.mp q
theorem yE {K:QM}
 (S:aB N ps scope) (hd:A.handled=none) (e0:EW P w K mg base A outer s H) (hl:vs.length=ps.length) (r:Vals vs us)
 (x:InCallC s s.heap.objs.size (bindL (envOfC qual scope s.heap.objs.size f cd).kindOf (ps.zip us) fun _=>none) (cellsFrom (s.heap.objs.size+1) scope.names []) (bindC (envOfC qual scope s.heap.objs.size f cd).kindOf (ps.zip us) fun _=>none) s1) :
 Inv (rL CX P w K mg base N qual scope f cd A outer s H E) [] (start N vs) H s1:=by
 have hpl:ps.length≤N.length:=by have:=congrArg UI S.pre; rw [Rx] at this; lia
 obtain ⟨h1,tk,rfl,hk⟩:=x.done
 have noA:∀ b:Addr,b∉(rL CX P w K mg base N qual scope f cd A outer s H E).ex:=fun b z=>absurd (show b∈([]:List Addr) from z) (by simp)
 refine ⟨⟨e0.mod,S.kind,rfl,rfl,QS _,fun y z c h1 h2=>?_,fun y hy=>?_,fun y c _ h=>?_,fun _=>hd,Around.frames_deeper e0.frames,.inr ⟨rfl,rfl⟩,fun b z=>absurd z (noA b),e0.bs,e0.bsz,fun b _ _=>noA b,fun b z=>absurd z (noA b),e0.jI,e0.frf⟩,
  rfl,e0.bare,Un.kept hk,⟨_,x.toInCall.ns,fun i y v h1 h2 h3=>?_⟩,fun y c h=>⟨_,x.cell y c h⟩,e0.hok.fresh (QS _),fun y c h=>?_,fun p hp=>absurd (show p∈([]:List (Addr×Obj)) from hp) (by simp),e0.hok.kept hk,?_⟩
 ·exact name_of_addr x.apart (UR h1) (UR h2)
 ·have hy:scope.names.lookup y=some .cell∨scope.names.lookup y=some .free:=hy
  rcases hy with hy | hy
  ·exact rM hy
  ·exact absurd rfl (S.nofree _ (UR hy))
 ·exact TJ (x.above y c (UR h))
 ·have hi:i<vs.length:=by
   unfold start at h2
   by_cases hi:i<vs.length
   ·exact hi
   ·rw [Ur (by simpa using hi)] at h2
    rw [Wo] at h2
    split at h2 <;> cases h2
  have ha:vs[i]?=some v:=by
   unfold start at h2
   rw [Tg (by simpa using hi),Q3] at h2
   cases e:vs[i]? with
   | none=>rw [e] at h2; cases h2
   | some a=>rw [e] at h2; cases h2; rfl
  obtain ⟨u,hu,rv⟩:=r.get ha
  have hp:ps[i]?=some y:=by
   rw [← S.pre,Vo (by lia)]; exact h1
  have ndP:ps.Nodup:=by rw [← S.pre]; exact S.nd.sublist (VE _ _)
  refine ⟨u,rv,?_⟩
  rcases S.par y (Si hp) with k | k
  ·exact .inl ⟨k,oO ndP hp hu k⟩
  ·obtain ⟨c,e⟩:=rM (n:=s.heap.objs.size+1) k
   refine .inr ⟨.inl k,c,e,?_⟩
   have q:=x.cell y c e
   rw [oQ ndP hp hu (by show scope.names.lookup y≠_; rw [k]; decide)] at q
   exact q
 ·exact e0.hok.fresh (TJ (x.above y c (UR h)))
 ·unfold start
  show _=N.length
  rw [Rr,QU,UP]
  lia
theorem AN {K:QM} {dV kV doc pm cdv ct oc:Value}
 (lk:K.lookup f=some ⟨oc,od,.func (SW name qual params body scope dV kV doc pm an cdv ct),osl⟩) (hcd:VX K cdv qual=true) (S:aB N ps scope)
  (len:∀ vs H Q E,sp vs H Q E→vs.length=ps.length)
  (hbody:∀ (A:Around) (outer:List Env) (s:Shared) (H:Hp) (vs:List V) (Q:VK) (E:XK),iu k (A.deeper (envOfC qual scope s.heap.objs.size f cdv))→sp vs H Q E →
    ∃ t,uI (rL CX P w K mg base N qual scope f cdv A outer s H E) body t∧t { nx:=fun _ H'=>Q .non H',rt:=Q } (start N vs) H) :
  bf P w K mg base CX (k+1) f (SW name qual params body scope dV kV doc pm an cdv ct) ps sp:=by
  refine ⟨len,fun A outer s H args us vs Q E hr e0 hb r rF=>?_⟩
  have hl:=len _ _ _ _ rF
  have KX:K.In s.heap:=e0.mod.kin.keeps fun b o e=>(e0.bs b o e).1
  have lim:s.heap.NoLimit:=e0.mod.nolimit.keeps fun b o e=>(e0.bs b o e).1
  have hkind:∀ y∈ps.zip us,scope.names.lookup y.1=some .local∨(scope.names.lookup y.1=some .cell∧((cellsFrom (s.heap.objs.size+1) scope.names []).lookup y.1).isSome=true):=fun ⟨n,v⟩ hy=>by
   rcases S.par n (VQ hy).1 with q | q
   ·exact .inl q
   ·exact .inr ⟨q,PySem.W.cellsFrom_some _ _ _ (.inl q)⟩
  refine codeAny_call_function hr.depth (KX _ _ lk) rfl S.co S.gen rfl (PySem.W.codeRec_of KX hcd) (hb _ _ _ _ ?_)
  refine wpAny_newFunctionEnv_cells S.kind hkind fun env he s1 x=>?_
  subst he
  refine ⟨lim.keeps x.toInCall.keep,codeAny_func ?_⟩
  obtain ⟨t,ht,hq⟩:=hbody A outer s H vs Q E (hr.deeper _) rF
  have I:Inv (rL CX P w K mg base N qual scope f cdv A outer s H E) [] (start N vs) H s1:=yE S hr.hd e0 hl r x
  refine RE (ht [] s1 (start N vs) H _ I hq) (fun fl s' hs=>?_) fun e s' hs=>hs
  have fin:∀ {σ':St} {H':Hp} {v:V} {u:Value},Inv (rL CX P w K mg base N qual scope f cdv A outer s H E) [] σ' H' s'→RelV v u→Q v H'→CE outer P w H s Q u s' :=
   fun {σ' H' v u} J rv q=>⟨v,H',J.os,J.bare,J.base,J.hok,rv,q⟩
  cases fl with
  | ret u =>
   obtain ⟨v,σ',H',J,rv,q⟩:=hs
   exact fin J rv q
  | next =>
   obtain ⟨σ',H',J,q⟩:=hs
   exact fin (v:=V.non) (u:=RW) J rfl q
  | brk =>
   obtain ⟨_,_,_,q⟩:=hs
   exact RU q
  | cont =>
   obtain ⟨_,_,_,q⟩:=hs
   exact RU q
section
variable {id T:String}
noncomputable def Qh (r:List V→Hp→VK→Prop) (t:TA):TE:=fun σ H Q=>t σ H fun vs H1=>r vs H1 Q
theorem AO (hc:fE X (.builtin id) r) (hg:Gl X x) (hm:X.mg x=none) (hv:bootBuiltins x=some (.builtin id)) (ha:PA X (e::es) t) (hn:x≠"__name__":=by decide) (hdb:(x == ("__debug__":Str))=false:=by decide)
 (he:starEach (e::es) X.env=(false,eval e X.env)::starEach es X.env:=by rfl) (hpl:(backTo pos (starEach es X.env)).any (·.1)=false:=by rfl):PE X (.Call (.Name x p) (e::es) [] pos) (Qh r t):=by
 intro aa s σ H Q I h
 refine SG (cX I hg hm hv ?_ hn hdb)
 exact Xl (bD (ha pos aa s σ H _ I h) fun us s1 ⟨vs,H1,I1,r1,q1⟩=>hc aa s1 σ H1 vs us Q I1 r1 q1) he hpl
theorem oR (hc:fE X (.type T) r) (hg:Gl X x) (hm:X.mg x=none) (hv:bootBuiltins x=some (.type T)) (ha:PA X (e::es) t) (hn:x≠"__name__":=by decide) (hdb:(x == ("__debug__":Str))=false:=by decide)
 (he:starEach (e::es) X.env=(false,eval e X.env)::starEach es X.env:=by rfl) (hpl:(backTo pos (starEach es X.env)).any (·.1)=false:=by rfl):PE X (.Call (.Name x p) (e::es) [] pos) (Qh r t):=by
 intro aa s σ H Q I h
 refine SG (cX I hg hm hv ?_ hn hdb)
 exact Uo (bD (ha pos aa s σ H _ I h) fun us s1 ⟨vs,H1,I1,r1,q1⟩=>hc aa s1 σ H1 vs us Q I1 r1 q1) he hpl
end
end L2
namespace HT
open PySem PyProof.Rows
noncomputable def lexLt:List Int→List Int→Bool
 | [],[]=>false
 | [],_::_=>true
 | _::_,[]=>false
 | x::xs,y::ys=>if x=y then lexLt xs ys else decide (x<y)
theorem cZ (x y) (xs ys):lexLt (x::xs) (y::ys)=if x=y then lexLt xs ys else decide (x<y):=rfl
theorem nS:lexLt [] []=false:=rfl
theorem lN (y) (ys):lexLt [] (y::ys)=true:=rfl
theorem lO (x) (xs):lexLt (x::xs) []=false:=rfl
theorem AQ (A:Around) (s) (a) (t:Tok) (c) (u:Tok):∃ e,Rl A s (.int a t) (.int c u) e∧(e=true↔a=c) :=
 ⟨(a == c),Rl.int_int a t c u,by simp⟩
theorem AR (A:Around) (s) (a) (t:Tok) (c) (u:Tok) (prog) (w) (E) (Q) (h:Q (.bool (decide (a<c))) s) :
 wpAny (model prog w) A (richCompare .Lt (.int a t) (.int c u)) Q E s :=
 (PyProof.Rows.lt_int h:wpAny (model prog w) A (compareOp .Lt (.int a t) (.int c u)) Q E s)
section
open PySem.SeqAt
open PySem.AutoSeq1 (wpAny_loadPart')
open PySem.MeetsSeq PySem.MeetsSeq2 PySem.MeetsSeq3
theorem nU (l b) (items items2) (n n2) (dd dd2) (sl sl2) (ns ms) (hi:IntsAre items.toList ns) (hj:IntsAre items2.toList ms) :
 Meets (Builtin.«tuple.__lt__» ⟨[.ref l,.ref b],[]⟩)
  (fun _ R s=>s.heap.get? l=some { cls:=.type "tuple",dict:=dd,data:=.seq items n,slots:=sl }∧s.heap.get? b=some { cls:=.type "tuple",dict:=dd2,data:=.seq items2 n2,slots:=sl2 } ∧
    R (.ok (.ret (.bool (lexLt ns ms)))) s) :=
 .of_wp fun prog w A R s h=>by
  obtain ⟨hp,g,d,tk,os⟩:=s; obtain ⟨hl,hb,h⟩:=h
  have f2:=AutoSeq1.sub_tuple_tuple
  have z1:items.size=ns.length:=by rw [← hi.length]; simp
  have z2:items2.size=ms.length:=by rw [← hj.length]; simp
  wp_walk using wpAny_loadPart' hl,wpAny_loadPart' hb,wpAny_forIn_list _ (fun rest b s'=>b.1=none∧s'=⟨hp,g,d,tk,os⟩∧∃ (vs ws:List Value) (ns' ms':List Int),rest=vs.zip ws ∧
   IntsAre vs ns'∧IntsAre ws ms'∧ns'.length+items2.size=ms'.length+items.size∧R (.ok (.ret (.bool (lexLt ns' ms')))) ⟨hp,g,d,tk,os⟩) _
  case turn =>
   rintro ⟨y,x⟩ rest b s' ⟨hb',rfl,vs,ws,ns',ms',hz,hvi,hwi,hlen,hR⟩
   cases hvi with
   | nil=>rw [List.zip_nil_left] at hz; cases hz
   | cons a t hvi' =>
    cases hwi with
    | nil=>rw [List.zip_nil_right] at hz; cases hz
    | cons c u hwi' =>
     rw [WI] at hz
     injection hz with hyx hrest
     injection hyx with hy hx
     subst hy hx
     rw [cZ] at hR
     simp only [RH] at hlen
     obtain ⟨e,he,hiff⟩:=AQ A.in1 ⟨hp,g,d,tk,os⟩ a t c u
     refine QL (he prog w _ _ ?_)
     cases e with
     | true =>
      rw [if_pos (hiff.mp rfl)] at hR
      wp_walk
      exact ⟨rfl,rfl,_,_,_,_,hrest,hvi',hwi',by lia,hR⟩
     | false =>
      rw [if_neg (fun q=>absurd (hiff.mpr q) QZ)] at hR
      have hri:=AR A.in1 ⟨hp,g,d,tk,os⟩ a t c u prog w
      wp_walk using hri
      exact ⟨_,rfl,by simpa using hR⟩
  case fin =>
   rintro ⟨b1,b2⟩ s' ⟨hb',rfl,vs,ws,ns',ms',hz,hvi,hwi,hlen,hR⟩
   simp only at hb'
   subst hb'
   have hv:lexLt ns' ms'=decide (items.size<items2.size):=by
    cases hvi with
    | nil =>
     cases hwi with
     | nil =>
      simp only [SS] at hlen
      rw [nS]
      exact (decide_eq_false (by lia)).symm
     | cons c u hw =>
      simp only [SS,RH] at hlen
      rw [lN]
      exact (decide_eq_true (by lia)).symm
    | cons a t hv =>
     cases hwi with
     | nil =>
      simp only [SS,RH] at hlen
      rw [lO]
      exact (decide_eq_false (by lia)).symm
     | cons c u hw =>
      rw [WI] at hz
      cases hz
   rw [hv] at hR
   wp_walk
   exact ⟨_,rfl,by simpa [Builtin.Tuple.tupleCompareSizes] using hR⟩
  case h =>
   exact ⟨rfl,rfl,items.toList,items2.toList,ns,ms,rfl,hi,hj,by lia,h⟩
end
section
variable {prog:Program} {w:World} {A:Around} {E:Value→Shared→Prop} {s:Shared}
theorem uS (hl:IsTup s.heap l items) (hb:IsTup s.heap b items2) (hi:IntsAre items.toList ns) (hj:IntsAre items2.toList ms)
 (hu:A.units<cLine) (h:Q (.bool (lexLt ns ms)) s):wpAny (model prog w) A (compareOp .Lt (.ref l) (.ref b)) Q E s:=by
 obtain ⟨⟨cls,dd,data,sl⟩,ho,hc,n,hd⟩:=id hl
 obtain ⟨⟨cls2,dd2,data2,sl2⟩,ho2,hc2,n2,hd2⟩:=id hb
 simp only at hc hd hc2 hd2
 subst hc hd hc2 hd2
 exact richCompare_meets_room (op:=.Lt) ⟨_,ho,rfl⟩ ⟨_,ho2,rfl⟩ PySem.F.slot_tuple_lt PySem.F.entry_tuple_lt (PySem.F.args_tuple_lt_2 _ _) (nU l b items items2 n n2 dd dd2 sl sl2 ns ms hi hj)
  ⟨ho,ho2,show TN (lexLt ns ms)≠Value.notImplemented∧Q (.bool (lexLt ns ms)) s from ⟨(fun x=>nomatch x),h⟩⟩ hu
noncomputable def cj (n d:Nat):Option Int→Nat
 | none=>d
 | some v=>if v<0 then (v+(n:Int)).toNat else min v.toNat n
theorem Js (n d) (hd:d≤n) (o):cj n d o≤n:=by
 cases o with
 | none=>exact hd
 | some v =>
  show (if v<0 then (v+(n:Int)).toNat else min v.toNat n)≤n
  by_cases hv:v<0
  ·rw [if_pos hv]; lia
  ·rw [if_neg hv]; exact Nat.min_le_right _ _
theorem wI (v) (n d:Nat):(if v<0 then max (v+(n:Int)) 0 else min v (n:Int))=((cj n d (some v):Nat):Int):=by
 show (if v<0 then max (v+(n:Int)) 0 else min v (n:Int))=(((if v<0 then (v+(n:Int)).toNat else min v.toNat n):Nat):Int)
 by_cases hv:v<0
 ·simp only [if_pos hv]; lia
 ·simp only [if_neg hv]; lia
theorem uT (lo hi) (n:Nat):Wh lo hi 1 (n:Int)=(((cj n 0 lo:Nat):Int),((cj n n hi:Nat):Int)):=by
 have h1:¬ ((1:Int)<0):=by lia
 unfold Wh
 simp only [h1,if_false]
 refine Prod.ext ?_ ?_
 ·cases lo with
  | none=>rfl
  | some v=>exact wI v n 0
 ·cases hi with
  | none=>rfl
  | some v=>exact wI v n n
theorem uU (i j:Nat):Vn (i:Int) (j:Int) 1=j - i:=by
 unfold Vn
 have h1:(1:Int)>0:=by lia
 simp only [h1,if_true,Int.ediv_one]
 split <;> lia
theorem lP (p:IsPart v o) (h:Q o s):wpAny (model prog w) A (Builtin.Slice.slicePartIndex v) Q E s:=by
 cases p with
 | none=>exact slicePart_none h
 | int i t=>exact slicePart_int h
theorem fF {sl:Addr} {vl vu:Value} {lo hi:Option Int} {n:Nat} {Q:Int×Int×Nat→Shared→Prop} (hs:s.heap.IsSliceOf sl vl vu .none) (pl:IsPart vl lo) (pu:IsPart vu hi)
 (h:Q (((cj n 0 lo:Nat):Int),1,cj n n hi - cj n 0 lo) s):wpAny (model prog w) A (Builtin.Slice.sliceApplied (.ref sl) (pure (n:Int))) Q E s:=by
 obtain ⟨os,hos,hcs,hds⟩:=id hs
 unfold Builtin.Slice.sliceApplied Builtin.Slice.sliceFields
 refine QL (QL (RD hos hds (x:=vl) rfl (QL (RD hos hds (x:=vu) rfl (QL (RD hos hds (x:=.none) rfl (QN ?_)))))))
 refine QL (slicePart_none ?_)
 show wpAny _ _ (if ((1:Int) == 0)=true then _ else _) _ _ s
 rw [if_neg (by decide)]
 refine QL (lP pl (QL (lP pu (QL (QN ?_)))))
 show wpAny _ _ (match Wh lo hi 1 (n:Int) with | (lo,hi)=>pure (lo,(1:Int),Vn lo hi 1)) _ _ s
 rw [uT lo hi n]
 show wpAny _ _ (pure (((cj n 0 lo:Nat):Int),(1:Int),Vn ((cj n 0 lo:Nat):Int) ((cj n n hi:Nat):Int) 1)) _ _ s
 rw [uU]
 exact QN h
theorem AS (xs:Array Value) (i k:Nat):((Rt k).filterMap fun (m:Nat)=>xs[((i:Int)+(m:Int) * 1).toNat]?).toArray=((xs.toList.drop i).take k).toArray:=by
 have e:(fun (m:Nat)=>xs[((i:Int)+(m:Int) * 1).toNat]?)=fun m=>xs[i+m]?:=by
  funext m
  have:((i:Int)+(m:Int) * 1).toNat=i+m:=by lia
  rw [this]
 rw [e]
 have:=pick_run xs i k
 rw [List.filterMap_map] at this
 have e2:((fun x=>xs[x]?)∘fun x=>i+x)=fun m=>xs[i+m]?:=rfl
 rw [e2] at this
 rw [this]
theorem i7 {lo hi:Option Int} (ht:IsTup s.heap t items) (hs:s.heap.IsSliceOf sl vl vu .none) (pl:IsPart vl lo) (pu:IsPart vu hi)
 (hw:¬ (cj items.size 0 lo=0∧cj items.size items.size hi=items.size))
 (h:Q (.ref s.heap.objs.size) { s with heap:=s.heap.push { cls:=.type "tuple",data:=.seq ((items.toList.drop (cj items.size 0 lo)).take (cj items.size items.size hi - cj items.size 0 lo)).toArray } })
 (hsz:items.size≤sizeLine):wpAny (model prog w) A (getItem (.ref t) (.ref sl)) Q E s:=by
 have htake:sizeOk (.seq ((items.toList.drop (cj items.size 0 lo)).take (cj items.size items.size hi - cj items.size 0 lo)).toArray):=by
  show ((items.toList.drop (cj items.size 0 lo)).take (cj items.size items.size hi - cj items.size 0 lo)).toArray.size≤sizeLine
  rw [Rb,Rx,VN,RS]
  lia
 have hj:cj items.size items.size hi≤items.size:=Js _ _ (QS _) hi
 obtain ⟨os,hos,hcs,hds⟩:=id hs
 have hTs:s.TypeIs (.ref sl) "slice":=⟨os,hos,hcs⟩
 unfold getItem
 try with_reducible refine Sf ?_
 first | refine QL (QN ?_) | skip
 refine QL (WN ht.typeIs (by decide) ?_)
 refine QL (SN (name:=QK "__getitem__") ht.typeIs Ul
  (Sk Ul ht.typeIs entry_tuple_getitem ?_ (args_tuple_getitem _ _)))
 show wpAny _ _ (Builtin.Tuple.tupleItemsOf (.ref t) >>= _) _ _ s
 refine QL (tupleItemsOf_ ht ?_)
 refine QL (Tz hTs ?_)
 rw [if_pos (by decide)]
 refine QL (fF hs pl pu ?_)
 have hno:¬ ((((cj items.size 0 lo:Nat):Int) == 0 && (1:Int) == 1 && (cj items.size items.size hi - cj items.size 0 lo) == items.size)=true):=by
  intro q
  rw [UY,UY] at q
  have q1:((cj items.size 0 lo:Nat):Int)=0:=eq_of_beq q.1.1
  have q2:cj items.size items.size hi - cj items.size 0 lo=items.size:=eq_of_beq q.2
  exact hw ⟨by lia,by lia⟩
 show wpAny _ _ (if (((cj items.size 0 lo:Nat):Int) == 0 && (1:Int) == 1 && (cj items.size items.size hi - cj items.size 0 lo) == items.size)=true then _ else _) _ _ s
 rw [if_neg hno,AS]
 first
  | exact QL (m:=Vp _) (R0 (QN ⟨_,rfl,QN h⟩) htake)
  | exact QL (m:=Vp _) (R0 (QL (QN (QN ⟨_,rfl,QN h⟩))) htake)
  | exact QL (QL (m:=Vp _) (R0 (QN (QN ⟨_,rfl,QN h⟩)) htake))
  | exact QL (QL (m:=Vp _) (R0 (QN ⟨_,rfl,QN h⟩) htake))
end
end HT
namespace L2
open PySem PySem.Spec PyProof.Rows
noncomputable abbrev TO:=St→Hp→(Option Int→Hp→Prop)→Prop
noncomputable def PO (X:Cx) (e:Option Expr) (t:TO):Prop :=
 ∀ (aa:List (Addr×Obj)) (s:Shared) (σ:St) (H:Hp) (Q:Option Int→Hp→Prop),Inv X aa σ H s→t σ H Q →
  wpAny (model X.prog X.w) X.A (evalPart e X.env) (fun u s'=>∃ o H',Inv X aa σ H' s'∧IsPart u o∧Q o H') X.xe s
noncomputable def EY:TO:=fun _ H Q=>Q none H
noncomputable def Mn (t:TE):TO:=fun σ H Q=>t σ H fun x H1=>∃ i,x=.int i∧Q (some i) H1
theorem intsAre_of:∀ {us:List Value},Vals (ns.map V.int) us→IntsAre us ns:=by
 induction ns with
 | nil=>intro us r; rw [RJ] at r; cases r; exact .nil
 | cons n ns ih =>
  intro us r
  rw [QW] at r
  cases r with
  | cons r1 r2 =>
   obtain ⟨t,e⟩:=r1
   subst e
   exact .cons n t (ih r2)
section
variable {lo hi:Option Expr}
theorem EZ:PO X none EY:=by
 intro aa s σ H Q I h
 rw [evalPart_none]
 exact QN ⟨none,H,I,.none,h⟩
theorem E0 (h:PE X e te):PO X (some e) (Mn te):=by
 intro aa s σ H Q I hw
 rw [evalPart_some]
 refine bD (h aa s σ H _ I hw) fun u s1 ⟨x,H1,I1,r1,q1⟩=>?_
 obtain ⟨i,rfl,q⟩:=q1
 obtain ⟨t,rfl⟩:=r1
 exact ⟨some i,H1,I1,.int i t,q⟩
noncomputable def EF (X:Cx) (r:V→Option Int→Option Int→Hp→VK→Prop):Prop :=
 ∀ (aa:List (Addr×Obj)) (s:Shared) (σ:St) (H:Hp) (x:V) (v vl vu:Value) (lo hi:Option Int) (sl:Addr) (Q:VK),Inv X aa σ H s→RelV x v→s.heap.IsSliceOf sl vl vu .none→IsPart vl lo→IsPart vu hi→r x lo hi H Q →
  ∃ T id,typeLookup (.type T) "__getitem__"=pure (some (.builtin id))∧s.TypeIs v T∧wpAny (model X.prog X.w) X.A (getItem v (.ref sl)) (EP X aa σ Q) X.xe s
theorem EF.or (h:EF X r) (h':EF X r'):EF X (fun x lo hi H Q=>r x lo hi H Q∨r' x lo hi H Q):=by
 intro aa s σ H x v vl vu lo hi sl Q I rx hs pl pu q
 rcases q with q | q
 ·exact h aa s σ H x v vl vu lo hi sl Q I rx hs pl pu q
 ·exact h' aa s σ H x v vl vu lo hi sl Q I rx hs pl pu q
noncomputable def QC (r:V→Option Int→Option Int→Hp→VK→Prop) (te:TE) (tl th:TO):TE:=fun σ H Q=>te σ H fun x H1=>tl σ H1 fun l H2=>th σ H2 fun u H3=>r x l u H3 Q
theorem AU (hr:EF X r) (he:PE X e te) (hl:PO X lo tl) (hu:PO X hi th):PE X (.Subscript e (.Slice lo hi none p2) pos) (QC r te tl th):=by
 intro aa s σ H Q I h
 refine Subscript_ (bD (he aa s σ H _ I h) fun v s1 ⟨x,H1,I1,r1,q1⟩=>?_)
 refine wpAny_Slice (bD (hl aa s1 σ H1 _ I1 q1) fun vl s2 ⟨l,H2,I2,pl,q2⟩=>bD (hu aa s2 σ H2 _ I2 q2) fun vu s3 ⟨u,H3,I3,pu,q3⟩=>?_)
 rw [evalPart_none]
 refine QN ?_
 have I4:Inv X aa σ H3 { s3 with heap:=s3.heap.push { cls:=.type "slice",data:=.fields #[vl,vu,.none] } }:=I3.kept (t':=s3.toks) fun b ob q=>QV _ q
 obtain ⟨T,id,hT,ht,hg⟩:=hr aa { s3 with heap:=s3.heap.push { cls:=.type "slice",data:=.fields #[vl,vu,.none] } } σ H3 x v vl vu l u s3.heap.objs.size Q I4 r1 (Heap.IsSliceOf.new ..) pl pu q3
 show wpAny (model X.prog X.w) X.A (subscriptTail e (.Slice lo hi none p2) v (.ref s3.heap.objs.size)) (EP X aa σ Q) X.xe { s3 with heap:=s3.heap.push { cls:=.type "slice",data:=.fields #[vl,vu,.none] } }
 exact tail_any (ops:=[.ref s3.heap.objs.size,v]) ht hT hg (by walk_at "u")
noncomputable def qg (xs:List V) (lo hi:Option Int):List V:=(xs.drop (HT.cj xs.length 0 lo)).take (HT.cj xs.length xs.length hi - HT.cj xs.length 0 lo)
theorem kq (xs) (lo hi):(qg xs lo hi).length≤xs.length:=by
 unfold qg
 rw [Rx,VN]
 lia
noncomputable def Pe (K:QM):V→Option Int→Option Int→Hp→VK→Prop:=fun x lo hi H Q=>∃ a xs,x=.ref a∧dw K H a xs ∧
 ¬ (HT.cj xs.length 0 lo=0∧HT.cj xs.length xs.length hi=xs.length)∧∀ p,H p=none→Q (.ref p) (upd H p (.tup (qg xs lo hi)))
theorem Jt:EF X (Pe X.K):=by
 intro aa s σ H x v vl vu lo hi sl Q I rx hs pl pu h
 obtain ⟨a,xs,rfl,hx,hw,q⟩:=h
 cases rx
 obtain ⟨its,r,ht,hz⟩:=I.tuple hx
 have hlen:its.toArray.size=xs.length:=by rw [Rb]; exact r.length.symm
 refine ⟨"tuple",_,Ul.lookup,ht.typeIs,?_⟩
 refine HT.i7 ht hs pl pu (by rw [hlen]; exact hw) ?_ (by rw [hlen]; exact hz)
 rw [hlen]
 refine ⟨.ref s.heap.objs.size,_,I.laid (t':=s.toks) (o:=.tup (qg xs lo hi)) (fun b ob q=>QV _ q) (QS _) ?_,rfl,q _ (I.hok.fresh (QS _))⟩
 exact ⟨Q4 (kq xs lo hi) hz,_,(r.drop (HT.cj xs.length 0 lo)).take (HT.cj xs.length xs.length hi - HT.cj xs.length 0 lo),IsTup.new _ _⟩
theorem Vals.wJ (r:Vals xs us):us=[]↔xs=[]:=by
 cases r with
 | nil=>simp
 | cons _ _=>simp
end
noncomputable def LJ (n:Nat) (i:Int):Option Nat:=if 0≤i then (if i<n then some i.toNat else none) else if -(n:Int)≤i then some (i+n).toNat else none
noncomputable def kr {α:Type} (xs:List α) (i:Int):Option α:=(LJ xs.length i).bind fun j=>xs[j]?
theorem E1 (h:LJ n i=some j):seqIndex? i n=some j∧j<n∧ -(n:Int)≤i∧i<n:=by
 unfold LJ at h
 by_cases h0:0≤i
 ·rw [if_pos h0] at h
  by_cases h1:i<n
  ·rw [if_pos h1] at h
   have e:i.toNat=j:=Sz h
   exact ⟨by rw [seqIndex_of h0 h1,e],by lia,by lia,h1⟩
  ·rw [if_neg h1] at h; cases h
 ·rw [if_neg h0] at h
  by_cases h1: -(n:Int)≤i
  ·rw [if_pos h1] at h
   have e:(i+n).toNat=j:=Sz h
   exact ⟨by rw [seqIndex_neg (by lia) h1,e],by lia,h1,by lia⟩
  ·rw [if_neg h1] at h; cases h
theorem wK (h:kr xs i=some v):∃ j,seqIndex? i xs.length=some j∧xs[j]?=some v∧j<xs.length∧ -(xs.length:Int)≤i∧i<xs.length:=by
 unfold kr at h
 cases e:LJ xs.length i with
 | none=>rw [e] at h; cases h
 | some j =>
  rw [e] at h
  obtain ⟨h1,h2,h3,h4⟩:=E1 e
  exact ⟨j,h1,h,h2,h3,h4⟩
noncomputable def kZ (b:Expr):Prop:=∀ o i,subscripted b false o i=operate [o,i] (getItem o i)
noncomputable def Hy (X:Cx) (r:R2):Prop :=
 ∀ (value slice:Expr) (aa:List (Addr×Obj)) (s:Shared) (σ:St) (H:Hp) (x y:V) (v u:Value) (Q:VK),Inv X aa σ H s→RelV x v→RelV y u→r x y H Q →
  subscripted slice false v u=operate [v,u] (getItem v u)→wpAny (model X.prog X.w) X.A (subscriptTail value slice v u) (EP X aa σ Q) X.xe s
noncomputable def Pf (X:Cx) (id:String) (r:V→List V→Hp→VK→Prop):Prop :=
 ∀ (aa:List (Addr×Obj)) (s:Shared) (σ:St) (H:Hp) (x:V) (xs:List V) (v:Value) (us:List Value) (Q:VK),Inv X aa σ H s→RelV x v→Vals xs us→r x xs H Q →
  wpAny (model X.prog X.w) X.A (call (.builtin id) (v::us)) (EP X aa σ Q) X.xe s
section
theorem Hy.or (h:Hy X r) (h':Hy X r'):Hy X (fun x y H Q=>r x y H Q∨r' x y H Q):=by
 intro value slice aa s σ H x y v u Q I rx ry q hs
 rcases q with q | q
 ·exact h value slice aa s σ H x y v u Q I rx ry q hs
 ·exact h' value slice aa s σ H x y v u Q I rx ry q hs
theorem Mp (hr:Hy X r) (ha:PE X a ta) (hb:PE X b tb) (hs:kZ b):PE X (.Subscript a b pos) (OB r ta tb):=by
 intro aa s σ H Q I h
 exact Subscript_ (Jf ha hb I h fun v u s2 x y H2 I2 rx ry q=>hr a b aa s2 σ H2 x y v u Q I2 rx ry q (hs _ _))
noncomputable def Pg (K:QM):R2:=fun x y H Q=>∃ p xs i v,x=.ref p∧y=.int i∧gn K H p xs∧kr xs i=some v∧Q v H
noncomputable def Ph (K:QM):R2:=fun x y H Q=>∃ p xs i v,x=.ref p∧y=.int i∧dw K H p xs∧kr xs i=some v∧Q v H
theorem E2:Hy X (Pg X.K):=by
 intro value slice aa s σ H x y v u Q I rx ry h hs
 obtain ⟨p,xs,i,z,rfl,rfl,hq,he,q⟩:=h
 cases rx
 obtain ⟨t,rfl⟩:=ry
 obtain ⟨its,r,pl,hz⟩:=I.list hq
 obtain ⟨j,h1,h2,h3,h4,h5⟩:=wK he
 obtain ⟨w,ew,rw'⟩:=r.get h2
 have hl:=r.length
 have hn:=qf
 have fin:EP X aa σ Q w s:=⟨z,H,I,rw',q⟩
 by_cases h0:0≤i
 ·have hj:i.toNat=j:=by
   rw [seqIndex_of h0 h5] at h1
   exact Sz h1
  exact item_listR pl.isList h0 (by lia) (by rw [hj]; simpa using ew) fin hs
 ·have hj:(i+(its.toArray.size:Int)).toNat=j:=by
   rw [seqIndex_neg (by lia) h4] at h1
   rw [Rb,← hl]
   exact Sz h1
  exact subscriptTail_builtinR (x:=w) pl.isList.typeIs WR.lookup
   (wpAny_getItem_list_neg (Q:=fun r s'=>r=w∧EP X aa σ Q r s') pl.isList (by lia) (by rw [Rb] <;> lia) (by lia) (by rw [hj]; simpa using ew) ⟨rfl,fin⟩) hs
theorem Ju:Hy X (Ph X.K):=by
 intro value slice aa s σ H x y v u Q I rx ry h hs
 obtain ⟨p,xs,i,z,rfl,rfl,hq,he,q⟩:=h
 cases rx
 obtain ⟨t,rfl⟩:=ry
 obtain ⟨its,r,pl,hz⟩:=I.tuple hq
 obtain ⟨j,h1,h2,h3,h4,h5⟩:=wK he
 obtain ⟨w,ew,rw'⟩:=r.get h2
 have hl:=r.length
 have hn:=qf
 have fin:EP X aa σ Q w s:=⟨z,H,I,rw',q⟩
 exact subscriptTail_builtinR (x:=w) pl.typeIs slot_tuple_getitem.lookup
  (getItem_tuple (j:=j) (Q:=fun r s'=>r=w∧EP X aa σ Q r s') pl (by lia) (by lia) (by rw [Rb,← hl]; exact h1) (by simpa using ew) ⟨rfl,fin⟩) hs
theorem qh (lo hi) (n):(sliceBounds lo hi none n).1=((HT.cj n 0 lo:Nat):Int)∧(sliceBounds lo hi none n).2.1=((HT.cj n n hi:Nat):Int)∧(sliceBounds lo hi none n).2.2=1:=by
 refine ⟨?_,?_,rfl⟩
 ·cases lo with
  | none=>simp [sliceBounds,HT.cj]
  | some i =>
   simp only [sliceBounds,HT.cj,Option.getD_none,show (1:Int)>0 by decide,if_true]
   by_cases h:i<0
   ·simp only [h,if_true] <;> lia
   ·simp only [h,if_false] <;> lia
 ·cases hi with
  | none=>simp [sliceBounds,HT.cj]
  | some i =>
   simp only [sliceBounds,HT.cj,Option.getD_none,show (1:Int)>0 by decide,if_true]
   by_cases h:i<0
   ·simp only [h,if_true] <;> lia
   ·simp only [h,if_false] <;> lia
theorem nV (its:List Value) (lo hi):slicePick its.toArray lo hi none=((its.drop (HT.cj its.length 0 lo)).take (HT.cj its.length its.length hi - HT.cj its.length 0 lo)).toArray:=by
 obtain ⟨h1,h2,h3⟩:=qh lo hi its.toArray.size
 unfold slicePick
 rw [h1,h2,h3]
 simp only [sliceRange_one,pick_run,Rb] <;> rfl
noncomputable def Pj (K:QM):V→Option Int→Option Int→Hp→VK→Prop:=fun x lo hi H Q=>∃ a xs,x=.ref a∧gn K H a xs∧∀ p,H p=none→Q (.ref p) (upd H p (.lst (qg xs lo hi)))
theorem E3:EF X (Pj X.K):=by
 intro aa s σ H x v vl vu lo hi sl Q I rx hs pl pu h
 obtain ⟨a,xs,rfl,hx,q⟩:=h
 cases rx
 obtain ⟨its,r,ht,hz⟩:=I.list hx
 have hlen:=r.length
 refine ⟨"list",_,WR.lookup,ht.isList.typeIs,?_⟩
 refine wpAny_getItem_list_slice ht.isList hs pl pu .none (by simp) ?_ (by rw [Rb] <;> lia)
 rw [nV,← hlen]
 refine ⟨.ref s.heap.objs.size,_,I.laid (t':=s.toks) (o:=.lst (qg xs lo hi)) (fun b ob q=>QV _ q) (QS _) ?_,rfl,q _ (I.hok.fresh (QS _))⟩
 exact ⟨Q4 (kq xs lo hi) hz,_,0,(r.drop (HT.cj xs.length 0 lo)).take (HT.cj xs.length xs.length hi - HT.cj xs.length 0 lo),Q5 _ rfl⟩
theorem qi:fE X (.builtin "len") (fun xs H Q=>∃ p ys,xs=[.ref p]∧(gn X.K H p ys∨dw X.K H p ys)∧Q (.int ys.length) H):=by
 intro aa s σ H xs us Q I r h
 obtain ⟨p,ys,rfl,hq,q⟩:=h
 obtain ⟨u,rfl,rx⟩:=vals1 r
 cases rx
 have hn:=qf
 rcases hq with hq | hq
 ·obtain ⟨its,r',pl,hz⟩:=I.list hq
  have hlen:=r'.length
  exact Calls.call_len_list pl.isList (by simp only [Rb] <;> lia) ⟨.int ys.length,H,I.tok _,⟨s.toks+1,by rw [Rb,hlen]⟩,q⟩
 ·obtain ⟨its,r',pl,hz⟩:=I.tuple hq
  have hlen:=r'.length
  exact len_tuple pl (by simp only [Rb] <;> lia) ⟨.int ys.length,H,I.tok _,⟨s.toks+1,by rw [Rb,hlen]⟩,q⟩
theorem qj:fE X (.type "list") (fun xs H Q=>∃ p ys,xs=[.ref p]∧(gn X.K H p ys∨dw X.K H p ys)∧∀ l,H l=none→Q (.ref l) (upd H l (.lst ys))):=by
 intro aa s σ H xs us Q I r h
 obtain ⟨p,ys,rfl,hq,q⟩:=h
 obtain ⟨u,rfl,rx⟩:=vals1 r
 cases rx
 have fin:∀ (its:List Value),Vals ys its→ys.length≤sizeLine→∀ (h':Heap) (c':Nat),(∀ b o',s.heap.get? b=some o'→h'.get? b=some o') →
  h'.get? s.heap.objs.size=some { cls:=.type "list",dict:=none,data:=.seq its.toArray c',slots:= #[] }→EP X aa σ Q (.ref s.heap.objs.size) { s with heap:=h' }:=fun its r' hz h' c' kp e =>
  ⟨.ref s.heap.objs.size,_,I.laid (t':=s.toks) kp (QS _) (show bw X.prog X.w _ h' _ (.lst ys) from ⟨hz,its,c',r',e⟩),rfl,q _ (I.hok.fresh (QS _))⟩
 rcases hq with hq | hq
 ·obtain ⟨its,r',pl,hz⟩:=I.list hq
  have hlen:=r'.length
  obtain ⟨o,ho,hc,n,hd⟩:=pl.isList
  exact call_list_seq p (.inl rfl) ho hc hd (fun h' c' kp e=>fin its r' hz h' c' kp e) (by simp only [Rb] <;> lia)
 ·obtain ⟨its,r',pl,hz⟩:=I.tuple hq
  have hlen:=r'.length
  obtain ⟨o,ho,hc,n,hd⟩:=pl
  exact call_list_seq p (.inr rfl) ho hc hd (fun h' c' kp e=>fin its r' hz h' c' kp e) (by simp only [Rb] <;> lia)
theorem nW:fE X (.type "tuple") (fun xs H Q=>∃ p ys,xs=[.ref p]∧((gn X.K H p ys∧∀ l,H l=none→Q (.ref l) (upd H l (.tup ys)))∨(dw X.K H p ys∧Q (.ref p) H))):=by
 intro aa s σ H xs us Q I r h
 obtain ⟨p,ys,rfl,h⟩:=h
 obtain ⟨u,rfl,rx⟩:=vals1 r
 cases rx
 rcases h with ⟨hq,q⟩ | ⟨hq,q⟩
 ·obtain ⟨its,r',pl,hz⟩:=I.list hq
  have hlen:=r'.length
  refine call_tuple_list pl.isList (fun h' kp=>?_) (by simp only [Rb] <;> lia)
  have I1:Inv X aa σ H { s with heap:=h' }:=I.kept (t':=s.toks) kp
  have I2:Inv X aa σ (upd H h'.objs.size (.tup ys)) { s with heap:=h'.push { cls:=.type "tuple",data:=.seq its.toArray } } :=
   I1.laid (t':=s.toks) (fun b o e=>QV _ e) (QS _) (show bw X.prog X.w _ _ _ (.tup ys) from ⟨hz,its,r',IsTup.new _ _⟩)
  exact ⟨.ref h'.objs.size,_,I2,rfl,q _ (I1.hok.fresh (QS _))⟩
 ·obtain ⟨its,r',pl,hz⟩:=I.tuple hq
  exact call_tuple_same pl ⟨.ref p,H,I,rfl,q⟩
noncomputable def Pk (K:QM) (T:String) (x:V) (H:Hp):Prop:=match x with
 | .str _=>T="str"
 | .int _=>T="int"
 | .ref p=>(T="list"∧∃ xs,gn K H p xs)∨(T="tuple"∧∃ o,K.lookup p=some o∧o.cls=.type "tuple"∧o.dict=none) ∨
  (T="dict"∧((∃ kvs,H p=some (.dK kvs))∨∃ kvs,H p=some (.dT kvs)))∨(T="set"∧∃ S n,H p=some (.set S n))
 | _=>False
theorem AV (I:Inv X aa σ H s) (r:RelV x v) (ty:Pk X.K T x H) :
 s.TypeIs v T∧∀ a,v=.ref a→∃ ob,s.heap.get? a=some ob∧ob.dict=none:=by
 cases x with
 | str z =>
  obtain ⟨t,rfl⟩:=r
  cases (show T="str" from ty)
  exact ⟨typeIs_str s z t,fun _ e=>nomatch e⟩
 | int i =>
  obtain ⟨t,rfl⟩:=r
  cases (show T="int" from ty)
  exact ⟨Ve s i t,fun _ e=>nomatch e⟩
 | ref p =>
  cases r
  rcases ty with ⟨rfl,xs,hq⟩ | ⟨rfl,o,hk,hc,hd⟩ | ⟨rfl,hk⟩ | ⟨rfl,S,n,hk⟩
  ·obtain ⟨its,_,pl,_⟩:=I.list hq
   refine ⟨pl.isList.typeIs,fun a e=>?_⟩
   cases e
   obtain ⟨o,n,e,c,hd,_⟩:=pl
   exact ⟨o,e,hd⟩
  ·refine ⟨⟨o,I.qb p o hk,hc⟩,fun a e=>?_⟩
   cases e
   exact ⟨o,I.qb _ o hk,hd⟩
  ·have z:∃ o,s.heap.get? p=some o∧o.ExactDict:=by
    rcases hk with ⟨kvs,hk⟩ | ⟨kvs,hk⟩
    ·obtain ⟨_,_,_,_,o,_,_,e,ex,_⟩:=I.hok p _ hk
     exact ⟨o,e,ex⟩
    ·obtain ⟨_,_,_,_,o,_,_,e,ex,_⟩:=I.hok p _ hk
     exact ⟨o,e,ex⟩
   obtain ⟨o,e,ex⟩:=z
   refine ⟨⟨o,e,ex.1⟩,fun a e2=>?_⟩
   cases e2
   exact ⟨o,e,ex.2.1⟩
  ·obtain ⟨o,_,_,_,e,ex,_⟩:=I.hok p _ hk
   refine ⟨⟨o,e,ex.1⟩,fun a e2=>?_⟩
   cases e2
   exact ⟨o,e,ex.2.1⟩
 | _=>exact RU ty
noncomputable def Pn (K:QM) (T:String) (r:V→List V→Hp→VK→Prop) (to:TE):TE:=fun σ H Q=>to σ H fun x H1=>Pk K T x H1∧r x [] H1 Q
noncomputable def QD (K:QM) (T:String) (r:V→List V→Hp→VK→Prop) (to:TE) (t:TA):TE:=fun σ H Q=>to σ H fun x H1=>Pk K T x H1∧t σ H1 fun xs H2=>r x xs H2 Q
variable {T id:String}
theorem AW (pa:PlainAttrs T) (slot:Slot T name id) (hty:typeOf (.builtin id)=pure (.type "method_descriptor")) (hm:Pf X id r) (ho:PE X o to)
 (hbase:attributeBase o name X.env (eval o X.env)=eval o X.env:=by rfl) (hline:(apos.endLine == cpos.line)=true:=by rfl):PE X (.Call (.Attribute o name apos) [] [] cpos) (Pn X.K T r to):=by
 intro aa s σ H Q I h
 refine wpAny_Call_method0_late hbase hline (bD (ho aa s σ H _ I h) fun v s1 ⟨x,H1,I1,r1,ty,q1⟩=>?_)
 obtain ⟨h1,h2⟩:=AV I1 r1 ty
 exact ⟨T,id,pa,slot,hty,h1,h2,Wu rfl (WB (hm aa s1 σ H1 x [] v [] Q I1 r1 .nil q1))⟩
theorem Mq (pa:PlainAttrs T) (slot:Slot T name id) (hty:typeOf (.builtin id)=pure (.type "method_descriptor")) (hm:Pf X id r) (ho:PE X o to) (ha:PA X (e::es) t)
 (hbase:attributeBase o name X.env (eval o X.env)=eval o X.env:=by rfl)
 (hfew:((backTo cpos (starEach (e::es) X.env)).all (fun x=> !x.1) && (backToKw cpos (keywordEach [] X.env)).all (fun x=>x.1.isSome)
   && decide ((e::es).length+([]:List Keyword).length+(if ([]:List Keyword).isEmpty then 0 else 1)<30))=true:=by rfl)
 (hline:(apos.endLine == cpos.line)=true:=by rfl) (hs:starEach (e::es) X.env=(false,eval e X.env)::starEach es X.env:=by rfl) (hplain:(backTo cpos (starEach es X.env)).any (·.1)=false:=by rfl) :
 PE X (.Call (.Attribute o name apos) (e::es) [] cpos) (QD X.K T r to t):=by
 intro aa s σ H Q I h
 refine wpAny_Call_method_late hbase hfew hline rfl (bD (ho aa s σ H _ I h) fun v s1 ⟨x,H1,I1,r1,ty,q1⟩=>?_)
 obtain ⟨h1,h2⟩:=AV I1 r1 ty
 refine ⟨T,id,pa,slot,hty,h1,h2,?_⟩
 have hA:=ha cpos aa s1 σ H1 _ I1 q1
 rw [hs] at hA ⊢
 refine Wu (by show (false || (backTo cpos (starEach es X.env)).any (·.1))=false; rw [hplain] <;> rfl) (Calls.evalArgs_plain ?_)
 exact bD hA fun us s2 ⟨vs,H2,I2,r2,q2⟩=>hm aa s2 σ H2 x vs v us Q I2 r1 r2 q2
end
noncomputable def Qi (X:Cx) (id:String) (r:V→List V→Hp→VK→Prop):Prop :=
 ∀ (aa:List (Addr×Obj)) (s:Shared) (σ:St) (H:Hp) (x:V) (xs:List V) (v:Value) (us:List Value) (Q:VK),Inv X aa σ H s→RelV x v→Vals xs us→r x xs H Q →
  wpAny (model X.prog X.w) X.A (call (.builtin id) (v::us)) (EP X aa σ Q) X.xe s
theorem Vals.one:∀ {x:V} {us:List Value},Vals [x] us→∃ u,us=[u]∧RelV x u
 | _,_,.cons r .nil=>⟨_,rfl,r⟩
theorem Vals.zero:∀ {us:List Value},Vals [] us→us=[]
 | _,.nil=>rfl
theorem Vals.dropLast (h:Vals xs us):Vals xs.dropLast us.dropLast:=by
 induction h with
 | nil=>exact .nil
 | cons r t ih =>
  cases t with
  | nil=>exact .nil
  | cons q t'=>exact .cons r ih
theorem Vals.rep (h:Vals xs us):∀ k:Nat,Vals (QY k xs).flatten (QY k us).flatten
 | 0=>.nil
 | k+1=>by
  rw [Sy,Sy,To,To]
  exact Vals.append h (Vals.rep h k)
theorem uV {α:Type} (l:List α):l.eraseIdx (l.length - 1)=l.dropLast:=by
 induction l with
 | nil=>rfl
 | cons a r ih =>
  cases r with
  | nil=>rfl
  | cons b r =>
   have e:(a::b::r).length - 1=((b::r).length - 1)+1:=by
    have h1:(a::b::r).length=r.length+2:=rfl
    have h2:(b::r).length=r.length+1:=rfl
    lia
   rw [e,List.eraseIdx_cons_succ,ih]
   all_goals rfl
theorem foldl_rep (its):∀ (k:Nat) (acc:List Value),
 UK (fun x1 x2=>x1++x2) acc.toArray (QY k its.toArray)=(acc++(QY k its).flatten).toArray
 | 0,acc=>by simp
 | k+1,acc=>by
  have e:acc.toArray++its.toArray=(acc++its).toArray:=by simp
  have e2:(acc++its)++(QY k its).flatten=acc++(QY (k+1) its).flatten:=by
   rw [Sy,To,Rk]
  rw [← e2,← foldl_rep its k (acc++its),← e,Sy,So]
section
theorem Inv.uW {its its':List Value} (I:Inv X aa σ H s) (hH:H l=some (.lst xs))
 (e:s.heap.get? l=some { cls:=.type "list",data:=.seq its.toArray n }) (hf:f its.toArray=its'.toArray) (hv:Vals ys its') (hz:ys.length≤sizeLine) :
 Inv X aa σ (upd H l (.lst ys)) { s with heap:=s.heap.update l (Rw f),toks:=t' }:=by
 have q:=PySem.IsL.update e f
 rw [hf] at q
 refine I.write (x:=l) (e:=l) (by rw [hH]; exact trivial) (.inl rfl) (fun b' u hb hu=>(Vs s.heap (Rw f) (Rf hb)).trans hu) ⟨_,q⟩ ?_
 exact ⟨hz,its',_,hv,q⟩
theorem Inv.E4 (I:Inv X aa σ H s) (hv:Vals ys its) (hz:ys.length≤sizeLine) :
 Inv X aa σ (upd H s.heap.objs.size (.lst ys)) { s with heap:=s.heap.push { cls:=.type "list",data:=.seq its.toArray },toks:=t' } :=
 I.laid (fun _ _ q=>QV _ q) (QS _) ⟨hz,its,0,hv,Q5 _ rfl⟩
theorem Inv.fresh (I:Inv X aa σ H s):H s.heap.objs.size=none:=I.hok.fresh (QS _)
theorem Inv.rN (I:Inv X aa σ H s) (hH:H l=some (.lst xs)):xs.length≤sizeLine∧∃ (its:List Value) (n:Nat),Vals xs its∧xs.length=its.length∧s.heap.get? l=some { cls:=.type "list",data:=.seq its.toArray n }:=by
 obtain ⟨z,its,n,r,e⟩:=I.hok l _ hH
 exact ⟨z,its,n,r,r.length,e⟩
theorem AX (h:n≤sizeLine):Wl n=false:=by
 unfold Wl
 exact decide_eq_false (by lia)
end
section
noncomputable def E5:V→List V→Hp→VK→Prop:=fun x vs H Q=>∃ l xs y,x=.ref l∧vs=[y]∧H l=some (.lst xs)∧xs.length<sizeLine∧Q .non (upd H l (.lst (xs++[y])))
theorem oS:Qi X "list.append" E5:=by
 intro aa s σ H x vs v us Q I rx rv h
 obtain ⟨l,xs,y,rfl,rfl,hH,hz,q⟩:=h
 cases rx
 obtain ⟨u,rfl,ru⟩:=rv.one
 obtain ⟨z,its,n,r,hl,e⟩:=I.rN hH
 refine Vf F.slot_list_append ⟨_,e,rfl⟩ F.entry_list_append (F.args_list_append_2 _ _) (PySem.list_append l its.toArray n u (by rw [Rb]; lia)) ⟨e,?_⟩
 refine ⟨.non,_,I.uW (its':=its++[u]) hH e (by simp) (r.append (.cons ru .nil)) ?_,rfl,q⟩
 rw [Rr,Sb]
 lia
noncomputable def Po:V→List V→Hp→VK→Prop:=fun x vs H Q=>∃ l xs y,x=.ref l∧vs=[]∧H l=some (.lst xs)∧xs[xs.length - 1]?=some y∧Q y (upd H l (.lst xs.dropLast))
theorem Jv:Qi X "list.pop" Po:=by
 intro aa s σ H x vs v us Q I rx rv h
 obtain ⟨l,xs,y,rfl,rfl,hH,hy,q⟩:=h
 cases rx
 have hus:=rv.zero
 subst hus
 obtain ⟨z,its,n,r,hl,e⟩:=I.rN hH
 obtain ⟨u,hu,ru⟩:=r.get hy
 have hy':its.toArray[its.toArray.size - 1]?=some u:=by
  show its.toArray[its.length - 1]?=some u
  rw [← RN,← hl]
  exact hu
 refine Vf F.slot_list_pop ⟨_,e,rfl⟩ F.entry_list_pop (F.args_list_pop_1 _) (MeetsSeq.list_pop_last l its.toArray n u hy' (by rw [Rb]; lia)) ⟨e,?_⟩
 refine ⟨y,_,I.uW (its':=its.dropLast) hH e ?_ r.dropLast ?_,ru,q⟩
 ·show its.toArray.eraseIdxIfInBounds (its.toArray.size - 1)=its.dropLast.toArray
  rw [Rb,List.eraseIdxIfInBounds_toArray,uV]
 ·rw [List.length_dropLast]
  lia
noncomputable def Pp:R2:=fun x y H Q=>∃ l k xs,x=.ref l∧y=.int k∧H l=some (.lst xs)∧ -(2 ^ 63)≤k∧k<2 ^ 63∧xs.length * k.toNat≤sizeLine ∧
 ∀ p,H p=none→Q (.ref p) (upd H p (.lst (QY k.toNat xs).flatten))
theorem len_rep {α:Type} (xs:List α) (k):(QY k xs).flatten.length=k * xs.length:=by
 induction k with
 | zero=>simp
 | succ k ih=>rw [Sy,To,Rr,ih,U8,Nat.add_comm]
theorem Jw:fR X (binaryOp .Mult) Pp:=by
 intro aa s σ H x y v u Q I rx ry h
 obtain ⟨l,k,xs,rfl,rfl,hH,h1,h2,hz,q⟩:=h
 cases rx
 obtain ⟨t,rfl⟩:=ry
 obtain ⟨z,its,n,r,hl,e⟩:=I.rN hH
 have hlen:its.toArray.size * k.toNat≤sizeLine:=by rw [Rb,← hl]; exact hz
 have hcap:¬ its.toArray.size * k.toNat>(2 ^ 63 - 1) / 8:=by
  have:(sizeLine:Nat)≤(2 ^ 63 - 1) / 8:=by decide
  lia
 have hfit:¬ (!Builtin.List.listFitsIndex k)=true:=by
  rw [fitsIndex_both h1 h2]
  exact QZ
 have hlong:¬ Wl (its.toArray.size * k.toNat)=true:=by
  rw [AX hlen]
  exact QZ
 have hnew:UK (fun x1 x2=>x1++x2) #[] (QY (if its.toArray.isEmpty=true then 0 else k.toNat) its.toArray)=(QY k.toNat its).flatten.toArray:=by
  have f0:∀ m:Nat,UK (fun x1 x2=>x1++x2) #[] (QY m its.toArray)=(QY m its).flatten.toArray:=fun m=>by
   have:=foldl_rep its m []
   rw [Tq] at this
   exact this
  rw [f0]
  cases its with
  | nil=>simp
  | cons a r'=>rw [if_neg (by simp)]
 refine wpAny_binaryOp_repeat_ref (T:="list") (U:="int") (by decide) ⟨_,e,rfl⟩ (fun s'=>Ve s' k t) noFill_list_mul F.fills_int_mul VT repeat_list F.slot_int_index.lookup
  (Vf VT (Ve s k t) F.entry_int_rmul (F.args_int_rmul_2 _ _) (int___rmul___int_list k t l its.toArray n)
    ⟨e,rfl,⟨_,e,rfl⟩,Vf F.slot_list_mul ⟨_,e,rfl⟩ F.entry_list_mul (F.args_list_mul_2 _ _) (AutoListH.list___mul___list_int_3 l its.toArray n k t hfit hcap hlong) ⟨e,?_⟩⟩)
 rw [hnew]
 exact ⟨.ref _,_,I.E4 (t':=s.toks) (r.rep k.toNat) (by rw [len_rep,V8]; exact hz),rfl,q _ I.fresh⟩
end
section
end
section
end
section
variable {κ:Type} [DecidableEq κ]
noncomputable def lQ (kvs:List (κ×V)) (k:κ):Option V:=(kvs.find? fun kv=>decide (kv.1=k)).map (·.2)
noncomputable def putK (kvs:List (κ×V)) (k:κ) (v:V):List (κ×V) :=
 if (kvs.any fun kv=>decide (kv.1=k))=true then kvs.map (fun kv=>if kv.1=k then (kv.1,v) else kv) else kvs++[(k,v)]
theorem lR {p:κ×V} {r:List (κ×V)} {k:κ} (e:p.1=k):lQ (p::r) k=some p.2:=by simp [lQ,SA,e]
theorem lS {p:κ×V} {r:List (κ×V)} {k:κ} (e:¬ p.1=k):lQ (p::r) k=lQ r k:=by simp [lQ,SA,e]
theorem rP (k:κ):∀ kvs:List (κ×V),(kvs.any fun kv=>decide (kv.1=k))=(lQ kvs k).isSome
 | []=>rfl
 | p::r=>by
  rw [List.any_cons]
  by_cases e:p.1=k
  ·simp only [lR e,decide_eq_true e,Bool.true_or,Option.isSome_some]
  ·rw [lS e,decide_eq_false e,Bool.false_or]; exact rP k r
theorem rQ (kvs) (k:κ) (v):(putK kvs k v).length≤kvs.length+1:=by
 unfold putK
 split
 ·rw [QU]; lia
 ·rw [Rr,RH,SS]; lia
theorem kH.jK (r:kH o u):o.isSome=u.isSome:=by
 cases o with
 | none=>cases u with
  | none=>rfl
  | some _=>exact (show False from r).elim
 | some _=>cases u with
  | none=>exact (show False from r).elim
  | some _=>rfl
theorem kH.getD (r:kH o u) (rd:RelV d d'):RelV (o.getD d) (u.getD d'):=by
 cases o with
 | none=>cases u with
  | none=>exact rd
  | some _=>exact (show False from r).elim
 | some _=>cases u with
  | none=>exact (show False from r).elim
  | some _=>exact r
theorem KV.val (r:KV kvs vs) (k:κ):kH (lQ kvs k) (valueAt vs k):=by
 unfold KV at r
 induction r with
 | nil=>exact SX
 | @cons p q ps qs h t ih =>
  obtain ⟨h1,h2⟩:=h
  by_cases e:p.1=k
  ·have e':q.1=k:=h1.symm.trans e
   have b:valueAt (q::qs) k=some q.2:=by simp [valueAt,SA,e']
   rw [lR e,b]; exact h2
  ·have e':¬ q.1=k:=fun z=>e (h1.trans z)
   have b:valueAt (q::qs) k=valueAt qs k:=by simp [valueAt,SA,e']
   rw [lS e,b]; exact ih
theorem KV.any (r:KV kvs vs) (k:κ):(kvs.any fun kv=>decide (kv.1=k))=vs.any fun kv=>decide (kv.1=k):=by
 unfold KV at r
 induction r with
 | nil=>rfl
 | cons h t ih=>rw [List.any_cons,List.any_cons,ih,h.1]
theorem KV.repl (r:KV kvs vs) (k:κ) (ry:RelV y u) :
 KV (kvs.map fun kv=>if kv.1=k then (kv.1,y) else kv) (vs.map fun kv=>if kv.1=k then (kv.1,u) else kv):=by
 unfold KV at r ⊢
 induction r with
 | nil=>exact .nil
 | @cons p q ps qs h t ih =>
  rw [QW,QW]
  refine .cons ?_ ih
  obtain ⟨h1,h2⟩:=h
  by_cases e:p.1=k
  ·rw [if_pos e,if_pos (h1.symm.trans e)]; exact ⟨h1,ry⟩
  ·rw [if_neg e,if_neg (fun z=>e (h1.trans z))]; exact ⟨h1,h2⟩
theorem KV.put (r:KV kvs vs) (k:κ) (ry:RelV y u):KV (putK kvs k y) (stored vs k u):=by
 unfold putK stored
 rw [r.any k]
 by_cases e:(vs.any fun kv=>decide (kv.1=k))=true
 ·rw [if_pos e,if_pos e]; exact r.repl k ry
 ·rw [if_neg e,if_neg e]; exact Wc r ⟨rfl,ry⟩
theorem KV.length (r:KV kvs vs):kvs.length=vs.length:=SE r
end
theorem rR (r:RelV (kV k) u):(bY P w).is k u=true:=by
 cases k with
 | inl i=>obtain ⟨t,e⟩:=(show ∃ t,u=TU i t from r); subst e; exact rG P w i t
 | inr x=>obtain ⟨t,e⟩:=(show ∃ t,u=Vg x t from r); subst e; exact rH P w x t
theorem oU:∀ {ks:List Key} {us:List Value},Vals (ks.map kV) us→ItemsAre (bY P w) ks us
 | [],_,r=>by rw [RJ] at r; cases r; exact .nil
 | k::ks,_,r=>by
  rw [QW] at r
  cases r with
  | cons h t=>exact .cons (rR h) (oU t)
noncomputable abbrev KT:List (List Key×Addr×V)→List (List Key×Addr×Value)→Prop:=Paired fun p q=>p.1=q.1∧p.2.1=q.2.1∧RelV p.2.2 q.2.2
noncomputable def atT (kvs:List (List Key×Addr×V)) (k:List Key):Option V:=(kvs.find? fun kv=>decide (kv.1=k)).map (·.2.2)
noncomputable def qk (k:List Key) (v:V) (x:List Key×Addr×V):List Key×Addr×V:=if x.1=k then (x.1,x.2.1,v) else x
noncomputable def rS (kvs:List (List Key×Addr×V)) (k:List Key) (b:Addr) (v:V):List (List Key×Addr×V) :=
 if (atT kvs k).isSome=true then kvs.map (qk k v) else kvs++[(k,b,v)]
theorem rT (kvs) (k) (b) (v):(rS kvs k b v).length≤kvs.length+1:=by
 unfold rS
 split
 ·rw [QU]; lia
 ·rw [Rr,RH,SS]; lia
theorem KT.val (r:KT kvs xs) (k):kH (atT kvs k) ((atKey xs k).map (·.2)):=by
 induction r with
 | nil=>exact SX
 | @cons p q ps qs h t ih =>
  obtain ⟨h1,_,h2⟩:=h
  by_cases e:p.1=k
  ·have e':q.1=k:=h1.symm.trans e
   have b:atKey (q::qs) k=some q.2:=by simp [atKey,SA,e']
   have b2:atT (p::ps) k=some p.2.2:=by simp [atT,SA,e]
   rw [b2,b]; exact h2
  ·have e':¬ q.1=k:=fun z=>e (h1.trans z)
   have b:atKey (q::qs) k=atKey qs k:=by simp [atKey,SA,e']
   have b2:atT (p::ps) k=atT ps k:=by simp [atT,SA,e]
   rw [b2,b]; exact ih
theorem KT.repl (r:KT kvs xs) (k) (ry:RelV y u) :
 KT (kvs.map (qk k y)) (xs.map (putAt k u)):=by
 induction r with
 | nil=>exact .nil
 | @cons p q ps qs h t ih =>
  rw [QW,QW]
  refine .cons ?_ ih
  obtain ⟨h1,h2,h3⟩:=h
  unfold putAt qk
  by_cases e:p.1=k
  ·rw [if_pos e,if_pos (h1.symm.trans e)]; exact ⟨h1,h2,ry⟩
  ·rw [if_neg e,if_neg (fun z=>e (h1.trans z))]; exact ⟨h1,h2,h3⟩
theorem KT.put (r:KT kvs xs) (k) (ry:RelV y u) :
 KT (rS kvs k b y) (storedH xs k b u):=by
 have e:(atT kvs k).isSome=(atKey xs k).isSome:=by
  rw [(r.val k).jK,T5]
 unfold rS storedH
 rw [e]
 by_cases q:(atKey xs k).isSome=true
 ·rw [if_pos q,if_pos q]; exact r.repl k ry
 ·rw [if_neg q,if_neg q]; exact Wc r ⟨rfl,rfl,ry⟩
section
theorem AY (ok:jH P w H h) (e:Rd H a u):bw P w H h a u:=e.ok ok
theorem oV (ok:jH P w H h) (e:Rd H a (.dK kvs)):kvs.length≤sizeLine∧(a == sysModules)=false∧∃ vs,KV kvs vs∧h.DictOf (bY P w) a vs :=
 show bw P w H h a (.dK kvs) from AY ok e
theorem Mr (ok:jH P w H h) (e:H a=some (.dK kvs)):kvs.length≤sizeLine∧(a == sysModules)=false∧∃ vs,KV kvs vs∧h.DictOf (bY P w) a vs:=oV ok (.inl e)
end
section
theorem lT (I:Inv X aa σ H s) (e:dw X.K H a (ks.map kV)):(tupleKind (bY X.prog X.w)).is s.heap ks a:=by
 obtain ⟨its,r,⟨o,h1,h2,n,h3⟩,_⟩:=I.tuple e
 exact ⟨o,its.toArray,n,h1,h2,h3,by simpa using oU r⟩
theorem rV (I:Inv X aa σ H s) (e:Rd H a (.dT kvs)) (hk:∀ x∈kvs,dw X.K H x.2.1 (x.1.map kV)):kvs.length≤sizeLine∧(a == sysModules)=false ∧
 ∃ xs,KT kvs xs∧s.heap.DictOfH (tupleKind (bY X.prog X.w)) a xs:=by
 obtain ⟨z,y,xs,r,o,es,ep,h1,h2,h3,h4,h5⟩:=(show bw X.prog X.w H s.heap a (.dT kvs) from AY I.hok e)
 refine ⟨z,y,xs,r,o,es,ep,h1,h2,h3,h4,?_,h5⟩
 have all:∀ {l:List (List Key×Addr×V)} {m:List (List Key×Addr×Value)},KT l m→(∀ x∈l,dw X.K H x.2.1 (x.1.map kV))→∀ x∈m,(tupleKind (bY X.prog X.w)).is s.heap x.1 x.2.1:=by
  intro l m q
  induction q with
  | nil=>intro _ x hx; exact nomatch hx
  | @cons p q ps qs hq t ih =>
   intro hl x hx
   rcases Q0.mp hx with e | hx
   ·subst e
    rw [← hq.1,← hq.2.1]
    exact lT I (hl p Q6)
   ·exact ih (fun y hy=>hl y (Q9 _ hy)) x hx
 exact all r hk
end
noncomputable def ql (K:QM) (H:Hp) (a:Addr) (y:V) (r:Option V):Prop :=
 (∃ kvs k,Rd H a (.dK kvs)∧y=kV k∧r=lQ kvs k)∨∃ kvs k b,Rd H a (.dT kvs)∧(∀ x∈kvs,dw K H x.2.1 (x.1.map kV))∧y=.ref b∧dw K H b (k.map kV)∧r=atT kvs k
noncomputable def E6 (K:QM) (H:Hp) (a:Addr) (y v:V) (H':Hp):Prop :=
 (∃ kvs k,H a=some (.dK kvs)∧y=kV k∧kvs.length<sizeLine∧H'=upd H a (.dK (putK kvs k v))) ∨
 ∃ kvs k b,H a=some (.dT kvs)∧(∀ x∈kvs,dw K H x.2.1 (x.1.map kV))∧y=.ref b∧dw K H b (k.map kV)∧kvs.length<sizeLine∧H'=upd H a (.dT (rS kvs k b v))
section
theorem Inv.big (I:Inv X aa σ H s):sysModules<s.heap.objs.size:=by
 have h:mainGlobals<s.heap.objs.size:=(I.mod.glob.keeps I.bk).lt
 exact Nat.lt_trans (by decide) h
theorem oW (hu:A.units+1<cLine) (I:Inv X aa σ H s) (g:ql X.K H a y (some v)) (ry:RelV y u) (h:∀ w' s',Inv X aa σ H s'→RelV v w'→Q w' s') :
 wpAny (model X.prog X.w) A (getItem (.ref a) u) Q E s:=by
 rcases g with ⟨kvs,k,e,ey,l⟩ | ⟨kvs,k,b,e,hk,ey,eb,l⟩
 ·subst ey
  obtain ⟨z,hd,vs,rel,dd⟩:=oV I.hok e
  obtain ⟨w',hw,rw'⟩:=kH.some_of (v:=v) (o:=valueAt vs k) (by rw [l]; exact rel.val k)
  exact wpAny_getItem_of (rR ry) dd.mapOf hw (h w' _ (I.tok _) rw')
 ·subst ey
  cases (show u=Rc b from ry)
  obtain ⟨z,hd,xs,rel,dd⟩:=rV I e hk
  obtain ⟨w',hw,rw'⟩:=kH.some_of (v:=v) (o:=(atKey xs k).map (·.2)) (by rw [l]; exact rel.val k)
  obtain ⟨p,hp,hp2⟩:=Q7.mp hw
  refine wpAny_getItem_heap (Vz hu) (lT I eb) dd hp ?_
  rw [hp2]
  exact h w' _ (I.tok _) rw'
theorem Pq (hu:A.units+1<cLine) (I:Inv X aa σ H s) (g:ql X.K H a y o) (ry:RelV y u) (h:∀ s',Inv X aa σ H s'→Q (.bool o.isSome) s') :
 wpAny (model X.prog X.w) A (compareOp .In u (.ref a)) Q E s:=by
 rcases g with ⟨kvs,k,e,ey,l⟩ | ⟨kvs,k,b,e,hk,ey,eb,l⟩
 ·subst ey
  obtain ⟨z,hd,vs,rel,dd⟩:=oV I.hok e
  refine wpAny_in_of (rR ry) hd dd.mapOf ?_
  rw [← (rel.val k).jK,← l]
  exact h _ (I.tok _)
 ·subst ey
  cases (show u=Rc b from ry)
  obtain ⟨z,hd,xs,rel,dd⟩:=rV I e hk
  refine wpAny_in_heap (Vz hu) (lT I eb) hd dd ?_
  have q:=(rel.val k).jK
  rw [T5] at q
  rw [← q,← l]
  exact h _ (I.tok _)
theorem wL (I:Inv X aa σ H s) (mu:LS (H a)) (hs:SH a s.heap h') (he:∃ q,h'.get? a=some q) (new:bw X.prog X.w (upd H a ob) h' a ob) :
 Inv X aa σ (upd H a ob) { s with heap:=h',toks:=t' } :=
 I.write (x:=a) (e:=a) mu (.inl rfl) (fun b q hb z=>(hs.2 b hb).trans z) he new
theorem Jx (z:kvs.length≤sizeLine) (hd:(a == sysModules)=false) (rel:KV kvs vs) (dd:h'.DictOf (bY P w) a vs) :
 bw P w H' h' a (.dK kvs):=⟨z,hd,vs,rel,dd⟩
theorem oX (hu:A.units+1<cLine) (I:Inv X aa σ H s) (g:E6 X.K H a y v H') (ry:RelV y u) (rv:RelV v r) (h:∀ s',Inv X aa σ H' s'→Q () s') :
 wpAny (model X.prog X.w) A (setItem (.ref a) u r) Q E s:=by
 rcases g with ⟨kvs,k,e,ey,l,eH⟩ | ⟨kvs,k,b,e,hk,ey,eb,l,eH⟩
 ·subst ey eH
  obtain ⟨z,hd,vs,rel,dd⟩:=Mr I.hok e
  have hz:vs.length≤sizeLine:=by rw [← rel.length]; exact z
  have hl:(putK kvs k v).length≤sizeLine:=by have:=rQ kvs k v; lia
  refine wpAny_setItem_pairs (hsz:=hz) (rR ry) dd fun h' dd' hs=>h _ ?_
  have he:∃ q,h'.get? a=some q:=let ⟨q,_,_,hq,_⟩:=dd'; ⟨q,hq⟩
  exact wL I (by rw [e]; exact SX) hs he (Jx hl hd (rel.put k rv) dd')
 ·subst ey eH
  cases (show u=Rc b from ry)
  obtain ⟨z,hd,xs,rel,dd⟩:=rV I (.inl e) hk
  have hz:xs.length≤sizeLine:=by rw [← SE rel]; exact z
  have hl:(rS kvs k b v).length≤sizeLine:=by have:=rT kvs k b v; lia
  refine wpAny_setItem_heap (hsz:=hz) (Vz hu) (lT I eb) dd fun h' dd' hs=>h _ ?_
  obtain ⟨q,es,ep,hq,h2,h3,h4,_,h5⟩:=dd'
  exact wL I (by rw [e]; exact SX) hs ⟨q,hq⟩ ⟨hl,hd,_,rel.put k rv,q,es,ep,hq,h2,h3,h4,h5⟩
end
section
end
noncomputable def Jy (i:Expr):Prop:=∀ ov iv,subscripted i false ov iv=operate [ov,iv] (getItem ov iv)
theorem E7 {T id:String}
 (hl:typeLookup (.type T) "__getitem__"=pure (some (.builtin id))) (hs:Jy slice)
 (h:wpAny (model prog w) A (eval value env) (fun o s₁=>wpAny (model prog w) A (eval slice env) (fun i s₂=>s₂.TypeIs o T∧wpAny (model prog w) A (getItem o i) Q E s₂) E s₁) E s) :
 wpAny (model prog w) A (eval (.Subscript value slice pos) env) Q E s:=by
 refine Subscript_ (RE h (fun o s₁ h₁=>RE h₁ (fun i s₂ h₂=>?_) fun _ _ x=>x) fun _ _ x=>x)
 obtain ⟨hT,h₂⟩:=h₂
 unfold subscriptTail
 refine QL ?_
 rw [getitemInPython_of_ne hT.not_modules]
 refine QL (wpAny_specialOf hT hl ?_)
 have fin:wpAny (model prog w) A (subscripted slice false o i) (fun r s₃=>wpAny (model prog w) A (letTemporaryGo value o r >>= fun _=>pure r) Q E s₃) E s₂:=by
  rw [hs o i]
  exact wpAny_operating (RE h₂ (fun r s₃ h₃=>QL (wpAny_letTemporaryGo (QN h₃))) fun _ _ x=>x)
 first
  | exact QN (QL fin)
  | exact QL (QN (QL fin))
  | exact QL fin
theorem rX (I:Inv X aa σ H s) (g:ql X.K H a y o):s.TypeIs (.ref a) "dict":=by
 rcases g with ⟨kvs,k,e,_,_⟩ | ⟨kvs,k,b,e,hk,_,_,_⟩
 ·obtain ⟨_,_,vs,_,dd⟩:=oV I.hok e
  exact dd.typeIs
 ·obtain ⟨_,_,xs,_,dd⟩:=rV I e hk
  exact dd.typeIs
noncomputable def Mt (X:Cx) (td ty:TE):TE:=fun σ H Q=>td σ H fun x H1=>ty σ H1 fun y H2=>∃ a v,x=.ref a∧ql X.K H2 a y (some v)∧Q v H2
noncomputable def Pr (X:Cx) (ty td:TE):TE:=fun σ H Q=>ty σ H fun y H1=>td σ H1 fun x H2=>∃ a o,x=.ref a∧ql X.K H2 a y o∧Q (.bl o.isSome) H2
noncomputable def Mu (X:Cx) (td ty tv:TE):TS:=fun D σ H=>tv σ H fun v H1=>td σ H1 fun x H2=>ty σ H2 fun y H3=>∃ a H4,x=.ref a∧E6 X.K H3 a y v H4∧D.nx σ H4
noncomputable def Mw (X:Cx) (td ty tv:TE) (rd:V→V→Hp→VK→Prop):TS:=fun D σ H=>td σ H fun x H1=>ty σ H1 fun y H2=>∃ a v,x=.ref a∧ql X.K H2 a y (some v) ∧
 tv σ H2 fun y2 H3=>rd v y2 H3 fun z H4=>∃ H5,E6 X.K H4 a y z H5∧D.nx σ H5
section
theorem E8 (hu:X.A.units+1<cLine) (ho:PE X o td) (hi:PE X i ty) (hs:Jy i):PE X (.Subscript o i pos) (Mt X td ty):=by
 intro aa s σ H Q I h
 refine E7 PySem.F.slot_dict_getitem.lookup hs (bD (ho aa s σ H _ I h) fun u s1 ⟨x,H1,I1,rx,q1⟩=>bD (hi aa s1 σ H1 _ I1 q1) fun iv s2 ⟨y,H2,I2,ry,a,v,ex,g,q2⟩=>?_)
 subst ex
 obtain rfl:u=Rc a:=rx
 exact ⟨rX I2 g,oW hu I2 g ry fun w' s3 I3 rw'=>⟨v,H2,I3,rw',q2⟩⟩
theorem Jz (hu:X.A.units+1<cLine) (hi:PE X i ty) (ho:PE X o td):PC X .In i o (Pr X ty td):=by
 intro aa s σ H Q I h
 refine bD (hi aa s σ H _ I h) fun iv s1 ⟨y,H1,I1,ry,q1⟩=>bD (ho aa s1 σ H1 _ I1 q1) fun u s2 ⟨x,H2,I2,rx,a,ov,ex,g,q2⟩=>?_
 subst ex
 obtain rfl:u=Rc a:=rx
 exact Pq hu I2 g ry fun s3 I3=>⟨.bl ov.isSome,H2,I3,rfl,q2⟩
theorem E9 (hu:X.A.units+1<cLine) (ho:PE X o td) (hi:PE X i ty) (hv:PE X value tv) (hs:swapsWith value (some (.Subscript o i pos')) pos.line X.env=pure false) :
 PS X (.Assign [.Subscript o i pos'] value pos) (Mu X td ty tv):=by
 intro aa s σ H D I h
 refine wpAny_Assign_Subscript (bD (hv aa s σ H _ I h) fun r s1 ⟨v,H1,I1,rv,q1⟩=>bD (ho aa s1 σ H1 _ I1 q1) fun u s2 ⟨x,H2,I2,rx,q2⟩=>bD (hi aa s2 σ H2 _ I2 q2) fun iv s3 ⟨y,H3,I3,ry,a,H4,ex,g,q3⟩=>?_) hs
 subst ex
 obtain rfl:u=Rc a:=rx
 exact oX hu I3 g ry rv fun s4 I4=>⟨σ,H4,I4,q3⟩
theorem Fb (hu:X.A.units+1<cLine) (ho:PE X o td) (hi:PE X i ty) (hv:PE X value tv) (hop:Ml X op rd)
 (ha:∀ ov iv new,augStore i ov iv new=(do holding [new,ov,iv] (setItem ov iv new); release [new,ov,iv] []; pure .next)):PS X (.AugAssign (.Subscript o i tpos) op value pos) (Mw X td ty tv rd):=by
 intro aa s σ H D I h
 refine wpAny_AugAssign_SubscriptAny (bD (ho aa s σ H _ I h) fun u s1 ⟨x,H1,I1,rx,q1⟩=>bD (hi aa s1 σ H1 _ I1 q1) fun iv s2 ⟨y,H2,I2,ry,a,v,ex,g,q2⟩=>?_) ha
 subst ex
 obtain rfl:u=Rc a:=rx
 refine oW hu I2 g ry fun w' s3 I3 rw'=>bD (hv aa s3 σ H2 _ I3 q2) fun w2 s4 ⟨y2,H3,I4,ry2,q3⟩=>bD (hop aa s4 σ H3 v y2 w' w2 _ I4 rw' ry2 q3) fun w3 s5 ⟨z,H4,I5,rz,H5,g5,q4⟩=>?_
 exact oX hu I5 g5 ry rz fun s6 I6=>⟨σ,H5,I6,q4⟩
end
theorem AZ (h:Heap) (hb:sysModules<h.objs.size):bw P w H (h.push { cls:=.type "dict",data:=.dict #[] }) h.objs.size (.dK []) :=
 ⟨Rq _,beq_eq_false_iff_ne.mpr (Rf (Ri hb)),[],.nil,Heap.DictOf.new h⟩
theorem A0 (h:Heap) (hb:sysModules<h.objs.size):bw P w H (h.push { cls:=.type "dict",data:=.dict #[] }) h.objs.size (.dT []) :=
 ⟨Rq _,beq_eq_false_iff_ne.mpr (Rf (Ri hb)),[],.nil,_,#[],0,Q5 _ rfl,⟨rfl,rfl,rfl⟩,rfl,rfl,List.nodup_nil⟩
noncomputable def JA:TE:=fun _ H Q=>∀ p,H p=none→Q (.ref p) (upd H p (.dK []))
noncomputable def JB:TE:=fun _ H Q=>∀ p,H p=none→Q (.ref p) (upd H p (.dT []))
section
theorem A1:PE X (.Dict [] [] pos) JA:=fun aa s σ H Q I h =>
 wpAny_Dict_empty ⟨.ref s.heap.objs.size,_,I.laid (a:=s.heap.objs.size) (o:=.dK []) (t':=s.toks) (fun _ _ q=>QV _ q) (QS _) (AZ s.heap I.big),rfl,h _ (I.hok.fresh (QS _))⟩
theorem A3:PE X (.Dict [] [] pos) JB:=fun aa s σ H Q I h =>
 wpAny_Dict_empty ⟨.ref s.heap.objs.size,_,I.laid (a:=s.heap.objs.size) (o:=.dT []) (t':=s.toks) (fun _ _ q=>QV _ q) (QS _) (A0 s.heap I.big),rfl,h _ (I.hok.fresh (QS _))⟩
end
structure M1 (X:Cx) (o:Expr) (m:Str) (apos:Pos) (e:Expr) (cpos:Pos):Prop where
 base:attributeBase o m X.env (eval o X.env)=eval o X.env
 few:((backTo cpos (starEach [e] X.env)).all (fun x=> !x.1) && (backToKw cpos (keywordEach [] X.env)).all (fun x=>x.1.isSome)
  && decide (([e]:List Expr).length+([]:List Keyword).length+(if ([]:List Keyword).isEmpty then 0 else 1)<30))=true
 line:(apos.endLine == cpos.line)=true
 trees:backTo cpos (starEach [e] X.env)=[(false,eval e X.env)]
structure M2 (X:Cx) (o:Expr) (m:Str) (apos:Pos) (e f:Expr) (cpos:Pos):Prop where
 base:attributeBase o m X.env (eval o X.env)=eval o X.env
 few:((backTo cpos (starEach [e,f] X.env)).all (fun x=> !x.1) && (backToKw cpos (keywordEach [] X.env)).all (fun x=>x.1.isSome)
  && decide (([e,f]:List Expr).length+([]:List Keyword).length+(if ([]:List Keyword).isEmpty then 0 else 1)<30))=true
 line:(apos.endLine == cpos.line)=true
 trees:backTo cpos (starEach [e,f] X.env)=[(false,eval e X.env),(false,eval f X.env)]
noncomputable def Pu (H:Hp) (a:Addr):Prop:=(∃ kvs,Rd H a (.dK kvs))∨∃ kvs,Rd H a (.dT kvs)
theorem JC (I:Inv X aa σ H s) (d:Pu H a) :
 s.TypeIs (.ref a) "dict"∧(∀ b,Rc a=.ref b→∃ ob,s.heap.get? b=some ob∧ob.dict=none)∧(a == sysModules)=false:=by
 rcases d with ⟨kvs,e⟩ | ⟨kvs,e⟩
 ·obtain ⟨_,hd,vs,_,dd⟩:=oV I.hok e
  refine ⟨dd.typeIs,fun b q=>?_,hd⟩
  cases q
  obtain ⟨ob,_,_,h1,h2,_⟩:=dd
  exact ⟨ob,h1,h2.2.1⟩
 ·obtain ⟨_,hd,xs,_,ob,es,ep,h1,h2,_⟩:=(show bw X.prog X.w H s.heap a (.dT kvs) from AY I.hok e)
  refine ⟨⟨ob,h1,h2.1⟩,fun b q=>?_,hd⟩
  cases q
  exact ⟨ob,h1,h2.2.1⟩
section
theorem JD (hu:A.units+1<cLine) (I:Inv X aa σ H s) (g:ql X.K H a y o) (ry:RelV y u) (rd:RelV d r) (h:∀ w' s',Inv X aa σ H s'→RelV (o.getD d) w'→Q w' s') :
 wpAny (model X.prog X.w) A (call (.builtin "dict.get") [.ref a,u,r]) Q E s:=by
 rcases g with ⟨kvs,k,e,ey,l⟩ | ⟨kvs,k,b,e,hk,ey,eb,l⟩
 ·subst ey
  obtain ⟨z,hd,vs,rel,dd⟩:=oV I.hok e
  refine call_meetsIn Ww dd.typeIs PySem.F.entry_dict_get (PySem.F.args_dict_get_3 _ _ _) (meets_dict_get_default (bY X.prog X.w) a (rR ry) hd r) ⟨_,dd.mapOf,h _ _ (I.tok _) ?_⟩
  rw [l]
  exact (rel.val k).getD rd
 ·subst ey
  cases (show u=Rc b from ry)
  obtain ⟨z,hd,xs,rel,dd⟩:=rV I e hk
  refine call_meetsIn Ww dd.typeIs PySem.F.entry_dict_get (PySem.F.args_dict_get_3 _ _ _) (meetsH_dict_get_default (tupleKind (bY X.prog X.w)) a b hd r) ⟨Vz hu,k,xs,lT I eb,dd,h _ _ (I.tok _) ?_⟩
  rw [l]
  exact (rel.val k).getD rd
end
noncomputable def JE (X:Cx) (td ty tx:TE):TE:=fun σ H Q=>td σ H fun x H1=>∃ a,x=.ref a∧Pu H1 a∧ty σ H1 fun y H2=>tx σ H2 fun z H3=>∃ o,ql X.K H3 a y o∧Q (o.getD z) H3
section
theorem A4 (hu:X.A.units+1<cLine) (ho:PE X o td) (he:PE X e ty) (hf:PE X f tx) (m:M2 X o "get" apos e f cpos):PE X (.Call (.Attribute o "get" apos) [e,f] [] cpos) (JE X td ty tx):=by
 intro aa s σ H Q I h
 refine WQ m.base m.few m.line PySem.F.plainAttrs_dict Ww PySem.F.type_dict_get (bD (ho aa s σ H _ I h) fun u s1 ⟨x,H1,I1,rx,a,ex,d,q1⟩=>?_)
 subst ex
 obtain rfl:u=Rc a:=rx
 obtain ⟨t1,t2,_⟩:=JC I1 d
 refine ⟨t1,t2,?_⟩
 rw [m.trees]
 refine Wu rfl (Calls.evalArgs_plain (WM (bD (he aa s1 σ H1 _ I1 q1) fun iv s2 ⟨y,H2,I2,ry,q2⟩ =>
  WM (bD (hf aa s2 σ H2 _ I2 q2) fun fv s3 ⟨z,H3,I3,rz,ov,g,q3⟩=>Calls.spliced_nil ?_))))
 exact JD hu I3 g ry rz fun w' s4 I4 rw'=>⟨_,H3,I4,rw',q3⟩
end
section
end
section
end
end L2
namespace Att
open PySem PySem.W PySem.Calls PyProof.Rows
theorem kI:∀ (ns:List Int) (vs:List Value),WellAll P h vs (ns.map WData.int)→IntsAre vs ns:=by
 intro ns
 induction ns with
 | nil =>
  intro vs w
  rw [RJ] at w
  cases w
  exact .nil
 | cons n ns ih =>
  intro vs w
  rw [QW] at w
  cases w with
  | cons a b =>
   cases a
   exact .cons _ _ (ih _ b)
theorem yF {l:OpenLaw} (hn:l.most=some n)
 (hpre:l.row.toRowW.claim.pre args=true) (hwl:WellAll P h vals args) :
 ∃ a vs ns,vals=[Rc a]∧args=[WData.list (ns.map WData.int)]∧h.get? a=some { cls:=.type "list",data:=.seq vs.toArray }∧IntsAre vs ns∧ns.length≤n:=by
 have hsh:WShape.hasAll [] args [.list .int]=true:=(pre_splitW hpre).1
 have hc:l.pre.holds [] { args:=args }=true:=(pre_splitW hpre).2
 obtain ⟨d,r,rfl,h1,h2⟩:=hasAllW_cons hsh
 obtain rfl:=hasAllW_nil h2
 obtain ⟨xs,rfl,h3⟩:=hasW_list h1
 obtain ⟨ns,rfl⟩:=items_int h3
 have hlen:ns.length≤n:=by
  unfold OpenLaw.pre at hc
  have h4:(WTm.not (.lt (.lit (.int (n:Int))) (.len (.arg 0)))).holds [] { args:=[.list (ns.map .int)] }=true:=by
   have h4:=(holds_andW hc).1
   rw [hn] at h4
   exact h4
  have h5:=condW_of h4 (w_not (w_lt w_lit (w_len_list (w_arg rfl))))
  rw [QU] at h5
  refine Nat.le_of_not_lt fun q=>?_
  have q':(n:Int)<((ns.length:Nat):Int):=by lia
  first
   | (rw [decide_eq_true q'] at h5; exact absurd h5 (by decide))
   | (simp at h5; lia)
 cases hwl with
 | cons w1 w2 =>
  cases w2
  cases w1 with
  | list ho hall=>exact ⟨_,_,ns,rfl,rfl,ho,kI ns _ hall,hlen⟩
theorem yG (l:OpenLaw) (args):l.row.toRowW.claim.post args (.bool true) args=true :=
 postW_of (r:=l.row.toRowW) (X:=(true == true))
  (show WShape.has [] (.bool true) .bool=true by first | rfl | decide | simp [WShape.has,WShape.arms,WShape.armsAll])
  (show (WTm.eq .res (.lit (.bool true))).value [] { args:=args,res:=some (.bool true),after:=args }=some (.bool (true == true)) from w_eq_bool (w_res rfl) w_lit) rfl
theorem rY {l:OpenLaw}
 (hn:l.most=some n) (hdf:d.params.defaults=[])
 (call:∀ (w:World) (s₀ s₁:Shared) (mg mb:Str→Option Value) (fa:Addr) (o:Obj) (pm cd doc:Value) (a:Addr) (vs:List Value) (ns:List Int),
   Ground q loose [] XP w s₀ mg mb s₁.heap→YP w s₁.heap →
   s₁.heap.get? fa=some o→o.data=.func (docDef d.name d.params d.body d.scope pm cd doc)→s₁.heap.CodeRec cd d.name→mg d.name=some (.ref fa) →
   s₁.heap.get? a=some { cls:=.type "list",data:=.seq vs.toArray }→IntsAre vs ns→ns.length≤n→s₁.gens= #[] →
   codeAny (model l.prog w) callerA (.call (.ref fa) ⟨[.ref a],[]⟩) (fun r s'=>r=.ok (.ret (.bool true))∧OldK s₁.heap s'.heap∧s'.os=s₁.os∧AllBare s'.gens) s₁) :
 WalkO q loose XP YP l.row.toRowW d [] (fun f vs=>PySem.call f vs):=by
 intro w s₀ s₁ mg mb G Y fa o pm cd doc dV kV ho hd hcd hD hmg hg args vals as hpre hlay hrd hwl hlo
 obtain rfl:dV=.none:=Dflts.none hD hdf
 obtain rfl:kV=.none:=Dflts.noKw hD
 obtain ⟨a,vs,ns,rfl,rfl,hobj,hints,hlen⟩:=yF hn hpre hwl
 refine enter_call (UE (call w s₀ s₁ mg mb fa o pm cd doc a vs ns G Y ho (fd_plain hd) hcd hmg hobj hints hlen hg) fun r s' hq=>?_)
 obtain ⟨rfl,h2,h3,h4⟩:=hq
 exact ⟨.inl ⟨.bool true,.bool true,[],rfl,fun _=>rfl,.bool true,yG l _,fun _=>⟨UX,fun _ hm=>(nomatch hm)⟩⟩,h2,h3,h4⟩
section
end
end Att
namespace L2
open PySem PySem.Spec PyProof.Rows
theorem oY:∀ {vs:List Value} {ns:List Int},IntsAre vs ns→Vals (ns.map V.int) vs
 | _,_,.nil=>.nil
 | _,_,.cons n t h=>.cons ⟨t,rfl⟩ (oY h)
noncomputable def JF (H:Hp):Prop:=∀ b,H b=none∨∃ o xs,H b=some (.frz o (.lst xs))
theorem A5 {K:QM}
 (KX:K.In s₁.heap) (hns:s₁.heap.Ns mainGlobals mg) (hb:s₁.heap.Ns builtinsNs mb) (hbb:∀ x:Str,x≠"__name__"→mb x=bootBuiltins x) (hlim:s₁.heap.NoLimit) (hg:s₁.gens= #[])
 (ha:s₁.heap.get? a=some { cls:=.type "list",data:=.seq vs.toArray }) (hi:IntsAre vs ns) (hl:ns.length≤sizeLine) (hr:iu k callerA)
 (F:∀ base:Heap,K.In base→base.Ns mainGlobals mg→bf P w K mg base CX k fa fd [x] sp) (hbind:∀ (s:Shared) (u:Value),BindsTo s fd ⟨[u],[]⟩ [(x,u)])
 (rF:∀ H:Hp,JF H→gn K H a (ns.map V.int)→sp [.ref a] H (fun v _=>v=.bl true) fun _ _ _=>False)
 (hCX:∀ H e s',CX [] H s₁ (fun _ _ _=>False) e s'→False) :
 codeAny (model P w) callerA (.call (.ref fa) ⟨[.ref a],[]⟩) (fun r s'=>r=.ok (.ret (.bool true))∧OldK s₁.heap s'.heap∧s'.os=s₁.os∧AllBare s'.gens) s₁:=by
 have rv:=oY hi
 have lenV:=hi.length
 have core:∀ H:Hp,JF H→gn K H a (ns.map V.int)→jH P w H s₁.heap→(∀ b,H b≠none→b=a)→(H a≠none→K.lookup a=none) →
  codeAny (model P w) callerA (.call (.ref fa) ⟨[.ref a],[]⟩) (fun r s'=>r=.ok (.ret (.bool true))∧OldK s₁.heap s'.heap∧s'.os=s₁.os∧AllBare s'.gens) s₁:=by
  intro H hO hS hok hA hK
  have base_of:∀ {b:Addr} {o:Obj},s₁.heap.get? b=some o→H b=none→(qa s₁.heap H).get? b=some o:=fun e n=>Az e n
  have noA:∀ {b:Addr} {o:Obj} {es:Array DictEntry} {ep:Nat},s₁.heap.get? b=some o→o.data=.dict es ep→H b=none:=fun {b o es ep} e d=>by
   cases q:H b with
   | none=>rfl
   | some u =>
    have e':b=a:=hA b (by rw [q]; simp)
    subst e'
    rw [ha] at e; cases e
    have d':Data.seq vs.toArray _=Data.dict es ep:=d
    cases d'
  have nsK:∀ {b:Addr} {m:Str→Option Value},s₁.heap.Ns b m→(qa s₁.heap H).Ns b m:=fun {b m} ⟨o,es,ep,e,d,r⟩=>⟨o,es,ep,base_of e (noA e d),d,r⟩
  have hKb:K.In (qa s₁.heap H):=fun b o e=>base_of (KX b o e) (by
   cases q:H b with
   | none=>rfl
   | some u =>
    have e':b=a:=hA b (by rw [q]; simp)
    subst e'
    rw [hK (by rw [q]; simp)] at e; cases e)
  have hM:Mod K mg (qa s₁.heap H):=⟨hKb,nsK hns,⟨mb,nsK hb,hbb⟩,let ⟨mc,h1,h2⟩:=hlim; ⟨mc,nsK h1,h2⟩⟩
  have e0:EW P w K mg (qa s₁.heap H) callerA [] s₁ H:=⟨rfl,hM,fun b o e=>EL e,Nat.le_of_eq (yu _ _),trivial,fun b hb=>absurd (show b∈([]:List Addr) from hb) (by simp),hok,.of_eq hg⟩
  refine UE ((F _ hKb (nsK hns)).run callerA [] s₁ H ⟨[.ref a],[]⟩ [.ref a] [.ref a] _ _ hr e0 (hbind s₁ (.ref a)) (.cons rfl .nil) (rF H hO hS)) fun r s' h=>?_
  cases r with
  | error e=>exact (hCX H e s' h).elim
  | ok fl =>
   cases fl with
   | next=>exact RU h
   | brk=>exact RU h
   | cont=>exact RU h
   | ret u =>
    obtain ⟨v,H',os,bare,un,hok',r',q⟩:=h
    have q':v=.bl true:=q
    subst q'
    obtain rfl:u=TN true:=r'
    refine ⟨rfl,OldK.of_keep fun b o e=>?_,os,bare⟩
    cases q:H b with
    | none=>exact un.keep b o e q (by intro z; exact absurd (show b∈([]:List Addr) from z) (by simp)) (by simp)
    | some u =>
     rcases hO b with z | ⟨ob,xs,z⟩
     ·rw [q] at z; cases z
     ·have z2:=un.frzs b ob _ z
      obtain ⟨e1,_⟩:=hok b _ z
      obtain ⟨e2,_⟩:=hok' b _ z2
      rw [e] at e1; cases e1
      exact e2
 cases hk:K.lookup a with
 | some o =>
  have e:=KX a o hk
  rw [ha] at e
  cases e
  refine core (fun _=>none) (fun _=>.inl rfl) (.inr ⟨_,vs.toArray,_,hk,rfl,rfl,rfl,by rw [Rb,lenV]; exact hl,by simpa using rv⟩) (fun b u z=>by have z':(none:Option HO)=some u:=z; cases z') (fun b z=>absurd rfl z) fun z=>absurd rfl z
 | none =>
  refine core (fun b=>if b=a then some (.frz { cls:=.type "list",data:=.seq vs.toArray } (.lst (ns.map V.int))) else none) (fun b=>?_) (.inl (.inr ⟨{ cls:=.type "list",data:=.seq vs.toArray },if_pos rfl⟩)) (fun b u z=>?_) (fun b z=>?_) fun _=>hk
  ·by_cases hb:b=a
   ·exact .inr ⟨_,_,if_pos hb⟩
   ·exact .inl (if_neg hb)
  ·by_cases hb:b=a
   ·have z':=(if_pos hb).symm.trans z
    cases z'
    subst hb
    exact ⟨ha,by rw [QU]; exact hl,vs,_,rv,ha⟩
   ·have z':=(if_neg hb).symm.trans z
    cases z'
  ·by_cases hb:b=a
   ·exact hb
   ·exact absurd (if_neg hb) z
noncomputable abbrev bX {K:QM} {h:Heap} (_:K.In h):QM:=K
theorem Fc {l:PySem.W.OpenLaw} {K:Params→QM} {CX:World→Jr} {sp:World→Sp}
 (hn:l.most=some n) (hn2:n≤sizeLine) (hdf:d.params.defaults=[]) (hr:iu k callerA)
 (hY:∀ (w:World) (h:Heap),YP w h→(K w.params).In h)
 (F:∀ (w:World) (mg:Str→Option Value) (fa:Addr) (h:Heap),(K w.params).In h→h.Ns mainGlobals mg→mg d.name=some (.ref fa) →
   ∃ fd:FuncData,(∀ (s:Shared) (u:Value),BindsTo s fd ⟨[u],[]⟩ [(x,u)]) ∧
    ∀ base:Heap,(K w.params).In base→base.Ns mainGlobals mg→bf l.prog w (K w.params) mg base (CX w) k fa fd [x] (sp w))
 (rF:∀ (w:World) (H:Hp) (a:Addr) (ns:List Int),ns.length≤n→JF H→gn (K w.params) H a (ns.map V.int)→sp w [.ref a] H (fun v _=>v=.bl true) fun _ _ _=>False)
 (hCX:∀ (w:World) (H:Hp) (s:Shared) (e:Value) (s':Shared),CX w [] H s (fun _ _ _=>False) e s'→False) :
 PySem.W.WalkO q loose XP YP l.row.toRowW d [] (fun f vs=>PySem.call f vs):=by
 refine Att.rY hn hdf fun w s₀ s₁ mg mb fa o pm cd doc a vs ns G Y ho hd hcd hmg hobj hints hlen hg=>?_
 have KX:=hY w _ Y
 obtain ⟨fd,hb,hF⟩:=F w mg fa _ KX G.T.g hmg
 exact A5 KX G.T.g G.T.b G.T.builtins G.T.nolimit hg hobj hints (Q4 hlen hn2) hr hF hb (fun H hO hS=>rF w H a ns hlen hO hS) fun H e s'=>hCX w H s₁ e s'
end L2
namespace L2
open PySem PySem.Spec PyProof.Rows
noncomputable def eX (s:Stmt):Arguments:=match s with
 | .FunctionDef _ a _ _ _ _ _ _ _ _=>a
 | _=>{ posonlyargs:=[],args:=[],vararg:=none,kwonlyargs:=[],kw_defaults:=[],kwarg:=none,defaults:=[] }
noncomputable def aq (s:Stmt):List Stmt:=match s with
 | .FunctionDef _ _ b _ _ _ _ _ _ _=>b
 | _=>[]
noncomputable def af (s:Stmt):Scope:=match s with
 | .FunctionDef _ _ _ _ _ _ sc _ _ _=>sc
 | _=>{ kind:=.function,names:=[],isGenerator:=false,isCoroutine:=false }
structure dR (K:QM) (x qual:Str) (st:Stmt) (f:Addr) (fd:FuncData):Prop where
 ex:∃ (oc:Value) (od:Option Addr) (kV doc pm:Value) (an:Option Addr) (cdv ct:Value) (osl:Array (Option Value)),
  fd=SW x qual (eX st) (aq st) (af st) .none kV doc pm an cdv ct∧K.lookup f=some ⟨oc,od,.func fd,osl⟩∧VX K cdv qual=true
 kp:SK K (.ref f)=true
section
variable {K:QM}
theorem dR.binds {st:Stmt} (F:dR K x qual st f fd)
 (h:∀ (kV doc pm:Value) (an:Option Addr) (cdv ct:Value) (us:List Value),us.length=ps.length→bindArgs (SW x qual (eX st) (aq st) (af st) .none kV doc pm an cdv ct) ⟨us,[]⟩=pure (ps.zip us)):Binds K fd ps []:=by
 obtain ⟨oc,od,kV,doc,pm,an,cdv,ct,osl,rfl,lk,hcd⟩:=F.ex
 exact .all (h kV doc pm an cdv ct)
theorem JG {st:Stmt} {kV doc pm cdv ct:Value} (l:K.lookup f=some ⟨oc,od,.func (SW x qual (eX st) (aq st) (af st) .none kV doc pm an cdv ct),osl⟩)
 (c:VX K cdv qual=true) (k:SK K (.ref f)=true):dR K x qual st f (SW x qual (eX st) (aq st) (af st) .none kV doc pm an cdv ct):=⟨⟨oc,od,kV,doc,pm,an,cdv,ct,osl,rfl,l,c⟩,k⟩
end
theorem Mx (hr:iu k A):A.units+1<cLine:=Tc (Nat.add_le_add_left (by decide:1≤64) _) hr.units
theorem yH (h:n≤1000):n<sizeLine:=Tc h (by decide)
section
end
noncomputable def aM (H H':Hp):Prop:=∀ b o,H b=some o→H' b=some o
theorem aM.refl (H):aM H H:=fun _ _ h=>h
theorem aM.trans (a:aM H H1) (b:aM H1 H2):aM H H2:=fun c o h=>b c o (a c o h)
theorem aM.free (e:aM H H') (h:H' l=Option.none):H l=Option.none:=by
 cases q:H l with
 | none=>rfl
 | some o =>
  rw [e l o q] at h
  cases h
theorem aM.seq {K:QM} (e:aM H H') (h:gn K H a xs):gn K H' a xs:=by
 rcases h with (h | ⟨o,h⟩) | h
 ·exact .inl (.inl (e _ _ h))
 ·exact .inl (.inr ⟨o,e _ _ h⟩)
 ·exact .inr h
section
end
section
variable {κ:Type} [DecidableEq κ]
end
end L2
namespace EV
open PySem PySem.Spec PyProof.Rows L2
inductive D where
 | non | bl (b:Bool) | int (i:Int) | str (x:Str) | tup (ds:List D) | lst (ds:List D) | exc (C:Addr)
 | fdK (ks:List Key) (ds:List D) | fdT (ks:List (List Key)) (ds:List D) | adr (a:Addr)
noncomputable def uX (a C:Addr):Heap→Prop:=fun h=>∃ o,h.get? a=some o∧o.cls=.ref C∧∃ vs,o.data=.fields vs
mutual
def Rep (K:QM) (H:Hp):D→V→Prop
 | .non,v=>v=.non
 | .bl b,v=>v=.bl b
 | .int i,v=>v=.int i
 | .str x,v=>v=.str x
 | .tup ds,v=>∃ a xs,v=.ref a∧dw K H a xs∧ak K H ds xs
 | .lst ds,v=>∃ a xs,v=.ref a∧gn K H a xs∧ak K H ds xs
 | .exc C,v=>∃ a,v=.ref a∧H a=some (.ext (uX a C))
 | .fdK ks ds,v=>∃ a ys o,v=.ref a∧H a=some (.frz o (.dK ys))∧ys.map (·.1)=ks∧ak K H ds (ys.map (·.2))
 | .fdT ks ds,v=>∃ a ys o,v=.ref a∧H a=some (.frz o (.dT ys))∧ys.map (·.1)=ks∧(∀ y∈ys,dw K H y.2.1 (y.1.map kV))∧ak K H ds (ys.map (·.2.2))
 | .adr a,v=>v=.ref a
def ak (K:QM) (H:Hp):List D→List V→Prop
 | [],xs=>xs=[]
 | d::ds,xs=>∃ x r,xs=x::r∧Rep K H d x∧ak K H ds r
end
theorem az {K:QM} (e:aM H H') (h:dw K H a xs):dw K H' a xs:=by
 rcases h with (h | ⟨o,h⟩) | h
 ·exact .inl (.inl (e _ _ h))
 ·exact .inl (.inr ⟨o,e _ _ h⟩)
 ·exact .inr h
mutual
theorem Rep.mono {K:QM} {H H':Hp} (e:aM H H'):∀ (d:D) {v:V},Rep K H d v→Rep K H' d v
 | .non,_,h=>by simpa [Rep] using h
 | .bl b,_,h=>by simpa [Rep] using h
 | .int i,_,h=>by simpa [Rep] using h
 | .str x,_,h=>by simpa [Rep] using h
 | .tup ds,_,h=>by
  simp only [Rep] at h ⊢
  obtain ⟨a,xs,e1,h1,h2⟩:=h
  exact ⟨a,xs,e1,az e h1,ak.mono e ds h2⟩
 | .lst ds,_,h=>by
  simp only [Rep] at h ⊢
  obtain ⟨a,xs,e1,h1,h2⟩:=h
  exact ⟨a,xs,e1,e.seq h1,ak.mono e ds h2⟩
 | .exc C,_,h=>by
  simp only [Rep] at h ⊢
  obtain ⟨a,e1,h1⟩:=h
  exact ⟨a,e1,e _ _ h1⟩
 | .fdK ks ds,_,h=>by
  simp only [Rep] at h ⊢
  obtain ⟨a,ys,o,e1,h1,h2,h3⟩:=h
  exact ⟨a,ys,o,e1,e _ _ h1,h2,ak.mono e ds h3⟩
 | .fdT ks ds,_,h=>by
  simp only [Rep] at h ⊢
  obtain ⟨a,ys,o,e1,h1,h2,h3,h4⟩:=h
  exact ⟨a,ys,o,e1,e _ _ h1,h2,fun y hy=>az e (h3 y hy),ak.mono e ds h4⟩
 | .adr a,_,h=>by simpa [Rep] using h
theorem ak.mono {K:QM} {H H':Hp} (e:aM H H'):∀ (ds:List D) {xs:List V},ak K H ds xs→ak K H' ds xs
 | [],_,h=>by simpa [ak] using h
 | d::ds,_,h=>by
  simp only [ak] at h ⊢
  obtain ⟨x,r,e1,h1,h2⟩:=h
  exact ⟨x,r,e1,Rep.mono e d h1,ak.mono e ds h2⟩
end
section
variable {K:QM}
theorem av:Rep K H (.int i) v↔v=.int i:=by simp only [Rep]
theorem cP:Rep K H (.bl i) v↔v=.bl i:=by simp only [Rep]
theorem bO:Rep K H .non v↔v=.non:=by simp only [Rep]
theorem fS:Rep K H (.str i) v↔v=.str i:=by simp only [Rep]
theorem aJ:Rep K H (.tup ds) v↔∃ a xs,v=.ref a∧dw K H a xs∧ak K H ds xs:=by simp only [Rep]
theorem aS:Rep K H (.lst ds) v↔∃ a xs,v=.ref a∧gn K H a xs∧ak K H ds xs:=by simp only [Rep]
theorem i8:Rep K H (.fdK ks ds) v↔∃ a ys o,v=.ref a∧H a=some (.frz o (.dK ys))∧ys.map (·.1)=ks∧ak K H ds (ys.map (·.2)):=by simp only [Rep]
theorem qm:Rep K H (.fdT ks ds) v↔∃ a ys o,v=.ref a∧H a=some (.frz o (.dT ys))∧ys.map (·.1)=ks∧(∀ y∈ys,dw K H y.2.1 (y.1.map kV))∧ak K H ds (ys.map (·.2.2)):=by simp only [Rep]
theorem fG:Rep K H (.adr a) v↔v=.ref a:=by simp only [Rep]
theorem Fd:Rep K H (.exc C) v↔∃ a,v=.ref a∧H a=some (.ext (uX a C)):=by simp only [Rep]
theorem aA:ak K H [] xs↔xs=[]:=by simp only [ak]
theorem aE:ak K H (d::ds) xs↔∃ x r,xs=x::r∧Rep K H d x∧ak K H ds r:=by simp only [ak]
theorem ak.length:∀ {ds:List D} {xs:List V},ak K H ds xs→ds.length=xs.length
 | [],_,h=>by rw [aA] at h; subst h; rfl
 | d::ds,_,h=>by
  rw [aE] at h
  obtain ⟨x,r,rfl,_,h2⟩:=h
  simp [ak.length h2]
theorem ak.get:∀ {ds:List D} {xs:List V} {i:Nat} {d:D},ak K H ds xs→ds[i]?=some d→∃ x,xs[i]?=some x∧Rep K H d x
 | [],_,_,_,_,e=>by simp at e
 | d::ds,_,i,d',h,e=>by
  rw [aE] at h
  obtain ⟨x,r,rfl,h1,h2⟩:=h
  cases i with
  | zero=>simp at e; subst e; exact ⟨x,by simp,h1⟩
  | succ i =>
   obtain ⟨y,e2,h3⟩:=ak.get (i:=i) (d:=d') h2 (by simpa using e)
   exact ⟨y,by simpa using e2,h3⟩
theorem ak.get':∀ {ds:List D} {xs:List V} {i:Nat} {x:V},ak K H ds xs→xs[i]?=some x→∃ d,ds[i]?=some d∧Rep K H d x:=fun {ds xs i x} h e=>by
 have hl:=h.length
 have hi:i<xs.length:=(Q2.mp e).1
 obtain ⟨y,e2,h2⟩:=h.get (i:=i) (d:=ds[i]'(by lia)) (by simp)
 rw [e] at e2; cases e2
 exact ⟨_,by simp,h2⟩
theorem ak.append:∀ {ds es:List D} {xs ys:List V},ak K H ds xs→ak K H es ys→ak K H (ds++es) (xs++ys)
 | [],_,_,_,h,g=>by rw [aA] at h; subst h; exact g
 | d::ds,_,_,_,h,g=>by
  rw [aE] at h
  obtain ⟨x,r,rfl,h1,h2⟩:=h
  exact aE.mpr ⟨x,r++_,rfl,h1,ak.append h2 g⟩
theorem ak.drop:∀ (n:Nat) {ds:List D} {xs:List V},ak K H ds xs→ak K H (ds.drop n) (xs.drop n)
 | 0,_,_,h=>h
 | n+1,[],_,h=>by rw [aA] at h; subst h; exact aA.mpr rfl
 | n+1,d::ds,_,h=>by
  rw [aE] at h
  obtain ⟨x,r,rfl,h1,h2⟩:=h
  exact ak.drop n h2
theorem ak.take:∀ (n:Nat) {ds:List D} {xs:List V},ak K H ds xs→ak K H (ds.take n) (xs.take n)
 | 0,_,_,h=>aA.mpr rfl
 | n+1,[],_,h=>by rw [aA] at h; subst h; exact aA.mpr rfl
 | n+1,d::ds,_,h=>by
  rw [aE] at h
  obtain ⟨x,r,rfl,h1,h2⟩:=h
  exact aE.mpr ⟨x,r.take n,rfl,h1,ak.take n h2⟩
theorem ak.dropLast (h:ak K H ds xs):ak K H ds.dropLast xs.dropLast:=by
 rw [Wx,Wx,h.length]; exact h.take _
theorem ak.one (h:Rep K H d v):ak K H [d] [v]:=aE.mpr ⟨v,[],rfl,h,aA.mpr rfl⟩
theorem ak.cons (h:Rep K H d v) (t:ak K H ds xs):ak K H (d::ds) (v::xs):=aE.mpr ⟨v,xs,rfl,h,t⟩
theorem oZ:∀ (ns:List Int),ak K H (ns.map D.int) (ns.map V.int)
 | []=>aA.mpr rfl
 | n::ns=>.cons (av.mpr rfl) (oZ ns)
end
inductive Sh where
 | v (d:D) | l (ds:List D) | la (a:Addr) (ds:List D) | t (ss:List Sh) | ls (ss:List Sh)
noncomputable def pl (p:Addr) (xs:List V):HO:=.ext fun h=>xs.length≤sizeLine∧∃ (its:List Value) (n:Nat),Vals xs its∧h.get? p=some { cls:=.type "list",data:=.seq its.toArray n }
mutual
def bq (K:QM) (H Hf:Hp):Sh→V→List (Addr×List V)→Prop
 | .v d,v,fp=>Rep K Hf d v∧fp=[]
 | .l ds,v,fp=>∃ p xs,v=.ref p∧H p=some (pl p xs)∧Hf p=none∧ak K Hf ds xs∧fp=[(p,xs)]
 | .la p ds,v,fp=>∃ xs,v=.ref p∧H p=some (pl p xs)∧Hf p=none∧ak K Hf ds xs∧fp=[(p,xs)]
 | .t ss,v,fp=>∃ a xs,v=.ref a∧dw K Hf a xs∧aD K H Hf ss xs fp
 | .ls ss,v,fp=>∃ p xs fq,v=.ref p∧H p=some (pl p xs)∧Hf p=none∧aD K H Hf ss xs fq∧fp=(p,xs)::fq
def aD (K:QM) (H Hf:Hp):List Sh→List V→List (Addr×List V)→Prop
 | [],xs,fp=>xs=[]∧fp=[]
 | s::ss,xs,fp=>∃ x r f1 f2,xs=x::r∧bq K H Hf s x f1∧aD K H Hf ss r f2∧fp=f1++f2
end
noncomputable def A6 (H:Hp) (q:Addr):Prop:=∃ xs,H q=some (pl q xs)
mutual
theorem bq.mv {K:QM} {H Hf H' ai:Hp} (sf:aM Hf ai):∀ (s:Sh) {v:V} {fp:List (Addr×List V)},(∀ q∈fp,H q.1=some (pl q.1 q.2)→Hf q.1=none→H' q.1=some (pl q.1 q.2)∧ai q.1=none)→bq K H Hf s v fp→bq K H' ai s v fp
 | .v d,_,_,_,h=>by simp only [bq] at h ⊢; exact ⟨h.1.mono sf d,h.2⟩
 | .l ds,_,_,hk,h=>by
  simp only [bq] at h ⊢
  obtain ⟨p,xs,e,h1,h2,h3,rfl⟩:=h
  obtain ⟨q1,q2⟩:=hk _ Q6 h1 h2
  exact ⟨p,xs,e,q1,q2,h3.mono sf ds,rfl⟩
 | .la p ds,_,_,hk,h=>by
  simp only [bq] at h ⊢
  obtain ⟨xs,e,h1,h2,h3,rfl⟩:=h
  obtain ⟨q1,q2⟩:=hk _ Q6 h1 h2
  exact ⟨xs,e,q1,q2,h3.mono sf ds,rfl⟩
 | .t ss,_,_,hk,h=>by
  simp only [bq] at h ⊢
  obtain ⟨a,xs,e,h1,h2⟩:=h
  exact ⟨a,xs,e,az sf h1,aD.mv sf ss hk h2⟩
 | .ls ss,_,_,hk,h=>by
  simp only [bq] at h ⊢
  obtain ⟨p,xs,fq,e,h1,h2,h3,rfl⟩:=h
  obtain ⟨q1,q2⟩:=hk _ Q6 h1 h2
  exact ⟨p,xs,fq,e,q1,q2,aD.mv sf ss (fun q hq=>hk q (Q9 _ hq)) h3,rfl⟩
theorem aD.mv {K:QM} {H Hf H' ai:Hp} (sf:aM Hf ai):∀ (ss:List Sh) {xs:List V} {fp:List (Addr×List V)},(∀ q∈fp,H q.1=some (pl q.1 q.2)→Hf q.1=none→H' q.1=some (pl q.1 q.2)∧ai q.1=none)→aD K H Hf ss xs fp→aD K H' ai ss xs fp
 | [],_,_,_,h=>by simpa only [aD] using h
 | s::ss,_,_,hk,h=>by
  simp only [aD] at h ⊢
  obtain ⟨x,r,f1,f2,e,h1,h2,rfl⟩:=h
  exact ⟨x,r,f1,f2,e,bq.mv sf s (fun q hq=>hk q (Tj _ hq)) h1,aD.mv sf ss (fun q hq=>hk q (RY _ hq)) h2,rfl⟩
end
inductive Sl where
 | un
 | va (d:D)
 | ow (ds:List D)
 | oT (kvs:List (List Key×D))
 | oK (kvs:List (Key×D))
 | aw (a:Addr) (ds:List D)
 | aT (a:Addr) (kvs:List (List Key×D))
 | aK (a:Addr) (kvs:List (Key×D))
 | fo (s:Sh)
noncomputable def nL (K:QM) (H:Hp) {κ:Type}:List (κ×D)→List (κ×V)→Prop:=Paired fun a b=>a.1=b.1∧Rep K H a.2 b.2
theorem nL.mono {K:QM} {ks:List (κ×D)} {xs:List (κ×V)} (e:aM H H') (h:nL K H ks xs):nL K H' ks xs :=
 Paired.IL h fun a b z=>⟨z.1,Rep.mono e _ z.2⟩
noncomputable def nM (K:QM) (H:Hp):List (List Key×D)→List (List Key×Addr×V)→Prop:=Paired fun a b=>a.1=b.1∧dw K H b.2.1 (a.1.map kV)∧Rep K H a.2 b.2.2
theorem nM.mono {K:QM} (e:aM H H') (h:nM K H ks xs):nM K H' ks xs :=
 Paired.IL h fun a b z=>⟨z.1,az e z.2.1,Rep.mono e _ z.2.2⟩
noncomputable def aZ (K:QM) (fr:Addr→Prop) (H Hf:Hp):Sl→V→Prop
 | .un,_=>False
 | .va d,v=>Rep K Hf d v
 | .ow ds,v=>∃ p xs,v=.ref p∧fr p∧H p=some (.lst xs)∧Hf p=none∧ak K Hf ds xs
 | .oT kvs,v=>∃ p xs,v=.ref p∧fr p∧H p=some (.dT xs)∧Hf p=none∧nM K Hf kvs xs
 | .oK kvs,v=>∃ p xs,v=.ref p∧fr p∧H p=some (.dK xs)∧Hf p=none∧nL K Hf kvs xs
 | .aw a ds,v=>∃ p xs,v=.ref p∧(fr p∧p=a)∧H p=some (.lst xs)∧Hf p=none∧ak K Hf ds xs
 | .aT a kvs,v=>∃ p xs,v=.ref p∧(fr p∧p=a)∧H p=some (.dT xs)∧Hf p=none∧nM K Hf kvs xs
 | .aK a kvs,v=>∃ p xs,v=.ref p∧(fr p∧p=a)∧H p=some (.dK xs)∧Hf p=none∧nL K Hf kvs xs
 | .fo s,v=>∃ fp,bq K H Hf s v fp∧(fp.map (·.1)).Nodup∧∀ a∈fp,fr a.1
noncomputable def Sl.owned:Sl→Bool
 | .ow _=>true | .oT _=>true | .oK _=>true | .aw _ _=>true | .aT _ _=>true | .aK _ _=>true | _=>false
structure bu (H Hf H' ai:Hp):Prop where
 s:aM H H'
 f:aM Hf ai
 b:aM ai H'
 n:∀ b,Hf b=none→H b≠none→(∀ xs,H b≠some (.tup xs))→ai b=none
theorem bu.refl (b:aM Hf H):bu H Hf H Hf:=⟨.refl _,.refl _,b,fun _ h _ _=>h⟩
theorem bu.trans (a:bu H Hf H1 aP) (b:bu H1 aP H2 cK):bu H Hf H2 cK :=
 ⟨a.s.trans b.s,a.f.trans b.f,b.b,fun c h1 h2 h3=>by
   cases q:H c with
   | none=>exact absurd q h2
   | some o =>
    have e:=a.s c o q
    exact b.n c (a.n c h1 h2 h3) (by rw [e]; simp) (by intro xs; rw [e,← q]; exact h3 xs)⟩
theorem bu.new (b:aM Hf H) (hp:H p=none):bu H Hf (upd H p o) (upd Hf p o):=by
 have hf:Hf p=none:=b.free hp
 refine ⟨fun c u h=>?_,fun c u h=>?_,fun c u h=>?_,fun c h1 h2 _=>?_⟩
 ·rw [aj (aC h hp)]; exact h
 ·rw [aj (aC h hf)]; exact h
 ·by_cases e:c=p
  ·subst e; rw [ah] at h ⊢; exact h
  ·rw [aj e] at h ⊢; exact b c u h
 ·by_cases e:c=p
  ·subst e; exact absurd hp h2
  ·rw [aj e]; exact h1
theorem bu.gp (b:aM Hf H) (hp:H p=none):bu H Hf (upd H p o) Hf :=
 ⟨(bu.new b hp (o:=o)).s,.refl _,fun c u h=>(bu.new b hp (o:=o)).s c u (b c u h),fun _ h _ _=>h⟩
inductive At {α:Type}:List α→Nat→α→Prop where
 | z {x:α} {l:List α}:At (x::l) 0 x
 | s {x y:α} {l:List α} {i:Nat}:At l i x→At (y::l) (i+1) x
theorem At.get (h:At l i x):l[i]?=some x:=by
 induction h with
 | z=>rfl
 | s _ ih=>simpa using ih
theorem At.mem (h:At l i x):x∈l:=Si h.get
inductive SSet {α:Type}:List α→Nat→α→List α→Prop where
 | z {x r:α} {l:List α}:SSet (x::l) 0 r (r::l)
 | s {r y:α} {l l':List α} {i:Nat}:SSet l i r l'→SSet (y::l) (i+1) r (y::l')
theorem SSet.eq (h:SSet l i r l'):l'=l.set i r:=by
 induction h with
 | z=>rfl
 | s _ ih=>simp [ih]
structure c6 (K:QM) (H₀ dS:Hp) (σ:L2.St) (H Hf:Hp) (ρ:List Sl):Prop where
 bas:bu H₀ dS H Hf
 len:σ.length=ρ.length
 at_:∀ (i:Nat) (r:Sl),ρ[i]?=some r→r≠.un→∃ v,σ[i]?=some (some v)∧aZ K (fun p=>H₀ p=none) H Hf r v
 sep:∀ (i j:Nat) (r r':Sl) (p:Addr),i≠j→ρ[i]?=some r→ρ[j]?=some r'→r.owned=true→r'.owned=true→σ[i]?=some (some (.ref p))→σ[j]?≠some (some (.ref p))
structure Mz (P:Program) (w:World) (outer:List Env) (H:Hp) (s:Shared) (a C:Addr) (H':Hp) (s':Shared):Prop where
 os:s'.os=s.os
 bare:AllBare s'.gens
 un:Un (frs outer) [] H H' s.heap s'.heap
 hok:jH P w H' s'.heap
 new:s.heap.get? a=none
 free:H' a=none
 fly:∃ (t:Addr) (B:Heap),Heap.FlyingW B outer a (.ref C) (.ref t) s'.heap∧(∀ b o,s.heap.get? b=some o→b∉frs outer→∃ o',s'.heap.get? b=some o'∧B.get? b=some o') ∧
  ∀ b o,H' b≠none→s'.heap.get? b=some o→B.get? b=some o
noncomputable def cO (P:Program) (w:World):Jr:=fun outer H s E e s'=>∃ a C H',e=.ref a∧Mz P w outer H s a C H' s'∧E (.ref C) (some a) H'
set_option genInjectivity false in
structure Ctx (P:Program) (w:World) (K:QM) (mg:Str→Option Value) (base:Heap) (k:Nat) (N:List Str) (sc:Scope) (bk:Bool) where
 X:Cx
 eP:X.prog=P
 ew:X.w=w
 eK:X.K=K
 emg:X.mg=mg
 eb:X.base=base
 eN:X.N=N
 esc:X.env.scope=sc
 calm:X.calm=true
 top:bk=false→X.stack=X.env::X.outer∧X.env.frame=some X.env.locals∧X.ex=[]
 cb:bk=false→∀ (aa:List (Addr×Obj)) (σ:L2.St) (H:Hp) (s:Shared),Inv X aa σ H s→∀ (x:Str) (c:Addr),X.env.cells.lookup x=some c→X.s₀.heap.objs.size≤c
 fn:∀ x,bk=false∨sc.names.lookup x=some .local→X.fn x=true∨X.env.scope.names.lookup x=some .local
 room:iu k X.A
 nd:N.Nodup
 vis:∀ x∈N,Loc sc x
 Hf:Hp
 B:Hp
 RX:Addr→List Sl→Prop
 exc:∀ (C a:Addr) (aa:List (Addr×Obj)) (σ:L2.St) (H ai:Hp) (ρ:List Sl) (s:Shared) (H':Hp) (s':Shared),Inv X aa σ H s→c6 X.K B Hf σ H ai ρ→RX C ρ→Mz X.prog X.w X.stack H s a C H' s'→aM H H'→X.xe (.ref a) s'
 RM:Addr→List Sl→Prop
 mde:∀ (C a:Addr) (aa:List (Addr×Obj)) (σ:L2.St) (H ai:Hp) (ρ:List Sl) (s:Shared) (h':Heap) (us:List Value),Inv X aa σ H s→c6 X.K B Hf σ H ai ρ→RM C ρ→Heap.MadeExcOf s.heap h' a (.ref C) us→X.xe (.ref a) { s with heap:=h' }
noncomputable def Sl.LK:Sl→Bool | .fo _=>true | _=>false
noncomputable abbrev rC {α:Type} (fr:Addr→Prop) (H Hf:Hp) (o:α→HO) (R:α→Prop) (v:V):Prop:=∃ (p:Addr) (xs:α),v=.ref p∧fr p∧H p=some (o xs)∧Hf p=none∧R xs
theorem rC.LL (h:rC fr H Hf o R v) (hk:∀ p,v=.ref p→∀ u,(∀ ys,u≠.tup ys)→H p=some u→Hf p=none→H' p=some u∧ai p=none) (ho:∀ xs ys,o xs≠.tup ys) (hR:∀ xs,R xs→R' xs):rC fr H' ai o R' v:=by
 obtain ⟨p,xs,e,f,h1,h2,h3⟩:=h
 exact ⟨p,xs,e,f,(hk p e _ (ho xs) h1 h2).1,(hk p e _ (ho xs) h1 h2).2,hR xs h3⟩
theorem rC.LM (h:rC fr H Hf o R v) (hf:∀ p,fr p→fr' p):rC fr' H Hf o R v :=
 let ⟨p,xs,e,f,h⟩:=h; ⟨p,xs,e,hf p f,h⟩
theorem aZ.mv {K:QM} {B:Addr→Prop} (sf:aM Hf ai) (hk:∀ q o,¬ B q→H q=some o→(∀ xs,o≠.tup xs)→Hf q=none→H' q=some o∧ai q=none):∀ {r:Sl} {v:V},
 (r.LK=true→∀ q,B q→¬ A6 H q)→(r.owned=true→∀ q,v=.ref q→¬ B q)→aZ K fr H Hf r v→aZ K fr H' ai r v
 | .un,_,_,_,h=>h
 | .va d,_,_,_,h=>Rep.mono sf d h
 | .ow ds,_,_,hv,h=>rC.LL h (fun p e o z ho hf=>hk p o (hv rfl p e) ho z hf) (fun _ _ z=>by cases z) fun _ h=>h.mono sf
 | .oT kvs,_,_,hv,h=>rC.LL h (fun p e o z ho hf=>hk p o (hv rfl p e) ho z hf) (fun _ _ z=>by cases z) fun _ h=>h.mono sf
 | .oK kvs,_,_,hv,h=>rC.LL h (fun p e o z ho hf=>hk p o (hv rfl p e) ho z hf) (fun _ _ z=>by cases z) fun _ h=>h.mono sf
 | .aw a ds,_,_,hv,h=>rC.LL h (fun p e o z ho hf=>hk p o (hv rfl p e) ho z hf) (fun _ _ z=>by cases z) fun _ h=>h.mono sf
 | .aT a kvs,_,_,hv,h=>rC.LL h (fun p e o z ho hf=>hk p o (hv rfl p e) ho z hf) (fun _ _ z=>by cases z) fun _ h=>h.mono sf
 | .aK a kvs,_,_,hv,h=>rC.LL h (fun p e o z ho hf=>hk p o (hv rfl p e) ho z hf) (fun _ _ z=>by cases z) fun _ h=>h.mono sf
 | .fo s,_,hB,_,⟨fp,h1,h2,h3⟩=>⟨fp,bq.mv sf s (fun q _ e1 e2=>hk q.1 _ (fun b=>hB rfl q.1 b ⟨q.2,e1⟩) e1 (by intro ys z; cases z) e2) h1,h2,h3⟩
theorem aZ.cE {K:QM} (g:bu H Hf H' ai) (h:aZ K fr H Hf r v):aZ K fr H' ai r v :=
 aZ.mv (B:=fun _=>False) g.f (fun q o _ e1 e2 e3=>⟨g.s _ _ e1,g.n q e3 (by rw [e1]; simp) fun xs z=>e2 xs (by rw [e1] at z; exact Sz z)⟩) (fun _ _ z=>z.elim) (fun _ _ _ z=>z) h
theorem aZ.weak {K:QM} (hf:∀ p,fr p→fr' p):∀ {r:Sl} {v:V},aZ K fr H Hf r v→aZ K fr' H Hf r v
 | .un,_,h=>h
 | .va d,_,h=>h
 | .ow ds,_,h=>rC.LM h hf
 | .oT ds,_,h=>rC.LM h hf
 | .oK ds,_,h=>rC.LM h hf
 | .aw a ds,_,h=>rC.LM h fun p f=>⟨hf p f.1,f.2⟩
 | .aT a ds,_,h=>rC.LM h fun p f=>⟨hf p f.1,f.2⟩
 | .aK a ds,_,h=>rC.LM h fun p f=>⟨hf p f.1,f.2⟩
 | .fo s,_,⟨fp,h1,h2,h3⟩=>⟨fp,h1,h2,fun a ha=>hf _ (h3 a ha)⟩
section
variable {K:QM}
noncomputable def Ctx.fr (c:Ctx P w K mg base k N sc bk) (p:Addr):Prop:=c.B p=none
noncomputable abbrev bC (c:Ctx P w K mg base k N sc bk) (σ:L2.St) (H Hf:Hp) (ρ:List Sl):Prop:=c6 c.X.K c.B c.Hf σ H Hf ρ
theorem c6.cE (S:c6 K H₀ dS σ H Hf ρ) (g:bu H Hf H' ai):c6 K H₀ dS σ H' ai ρ :=
 ⟨S.bas.trans g,S.len,fun i r h hr=>let ⟨v,e,q⟩:=S.at_ i r h hr; ⟨v,e,q.cE g⟩,S.sep⟩
theorem c6.sb (S:c6 K H₀ dS σ H Hf ρ):aM Hf H:=S.bas.b
theorem c6.va (S:c6 K H₀ dS σ H Hf ρ) {i:Nat} (h:ρ[i]?=some (.va d)):∃ v,σ[i]?=some (some v)∧Rep K Hf d v:=S.at_ i _ h (by simp)
theorem c6.set (S:c6 K H₀ dS σ H Hf ρ) (g:bu H Hf H1 aP) (hr:aZ K (fun p=>H p=none) H1 aP r v) :
 c6 K H₀ dS (σ.set i (some v)) H1 aP (ρ.set i r):=by
 have S1:=S.cE g
 have fr0:∀ p,H p=none→H₀ p=none:=fun p h=>S.bas.s.free h
 have fresh:∀ p,r.owned=true→v=.ref p→H p=none:=fun p ho e=>by
  subst e
  cases r with
  | un=>cases ho
  | va d=>cases ho
  | ow ds=>obtain ⟨p',xs,e,h,_⟩:=hr; cases e; exact h
  | oT ds=>obtain ⟨p',xs,e,h,_⟩:=hr; cases e; exact h
  | oK ds=>obtain ⟨p',xs,e,h,_⟩:=hr; cases e; exact h
  | aw a ds=>obtain ⟨p',xs,e,h,_⟩:=hr; cases e; exact h.1
  | aT a ds=>obtain ⟨p',xs,e,h,_⟩:=hr; cases e; exact h.1
  | aK a ds=>obtain ⟨p',xs,e,h,_⟩:=hr; cases e; exact h.1
  | fo s=>cases ho
 have old:∀ (j:Nat) (r':Sl) (p:Addr),ρ[j]?=some r'→r'.owned=true→σ[j]?=some (some (.ref p))→H p≠none:=fun j r' p h ho hs=>by
  obtain ⟨v',e,q⟩:=S.at_ j r' h (by rintro rfl; cases ho)
  rw [hs] at e; cases e
  cases r' with
  | un=>cases ho
  | va d=>cases ho
  | ow ds=>obtain ⟨p',xs,e,_,h,_⟩:=q; cases e; rw [h]; simp
  | oT ds=>obtain ⟨p',xs,e,_,h,_⟩:=q; cases e; rw [h]; simp
  | oK ds=>obtain ⟨p',xs,e,_,h,_⟩:=q; cases e; rw [h]; simp
  | aw a ds=>obtain ⟨p',xs,e,_,h,_⟩:=q; cases e; rw [h]; simp
  | aT a ds=>obtain ⟨p',xs,e,_,h,_⟩:=q; cases e; rw [h]; simp
  | aK a ds=>obtain ⟨p',xs,e,_,h,_⟩:=q; cases e; rw [h]; simp
  | fo s=>cases ho
 refine ⟨S1.bas,by simp [S.len],fun j r' hj hu=>?_,fun j j' r1 r2 p hne h1 h2 o1 o2 e1 e2=>?_⟩
 ·by_cases q:j=i
  ·subst q
   have hi:j<ρ.length:=by
    have:=(Q2.mp hj).1
    simpa using this
   rw [R4 hi] at hj; cases hj
   exact ⟨v,R4 (by rw [S.len]; exact hi),hr.weak fr0⟩
  ·rw [R5 (Rf q)] at hj ⊢
   exact S1.at_ j r' hj hu
 ·have hlt:∀ {j:Nat} {r:Sl},(ρ.set i r)[j]?=some r→j<ρ.length:=fun {j r} h=>by
   have:=(Q2.mp h).1
   simpa using this
  by_cases q1:j=i
  ·subst q1
   have hi:j<ρ.length:=by have:=(Q2.mp h1).1; simpa using this
   rw [R4 hi] at h1; cases h1
   rw [R4 (by rw [S.len]; exact hi)] at e1
   rw [R5 hne] at h2 e2
   exact old j' r2 p h2 o2 e2 (fresh p o1 (by simpa using e1))
  ·by_cases q2:j'=i
   ·subst q2
    have hi:j'<ρ.length:=by have:=(Q2.mp h2).1; simpa using this
    rw [R4 hi] at h2; cases h2
    rw [R4 (by rw [S.len]; exact hi)] at e2
    rw [R5 (Rf hne)] at h1 e1
    exact old j r1 p h1 o1 e1 (fresh p o2 (by simpa using e2))
   ·rw [R5 (Rf q1)] at h1 e1
    rw [R5 (Rf q2)] at h2 e2
    exact S.sep j j' r1 r2 p hne h1 h2 o1 o2 e1 e2
theorem c6.weak (S:c6 K H₀ dS σ H Hf ρ) (hl:ρ'.length=ρ.length) (h:∀ (i:Nat) (r:Sl),ρ'[i]?=some r→r≠.un→ρ[i]?=some r):c6 K H₀ dS σ H Hf ρ' :=
 ⟨S.bas,by rw [S.len,hl],fun i r e hu=>S.at_ i r (h i r e hu) hu,fun i j r r' p hne h1 h2 o1 o2=>S.sep i j r r' p hne (h i r h1 (by rintro rfl; cases o1)) (h j r' h2 (by rintro rfl; cases o2)) o1 o2⟩
end
section
variable {P:Program} {w:World} {K:QM} {mg:Str→Option Value} {base:Heap} {k:Nat} {N:List Str} {sc:Scope} {bk:Bool}
noncomputable def bE (X:Cx) (e:Expr):TE:=fun σ H Q=>∀ aa s,Inv X aa σ H s→wpAny (model X.prog X.w) X.A (eval e X.env) (EP X aa σ Q) X.xe s
theorem cW:PE X e (bE X e):=fun aa s σ H Q I h=>h aa s I
theorem bM (h:PE X e t) (q:t σ H Q):bE X e σ H Q:=fun aa s I=>h aa s σ H Q I q
noncomputable def bT (X:Cx) (e:Expr):TT:=fun σ H Q=>∀ aa s,Inv X aa σ H s→wpAny (model X.prog X.w) X.A (isTrue e X.env (eval e X.env)) (TP X aa σ Q) X.xe s
theorem Hz:PT X e (bT X e):=fun aa s σ H Q I h=>h aa s I
theorem wM (h:PT X e t) (q:t σ H Q):bT X e σ H Q:=fun aa s I=>h aa s σ H Q I q
noncomputable def bA (X:Cx) (es:List Expr):TA:=fun σ H Q=>∀ pos aa s,Inv X aa σ H s→wpAny (model X.prog X.w) X.A (spliced (backTo pos (starEach es X.env))) (AP X aa σ Q) X.xe s
theorem Fe:PA X es (bA X es):=fun pos aa s σ H Q I h=>h pos aa s I
theorem o6 (h:PA X es t) (q:t σ H Q):bA X es σ H Q:=fun pos aa s I=>h pos aa s σ H Q I q
noncomputable def bS (X:Cx) (st:Stmt):TS:=fun D σ H=>∀ aa s,Inv X aa σ H s→wpAny (model X.prog X.w) X.A (exec st X.env) (SP X aa D) X.xe s
theorem QE {st:Stmt}:PS X st (bS X st):=fun aa s σ H D I h=>h aa s I
theorem d7 {st:Stmt} (h:PS X st t) {D:Ends} (q:t D σ H):bS X st D σ H:=fun aa s I=>h aa s σ H D I q
noncomputable def JH (X:Cx) (st:List Stmt):TS:=fun D σ H=>∀ aa s,Inv X aa σ H s→wpAny (model X.prog X.w) X.A (execs st X.env) (SP X aa D) X.xe s
theorem rZ {st:List Stmt}:uI X st (JH X st):=fun aa s σ H D I h=>h aa s I
theorem A7 {st:List Stmt} (h:uI X st t) {D:Ends} (q:t D σ H):JH X st D σ H:=fun aa s I=>h aa s σ H D I q
noncomputable def bG (X:Cx) (tg:Expr):TG:=fun v σ H Q=>∀ aa s u,Inv X aa σ H s→RelV v u→wpAny (model X.prog X.w) X.A (assign tg X.env u) (fun _ s'=>∃ σ' H',Inv X aa σ' H' s'∧Q σ' H') X.xe s
theorem QF:PG X tg (bG X tg):=fun aa s σ H v u Q I r h=>h aa s u I r
theorem A8 (h:PG X tg t) (q:t v σ H Q):bG X tg v σ H Q:=fun aa s u I r=>h aa s σ H v u Q I r q
variable (c:Ctx P w K mg base k N sc bk)
noncomputable def dz (e:Expr) (ρ:List Sl) (R:Sl→Prop):Prop :=
 ∀ (σ:L2.St) (H Hf:Hp) (Q:VK),bC c σ H Hf ρ→(∀ r v H' ai,R r→aZ c.X.K (fun p=>H p=none) H' ai r v→bu H Hf H' ai→Q v H')→bE c.X e σ H Q
noncomputable def aH (e:Expr) (ρ:List Sl) (R:D→Prop):Prop :=
 ∀ (σ:L2.St) (H Hf:Hp) (Q:VK),bC c σ H Hf ρ→(∀ d v H' ai,R d→Rep c.X.K ai d v→bu H Hf H' ai→Q v H')→bE c.X e σ H Q
noncomputable def jL (e:Expr) (ρ:List Sl) (R:Bool→Prop):Prop :=
 ∀ (σ:L2.St) (H Hf:Hp) (Q:Bool→Hp→Prop),bC c σ H Hf ρ→(∀ b H' ai,R b→bu H Hf H' ai→Q b H')→bT c.X e σ H Q
noncomputable def r6 (es:List Expr) (ρ:List Sl) (R:List D→Prop):Prop :=
 ∀ (σ:L2.St) (H Hf:Hp) (Q:List V→Hp→Prop),bC c σ H Hf ρ→(∀ ds vs H' ai,R ds→ak c.X.K ai ds vs→bu H Hf H' ai→Q vs H')→bA c.X es σ H Q
structure Pt where
 rt:Sl→Prop
 bk:List Sl→Prop:=fun _=>False
 ct:List Sl→Prop:=fun _=>False
structure lU (nx:List Sl→Prop) (p:Pt) (D:Ends):Prop where
 nx:∀ σ H Hf ρ,bC c σ H Hf ρ→nx ρ→D.nx σ H
 rt:∀ r v H Hf,bu c.B c.Hf H Hf→aZ c.X.K c.fr H Hf r v→p.rt r→D.rt v H
 bk:∀ σ H Hf ρ,bC c σ H Hf ρ→p.bk ρ→D.bk σ H
 ct:∀ σ H Hf ρ,bC c σ H Hf ρ→p.ct ρ→D.ct σ H
noncomputable def fH (st:Stmt) (ρ:List Sl) (nx:List Sl→Prop) (p:Pt):Prop :=
 ∀ (σ:L2.St) (H Hf:Hp) (D:Ends),bC c σ H Hf ρ→lU c nx p D→bS c.X st D σ H
noncomputable def aN (st:List Stmt) (ρ:List Sl) (nx:List Sl→Prop) (p:Pt):Prop :=
 ∀ (σ:L2.St) (H Hf:Hp) (D:Ends),bC c σ H Hf ρ→lU c nx p D→JH c.X st D σ H
noncomputable def nX (tg:Expr) (d:D) (ρ:List Sl) (R:List Sl→Prop):Prop :=
 ∀ (σ:L2.St) (H Hf:Hp) (v:V) (Q:L2.St→Hp→Prop),bC c σ H Hf ρ→Rep c.X.K Hf d v→(∀ σ' H' ai ρ',bC c σ' H' ai ρ'→bu H Hf H' ai→R ρ'→Q σ' H')→bG c.X tg v σ H Q
variable {c}
noncomputable def Sl.fz:Sl→Option D
 | .va d=>some d
 | .ow ds=>some (.lst ds)
 | _=>none
noncomputable def HA (R:D→Prop) (r:Sl):Prop:=∃ d,r.fz=some d∧R d
theorem JI (e:r.fz=some d) (h:aZ K (fun p=>H p=none) H' ai r v) (g:bu H Hf H' ai) :
 ∃ cK,Rep K cK d v∧bu H Hf H' cK:=by
 cases r with
 | un=>cases e
 | va d'=>cases e; exact ⟨ai,h,g⟩
 | oT _=>cases e
 | oK _=>cases e
 | aw _ _=>cases e
 | aT _ _=>cases e
 | aK _ _=>cases e
 | fo _=>cases e
 | ow ds =>
  cases e
  obtain ⟨p,xs,rfl,hp,h1,h2,h3⟩:=h
  have sf:aM ai (upd ai p (.lst xs)):=fun b o e=>by rw [aj (aC e h2)]; exact e
  have sb:aM (upd ai p (.lst xs)) H':=fun b o e=>by
   by_cases q:b=p
   ·subst q; rw [ah] at e; rw [h1]; exact e
   ·rw [aj q] at e; exact g.b b o e
  refine ⟨upd ai p (.lst xs),aS.mpr ⟨p,xs,rfl,.inl (.inl ah),h3.mono sf⟩,g.s,g.f.trans sf,sb,fun b q1 q2 q3=>?_⟩
  have e:=g.n b q1 q2 q3
  by_cases q:b=p
  ·subst q; exact absurd hp q2
  ·rw [aj q]; exact e
theorem e_x (h:dz c e ρ (HA R)):aH c e ρ R:=fun σ H Hf Q S q =>
 h σ H Hf Q S fun r v H' ai ⟨d,e1,rd⟩ rs g=>let ⟨cK,h1,g2⟩:=JI e1 rs g; q d v H' cK rd h1 g2
theorem MA (h:aH c e ρ fun d=>R (.va d)):dz c e ρ R:=fun σ H Hf Q S q =>
 h σ H Hf Q S fun d v H' ai rd h1 g=>q (.va d) v H' ai rd h1 g
theorem aH.imp (h:aH c e ρ R) (hi:∀ d,R d→R' d):aH c e ρ R':=fun σ H Hf Q S q=>h σ H Hf Q S fun d v H' ai rd=>q d v H' ai (hi d rd)
theorem dz.imp (h:dz c e ρ R) (hi:∀ d,R d→R' d):dz c e ρ R':=fun σ H Hf Q S q=>h σ H Hf Q S fun d v H' ai rd=>q d v H' ai (hi d rd)
theorem jL.imp (h:jL c e ρ R) (hi:∀ d,R d→R' d):jL c e ρ R':=fun σ H Hf Q S q=>h σ H Hf Q S fun d H' ai rd=>q d H' ai (hi d rd)
theorem ku (hN:At N i x) (hs:At ρ i (.va d)) (hR:R d)
 (hd:(x == ("__debug__":Str))=false:=by decide) (hcd:(x == ("__classdict__":Str))=false:=by decide) :
 aH c (.Name x pos) ρ R:=fun σ H Hf Q S q=>by
 obtain ⟨v,e,r⟩:=S.va hs.get
 exact bM (uN (X:=c.X) (i:=i) (by rw [c.eN]; exact hN.get) (by rw [c.esc]; rcases c.vis x hN.mem with h | h; exact .inl h; exact .inr (.inl h)) hd hcd) ⟨v,e,q d v H Hf hR r (.refl S.sb)⟩
theorem MB (hR:R (.int i)):aH c (.Constant (.int i) j pos) ρ R:=fun σ H Hf Q S q =>
 bM IP (q _ _ H Hf hR (av.mpr rfl) (.refl S.sb))
theorem Pw (hR:R (.bl i)):aH c (.Constant (.bool i) j pos) ρ R:=fun σ H Hf Q S q =>
 bM AA (q _ _ H Hf hR (cP.mpr rfl) (.refl S.sb))
theorem uY (hm:mg x=some (.int i t)) (hR:R (.int i)) (hg:sc.names.lookup x=some .globalImplicit:=by walk_at "u") (hd:(x == ("__debug__":Str))=false:=by decide) :
 aH c (.Name x pos) ρ R:=fun σ H Hf Q S q =>
 bM (wD (X:=c.X) (v:=.int i) (u:=.int i t) (by unfold Gl Rz; rw [c.esc]; exact hg) (by rw [c.emg]; exact hm) ⟨t,rfl⟩ hd) (q _ _ H Hf hR (av.mpr rfl) (.refl S.sb))
noncomputable def OC (K:QM) (r:R2) (p:D→D→(Sl→Prop)→Prop):Prop :=
 ∀ (x y:D) (v u:V) (H Hf:Hp) (Q:VK) (R:Sl→Prop),aM Hf H→Rep K Hf x v→Rep K Hf y u→p x y R →
  (∀ z v' H' ai,R z→aZ K (fun p=>H p=none) H' ai z v'→bu H Hf H' ai→Q v' H')→r v u H Q
theorem nY (ho:fR c.X (binaryOp op) r) (hd:OC c.X.K r p)
 (h:aH c a ρ fun x=>aH c b ρ fun y=>p x y R):dz c (.BinOp a op b pos) ρ R:=fun σ H Hf Q S q =>
 bM (AI ho cW cW) (h σ H Hf _ S fun x v1 H1 aP h1 r1 g1=>h1 σ H1 aP _ (S.cE g1) fun y v2 H2 cK h2 r2 g2 =>
  hd x y v1 v2 H2 cK Q R g2.b (Rep.mono g2.f x r1) r2 h2 fun z v' H' ai hz rz g3 =>
   q z v' H' ai hz (rz.weak fun p hp=>(g1.trans g2).s.free hp) ((g1.trans g2).trans g3))
theorem lV {f:Int→Int→Int}:OC K (rI C fun i j=>.int (f i j)) fun x y R=>∃ i j,x=.int i∧y=.int j∧C i j∧R (.va (.int (f i j))):=by
 rintro x y v u H Hf Q R s rx ry ⟨i,j,rfl,rfl,hC,hR⟩ q
 rw [av] at rx ry
 exact ⟨i,j,rx,ry,hC,q (.va (.int (f i j))) _ H Hf hR (show Rep K Hf (.int (f i j)) _ from av.mpr rfl) (.refl s)⟩
theorem A9 {f:Int→Int→Int}:OC K (yz fun i j=>.int (f i j)) fun x y R=>∃ i j,x=.int i∧y=.int j∧R (.va (.int (f i j))):=by
 rintro x y v u H Hf Q R s rx ry ⟨i,j,rfl,rfl,hR⟩ q
 rw [av] at rx ry
 exact ⟨i,j,rx,ry,q (.va (.int (f i j))) _ H Hf hR (show Rep K Hf (.int (f i j)) _ from av.mpr rfl) (.refl s)⟩
theorem iA (h:dz c e ρ fun r=>∃ d,r=.va d∧R d):aH c e ρ R:=e_x (h.imp fun r ⟨d,e,hr⟩=>⟨d,by subst e; rfl,hr⟩)
noncomputable def kB:D→D→Bool
 | .non,.non=>true | .non,.int _=>true | .int _,.non=>true | .non,.bl _=>true | .bl _,.non=>true | .non,.str _=>true | .str _,.non=>true
 | .int _,.int _=>true | .bl _,.bl _=>true | .str _,.str _=>true | .int _,.str _=>true | .str _,.int _=>true | .bl _,.str _=>true | .str _,.bl _=>true
 | _,_=>false
noncomputable instance:DecidableEq D:=fun _ _=>Classical.propDecidable _
inductive k9:Nat→D→D→Prop where
 | sc {n:Nat} {x y:D} (h:kB x y=true):k9 n x y
 | tup {n:Nat} {ds es:List D} (h:∀ (i:Nat) (d e:D),ds[i]?=some d→es[i]?=some e→k9 n d e):k9 (n+1) (.tup ds) (.tup es)
 | lst {n:Nat} {ds es:List D} (h:∀ (i:Nat) (d e:D),ds[i]?=some d→es[i]?=some e→k9 n d e):k9 (n+1) (.lst ds) (.lst es)
 | ln {n:Nat} {ds:List D}:k9 n (.lst ds) .non
 | nl {n:Nat} {ds:List D}:k9 n .non (.lst ds)
 | tn {n:Nat} {ds:List D}:k9 n (.tup ds) .non
 | nt {n:Nat} {ds:List D}:k9 n .non (.tup ds)
noncomputable def nZ (ds es:List D):Prop:=∀ (i:Nat) (d e:D),ds[i]?=some d→es[i]?=some e→k9 40 d e
noncomputable def MC (x y:D):Prop:=kB x y=true∨∃ ds es,((x=.tup ds∧y=.tup es)∨(x=.lst ds∧y=.lst es))∧nZ ds es
section
variable {a b:Expr} {pos:Pos} {ρ:List Sl} {R:D→Prop}
structure Sd (A B:Prop):Prop where
 s:A
 r:B
structure n5 (A B:Prop) (x:Bool):Prop where
 t:x=true→A
 f:x=false→B
theorem MD (h1:A):n5 A B true:=⟨fun _=>h1,fun h=>by cases h⟩
theorem ME (h1:B):n5 A B false:=⟨fun h=>(by cases h),fun _=>h1⟩
theorem Ff (h1:p→A) (h2:¬ p→B):n5 A B (@decide p i):=⟨fun h=>h1 (of_decide_eq_true h),fun h=>h2 (of_decide_eq_false h)⟩
theorem Fg (h:n5 B A x):n5 A B (!x):=⟨fun e=>h.f (by simpa using e),fun e=>h.t (by simpa using e)⟩
noncomputable def Ba (x y:D) (T:Bool→Prop):Prop:=MC x y∧T (decide (x=y))
theorem Fi (h:T (decide (i=j))):Ba (.int i) (.int j) T:=⟨.inl rfl,by
 have e:decide (D.int i=D.int j)=decide (i=j):=by simp
 rw [e]; exact h⟩
theorem Fj (h:Sd (nZ ds es) (T (decide (ds=es)))):Ba (.tup ds) (.tup es) T:=⟨.inr ⟨ds,es,.inl ⟨rfl,rfl⟩,h.s⟩,by
 have e:decide (D.tup ds=D.tup es)=decide (ds=es):=by simp
 rw [e]; exact h.r⟩
theorem Fl (h:Sd (nZ ds es) (T (decide (ds=es)))):Ba (.lst ds) (.lst es) T:=⟨.inr ⟨ds,es,.inr ⟨rfl,rfl⟩,h.s⟩,by
 have e:decide (D.lst ds=D.lst es)=decide (ds=es):=by simp
 rw [e]; exact h.r⟩
noncomputable def I2 (k:Int→Int→Prop):D→D→Prop:=fun x y=>∃ i j,x=.int i∧y=.int j∧k i j
theorem i2 {k:Int→Int→Prop} (h:k i j):I2 k (.int i) (.int j):=⟨i,j,rfl,rfl,h⟩
noncomputable def I1 (k:Int→Prop):D→Prop:=fun x=>∃ i,x=.int i∧k i
theorem i1 {k:Int→Prop} (h:k i):I1 k (.int i):=⟨i,rfl,h⟩
noncomputable def B1 (k:Bool→Prop):D→Prop:=fun x=>∃ i,x=.bl i∧k i
theorem b1 {k:Bool→Prop} (h:k i):B1 k (.bl i):=⟨i,rfl,h⟩
theorem MF (h:aH c a ρ fun x=>aH c b ρ fun y=>I2 (fun i j=>R (.int (i - j))) x y):aH c (.BinOp a .Sub b pos) ρ R :=
 iA (nY Ji A9 (h.imp fun x hx=>hx.imp fun y ⟨i,j,e1,e2,r⟩=>⟨i,j,e1,e2,_,rfl,r⟩))
noncomputable def MulOk (i j:Int):Prop:=IntMulOk i j
noncomputable def Bb (j:Int):Prop:=0<j∧j.natAbs.log2<9000
theorem Fo:fR c.X (binaryOp .Mult) (rI MulOk fun i j=>.int (i * j)):=Jg fun _ _ _ _ _ _ _ hc q=>mul_int q hc
theorem Bc:fR c.X (binaryOp .FloorDiv) (rI (fun _ j=>Bb j) fun i j=>.int (i / j)):=Jg fun i j _ _ _ _ _ hc q=>by
 have h1:(0:Int)<j:=hc.1
 exact floordiv_int (by lia) (by rw [Int.fdiv_eq_ediv_of_nonneg i (by lia)]; exact q) (.inl (Wj hc.2))
theorem Be:fR c.X (binaryOp .FloorDiv) (rI (fun _ j=>j≠0∧j.natAbs.log2<9000) fun i j=>.int (i.fdiv j)):=Jg fun i j _ _ _ _ _ hc q =>
 floordiv_int hc.1 q (.inl (Wj hc.2))
theorem MG (h:aH c a ρ fun x=>aH c b ρ fun y=>I2 (fun i j=>Sd (MulOk i j) (R (.int (i * j)))) x y):aH c (.BinOp a .Mult b pos) ρ R :=
 iA (nY Fo lV (h.imp fun x hx=>hx.imp fun y ⟨i,j,e1,e2,⟨hc,r⟩⟩=>⟨i,j,e1,e2,hc,_,rfl,r⟩))
theorem JJ (h:aH c a ρ fun x=>aH c b ρ fun y=>I2 (fun i j=>Sd (Bb j) (R (.int (i / j)))) x y):aH c (.BinOp a .FloorDiv b pos) ρ R :=
 iA (nY Bc lV (h.imp fun x hx=>hx.imp fun y ⟨i,j,e1,e2,⟨hc,r⟩⟩=>⟨i,j,e1,e2,hc,_,rfl,r⟩))
theorem Fq (h:aH c a ρ fun x=>aH c b ρ fun y=>I2 (fun i j=>Sd ((j≠0∧j.natAbs.log2<9000)) (R (.int (i.fdiv j)))) x y):aH c (.BinOp a .FloorDiv b pos) ρ R :=
 iA (nY Be lV (h.imp fun x hx=>hx.imp fun y ⟨i,j,e1,e2,⟨hc,r⟩⟩=>⟨i,j,e1,e2,hc,_,rfl,r⟩))
theorem MH (h:aH c a ρ fun x=>aH c b ρ fun y=>I2 (fun i j=>Sd (0<j) (R (.int (i % j)))) x y):aH c (.BinOp a .Mod b pos) ρ R :=
 iA (nY Jj lV (h.imp fun x hx=>hx.imp fun y ⟨i,j,e1,e2,⟨hc,r⟩⟩=>⟨i,j,e1,e2,hc,_,rfl,r⟩))
theorem MI (h:aH c a ρ fun x=>aH c b ρ fun y=>I2 (fun i j=>Sd (yC i j) (R (.int (i ^ j.toNat)))) x y):aH c (.BinOp a .Pow b pos) ρ R :=
 iA (nY Jk lV (h.imp fun x hx=>hx.imp fun y ⟨i,j,e1,e2,⟨hc,r⟩⟩=>⟨i,j,e1,e2,hc,_,rfl,r⟩))
theorem MJ (h:aH c a ρ (I1 fun i=>R (.int (-i)))):aH c (.UnaryOp .USub a pos) ρ R:=fun σ H Hf Q S q =>
 bM (Mc Jp cW) (h σ H Hf _ S fun x v H' ai hx r g=>by
  obtain ⟨i,rfl,hR⟩:=hx
  rw [av] at r
  exact ⟨i,r,q _ _ H' ai hR (av.mpr rfl) g⟩)
noncomputable def Bf (K:QM) (r:R2) (p:D→D→(Bool→Prop)→Prop):Prop :=
 ∀ (x y:D) (v u:V) (H Hf:Hp) (Q:VK) (R:Bool→Prop),aM Hf H→Rep K Hf x v→Rep K Hf y u→p x y R→(∀ b,R b→Q (.bl b) H)→r v u H Q
theorem MK (ho:fR c.X (compareOp op) r) (hd:Bf c.X.K r p) (h:aH c a ρ fun x=>aH c b ρ fun y=>p x y fun z=>R (.bl z))
 (hm:behindInMarks op b=false):aH c (.Compare a [op] [b] pos) ρ R:=fun σ H Hf Q S q =>
 bM (ET ho cW cW hm) (h σ H Hf _ S fun x v1 H1 aP h1 r1 g1=>h1 σ H1 aP _ (S.cE g1) fun y v2 H2 cK h2 r2 g2 =>
  hd x y v1 v2 H2 cK Q _ g2.b (Rep.mono g2.f x r1) r2 h2 fun z hz=>q _ _ H2 cK hz (cP.mpr rfl) (g1.trans g2))
theorem wN (ho:fR c.X (compareOp op) r) (hd:Bf c.X.K r p) (h:aH c a ρ fun x=>aH c b ρ fun y=>p x y T)
 (hm:behindInMarks op b=false):jL c (.Compare a [op] [b] pos) ρ T:=fun σ H Hf Q S q =>
 wM (EU ho cW cW hm) (h σ H Hf _ S fun x v1 H1 aP h1 r1 g1=>h1 σ H1 aP _ (S.cE g1) fun y v2 H2 cK h2 r2 g2 =>
  hd x y v1 v2 H2 cK _ T g2.b (Rep.mono g2.f x r1) r2 h2 fun z hz=>⟨z,rfl,q _ H2 cK hz (g1.trans g2)⟩)
theorem HB {f:Int→Int→Bool}:Bf K (yz fun i j=>.bl (f i j)) fun x y R=>I2 (fun i j=>R (f i j)) x y:=by
 rintro x y v u H Hf Q R s rx ry ⟨i,j,rfl,rfl,hR⟩ q
 rw [av] at rx ry
 exact ⟨i,j,rx,ry,q _ hR⟩
theorem wO (h:kB x y=true) (rx:Rep K H x v) (ry:Rep K H y u):ES v u=true∧decide (v=u)=decide (x=y):=by
 cases x <;> cases y <;> simp [kB] at h <;> simp only [av,cP,bO,fS] at rx ry <;> subst rx <;> subst ry <;> simp [ES]
theorem Px (h:aH c a ρ fun x=>aH c b ρ fun y=>I2 (fun i j=>T (decide (i<j))) x y):jL c (.Compare a [.Lt] [b] pos) ρ T:=wN Mh HB h (lK b)
theorem Py (h:aH c a ρ fun x=>aH c b ρ fun y=>I2 (fun i j=>T (decide (j<i))) x y):jL c (.Compare a [.Gt] [b] pos) ρ T:=wN Mi HB h (lK b)
end
end
section
variable {K:QM} {c:Ctx P w K mg base k N sc bk}
variable {es rest:List Expr}
noncomputable def bW (X:Cx) (e:Expr):TT:=fun σ H Q=>∀ whole aa s,Inv X aa σ H s→wpAny (model X.prog X.w) X.A (isTrue e X.env whole) (TP X aa σ Q) X.xe s
theorem Qj:PW X e (bW X e):=fun whole aa s σ H Q I h=>h whole aa s I
theorem wQ (h:PW X e t) (q:t σ H Q):bW X e σ H Q:=fun whole aa s I=>h whole aa s σ H Q I q
noncomputable def HC (c:Ctx P w K mg base k N sc bk) (e:Expr) (ρ:List Sl) (R:Bool→Prop):Prop :=
 ∀ (σ:L2.St) (H Hf:Hp) (Q:Bool→Hp→Prop),bC c σ H Hf ρ→(∀ b H' ai,R b→bu H Hf H' ai→Q b H')→bW c.X e σ H Q
theorem Qk (h:HC c e ρ T):jL c e ρ T:=fun σ H Hf Q S q aa s I=>h σ H Hf Q S q _ aa s I
theorem JK (h:jL c a ρ T):HC c (.BoolOp .And [a] pos) ρ T:=fun σ H Hf Q S q=>wQ (pw_and1 Hz) (h σ H Hf Q S q)
theorem ML (h:jL c a ρ T):HC c (.BoolOp .Or [a] pos) ρ T:=fun σ H Hf Q S q=>wQ (pw_or1 Hz) (h σ H Hf Q S q)
theorem w_and (h:jL c a ρ (n5 (HC c (.BoolOp .And (b::rest) pos) ρ T) (T false))):HC c (.BoolOp .And (a::b::rest) pos) ρ T:=fun σ H Hf Q S q =>
 wQ (pw_and Hz Qj) (h σ H Hf _ S fun x H' ai hx g=>by
  cases x with
  | true=>exact hx.t rfl σ H' ai Q (S.cE g) fun y H2 cK hy g2=>q y H2 cK hy (g.trans g2)
  | false=>exact q false H' ai (hx.f rfl) g)
theorem w_or (h:jL c a ρ (n5 (T true) (HC c (.BoolOp .Or (b::rest) pos) ρ T))):HC c (.BoolOp .Or (a::b::rest) pos) ρ T:=fun σ H Hf Q S q =>
 wQ (pw_or Hz Qj) (h σ H Hf _ S fun x H' ai hx g=>by
  cases x with
  | false=>exact hx.f rfl σ H' ai Q (S.cE g) fun y H2 cK hy g2=>q y H2 cK hy (g.trans g2)
  | true=>exact q true H' ai (hx.t rfl) g)
theorem MM (h:jL c a ρ fun x=>T (!x)):jL c (.UnaryOp .Not a pos) ρ T:=fun σ H Hf Q S q =>
 wM (IT Hz) (h σ H Hf _ S fun x H' ai hx g=>q _ H' ai hx g)
theorem MN (h:aH c a ρ R):aH c (.BoolOp op [a] pos) ρ R:=fun σ H Hf Q S q=>bM (IU cW) (h σ H Hf Q S q)
theorem MO (h:aH c a ρ (B1 (n5 (aH c (.BoolOp .And (b::rest) pos) ρ R) (R (.bl false))))):aH c (.BoolOp .And (a::b::rest) pos) ρ R:=fun σ H Hf Q S q =>
 bM (IV cW cW) (h σ H Hf _ S fun x v H' ai ⟨k,e,h1⟩ r g=>by
  subst e
  rw [cP] at r
  refine ⟨k,r,?_⟩
  cases k with
  | true=>rw [if_pos rfl]; exact h1.t rfl σ H' ai Q (S.cE g) fun y v2 H2 cK hy r2 g2=>q y v2 H2 cK hy r2 (g.trans g2)
  | false=>rw [if_neg QZ]; exact q _ _ H' ai (h1.f rfl) (cP.mpr rfl) g)
theorem MQ (h:aH c a ρ (B1 fun k=>R (.bl (!k)))):aH c (.UnaryOp .Not a pos) ρ R:=fun σ H Hf Q S q =>
 bM (IW cW) (h σ H Hf _ S fun x v H' ai ⟨k,e,h1⟩ r g=>by
  subst e; rw [cP] at r
  exact ⟨k,r,q _ _ H' ai h1 (cP.mpr rfl) g⟩)
theorem Ft {R:Sl→Prop} (h:jL c t ρ (n5 (dz c a ρ R) (dz c b ρ R))):dz c (.IfExp t a b pos) ρ R:=fun σ H Hf Q S q =>
 bM (AB Hz cW cW) (h σ H Hf _ S fun x H' ai hx g=>by
  cases x with
  | true=>rw [if_pos rfl]; exact hx.t rfl σ H' ai Q (S.cE g) fun y v2 H2 cK hy r2 g2=>q y v2 H2 cK hy (r2.weak fun p hp=>g.s.free hp) (g.trans g2)
  | false=>rw [if_neg QZ]; exact hx.f rfl σ H' ai Q (S.cE g) fun y v2 H2 cK hy r2 g2=>q y v2 H2 cK hy (r2.weak fun p hp=>g.s.free hp) (g.trans g2))
theorem Fv (h:jL c t ρ (n5 (aH c a ρ R) (aH c b ρ R))):aH c (.IfExp t a b pos) ρ R :=
 iA (Ft (h.imp fun x hx=>⟨fun e=>MA ((hx.t e).imp fun d h=>⟨d,rfl,h⟩),fun e=>MA ((hx.f e).imp fun d h=>⟨d,rfl,h⟩)⟩))
theorem MR (h:aH c e ρ (B1 T)) (he:∀ (env:Env) whole,isTrue e env whole=(do let v ← whole; standAt e.pos; holding [v] (truthy v)):=by intro _ _; walk_at "u"):jL c e ρ T:=fun σ H Hf Q S q =>
 wM (IS cW (he _)) (h σ H Hf _ S fun x v H' ai ⟨k,e,h1⟩ r g=>by
  subst e; rw [cP] at r
  exact ⟨k,r,q k H' ai h1 g⟩)
theorem fJ {R:List D→Prop} (h:R []):r6 c [] ρ R:=fun σ H Hf Q S q=>o6 cY (q [] [] H Hf h (aA.mpr rfl) (.refl S.sb))
theorem bx {R:List D→Prop} (h:aH c e ρ fun d=>r6 c es ρ fun ds=>R (d::ds)) (hs:∀ env,starEach (e::es) env=(false,eval e env)::starEach es env:=by intro _; walk_at "u"):r6 c (e::es) ρ R:=fun σ H Hf Q S q =>
 o6 (bL cW Fe (hs _)) (h σ H Hf _ S fun d v H1 aP h1 r1 g1=>h1 σ H1 aP _ (S.cE g1) fun ds vs H2 cK h2 r2 g2=>q _ _ H2 cK h2 (.cons (Rep.mono g2.f d r1) r2) (g1.trans g2))
theorem MS (h:r6 c es ρ fun ds=>Sd (ds.length≤sizeLine) (R (.tup ds))):aH c (.Tuple es j pos) ρ R:=fun σ H Hf Q S q =>
 bM (AM Fe) (h σ H Hf _ S fun ds vs H' ai ⟨hl,hR⟩ r g=>⟨by rw [← r.length]; exact hl,fun p hp=>by
  have g2:=bu.new g.b hp (o:=.tup vs)
  exact q _ _ _ _ hR (aJ.mpr ⟨p,vs,rfl,.inl (.inl ah),r.mono g2.f⟩) (g.trans g2)⟩)
theorem HD {R:Sl→Prop} (h:r6 c es ρ fun ds=>Sd (ds.length≤sizeLine) (R (.ow ds))):dz c (.List es pos) ρ R:=fun σ H Hf Q S q =>
 bM (Jq Fe) (h σ H Hf _ S fun ds vs H' ai ⟨hl,hR⟩ r g=>⟨by rw [← r.length]; exact hl,fun p hp=>by
  have g2:=bu.gp g.b hp (o:=.lst vs)
  exact q _ _ _ _ hR ⟨p,vs,rfl,g.s.free hp,ah,g.b.free hp,r⟩ (g.trans g2)⟩)
variable {st:Stmt}
theorem uZ (h:nx ρ):aN c [] ρ nx p:=fun σ H Hf D S o=>A7 EM (o.nx σ H Hf ρ S h)
theorem aY (h:fH c st ρ (fun ρ'=>aN c sts ρ' nx p) p):aN c (st::sts) ρ nx p:=fun σ H Hf D S o =>
 A7 (AD QE rZ) (h σ H Hf { D with nx:=JH c.X sts D } S ⟨fun σ' H' ai ρ' S' q=>q σ' H' ai D S' o,o.rt,o.bk,o.ct⟩)
theorem eY (h:dz c e ρ p.rt):fH c (.Return (some e) pos) ρ nx p:=fun σ H Hf D S o =>
 d7 (AE cW) (h σ H Hf _ S fun r v H' ai hr rs g=>o.rt r v H' ai (S.bas.trans g) (rs.weak fun p hp=>S.bas.s.free hp) hr)
theorem Bg (hN:At N i x) (hi:At ρ i r) (hu:r.owned=true) (h:p.rt r)
 (hd:(x == ("__debug__":Str))=false:=by decide) (hcd:(x == ("__classdict__":Str))=false:=by decide) :
 fH c (.Return (some (.Name x pos2)) pos) ρ nx p:=fun σ H Hf D S o=>by
 obtain ⟨v,e,rs⟩:=S.at_ i r hi.get (by rintro rfl; cases hu)
 exact d7 (AE (uN (X:=c.X) (i:=i) (by rw [c.eN]; exact hN.get) (by rw [c.esc]; rcases c.vis x hN.mem with h | h; exact .inl h; exact .inr (.inl h)) hd hcd)) ⟨v,e,o.rt r v H Hf S.bas rs h⟩
theorem Fw (h:jL c t ρ (n5 (aN c A ρ nx p) (aN c B ρ nx p))):fH c (.If t A B pos) ρ nx p:=fun σ H Hf D S o =>
 d7 (L5 Hz rZ rZ) (h σ H Hf _ S fun x H' ai hx g=>by
  cases x with
  | true=>rw [if_pos rfl]; exact hx.t rfl σ H' ai D (S.cE g) o
  | false=>rw [if_neg QZ]; exact hx.f rfl σ H' ai D (S.cE g) o)
noncomputable def Nx (ρ:List Sl) (i:Nat) (R:List Sl→Prop) (r:Sl):Prop:=∃ ρ',SSet ρ i r ρ'∧R ρ'
theorem wR {R:List Sl→Prop} (h:SSet ρ i r ρ') (hr:R ρ'):Nx ρ i R r:=⟨ρ',h,hr⟩
theorem HE (hN:At N i x) (h:dz c e ρ (Nx ρ i nx))
 (hs:∀ env,swapsWith e (some (.Name x pos2)) pos.line env=pure false:=by intro _; walk_at "u") (hf:bk=false∨sc.names.lookup x=some .local:=by first | exact .inl rfl | exact .inr (by walk_at "u")):fH c (.Assign [.Name x pos2] e pos) ρ nx p:=fun σ H Hf D S o =>
 d7 (Ja (X:=c.X) (i:=i) (by rw [c.eN]; exact c.nd) (by rw [c.eN]; exact hN.get) (by rw [c.esc]; exact c.vis x hN.mem) cW (hs _) (c.fn x hf)) (h σ H Hf _ S fun r v H' ai ⟨ρ',hs,hx⟩ rs g=>o.nx _ H' ai _ (hs.eq ▸ S.set g rs) hx)
theorem dJ {R:List Sl→Prop} (hN:At N i x) (h:Nx ρ i R (.va d)) (hf:bk=false∨sc.names.lookup x=some .local:=by first | exact .inl rfl | exact .inr (by walk_at "u")):nX c (.Name x pos) d ρ R:=fun σ H Hf v Q S r q=>by
 obtain ⟨ρ',hs,h⟩:=h
 exact A8 (qe (X:=c.X) (i:=i) (by rw [c.eN]; exact c.nd) (by rw [c.eN]; exact hN.get) (by rw [c.esc]; exact c.vis x hN.mem) (c.fn x hf)) (q _ H Hf _ (hs.eq ▸ S.set (.refl S.sb) (r:=.va d) r) (.refl S.sb) h)
noncomputable def yI (c:Ctx P w K mg base k N sc bk) (ts:List Expr) (ds:List D) (ρ:List Sl) (R:List Sl→Prop):Prop :=
 ∀ (σ:L2.St) (H Hf:Hp) (vs:List V) (Q:L2.St→Hp→Prop),bC c σ H Hf ρ→ak c.X.K Hf ds vs→(∀ σ' H' ai ρ',bC c σ' H' ai ρ'→bu H Hf H' ai→R ρ'→Q σ' H') →
  ∀ aa s us,Inv c.X aa σ H s→Vals vs us→wpAny (model c.X.prog c.X.w) c.X.A (assignInOrder ((assignEach ts c.X.env).map (·.2)) us) (fun _ s'=>∃ σ' H',Inv c.X aa σ' H' s'∧Q σ' H') c.X.xe s
theorem JL {R:List Sl→Prop} (h:R ρ):yI c [] [] ρ R:=fun σ H Hf vs Q S r q aa s us I rv=>by
 rw [aA] at r; subst r
 exact EN aa s σ H [] us Q I rv ⟨rfl,q σ H Hf ρ S (.refl S.sb) h⟩
theorem Fx {R:List Sl→Prop} (hN:At N i x) (h:Nx ρ i (fun ρ'=>yI c ts ds ρ' R) (.va d))
 (hs:∀ env,(assignEach (.Name x pos::ts) env).map (·.2)=assign (.Name x pos) env::(assignEach ts env).map (·.2):=by intro _; walk_at "u") (hf:bk=false∨sc.names.lookup x=some .local:=by first | exact .inl rfl | exact .inr (by walk_at "u")):yI c (.Name x pos::ts) (d::ds) ρ R:=fun σ H Hf vs Q S r q aa s us I rv=>by
 obtain ⟨ρ',hs',h⟩:=h
 rw [aE] at r
 obtain ⟨v,vr,rfl,r1,r2⟩:=r
 have hp:LH c.X ts (fun vs' σ' H' Q'=>∀ aa s us,Inv c.X aa σ' H' s→Vals vs' us→wpAny (model c.X.prog c.X.w) c.X.A (assignInOrder ((assignEach ts c.X.env).map (·.2)) us) (fun _ s'=>∃ σ'' H'',Inv c.X aa σ'' H'' s'∧Q' σ'' H'') c.X.xe s) :=
  fun aa s σ H vs us Q I r h=>h aa s us I r
 refine AF (qe (X:=c.X) (i:=i) (by rw [c.eN]; exact c.nd) (by rw [c.eN]; exact hN.get) (by rw [c.esc]; exact c.vis x hN.mem) (c.fn x hf)) hp (hs _) aa s σ H _ us Q I rv ⟨v,vr,rfl,?_⟩
 have S1:=S.set (i:=i) (.refl S.sb) (r:=.va d) (v:=v) r1
 rw [← hs'.eq] at S1
 exact h _ H Hf vr Q S1 r2 q
theorem MT {R:List Sl→Prop} (he:d=.tup ds) (hl:ds.length=ts.length) (h:yI c ts ds ρ R)
 (hn:∀ env,(assignEach ts env).length=ts.length:=by intro _; walk_at "u") (hst:∀ env,(assignEach ts env).findIdx? (·.1)=none:=by intro _; walk_at "u"):nX c (.Tuple ts j pos) d ρ R:=fun σ H Hf v Q S r q=>by
 subst he
 rw [aJ] at r
 obtain ⟨a,xs,rfl,h1,h2⟩:=r
 have hp:LH c.X ts (fun vs' σ' H' Q'=>∀ aa s us,Inv c.X aa σ' H' s→Vals vs' us→wpAny (model c.X.prog c.X.w) c.X.A (assignInOrder ((assignEach ts c.X.env).map (·.2)) us) (fun _ s'=>∃ σ'' H'',Inv c.X aa σ'' H'' s'∧Q' σ'' H'') c.X.xe s) :=
  fun aa s σ H vs us Q I r h=>h aa s us I r
 refine A8 (IY (X:=c.X) (k:=j) (n:=ts.length) c.calm hp (hn _) (hst _)) ⟨a,xs,rfl,az S.sb h1,by rw [← h2.length,hl],?_⟩
 exact h σ H Hf xs Q S h2 fun σ' H' ai ρ' S' g' hR=>q σ' H' ai ρ' S' g' hR
theorem MU (hNi:At N i x) (hNj:At N j y) (hij:i≠j) (h:aH c a ρ fun d1=>aH c b ρ fun d2=>Nx ρ i (fun ρ'=>Nx ρ' j nx (.va d2)) (.va d1))
 (hx:sc.names.lookup x=some .local:=by walk_at "u") (hy:sc.names.lookup y=some .local:=by walk_at "u")
 (hw:∀ env:Env,env.scope=sc→swappedStores [.Tuple [.Name x px,.Name y py] kt pt] (.Tuple [a,b] k2 pt2) env=pure (some [x,y]):=by (intro env he; cases env; cases he; walk_at "u"))
 (hs:∀ env,swapsWithSole [.Tuple [.Name x px,.Name y py] kt pt] (.Tuple [a,b] k2 pt2) pos.line env=pure false:=by intro _; walk_at "u")
 (hst:∀ env,starEach [a,b] env=(false,eval a env)::starEach [b] env:=by intro _; walk_at "u") (hst2:∀ env,starEach [b] env=[(false,eval b env)]:=by intro _; walk_at "u") :
 fH c (.Assign [.Tuple [.Name x px,.Name y py] kt pt] (.Tuple [a,b] k2 pt2) pos) ρ nx p:=fun σ H Hf D S o =>
 d7 (Jb (X:=c.X) (i:=i) (j:=j) c.calm (by rw [c.eN]; exact c.nd) (by rw [c.eN]; exact hNi.get) (by rw [c.eN]; exact hNj.get) hij (by rw [c.esc]; exact hx) (by rw [c.esc]; exact hy) (bL cW (bL cW cY (hst2 _)) (hst _)) (hw _ c.esc) (hs _))
  (h σ H Hf _ S fun d1 v1 H1 aP h1 r1 g1=>h1 σ H1 aP _ (S.cE g1) fun d2 v2 H2 cK ⟨ρ1,hs1,ρ2,hs2,h2⟩ r2 g2=>⟨v1,v2,rfl,by
    have S2:=(S.cE (g1.trans g2)).set (i:=i) (.refl g2.b) (r:=.va d1) (v:=v1) (Rep.mono g2.f d1 r1)
    rw [← hs1.eq] at S2
    have S3:=S2.set (i:=j) (.refl g2.b) (r:=.va d2) (v:=v2) r2
    rw [← hs2.eq] at S3
    exact o.nx _ H2 cK _ S3 h2⟩)
theorem MV {f:Int→Int→Int} (ho:fR c.X (inplaceOp op) (rI C fun i j=>.int (f i j))) (hN:At N i x) (hi:At ρ i (.va (.int m)))
 (h:aH c e ρ (I1 fun j=>Sd (C m j) (Nx ρ i nx (.va (.int (f m j)))))) (hf:bk=false∨sc.names.lookup x=some .local:=by first | exact .inl rfl | exact .inr (by walk_at "u")):fH c (.AugAssign (.Name x pos2) op e pos) ρ nx p:=fun σ H Hf D S o=>by
 obtain ⟨v,e1,r1⟩:=S.va hi.get
 rw [av] at r1; subst r1
 have hip:Qg c.X op (rI C fun i j=>.int (f i j)):=fun aa s σ H x y v u Q I rx ry h=>ho aa s σ H x y v u Q I rx ry h
 refine d7 (Jc (X:=c.X) (i:=i) (by rw [c.eN]; exact c.nd) (by rw [c.eN]; exact hN.get) (by rw [c.esc]; exact c.vis x hN.mem) cW hip (c.fn x hf)) ⟨_,e1,h σ H Hf _ S fun d v H' ai ⟨j,ed,⟨hC,ρ',hs,hn⟩⟩ r g=>?_⟩
 subst ed; rw [av] at r
 have S2:=S.set g (i:=i) (r:=.va (.int (f m j))) (show Rep c.X.K ai (.int (f m j)) (.int (f m j)) from av.mpr rfl)
 rw [← hs.eq] at S2
 exact ⟨m,j,rfl,r,hC,o.nx _ H' ai _ S2 hn⟩
theorem JM (hN:At N i x) (hi:At ρ i (.va (.int m))) (h:aH c e ρ (I1 fun j=>Nx ρ i nx (.va (.int (m - j))))) (hf:bk=false∨sc.names.lookup x=some .local:=by first | exact .inl rfl | exact .inr (by walk_at "u")) :
 fH c (.AugAssign (.Name x pos2) .Sub e pos) ρ nx p :=
 MV (C:=fun _ _=>True) (f:=fun i j=>i - j) (fun aa s σ H x y v u Q I rx ry ⟨i,j,e1,e2,_,q⟩=>ER aa s σ H x y v u Q I rx ry ⟨i,j,e1,e2,q⟩) hN hi (h.imp fun d ⟨j,e,q⟩=>⟨j,e,trivial,q⟩) hf
theorem qo (hq:c.X.xe=fun _ _=>False) (I:Nat→List Sl→Prop) (h0:I m₀ ρ)
 (h:∀ m ρ',I m ρ'→jL c t ρ' (n5 (aN c body ρ' (fun r=>∃ m',m'<m∧I m' r) { ct:=fun r=>∃ m',m'<m∧I m' r,bk:=nx,rt:=p.rt }) (nx ρ'))) :
 fH c (.While t body [] pos) ρ nx p:=fun σ H Hf D S o =>
 d7 (AG (by rw [hq]; exact PassesOwn.never) Hz rZ) ⟨fun m σ H=>∃ Hf ρ',bC c σ H Hf ρ'∧I m ρ',⟨m₀,Hf,ρ,S,h0⟩,fun m σ H ⟨Hf,ρ',S,hI⟩=>h m ρ' hI σ H Hf _ S fun x H' ai hx g=>by
  cases x with
  | false=>rw [if_neg QZ]; exact o.nx σ H' ai ρ' (S.cE g) (hx.f rfl)
  | true =>
   rw [if_pos rfl]
   refine ⟨fun σ' H'=>∃ m',m'<m∧∃ Hf ρ',bC c σ' H' Hf ρ'∧I m' ρ',fun σ' H' ⟨m',hl,hh⟩=>⟨m',hl,hh⟩,?_⟩
   exact hx.t rfl σ H' ai _ (S.cE g) ⟨fun σ H Hf ρ S ⟨m',hl,hi⟩=>⟨m',hl,Hf,ρ,S,hi⟩,o.rt,fun σ H Hf ρ S q=>o.nx σ H Hf ρ S q,fun σ H Hf ρ S ⟨m',hl,hi⟩=>⟨m',hl,Hf,ρ,S,hi⟩⟩⟩
end
theorem fK (h:n≤1000):n≤sizeLine:=TJ (yH h)
theorem Bh (h:0<j) (h2:j.natAbs.log2<9000):Bb j:=⟨h,h2⟩
inductive Res where
 | ok (r:Sl)
 | ex (C:Addr)
noncomputable abbrev Fn:=List D→Res→Prop
noncomputable def dU (K:QM) (F:Fn):Sp:=fun vs H Q E=>∃ Hf ds r,aM Hf H∧ak K Hf ds vs∧F ds r∧match r with
 | .ok sl=>∀ v H' ai,bu H Hf H' ai→aZ K (fun p=>H p=none) H' ai sl v→Q v H'
 | .ex C=>∀ a H',aM H H'→E (.ref C) (some a) H'
structure bJ (P:Program) (w:World) (K:QM) (mg:Str→Option Value) (base:Heap) (k:Nat) (x:Str) (F:Fn):Prop where
 ex:∃ f fd ps,mg x=some (.ref f)∧SK K (.ref f)=true∧Binds K fd ps []∧bf P w K mg base (cO P w) k f fd ps (dU K F)
section
variable {K:QM} {c:Ctx P w K mg base k N sc bk}
noncomputable def JN (c:Ctx P w K mg base k N sc bk) (ρ:List Sl) (R:Sl→Prop):Res→Prop
 | .ok sl=>R sl
 | .ex C=>c.RX C ρ
theorem Fy (h:bJ P w K mg base j x F) (hj:j≤k):∃ f,mg x=some (.ref f)∧SK K (.ref f)=true ∧
 ∀ (aa:List (Addr×Obj)) (σ:L2.St) (H Hf:Hp) (s:Shared) (us:List Value) (vs:List V) (ds:List D) (r:Res) (Q:VK),Inv c.X aa σ H s→bC c σ H Hf ρ→Vals vs us→ak c.X.K Hf ds vs→F ds r →
  (∀ sl v H' ai,r=.ok sl→aZ c.X.K (fun p=>H p=none) H' ai sl v→bu H Hf H' ai→Q v H')→(∀ C,r=.ex C→c.RX C ρ)→wpAny (model c.X.prog c.X.w) c.X.A (call (.ref f) us) (EP c.X aa σ Q) c.X.xe s:=by
 obtain ⟨f,fd,ps,hm,hk,hb,hF⟩:=h.ex
 refine ⟨f,hm,hk,fun aa σ H Hf s us vs ds r Q I S rv rs hr q hx=>?_⟩
 have hF':bf c.X.prog c.X.w c.X.K c.X.mg c.X.base (cO c.X.prog c.X.w) k f fd ps (dU c.X.K F):=by rw [c.eP,c.ew,c.eK,c.emg,c.eb]; exact hF.mono hj
 have rF:dU c.X.K F vs H Q (fun cv ao H'=>∃ C,r=.ex C∧cv=.ref C∧aM H H'):=by
  refine ⟨Hf,ds,r,S.bas.b,rs,hr,?_⟩
  cases r with
  | ok sl=>exact fun v H' ai g rs2=>q sl v H' ai rfl rs2 g
  | ex C=>exact fun a H' s2=>⟨C,rfl,rfl,s2⟩
 have hl:us.length=ps.length:=by rw [← rv.length]; exact hF'.len _ _ _ _ rF
 have hb':Binds c.X.K fd ps []:=by rw [c.eK]; exact hb
 have hb2:=hb' s us I.qb (by simpa using hl)
 rw [Ru] at hb2
 refine UJ (UE (hF'.run c.X.A c.X.stack s H ⟨us,[]⟩ us vs Q _ c.room I.EX hb2 rv rF) fun r' s' hq=>?_)
 cases r' with
 | error e =>
  obtain ⟨a,C,H',rfl,hE,C',e1,e2,sm⟩:=hq
  cases e2
  exact c.exc C a aa σ H Hf ρ s H' s' I S (hx C e1) hE sm
 | ok fl =>
  cases fl with
  | ret u=>exact I.after hq
  | next=>exact RU hq
  | brk=>exact RU hq
  | cont=>exact RU hq
theorem x_call {R:Sl→Prop} (h:bJ P w K mg base j x F) (hj:j≤k)
 (ha:r6 c (e::es) ρ fun ds=>∃ r,F ds r∧JN c ρ R r)
 (hg:sc.names.lookup x=some .globalImplicit:=by walk_at "u") (hdb:(x == ("__debug__":Str))=false:=by decide) (he:∀ env,starEach (e::es) env=(false,eval e env)::starEach es env:=by intro _; walk_at "u")
 (hpl:∀ env,(backTo pos (starEach es env)).any (·.1)=false:=by intro _; walk_at "u"):dz c (.Call (.Name x p) (e::es) [] pos) ρ R:=fun σ H Hf Q S q aa s I=>by
 obtain ⟨f,hm,hk,run⟩:=Fy (c:=c) (ρ:=ρ) h hj
 refine SG (i6 I (by unfold Gl Rz; rw [c.esc]; exact hg) (by rw [c.emg]; exact hm) ?_ hdb)
 refine VA (h₀:=c.X.base) I.ok.mod.kin (by rw [c.eK]; exact hk) (bD (ha σ H Hf (fun vs H1=>∃ aP ds,(∃ r,F ds r∧JN c ρ R r)∧ak c.X.K aP ds vs∧bu H Hf H1 aP) S (fun ds vs H1 aP hr rs g=>⟨aP,ds,hr,rs,g⟩) pos aa s I) fun us s1 hh=>z2 hh fun vs H1 hh=>w3 hh fun I1 rv hh=>z2 hh fun aP ds hh=>w3 hh fun hh rs g=>hh.elim fun r hh=>w2 hh fun hF hR=>⟨I1.qb,?_⟩) (he _) (hpl _)
 refine run aa σ H1 aP s1 us vs ds r Q I1 (S.cE g) rv rs hF (fun sl v H' ai e1 rs2 g2=>?_) fun C e1=>?_
 ·subst e1
  exact q sl v H' ai hR (rs2.weak fun p hp=>g.s.free hp) (g.trans g2)
 ·subst e1
  exact hR
theorem bz (h:bJ P w K mg base j x F) (hj:j≤k)
 (ha:r6 c (e::es) ρ fun ds=>∃ r,F ds r∧JN c ρ (HA R) r)
 (hg:sc.names.lookup x=some .globalImplicit:=by walk_at "u") (hdb:(x == ("__debug__":Str))=false:=by decide) (he:∀ env,starEach (e::es) env=(false,eval e env)::starEach es env:=by intro _; walk_at "u")
 (hpl:∀ env,(backTo pos (starEach es env)).any (·.1)=false:=by intro _; walk_at "u"):aH c (.Call (.Name x p) (e::es) [] pos) ρ R:=e_x (x_call h hj ha hg hdb he hpl)
noncomputable def iD (N:List Str) (ds:List D):List Sl:=ds.map .va++QY (N.length - ds.length) .un
theorem Bj (r:ak K dS ds vs) (sb:aM dS H₀):c6 K H₀ dS (L2.start N vs) H₀ dS (iD N ds):=by
 have hl:=r.length
 refine ⟨.refl sb,by simp [L2.start,iD,hl],fun i r' h hu=>?_,fun i j r1 r2 p hne h1 h2 o1 o2=>?_⟩
 ·by_cases q:i<ds.length
  ·have e:(iD N ds)[i]?=some (.va ds[i]):=by
    unfold iD
    rw [Tg (by simpa using q)]; simp [q]
   rw [e] at h; cases h
   obtain ⟨x,e2,rx⟩:=r.get (i:=i) (d:=ds[i]) (by simp)
   refine ⟨x,?_,rx⟩
   unfold L2.start
   rw [Tg (by simp; lia)]
   simp [e2]
  ·unfold iD at h
   rw [Ur (by simp; lia)] at h
   have:=Si h
   exact absurd (UM this) hu
 ·exfalso
  unfold iD at h1
  by_cases q:i<(ds.map Sl.va).length
  ·rw [Tg q] at h1
   rw [Q3] at h1
   cases z:ds[i]? with
   | none=>rw [z] at h1; cases h1
   | some d=>rw [z] at h1; cases h1; cases o1
  ·rw [Ur (by lia)] at h1
   have e3:=UM (Si h1)
   subst e3; cases o1
theorem ck {st:Stmt} (Fu:dR K x qual st f fd) (Sc:aB N ps (af st)) (Vi:∀ x∈N,Loc (af st) x) (ar:∀ ds r,F ds r→ds.length=ps.length)
 (hok:∀ ds r,F ds r→∃ sl,r=.ok sl)
 (body:∀ (c:Ctx P w K mg base k N (af st) false),c.X.xe=(fun _ _=>False)→∀ ds sl,F ds (.ok sl)→aN c (aq st) (iD N ds) (fun _=>sl=.va .non) { rt:=fun r=>r=sl }) :
 bf P w K mg base (cO P w) (k+1) f fd ps (dU K F):=by
 obtain ⟨oc,od,kV,doc,pm,an,cdv,ct,osl,rfl,lk,hcd⟩:=Fu.ex
 refine AN lk hcd Sc (fun vs H Q E ⟨Hf,ds,r,_,rs,hF,_⟩=>by rw [← rs.length]; exact ar _ _ hF) fun A outer s H vs Q E hr ⟨Hf,ds,r,sb,rs,hF,hq⟩=>?_
 obtain ⟨sl,rfl⟩:=hok _ _ hF
 let X:Cx:=(rL (cO P w) P w K mg base N qual (af st) f cdv A outer s H E).Hw
 let c:Ctx P w K mg base k N (af st) false :=
  { X:=X,eP:=rfl,ew:=rfl,eK:=rfl,emg:=rfl,eb:=rfl,eN:=rfl,esc:=rfl,calm:=rfl,top:=fun _=>⟨rfl,rfl,rfl⟩,cb:=fun _ _ _ _ _ I x c h=>I.ok.cab x c rfl h,fn:=fun _ _=>.inl rfl,B:=H,room:=hr,nd:=Sc.nd,vis:=Vi,Hf:=Hf,RX:=fun _ _=>False,
    exc:=fun _ _ _ _ _ _ _ _ _ _ _ _ h _ _=>h.elim,RM:=fun _ _=>False,mde:=fun _ _ _ _ _ _ _ _ _ _ _ _ h _=>h.elim }
 refine ⟨_,uI.Hw (t:=JH X (aq st)) (rZ (X:=X)),?_⟩
 refine body c rfl ds sl hF (L2.start N vs) H Hf _ (Bj rs sb) ⟨fun σ H' ai ρ S e=>?_,fun r v H' ai g rv e=>?_,fun _ _ _ _ _ h=>h.elim,fun _ _ _ _ _ h=>h.elim⟩
 ·subst e
  exact hq .non H' ai S.bas (show Rep K ai .non .non from bO.mpr rfl)
 ·have e:r=sl:=e
  subst e
  exact hq v H' ai g rv
noncomputable def PB (K:QM) (r:List V→Hp→VK→Prop) (p:List D→(Sl→Prop)→Prop):Prop :=
 ∀ (ds:List D) (vs:List V) (H Hf:Hp) (Q:VK) (R:Sl→Prop),aM Hf H→ak K Hf ds vs→p ds R→(∀ z v' H' ai,R z→aZ K (fun p=>H p=none) H' ai z v'→bu H Hf H' ai→Q v' H')→r vs H Q
theorem MW {id:String} {R:Sl→Prop} (hc:fE c.X (.type id) r) (hd:PB c.X.K r q) (hm:mg x=none) (hv:bootBuiltins x=some (.type id))
 (ha:r6 c (e::es) ρ fun ds=>q ds R) (hg:sc.names.lookup x=some .globalImplicit:=by walk_at "u") (hn:x≠"__name__":=by decide) (hdb:(x == ("__debug__":Str))=false:=by decide)
 (he:∀ env,starEach (e::es) env=(false,eval e env)::starEach es env:=by intro _; walk_at "u") (hpl:∀ env,(backTo pos (starEach es env)).any (·.1)=false:=by intro _; walk_at "u"):dz c (.Call (.Name x p) (e::es) [] pos) ρ R:=fun σ H Hf Q S qq =>
 bM (oR hc (by unfold Gl Rz; rw [c.esc]; exact hg) (by rw [c.emg]; exact hm) hv Fe hn hdb (he _) (hpl _))
  (ha σ H Hf _ S fun ds vs H1 aP h1 rs g=>hd ds vs H1 aP Q R g.b rs h1 fun z v' H' ai hz rz g2=>qq z v' H' ai hz (rz.weak fun p hp=>g.s.free hp) (g.trans g2))
theorem lW (h:ak K H [d] vs):∃ v,vs=[v]∧Rep K H d v:=by
 rw [aE] at h
 obtain ⟨x,r,rfl,h1,h2⟩:=h
 rw [aA] at h2; subst h2
 exact ⟨x,rfl,h1⟩
noncomputable def yJ (K:QM) (r:List V→Hp→VK→Prop) (p:List D→(D→Prop)→Prop):Prop :=
 ∀ (ds:List D) (vs:List V) (H Hf:Hp) (Q:VK) (R:D→Prop),aM Hf H→ak K Hf ds vs→p ds R→(∀ d v H' ai,R d→Rep K ai d v→bu H Hf H' ai→Q v H')→r vs H Q
theorem o7 {id:String} (hc:fE c.X (.builtin id) r) (hd:yJ c.X.K r q) (hm:mg x=none) (hv:bootBuiltins x=some (.builtin id))
 (ha:r6 c (e::es) ρ fun ds=>q ds R) (hg:sc.names.lookup x=some .globalImplicit) (hn:x≠"__name__") (hdb:(x == ("__debug__":Str))=false)
 (he:∀ env,starEach (e::es) env=(false,eval e env)::starEach es env) (hpl:∀ env,(backTo pos (starEach es env)).any (·.1)=false):aH c (.Call (.Name x p) (e::es) [] pos) ρ R:=fun σ H Hf Q S qq =>
 bM (AO hc (by unfold Gl Rz; rw [c.esc]; exact hg) (by rw [c.emg]; exact hm) hv Fe hn hdb (he _) (hpl _))
  (ha σ H Hf _ S fun ds vs H1 aP h1 rs g=>hd ds vs H1 aP Q R g.b rs h1 fun z v' H' ai hz rz g2=>qq z v' H' ai hz rz (g.trans g2))
theorem MX {id:String} (hc:fE c.X (.type id) r) (hd:yJ c.X.K r q) (hm:mg x=none) (hv:bootBuiltins x=some (.type id))
 (ha:r6 c (e::es) ρ fun ds=>q ds R) (hg:sc.names.lookup x=some .globalImplicit) (hn:x≠"__name__") (hdb:(x == ("__debug__":Str))=false)
 (he:∀ env,starEach (e::es) env=(false,eval e env)::starEach es env) (hpl:∀ env,(backTo pos (starEach es env)).any (·.1)=false):aH c (.Call (.Name x p) (e::es) [] pos) ρ R:=fun σ H Hf Q S qq =>
 bM (oR hc (by unfold Gl Rz; rw [c.esc]; exact hg) (by rw [c.emg]; exact hm) hv Fe hn hdb (he _) (hpl _))
  (ha σ H Hf _ S fun ds vs H1 aP h1 rs g=>hd ds vs H1 aP Q R g.b rs h1 fun z v' H' ai hz rz g2=>qq z v' H' ai hz rz (g.trans g2))
theorem JO {f:Int→D} {g:Int→V} (hf:∀ i H,Rep K H (f i) (g i)):yJ K (fun xs H Q=>∃ i,xs=[V.int i]∧Q (g i) H) (fun ds R=>∃ i,ds=[.int i]∧R (f i)):=by
 rintro ds vs H Hf Q R s rs ⟨i,rfl,hR⟩ q
 obtain ⟨v,rfl,rv⟩:=lW rs
 rw [av] at rv; subst rv
 exact ⟨i,rfl,q _ _ H Hf hR (hf i Hf) (.refl s)⟩
section
theorem MY (hm:mg "abs"=none) (h:aH c e ρ (I1 fun i=>R (.int (if i<0 then -i else i)))) (hg:sc.names.lookup (QK "abs")=some .globalImplicit:=by walk_at "u")
 (he:∀ env,starEach [e] env=(false,eval e env)::starEach [] env:=by intro _; walk_at "u"):aH c (.Call (.Name "abs" p) [e] [] pos) ρ R :=
 o7 AL (JO (f:=fun i=>.int (if i<0 then -i else i)) fun i H=>av.mpr rfl) hm PyProof.Rows.boot_abs (bx (h.imp fun d ⟨i,e,r⟩=>fJ ⟨i,by rw [e],r⟩) he) hg (by decide) (by decide) he (by intro _; rfl)
end
end
end EV
namespace EV
open PySem PySem.Spec PySem.Calls PyProof.Rows L2
theorem JP (x:bw P w H h a o):∃ u,h.get? a=some u:=by
 cases o with
 | lst xs=>obtain ⟨_,_,_,_,e⟩:=x; exact ⟨_,e⟩
 | tup xs=>obtain ⟨_,_,_,ob,e,_⟩:=x; exact ⟨_,e⟩
 | dK kvs=>obtain ⟨_,_,_,_,o,_,_,e,_⟩:=x; exact ⟨_,e⟩
 | dT kvs=>obtain ⟨_,_,_,_,o,_,_,e,_⟩:=x; exact ⟨_,e⟩
 | set S n=>obtain ⟨o,_,_,_,e,_⟩:=x; exact ⟨_,e⟩
 | ins C dx fs=>obtain ⟨_,_,_,e,_⟩:=x; exact ⟨_,e⟩
 | own y=>exact x
 | xd fs=>obtain ⟨_,⟨_,_,_,e,_⟩,_⟩:=x; exact ⟨_,e⟩
 | rng lo hi=>obtain ⟨_,_,_,e⟩:=x; exact ⟨_,e⟩
 | frz ob u=>obtain ⟨e,_⟩:=x; exact ⟨_,e⟩
 | tbl ps=>exact ⟨_,x⟩
 | met f y=>exact ⟨_,x⟩
 | ext φ =>exact x.2.1
section
end
section
variable {K:QM}
end
open PySem.W Builtin Builtin.ObjectAttr Builtin.Getset_descriptor
structure OD (K:QM) (C:Addr):Prop where
 ga:Tr K (.ref C) "__getattribute__"=some (some (.builtin "BaseException.__getattribute__"))
 hk:Tr K (.ref C) "__getattr__"=some none
 ca:Tr K (.ref C) "__class__"=some (some (.builtin "object.__class__"))
 gt:WS K (.builtin "object.__class__") "__get__"=some (some (.builtin "getset_descriptor.__get__"))
 tk:PySem.W.takesIn K (.builtin "object.__class__")=some true
 mo:V3 K C (.type "object")=some true
 mb:V3 K C (.type "BaseException")=some true
section
variable {prog:Program} {w:World} {A:Around} {E:Value→Shared→Prop} {s:Shared} {K:QM} {x C:Addr} {R:Result→Shared→Prop}
theorem wU (p:uX x C h):Looks M h (typeOf (.ref x)) (.ref C):=by
 obtain ⟨o,ho,hc,_⟩:=p
 rw [← hc]
 exact (Looks.ld ho).andThen .now
theorem n6 (X:K.In s.heap) (L:Looks (model prog w) s.heap (typeOf (.ref x)) (.ref C)) (hm:V3 K C (.type "object")=some true)
 (h:R (.ok (.ret (.ref C))) s):codeAny (model prog w) A (.call (.builtin "getset_descriptor.__get__") ⟨[.builtin "object.__class__",.ref x,tp],[]⟩) R s:=by
 obtain ⟨hh,g,dr,t,os⟩:=s
 have L0:=L
 have L1:=looks_mroIn (M:=model prog w) X hm
 refine codeAny_call_builtin KF.slot_gs.plain KF.entry_gs (KF.slot_gs.check _ _ _ _ _ _ _ _ KF.type_class (KF.args_gs _ _ _) ?_)
 unfold Builtin.«getset_descriptor.__get__» descrGet
 rw [dga_obj]
 refine QL (QN ?_)
 unfold descrGetter descrCheckInstance descrNameAndClass isInstance
 simp only [KF.owner_class]
 repeat lk
 refine ⟨Code.quiet_builtin _ (by decide +kernel),UZ KF.entry_class ?_⟩
 unfold Builtin.«object.__class__» shownTypeOf
 repeat lk
 exact h
theorem Bk (X:K.In h) (k:OD K C):Looks M h (find (.ref x) (.ref C) "__class__") (.bind (.builtin "getset_descriptor.__get__") (.builtin "object.__class__")):=by
 have L1:=looks_findIn (M:=M) X k.ca
 have L2:Looks M h (getOf (some (.builtin "object.__class__"))) (some (.builtin "getset_descriptor.__get__")):=looks_specialIn X k.gt
 have L3:=looks_takesIn (M:=M) X k.tk
 unfold find
 refine L1.andThen (L2.andThen ?_)
 refine Looks.andThen (a:=some (.builtin "getset_descriptor.__get__",.builtin "object.__class__")) ?_ (Looks.tag .now)
 unfold dataDescriptor?
 exact L3.andThen .now
theorem yK (X:K.In s.heap) (p:uX x C s.heap) (k:OD K C) (h:Q (some (.ref C)) { s with toks:=s.toks+1 }):wpAny (model prog w) A (getAttr? (.ref x) "__class__") Q E s:=by
 obtain ⟨hh,g,d,t,os⟩:=s
 have L0:Looks (model prog w) hh (typeOf (.ref x)) (.ref C):=wU p
 have L1:=looks_findIn (M:=model prog w) X k.ga
 have L2:=looks_findIn (M:=model prog w) X k.hk
 have L3:=looks_mroIn (M:=model prog w) X k.mb
 have L4:=Bk (M:=model prog w) (x:=x) X k
 unfold getAttr? getAttrBy? getAttrBy
 refine QL (wpAny_mkText (QL (Tw (Sf (QL (L0.at (QL (L1.at ?_))))))))
 dsimp only
 have hx2:(Value.builtin "BaseException.__getattribute__" == Value.builtin "object.__getattribute__")=false:=by decide +kernel
 rw [hx2,Bool.and_false,if_neg QZ]
 unfold getAttrByItsOwn hookBefore
 rw [if_pos (by rfl)]
 refine QL (L2.at ?_)
 refine QL (Tw (Sf ?_))
 unfold callGetattribute
 rw [if_neg (by simp)]
 unfold boundAndCalled
 have f3:=PySem.F.attrBase_ValueError.ga.bind (.ref x)
 rw [f3]
 refine QL (QN ?_)
 refine UJ (codeAny_call_builtin PySem.F.attrBase_ValueError.ga.plain PySem.F.entry_bexc_ga ?_)
 have hk:builtinKind "BaseException.__getattribute__"=some .slot:=by decide +kernel
 have hsplit:splitId "BaseException.__getattribute__"=some ("BaseException","__getattribute__"):=by decide +kernel
 have ha:=PySem.F.args_bexc_ga (.ref x) (Vg "__class__" t)
 simp only [checkBuiltinCall,hk,hsplit]
 dsimp only [SJ,Tq]
 have LI:Looks (model prog w) hh (isInstance (.ref x) (.type "BaseException")) true:=L0.andThen L3
 refine QL (LI.at ?_)
 rw [if_neg (by decide)]
 refine RE (Q:=fun _ s1=>s1=⟨hh,g,d,t+1,os⟩) (E:=fun _ _=>False) ?_ (fun _ s1 e1=>?_) (fun _ _ z=>z.elim)
 ·repeat (any_goals (first | assumption | rfl | wp_step))
 subst e1
 unfold «object.__getattribute__»
 repeat (first | with_reducible refine UJ ?_ | lk)
 refine n6 X L0 k.mo ?_
 repeat lk
 exact h
theorem Bl (k:OD K C):PySem.W.KitX K (.ref x) (.ref C) (uX x C) where
 ty:=fun _ _ _ p=>wU p
 it:=fun _ _ X _=>by
  have hdct:∃ cd,U5 K C=some cd:=by
   obtain ⟨cd,h1,_⟩:=Wn.mp (show (U5 K C).bind _=some true from k.mo)
   exact ⟨cd,h1⟩
  obtain ⟨cdD,hcD⟩:=hdct
  unfold U5 at hcD
  split at hcD
  ·rename_i c' d' cd' sl' ho
   intro A' Q' E' s' k q
   unfold isType loadHead
   exact QL (wpAny_loadPart (k _ _ (X _ _ ho)) (QN q))
  ·cases hcD
 ne:=fun h tp dd its n sl X htp=>by
  obtain ⟨cdD,hcD,_⟩:=Wn.mp (show (U5 K C).bind _=some true from k.mo)
  refine Bool.eq_false_iff.mpr fun q=>?_
  have e:C=tp:=Rc.inj (beq_iff_eq.mp q)
  subst e
  unfold U5 at hcD
  split at hcD
  ·rename_i c' d' cd' sl' ho
   have z:=(X _ _ ho).symm.trans htp
   cases z
  ·cases hcD
 ca:=fun X p h=>yK X p k h
end
inductive yL (K:QM):D→Value→Prop where
 | non:yL K .non (.type "NoneType")
 | bl {x:Bool}:yL K (.bl x) (.type "bool")
 | int {i:Int}:yL K (.int i) (.type "int")
 | str {x:Str}:yL K (.str x) (.type "str")
 | lst {ds:List EV.D}:yL K (.lst ds) (.type "list")
 | tup {ds:List EV.D}:yL K (.tup ds) (.type "tuple")
 | exc {C:Addr} (k:OD K C):yL K (.exc C) (.ref C)
section
theorem Fz (I:Inv X aa σ H s) (sb:aM Hf H) (rx:RelV v u) (rd:Rep X.K Hf d v) (ty:yL X.K d t) (e:Sq X.K t cv=some b) (h:∀ tk,Q (.bool b) { s with toks:=tk }) :
 wpAny (model X.prog X.w) A (call (.builtin "isinstance") [u,cv]) Q E s:=by
 cases ty with
 | non=>rw [bO] at rd; subst rd; cases (show u=RW from rx); exact T8 PySem.W.kitx_none I.qb SX e (fun z=>nomatch z) h
 | bl=>rw [cP] at rd; subst rd; cases (show u=TN _ from rx); exact T8 PySem.W.kitx_bool I.qb SX e (fun z=>nomatch z) h
 | int=>rw [av] at rd; subst rd; obtain ⟨t,q⟩:=(show ∃ t,u=TU _ t from rx); cases q; exact T8 PySem.W.kitx_int I.qb SX e (fun z=>nomatch z) h
 | str=>rw [fS] at rd; subst rd; obtain ⟨t,q⟩:=(show ∃ t,u=Vg _ t from rx); cases q; exact T8 PySem.W.kitx_str I.qb SX e (fun z=>nomatch z) h
 | lst =>
  rw [aS] at rd
  obtain ⟨a,xs,rfl,h1,_⟩:=rd
  cases (show u=Rc a from rx)
  obtain ⟨its,_,p,_⟩:=I.list (sb.seq h1)
  obtain ⟨o,n1,p1,p2,_⟩:=p
  exact T8 PySem.W.kitx_list I.qb ⟨o,p1,p2⟩ e (fun z=>nomatch z) h
 | tup =>
  rw [aJ] at rd
  obtain ⟨a,xs,rfl,h1,_⟩:=rd
  cases (show u=Rc a from rx)
  obtain ⟨its,_,p,_⟩:=I.tuple (az sb h1)
  obtain ⟨o,p1,p2,_⟩:=p
  exact T8 PySem.W.kitx_tuple I.qb ⟨o,p1,p2⟩ e (fun z=>nomatch z) h
 | @exc C k =>
  rw [Fd] at rd
  obtain ⟨a,rfl,h1⟩:=rd
  cases (show u=Rc a from rx)
  have p:uX a C s.heap:=(show bw X.prog X.w H s.heap a (.ext (uX a C)) from I.hok a _ (sb _ _ h1)).1
  exact T8 (Bl k) I.qb p e (fun z=>nomatch z) h
end
section
variable {K:QM} {c:Ctx P w K mg base k N sc bk}
noncomputable def i9 (mg:Str→Option Value) (x:Str) (cv:Value):Prop:=(∃ C,cv=.ref C∧mg x=some (.ref C))∨(∃ T,cv=.type T∧mg x=none∧bootBuiltins x=some (.type T)∧x≠"__name__")
theorem yM:bootBuiltins "isinstance"=some (.builtin "isinstance"):=by decide +kernel
theorem qp (hm:mg "isinstance"=none) (hc:i9 mg x cv) (h:aH c e ρ fun d=>∃ t b,yL K d t∧Sq K t cv=some b∧R (.bl b))
 (hgi:sc.names.lookup (QK "isinstance")=some .globalImplicit:=by walk_at "u") (hgx:sc.names.lookup x=some .globalImplicit:=by walk_at "u") (hdx:(x == ("__debug__":Str))=false:=by decide)
 (he:∀ env,starEach [e,.Name x cp] env=(false,eval e env)::starEach [.Name x cp] env:=by intro _; walk_at "u") (he2:∀ env,starEach [.Name x cp] env=[(false,eval (.Name x cp) env)]:=by intro _; walk_at "u")
 (hpl:∀ env,(backTo pos (starEach [.Name x cp] env)).any (·.1)=false:=by intro _; walk_at "u"):aH c (.Call (.Name "isinstance" np) [e,.Name x cp] [] pos) ρ R:=fun σ H Hf Q S q aa s I=>by
 refine SG (cX I (by unfold Gl Rz; rw [c.esc]; exact hgi) (by rw [c.emg]; exact hm) yM ?_ (by decide) (by decide))
 have hx:∀ (s1:Shared) (H1:Hp) (Q':Value→Shared→Prop),Inv c.X aa σ H1 s1→Q' cv s1→wpAny (model c.X.prog c.X.w) c.X.A (eval (.Name x cp) c.X.env) Q' c.X.xe s1:=fun s1 H1 Q' I1 q'=>by
  rcases hc with ⟨C,rfl,hm'⟩ | ⟨T,rfl,hm',hb,hn⟩
  ·exact i6 I1 (by unfold Gl Rz; rw [c.esc]; exact hgx) (by rw [c.emg]; exact hm') q' hdx
  ·exact cX I1 (by unfold Gl Rz; rw [c.esc]; exact hgx) (by rw [c.emg]; exact hm') hb q' hn hdx
 refine Xl (spliced_more (h σ H Hf (fun v H1=>∃ d aP,(∃ t b,yL K d t∧Sq K t cv=some b∧R (.bl b))∧Rep c.X.K aP d v∧bu H Hf H1 aP) S (fun d v H' ai hR r g=>⟨d,ai,hR,r,g⟩) aa s I |> (bD · fun u s1 hh=>z2 hh fun v H1 hh=>w3 hh fun I1 rv hh=>z2 hh fun d aP hh=>w3 hh fun hh rd g=>z2 hh fun t b hh=>w3 hh fun ty ek hR=>?_)) (he _)) (he _) (hpl _)
 refine spliced_more (hx s1 H1 _ I1 (spliced_none ?_)) (he2 _)
 refine Fz I1 g.b rv rd (by rw [c.eK]; exact ty) (by rw [c.eK]; exact ek) fun tk=>?_
 exact ⟨.bl b,H1,I1.tok tk,rfl,q _ _ H1 aP hR (cP.mpr rfl) g⟩
end
section
variable {X:Cx}
theorem qt (I:Inv X aa σ H s) (sb:aM Hf H):∀ (n:Nat) (d e:D) (v:V),k9 n d e→Rep X.K Hf d v→Rep X.K Hf e v→d=e:=by
 intro n
 induction n with
 | zero =>
  intro d e v h r1 r2
  cases h with
  | sc h=>cases d <;> cases e <;> simp [kB] at h <;> simp_all [Rep]
  | ln=>rw [bO] at r2; subst r2; rw [aS] at r1; obtain ⟨_,_,e,_⟩:=r1; cases e
  | nl=>rw [bO] at r1; subst r1; rw [aS] at r2; obtain ⟨_,_,e,_⟩:=r2; cases e
  | tn=>rw [bO] at r2; subst r2; rw [aJ] at r1; obtain ⟨_,_,e,_⟩:=r1; cases e
  | nt=>rw [bO] at r1; subst r1; rw [aJ] at r2; obtain ⟨_,_,e,_⟩:=r2; cases e
 | succ n ih =>
  have els:∀ (ds es:List D) (xs:List V),(∀ (i:Nat) (d e:D),ds[i]?=some d→es[i]?=some e→k9 n d e)→ak X.K Hf ds xs→ak X.K Hf es xs→ds=es:=fun ds es xs h q1 q2=>by
   apply VG
   intro i
   cases a:ds[i]? with
   | none =>
    have:ds.length≤i:=by simpa using a
    symm
    rw [List.getElem?_eq_none_iff,q2.length,← q1.length]; exact this
   | some d =>
    obtain ⟨x,ex,rx⟩:=q1.get a
    obtain ⟨e,ee,re⟩:=q2.get' ex
    rw [ee,ih d e x (h i d e a ee) rx re]
  intro d e v h r1 r2
  cases h with
  | sc h=>cases d <;> cases e <;> simp [kB] at h <;> simp_all [Rep]
  | ln=>rw [bO] at r2; subst r2; rw [aS] at r1; obtain ⟨_,_,e,_⟩:=r1; cases e
  | nl=>rw [bO] at r1; subst r1; rw [aS] at r2; obtain ⟨_,_,e,_⟩:=r2; cases e
  | tn=>rw [bO] at r2; subst r2; rw [aJ] at r1; obtain ⟨_,_,e,_⟩:=r1; cases e
  | nt=>rw [bO] at r1; subst r1; rw [aJ] at r2; obtain ⟨_,_,e,_⟩:=r2; cases e
  | tup h =>
   rw [aJ] at r1 r2
   obtain ⟨a,xs,rfl,p1,q1⟩:=r1
   obtain ⟨a',ys,e',p2,q2⟩:=r2
   cases e'
   have:=I.gW (az sb p1) (az sb p2)
   subst this
   rw [els _ _ _ h q1 q2]
  | lst h =>
   rw [aS] at r1 r2
   obtain ⟨a,xs,rfl,p1,q1⟩:=r1
   obtain ⟨a',ys,e',p2,q2⟩:=r2
   cases e'
   have:=I.lJ (sb.seq p1) (sb.seq p2)
   subst this
   rw [els _ _ _ h q1 q2]
theorem qu {α:Type} [BEq α] [LawfulBEq α] {a b:α} {i:Decidable (a=b)}:(a == b)=@decide (a=b) i:=by
 by_cases h:a=b
 ·subst h; simp
 ·simp [h]
theorem all_range {ds es:List D} (hn:ds.length=n) (hm:es.length=m) (h:n=m):((Rt n).all fun j=>decide (ds[j]?=es[j]?))=decide (ds=es):=by
 rw [U3,List.all_eq_true]
 simp only [List.mem_range,decide_eq_true_eq]
 constructor
 ·intro q
  apply VG
  intro i
  by_cases hi:i<n
  ·exact q i hi
  ·rw [SO (by lia),SO (by lia)]
 ·rintro rfl; intro _ _; rfl
theorem wV (h:kB x y=true) (r1:Rep X.K Hf x v) (r2:Rep X.K Hf y v') (e1:RelV v u) (e2:RelV v' u'):Rl A s u u' (decide (x=y)):=by
 cases x <;> cases y <;> simp [kB] at h <;> simp only [av,cP,bO,fS] at r1 r2 <;> subst r1 <;> subst r2
 case non.non=>cases e1; cases e2; simpa using Rl.same _
 case non.bl b=>cases e1; cases e2; simpa using Rl.none_bool (A:=A) (s:=s) b
 case non.int i=>cases e1; obtain ⟨t,rfl⟩:=e2; simpa using Rl.none_int (A:=A) (s:=s) i t
 case non.str i=>cases e1; obtain ⟨t,rfl⟩:=e2; simpa using Rl.none_str (A:=A) (s:=s) i t
 case bl.non b=>cases e1; cases e2; simpa using Rl.bool_none (A:=A) (s:=s) b
 case bl.bl a b=>cases e1; cases e2; have q:=Rl.bool_bool (A:=A) (s:=s) a b; rw [qu (i:=inferInstance)] at q; simpa using q
 case bl.str a b=>cases e1; obtain ⟨t,rfl⟩:=e2; simpa using Rl.bool_str (A:=A) (s:=s) a b t
 case int.non a=>obtain ⟨t,rfl⟩:=e1; cases e2; simpa using Rl.int_none (A:=A) (s:=s) a t
 case int.int a b=>obtain ⟨t,rfl⟩:=e1; obtain ⟨t',rfl⟩:=e2; have q:=Rl.int_int (A:=A) (s:=s) a t b t'; rw [qu (i:=inferInstance)] at q; simpa using q
 case int.str a b=>obtain ⟨t,rfl⟩:=e1; obtain ⟨t',rfl⟩:=e2; simpa using Rl.int_str (A:=A) (s:=s) a t b t'
 case str.non a=>obtain ⟨t,rfl⟩:=e1; cases e2; simpa using Rl.str_none (A:=A) (s:=s) a t
 case str.bl a b=>obtain ⟨t,rfl⟩:=e1; cases e2; simpa using Rl.str_bool (A:=A) (s:=s) a t b
 case str.int a b=>obtain ⟨t,rfl⟩:=e1; obtain ⟨t',rfl⟩:=e2; simpa using Rl.str_int (A:=A) (s:=s) a t b t'
 case str.str a b=>obtain ⟨t,rfl⟩:=e1; obtain ⟨t',rfl⟩:=e2; have q:=Rl.str_str (A:=A) (s:=s) a t b t'; rw [qu (i:=inferInstance)] at q; simpa using q
theorem in1_units (A:Around):A.in1.units=A.units+1:=rfl
theorem wW:decide (D.tup ds=D.tup es)=decide (ds=es):=by simp
theorem lg:decide (D.lst ds=D.lst es)=decide (ds=es):=by simp
theorem qv (I:Inv X aa σ H s) {A:Around} (h:∀ (i:Nat) (d e:D),ds[i]?=some d→es[i]?=some e→k9 n d e)
 (ih:∀ (d e:D) (v v':V) (u u':Value) (A:Around),k9 n d e→Rep X.K Hf d v→Rep X.K Hf e v'→RelV v u→RelV v' u'→A.units+n<cLine→Rl A s u u' (decide (d=e)))
 (q1:ak X.K Hf ds xs) (q2:ak X.K Hf es ys) (r1:Vals xs us) (r2:Vals ys ws) (hu:A.in1.units+n<cLine) :
 ∀ j (h1:j<us.toArray.size) (h2:j<ws.toArray.size),Rl A.in1 s us.toArray[j] ws.toArray[j] (decide (ds[j]?=es[j]?)):=fun j h1 h2=>by
 have l1:=q1.length
 have l2:=q2.length
 have m1:=r1.length
 have m2:=r2.length
 simp only [Rb] at h1 h2
 have hd:ds[j]?=some ds[j]:=Ro (by lia)
 have he:es[j]?=some es[j]:=Ro (by lia)
 obtain ⟨x,ex,rx⟩:=q1.get hd
 obtain ⟨y,ey,ry⟩:=q2.get he
 obtain ⟨u,eu,ru⟩:=r1.get ex
 obtain ⟨u',eu',ru'⟩:=r2.get ey
 have z1:us.toArray[j]=u:=by
  have:=Ro h1
  rw [this] at eu
  simpa using eu
 have z2:ws.toArray[j]=u':=by
  have:=Ro h2
  rw [this] at eu'
  simpa using eu'
 rw [z1,z2,hd,he]
 have q:=ih _ _ x y u u' A.in1 (h j _ _ hd he) rx ry ru ru' hu
 simpa using q
theorem o8 (I:Inv X aa σ H s) (sb:aM Hf H):∀ (n:Nat) (d e:D) (v v':V) (u u':Value) (A:Around),k9 n d e→Rep X.K Hf d v→Rep X.K Hf e v'→RelV v u→RelV v' u'→A.units+n<cLine→Rl A s u u' (decide (d=e)):=by
 have non:∀ (n:Nat) (d e:D) (v v':V) (u u':Value) (A:Around),A.units<cLine→Rep X.K Hf d v→Rep X.K Hf e v'→RelV v u→RelV v' u' →
  ((∃ ds,d=.lst ds∧e=.non)∨(∃ ds,d=.non∧e=.lst ds)∨(∃ ds,d=.tup ds∧e=.non)∨(∃ ds,d=.non∧e=.tup ds))→Rl A s u u' (decide (d=e)):=by
  intro n d e v v' u u' A hu r1 r2 e1 e2 h
  rcases h with ⟨ds,rfl,rfl⟩ | ⟨ds,rfl,rfl⟩ | ⟨ds,rfl,rfl⟩ | ⟨ds,rfl,rfl⟩
  ·rw [bO] at r2; subst r2; rw [aS] at r1; obtain ⟨a,xs,rfl,p,_⟩:=r1; cases e1; cases e2
   obtain ⟨its,_,q,_⟩:=I.list (sb.seq p)
   simpa using Rl.list_none (A:=A) q.isList hu
  ·rw [bO] at r1; subst r1; rw [aS] at r2; obtain ⟨a,xs,rfl,p,_⟩:=r2; cases e1; cases e2
   obtain ⟨its,_,q,_⟩:=I.list (sb.seq p)
   simpa using Rl.none_list (A:=A) q.isList hu
  ·rw [bO] at r2; subst r2; rw [aJ] at r1; obtain ⟨a,xs,rfl,p,_⟩:=r1; cases e1; cases e2
   obtain ⟨its,_,q,_⟩:=I.tuple (az sb p)
   simpa using Rl.tuple_none (A:=A) (show s.heap.IsTuple a its.toArray from q) hu
  ·rw [bO] at r1; subst r1; rw [aJ] at r2; obtain ⟨a,xs,rfl,p,_⟩:=r2; cases e1; cases e2
   obtain ⟨its,_,q,_⟩:=I.tuple (az sb p)
   simpa using Rl.none_tuple (A:=A) (show s.heap.IsTuple a its.toArray from q) hu
 intro n
 induction n with
 | zero =>
  intro d e v v' u u' A h r1 r2 e1 e2 hu
  cases h with
  | sc h=>exact wV h r1 r2 e1 e2
  | ln=>exact non 0 _ _ _ _ _ _ A (by lia) r1 r2 e1 e2 (.inl ⟨_,rfl,rfl⟩)
  | nl=>exact non 0 _ _ _ _ _ _ A (by lia) r1 r2 e1 e2 (.inr (.inl ⟨_,rfl,rfl⟩))
  | tn=>exact non 0 _ _ _ _ _ _ A (by lia) r1 r2 e1 e2 (.inr (.inr (.inl ⟨_,rfl,rfl⟩)))
  | nt=>exact non 0 _ _ _ _ _ _ A (by lia) r1 r2 e1 e2 (.inr (.inr (.inr ⟨_,rfl,rfl⟩)))
 | succ n ih =>
  intro d e v v' u u' A h r1 r2 e1 e2 hu
  cases h with
  | sc h=>exact wV h r1 r2 e1 e2
  | ln=>exact non 0 _ _ _ _ _ _ A (by lia) r1 r2 e1 e2 (.inl ⟨_,rfl,rfl⟩)
  | nl=>exact non 0 _ _ _ _ _ _ A (by lia) r1 r2 e1 e2 (.inr (.inl ⟨_,rfl,rfl⟩))
  | tn=>exact non 0 _ _ _ _ _ _ A (by lia) r1 r2 e1 e2 (.inr (.inr (.inl ⟨_,rfl,rfl⟩)))
  | nt=>exact non 0 _ _ _ _ _ _ A (by lia) r1 r2 e1 e2 (.inr (.inr (.inr ⟨_,rfl,rfl⟩)))
  | @tup _ ds es h =>
   have hh:=k9.tup h
   have r1':=r1; have r2':=r2
   rw [aJ] at r1 r2
   obtain ⟨a,xs,rfl,p1,q1⟩:=r1
   obtain ⟨b,ys,rfl,p2,q2⟩:=r2
   cases e1; cases e2
   by_cases hab:a=b
   ·subst hab
    have:=qt I sb _ _ _ _ hh r1' r2'
    rw [this]
    simpa using Rl.same _
   ·obtain ⟨us,v1,t1,_⟩:=I.tuple (az sb p1)
    obtain ⟨ws,v2,t2,_⟩:=I.tuple (az sb p2)
    have key:=Ui.tuples (A:=A) (s:=s) (show s.heap.IsTuple a us.toArray from t1) (show s.heap.IsTuple b ws.toArray from t2) (by lia) (qv I h ih q1 q2 v1 v2 (by rw [in1_units]; lia))
    have hl1:us.toArray.size=ds.length:=by simp [← v1.length,q1.length]
    have hl2:ws.toArray.size=es.length:=by simp [← v2.length,q2.length]
    have e:((Rt (min us.toArray.size ws.toArray.size)).all (fun j=>decide (ds[j]?=es[j]?)) && us.toArray.size == ws.toArray.size)=decide (D.tup ds=D.tup es):=by
     rw [wW,hl1,hl2]
     by_cases hl:ds.length=es.length
     ·rw [hl,Nat.min_self]
      simp only [beq_self_eq_true,Bool.and_true]
      exact all_range hl rfl rfl
     ·have:¬ ds=es:=fun z=>hl (by rw [z])
      simp [hl,this]
    rw [e] at key
    exact .of_refs hab key
  | @lst _ ds es h =>
   have hh:=k9.lst h
   have r1':=r1; have r2':=r2
   rw [aS] at r1 r2
   obtain ⟨a,xs,rfl,p1,q1⟩:=r1
   obtain ⟨b,ys,rfl,p2,q2⟩:=r2
   cases e1; cases e2
   by_cases hab:a=b
   ·subst hab
    have:=qt I sb _ _ _ _ hh r1' r2'
    rw [this]
    simpa using Rl.same _
   ·obtain ⟨us,v1,t1,_⟩:=I.list (sb.seq p1)
    obtain ⟨ws,v2,t2,_⟩:=I.list (sb.seq p2)
    have hl1:us.toArray.size=ds.length:=by simp [← v1.length,q1.length]
    have hl2:ws.toArray.size=es.length:=by simp [← v2.length,q2.length]
    by_cases hl:ds.length=es.length
    ·have key:=Ui.lists (A:=A) (s:=s) t1.isList t2.isList (by rw [hl1,hl2,hl]) (by lia) (qv I h ih q1 q2 v1 v2 (by rw [in1_units]; lia))
     rw [hl1,all_range rfl hl.symm rfl,← lg] at key
     exact .of_refs hab key
    ·have key:=Ui.lists_lengths (A:=A) (s:=s) t1.isList t2.isList (by rw [hl1,hl2]; simpa using hl) (by lia)
     have e:decide (D.lst ds=D.lst es)=false:=by
      rw [lg]; exact decide_eq_false fun z=>hl (by rw [z])
     rw [e]
     exact .of_refs hab key
theorem r8 (I:Inv X aa σ H s) (sb:aM Hf H) (hu:A.units+50<cLine) (hk:(d=.tup ds∧e=.tup es)∨(d=.lst ds∧e=.lst es)) (h:nZ ds es)
 (r1:Rep X.K Hf d v) (r2:Rep X.K Hf e v') (e1:RelV v u) (e2:RelV v' u'):Ui A s u u' (decide (d=e))∧V6 A s u u' (!decide (d=e)):=by
 have ih:=o8 I sb 40
 rcases hk with ⟨rfl,rfl⟩ | ⟨rfl,rfl⟩
 ·rw [aJ] at r1 r2
  obtain ⟨a,xs,rfl,p1,q1⟩:=r1
  obtain ⟨b,ys,rfl,p2,q2⟩:=r2
  cases e1; cases e2
  obtain ⟨us,v1,t1,_⟩:=I.tuple (az sb p1)
  obtain ⟨ws,v2,t2,_⟩:=I.tuple (az sb p2)
  have els:=qv (A:=A) I h ih q1 q2 v1 v2 (by rw [in1_units]; lia)
  have key:=Ui.tuples (A:=A) (s:=s) (show s.heap.IsTuple a us.toArray from t1) (show s.heap.IsTuple b ws.toArray from t2) (by lia) els
  have key2:=V6.tuples (A:=A) (s:=s) (show s.heap.IsTuple a us.toArray from t1) (show s.heap.IsTuple b ws.toArray from t2) (by lia) els
  have hl1:us.toArray.size=ds.length:=by simp [← v1.length,q1.length]
  have hl2:ws.toArray.size=es.length:=by simp [← v2.length,q2.length]
  have e:((Rt (min us.toArray.size ws.toArray.size)).all (fun j=>decide (ds[j]?=es[j]?)) && us.toArray.size == ws.toArray.size)=decide (D.tup ds=D.tup es):=by
   rw [wW,hl1,hl2]
   by_cases hl:ds.length=es.length
   ·rw [hl,Nat.min_self]
    simp only [beq_self_eq_true,Bool.and_true]
    exact all_range hl rfl rfl
   ·have:¬ ds=es:=fun z=>hl (by rw [z])
    simp [hl,this]
  rw [e] at key key2
  exact ⟨key,key2⟩
 ·rw [aS] at r1 r2
  obtain ⟨a,xs,rfl,p1,q1⟩:=r1
  obtain ⟨b,ys,rfl,p2,q2⟩:=r2
  cases e1; cases e2
  obtain ⟨us,v1,t1,_⟩:=I.list (sb.seq p1)
  obtain ⟨ws,v2,t2,_⟩:=I.list (sb.seq p2)
  have hl1:us.toArray.size=ds.length:=by simp [← v1.length,q1.length]
  have hl2:ws.toArray.size=es.length:=by simp [← v2.length,q2.length]
  by_cases hl:ds.length=es.length
  ·have els:=qv (A:=A) I h ih q1 q2 v1 v2 (by rw [in1_units]; lia)
   have key:=Ui.lists (A:=A) (s:=s) t1.isList t2.isList (by rw [hl1,hl2,hl]) (by lia) els
   have key2:=V6.lists (A:=A) (s:=s) t1.isList t2.isList (by rw [hl1,hl2,hl]) (by lia) els
   rw [hl1,all_range rfl hl.symm rfl,← lg] at key key2
   exact ⟨key,key2⟩
  ·have key:=Ui.lists_lengths (A:=A) (s:=s) t1.isList t2.isList (by rw [hl1,hl2]; simpa using hl) (by lia)
   have key2:=V6.lists_lengths (A:=A) (s:=s) t1.isList t2.isList (by rw [hl1,hl2]; simpa using hl) (by lia)
   have e:decide (D.lst ds=D.lst es)=false:=by
    rw [lg]; exact decide_eq_false fun z=>hl (by rw [z])
   rw [e]
   exact ⟨key,key2⟩
end
section
variable {K:QM} {c:Ctx P w K mg base k N sc bk}
noncomputable def FA (K:QM) (neg:Bool):R2:=fun v u H Q=>∃ x y Hf,aM Hf H∧Rep K Hf x v∧Rep K Hf y u∧MC x y∧Q (.bl (if neg then !decide (x=y) else decide (x=y))) H
theorem Bm:fR c.X (compareOp .Eq) (FA c.X.K false):=fun aa s σ H v u v' u' Q I rv ru ⟨x,y,Hf,sb,rx,ry,ok,q⟩=>by
 rcases ok with h | ⟨ds,es,hk,hi⟩
 ·obtain ⟨z1,z2⟩:=wO h rx ry
  exact Mf aa s σ H v u v' u' Q I rv ru ⟨z1,by rw [z2]; exact q⟩
 ·exact (r8 I sb (by have:=c.room.un; lia) hk hi rx ry rv ru).1 _ _ _ _ ⟨.bl (decide (x=y)),H,I,rfl,q⟩
theorem JQ:fR c.X (compareOp .NotEq) (FA c.X.K true):=fun aa s σ H v u v' u' Q I rv ru ⟨x,y,Hf,sb,rx,ry,ok,q⟩=>by
 rcases ok with h | ⟨ds,es,hk,hi⟩
 ·obtain ⟨z1,z2⟩:=wO h rx ry
  exact Mg aa s σ H v u v' u' Q I rv ru ⟨z1,by rw [z2]; exact q⟩
 ·exact (r8 I sb (by have:=c.room.un; lia) hk hi rx ry rv ru).2 _ _ _ _ ⟨.bl (!decide (x=y)),H,I,rfl,q⟩
theorem Bo:Bf K (FA K false) fun x y R=>Ba x y R:=fun x y v u H Hf Q R s rx ry ⟨h1,h2⟩ q=>⟨x,y,Hf,s,rx,ry,h1,q _ h2⟩
theorem JR:Bf K (FA K true) fun x y R=>Ba x y fun b=>R (!b):=fun x y v u H Hf Q R s rx ry ⟨h1,h2⟩ q=>⟨x,y,Hf,s,rx,ry,h1,q _ h2⟩
theorem PD (h:aH c a ρ fun x=>aH c b ρ fun y=>Ba x y T):jL c (.Compare a [.Eq] [b] pos) ρ T:=wN Bm Bo h (lK b)
theorem PF (h:aH c a ρ fun x=>aH c b ρ fun y=>Ba x y fun b=>T (!b)):jL c (.Compare a [.NotEq] [b] pos) ρ T:=wN JQ JR h (lK b)
theorem PJ (h:aH c a ρ fun x=>aH c b ρ fun y=>Ba x y fun b=>R (.bl b)):aH c (.Compare a [.Eq] [b] pos) ρ R:=MK Bm Bo h (lK b)
end
section
variable {P:Program} {w:World} {K:QM} {mg:Str→Option Value} {base:Heap} {k:Nat} {N:List Str} {sc:Scope} {bk:Bool} {c:Ctx P w K mg base k N sc bk} {ρ:List Sl} {pos:Pos} {a b e:Expr} {es:List Expr} {R:D→Prop} {T:Bool→Prop}
noncomputable def D.row:D→Option (List D)
 | .lst ds=>some ds
 | .tup ds=>some ds
 | _=>none
theorem ja (e:d.row=some ds) (h:Rep K H d v):∃ p xs,v=.ref p∧ak K H ds xs∧((d=.lst ds∧gn K H p xs)∨(d=.tup ds∧dw K H p xs)):=by
 cases d with
 | lst _=>cases e; rw [aS] at h; obtain ⟨p,xs,rfl,h1,h2⟩:=h; exact ⟨p,xs,rfl,h2,.inl ⟨rfl,h1⟩⟩
 | tup _=>cases e; rw [aJ] at h; obtain ⟨p,xs,rfl,h1,h2⟩:=h; exact ⟨p,xs,rfl,h2,.inr ⟨rfl,h1⟩⟩
 | _=>cases e
noncomputable def LN (x y:D) (R:D→Prop):Prop:=∃ ds i d,x.row=some ds∧y=.int i∧kr ds i=some d∧R d
theorem o9 (h:kr ds i=some d) (hR:R d):LN (.lst ds) (.int i) R:=⟨ds,i,d,rfl,rfl,h,hR⟩
theorem r9 (h:kr ds i=some d) (hR:R d):LN (.tup ds) (.int i) R:=⟨ds,i,d,rfl,rfl,h,hR⟩
theorem Bp (h:ak K H ds xs) (e:kr ds i=some d):∃ x,kr xs i=some x∧Rep K H d x:=by
 unfold kr at e ⊢
 rw [← h.length]
 obtain ⟨j,e1,e2⟩:=Wn.mp e
 obtain ⟨x,e3,rx⟩:=h.get e2
 exact ⟨x,by rw [e1]; exact e3,rx⟩
theorem MZ (h:aH c a ρ fun x=>aH c b ρ fun y=>LN x y R) (hs:kZ b:=by intro _ _; walk_at "u"):aH c (.Subscript a b pos) ρ R:=fun σ H Hf Q S q =>
 bM (Mp (Hy.or E2 Ju) cW cW hs) (h σ H Hf _ S fun x v H1 aP h1 r1 g1=>h1 σ H1 aP _ (S.cE g1) fun y u H2 cK ⟨ds,i,d,e1,e2,e3,hR⟩ r2 g2=>by
  subst e2
  rw [av] at r2; subst r2
  obtain ⟨p,xs,rfl,hr,hk⟩:=ja e1 (Rep.mono g2.f x r1)
  obtain ⟨z,ez,rz⟩:=Bp hr e3
  have fin:=q d z H2 cK hR rz (g1.trans g2)
  rcases hk with ⟨_,hk⟩ | ⟨_,hk⟩
  ·exact .inl ⟨p,xs,i,z,rfl,rfl,g2.b.seq hk,ez,fin⟩
  ·exact .inr ⟨p,xs,i,z,rfl,rfl,az g2.b hk,ez,fin⟩)
theorem wX (sb:aM Hf H) {d:D} (h:(d=.lst ds∧gn K Hf p xs)∨(d=.tup ds∧dw K Hf p xs)):gn K H p xs∨dw K H p xs:=h.elim (fun z=>.inl (sb.seq z.2)) fun z=>.inr (az sb z.2)
theorem Bq:yJ K (fun xs H Q=>∃ p ys,xs=[.ref p]∧(gn K H p ys∨dw K H p ys)∧Q (.int ys.length) H) (fun ds R=>∃ x,ds=[x]∧∃ ys,x.row=some ys∧R (.int ys.length)):=by
 rintro ds vs H Hf Q R s rs ⟨x,rfl,ys,e,hR⟩ q
 obtain ⟨v,rfl,rv⟩:=lW rs
 obtain ⟨p,xs,rfl,hr,hk⟩:=ja e rv
 exact ⟨p,xs,rfl,wX s hk,q _ _ H Hf hR (by rw [hr.length]; exact av.mpr rfl) (.refl s)⟩
theorem e_len (hm:mg "len"=none) (h:aH c e ρ fun x=>∃ ys,x.row=some ys∧R (.int ys.length)) (hg:sc.names.lookup (QK "len")=some .globalImplicit:=by walk_at "u")
 (he:∀ env,starEach [e] env=(false,eval e env)::starEach [] env:=by intro _; walk_at "u"):aH c (.Call (.Name "len" p) [e] [] pos) ρ R :=
 o7 qi Bq hm PySem.boot_len (bx (h.imp fun d hd=>fJ ⟨d,rfl,hd⟩) he) hg (by decide) (by decide) he (by intro _; walk_at "u")
theorem Br {R:Sl→Prop} (hm:mg "list"=none) (h:aH c e ρ fun x=>∃ ys,x.row=some ys∧R (.ow ys)) (hg:sc.names.lookup (QK "list")=some .globalImplicit:=by walk_at "u")
 (he:∀ env,starEach [e] env=(false,eval e env)::starEach [] env:=by intro _; walk_at "u"):dz c (.Call (.Name "list" p) [e] [] pos) ρ R :=
 MW qj (q:=fun ds R=>∃ x ys,ds=[x]∧x.row=some ys∧R (.ow ys)) (fun ds vs H Hf Q R s rs ⟨x,ys,e1,e2,hR⟩ q=>by
  subst e1
  obtain ⟨v,rfl,rv⟩:=lW rs
  obtain ⟨p,xs,rfl,hr,hk⟩:=ja e2 rv
  exact ⟨p,xs,rfl,wX s hk,fun l hl=>by
   have g2:=bu.gp s hl (o:=.lst xs)
   exact q _ _ _ _ hR ⟨l,xs,rfl,hl,ah,s.free hl,hr⟩ g2⟩) hm PyProof.Rows.boot_list (bx (h.imp fun d ⟨ys,h1,h2⟩=>fJ ⟨d,ys,rfl,h1,h2⟩) he) hg (by decide) (by decide) he (by intro _; walk_at "u")
theorem wY (hm:mg "tuple"=none) (h:aH c e ρ fun x=>∃ ys,x.row=some ys∧R (.tup ys)) (hg:sc.names.lookup (QK "tuple")=some .globalImplicit:=by walk_at "u")
 (he:∀ env,starEach [e] env=(false,eval e env)::starEach [] env:=by intro _; walk_at "u"):aH c (.Call (.Name "tuple" p) [e] [] pos) ρ R :=
 MX nW (q:=fun ds R=>∃ x ys,ds=[x]∧x.row=some ys∧R (.tup ys)) (fun ds vs H Hf Q R s rs ⟨x,ys,e1,e2,hR⟩ q=>by
  subst e1
  obtain ⟨v,rfl,rv⟩:=lW rs
  obtain ⟨p,xs,rfl,hr,hk⟩:=ja e2 rv
  rcases hk with ⟨_,hk⟩ | ⟨_,hk⟩
  ·exact ⟨p,xs,rfl,.inl ⟨s.seq hk,fun l hl=>by
    have g2:=bu.new s hl (o:=.tup xs)
    exact q _ _ _ _ hR (aJ.mpr ⟨l,xs,rfl,.inl (.inl ah),hr.mono g2.f⟩) g2⟩⟩
  ·exact ⟨p,xs,rfl,.inr ⟨az s hk,q _ _ H Hf hR (aJ.mpr ⟨p,xs,rfl,hk,hr⟩) (.refl s)⟩⟩) hm PyProof.Rows.boot_tuple (bx (h.imp fun d ⟨ys,h1,h2⟩=>fJ ⟨d,ys,rfl,h1,h2⟩) he) hg (by decide) (by decide) he (by intro _; walk_at "u")
noncomputable def HF (K:QM):R2:=fun x y H Q=>∃ l b xs zs,x=.ref l∧y=.ref b∧gn K H l xs∧gn K H b zs∧xs.length+zs.length≤sizeLine∧∀ p,H p=none→Q (.ref p) (upd H p (.lst (xs++zs)))
theorem FD:fR X (binaryOp .Add) (HF X.K):=by
 intro aa s σ H x y v u Q I rx ry h
 obtain ⟨l,b,xs,zs,rfl,rfl,hH,hB,hz,q⟩:=h
 cases rx
 cases ry
 obtain ⟨its,r,hl,z⟩:=I.list hH
 obtain ⟨its2,r2,hl2,z2⟩:=I.list hB
 have e1:=r.length
 have e2:=r2.length
 obtain ⟨⟨cls,dd,data,sl⟩,n,p1,p2,p3,p4⟩:=hl
 obtain ⟨⟨cls2,dd2,data2,sl2⟩,n',q1,q2,q3,q4⟩:=hl2
 simp only at p2 p3 p4 q2 q3 q4
 subst p2 p3 p4 q2 q3 q4
 have ea:its.toArray++its2.toArray=(its++its2).toArray:=by simp
 refine V5 ⟨_,p1,rfl⟩ ⟨_,q1,rfl⟩ noFill_list_add seq_list_add PySem.F.slot_list_add PySem.F.entry_list_add (PySem.F.args_list_add_2 _ _) (list_addW l b its.toArray its2.toArray n n' none none sl sl2 (by simp; lia)) ⟨p1,q1,?_⟩
 rw [ea]
 exact ⟨.ref _,_,I.E4 (t':=s.toks) (r.append r2) (by rw [Rr]; lia),rfl,q _ I.fresh⟩
noncomputable def Bt (K:QM):R2:=fun x y H Q=>∃ a b xs ys,x=.ref a∧y=.ref b∧dw K H a xs∧dw K H b ys∧xs.length+ys.length≤sizeLine ∧
 (xs=[]→Q (.ref b) H)∧(ys=[]→Q (.ref a) H)∧∀ p,H p=none→Q (.ref p) (upd H p (.tup (xs++ys)))
theorem Bu:fR X (binaryOp .Add) (Bt X.K):=by
 intro aa s σ H x y v u Q I rx ry h
 obtain ⟨t,b,xs,ys,rfl,rfl,hH,hB,hz,c1,c2,q⟩:=h
 cases rx
 cases ry
 obtain ⟨vs,r,ht,z⟩:=I.tuple hH
 obtain ⟨ws,r2,hb,z2⟩:=I.tuple hB
 obtain ⟨⟨cls,dd,data,sl⟩,ho,hc,n,hd⟩:=id ht
 obtain ⟨⟨cls2,dd2,data2,sl2⟩,ho2,hc2,n2,hd2⟩:=id hb
 simp only at hc hd hc2 hd2
 subst hc hd hc2 hd2
 have e:vs.toArray++ws.toArray=(vs++ws).toArray:=by simp
 have e1:=r.length
 have e2:=r2.length
 by_cases hv:vs=[]
 ·exact V5 ⟨_,ho,rfl⟩ ⟨_,ho2,rfl⟩ W6 seq_tuple_add Ws Wm (Wi _ _)
   (tuple_addW0 t b vs.toArray ws.toArray n n2 dd dd2 sl sl2 (by simp [hv])) ⟨ho,ho2,⟨.ref b,H,I,rfl,c1 (by rw [Vals.wJ r] at hv; exact hv)⟩⟩
 ·by_cases hw:ws=[]
  ·exact V5 ⟨_,ho,rfl⟩ ⟨_,ho2,rfl⟩ W6 seq_tuple_add Ws Wm (Wi _ _)
    (tuple_addW1 t b vs.toArray ws.toArray n n2 dd dd2 sl sl2 (by simpa using hv) (by simp [hw])) ⟨ho,ho2,⟨.ref t,H,I,rfl,c2 (by rw [Vals.wJ r2] at hw; exact hw)⟩⟩
  ·refine V5 ⟨_,ho,rfl⟩ ⟨_,ho2,rfl⟩ W6 seq_tuple_add Ws Wm (Wi _ _)
    (tuple_addW2 t b vs.toArray ws.toArray n n2 dd dd2 sl sl2 (by simpa using hv) (by simpa using hw) (by rw [Rb,Rb]; lia)) ⟨ho,ho2,?_⟩
   rw [e]
   refine ⟨.ref s.heap.objs.size,_,I.laid (t':=s.toks) (o:=.tup (xs++ys)) (fun b ob q=>QV _ q) (QS _) ?_,rfl,q _ (I.hok.fresh (QS _))⟩
   exact ⟨by rw [Rr]; exact hz,_,r.append r2,IsTup.new _ _⟩
inductive lX:D→D→(Sl→Prop)→Prop where
 | int {i j:Int} {R:Sl→Prop} (h:R (.va (.int (i+j)))):lX (.int i) (.int j) R
 | lst {ds es:List D} {R:Sl→Prop} (h:Sd (ds.length+es.length≤sizeLine) (R (.ow (ds++es)))):lX (.lst ds) (.lst es) R
 | tup {ds es:List D} {R:Sl→Prop} (h:Sd (ds.length+es.length≤sizeLine) (R (.va (.tup (ds++es))))):lX (.tup ds) (.tup es) R
 | str {x y:Str} {R:Sl→Prop} (h:Sd (x.length+y.length≤sizeLine) (R (.va (.str (x++y))))):lX (.str x) (.str y) R
theorem kC (h:ak K H ds []):ds=[]:=by
 have:=h.length; cases ds with
 | nil=>rfl
 | cons _ _=>simp at this
theorem FE:OC K (fun x y H Q=>(((yz fun i j=>V.int (i+j)) x y H Q∨HF K x y H Q)∨Bt K x y H Q)∨∃ i j,x=.str i∧y=.str j∧i.length+j.length≤sizeLine∧Q (.str (i++j)) H) lX:=by
 rintro x y v u H Hf Q R s rx ry h q
 cases h with
 | @int i j _ h =>
  rw [av] at rx ry
  exact .inl (.inl (.inl ⟨i,j,rx,ry,q (.va (.int (i+j))) _ H Hf h (show Rep K Hf (.int (i+j)) _ from av.mpr rfl) (.refl s)⟩))
 | @lst ds es _ h =>
  rw [aS] at rx ry
  obtain ⟨a,xs,rfl,h1,h2⟩:=rx
  obtain ⟨b,ys,rfl,h3,h4⟩:=ry
  refine .inl (.inl (.inr ⟨a,b,xs,ys,rfl,rfl,s.seq h1,s.seq h3,by rw [← h2.length,← h4.length]; exact h.s,fun p hp=>?_⟩))
  exact q (.ow (ds++es)) _ _ _ h.r ⟨p,xs++ys,rfl,hp,ah,s.free hp,h2.append h4⟩ (bu.gp s hp)
 | @tup ds es _ h =>
  rw [aJ] at rx ry
  obtain ⟨a,xs,rfl,h1,h2⟩:=rx
  obtain ⟨b,ys,rfl,h3,h4⟩:=ry
  refine .inl (.inr ⟨a,b,xs,ys,rfl,rfl,az s h1,az s h3,by rw [← h2.length,← h4.length]; exact h.s,fun e=>?_,fun e=>?_,fun p hp=>?_⟩)
  ·subst e
   have:=kC h2
   subst this
   exact q (.va (.tup ([]++es))) _ H Hf h.r (show Rep K Hf (.tup ([]++es)) _ from aJ.mpr ⟨b,ys,rfl,h3,h4⟩) (.refl s)
  ·subst e
   have:=kC h4
   subst this
   exact q (.va (.tup (ds++[]))) _ H Hf h.r (show Rep K Hf (.tup (ds++[])) _ from aJ.mpr ⟨a,xs,rfl,h1,by rw [Ru]; exact h2⟩) (.refl s)
  ·have g:=bu.new s hp (o:=.tup (xs++ys))
   exact q (.va (.tup (ds++es))) _ _ _ h.r (show Rep K _ (.tup (ds++es)) _ from aJ.mpr ⟨p,xs++ys,rfl,.inl (.inl ah),(h2.append h4).mono g.f⟩) g
 | @str x y _ h =>
  rw [fS] at rx ry
  exact .inr ⟨x,y,rx,ry,h.s,q (.va (.str (x++y))) _ H Hf h.r (show Rep K Hf (.str (x++y)) _ from fS.mpr rfl) (.refl s)⟩
theorem HG {R:Sl→Prop} (h:aH c a ρ fun x=>aH c b ρ fun y=>lX x y R):dz c (.BinOp a .Add b pos) ρ R :=
 nY (fR.or (fR.or (fR.or Jh FD) Bu) uR) FE h
noncomputable def cutD {α:Type} (xs:List α) (lo hi:Option Int):List α:=(xs.drop (HT.cj xs.length 0 lo)).take (HT.cj xs.length xs.length hi - HT.cj xs.length 0 lo)
theorem sd (h:ak K H ds xs) (lo hi):ak K H (cutD ds lo hi) (qg xs lo hi):=by
 unfold cutD qg
 rw [h.length]
 exact (h.drop _).take _
noncomputable def bP (X:Cx) (e:Option Expr):TO:=fun σ H Q=>∀ aa s,Inv X aa σ H s→wpAny (model X.prog X.w) X.A (evalPart e X.env) (fun u s'=>∃ o H',Inv X aa σ H' s'∧IsPart u o∧Q o H') X.xe s
theorem M0 {X:Cx} {e:Option Expr}:PO X e (bP X e):=fun aa s σ H Q I h=>h aa s I
noncomputable def EG (c:Ctx P w K mg base k N sc bk) (e:Option Expr) (ρ:List Sl) (R:Option Int→Prop):Prop :=
 ∀ (σ:L2.St) (H Hf:Hp) (Q:Option Int→Hp→Prop),bC c σ H Hf ρ→(∀ o H' ai,R o→bu H Hf H' ai→Q o H')→bP c.X e σ H Q
theorem JS {R:Option Int→Prop} (h:R none):EG c none ρ R:=fun σ H Hf Q S q aa s I=>EZ aa s σ H Q I (q none H Hf h (.refl S.sb))
theorem JT {R:Option Int→Prop} (h:aH c e ρ (I1 fun i=>R (some i))):EG c (some e) ρ R:=fun σ H Hf Q S q aa s I =>
 E0 cW aa s σ H Q I (h σ H Hf _ S fun d v H' ai ⟨i,e,hR⟩ r g=>by subst e; rw [av] at r; exact ⟨i,r,q _ H' ai hR g⟩)
noncomputable def M3 (K:QM):V→Option Int→Option Int→Hp→VK→Prop:=fun x lo hi H Q=>∃ a xs,x=.ref a∧dw K H a xs ∧
 (HT.cj xs.length 0 lo=0∧HT.cj xs.length xs.length hi=xs.length)∧Q (.ref a) H
theorem iw {lo hi:Option Int} (ht:IsTup s.heap t items) (hs:s.heap.IsSliceOf sl vl vu .none) (pl:IsPart vl lo) (pu:IsPart vu hi)
 (hw:HT.cj items.size 0 lo=0∧HT.cj items.size items.size hi=items.size) (h:Q (.ref t) s):wpAny (model prog w) A (getItem (.ref t) (.ref sl)) Q E s:=by
 obtain ⟨os,hos,hcs,hds⟩:=id hs
 have hTs:s.TypeIs (.ref sl) "slice":=⟨os,hos,hcs⟩
 unfold getItem
 try with_reducible refine Sf ?_
 first | refine QL (QN ?_) | skip
 refine QL (WN ht.typeIs (by decide) ?_)
 refine QL (SN (name:=QK "__getitem__") ht.typeIs Ul
  (Sk Ul ht.typeIs entry_tuple_getitem ?_ (args_tuple_getitem _ _)))
 show wpAny _ _ (Builtin.Tuple.tupleItemsOf (.ref t) >>= _) _ _ s
 refine QL (tupleItemsOf_ ht ?_)
 refine QL (Tz hTs ?_)
 rw [if_pos (by decide)]
 refine QL (HT.fF hs pl pu ?_)
 have hyes:((((HT.cj items.size 0 lo:Nat):Int) == 0 && (1:Int) == 1 && (HT.cj items.size items.size hi - HT.cj items.size 0 lo) == items.size)=true):=by
  rw [hw.1,hw.2]; simp
 show wpAny _ _ (if (((HT.cj items.size 0 lo:Nat):Int) == 0 && (1:Int) == 1 && (HT.cj items.size items.size hi - HT.cj items.size 0 lo) == items.size)=true then _ else _) _ _ s
 rw [if_pos hyes]
 obtain ⟨⟨cls,dd,data,sl'⟩,ho,hc,n,hd⟩:=id ht
 simp only at hc hd
 subst hc hd
 unfold Builtin.Tuple.tupleIsExact
 wp_walk using Vq ho
 exact ⟨_,rfl,QN h⟩
theorem Bv:EF X (M3 X.K):=by
 intro aa s σ H x v vl vu lo hi sl Q I rx hs pl pu h
 obtain ⟨a,xs,rfl,hx,hw,q⟩:=h
 cases rx
 obtain ⟨its,r,ht,hz⟩:=I.tuple hx
 have hlen:its.toArray.size=xs.length:=by rw [Rb]; exact r.length.symm
 refine ⟨"tuple",_,Ul.lookup,ht.typeIs,?_⟩
 exact iw ht hs pl pu (by rw [hlen]; exact hw) ⟨.ref a,H,I,rfl,q⟩
inductive JU:D→Option Int→Option Int→(Sl→Prop)→Prop where
 | lst {ds:List D} {lo hi:Option Int} {R:Sl→Prop} (h:R (.ow (cutD ds lo hi))):JU (.lst ds) lo hi R
 | tup {ds:List D} {lo hi:Option Int} {R:Sl→Prop} (h:R (.va (.tup (cutD ds lo hi)))):JU (.tup ds) lo hi R
theorem yN {lo hi:Option Int} (h:HT.cj xs.length 0 lo=0∧HT.cj xs.length xs.length hi=xs.length):cutD xs lo hi=xs:=by
 unfold cutD; rw [h.1,h.2]; simp
theorem wZ {lo hi:Option Expr} {R:Sl→Prop} (h:aH c e ρ fun x=>EG c lo ρ fun l=>EG c hi ρ fun u=>JU x l u R):dz c (.Subscript e (.Slice lo hi none p2) pos) ρ R:=fun σ H Hf Q S q =>
 bM (AU (EF.or (EF.or E3 Jt) Bv) cW M0 M0) (h σ H Hf _ S fun x v H1 aP h1 r1 g1=>h1 σ H1 aP _ (S.cE g1) fun l H2 cK h2 g2=>h2 σ H2 cK _ (S.cE (g1.trans g2)) fun u H3 Hf3 h3 g3=>by
  have r3:=Rep.mono g3.f x (Rep.mono g2.f x r1)
  have g:=(g1.trans g2).trans g3
  cases h3 with
  | lst h =>
   rw [aS] at r3
   obtain ⟨a,xs,rfl,k1,k2⟩:=r3
   refine .inl (.inl ⟨a,xs,rfl,g3.b.seq k1,fun p hp=>?_⟩)
   exact q _ _ _ _ h ⟨p,_,rfl,g.s.free hp,ah,g3.b.free hp,sd k2 l u⟩ (g.trans (bu.gp g3.b hp))
  | tup h =>
   rw [aJ] at r3
   obtain ⟨a,xs,rfl,k1,k2⟩:=r3
   by_cases hw:HT.cj xs.length 0 l=0∧HT.cj xs.length xs.length u=xs.length
   ·refine .inr ⟨a,xs,rfl,az g3.b k1,hw,?_⟩
    refine q _ _ _ _ h (show Rep c.X.K Hf3 _ _ from aJ.mpr ⟨a,xs,rfl,k1,?_⟩) g
    rw [yN (by rw [k2.length]; exact hw)]; exact k2
   ·refine .inl (.inr ⟨a,xs,rfl,az g3.b k1,hw,fun p hp=>?_⟩)
    have g4:=bu.new g3.b hp (o:=.tup (qg xs l u))
    exact q _ _ _ _ h (show Rep c.X.K _ _ _ from aJ.mpr ⟨p,_,rfl,.inl (.inl ah),(sd k2 l u).mono g4.f⟩) (g.trans g4))
theorem Bw (a:bu H₀ dS H1 aP) (b:bu H₀ aP H Hf):bu H₀ dS H Hf :=
 ⟨b.s,a.f.trans b.f,b.b,fun c h1 h2 h3=>b.n c (a.n c h1 h2 h3) h2 h3⟩
theorem c6.re (a:bu H₀ dS H1 aP) (S:c6 K H₀ aP σ H Hf ρ):c6 K H₀ dS σ H Hf ρ:=⟨Bw a S.bas,S.len,S.at_,S.sep⟩
theorem c6.anew (S:c6 K H₀ dS σ H Hf ρ):c6 K H₀ Hf σ H Hf ρ:=⟨⟨S.bas.s,.refl _,S.bas.b,fun _ h _ _=>h⟩,S.len,S.at_,S.sep⟩
noncomputable def Ctx.at_ (c:Ctx P w K mg base k N sc bk) {H1 aP:Hp} (a:bu c.B c.Hf H1 aP):Ctx P w K mg base k N sc bk :=
 { X:=c.X,eP:=c.eP,ew:=c.ew,eK:=c.eK,emg:=c.emg,eb:=c.eb,eN:=c.eN,esc:=c.esc,calm:=c.calm,top:=c.top,cb:=c.cb,fn:=c.fn,room:=c.room,nd:=c.nd,vis:=c.vis,B:=c.B,Hf:=aP,RX:=c.RX,RM:=c.RM,
   exc:=fun C x aa σ H ai ρ s H' s' I S h X sm=>c.exc C x aa σ H ai ρ s H' s' I (S.re a) h X sm,mde:=fun C x aa σ H ai ρ s h' us I S h hx=>c.mde C x aa σ H ai ρ s h' us I (S.re a) h hx }
theorem lU.at_ {nx:List Sl→Prop} {p:Pt} {D:Ends} {H1 aP:Hp} (a:bu c.B c.Hf H1 aP) (o:lU c nx p D):lU (c.at_ a) nx p D :=
 ⟨fun σ H Hf ρ S q=>o.nx σ H Hf ρ (c6.re a S) q,fun r v H Hf g rv q=>o.rt r v H Hf (Bw a g) rv q,fun σ H Hf ρ S q=>o.bk σ H Hf ρ (c6.re a S) q,fun σ H Hf ρ S q=>o.ct σ H Hf ρ (c6.re a S) q⟩
noncomputable def bI (X:Cx) (tg iter:Expr):TI:=fun σ H R=>∀ aa s,Inv X aa σ H s→wpAny (model X.prog X.w) X.A (eval iter X.env) (fun v s1=>wpAny (model X.prog X.w) X.A (pyIter v) (O5 X aa σ tg R) X.xe s1) X.xe s
theorem QG {X:Cx} {tg iter:Expr}:PI X tg iter (bI X tg iter):=fun aa s σ H R I h=>h aa s I
structure jM (K:QM) (J:It) (ds:List D) (dS:Hp):Prop where
 go:∀ i d H Hf,aM dS Hf→aM Hf H→ds[i]?=some d→J.go i H∧∀ x H',J.yld i H x H'→∃ ai,bu H Hf H' ai∧Rep K ai d x
 stop:∀ i H Hf,aM dS Hf→aM Hf H→ds.length≤i→J.stop i H
noncomputable def yO (c:Ctx P w K mg base k N sc bk) (tg iter:Expr) (ρ:List Sl) (R:List D→Prop):Prop :=
 ∀ (σ:L2.St) (H Hf:Hp) (Q:It→Hp→Prop),bC c σ H Hf ρ→(∀ ds J H' ai,R ds→bu H Hf H' ai→jM c.X.K J ds ai→Q J H')→bI c.X tg iter σ H Q
theorem yP {K:QM} {ds:List D} {xs:List V} {p:Addr} {dS:Hp} (h:gn K dS p xs) (r:ak K dS ds xs):jM K (O6 K p) ds dS where
 go:=fun i d H Hf s1 s2 e=>by
  obtain ⟨x,ex,rx⟩:=r.get e
  refine ⟨⟨xs,x,(s1.trans s2).seq h,ex⟩,fun y H' ⟨e1,e2⟩=>?_⟩
  subst e1
  have:=e2 xs ((s1.trans s2).seq h)
  rw [ex] at this; cases this
  exact ⟨Hf,.refl s2,Rep.mono s1 d rx⟩
 stop:=fun i H Hf s1 s2 e=>⟨xs,(s1.trans s2).seq h,by rw [← r.length]; exact e⟩
theorem Bx {K:QM} {ds:List D} {xs:List V} {p:Addr} {dS:Hp} (h:dw K dS p xs) (r:ak K dS ds xs):jM K (O7 K p) ds dS where
 go:=fun i d H Hf s1 s2 e=>by
  obtain ⟨x,ex,rx⟩:=r.get e
  refine ⟨⟨xs,x,az (s1.trans s2) h,ex⟩,fun y H' ⟨e1,e2⟩=>?_⟩
  subst e1
  have:=e2 xs (az (s1.trans s2) h)
  rw [ex] at this; cases this
  exact ⟨Hf,.refl s2,Rep.mono s1 d rx⟩
 stop:=fun i H Hf s1 s2 e=>⟨xs,az (s1.trans s2) h,by rw [← r.length]; exact e⟩
noncomputable def PK (K:QM) (tl:TE):TI:=fun σ H R=>tl σ H fun x H1=>∃ a,x=.ref a∧(((∃ xs,gn K H1 a xs)∧R (O6 K a) H1)∨((∃ xs,dw K H1 a xs)∧R (O7 K a) H1))
theorem JV (hl:PE X l tl):PI X tg l (PK X.K tl):=by
 intro aa s σ H R I h
 refine bD (hl aa s σ H _ I h) fun v s1 ⟨x,H1,I1,r1,q1⟩=>?_
 obtain ⟨a,e,h⟩:=q1
 subst e
 cases r1
 rcases h with ⟨⟨xs,hq⟩,q⟩ | ⟨⟨xs,hq⟩,q⟩
 ·obtain ⟨its,rv,p,hz⟩:=I1.list hq
  refine T4 p.isList ?_
  refine ⟨s1.heap.objs.size,[s1.heap.objs.size],_,_,H1,rfl,I1.kept (t':=s1.toks) fun b o e=>QV _ e,yw a _,⟨_,Q5 _ rfl,rfl,rfl⟩,fun b hb=>?_,q⟩
  have e:b=s1.heap.objs.size:=by simpa using hb
  subst e
  exact I1.nR (QS _) (I1.hok.fresh (QS _))
 ·obtain ⟨its,rv,p,hz⟩:=I1.tuple hq
  refine WE (show s1.heap.IsTuple a its.toArray from p) ?_
  refine ⟨s1.heap.objs.size,[s1.heap.objs.size],_,_,H1,rfl,I1.kept (t':=s1.toks) fun b o e=>QV _ e,uO a _,⟨_,Q5 _ rfl,rfl,rfl⟩,fun b hb=>?_,q⟩
  have e:b=s1.heap.objs.size:=by simpa using hb
  subst e
  exact I1.nR (QS _) (I1.hok.fresh (QS _))
theorem cL {R:List D→Prop} (h:aH c e ρ fun d=>∃ ds,d.row=some ds∧R ds):yO c tg e ρ R:=fun σ H Hf Q S q aa s I =>
 JV cW aa s σ H Q I (h σ H Hf _ S fun d v H' ai ⟨ds,er,hR⟩ r g=>by
  obtain ⟨p,xs,rfl,hr,hk⟩:=ja er r
  refine ⟨p,rfl,?_⟩
  rcases hk with ⟨_,hk⟩ | ⟨_,hk⟩
  ·exact .inl ⟨⟨xs,g.b.seq hk⟩,q ds _ H' ai hR g (yP hk hr)⟩
  ·exact .inr ⟨⟨xs,az g.b hk⟩,q ds _ H' ai hR g (Bx hk hr)⟩)
noncomputable def n8 (lo:Int) (n:Nat):List D:=(Rt n).map fun (i:Nat)=>D.int (lo+(i:Int))
theorem By {K:QM} {lo:Int} {n:Nat} {dS:Hp}:jM K (OA lo n) (n8 lo n) dS where
 go:=fun i d H Hf s1 s2 e=>by
  unfold n8 at e
  rw [Q3] at e
  obtain ⟨j,e1,e2⟩:=Q7.mp e
  have hi:i<n:=by
   have:=(Q2.mp e1).1
   simpa using this
  have:j=i:=by
   rw [US hi] at e1; cases e1; rfl
  subst this
  refine ⟨hi,fun x H' ⟨e3,e4⟩=>?_⟩
  subst e3 e4 e2
  exact ⟨Hf,.refl s2,av.mpr rfl⟩
 stop:=fun i H Hf s1 s2 e=>by
  show n≤i
  simpa [n8] using e
noncomputable def BA (i:Int):Prop:= -(2 ^ 62)≤i∧i<2 ^ 62
theorem dB {R:List D→Prop} (hm:mg "range"=none) (h:aH c e ρ (I1 fun j=>Sd (BA j) (R (n8 0 j.toNat)))) (hg:sc.names.lookup (QK "range")=some .globalImplicit:=by walk_at "u")
 (hs:∀ env,starEach [e] env=(false,eval e env)::starEach [] env:=by intro _; walk_at "u"):yO c tg (.Call (.Name "range" p) [e] [] pos) ρ R:=fun σ H Hf Q S q aa s I =>
 yx (by unfold Gl Rz; rw [c.esc]; exact hg) (by rw [c.emg]; exact hm) (bL cW cY (hs _)) (hs _) aa s σ H Q I (h σ H Hf _ S fun d v H' ai ⟨j,ed,⟨hj,hR⟩⟩ r g=>by
  subst ed; rw [av] at r; subst r
  exact ⟨j,rfl,hj.1,hj.2,q _ _ H' ai hR g By⟩)
theorem cG {tg iter:Expr} {body:List Stmt} {nx:List Sl→Prop} {p:Pt} (hq:c.X.xe=fun _ _=>False)
 (h:yO c tg iter ρ fun ds=>∃ I:Nat→List Sl→Prop,I 0 ρ ∧
   (∀ c':Ctx P w K mg base k N sc bk,c'.X=c.X→c'.RX=c.RX→c'.RM=c.RM→∀ i d ρ',ds[i]?=some d→I i ρ'→nX c' tg d ρ' fun ρ''=>aN c' body ρ'' (I (i+1)) { rt:=p.rt,bk:=nx,ct:=I (i+1) })∧∀ ρ',I ds.length ρ'→nx ρ')
 (hs:∀ env x,foldedSetIterable iter env x=pure x:=by intro _ _; walk_at "u"):fH c (.For tg iter body [] pos) ρ nx p:=fun σ H Hf D S o =>
 d7 (Je (by rw [hq]; exact PassesOwn.never) c.calm QG QF rZ (hs _)) (h σ H Hf _ S fun ds J H1 aP ⟨I,h0,hb,he⟩ g io=>by
  have S1:=S.cE g
  have gb:bu c.B c.Hf H1 aP:=S1.bas
  refine ⟨fun i m σ H=>m=ds.length - i∧i≤ds.length∧∃ Hf ρ',bC (c.at_ gb) σ H Hf ρ'∧I i ρ',⟨_,rfl,Rq _,aP,ρ,S1.anew,h0⟩,?_⟩
  rintro i m σ H ⟨rfl,hi,Hf,ρ',S',hI⟩
  by_cases hlt:i<ds.length
  ·have ed:ds[i]?=some ds[i]:=Ro hlt
   obtain ⟨hgo,hy⟩:=io.go i _ H Hf S'.bas.f S'.bas.b ed
   refine .inr ⟨hgo,fun σ' H'=>∃ ai ρ'',bC (c.at_ gb) σ' H' ai ρ''∧I (i+1) ρ'',fun σ' H' ⟨ai,ρ'',S'',hI'⟩=>⟨_,by omega,rfl,hlt,ai,ρ'',S'',hI'⟩,fun x H' hx=>?_⟩
   obtain ⟨ai,g',rx⟩:=hy x H' hx
   refine hb (c.at_ gb) rfl rfl rfl i _ ρ' ed hI σ H' ai x _ (S'.cE g') rx fun σ2 H2 cK ρ2 S2 _ hbody=>?_
   exact hbody σ2 H2 cK _ S2 ⟨fun σ H Hf ρ S q=>⟨Hf,ρ,S,q⟩,(o.at_ gb).rt,fun σ H Hf ρ S q=>(o.at_ gb).nx σ H Hf ρ S q,fun σ H Hf ρ S q=>⟨Hf,ρ,S,q⟩⟩
  ·have e:i=ds.length:=by omega
   subst e
   exact .inl ⟨io.stop _ H Hf S'.bas.f S'.bas.b (QS _),(o.at_ gb).nx σ H Hf ρ' S' (he ρ' hI)⟩)
end
section
end
section
end
section
variable {K:QM}
end
section
variable {K:QM} {R:D→Prop}
theorem HH (h:R d):HA R (.va d):=⟨d,rfl,h⟩
theorem d8 (h:R (.lst ds)):HA R (.ow ds):=⟨.lst ds,rfl,h⟩
theorem JW (h:aH c a ρ fun x=>aH c b ρ fun y=>lX x y (HA R)):aH c (.BinOp a .Add b pos) ρ R:=e_x (HG h)
theorem r6.imp {R R':List D→Prop} (h:r6 c es ρ R) (hi:∀ d,R d→R' d):r6 c es ρ R':=fun σ H Hf Q S q=>h σ H Hf Q S fun d v H' ai rd=>q d v H' ai (hi d rd)
theorem JX (h:r6 c es ρ fun ds=>Sd (ds.length≤sizeLine) (R (.lst ds))):aH c (.List es pos) ρ R:=e_x (HD (h.imp fun ds hd=>⟨hd.s,d8 hd.r⟩))
theorem BB {lo hi:Option Expr} (h:aH c e ρ fun x=>EG c lo ρ fun l=>EG c hi ρ fun u=>JU x l u (HA R)):aH c (.Subscript e (.Slice lo hi none p2) pos) ρ R:=e_x (wZ h)
theorem BC {R:Sl→Prop} (h:R (.va (.int (i+j)))):lX (.int i) (.int j) R:=.int h
theorem BD {ds es:List D} {R:Sl→Prop} (h:Sd (ds.length+es.length≤sizeLine) (R (.ow (ds++es)))):lX (.lst ds) (.lst es) R:=.lst h
theorem BE {ds es:List D} {R:Sl→Prop} (h:Sd (ds.length+es.length≤sizeLine) (R (.va (.tup (ds++es))))):lX (.tup ds) (.tup es) R:=.tup h
theorem JY {b:Bool} (ty:yL K d t) (e:Sq K t cv=some b) (h:R (.bl b)):∃ t b,yL K d t∧Sq K t cv=some b∧R (.bl b):=⟨t,b,ty,e,h⟩
theorem M4 (h:aH c a ρ fun x=>aH c b ρ fun y=>LN x y R) (hs:kZ b:=by with_unfolding_all exact fun _ _=>rfl):aH c (.Subscript a b pos) ρ R:=MZ h hs
theorem M5 {x:D} {Q:List D→Prop} (e:x.row=some ds) (h:Q ds):∃ ys,x.row=some ys∧Q ys:=⟨ds,e,h⟩
theorem aF {F:Fn} {R:Sl→Prop} (h:F ds (.ok sl)) (r:R sl):∃ r,F ds r∧JN c ρ R r:=⟨_,h,r⟩
end
section
variable {K:QM}
end
noncomputable def del (H:Hp) (p:Addr):Hp:=fun b=>if b=p then none else H b
theorem jb:del H p p=none:=if_pos rfl
theorem cA (h:b≠p):del H p b=H b:=if_neg h
theorem BF (h:H₀ p=none) (s:aM H₀ H):aM H₀ (del H p):=fun b o e=>by
 rw [cA (aC e h)]; exact s b o e
theorem jc (h:del H p b=some o):b≠p∧H b=some o:=by
 by_cases e:b=p
 ·subst e; rw [jb] at h; cases h
 ·rw [cA e] at h; exact ⟨e,h⟩
theorem gX (sb:aM Hf H) (hp:Hf p=none):bu (del H p) Hf (upd H p o) Hf :=
 ⟨fun b u e=>by obtain ⟨h1,h2⟩:=jc e; rw [aj h1]; exact h2,.refl _,fun b u e=>by rw [aj (aC e hp)]; exact sb b u e,fun _ h _ _=>h⟩
section
variable {K:QM}
theorem aZ.se (ho:r.owned=true) (h:aZ K fr H Hf r v):∃ p o,v=.ref p∧fr p∧H p=some o∧Hf p=none∧¬ A6 H p:=by
 have nf:∀ {p:Addr} {u:HO},H p=some u→(∀ φ,u≠.ext φ)→¬ A6 H p:=fun e k ⟨z,e2⟩=>by rw [e] at e2; exact k _ (Sz e2)
 cases r with
 | un=>cases ho
 | va d=>cases ho
 | fo s=>cases ho
 | ow ds=>obtain ⟨p,xs,rfl,f,h1,h2,_⟩:=h; exact ⟨p,_,rfl,f,h1,h2,nf h1 (by intro _ z; cases z)⟩
 | oT ds=>obtain ⟨p,xs,rfl,f,h1,h2,_⟩:=h; exact ⟨p,_,rfl,f,h1,h2,nf h1 (by intro _ z; cases z)⟩
 | oK ds=>obtain ⟨p,xs,rfl,f,h1,h2,_⟩:=h; exact ⟨p,_,rfl,f,h1,h2,nf h1 (by intro _ z; cases z)⟩
 | aw a ds=>obtain ⟨p,xs,rfl,f,h1,h2,_⟩:=h; exact ⟨p,_,rfl,f.1,h1,h2,nf h1 (by intro _ z; cases z)⟩
 | aT a ds=>obtain ⟨p,xs,rfl,f,h1,h2,_⟩:=h; exact ⟨p,_,rfl,f.1,h1,h2,nf h1 (by intro _ z; cases z)⟩
 | aK a ds=>obtain ⟨p,xs,rfl,f,h1,h2,_⟩:=h; exact ⟨p,_,rfl,f.1,h1,h2,nf h1 (by intro _ z; cases z)⟩
theorem aZ.sj (ho:r.owned=true) (h:aZ K fr H Hf r v):∃ p o,v=.ref p∧fr p∧H p=some o∧Hf p=none :=
 let ⟨p,o,a,b,c,d,_⟩:=h.se ho; ⟨p,o,a,b,c,d⟩
theorem aZ.M6 (nf:¬ A6 H p) (hv:r.owned=true→v≠.ref p) (h:aZ K fr H Hf r v):aZ K fr (del H p) Hf r v :=
 aZ.mv (B:=fun q=>q=p) (.refl _) (fun q o hq e1 _ e3=>⟨by rw [cA hq]; exact e1,e3⟩) (fun _ q e=>by subst e; exact nf) (fun ho q z e=>by subst e; exact hv ho z) h
theorem c6.own (S:c6 K H₀ dS σ H Hf ρ) {i:Nat} (hi:ρ[i]?=some r) (ho:r.owned=true):∃ p,σ[i]?=some (some (.ref p))∧aZ K (fun p=>H₀ p=none) H Hf r (.ref p):=by
 obtain ⟨v,e,q⟩:=S.at_ i r hi (by rintro rfl; cases ho)
 obtain ⟨p,o,rfl,_⟩:=q.sj ho
 exact ⟨p,e,q⟩
theorem c6.upd (S:c6 K H₀ dS σ H Hf ρ) (hi:ρ[i]?=some r) (ho:r.owned=true) (hp:σ[i]?=some (some (.ref p))) (g:bu (del H p) Hf H1 aP)
 (hr:aZ K (fun q=>q=p) H1 aP r' (.ref p)) (ho':r'.owned=true):c6 K H₀ dS σ H1 aP (ρ.set i r'):=by
 obtain ⟨p',ep,q⟩:=S.own hi ho
 rw [hp] at ep; cases ep
 obtain ⟨_,o,e,fp,hHp,hfp,nfz⟩:=q.se ho
 cases e
 have hlt:i<ρ.length:=(Q2.mp hi).1
 refine ⟨⟨(BF fp S.bas.s).trans g.s,S.bas.f.trans g.f,g.b,fun b h1 h2 h3=>?_⟩,by simp [S.len],fun j r1 hj hu=>?_,fun j j' r1 r2 q' hne h1 h2 o1 o2=>?_⟩
 ·have hb:b≠p:=fun z=>by subst z; exact h2 fp
  cases z:H₀ b with
  | none=>exact absurd z h2
  | some o1 =>
   have e1:=S.bas.s b o1 z
   refine g.n b (S.bas.n b h1 h2 h3) (by rw [cA hb,e1]; simp) fun xs=>?_
   rw [cA hb,e1,← z]; exact h3 xs
 ·by_cases e:j=i
  ·subst e
   rw [R4 hlt] at hj; cases hj
   exact ⟨_,hp,hr.weak fun q' z=>by subst z; exact fp⟩
  ·rw [R5 (Rf e)] at hj
   obtain ⟨v,e1,e2⟩:=S.at_ j r1 hj hu
   exact ⟨v,e1,(e2.M6 (p:=p) nfz fun ow z=>by subst z; exact S.sep i j _ _ p (Rf e) hi hj ho ow hp e1).cE g⟩
 ·have out:∀ {j:Nat} {r1:Sl},(ρ.set i r')[j]?=some r1→r1.owned=true→∃ r2,ρ[j]?=some r2∧r2.owned=true:=fun {j r1} hj how=>by
   by_cases e:j=i
   ·subst e; exact ⟨r,hi,ho⟩
   ·rw [R5 (Rf e)] at hj; exact ⟨r1,hj,how⟩
  obtain ⟨r3,a1,a2⟩:=out h1 o1
  obtain ⟨r4,b1,b2⟩:=out h2 o2
  exact S.sep j j' r3 r4 q' hne a1 b1 a2 b2
end
section
variable {K:QM} {c:Ctx P w K mg base k N sc bk}
theorem Ctx.lY (c:Ctx P w K mg base k N sc bk) (hN:At N i x) (hd:(x == ("__debug__":Str))=false) (hcd:(x == ("__classdict__":Str))=false):PE c.X (.Name x px) (LV i) :=
 uN (X:=c.X) (i:=i) (by rw [c.eN]; exact hN.get) (by rw [c.esc]; rcases c.vis x hN.mem with h | h; exact .inl h; exact .inr (.inl h)) hd hcd
noncomputable def Sl.getL:Sl→Option (List D) | .ow ds=>some ds | .aw _ ds=>some ds | _=>none
noncomputable def Sl.putL:Sl→List D→Sl | .ow _,es=>.ow es | .aw a _,es=>.aw a es | s,_=>s
theorem c7 {r:Sl} (h:r.getL=some ds):r.owned=true:=by cases r <;> first | rfl | cases h
theorem iE {r:Sl} {ds es:List D} (h:r.getL=some ds):(r.putL es).owned=true:=by cases r <;> first | rfl | cases h
theorem JZ {p:Addr} (h:r.getL=some ds) (q:aZ K fr H Hf r (.ref p)):∃ xs,H p=some (.lst xs)∧Hf p=none∧ak K Hf ds xs:=by
 cases r with
 | ow es=>cases h; obtain ⟨_,xs,e,_,h1,h2,h3⟩:=q; cases e; exact ⟨xs,h1,h2,h3⟩
 | aw a es=>cases h; obtain ⟨_,xs,e,_,h1,h2,h3⟩:=q; cases e; exact ⟨xs,h1,h2,h3⟩
 | _=>cases h
theorem lZ {ds es:List D} {p:Addr} (h:r.getL=some ds) (q:aZ K fr H Hf r (.ref p)) (h1:H1 p=some (.lst ys)) (h2:aP p=none) (h3:ak K aP es ys) :
 aZ K (fun q=>q=p) H1 aP (r.putL es) (.ref p):=by
 cases r with
 | ow _=>exact ⟨p,ys,rfl,rfl,h1,h2,h3⟩
 | aw a _=>obtain ⟨_,xs,e,f,_⟩:=q; cases e; exact ⟨p,ys,rfl,⟨rfl,f.2⟩,h1,h2,h3⟩
 | _=>cases h
theorem BG (hN:At N i x) (hi:At ρ i r) (hr:r.getL=some ds) (h:aH c e ρ fun d=>Sd (ds.length<sizeLine) (Nx ρ i nx (r.putL (ds++[d]))))
 (hs:∀ env,swapsWith (.Call (.Attribute (.Name x px) "append" ap) [e] [] cp) none pos.line env=pure false:=by intro _; walk_at "u") (hd:(x == ("__debug__":Str))=false:=by decide) (hcd:(x == ("__classdict__":Str))=false:=by decide)
 (hbase:∀ env,attributeBase (.Name x px) "append" env (eval (.Name x px) env)=eval (.Name x px) env:=by intro _; walk_at "u")
 (hfew:∀ env,((backTo cp (starEach [e] env)).all (fun x=> !x.1) && (backToKw cp (keywordEach [] env)).all (fun x=>x.1.isSome)
   && decide (([e]:List Expr).length+([]:List Keyword).length+(if ([]:List Keyword).isEmpty then 0 else 1)<30))=true:=by intro _; walk_at "u")
 (hline:(ap.endLine == cp.line)=true:=by walk_at "u") (he:∀ env,starEach [e] env=(false,eval e env)::starEach [] env:=by intro _; walk_at "u") (hpl:∀ env,(backTo cp (starEach [] env)).any (·.1)=false:=by intro _; walk_at "u") :
 fH c (.Expr (.Call (.Attribute (.Name x px) "append" ap) [e] [] cp) pos) ρ nx p:=fun σ H Hf D S o=>by
 obtain ⟨q,eq,rq⟩:=S.own hi.get (c7 hr)
 obtain ⟨xs,h1,h2,h3⟩:=JZ hr rq
 refine d7 (kY (Mq PySem.F.plainAttrs_list PySem.F.slot_list_append PySem.F.type_list_append oS (c.lY hN hd hcd) (bL cW cY (he _)) (hbase _) (hfew _) hline (he _) (hpl _)) (hs _)) ⟨_,eq,.inl ⟨rfl,xs,.inl (.inl h1)⟩,?_⟩
 refine h σ H Hf _ S fun d v H' ai ⟨hz,ρ',hs',hn⟩ rd g=>?_
 have S':=S.cE g
 have e1:H' q=some (.lst xs):=g.s _ _ h1
 have e2:ai q=none:=g.n q h2 (by rw [h1]; simp) (by intro ys; rw [h1]; simp)
 refine ⟨q,xs,v,rfl,rfl,e1,by rw [← h3.length]; exact hz,?_⟩
 refine o.nx _ _ ai ρ' ?_ hn
 rw [hs'.eq]
 have rq':=rq.cE g
 exact S'.upd hi.get (c7 hr) eq (gX g.b e2) (lZ hr rq' ah e2 ((h3.mono g.f).append (.one rd))) (iE hr)
end
section
variable {κ β:Type} [DecidableEq κ]
noncomputable def bF (kvs:List (κ×β)) (k:κ):Option β:=(kvs.find? fun kv=>decide (kv.1=k)).map (·.2)
noncomputable def putD (kvs:List (κ×β)) (k:κ) (v:β):List (κ×β) :=
 if (bF kvs k).isSome=true then kvs.map (fun kv=>if kv.1=k then (kv.1,v) else kv) else kvs++[(k,v)]
theorem br {q:κ×β} {r:List (κ×β)} {k:κ} (e:q.1=k):bF (q::r) k=some q.2:=by simp [bF,SA,e]
theorem aW {q:κ×β} {r:List (κ×β)} {k:κ} (e:¬ q.1=k):bF (q::r) k=bF r k:=by simp [bF,SA,e]
end
noncomputable def D.yQ:D→Option Key | .int i=>some (.inl i) | .str x=>some (.inr x) | _=>none
noncomputable def D.keys:List D→Option (List Key)
 | []=>some []
 | d::r=>match d.yQ,D.keys r with | some k,some ks=>some (k::ks) | _,_=>none
theorem jd {K:QM} (h:d.yQ=some k) (r:Rep K H d v):v=kV k:=by
 cases d with
 | int i=>cases h; exact av.mp r
 | str x=>cases h; exact fS.mp r
 | _=>cases h
theorem jN {K:QM}:∀ {ds:List D} {ks:List Key} {xs:List V},D.keys ds=some ks→ak K H ds xs→xs=ks.map kV
 | [],ks,xs,h,r=>by cases h; rw [aA.mp r]; rfl
 | d::ds,ks,xs,h,r=>by
  obtain ⟨x,t,rfl,r1,r2⟩:=aE.mp r
  unfold D.keys at h
  cases e1:d.yQ with
  | none=>rw [e1] at h; cases h
  | some k =>
   cases e2:D.keys ds with
   | none=>rw [e1,e2] at h; cases h
   | some ks' =>
    rw [e1,e2] at h; cases h
    rw [jd e1 r1,jN e2 r2]; rfl
noncomputable def Sl.HJ:Sl→Bool | .oK _=>true | .aK _ _=>true | .oT _=>true | .aT _ _=>true | _=>false
theorem su {r:Sl} (h:r.HJ=true):r.owned=true:=by cases r <;> first | rfl | cases h
noncomputable def Sl.u0:Sl→Option (List (Key×D)) | .oK kvs=>some kvs | .aK _ kvs=>some kvs | _=>none
noncomputable def Sl.sA:Sl→List (Key×D)→Sl | .oK _,es=>.oK es | .aK a _,es=>.aK a es | s,_=>s
noncomputable def Sl.yR:Sl→Option (List (List Key×D)) | .oT kvs=>some kvs | .aT _ kvs=>some kvs | _=>none
noncomputable def Sl.BH:Sl→List (List Key×D)→Sl | .oT _,es=>.oT es | .aT a _,es=>.aT a es | s,_=>s
theorem l0 {r:Sl} (h:r.u0=some kvs):r.owned=true:=by cases r <;> first | rfl | cases h
theorem l5 {r:Sl} (h:r.u0=some kvs):(r.sA es).owned=true:=by cases r <;> first | rfl | cases h
theorem u5 {r:Sl} (h:r.yR=some kvs):(r.BH es).owned=true:=by cases r <;> first | rfl | cases h
section
variable {K:QM} {fr:Addr→Prop} {H Hf H1 aP:Hp} {r:Sl} {p:Addr}
theorem yS (h:r.u0=some kvs) (q:aZ K fr H Hf r (.ref p)):∃ xs,H p=some (.dK xs)∧Hf p=none∧nL K Hf kvs xs:=by
 cases r with
 | oK es=>cases h; obtain ⟨_,xs,e,_,h1,h2,h3⟩:=q; cases e; exact ⟨xs,h1,h2,h3⟩
 | aK a es=>cases h; obtain ⟨_,xs,e,_,h1,h2,h3⟩:=q; cases e; exact ⟨xs,h1,h2,h3⟩
 | _=>cases h
theorem FF (h:r.yR=some kvs) (q:aZ K fr H Hf r (.ref p)):∃ xs,H p=some (.dT xs)∧Hf p=none∧nM K Hf kvs xs:=by
 cases r with
 | oT es=>cases h; obtain ⟨_,xs,e,_,h1,h2,h3⟩:=q; cases e; exact ⟨xs,h1,h2,h3⟩
 | aT a es=>cases h; obtain ⟨_,xs,e,_,h1,h2,h3⟩:=q; cases e; exact ⟨xs,h1,h2,h3⟩
 | _=>cases h
theorem sC (h:r.u0=some kvs) (q:aZ K fr H Hf r (.ref p)) (h1:H1 p=some (.dK ys)) (h2:aP p=none) (h3:nL K aP es ys):aZ K (fun q=>q=p) H1 aP (r.sA es) (.ref p):=by
 cases r with
 | oK _=>exact ⟨p,ys,rfl,rfl,h1,h2,h3⟩
 | aK a _=>obtain ⟨_,xs,e,f,_⟩:=q; cases e; exact ⟨p,ys,rfl,⟨rfl,f.2⟩,h1,h2,h3⟩
 | _=>cases h
theorem BI (h:r.yR=some kvs) (q:aZ K fr H Hf r (.ref p)) (h1:H1 p=some (.dT ys)) (h2:aP p=none) (h3:nM K aP es ys):aZ K (fun q=>q=p) H1 aP (r.BH es) (.ref p):=by
 cases r with
 | oT _=>exact ⟨p,ys,rfl,rfl,h1,h2,h3⟩
 | aT a _=>obtain ⟨_,xs,e,f,_⟩:=q; cases e; exact ⟨p,ys,rfl,⟨rfl,f.2⟩,h1,h2,h3⟩
 | _=>cases h
noncomputable def BJ (K:QM) (Hf:Hp):Option D→Option V→Prop
 | none,none=>True
 | some d,some v=>Rep K Hf d v
 | _,_=>False
theorem nL.val {kvs:List (Key×D)} {xs:List (Key×V)} (h:nL K Hf kvs xs) (k:Key):BJ K Hf (bF kvs k) (lQ xs k):=by
 unfold nL at h
 induction h with
 | nil=>exact SX
 | @cons a b as bs h t ih =>
  by_cases e:a.1=k
  ·rw [br e,lR (h.1.symm.trans e)]; exact h.2
  ·rw [aW e,lS (fun z=>e (h.1.trans z))]; exact ih
theorem BJ.isSome (h:BJ K Hf o u):o.isSome=u.isSome:=by
 cases o <;> cases u <;> first | rfl | exact h.elim
theorem nL.put {kvs:List (Key×D)} {xs:List (Key×V)} (h:nL K Hf kvs xs) (k:Key) {d:D} {v:V} (rd:Rep K Hf d v):nL K Hf (putD kvs k d) (putK xs k v):=by
 have e:=(h.val k).isSome
 unfold putD putK
 rw [e,rP]
 by_cases q:(lQ xs k).isSome=true
 ·rw [if_pos q,if_pos q]
  unfold nL at h ⊢
  clear e q
  induction h with
  | nil=>exact .nil
  | @cons a b as bs h t ih =>
   rw [QW,QW]
   refine .cons ?_ ih
   by_cases e:a.1=k
   ·rw [if_pos e,if_pos (h.1.symm.trans e)]; exact ⟨h.1,rd⟩
   ·rw [if_neg e,if_neg (fun z=>e (h.1.trans z))]; exact h
 ·rw [if_neg q,if_neg q]; exact Wc h ⟨rfl,rd⟩
theorem nM.val (h:nM K Hf kvs xs) (k):BJ K Hf (bF kvs k) (atT xs k):=by
 unfold nM at h
 induction h with
 | nil=>exact SX
 | @cons a b as bs h t ih =>
  by_cases e:a.1=k
  ·have z:L2.atT (b::bs) k=some b.2.2:=by simp [L2.atT,SA,h.1.symm.trans e]
   rw [br e,z]; exact h.2.2
  ·have z:L2.atT (b::bs) k=L2.atT bs k:=by
    have:¬ b.1=k:=fun z=>e (h.1.trans z)
    simp [L2.atT,SA,this]
   rw [aW e,z]; exact ih
theorem nM.put (h:nM K Hf kvs xs) (k) (hb:dw K Hf b (k.map kV)) (rd:Rep K Hf d v):nM K Hf (putD kvs k d) (rS xs k b v):=by
 have e:=(h.val k).isSome
 unfold putD rS
 rw [e]
 by_cases q:(atT xs k).isSome=true
 ·rw [if_pos q,if_pos q]
  unfold nM at h ⊢
  clear e q
  induction h with
  | nil=>exact .nil
  | @cons a b' as bs h t ih =>
   rw [QW,QW]
   refine .cons ?_ ih
   unfold qk
   by_cases e:a.1=k
   ·rw [if_pos e,if_pos (h.1.symm.trans e)]; exact ⟨h.1,h.2.1,rd⟩
   ·rw [if_neg e,if_neg (fun z=>e (h.1.trans z))]; exact h
 ·rw [if_neg q,if_neg q]; exact Wc h ⟨rfl,hb,rd⟩
theorem nM.BK (h:nM K Hf kvs xs):∀ x∈xs,dw K Hf x.2.1 (x.1.map kV):=by
 unfold nM at h
 induction h with
 | nil=>intro x hx; cases hx
 | @cons a b as bs h t ih =>
  intro x hx
  rcases Q0.mp hx with e | hx
  ·subst e; rw [← h.1]; exact h.2.1
  ·exact ih x hx
inductive HK:Sl→D→Option D→Prop
 | k {r:Sl} {kvs:List (Key×D)} {d:D} {k:Key} (h:r.u0=some kvs) (hk:d.yQ=some k):HK r d (bF kvs k)
 | t {r:Sl} {kvs:List (List Key×D)} {ds:List D} {k:List Key} (h:r.yR=some kvs) (hk:D.keys ds=some k):HK r (.tup ds) (bF kvs k)
inductive FG:Sl→D→D→Sl→Prop
 | k {r:Sl} {kvs:List (Key×D)} {d e:D} {k:Key} (h:r.u0=some kvs) (hk:d.yQ=some k) (hz:kvs.length<sizeLine):FG r d e (r.sA (putD kvs k e))
 | t {r:Sl} {kvs:List (List Key×D)} {ds:List D} {e:D} {k:List Key} (h:r.yR=some kvs) (hk:D.keys ds=some k) (hz:kvs.length<sizeLine):FG r (.tup ds) e (r.BH (putD kvs k e))
theorem FG.owned' (h:FG r d e r'):r'.owned=true:=by cases h with | k h _ _=>exact l5 h | t h _ _=>exact u5 h
theorem HK.get (h:HK r d o) (q:aZ K fr H Hf r (.ref p)) (rv:Rep K Hf d v) (sb:aM Hf H):∃ u,ql K H p v u∧BJ K Hf o u:=by
 cases h with
 | k h hk =>
  obtain ⟨xs,h1,_,h3⟩:=yS h q
  rw [jd hk rv]
  exact ⟨_,.inl ⟨xs,_,.inl h1,rfl,rfl⟩,h3.val _⟩
 | t h hk =>
  obtain ⟨xs,h1,_,h3⟩:=FF h q
  obtain ⟨a,ys,rfl,h4,h5⟩:=aJ.mp rv
  have:=jN hk h5
  subst this
  exact ⟨_,.inr ⟨xs,_,a,.inl h1,fun x hx=>az sb (h3.BK x hx),rfl,az sb h4,rfl⟩,h3.val _⟩
theorem nL.length (h:nL K Hf kvs xs):kvs.length=xs.length:=SE h
theorem nM.length (h:nM K Hf kvs xs):kvs.length=xs.length:=SE h
theorem FG.put (h:FG r d e r') (q:aZ K fr H Hf r (.ref p)) (rv:Rep K Hf d v) (ry:Rep K Hf e y) (sb:aM Hf H) :
 ∃ o,E6 K H p v y (upd H p o)∧aZ K (fun q=>q=p) (upd H p o) Hf r' (.ref p):=by
 cases h with
 | k h hk hz =>
  obtain ⟨xs,h1,h2,h3⟩:=yS h q
  rw [jd hk rv]
  exact ⟨_,.inl ⟨xs,_,h1,rfl,by rw [← h3.length]; exact hz,rfl⟩,sC h q ah h2 (h3.put _ ry)⟩
 | t h hk hz =>
  obtain ⟨xs,h1,h2,h3⟩:=FF h q
  obtain ⟨a,ys,rfl,h4,h5⟩:=aJ.mp rv
  have:=jN hk h5
  subst this
  exact ⟨_,.inr ⟨xs,_,a,h1,fun x hx=>az sb (h3.BK x hx),rfl,az sb h4,by rw [← h3.length]; exact hz,rfl⟩,BI h q ah h2 (h3.put _ h4 ry)⟩
end
section
variable {K:QM} {c:Ctx P w K mg base k N sc bk}
theorem Ctx.hu (c:Ctx P w K mg base k N sc bk):c.X.A.units+1<cLine:=Mx c.room
theorem w9 {R:Sl→Prop} (h:R (.oK [])):dz c (.Dict [] [] pos) ρ R:=fun σ H Hf Q S q =>
 bM A1 fun p hp=>q (.oK []) (.ref p) _ Hf h ⟨p,[],rfl,hp,ah,S.sb.free hp,.nil⟩ (bu.gp S.sb hp)
theorem FH {R:Sl→Prop} (h:R (.oT [])):dz c (.Dict [] [] pos) ρ R:=fun σ H Hf Q S q =>
 bM A3 fun p hp=>q (.oT []) (.ref p) _ Hf h ⟨p,[],rfl,hp,ah,S.sb.free hp,.nil⟩ (bu.gp S.sb hp)
theorem J0 (hN:At N i x) (hi:At ρ i r) (h:aH c e ρ fun dk=>aH c f ρ fun df=>∃ o,HK r dk o∧R (o.getD df)) (hd:(x == ("__debug__":Str))=false:=by decide) (hcd:(x == ("__classdict__":Str))=false:=by decide) (ho:r.HJ=true:=by rfl)
 (m1:∀ env,attributeBase (.Name x px) "get" env (eval (.Name x px) env)=eval (.Name x px) env:=by intro _; walk_at "u")
 (m2:∀ env,((backTo cp (starEach [e,f] env)).all (fun x=> !x.1) && (backToKw cp (keywordEach [] env)).all (fun x=>x.1.isSome)
   && decide (([e,f]:List Expr).length+([]:List Keyword).length+(if ([]:List Keyword).isEmpty then 0 else 1)<30))=true:=by intro _; walk_at "u")
 (m3:(ap.endLine == cp.line)=true:=by walk_at "u") (m4:∀ env,backTo cp (starEach [e,f] env)=[(false,eval e env),(false,eval f env)]:=by intro _; walk_at "u") :
 aH c (.Call (.Attribute (.Name x px) "get" ap) [e,f] [] cp) ρ R:=fun σ H Hf Q S q=>by
 obtain ⟨p,ep,rp⟩:=S.own hi.get (su ho)
 have JY:Pu H p:=by
  cases r with
  | oK kvs=>obtain ⟨xs,h1,_⟩:=yS (r:=.oK kvs) rfl rp; exact .inl ⟨xs,.inl h1⟩
  | aK a kvs=>obtain ⟨xs,h1,_⟩:=yS (r:=.aK a kvs) rfl rp; exact .inl ⟨xs,.inl h1⟩
  | oT kvs=>obtain ⟨xs,h1,_⟩:=FF (r:=.oT kvs) rfl rp; exact .inr ⟨xs,.inl h1⟩
  | aT a kvs=>obtain ⟨xs,h1,_⟩:=FF (r:=.aT a kvs) rfl rp; exact .inr ⟨xs,.inl h1⟩
  | _=>cases ho
 refine bM (A4 c.hu (c.lY hN hd hcd) cW cW ⟨m1 _,m2 _,m3,m4 _⟩) ⟨_,ep,p,rfl,JY,h σ H Hf _ S fun dk v H1 aP h1 rv g1=>h1 σ H1 aP _ (S.cE g1) fun df y H2 cK ⟨o,lk,hR⟩ ry g2=>?_⟩
 obtain ⟨u,dg,rel⟩:=lk.get (rp.cE (g1.trans g2)) (Rep.mono g2.f _ rv) g2.b
 refine ⟨u,dg,?_⟩
 cases o with
 | none=>cases u with
  | none=>exact q df y H2 cK hR ry (g1.trans g2)
  | some _=>exact rel.elim
 | some d=>cases u with
  | none=>exact rel.elim
  | some v'=>exact q d v' H2 cK hR rel (g1.trans g2)
theorem J1 (hN:At N i x) (hi:At ρ i r) (h:aH c e ρ fun dv=>aH c b ρ fun dk=>∃ r',FG r dk dv r'∧Nx ρ i nx r') (ho:r.owned=true:=by rfl)
 (hs:∀ env,swapsWith e (some (.Subscript (.Name x px) b tp)) pos.line env=pure false:=by intro _; walk_at "u") (hd:(x == ("__debug__":Str))=false:=by decide) (hcd:(x == ("__classdict__":Str))=false:=by decide) :
 fH c (.Assign [.Subscript (.Name x px) b tp] e pos) ρ nx p:=fun σ H Hf D S o=>by
 obtain ⟨p,ep,rp⟩:=S.own hi.get ho
 refine d7 (E9 c.hu (c.lY hN hd hcd) cW cW (hs _)) (h σ H Hf _ S fun dv v H1 aP h1 rv g1=>⟨_,ep,h1 σ H1 aP _ (S.cE g1) fun dk y H2 cK ⟨r',pt,ρ',hs',hn⟩ ry g2=>?_⟩)
 have g:=g1.trans g2
 obtain ⟨ob,dp,rp'⟩:=pt.put (rp.cE g) ry (Rep.mono g2.f _ rv) g.b
 refine ⟨p,_,rfl,dp,o.nx _ _ cK ρ' ?_ hn⟩
 rw [hs'.eq]
 obtain ⟨_,_,e0,_,_,hf⟩:=(rp.cE g).sj ho
 cases e0
 exact (S.cE g).upd hi.get ho ep (gX g.b hf) rp' pt.owned'
theorem xg (hN:At N i x) (hi:At ρ i r) (h:aH c b ρ fun dk=>∃ m:Int,HK r dk (some (.int m))∧aH c e ρ (I1 fun j=>∃ r',FG r dk (.int (m+j)) r'∧Nx ρ i nx r')) (ho:r.owned=true:=by rfl)
 (ha:∀ ov iv new,augStore b ov iv new=(do holding [new,ov,iv] (setItem ov iv new); release [new,ov,iv] []; pure .next):=by intro _ _ _; walk_at "u") (hd:(x == ("__debug__":Str))=false:=by decide) (hcd:(x == ("__classdict__":Str))=false:=by decide) :
 fH c (.AugAssign (.Subscript (.Name x px) b tp) .Add e pos) ρ nx p:=fun σ H Hf D S o=>by
 obtain ⟨p,ep,rp⟩:=S.own hi.get ho
 have hop:Ml c.X .Add (yz fun i j=>.int (i+j)):=EO
 refine d7 (Fb c.hu (c.lY hN hd hcd) cW cW hop ha) ⟨_,ep,h σ H Hf _ S fun dk y H1 aP ⟨m,lk,h1⟩ ry g1=>?_⟩
 obtain ⟨u,dg,rel⟩:=lk.get (rp.cE g1) ry g1.b
 cases u with
 | none=>exact rel.elim
 | some u =>
  have eu:u=V.int m:=(av (K:=c.X.K) (H:=aP)).mp rel
  subst eu
  refine ⟨p,_,rfl,dg,h1 σ H1 aP _ (S.cE g1) fun dj y2 H2 cK ⟨j,ej,r',pt,ρ',hs',hn⟩ ry2 g2=>?_⟩
  subst ej
  rw [av.mp ry2]
  have g:=g1.trans g2
  obtain ⟨ob,dp,rp'⟩:=pt.put (rp.cE g) (Rep.mono g2.f _ ry) (v:=y) (y:=.int (m+j)) (av.mpr rfl) g.b
  refine ⟨m,j,rfl,rfl,_,dp,o.nx _ _ cK ρ' ?_ hn⟩
  rw [hs'.eq]
  obtain ⟨_,_,e0,_,_,hf⟩:=(rp.cE g).sj ho
  cases e0
  exact (S.cE g).upd hi.get ho ep (gX g.b hf) rp' pt.owned'
theorem HL (hN:At N i x) (hi:At ρ i r) (h:aH c e ρ fun dk=>∃ o,HK r dk o∧T o.isSome) (ho:r.owned=true:=by rfl) (hm:behindInMarks CmpOp.In (.Name x px)=false:=by walk_at "u")
 (hd:(x == ("__debug__":Str))=false:=by decide) (hcd:(x == ("__classdict__":Str))=false:=by decide):jL c (.Compare e [.In] [.Name x px] pos) ρ T:=fun σ H Hf Q S q=>by
 obtain ⟨p,ep,rp⟩:=S.own hi.get ho
 refine wM (IQ (Jz c.hu cW (c.lY hN hd hcd)) hm) (h σ H Hf _ S fun dk y H1 aP ⟨o,lk,hT⟩ ry g=>⟨_,ep,?_⟩)
 obtain ⟨u,dg,rel⟩:=lk.get (rp.cE g) ry g.b
 refine ⟨p,u,rfl,dg,u.isSome,rfl,q _ H1 aP ?_ g⟩
 rw [← rel.isSome]; exact hT
end
noncomputable abbrev jO:Value→Shared→Prop:=fun _ _=>False
section
variable {prog:Program} {w:World} {A:Around} {R:Result→Shared→Prop} {s:Shared}
theorem qw {elt target iter:Expr} {ifs:List Expr} {scope:Scope} {pos:Pos} {it acc:Value} {env:Env} (I:Nat→Shared→Prop)
 (turn:∀ n s,I n s→wpAny (model prog w) A (pyNext it) (fun r s₁=>match r with
   | none=>R (.ok .next) s₁
   | some v=>wpAny (model prog w) A (letOwnedTupleGo target it v) (fun _ s₁'=>wpAny (model prog w) A (assign target env v) (fun _ s₂ =>
    wpAny (model prog w) A (forIn ifs true fun c r=>if r=true then do let ok ← isTrue c env (eval c env); pure (RQ ok) else pure (RQ r)) (fun ok s₃ =>
     if ok=true then wpAny (model prog w) A (eval elt env) (fun x s₄ =>
      wpAny (model prog w) A (call (.builtin "list.append") [acc,x]) (fun _ s₅=>∃ m,m<n∧I m s₅) jO s₄) jO s₃
     else ∃ m,m<n∧I m s₃) jO s₂) jO s₁') jO s₁) jO s)
 (n:Nat) (h:I n s) :
 codeAny (model prog w) A (.compLoop (.ListComp elt [⟨target,iter,ifs,0⟩] scope pos) 0 it acc env) R s:=by
 refine codeAny_loop rfl I (fun n s hI=>?_) n h
 show wpAny _ A ((compTurn (.ListComp elt [⟨target,iter,ifs,0⟩] scope pos) 0 it acc env).onRaise (fun x=>do noteFrame x env; theTreesLotGoes x)) _ _ s
 refine wpAny_noted ?_
 rw [compTurn_list]
 refine QL (V0 (QL (RE (turn n s hI) (fun r s₁ h₁=>?_) fun _ _ f=>f.elim)))
 cases r with
 | none=>exact QN h₁
 | some v =>
  refine QL (RE h₁ (fun _ s₁' h₁'=>?_) fun _ _ f=>f.elim)
  refine QL (RE h₁' (fun _ s₂ h₂=>QL (RE h₂ (fun ok s₃ h₃=>?_) fun _ _ f=>f.elim)) fun _ _ f=>f.elim)
  cases ok with
  | false=>exact QN ⟨rfl,h₃⟩
  | true =>
   exact QL (QL (RE h₃ (fun x s₄ h₄=>QL (RE h₄ (fun _ s₅ h₅=>QN (QN ⟨rfl,h₅⟩)) fun _ _ f=>f.elim)) fun _ _ f=>f.elim))
theorem kD:∀ (ifs:List Expr),Q false s →
 wpAny (model prog w) A (forIn ifs false fun c r=>if r=true then do let ok ← isTrue c env (eval c env); pure (RQ ok) else pure (RQ r)) Q E s
 | [],h=>QN h
 | t::ts,h=>by
  simp only [T9,RO,if_false]
  exact QL (QN (kD ts h))
theorem u6
 (h:wpAny (model prog w) A (isTrue t env (eval t env)) (fun b s'=>if b=true then wpAny (model prog w) A (forIn ts true fun c r=>if r=true then do let ok ← isTrue c env (eval c env); pure (RQ ok) else pure (RQ r)) Q E s' else Q false s') E s) :
 wpAny (model prog w) A (forIn (t::ts) true fun c r=>if r=true then do let ok ← isTrue c env (eval c env); pure (RQ ok) else pure (RQ r)) Q E s:=by
 simp only [T9,if_true]
 refine QL (QL (RE h (fun b s' hb=>QN ?_) fun _ _ x=>x))
 cases b with
 | true=>exact hb
 | false=>exact kD ts hb
end
noncomputable def bK (scope sc:Scope):Scope:={ scope with names:=scope.names.map fun (n,k)=>if (k == .free && sc.kind == .function && sc.names.lookup n == some .cell) then (n,.cell) else (n,k) }
theorem sD (h:env.scope=sc):relabel scope env=bK scope sc:=by
 subst h; rfl
noncomputable def Sl.tag (a:Addr):Sl→Sl
 | .ow ds=>.aw a ds | .oT ds=>.aT a ds | .oK ds=>.aK a ds
 | .aw b ds=>.aw b ds | .aT b ds=>.aT b ds | .aK b ds=>.aK b ds | .fo s=>.fo s
 | .un=>.un | .va d=>.va d
inductive Ax (t:Str→Addr) (nm:List (Str×NameKind)) (N:List Str) (ρ:List Sl):List Str→List Sl→Prop
 | nil:Ax t nm N ρ [] []
 | un {y:Str} {M:List Str} {r:List Sl}:Ax t nm N ρ M r→Ax t nm N ρ (y::M) (.un::r)
 | fr {y:Str} {i:Nat} {s s':Sl} {M:List Str} {r:List Sl} (hN:At N i y) (hs:At ρ i s) (hy:(y,Te)∈nm) (ht:s.tag (t y)=s'):Ax t nm N ρ M r→Ax t nm N ρ (y::M) (s'::r)
theorem Ax.len (h:Ax t nm N ρ M r):M.length=r.length:=by
 induction h with
 | nil=>rfl
 | un t ih=>simp [ih]
 | fr hN hs hy ht t ih=>simp [ih]
inductive FI:List Sl→List Sl→Prop
 | nil:FI [] []
 | un {r:Sl} {a b:List Sl}:FI a b→FI (.un::a) (r::b)
 | same {r:Sl} {a b:List Sl}:FI a b→FI (r::a) (r::b)
theorem FI.weak (h:FI a b):a.length=b.length∧∀ (i:Nat) (r:Sl),a[i]?=some r→r≠.un→b[i]?=some r:=by
 induction h with
 | nil=>exact ⟨rfl,fun i r e=>by simp at e⟩
 | un t ih=>exact ⟨by simp [ih.1],fun i r e hu=>by cases i with | zero=>simp at e; exact absurd e.symm hu | succ i=>simpa using ih.2 i r (by simpa using e) hu⟩
 | same t ih=>exact ⟨by simp [ih.1],fun i r e hu=>by cases i with | zero=>simpa using e | succ i=>simpa using ih.2 i r (by simpa using e) hu⟩
section
variable {K:QM}
noncomputable def sE (c:Ctx P w K mg base k N sc bk):List Expr→List Sl→(Bool→Prop)→Prop
 | [],_,T=>T true
 | t::ts,ρ,T=>jL c t ρ (n5 (sE c ts ρ T) (T false))
theorem pe (hq:c.X.xe=jO):∀ (ifs:List Expr) {H Hf:Hp} {s:Shared},bC c σ H Hf ρ→sE c ifs ρ T→(∀ b H' ai,T b→bu H Hf H' ai→Q b H')→Inv c.X aa σ H s →
 wpAny (model c.X.prog c.X.w) c.X.A (forIn ifs true fun t r=>if r=true then do let ok ← isTrue t c.X.env (eval t c.X.env); pure (RQ ok) else pure (RQ r)) (TP c.X aa σ Q) jO s
 | [],H,Hf,s,S,h,q,I=>wpAny_tests_nil ⟨H,I,q true H Hf h (.refl S.sb)⟩
 | t::ts,H,Hf,s,S,h,q,I=>by
  have h0:=h σ H Hf (fun b H'=>∃ ai,n5 (sE c ts ρ T) (T false) b∧bu H Hf H' ai) S (fun b H' ai hb g=>⟨ai,hb,g⟩) aa s I
  rw [hq] at h0
  refine u6 (bD h0 fun b s' ⟨H',I',ai,hb,g⟩=>?_)
  cases b with
  | true=>exact pe hq ts (S.cE g) (hb.t rfl) (fun b H2 cK hT g2=>q b H2 cK hT (g.trans g2)) I'
  | false=>exact ⟨H',I',q false H' ai (hb.f rfl) g⟩
end
theorem l6:∀ (names:List (Str×NameKind)) (cs:List (Str×Addr)),(∀ x∈names,x.2=.free→∃ a,env.cells.lookup x.1=some a) →
 ∃ cl,(forIn names cs (fun (x:Str×NameKind) (r:List (Str×Addr))=>(if (x.2 == Te)=true then do let a ← cellOf env x.1; pure (RQ ((x.1,a)::r)) else pure (RQ r):Sem (ForInStep (List (Str×Addr))))))=(pure cl:Sem (List (Str×Addr))) ∧
  (∀ y a,cl.lookup y=some a→cs.lookup y=some a∨env.cells.lookup y=some a∧(y,Te)∈names)∧(∀ y a,(y,Te)∈names∨(∃ b,cs.lookup y=some b∧env.cells.lookup y=some b)→env.cells.lookup y=some a→cl.lookup y=some a)
 | [],cs,_=>⟨cs,rfl,fun y a e=>.inl e,fun y a h e=>by
  rcases h with h | ⟨b,h1,h2⟩
  ·cases h
  ·rw [e] at h2; cases h2; exact h1⟩
 | (n,kd)::r,cs,h=>by
  by_cases hk:kd=.free
  ·subst hk
   obtain ⟨a,ea⟩:=h (n,.free) Q6 rfl
   obtain ⟨cl,e1,e2,e3⟩:=l6 r ((n,a)::cs) fun x hx=>h x (Q9 _ hx)
   refine ⟨cl,?_,fun y b e=>?_,fun y b hy e=>?_⟩
   ·rw [T9]
    simp only [beq_self_eq_true,if_true,cellOf,ea,pure_bind]
    exact e1
   ·rcases e2 y b e with z | ⟨z1,z2⟩
    ·rw [W9] at z
     cases q:(y == n) with
     | true =>
      rw [q] at z; cases z
      have:y=n:=by simpa using q
      subst this
      exact .inr ⟨ea,Q6⟩
     | false=>rw [q] at z; exact .inl z
    ·exact .inr ⟨z1,Q9 _ z2⟩
   ·refine e3 y b ?_ e
    rcases hy with hy | ⟨b',h1,h2⟩
    ·rcases Q0.mp hy with z | z
     ·cases z; exact .inr ⟨a,by simp,ea⟩
     ·exact .inl z
    ·refine .inr ⟨b',?_,h2⟩
     rw [W9]
     cases q:(y == n) with
     | true =>
      have:y=n:=by simpa using q
      subst this
      rw [ea] at h2; exact h2
     | false=>exact h1
  ·have hb:(kd == Te)=false:=by simpa using hk
   obtain ⟨cl,e1,e2,e3⟩:=l6 r cs fun x hx=>h x (Q9 _ hx)
   refine ⟨cl,?_,fun y b e=>?_,fun y b hy e=>?_⟩
   ·rw [T9]
    simp only [hb,RO,if_false,pure_bind]
    exact e1
   ·rcases e2 y b e with z | ⟨z1,z2⟩
    ·exact .inl z
    ·exact .inr ⟨z1,Q9 _ z2⟩
   ·refine e3 y b ?_ e
    rcases hy with hy | hy
    ·rcases Q0.mp hy with z | z
     ·cases z; exact absurd rfl hk
     ·exact .inl z
    ·exact .inr hy
theorem FJ (h:∀ x∈scope.names,x.2=.free→∃ a,env.cells.lookup x.1=some a) :
 ∃ cl,closureFor scope env=pure cl∧(∀ y a,cl.lookup y=some a→env.cells.lookup y=some a∧(y,Te)∈scope.names)∧(∀ y a,(y,Te)∈scope.names→env.cells.lookup y=some a→cl.lookup y=some a):=by
 obtain ⟨cl,e1,e2,e3⟩:=l6 scope.names [] h
 refine ⟨cl,?_,fun y a e=>?_,fun y a hy e=>e3 y a (.inl hy) e⟩
 ·unfold closureFor
  have e1':=congrArg (· >>= fun cs=>(pure cs:Sem _)) e1
  simp only [pure_bind] at e1'
  exact e1'
 ·rcases e2 y a e with z | z
  ·simp at z
  ·exact z
section
variable {P:Program} {w:World} {K:QM} {mg:Str→Option Value} {base:Heap} {k:Nat} {N:List Str} {sc:Scope} {bk:Bool} {c:Ctx P w K mg base k N sc bk} {ρ:List Sl} {pos:Pos}
noncomputable def xh (c:Ctx P w K mg base k N sc bk) (tg:Expr) (ifs:List Expr) (elt:Expr) (ρ0:List Sl) (d:D) (o:Option D):Prop :=
 nX c tg d ρ0 fun ρ1=>FI ρ0 ρ1∧sE c ifs ρ1 (n5 (aH c elt ρ1 fun e=>o=some e) (o=none))
theorem je {nm:List (Str×NameKind)}:∀ {y:Str} {kd:NameKind},(nm.map fun (x:Str×NameKind)=>match x with | (n,k)=>(if (k == .free && sc.kind == .function && sc.names.lookup n == some .cell)=true then (n,NameKind.cell) else (n,k))).lookup y=some kd→∃ k0,(y,k0)∈nm∧(kd=k0∨kd=.cell∧k0=.free):=by
 induction nm with
 | nil=>intro y kd h; simp at h
 | cons x r ih =>
  obtain ⟨n,k0⟩:=x
  intro y kd h
  rw [QW,W9] at h
  by_cases e:(k0 == .free && sc.kind == .function && sc.names.lookup n == some .cell)=true
  ·simp only [e,if_true] at h
   cases q:(y == n) with
   | true =>
    rw [q] at h; cases h
    have:y=n:=by simpa using q
    subst this
    have hf:k0=.free:=by simp only [UY,beq_iff_eq] at e; exact e.1.1
    exact ⟨k0,Q6,.inr ⟨rfl,hf⟩⟩
   | false=>rw [q] at h; obtain ⟨k1,h1,h2⟩:=ih h; exact ⟨k1,Q9 _ h1,h2⟩
  ·simp only [e,RO,if_false] at h
   cases q:(y == n) with
   | true =>
    rw [q] at h; cases h
    have:y=n:=by simpa using q
    subst this
    exact ⟨k0,Q6,.inl rfl⟩
   | false=>rw [q] at h; obtain ⟨k1,h1,h2⟩:=ih h; exact ⟨k1,Q9 _ h1,h2⟩
theorem Ax.start {σ:L2.St} (h:Ax t nm N ρ M r) (hσ:∀ (i:Nat) (s:Sl),ρ[i]?=some s→s≠.un→∃ v,σ[i]?=some (some v)) :
 ∃ σ0:L2.St,σ0.length=r.length∧∀ (j:Nat) (s:Sl),r[j]?=some s→(s=.un∧σ0[j]?=some none)∨∃ (i:Nat) (y:Str) (v:V) (s0:Sl),M[j]?=some y∧(y,Te)∈nm∧N[i]?=some y∧ρ[i]?=some s0∧s=s0.tag (t y)∧s0≠.un∧σ[i]?=some (some v)∧σ0[j]?=some (some v):=by
 induction h with
 | nil=>exact ⟨[],rfl,fun j s e=>by simp at e⟩
 | un t ih =>
  obtain ⟨σ0,hl,h0⟩:=ih
  refine ⟨none::σ0,by simp [hl],fun j s e=>?_⟩
  cases j with
  | zero=>simp at e; exact .inl ⟨e.symm,by simp⟩
  | succ j =>
   rcases h0 j s (by simpa using e) with ⟨h1,h2⟩ | ⟨i,y,v,s0,h1,h2,h3,h4,h5,h6,h7,h8⟩
   ·exact .inl ⟨h1,by simpa using h2⟩
   ·exact .inr ⟨i,y,v,s0,by simpa using h1,h2,h3,h4,h5,h6,h7,by simpa using h8⟩
 | @fr y i s' s'' M r hN hs hy ht t ih =>
  obtain ⟨σ0,hl,h0⟩:=ih
  by_cases hu:s'=.un
  ·refine ⟨none::σ0,by simp [hl],fun j s e=>?_⟩
   cases j with
   | zero=>simp at e; subst hu; exact .inl ⟨e.symm.trans ht.symm,by simp⟩
   | succ j =>
    rcases h0 j s (by simpa using e) with ⟨h1,h2⟩ | ⟨i,y,v,s0,h1,h2,h3,h4,h5,h6,h7,h8⟩
    ·exact .inl ⟨h1,by simpa using h2⟩
    ·exact .inr ⟨i,y,v,s0,by simpa using h1,h2,h3,h4,h5,h6,h7,by simpa using h8⟩
  ·obtain ⟨v,ev⟩:=hσ i s' hs.get hu
   refine ⟨some v::σ0,by simp [hl],fun j s e=>?_⟩
   cases j with
   | zero=>simp at e; subst e; exact .inr ⟨i,y,v,s',by simp,hy,hN.get,hs.get,ht.symm,hu,ev,by simp⟩
   | succ j =>
    rcases h0 j s (by simpa using e) with ⟨h1,h2⟩ | ⟨i,y,v,s0,h1,h2,h3,h4,h5,h6,h7,h8⟩
    ·exact .inl ⟨h1,by simpa using h2⟩
    ·exact .inr ⟨i,y,v,s0,by simpa using h1,h2,h3,h4,h5,h6,h7,by simpa using h8⟩
noncomputable def Sl.adr:Sl→Option Addr | .aw a _=>some a | .aT a _=>some a | .aK a _=>some a | _=>none
theorem pq {s:Sl}:(s.tag a).owned=s.owned:=by cases s <;> rfl
theorem FL {s:Sl} (h:s.owned=true):∃ b,(s.tag a).adr=some b:=by cases s <;> first | exact ⟨_,rfl⟩ | cases h
theorem xj (hv:s.owned=true→v=.ref a) (h:aZ K fr H Hf s v):aZ K fr H Hf (s.tag a) v:=by
 cases s with
 | ow ds=>obtain ⟨p,xs,e,f,r⟩:=h; exact ⟨p,xs,e,⟨f,by have:=hv rfl; rw [e] at this; cases this; rfl⟩,r⟩
 | oT ds=>obtain ⟨p,xs,e,f,r⟩:=h; exact ⟨p,xs,e,⟨f,by have:=hv rfl; rw [e] at this; cases this; rfl⟩,r⟩
 | oK ds=>obtain ⟨p,xs,e,f,r⟩:=h; exact ⟨p,xs,e,⟨f,by have:=hv rfl; rw [e] at this; cases this; rfl⟩,r⟩
 | _=>exact h
theorem xm (hb:s.adr=some b) (h:aZ K fr H Hf s (.ref p)):p=b:=by
 cases s with
 | aw a ds=>cases hb; obtain ⟨q,xs,e,f,r⟩:=h; cases e; exact f.2
 | aT a ds=>cases hb; obtain ⟨q,xs,e,f,r⟩:=h; cases e; exact f.2
 | aK a ds=>cases hb; obtain ⟨q,xs,e,f,r⟩:=h; cases e; exact f.2
 | _=>cases hb
theorem c6.apart (S:c6 K H₀ dS σ H Hf ρ) (h0:H₀ a=none) (hf:Hf a=none) (nf:¬ A6 H a) (ha:∀ (i:Nat) (r:Sl),ρ[i]?=some r→r.owned=true→σ[i]?≠some (some (.ref a))):c6 K H₀ dS σ (L2.upd H a o) Hf ρ :=
 ⟨⟨fun b u e=>by rw [L2.aj (aC e h0)]; exact S.bas.s b u e,S.bas.f,fun b u e=>by rw [L2.aj (aC e hf)]; exact S.bas.b b u e,S.bas.n⟩,S.len,fun i r hi hu=>by
   obtain ⟨v,e,q⟩:=S.at_ i r hi hu
   refine ⟨v,e,?_⟩
   have hg:bu (del H a) Hf (L2.upd H a o) Hf:=gX S.bas.b hf
   exact (q.M6 (p:=a) nf fun ow z=>by subst z; exact ha i r hi ow e).cE hg,S.sep⟩
theorem qx (g:bu H1 aP H' ai) (h1:H1 a=none) (hf:ai a=none):bu H1 aP (upd H' a o) ai :=
 ⟨fun b u e=>by rw [aj (aC e h1)]; exact g.s b u e,g.f,fun b u e=>by rw [aj (aC e hf)]; exact g.b b u e,g.n⟩
theorem xo {elt tg iter:Expr} {ifs:List Expr} {scope:Scope} {N':List Str} {ρ0:(Str→Addr)→List Sl} {R:Sl→Prop} (hq:c.X.xe=jO) (hfr:∀ t,Ax t scope.names N ρ N' (ρ0 t))
 (h:yO c tg iter ρ fun ds=>Sd (ds.length≤sizeLine) (∃ os:List (Option D),os.length=ds.length ∧
   (∀ c':Ctx P w K mg base k N' (bK scope sc) true,c'.X.xe=jO→∀ (t:Str→Addr) (i:Nat) (d:D) (o:Option D),ds[i]?=some d→os[i]?=some o→xh c' tg ifs elt (ρ0 t) d o)∧R (.ow (os.filterMap id))))
 (hk:scope.kind=.function:=by walk_at "u") (hnc:∀ x∈scope.names,x.2≠.cell:=by decide +kernel) (hnl:∀ x∈scope.names,x.2=.local→scope.names.lookup x.1=some .local:=by decide +kernel)
 (hfree:∀ x∈scope.names,x.2=.free→sc.names.lookup x.1=some .cell:=by decide +kernel) (hnd:N'.Nodup:=by decide +kernel) (hv:∀ x∈N',Loc (bK scope sc) x:=by unfold L2.Loc; decide +kernel)
 (hvf:∀ x∈scope.names,x.2=.free→(bK scope sc).names.lookup x.1=some .cell:=by decide +kernel)
 (hs:∀ env v,foldedSetIterable iter env v=pure v:=by intro _ _; walk_at "u")
 {σ:L2.St} {H Hf:Hp} (S:bC c σ H Hf ρ) {aa:List (Addr×Obj)} {s:Shared} (I:Inv c.X aa σ H s) {use:Option (Value→Sem Unit)} {QQ:Value→Shared→Prop}
 (kont:∀ (s':Shared) (H' ai:Hp) (a C:Addr) (r:Sl),R r→(∃ m,s'.heap.Ns C m)→C∉c.X.fs→fC c.X aa H' C→aZ c.X.K (fun p=>H p=none) H' ai r (.ref a)→bu H Hf H' ai→(∀ h5,SH C s'.heap h5→Inv c.X aa σ H' { s' with heap:=h5 })→compPost (model c.X.prog c.X.w) c.X.A jO use QQ (.ref a) C (.ok .next) s') :
 wpAny (model c.X.prog c.X.w) c.X.A (comprehension (.ListComp elt [⟨tg,iter,ifs,0⟩] scope pos) scope c.X.env (firstIterPos [⟨tg,iter,ifs,0⟩] pos) (newList []) (firstAsync [⟨tg,iter,ifs,0⟩]) (firstIter [⟨tg,iter,ifs,0⟩] c.X.env) use) QQ jO s:=by
 have hI:=h σ H Hf (fun J H1=>∃ ds aP,Sd (ds.length≤sizeLine) (∃ os:List (Option D),os.length=ds.length ∧
  (∀ c':Ctx P w K mg base k N' (bK scope sc) true,c'.X.xe=jO→∀ (t:Str→Addr) (i:Nat) (d:D) (o:Option D),ds[i]?=some d→os[i]?=some o→xh c' tg ifs elt (ρ0 t) d o)∧R (.ow (os.filterMap id)))∧bu H Hf H1 aP∧jM c.X.K J ds aP) S (fun ds J H' ai hR g io=>⟨ds,ai,hR,g,io⟩) aa s I
 rw [hq] at hI
 have hcells:∀ x∈scope.names,x.2=.free→∃ a,c.X.env.cells.lookup x.1=some a:=fun x hx hf=>I.ok.has x.1 (.inl (by unfold Rz; rw [c.esc]; exact hfree x hx hf))
 obtain ⟨cl,hclos,Au,hcl2⟩:=FJ hcells
 refine wpAny_comprehension_free (cl:=cl) (use:=use) rfl (hs _) hclos hk hnl ?_
 refine bD (show wpAny _ _ (eval iter c.X.env) _ _ _ from hI) fun v s1 h1=>bD h1 fun itv s2 hh=>z5 hh fun it fp tn J H1 hh=>w6 hh fun e0 I1 Tn t0 hfp hh=>z2 hh fun ds aP hh=>w3 hh fun hz g io=>?_
 obtain ⟨hz,os,hh⟩:=hz
 refine w3 hh fun hol hb hR=>?_
 subst e0
 have hcell':∀ y∈scope.names,y.2≠.cell:=hnc
 refine R0 (wpAny_newFunctionEnv hcell' (by intro y hy; simp at hy) (fun h4 hns hsb=>?_) hk)
 dsimp only at hns hsb ⊢
 generalize hDe:s2.heap.objs.size=Da at *
 have k3:∀ b u,s2.heap.get? b=some u→(s2.heap.push { cls:=.type "list",dict:=none,data:=.seq ([]:List Value).toArray }).get? b=some u:=fun b u e=>QV _ e
 generalize hH3:s2.heap.push { cls:=.type "list",dict:=none,data:=.seq ([]:List Value).toArray }=h3 at *
 have hCe:h3.objs.size=Da+1:=by rw [← hH3,SD,hDe]
 have hgD:h3.get? Da=some { cls:=.type "list",dict:=none,data:=.seq ([]:List Value).toArray }:=by rw [← hH3,← hDe]; exact Q5 _ rfl
 have wA:H1 Da=none:=by rw [← hDe]; exact I1.hok.fresh (QS _)
 have I3:Inv c.X aa σ (upd H1 Da (.lst [])) { s2 with heap:=h3,toks:=s2.toks }:=I1.laid (a:=Da) (o:=.lst []) (t':=s2.toks) k3 (by rw [hDe]; exact QS _) ⟨Rq _,[],0,.nil,hgD⟩
 have fpne:∀ b∈fp,b≠Da:=fun b hb z=>by
  obtain ⟨o,e,_⟩:=Tn.obj _ _ t0 b hb
  subst z
  exact absurd (QX e) (by rw [hDe]; exact Sv _)
 have fplt:∀ b∈fp,b<h3.objs.size:=fun b hb=>by
  obtain ⟨o,e,_⟩:=Tn.obj _ _ t0 b hb
  exact QX (k3 b o e)
 let s3:Shared:={ s2 with heap:=h3,toks:=s2.toks }
 let H2:Hp:=upd H1 Da (.lst [])
 let X':Cx:={ prog:=c.X.prog,w:=c.X.w,K:=c.X.K,mg:=c.X.mg,base:=c.X.base,A:=c.X.A,N:=N',s₀:=s3,H₀:=H2,env:=compEnvC scope cl h3.objs.size c.X.env,outer:=c.X.stack,stack:=c.X.stack,ex:=fp,fn:=fun _=>false,calm:=true,pn:=[],xe:=jO }
 have S1:=S.cE g
 have S2:bC c σ H2 aP ρ:=S1.cE (bu.gp g.b wA)
 obtain ⟨t,ht⟩:∃ t:Str→Addr,∀ (i:Nat) (y:Str) (p:Addr),N[i]?=some y→σ[i]?=some (some (.ref p))→t y=p:=by
  classical
  refine ⟨fun y=>if h:∃ (i:Nat) (p:Addr),N[i]?=some y∧σ[i]?=some (some (.ref p)) then h.choose_spec.choose else 0,fun i y p e1 e2=>?_⟩
  have h:∃ (i:Nat) (p:Addr),N[i]?=some y∧σ[i]?=some (some (.ref p)):=⟨i,p,e1,e2⟩
  show (if h:_ then _ else _)=p
  rw [dif_pos h]
  obtain ⟨e3,e4⟩:=h.choose_spec.choose_spec
  have hi:h.choose<N.length:=(Q2.mp e3).1
  have e5:h.choose=i:=(List.getElem?_inj hi c.nd).mp (e3.trans e1.symm)
  have e6:=(congrArg (fun z=>σ[z]?) e5).symm.trans e4
  rw [show σ[i]?=some (some (.ref p)) from e2] at e6
  have e4:=e6
  exact (V.ref.inj (Sz (Sz e4))).symm
 have hfr:=hfr t
 generalize hρ:ρ0 t=ρt at hfr
 obtain ⟨σ0,hσl,hσ0⟩:=hfr.start (σ:=σ) fun i s e hu=>let ⟨v,e2,_⟩:=S2.at_ i s e hu; ⟨v,e2⟩
 have k4:∀ b u,h3.get? b=some u→h4.get? b=some u:=fun b u e=>hsb.extBut b u (Ri (QX e)) (QV _ e)
 have hsc:X'.env.scope=bK scope sc:=sD c.esc
 have okX:X'.Ok:={
  mod:=I3.ok.mod
  kind:=hk
  glob:=I3.ok.glob
  blt:=I3.ok.blt
  above:=QS _
  inj:=fun x y a e1 e2=>I3.ok.inj x y a (Au x a e1).1 (Au y a e2).1
  has:=fun x hx=>by
   have key:(x,Te)∈scope.names:=by
    have hx':(bK scope sc).names.lookup x=some .cell∨(bK scope sc).names.lookup x=some .free:=by
     unfold Rz at hx; rw [hsc] at hx; exact hx
    rcases hx' with hx' | hx'
    ·obtain ⟨k0,h1,h2⟩:=je hx'
     rcases h2 with h2 | ⟨_,h2⟩
     ·subst h2; exact absurd rfl (hnc _ h1)
     ·subst h2; exact h1
    ·obtain ⟨k0,h1,h2⟩:=je hx'
     rcases h2 with h2 | ⟨h2,_⟩
     ·subst h2; exact h1
     ·cases h2
   obtain ⟨a,ea⟩:=hcells _ key rfl
   exact ⟨a,hcl2 x a key ea⟩
  cab:=fun x a hf=>by cases hf
  hd:=fun _=>I3.ok.hd c.calm
  frames:=I3.ok.frames
  stk:=.inl rfl
  exf:=fun b hb=>⟨Ri (fplt b hb),fun x a ea=>(hfp b hb).2.2.2.2.1 x a (Au x a ea).1⟩
  bs:=I3.bs
  bsz:=Q4 I3.ok.bsz I3.sz
  noex:=fun b o e hb=>by
   rcases (hfp b hb).2.2.2.1 with z | z
   ·exact I3.ok.noex b o e z
   ·exact absurd (RG (QX e) (Q4 I3.ok.bsz z)) (Sv _)
  exfs:=fun b hb m=>by
   rcases Q0.mp (I3.uM b m) with z | z
   ·exact (hfp b hb).2.1 z
   ·exact (hfp b hb).2.2.1 z
  jI:=I3.stack
  frf:=I3.wB }
 have I4:Inv X' [] σ0 H2 { s2 with heap:=h4,toks:=s2.toks+([]:List (Str×Value)).length }:={
  ok:=okX
  os:=rfl
  bare:=I3.bare
  base:=Un.kept k4
  loc:=⟨_,hns,fun j y v hy hv' _=>by
   have hj:j<ρt.length:=by
    have:=(Q2.mp hv').1
    rw [hσl] at this; exact this
   rcases hσ0 j ρt[j] (Ro hj) with ⟨_,z⟩ | hh
   ·rw [z] at hv'; cases hv'
   ·refine z4 hh fun i y' v' s0 hh=>w8 hh fun h1 h2 h3' h4' hs5 hs6 h5 h6=>?_
    rw [h6] at hv'; cases hv'
    have hy':N'[j]?=some y:=hy
    rw [h1] at hy'; cases hy'
    obtain ⟨m0,hm0,hl⟩:=I3.loc
    have hkc:c.X.env.kindOf y=some .cell:=by unfold Rz; rw [c.esc]; exact hfree _ h2 rfl
    obtain ⟨u,r,lk⟩:=hl i y v (by rw [c.eN]; exact h3') h5 (.inr (.inl hkc))
    refine ⟨u,r,?_⟩
    rcases lk with ⟨q1,_⟩ | ⟨_,a,e1,e2⟩
    ·rw [hkc] at q1; cases q1
    ·refine .inr ⟨.inl ?_,a,hcl2 _ a h2 e1,?_⟩
     ·show List.lookup y X'.env.scope.names=_
      rw [hsc]; exact hvf _ h2 rfl
     ·obtain ⟨oc,e3,e4⟩:=e2
      exact ⟨oc,k4 _ _ e3,e4⟩⟩
  cell:=fun x a ea=>by
   obtain ⟨v',oc,e3,e4⟩:=I3.cell x a (Au x a ea).1
   exact ⟨v',oc,k4 _ _ e3,e4⟩
  free:=I3.hok.fresh (QS _)
  freeC:=fun x a ea=>I3.freeC x a (Au x a ea).1
  pin:=fun q hq'=>by simp at hq'; cases hq'
  hok:=I3.hok.kept k4
  len:=by rw [hσl]; exact hfr.len.symm }
 let c':Ctx P w K mg base k N' (bK scope sc) true :=
  { X:=X',eP:=c.eP,ew:=c.ew,eK:=c.eK,emg:=c.emg,eb:=c.eb,eN:=rfl,esc:=hsc,calm:=rfl,top:=fun z=>(by cases z),cb:=fun z=>(by cases z),fn:=fun x hx=>.inr (by rw [hsc]; exact hx.resolve_left (fun z=>by cases z)),room:=c.room,nd:=hnd,vis:=hv,
    Hf:=c.Hf,B:=c.B,RX:=fun _ _=>False,exc:=fun _ _ _ _ _ _ _ _ _ _ _ _ h _ _=>h.elim,RM:=fun _ _=>False,mde:=fun _ _ _ _ _ _ _ _ _ _ _ _ h _=>h.elim }
 have hN0:N'.length=ρt.length:=hfr.len
 have S4:bC c' σ0 H2 aP ρt:=by
  refine ⟨S2.bas,hσl,fun j r hj hu=>?_,fun j j' r r' p hne e1 e2 o1 o2 f1 f2=>?_⟩
  ·rcases hσ0 j r hj with ⟨z,_⟩ | hh
   ·exact absurd z hu
   ·refine z4 hh fun i y v s0 hh=>w8 hh fun h1 h2 h3' h4' hs5 hs6 h5 h6=>?_
    obtain ⟨v',e3,q3⟩:=S2.at_ i s0 h4' hs6
    rw [h5] at e3; cases e3
    subst hs5
    exact ⟨v,h6,xj (fun ow=>by
     obtain ⟨p,_,rfl,_⟩:=q3.sj ow
     rw [ht i y p h3' h5]) q3⟩
  ·have u1:r≠.un:=by rintro rfl; cases o1
   have u2:r'≠.un:=by rintro rfl; cases o2
   rcases hσ0 j r e1 with ⟨z,_⟩ | hh
   ·exact u1 z
   rcases hσ0 j' r' e2 with ⟨z,_⟩ | hh'
   ·exact u2 z
   refine z4 hh fun i y v s0 hh=>w8 hh fun h1 h2 h3' h4' hs5 hs6 h5 h6=>z4 hh' fun i' y' v' s0' hh'=>w8 hh' fun h1' h2' h3'' h4'' hs5' hs6' h5' h6'=>?_
   rw [f1] at h6; cases h6
   rw [f2] at h6'; cases h6'
   have hii:i≠i':=fun z=>by
    subst z
    rw [h3'] at h3''; cases h3''
    have a1:j<N'.length:=(Q2.mp h1).1
    exact hne ((List.getElem?_inj a1 hnd).mp (h1.trans h1'.symm))
   subst hs5; subst hs5'
   rw [pq] at o1 o2
   exact S2.sep i i' s0 s0' p hii h4' h4'' o1 o2 h5 h5'
 have howA:∀ (j:Nat) (r:Sl),ρt[j]?=some r→r.owned=true→∃ b,r.adr=some b∧b≠Da:=fun j r hj ho=>by
  rcases hσ0 j r hj with ⟨z,_⟩ | hh
  ·subst z; cases ho
  ·refine z4 hh fun i y v s0 hh=>w8 hh fun h1 h2 h3' h4' hs5 hs6 h5 h6=>?_
   subst hs5
   rw [pq] at ho
   obtain ⟨b,eb⟩:=FL (a:=t y) ho
   refine ⟨b,eb,fun z=>?_⟩
   obtain ⟨v',e3,q3⟩:=S1.at_ i s0 h4' hs6
   obtain ⟨p,o,e4,_,e5,_⟩:=q3.sj ho
   subst e4
   have q4:=xj (a:=t y) (fun _=>by rw [ht i y p h3' e3]) q3
   have:=xm eb q4
   rw [this,z,wA] at e5; cases e5
 have hB0:c.B Da=none:=S1.bas.s.free wA
 have fps:∀ {H':Hp},(∀ b∈fp,H' b=none)→∀ b∈fp,fC X' [] H' b:=fun hn b hb =>
  ⟨hn b hb,Ri (fplt b hb),okX.exfs b hb,.inl hb,fun x a ea=>(hfp b hb).2.2.2.2.1 x a (Au x a ea).1,fun p hp=>by cases hp⟩
 have fin:∀ (s':Shared) (σ':L2.St) (H' ai:Hp) (vs:List V),Inv X' [] σ' H' s'→bu H1 aP H' ai→H' Da=some (.lst vs)→ai Da=none→ak c.X.K ai (os.filterMap id) vs →
  compPost (model c.X.prog c.X.w) c.X.A jO use QQ (.ref Da) h3.objs.size (.ok .next) s':=fun s' σ' H' ai vs I' g' hD hfD hr=>by
  obtain ⟨m,hm,_⟩:=I'.loc
  have hCX:h3.objs.size∉c.X.fs:=I3.LU (QS _)
  have hCf:fC c.X aa H' h3.objs.size:=by
   refine ⟨I'.free,fun z=>?_,hCX,.inr I3.sz,fun x a ea z=>?_,fun p hp z=>?_⟩
   ·obtain ⟨m0,hm0,_⟩:=I3.loc
    obtain ⟨o,_,_,e,_⟩:=hm0
    exact absurd (QX e) (by rw [← z]; exact Sv _)
   ·obtain ⟨v',oc,e,_⟩:=I3.cell x a ea
    exact absurd (QX e) (by rw [z]; exact Sv _)
   ·exact absurd (QX (I3.pin p hp).1) (by rw [z]; exact Sv _)
  refine kont s' H' ai Da h3.objs.size (.ow (os.filterMap id)) hR ⟨m,hm⟩ hCX hCf ⟨Da,vs,rfl,g.s.free wA,hD,hfD,hr⟩ (g.trans g') fun h5 Av=>?_
  have ub:Un (frs c.X.stack) fp H2 H' s3.heap h5:=by
   have u:=I'.base
   have ne:∀ b o,s3.heap.get? b=some o→b≠h3.objs.size:=fun b o e=>Ri (QX e)
   refine ⟨fun b o e n hf hx=>(Av.2 b (ne b o e)).trans (u.keep b o e n hf hx),fun b o e n hf hx=>?_,u.free,fun b o e hx=>?_,u.tups,u.frzs,u.tbls⟩
   ·obtain ⟨sl,e2⟩:=u.slot b o e n hf hx
    exact ⟨sl,(Av.2 b (ne b o e)).trans e2⟩
   ·obtain ⟨o',e2⟩:=u.there b o e hx
    exact ⟨o',(Av.2 b (ne b o e)).trans e2⟩
  have hokf:jH c.X.prog c.X.w H' h5:=fun b u e=>(I'.hok b u e).stay (fun a o ha e2=>by
   refine (Av.2 a ?_).trans e2
   intro z; subst z
   have hfree':H' h3.objs.size=none:=I'.free
   rcases ha with z | z
   ·subst z; rw [hfree'] at e; cases e
   ·rw [hfree'] at z; cases z) (fun _ z=>z) fun _ _ z=>z
  exact I3.Hu (ch:=fp) I'.os ub hokf I'.bare fun b hb=>⟨(hfp b hb).2.2.2.1,(hfp b hb).2.1,(hfp b hb).2.2.2.2.1,(hfp b hb).2.2.2.2.2⟩
 have loop:codeAny (model c.X.prog c.X.w) c.X.A (.compLoop (.ListComp elt [⟨tg,iter,ifs,0⟩] scope pos) 0 (.ref it) (.ref Da) X'.env) (compPost (model c.X.prog c.X.w) c.X.A jO use QQ (.ref Da) h3.objs.size) { s2 with heap:=h4,toks:=s2.toks+([]:List (Str×Value)).length }:=by
  refine qw (fun n s'=>∃ (i:Nat) (σ':L2.St) (H' ai:Hp) (vs:List V),n=ds.length - i∧i≤ds.length∧Inv X' [] σ' H' s'∧tn i s'.heap∧bC c' σ' H' ai ρt∧bu H1 aP H' ai∧H' Da=some (.lst vs)∧ai Da=none∧ak c.X.K ai ((os.take i).filterMap id) vs∧vs.length≤i∧∀ b∈fp,H' b=none) ?_ ds.length
   ⟨0,σ0,H2,aP,[],by simp,Rq _,I4,Tn.keep _ _ _ t0 fun b hb o e=>k4 b o (k3 b o e),S4,bu.gp g.b wA,ah,g.b.free wA,by simpa using aA.mpr rfl,QS _,fun b hb=>by show upd H1 Da _ b=none; rw [aj (fpne b hb)]; exact (hfp b hb).1⟩
  refine fun n s5 hh=>z5 hh fun i σ5 H5 Hf5 vs hh=>w6 hh fun en hi I5 t5 S5 hh=>w6 hh fun g5 hD5 hfD5 hr5 hlv fr5=>?_
  subst en
  by_cases hlt:i<ds.length
  ·have ed:ds[i]?=some ds[i]:=Ro hlt
   have eo:os[i]?=some (os[i]'(by rw [hol]; exact hlt)):=Ro _
   generalize ds[i]=d at ed
   generalize os[i]'(by rw [hol]; exact hlt)=o at eo
   obtain ⟨hgo,hy⟩:=io.go i d H5 Hf5 g5.f g5.b ed
   refine bD (Tn.item X' rfl rfl rfl rfl i [] s5 σ5 H5 jO I5 (fps fr5) t5 hgo) fun r s6 hh=>hh.elim fun u hh=>w2 hh fun hr h6=>?_
   subst hr
   refine bD h6 fun _ s7 hh=>z2 hh fun x H7 hh=>w5 hh fun I7 rx y7 t7 fr7=>?_
   obtain ⟨Hf7,g7,rx7⟩:=hy x H7 y7
   have I7':=I7.pinned (fps fr7) (Tn.obj _ _ t7)
   have S7:bC c' σ5 H7 Hf7 ρt:=S5.cE g7
   have hasg0:=hb c' rfl t i d o ed eo
   rw [hρ] at hasg0
   have hasg:=hasg0 σ5 H7 Hf7 x (fun σ2 H2'=>∃ cK ρ1,bC c' σ2 H2' cK ρ1∧bu H7 Hf7 H2' cK∧FI ρt ρ1∧sE c' ifs ρ1 (n5 (aH c' elt ρ1 fun e=>o=some e) (o=none))) S7 rx7 (fun σ2 H2' cK ρ1 S' g' hw=>⟨cK,ρ1,S',g',hw⟩) _ s7 u I7' rx
   refine bD (show wpAny _ _ _ _ jO _ from hasg) fun _ s8 hh=>z2 hh fun σ8 H8 hh=>w2 hh fun I8 hh=>z2 hh fun Hf8 ρ8 hh=>w4 hh fun S8 g8 w8 hC8=>?_
   refine bD (pe (c:=c') rfl ifs S8 hC8 (Q:=fun b H'=>∃ ai,n5 (aH c' elt ρ8 fun e=>o=some e) (o=none) b∧bu H8 Hf8 H' ai) (fun b H' ai hb' g'=>⟨ai,hb',g'⟩) I8) fun b s9 hh=>hh.elim fun H9 hh=>w2 hh fun I9 hh=>hh.elim fun Hf9 hh=>w2 hh fun hb9 g9=>?_
   have g79:=(g7.trans g8).trans g9
   have hD9:H9 Da=some (.lst vs):=g79.s _ _ hD5
   have hfD9:Hf9 Da=none:=g79.n Da hfD5 (by rw [hD5]; simp) (by intro ys; rw [hD5]; simp)
   have keepT:∀ {σ':L2.St} {H':Hp} {s':Shared},Inv X' ([]++jJ fp s7.heap) σ' H' s'→tn (i+1) s'.heap∧∀ b∈fp,H' b=none:=fun {σ' H' s'} I' =>
    ⟨Tn.keep _ _ _ t7 fun b hb' ob e=>(I'.pin (b,ob) (RY _ (RY _ (dZ hb' e)))).1,fun b hb'=>by
      obtain ⟨ob,e,_⟩:=Tn.obj _ _ t7 b hb'
      exact (I'.pin (b,ob) (RY _ (RY _ (dZ hb' e)))).2.1⟩
   have wk:∀ {σ':L2.St} {H' ai:Hp},bC c' σ' H' ai ρ8→bC c' σ' H' ai ρt:=fun S'=>c6.weak S' w8.weak.1 w8.weak.2
   have tk:(os.take (i+1)).filterMap id=(os.take i).filterMap id++o.toList:=by
    rw [WV,eo,List.filterMap_append]
    cases o <;> rfl
   cases b with
   | false =>
    have eo':=hb9.f rfl
    subst eo'
    rw [if_neg QZ]
    obtain ⟨t9,fr9⟩:=keepT I9
    exact ⟨_,Nat.sub_lt_sub_left hlt (T6 i),i+1,σ8,H9,Hf9,vs,rfl,hlt,I9.fD,t9,wk (S8.cE g9),g5.trans g79,hD9,hfD9,by rw [tk]; simpa using hr5.mono g79.f,Nat.le_succ_of_le hlv,fr9⟩
   | true =>
    rw [if_pos rfl]
    have hev:=hb9.t rfl σ8 H9 Hf9 (fun v H'=>∃ ai e,o=some e∧Rep c.X.K ai e v∧bu H9 Hf9 H' ai) (S8.cE g9) (fun e v H' ai he r g'=>⟨ai,e,he,r,g'⟩) _ s9 I9
    refine bD (show wpAny _ _ _ _ jO _ from hev) fun u2 s10 hh=>z2 hh fun v2 H10 hh=>w3 hh fun I10 r10 hh=>z2 hh fun Hf10 e hh=>w3 hh fun eo' re g10=>?_
    subst eo'
    have hD10:H10 Da=some (.lst vs):=g10.s _ _ hD9
    have hfD10:Hf10 Da=none:=g10.n Da hfD9 (by rw [hD9]; simp) (by intro ys; rw [hD9]; simp)
    have app:=oS (X:=X') _ s10 σ8 H10 (.ref Da) [v2] (.ref Da) [u2] (fun _ H'=>H'=upd H10 Da (.lst (vs++[v2]))) I10 rfl (.cons r10 .nil) ⟨Da,vs,v2,rfl,rfl,hD10,RG (Tc hlv hlt) hz,rfl⟩
    refine bD (show wpAny _ _ _ _ jO _ from app) fun _ s11 ⟨_,H11,I11,_,e11⟩=>?_
    subst e11
    obtain ⟨t11,fr11⟩:=keepT I11
    have S10:bC c' σ8 H10 Hf10 ρ8:=(S8.cE g9).cE g10
    have gA:bu H1 aP (upd H10 Da (.lst (vs++[v2]))) Hf10:=qx ((g5.trans g79).trans g10) wA hfD10
    refine ⟨_,Nat.sub_lt_sub_left hlt (T6 i),i+1,σ8,_,Hf10,vs++[v2],rfl,hlt,I11.fD,t11,?_,gA,ah,hfD10,?_,by rw [Rr]; exact VL hlv,fr11⟩
    ·refine (wk S10).apart hB0 hfD10 (fun ⟨_,z⟩=>by rw [hD10] at z; cases z) fun j r hj ho=>fun z=>?_
     obtain ⟨b,eb,nb⟩:=howA j r hj ho
     obtain ⟨v',e3,q3⟩:=(wk S10).at_ j r hj (by rintro rfl; cases ho)
     rw [z] at e3; cases e3
     exact nb (xm eb q3).symm
    ·rw [tk]
     exact (hr5.mono (g79.f.trans g10.f)).append (by simpa using ak.one re)
  ·have e:i=ds.length:=Nat.le_antisymm hi (Nat.le_of_not_lt hlt)
   subst e
   refine bD (Tn.done X' rfl rfl rfl rfl ds.length [] s5 σ5 H5 jO I5 (fps fr5) t5 (io.stop _ H5 Hf5 g5.f g5.b (QS _))) fun r s6 ⟨hr,I6⟩=>?_
   subst hr
   refine fin s6 σ5 H5 Hf5 vs I6 g5 hD5 hfD5 ?_
   rw [UO (by rw [hol]; exact QS _)] at hr5
   exact hr5
 exact codeAny_compStart_list loop (Tn.self _ 0 _ _ _ (Tn.keep _ _ _ t0 fun b hb o e=>k4 b o (k3 b o e)) loop)
theorem d9 {elt tg iter:Expr} {ifs:List Expr} {scope:Scope} {N':List Str} {ρ0:(Str→Addr)→List Sl} {R:Sl→Prop} (hq:c.X.xe=jO) (hfr:∀ t,Ax t scope.names N ρ N' (ρ0 t))
 (h:yO c tg iter ρ fun ds=>Sd (ds.length≤sizeLine) (∃ os:List (Option D),os.length=ds.length ∧
   (∀ c':Ctx P w K mg base k N' (bK scope sc) true,c'.X.xe=jO→∀ (t:Str→Addr) (i:Nat) (d:D) (o:Option D),ds[i]?=some d→os[i]?=some o→xh c' tg ifs elt (ρ0 t) d o)∧R (.ow (os.filterMap id))))
 (hk:scope.kind=.function:=by walk_at "u") (hnc:∀ x∈scope.names,x.2≠.cell:=by decide +kernel) (hnl:∀ x∈scope.names,x.2=.local→scope.names.lookup x.1=some .local:=by decide +kernel)
 (hfree:∀ x∈scope.names,x.2=.free→sc.names.lookup x.1=some .cell:=by decide +kernel) (hnd:N'.Nodup:=by decide +kernel) (hv:∀ x∈N',Loc (bK scope sc) x:=by unfold L2.Loc; decide +kernel)
 (hvf:∀ x∈scope.names,x.2=.free→(bK scope sc).names.lookup x.1=some .cell:=by decide +kernel)
 (hs:∀ env v,foldedSetIterable iter env v=pure v:=by intro _ _; walk_at "u"):dz c (.ListComp elt [⟨tg,iter,ifs,0⟩] scope pos) ρ R:=fun σ H Hf Q S q aa s I=>by
 rw [hq]
 rw [show (eval (.ListComp elt [⟨tg,iter,ifs,0⟩] scope pos) c.X.env)=comprehension (.ListComp elt [⟨tg,iter,ifs,0⟩] scope pos) scope c.X.env (firstIterPos [⟨tg,iter,ifs,0⟩] pos) (newList []) (firstAsync [⟨tg,iter,ifs,0⟩]) (firstIter [⟨tg,iter,ifs,0⟩] c.X.env) from rfl]
 exact xo hq hfr h hk hnc hnl hfree hnd hv hvf hs S I fun s' H' ai a C r hr ⟨m,hm⟩ _ _ hrep g hJ=>⟨m,hm,fun h5 Av=>⟨.ref a,H',hJ h5 Av,rfl,q r _ H' ai hr hrep g⟩⟩
theorem qy:SH a h h:=⟨rfl,fun _ _=>rfl⟩
theorem FN (I:Inv X aa σ H s) (hC:fC X aa H C) (hsb:SH C s.heap h5):Inv X aa σ H { s with heap:=h5 }:=by
 refine I.Hu (ch:=[C]) rfl ⟨fun b o e _ _ hx=>?_,fun b o e _ _ hx=>⟨o.slots,?_⟩,fun b o e n _=>n,fun b o e hx=>⟨o,?_⟩,fun b xs e=>e,fun b o u e=>e,fun b ps e=>⟨#[],by simpa using e⟩⟩ (fun b u e=>(I.hok b u e).stay (fun a o ha e2=>?_) (fun _ z=>z) fun _ _ z=>z) I.bare fun b hb=>?_
 ·exact (hsb.2 b (fun z=>hx (by rw [z]; exact Q6))).trans e
 ·exact (hsb.2 b (fun z=>hx (by rw [z]; exact Q6))).trans e
 ·exact (hsb.2 b (fun z=>hx (by rw [z]; exact Q6))).trans e
 ·refine (hsb.2 a ?_).trans e2
  intro z; subst z
  rcases ha with z | z
  ·subst z; rw [hC.1] at e; cases e
  ·rw [hC.1] at z; cases z
 ·have:b=C:=by simpa using hb
  subst this
  exact ⟨hC.2.2.2.1,hC.2.1,hC.2.2.2.2.1,hC.2.2.2.2.2⟩
theorem J3 {elt tg iter:Expr} {ifs:List Expr} {scope:Scope} {N':List Str} {ρ0:(Str→Addr)→List Sl} {nx:List Sl→Prop} {p:Pt} {x:Str} {pos2 posA:Pos} {i:Nat} (hN:At N i x) (hq:c.X.xe=jO) (hfr:∀ t,Ax t scope.names N ρ N' (ρ0 t))
 (h:yO c tg iter ρ fun ds=>Sd (ds.length≤sizeLine) (∃ os:List (Option D),os.length=ds.length ∧
   (∀ c':Ctx P w K mg base k N' (bK scope sc) true,c'.X.xe=jO→∀ (t:Str→Addr) (i:Nat) (d:D) (o:Option D),ds[i]?=some d→os[i]?=some o→xh c' tg ifs elt (ρ0 t) d o)∧Nx ρ i nx (.ow (os.filterMap id))))
 (hsw:(pos2.line == pos.line && !scope.names.any fun (n,k)=>n == x && (k == NameKind.local || k == NameKind.cell))=true:=by decide +kernel) (hl:sc.names.lookup x=some .local:=by walk_at "u")
 (hk:scope.kind=.function:=by walk_at "u") (hnc:∀ x∈scope.names,x.2≠.cell:=by decide +kernel) (hnl:∀ x∈scope.names,x.2=.local→scope.names.lookup x.1=some .local:=by decide +kernel)
 (hfree:∀ x∈scope.names,x.2=.free→sc.names.lookup x.1=some .cell:=by decide +kernel) (hnd:N'.Nodup:=by decide +kernel) (hv:∀ x∈N',Loc (bK scope sc) x:=by unfold L2.Loc; decide +kernel)
 (hvf:∀ x∈scope.names,x.2=.free→(bK scope sc).names.lookup x.1=some .cell:=by decide +kernel)
 (hs:∀ env v,foldedSetIterable iter env v=pure v:=by intro _ _; walk_at "u"):fH c (.Assign [.Name x pos2] (.ListComp elt [⟨tg,iter,ifs,0⟩] scope pos) posA) ρ nx p:=fun σ H Hf D S o aa s I=>by
 have hsw':swapsWith (.ListComp elt [⟨tg,iter,ifs,0⟩] scope pos) (some (.Name x pos2)) posA.line c.X.env=pure true:=by
  have e1:c.X.env.blockKind=.function:=by unfold Env.blockKind; rw [show c.X.env.scope.kind=.function from I.ok.kind]; rfl
  have e2:c.X.env.kindOf x=some .local:=by unfold Rz; rw [c.esc]; exact hl
  show pure (c.X.env.blockKind == ScopeKind.function && c.X.env.kindOf x == some NameKind.local && pos2.line == pos.line && !scope.names.any fun (n,k)=>n == x && (k == NameKind.local || k == NameKind.cell))=pure true
  rw [e1,e2]; exact congrArg pure hsw
 rw [hq,exec_Assign_Name_used x pos2 _ posA hsw']
 refine QL (V0 ?_)
 refine QL ?_
 rw [show (evalThenUse (.ListComp elt [⟨tg,iter,ifs,0⟩] scope pos) c.X.env (assign (.Name x pos2) c.X.env))=(do let _ ← comprehension (.ListComp elt [⟨tg,iter,ifs,0⟩] scope pos) scope c.X.env (firstIterPos [⟨tg,iter,ifs,0⟩] pos) (newList []) (firstAsync [⟨tg,iter,ifs,0⟩]) (firstIter [⟨tg,iter,ifs,0⟩] c.X.env) (some (assign (.Name x pos2) c.X.env)); pure ()) from rfl]
 refine QL (xo hq hfr h hk hnc hnl hfree hnd hv hvf hs S I fun s' H' ai a C r hr ⟨m,hm⟩ hCX hCf hrep g hJ=>?_)
 have J:=hJ s'.heap qy
 obtain ⟨oC,es,ep,e1,e2,e3,e4⟩:=hm
 have fps:∀ b∈[C],fC c.X aa H' b:=fun b hb=>by rw [Q8.mp hb]; exact hCf
 have hob:∀ b∈[C],∃ o,s'.heap.get? b=some o∧∀ v:Option Value,o.data≠.cell v:=fun b hb=>by
  rw [Q8.mp hb]; exact ⟨oC,e1,fun v z=>by rw [e2] at z; cases z⟩
 have J2:=J.pinned fps hob
 have hmem:(C,oC)∈jJ [C] s'.heap:=dZ Q6 e1
 obtain ⟨ρ',hset,hx⟩:=hr
 have st:=A8 (qe (X:=c.X) (i:=i) (pos:=pos2) (by rw [c.eN]; exact c.nd) (by rw [c.eN]; exact hN.get) (by rw [c.esc]; exact c.vis x hN.mem) (c.fn x (.inr hl))) (v:=.ref a) (σ:=σ) (H:=H') (Q:=fun σ' H''=>D.nx σ' H'') (o.nx _ H' ai _ (hset.eq ▸ S.set g hrep) hx) _ s' (.ref a) J2 rfl
 rw [hq] at st
 refine bD st fun _ s'' ⟨σ',H'',I'',dn⟩=>?_
 have pC:=I''.pin (C,oC) (RY _ (RY _ hmem))
 refine ⟨m,⟨oC,es,ep,pC.1,e2,e3,e4⟩,fun h' hsb=>?_⟩
 have I3:Inv c.X aa σ' H'' s'':=I''.fD
 have I4:=FN I3 (C:=C) ⟨pC.2.1,hCf.2⟩ hsb
 exact QN (QN ⟨_,_,I4,dn⟩)
end
mutual
def D.nl:D→Prop
 | .lst _=>False
 | .fdK _ _=>False
 | .fdT _ _=>False
 | .tup ds=>D.qz ds
 | _=>True
def D.qz:List D→Prop
 | []=>True
 | d::ds=>d.nl∧D.qz ds
end
theorem xq:∀ {ds:List D},D.qz ds↔∀ d∈ds,d.nl
 | []=>by simp [D.qz]
 | d::ds=>by simp [D.qz,xq (ds:=ds)]
theorem fT {α:Type} {f:α→D} {l:List α} (h:∀ x∈l,(f x).nl):D.qz (l.map f):=xq.mpr fun d hd=>by
 obtain ⟨x,hx,rfl⟩:=Rj.mp hd
 exact h x hx
theorem jP:(D.int i).nl:=by simp [D.nl]
theorem jf (l:List Int):D.qz (l.map D.int):=fT fun x _=>jP
theorem qA (h:D.qz ds):(D.tup ds).nl:=by simpa [D.nl] using h
noncomputable def HO.mt:HO→Prop | .lst _=>True | .dK _=>True | .dT _=>True | _=>False
theorem yT {K:QM} (hp:Hf p=some o) (hm:HO.mt o) (h:dw K Hf a xs):dw K (del Hf p) a xs:=by
 rcases h with (h | ⟨o',h⟩) | h
 ·exact .inl (.inl (by rw [cA (by rintro rfl; rw [hp] at h; cases h; exact hm)]; exact h))
 ·exact .inl (.inr ⟨o',by rw [cA (by rintro rfl; rw [hp] at h; cases h; exact hm)]; exact h⟩)
 ·exact .inr h
mutual
theorem u7 {K:QM} {Hf:Hp} {p:Addr} {o:HO} (hp:Hf p=some o) (hm:HO.mt o):∀ (d:D) {v:V},d.nl→Rep K Hf d v→Rep K (del Hf p) d v
 | .non,_,_,h=>by simpa [Rep] using h
 | .bl _,_,_,h=>by simpa [Rep] using h
 | .int _,_,_,h=>by simpa [Rep] using h
 | .str _,_,_,h=>by simpa [Rep] using h
 | .adr _,_,_,h=>by simpa [Rep] using h
 | .tup ds,v,f,h=>by
  simp only [Rep] at h ⊢
  obtain ⟨a,xs,e,h1,h2⟩:=h
  exact ⟨a,xs,e,yT hp hm h1,qB hp hm ds (by simpa [D.nl] using f) h2⟩
 | .lst _,_,f,_=>by simp [D.nl] at f
 | .fdK _ _,_,f,_=>by simp [D.nl] at f
 | .fdT _ _,_,f,_=>by simp [D.nl] at f
 | .exc C,_,_,h=>by
  simp only [Rep] at h ⊢
  obtain ⟨a,e,h⟩:=h
  exact ⟨a,e,by rw [cA (by rintro rfl; rw [hp] at h; cases h; exact hm)]; exact h⟩
theorem qB {K:QM} {Hf:Hp} {p:Addr} {o:HO} (hp:Hf p=some o) (hm:HO.mt o):∀ (ds:List D) {xs:List V},D.qz ds→ak K Hf ds xs→ak K (del Hf p) ds xs
 | [],_,_,h=>by simpa [ak] using h
 | d::ds,xs,f,h=>by
  simp only [ak] at h ⊢
  simp only [D.qz] at f
  obtain ⟨x,r,e,h1,h2⟩:=h
  exact ⟨x,r,e,u7 hp hm d f.1 h1,qB hp hm ds f.2 h2⟩
end
noncomputable def Sl.nl:Sl→Prop
 | .va d=>d.nl
 | .ow ds=>D.qz ds
 | _=>False
theorem aZ.PM {K:QM} {H H' ai:Hp} (hp:ai p=some oz) (hm:HO.mt oz) (h0:H p=some o) (f:r.nl) (h:aZ K (fun p=>H p=none) H' ai r v):aZ K (fun p=>H p=none) H' (del ai p) r v:=by
 cases r with
 | va d=>exact u7 hp hm d f h
 | ow ds =>
  obtain ⟨q,xs,rfl,fq,h1,h2,h3⟩:=h
  refine ⟨q,xs,rfl,fq,h1,?_,qB hp hm ds f h3⟩
  rw [cA (by rintro rfl; rw [h0] at fq; cases fq)]; exact h2
 | _=>exact f.elim
section
variable {K:QM} {c:Ctx P w K mg base k N sc bk} {r:Sl}
noncomputable def Sl.kJ:Sl→Option D
 | .ow ds=>some (.lst ds) | .aw _ ds=>some (.lst ds)
 | _=>none
theorem l7 (h:r.kJ=some d):r.owned=true:=by cases r <;> first | rfl | cases h
theorem jg {kvs:List (κ×D)} {xs:List (κ×V)} (h:nL K Hf kvs xs):xs.map (·.1)=kvs.map (·.1)∧ak K Hf (kvs.map (·.2)) (xs.map (·.2)):=by
 unfold nL at h
 induction h with
 | nil=>exact ⟨rfl,aA.mpr rfl⟩
 | cons h t ih=>exact ⟨by rw [QW,QW,ih.1,h.1],.cons h.2 ih.2⟩
theorem fL (h:nM K Hf kvs xs):xs.map (·.1)=kvs.map (·.1)∧(∀ y∈xs,dw K Hf y.2.1 (y.1.map kV))∧ak K Hf (kvs.map (·.2)) (xs.map (·.2.2)):=by
 refine ⟨?_,h.BK,?_⟩
 ·unfold nM at h
  induction h with
  | nil=>rfl
  | cons h t ih=>rw [QW,QW,ih,h.1]
 ·unfold nM at h
  induction h with
  | nil=>exact aA.mpr rfl
  | cons h t ih=>exact .cons h.2.2 ih
theorem aZ.kJ (h:r.kJ=some d) (q:aZ K fr H Hf r v):∃ p o,v=.ref p∧fr p∧H p=some o∧Hf p=none∧HO.mt o∧Rep K (upd Hf p o) d v:=by
 have sf:∀ {p:Addr} {o:HO},Hf p=none→aM Hf (upd Hf p o):=fun hp b u e=>by rw [aj (aC e hp)]; exact e
 cases r with
 | ow ds=>cases h; obtain ⟨p,xs,rfl,f,h1,h2,h3⟩:=q; exact ⟨p,_,rfl,f,h1,h2,trivial,aS.mpr ⟨p,xs,rfl,.inl (.inl ah),h3.mono (sf h2)⟩⟩
 | aw a ds=>cases h; obtain ⟨p,xs,rfl,f,h1,h2,h3⟩:=q; exact ⟨p,_,rfl,f.1,h1,h2,trivial,aS.mpr ⟨p,xs,rfl,.inl (.inl ah),h3.mono (sf h2)⟩⟩
 | _=>cases h
theorem c6.lu (S:c6 K H₀ dS σ H Hf ρ) (h:ρ[i]?=some r) (hr:r.kJ=some d) :
 ∃ q o,H q=some o∧Hf q=none∧HO.mt o∧c6 K H₀ dS σ H (L2.upd Hf q o) (ρ.set i (.va d)):=by
 obtain ⟨q,ev,rq⟩:=S.own h (l7 hr)
 obtain ⟨_,o,e0,fq,hq,uL,hm,rd⟩:=rq.kJ hr
 cases e0
 have hi:i<ρ.length:=(Q2.mp h).1
 have hown:=l7 hr
 have sf:aM Hf (L2.upd Hf q o):=fun b u e=>by rw [L2.aj (aC e uL)]; exact e
 have sb:aM (L2.upd Hf q o) H:=fun b u e=>by
  by_cases z:b=q
  ·subst z; rw [L2.ah] at e; rw [hq]; exact e
  ·rw [L2.aj z] at e; exact S.sb b u e
 refine ⟨q,o,hq,uL,hm,⟨S.bas.s,S.bas.f.trans sf,sb,fun b h1 h2 h3=>?_⟩,by simp [S.len],fun j r' hj hu=>?_,fun j j' r1 r2 q' hne h1 h2 o1 o2=>?_⟩
 ·have e:=S.bas.n b h1 h2 h3
  by_cases z:b=q
  ·subst z; exact absurd fq h2
  ·rw [L2.aj z]; exact e
 ·by_cases z:j=i
  ·subst z
   rw [R4 hi] at hj
   cases hj
   exact ⟨_,ev,rd⟩
  ·rw [R5 (Rf z)] at hj
   obtain ⟨v,e1,e2⟩:=S.at_ j r' hj hu
   refine ⟨v,e1,?_⟩
   have key:r'.owned=true→v≠.ref q:=fun ho z=>by
    subst z
    exact S.sep i j _ _ q (Rf ‹_›) h hj hown ho ev e1
   exact aZ.mv (B:=fun z=>z=q) sf (fun z u hz e1 _ e3=>⟨e1,by rw [L2.aj hz]; exact e3⟩) (by rintro _ z rfl ⟨ys,e9⟩; rw [hq] at e9; cases e9; exact hm) (fun ho z e=>by rintro rfl; exact key ho e) e2
 ·have out:∀ {j:Nat} {r:Sl},(ρ.set i (.va d))[j]?=some r→r.owned=true→ρ[j]?=some r:=fun {j r} hj ho=>by
   by_cases z:j=i
   ·subst z; rw [R4 hi] at hj; cases hj; cases ho
   ·rw [R5 (Rf z)] at hj; exact hj
  exact S.sep j j' r1 r2 q' hne (out h1 o1) (out h2 o2) o1 o2
theorem sF (sb:aM Hf H) (hq:H q=some o) (uL:Hf q=none) (g:bu H (upd Hf q o) H' ai):bu H Hf H' (del ai q) :=
 ⟨g.s,fun b o e=>by rw [cA (aC e uL)]; exact g.f b o (by rw [aj (aC e uL)]; exact e),fun b o e=>by obtain ⟨_,e2⟩:=jc e; exact g.b b o e2,fun b h1 h2 h3=>by
   by_cases z:b=q
   ·subst z; exact jb
   ·rw [cA z]; exact g.n b (by rw [aj z]; exact h1) h2 h3⟩
section
theorem BL (i) (hi:At ρ i r) (hr:r.kJ=some d0) (hs:SSet ρ i (.va d0) ρ') (h:aH c e ρ' fun d=>Sd d.nl (R d)):aH c e ρ R:=fun σ H Hf Q S q=>by
 obtain ⟨a,o,ha,Aw,hm,S1⟩:=S.lu hi.get hr
 rw [← hs.eq] at S1
 exact h σ H _ Q S1 fun d v H' ai ⟨fl,rd⟩ rv g=>q d v H' _ rd (u7 (g.f a _ ah) hm d fl rv) (sF S.sb ha Aw g)
theorem HM (i) {R:Sl→Prop} (hi:At ρ i r) (hr:r.kJ=some d0) (hs:SSet ρ i (.va d0) ρ') (h:dz c e ρ' fun d=>Sd d.nl (R d)):dz c e ρ R:=fun σ H Hf Q S q=>by
 obtain ⟨a,o,ha,Aw,hm,S1⟩:=S.lu hi.get hr
 rw [← hs.eq] at S1
 exact h σ H _ Q S1 fun d v H' ai ⟨fl,rd⟩ rv g=>q d v H' _ rd (rv.PM (g.f a _ ah) hm ha fl) (sF S.sb ha Aw g)
theorem gw {st:List Stmt} (i) (hi:At ρ i r) (hr:r.kJ=some d0) (hs:SSet ρ i (.va d0) ρ') (h:aN c st ρ' nx p):aN c st ρ nx p:=fun σ H Hf D S o=>by
 obtain ⟨a,ob,ha,Aw,hm,S1⟩:=S.lu hi.get hr
 rw [← hs.eq] at S1
 exact h σ H _ D S1 o
theorem sG {st:Stmt} (i) (hi:At ρ i r) (hr:r.kJ=some d0) (hs:SSet ρ i (.va d0) ρ') (h:fH c st ρ' nx p):fH c st ρ nx p:=fun σ H Hf D S o=>by
 obtain ⟨a,ob,ha,Aw,hm,S1⟩:=S.lu hi.get hr
 rw [← hs.eq] at S1
 exact h σ H _ D S1 o
end
theorem M7 (hN:At N i x) (hi:At ρ i r) (hr:r.kJ=some (.lst ds)) (hs:SSet ρ i (.va (.lst ds)) ρ') (h:aH c b ρ' fun y=>Sd y.nl (∃ j d,y=.int j∧kr ds j=some d∧Sd d.nl (R d))) (hx:At ρ' i (.va (.lst ds)))
 (hd:(x == ("__debug__":Str))=false:=by decide) (hcd:(x == ("__classdict__":Str))=false:=by decide) (hp:kZ b:=by with_unfolding_all exact fun _ _=>rfl):aH c (.Subscript (.Name x p2) b pos) ρ R :=
 BL i hi hr hs (MZ (ku hN hx (h.imp fun y ⟨_,j,d,e1,e2,e3⟩=>⟨ds,j,d,rfl,e1,e2,e3⟩) hd hcd) hp)
theorem SSet.at (h:SSet l i r l'):At l' i r:=by
 induction h with
 | z=>exact .z
 | s _ ih=>exact .s ih
theorem J4 (hm:mg "len"=none) (hN:At N i x) (hi:At ρ i r) (hr:r.kJ=some (.lst ds)) (hs:SSet ρ i (.va (.lst ds)) ρ') (h:R (.int ds.length)) (hg:sc.names.lookup (QK "len")=some .globalImplicit:=by walk_at "u")
 (hd:(x == ("__debug__":Str))=false:=by decide) (hcd:(x == ("__classdict__":Str))=false:=by decide)
 (he:∀ env,starEach [.Name x p2] env=(false,eval (.Name x p2) env)::starEach [] env:=by intro _; walk_at "u"):aH c (.Call (.Name "len" p1) [.Name x p2] [] pos) ρ R :=
 BL i hi hr hs (e_len hm (ku hN hs.at ⟨ds,rfl,jP,h⟩ hd hcd) hg he)
theorem BN (hm:mg "tuple"=none) (hN:At N i x) (hi:At ρ i r) (hr:r.kJ=some (.lst ds)) (hs:SSet ρ i (.va (.lst ds)) ρ') (h:Sd (D.qz ds) (R (.tup ds))) (hg:sc.names.lookup (QK "tuple")=some .globalImplicit:=by walk_at "u")
 (hd:(x == ("__debug__":Str))=false:=by decide) (hcd:(x == ("__classdict__":Str))=false:=by decide)
 (he:∀ env,starEach [.Name x p2] env=(false,eval (.Name x p2) env)::starEach [] env:=by intro _; walk_at "u"):aH c (.Call (.Name "tuple" p1) [.Name x p2] [] pos) ρ R :=
 BL i hi hr hs (wY hm (ku hN hs.at ⟨ds,rfl,qA h.s,h.r⟩ hd hcd) hg he)
theorem PN (h:dz c e ρ (HA R)):aH c e ρ R:=e_x h
end
end EV
set_option maxHeartbeats 0
namespace EV
open PySem PySem.Spec PyProof.Rows L2
section
variable {P:Program} {w:World} {K:QM} {mg:Str→Option Value} {base h:Heap}
noncomputable def ay (K:QM) (mg:Str→Option Value) (x:Str) (st:Stmt):Prop:=∃ f fd,mg x=some (.ref f)∧dR K x x st f fd
theorem aO {st:Stmt} {kV doc pm cdv ct:Value} (KX:K.In h) (G:h.Ns mainGlobals mg) (a:RT K mainGlobals x=some (some (.ref f)))
 (l:K.lookup f=some ⟨oc,od,.func (SW x x (eX st) (aq st) (af st) .none kV doc pm an cdv ct),osl⟩) (c:VX K cdv x=true) (k:SK K (.ref f)=true):ay K mg x st :=
 ⟨f,_,PySem.W.mg_of KX G a,JG l c k⟩
theorem J5 (e:(t == R6 T)=false) (m:PySem.W.kitMeta T=true) (s:PySem.W.subIn K t (.type T)=some b):Sq K t (.type T)=some b:=by
 unfold Sq PySem.W.kitCls
 simp [e,m,s]
theorem l8 (e:(t == t)=true):Sq K t t=some true:=by
 unfold Sq
 simp [e]
structure Txt (K:QM) (mg:Str→Option Value):Prop where
 abs:mg "abs"=none
 len:mg "len"=none
 isin:mg "isinstance"=none
 range:mg "range"=none
 int:mg "int"=none
 bool:mg "bool"=none
 tuple:mg "tuple"=none
 list:mg "list"=none
 max:mg "max"=none
 min:mg "min"=none
 sum:mg "sum"=none
 sorted:mg "sorted"=none
 zip:mg "zip"=none
 enum:mg "enumerate"=none
 all:mg "all"=none
 any:mg "any"=none
 dict:mg "dict"=none
 ib:Sq K (.type "int") (.type "bool")=some false
theorem Txt.M8 (T:Txt K mg):i9 mg "int" (.type "int"):=.inr ⟨_,rfl,T.int,by decide +kernel,by decide +kernel⟩
theorem Txt.J6 (T:Txt K mg):i9 mg "bool" (.type "bool"):=.inr ⟨_,rfl,T.bool,by decide +kernel,by decide +kernel⟩
theorem Txt.FO (T:Txt K mg):i9 mg "tuple" (.type "tuple"):=.inr ⟨_,rfl,T.tuple,by decide +kernel,by decide +kernel⟩
theorem Txt.J7 (T:Txt K mg):i9 mg "list" (.type "list"):=.inr ⟨_,rfl,T.list,by decide +kernel,by decide +kernel⟩
theorem J8:Sq K (.type "int") (.type "int")=some true:=l8 (by decide)
theorem J9:Sq K (.type "tuple") (.type "tuple")=some true:=l8 (by decide)
theorem Ka:Sq K (.type "list") (.type "list")=some true:=l8 (by decide)
theorem Kc (KX:K.In h) (G:h.Ns mainGlobals mg)
 (z1:RT K mainGlobals "abs"=some none)
 (z2:RT K mainGlobals "len"=some none)
 (z3:RT K mainGlobals "isinstance"=some none)
 (z4:RT K mainGlobals "range"=some none)
 (z5:RT K mainGlobals "int"=some none)
 (z6:RT K mainGlobals "bool"=some none)
 (z7:RT K mainGlobals "tuple"=some none)
 (z8:RT K mainGlobals "list"=some none)
 (z9:RT K mainGlobals "max"=some none)
 (z10:RT K mainGlobals "min"=some none)
 (z11:RT K mainGlobals "sum"=some none)
 (z12:RT K mainGlobals "sorted"=some none)
 (z13:RT K mainGlobals "zip"=some none)
 (z14:RT K mainGlobals "enumerate"=some none)
 (z15:RT K mainGlobals "all"=some none)
 (z16:RT K mainGlobals "any"=some none)
 (z17:RT K mainGlobals "dict"=some none)
 (sib:PySem.W.subIn K (.type "int") (.type "bool")=some false):Txt K mg :=
 ⟨RZ KX G z1,RZ KX G z2,RZ KX G z3,RZ KX G z4,RZ KX G z5,RZ KX G z6,RZ KX G z7,RZ KX G z8,
  RZ KX G z9,RZ KX G z10,RZ KX G z11,RZ KX G z12,RZ KX G z13,RZ KX G z14,RZ KX G z15,RZ KX G z16,RZ KX G z17,
  J5 (by decide) (by decide) sib⟩
theorem aQ {st:Stmt} (m:mg x=some (.ref f)) (Fu:dR K x x st f fd) (ok:bf P w K mg base (cO P w) k f fd ps (dU K F))
 (hb:∀ (kV doc pm:Value) (an:Option Addr) (cdv ct:Value) (us:List Value),us.length=ps.length→bindArgs (SW x x (eX st) (aq st) (af st) .none kV doc pm an cdv ct) ⟨us,[]⟩=pure (ps.zip us)):bJ P w K mg base k x F :=
 ⟨f,fd,ps,m,Fu.kp,Fu.binds hb,ok⟩
theorem PR {α:Type} (us:List α) (h:us.length=1):∃ a,us=[a]:=by match us,h with | [a],_=>exact ⟨a,rfl⟩
theorem PU {α:Type} (us:List α) (h:us.length=2):∃ a b,us=[a,b]:=by match us,h with | [a,b],_=>exact ⟨a,b,rfl⟩
theorem PV {α:Type} (us:List α) (h:us.length=3):∃ a b c,us=[a,b,c]:=by match us,h with | [a,b,c],_=>exact ⟨a,b,c,rfl⟩
theorem PX {α:Type} (us:List α) (h:us.length=4):∃ a b c d,us=[a,b,c,d]:=by match us,h with | [a,b,c,d],_=>exact ⟨a,b,c,d,rfl⟩
noncomputable def BO:Fn:=fun ds r=>∃ ns:List Int,ns.length≤63∧ds=[.lst (ns.map D.int)]∧r=.ok (.va (.bl true))
theorem Kd (H) (a) (ns:List Int) (hl:ns.length≤63) (hS:gn K H a (ns.map V.int)):dU K BO [.ref a] H (fun v _=>v=.bl true) fun _ _ _=>False :=
 ⟨H,[.lst (ns.map D.int)],.ok (.va (.bl true)),.refl H,.cons (aS.mpr ⟨a,_,rfl,hS,oZ ns⟩) (aA.mpr rfl),⟨ns,hl,rfl,rfl⟩,fun v H' ai _ r=>(cP (K:=K) (H:=ai)).mp r⟩
theorem walk {l:PySem.W.OpenLaw} {K:Params→QM} (hk:k≤20) (hn:l.most=some 63) (hdf:d.params.defaults=[])
 (hY:∀ (w:World) (h:Heap),YP w h→(K w.params).In h)
 (F:∀ (w:World) (mg:Str→Option Value) (fa:Addr) (h:Heap),(K w.params).In h→h.Ns mainGlobals mg→mg d.name=some (.ref fa) →
   ∃ fd:FuncData,(∀ (s:Shared) (u:Value),BindsTo s fd ⟨[u],[]⟩ [("_law_script",u)])∧∀ base:Heap,(K w.params).In base→base.Ns mainGlobals mg→bf l.prog w (K w.params) mg base (cO l.prog w) 20 fa fd ["_law_script"] (dU (K w.params) BO)) :
 PySem.W.WalkO q loose XP YP l.row.toRowW d [] (fun f vs=>PySem.call f vs) :=
 L2.Fc (n:=63) (k:=20) (x:="_law_script") (CX:=fun w=>cO l.prog w) (sp:=fun w=>dU (K w.params) BO) hn (by decide) hdf ⟨rfl,by decide,by decide⟩ hY F (fun _ H a ns hl _ hS=>Kd H a ns hl hS) fun _ _ _ _ _ ⟨_,_,_,_,_,q⟩=>q
end
theorem BP (x y):RL y (x % y)=RL x y:=by
 have h:RL y (y * (x / y)+x % y)=RL y (x % y):=by simp
 rw [Int.mul_ediv_add_emod] at h
 rw [← h,Int.gcd_comm]
theorem yU {j:Int} (h:j.natAbs<10 ^ n) (hn:n≤2700):j.natAbs.log2<9000:=by
 by_cases z:j.natAbs=0
 ·rw [z]; decide
 ·refine (Wd z).mpr (RG h ?_)
  calc 10 ^ n≤10 ^ 2700:=Vu (by decide) hn
   _≤2 ^ 9000:=by decide +kernel
@[irreducible] def Zs (n:Nat) (a:Int):Prop:=a.natAbs<10 ^ n
theorem BQ:Zs n a↔a.natAbs<10 ^ n:=by unfold Zs; exact Iff.rfl
noncomputable abbrev Pz (a:Int):Prop:=Zs 2600 a
noncomputable def fM (a b:Int):Int:=if b<0 then 0 - (RL a b:Int) else RL a b
noncomputable def nT (a b:Int):Int:=a.fdiv (fM a b)
noncomputable def nB (a b:Int):Int:=b.fdiv (fM a b)
noncomputable abbrev pA (a b:Int):D:=.tup [.int (nT a b),.int (nB a b)]
theorem FP (h:Pz b) (hb:b≠0):(RL a b:Int).natAbs.log2<9000:=by
 refine yU (n:=2600) ?_ (by decide)
 have:RL a b≤b.natAbs:=Nat.le_of_dvd (by lia) (Int.gcd_dvd_natAbs_right a b)
 simp only [Int.natAbs_natCast]
 have h:=BQ.mp h
 lia
theorem u9 (a b):fM a b ∣ a:=by
 unfold fM; split
 ·rw [show (0:Int) - (RL a b:Int)= -(RL a b:Int) by lia]; exact Int.neg_dvd.mpr (Int.gcd_dvd_left ..)
 ·exact Int.gcd_dvd_left ..
theorem vc (a b):fM a b ∣ b:=by
 unfold fM; split
 ·rw [show (0:Int) - (RL a b:Int)= -(RL a b:Int) by lia]; exact Int.neg_dvd.mpr (Int.gcd_dvd_right ..)
 ·exact Int.gcd_dvd_right ..
theorem ly (hb:b≠0):fM a b≠0:=by
 have hp:0<RL a b:=Int.gcd_pos_of_ne_zero_right a hb
 unfold fM; split <;> lia
theorem Ke (hb:b≠0):a=fM a b * nT a b:=by
 obtain ⟨q,hq⟩:=u9 a b
 have h0:=ly (a:=a) hb
 have:nT a b=q:=by
  unfold nT
  rw [show a.fdiv (fM a b)=(q * fM a b).fdiv (fM a b) by rw [Va q,← hq],Int.mul_fdiv_cancel _ h0]
 rw [this]; exact hq
theorem Kf (hb:b≠0):b=fM a b * nB a b:=by
 obtain ⟨q,hq⟩:=vc a b
 have h0:=ly (a:=a) hb
 have:nB a b=q:=by
  unfold nB
  rw [show b.fdiv (fM a b)=(q * fM a b).fdiv (fM a b) by rw [Va q,← hq],Int.mul_fdiv_cancel _ h0]
 rw [this]; exact hq
section
end
theorem jh (f:α→β) (xs) (lo hi):EV.cutD (xs.map f) lo hi=(EV.cutD xs lo hi).map f:=by
 unfold EV.cutD; simp only [QU,List.map_take,List.map_drop]
theorem ji (h0:0≤j) (h1:j<xs.length):kr xs j=xs[j.toNat]?:=by
 unfold kr LJ
 rw [if_pos h0,if_pos h1]; rfl
theorem xr {j:Int} (h0:j<0) (h1:0≤j+xs.length):kr xs j=xs[(j+xs.length).toNat]?:=by
 unfold kr LJ
 rw [if_neg (by lia)]
 rw [if_pos (by lia)]; rfl
theorem BR (h:a.natAbs<2 ^ 63):Se a≤64:=by
 unfold Se
 by_cases z:a=0
 ·subst z; decide
 ·have e:(a == 0)=false:=by simpa using z
  rw [e,if_neg QZ]
  have:=(Wd (n:=a.natAbs) (k:=63) (by lia)).mpr h
  lia
theorem sH (h:a.natAbs<2 ^ 63):EV.MulOk a b:=IntMulOk.of_left (BR h)
theorem eZ (h:(n8 0 n)[i]?=some d):i<n∧d=.int (i:Int):=by
 unfold n8 at h
 simp only [Q3,Q7] at h
 obtain ⟨j,h1,rfl⟩:=h
 obtain ⟨hj,rfl⟩:=Q2.mp h1
 simp at hj
 exact ⟨hj,by simp⟩
section
variable {K:QM}
theorem HN (I) (h:jL c t ρ (n5 (aN c A ρ I p) (aN c B ρ I p))) (hI:∀ ρ',I ρ'→nx ρ'):fH c (.If t A B pos) ρ nx p :=
 Fw (h.imp fun x hx=>⟨fun e σ H Hf D S o=>hx.t e σ H Hf D S ⟨fun σ H Hf ρ S q=>o.nx σ H Hf ρ S (hI _ q),o.rt,o.bk,o.ct⟩,fun e σ H Hf D S o=>hx.f e σ H Hf D S ⟨fun σ H Hf ρ S q=>o.nx σ H Hf ρ S (hI _ q),o.rt,o.bk,o.ct⟩⟩)
end
end EV
namespace EV
open PySem PySem.Spec PySem.Calls PyProof.Rows L2
noncomputable def HO.dct:HO→Prop | .dK _=>True | .dT _=>True | _=>False
theorem qC (I:Inv X aa σ H s) (hu:H a=some u) (nu:∀ xs,u≠.tup xs) (nw:∀ y,u≠.own y) (nt:∀ ps,u≠.tbl ps) (nf:∀ o z,X.H₀ a≠some (.frz o z))
 (hv:bw X.prog X.w H s.heap a v):Inv X aa σ (upd H a v) s:=by
 have hne:∀ {b:Addr} {z:HO},H b=some z→z≠u→b≠a:=fun e d q=>by subst q; rw [hu] at e; cases e; exact d rfl
 have hno:∀ {b:Addr},H b=none→b≠a:=fun e q=>by subst q; rw [hu] at e; cases e
 have hst:∀ {b:Addr} {z:HO},bw X.prog X.w H s.heap b z→bw X.prog X.w (upd H a v) s.heap b z:=fun q =>
  q.stay (fun _ _ _ e=>e) (fun b e=>by rw [aj (hne e (Rf (nw _)))]; exact e) fun b xs e=>by rw [aj (hne e (Rf (nu xs)))]; exact e
 have fr:=I.free
 exact {
  ok:=I.ok,os:=I.os,bare:=I.bare,loc:=I.loc,cell:=I.cell,len:=I.len
  base:=⟨I.base.keep,I.base.slot,fun b o h1 h2 h3=>by have e:=I.base.free b o h1 h2 h3; rw [aj (hno e)]; exact e,I.base.there,
   fun b xs e=>by have q:=I.base.tups b xs e; rw [aj (hne q (Rf (nu xs)))]; exact q,
   fun b o z e=>by
    have q:=I.base.frzs b o z e
    by_cases w:b=a
    ·subst w; exact absurd e (nf o z)
    ·rw [aj w]; exact q,
   fun b ps e=>by obtain ⟨m,q⟩:=I.base.tbls b ps e; exact ⟨m,by rw [aj (hne q (Rf (nt _)))]; exact q⟩⟩
  free:=by rw [aj (hno I.free)]; exact I.free
  freeC:=fun x c e=>by have q:=I.freeC x c e; rw [aj (hno q)]; exact q
  pin:=fun q hq=>by obtain ⟨h1,h2,h3⟩:=I.pin q hq; exact ⟨h1,by rw [aj (hno h2)]; exact h2,h3⟩
  hok:=fun b z e=>by
   by_cases w:b=a
   ·subst w; rw [ah] at e; cases e; exact hst hv
   ·rw [aj w] at e; exact hst (I.hok b z e) }
theorem FQ (I:Inv X aa σ H s) (hu:H a=some u) (hd:HO.dct u) :
 ∃ o,Inv X aa σ (upd H a (.frz o u)) s∧∀ o z,X.H₀ a≠some (.frz o z):=by
 obtain ⟨o,ho⟩:=JP (I.hok a u hu)
 have nf:∀ o z,X.H₀ a≠some (.frz o z):=fun o z e=>by
  have q:=I.base.frzs a o z e
  rw [hu] at q; cases q; exact hd
 exact ⟨o,qC I hu (by rintro xs rfl; exact hd) (by rintro y rfl; exact hd) (by rintro ps rfl; exact hd) nf ⟨ho,I.hok a u hu⟩,nf⟩
theorem BS (I:Inv X aa σ H s) (hu:H a=some (.frz o u)) (nf:∀ o z,X.H₀ a≠some (.frz o z)):Inv X aa σ (upd H a u) s :=
 qC I hu (by intro xs z; cases z) (by intro y z; cases z) (by intro ps z; cases z) nf (I.hok a _ hu).2
noncomputable def Sl.sI:Sl→Option D
 | .oK kvs=>some (.fdK (kvs.map (·.1)) (kvs.map (·.2))) | .aK _ kvs=>some (.fdK (kvs.map (·.1)) (kvs.map (·.2)))
 | .oT kvs=>some (.fdT (kvs.map (·.1)) (kvs.map (·.2))) | .aT _ kvs=>some (.fdT (kvs.map (·.1)) (kvs.map (·.2)))
 | _=>none
theorem l9 {r:Sl} (h:r.sI=some d):r.owned=true:=by cases r <;> first | rfl | cases h
section
variable {K:QM}
theorem aZ.sI (h:r.sI=some d) (q:aZ K fr H Hf r v):∃ p u,v=.ref p∧fr p∧H p=some u∧Hf p=none∧HO.dct u∧∀ o,Rep K (L2.upd Hf p (.frz o u)) d v:=by
 have sf:∀ {p:Addr} {o:HO},Hf p=none→aM Hf (L2.upd Hf p o):=fun hp b u e=>by rw [aj (aC e hp)]; exact e
 cases r with
 | oK ds=>cases h; obtain ⟨p,xs,rfl,f,h1,h2,h3⟩:=q; exact ⟨p,_,rfl,f,h1,h2,trivial,fun o=>i8.mpr ⟨p,xs,o,rfl,ah,(jg h3).1,(jg h3).2.mono (sf h2)⟩⟩
 | aK a ds=>cases h; obtain ⟨p,xs,rfl,f,h1,h2,h3⟩:=q; exact ⟨p,_,rfl,f.1,h1,h2,trivial,fun o=>i8.mpr ⟨p,xs,o,rfl,ah,(jg h3).1,(jg h3).2.mono (sf h2)⟩⟩
 | oT ds=>cases h; obtain ⟨p,xs,rfl,f,h1,h2,h3⟩:=q; exact ⟨p,_,rfl,f,h1,h2,trivial,fun o=>qm.mpr ⟨p,xs,o,rfl,ah,(fL h3).1,fun y hy=>az (sf h2) ((fL h3).2.1 y hy),(fL h3).2.2.mono (sf h2)⟩⟩
 | aT a ds=>cases h; obtain ⟨p,xs,rfl,f,h1,h2,h3⟩:=q; exact ⟨p,_,rfl,f.1,h1,h2,trivial,fun o=>qm.mpr ⟨p,xs,o,rfl,ah,(fL h3).1,fun y hy=>az (sf h2) ((fL h3).2.1 y hy),(fL h3).2.2.mono (sf h2)⟩⟩
 | _=>cases h
theorem c6.FT (S:c6 K H₀ dS σ H Hf ρ) (h:ρ[i]?=some r) (hr:r.sI=some d) :
 ∃ q u,H q=some u∧Hf q=none∧HO.dct u∧∀ o,c6 K H₀ dS σ (L2.upd H q (.frz o u)) (L2.upd Hf q (.frz o u)) (ρ.set i (.va d)):=by
 obtain ⟨q,ev,rq⟩:=S.own h (l9 hr)
 obtain ⟨_,u,e0,fq,hq,uL,hd,rd⟩:=rq.sI hr
 cases e0
 have hi:i<ρ.length:=(Q2.mp h).1
 have hown:=l9 hr
 refine ⟨q,u,hq,uL,hd,fun o=>⟨⟨fun b z e=>?_,fun b z e=>?_,fun b z e=>?_,fun b h1 h2 h3=>?_⟩,by simp [S.len],fun j r' hj hu=>?_,fun j j' r1 r2 q' hne h1 h2 o1 o2=>?_⟩⟩
 ·rw [L2.aj (aC e fq)]; exact S.bas.s b z e
 ·have e2:=S.bas.f b z e
  rw [L2.aj (aC e2 uL)]; exact e2
 ·by_cases w:b=q
  ·subst w; rw [L2.ah] at e ⊢; exact e
  ·rw [L2.aj w] at e ⊢; exact S.sb b z e
 ·have e:=S.bas.n b h1 h2 h3
  by_cases z:b=q
  ·subst z; exact absurd fq h2
  ·rw [L2.aj z]; exact e
 ·have sf:aM Hf (L2.upd Hf q (.frz o u)):=fun b z e=>by rw [L2.aj (aC e uL)]; exact e
  by_cases z:j=i
  ·subst z
   rw [R4 hi] at hj
   cases hj
   exact ⟨_,ev,rd o⟩
  ·rw [R5 (Rf z)] at hj
   obtain ⟨v,e1,e2⟩:=S.at_ j r' hj hu
   refine ⟨v,e1,?_⟩
   have key:r'.owned=true→v≠.ref q:=fun ho z=>by
    subst z
    exact S.sep i j _ _ q (Rf ‹_›) h hj hown ho ev e1
   exact aZ.mv (B:=fun z=>z=q) sf (fun z w hz e1 _ e3=>⟨by rw [L2.aj hz]; exact e1,by rw [L2.aj hz]; exact e3⟩) (by rintro _ z rfl ⟨ys,e9⟩; rw [hq] at e9; cases e9; exact hd) (fun ho z e=>by rintro rfl; exact key ho e) e2
 ·have out:∀ {j:Nat} {r:Sl},(ρ.set i (.va d))[j]?=some r→r.owned=true→ρ[j]?=some r:=fun {j r} hj ho=>by
   by_cases z:j=i
   ·subst z; rw [R4 hi] at hj; cases hj; cases ho
   ·rw [R5 (Rf z)] at hj; exact hj
  exact S.sep j j' r1 r2 q' hne (out h1 o1) (out h2 o2) o1 o2
end
theorem yV (sb:aM Hf H) (hq:H q=some u) (uL:Hf q=none) (g:bu (upd H q (.frz o u)) (upd Hf q (.frz o u)) H' ai):bu H Hf (upd H' q u) (del ai q) :=
 ⟨fun b z e=>by
   by_cases w:b=q
   ·subst w; rw [ah]; rw [hq] at e; exact e
   ·rw [aj w]; exact g.s b z (by rw [aj w]; exact e),
   fun b z e=>by rw [cA (aC e uL)]; exact g.f b z (by rw [aj (aC e uL)]; exact e),
   fun b z e=>by obtain ⟨w,e2⟩:=jc e; rw [aj w]; exact g.b b z e2,fun b h1 h2 h3=>by
   by_cases w:b=q
   ·subst w; exact jb
   ·rw [cA w]; exact g.n b (by rw [aj w]; exact h1) (by rw [aj w]; exact h2) fun xs=>by rw [aj w]; exact h3 xs⟩
theorem FU {K:QM} (hp:Hf p=some (.frz o u)) (hd:HO.dct u) (h:dw K Hf a xs):dw K (del Hf p) a xs:=by
 rcases h with (h | ⟨o',h⟩) | h
 ·exact .inl (.inl (by rw [cA (by rintro rfl; rw [hp] at h; cases h)]; exact h))
 ·exact .inl (.inr ⟨o',by rw [cA (by rintro rfl; rw [hp] at h; cases h; exact hd)]; exact h⟩)
 ·exact .inr h
mutual
theorem BU {K:QM} {Hf:Hp} {p:Addr} {o:Obj} {u:HO} (hp:Hf p=some (.frz o u)) (hd:HO.dct u):∀ (d:D) {v:V},d.nl→Rep K Hf d v→Rep K (del Hf p) d v
 | .non,_,_,h=>by simpa [Rep] using h
 | .bl _,_,_,h=>by simpa [Rep] using h
 | .int _,_,_,h=>by simpa [Rep] using h
 | .str _,_,_,h=>by simpa [Rep] using h
 | .adr _,_,_,h=>by simpa [Rep] using h
 | .tup ds,v,f,h=>by
  simp only [Rep] at h ⊢
  obtain ⟨a,xs,e,h1,h2⟩:=h
  exact ⟨a,xs,e,FU hp hd h1,qD hp hd ds (by simpa [D.nl] using f) h2⟩
 | .lst _,_,f,_=>by simp [D.nl] at f
 | .fdK _ _,_,f,_=>by simp [D.nl] at f
 | .fdT _ _,_,f,_=>by simp [D.nl] at f
 | .exc C,_,_,h=>by
  simp only [Rep] at h ⊢
  obtain ⟨a,e,h⟩:=h
  exact ⟨a,e,by rw [cA (by rintro rfl; rw [hp] at h; cases h)]; exact h⟩
theorem qD {K:QM} {Hf:Hp} {p:Addr} {o:Obj} {u:HO} (hp:Hf p=some (.frz o u)) (hd:HO.dct u):∀ (ds:List D) {xs:List V},D.qz ds→ak K Hf ds xs→ak K (del Hf p) ds xs
 | [],_,_,h=>by simpa [ak] using h
 | d::ds,xs,f,h=>by
  simp only [ak] at h ⊢
  simp only [D.qz] at f
  obtain ⟨x,r,e,h1,h2⟩:=h
  exact ⟨x,r,e,BU hp hd d f.1 h1,qD hp hd ds f.2 h2⟩
end
section
variable {K:QM}
theorem BV (S:bC c σ H Hf ρ) (hi:At ρ i r) (hr:r.sI=some d0) (hs:SSet ρ i (.va d0) ρ')
 (h:∀ q u o,H q=some u→Hf q=none→HO.dct u→bC c σ (upd H q (.frz o u)) (upd Hf q (.frz o u)) ρ'→bE c.X e σ (upd H q (.frz o u)) fun v H'=>∃ ai,bu (upd H q (.frz o u)) (upd Hf q (.frz o u)) H' ai∧Q v (upd H' q u)):bE c.X e σ H Q:=by
 obtain ⟨q,u,hq,uL,hd,S1⟩:=S.FT hi.get hr
 intro aa s I
 obtain ⟨o,I1,nf⟩:=FQ I hq hd
 have S2:=S1 o
 rw [← hs.eq] at S2
 refine bD (h q u o hq uL hd S2 aa s I1) fun v s' ⟨x,H',I',rv,ai,g,hQ⟩=>⟨x,_,BS I' (g.s q _ ah) nf,rv,hQ⟩
theorem vd (i) {R:Sl→Prop} (hi:At ρ i r) (hr:r.sI=some d0) (hs:SSet ρ i (.va d0) ρ') (h:dz c e ρ' fun d=>Sd d.nl (R d)):dz c e ρ R:=fun σ H Hf Q S q=>by
 refine BV S hi hr hs fun a u o ha Aw hd S1=>h σ _ _ _ S1 fun r1 v H' ai ⟨fl,rd⟩ rv g=>⟨ai,g,?_⟩
 have hp:=g.f a _ ah
 refine q r1 v _ (del ai a) rd ?_ (yV S.sb ha Aw g)
 have hH:H' a=some (.frz o u):=g.s a _ ah
 cases r1 with
 | va d=>exact BU hp hd d fl rv
 | ow ds =>
  obtain ⟨b,xs,rfl,fb,h1,h2,h3⟩:=rv
  have nb:b≠a:=by rintro rfl; rw [show (upd H b (.frz o u)) b=_ from ah] at fb; cases fb
  exact ⟨b,xs,rfl,by rw [aj nb] at fb; exact fb,by rw [aj nb]; exact h1,by rw [cA nb]; exact h2,qD hp hd ds fl h3⟩
 | _=>exact fl.elim
end
noncomputable def BW (h:Heap) (it d:Addr) (i n ep:Nat):Prop :=
 ∃ (x:Value) (f:Bool) (k v:Value),h.get? it=some { cls:=.type "dict_itemiterator",dict:=none,data:=.fields #[x,.bool f,.ref d,.int i 0,.int n 0,.int ep 0,k,v],slots:= #[] }∧(x=.none∨∃ a:Addr,x=rawInt a)
section
variable {s:Shared} {i n ep:Nat}
theorem qE:Builtin.Dict_items.ownsTuple "dict_itemiterator"=true:=by decide
theorem sJ (h:Q (s.heap.get? a) s):wpAny M A (loadIfAlive a) Q E s:=fun Γ p z=>by
 show Sem.wp M Γ (Sem.loadIfAlive a Sem.pure) _ _ p s
 rw [Sem.wp_loadIfAlive,Sem.wp]
 exact h
theorem BX (hs:s.heap=h) (hit:h.get? it=some { cls:=.type "dict_itemiterator",dict:=none,data:=.fields #[x,.bool f,.ref d,.int i 0,.int n 0,.int ep 0,k,v],slots:= #[] }) (hx:x=.none∨∃ a:Addr,x=rawInt a)
 (hQ:∀ h',BW h' it d i n ep→h'.get? h.objs.size=some { cls:=.type "tuple",data:=.seq #[a,b] }→h'.objs.size=h.objs.size+1→(∀ c o,c≠it→h.get? c=some o→h'.get? c=some o)→Q (.ref h.objs.size) { s with heap:=h' }) :
 wpAny (model prog w) A (We (.ref it) 6 a b) Q E s:=by
 subst hs
 have lt:it<s.heap.objs.size:=QX hit
 have ne:s.heap.objs.size≠it:=TH lt
 unfold We
 refine QL (VU ?_)
 have uH:=QV ({ cls:=.type "tuple",data:=.seq [a,b].toArray }:Obj) hit
 have htu:(s.heap.push { cls:=.type "tuple",data:=.seq [a,b].toArray }).get? s.heap.objs.size=some { cls:=.type "tuple",data:=.seq #[a,b] }:=Q5 _ rfl
 have hsz:(s.heap.push { cls:=.type "tuple",data:=.seq [a,b].toArray }).objs.size=s.heap.objs.size+1:=SD ..
 have hold:∀ c o,s.heap.get? c=some o→(s.heap.push { cls:=.type "tuple",data:=.seq [a,b].toArray }).get? c=some o:=fun c o e=>QV _ e
 generalize (s.heap.push { cls:=.type "tuple",data:=.seq [a,b].toArray })=h2 at uH htu hsz hold ⊢
 have free:wpAny (model prog w) A (do
  let old:=[← field (.ref it) 6,← field (.ref it) (6+1)]
  setField (.ref it) 6 a; setField (.ref it) (6+1) b
  setField (.ref it) 0 (rawInt s.heap.objs.size); setField (.ref it) 1 (.bool false)
  letGo old [.ref s.heap.objs.size]
  pure (Rc s.heap.objs.size)) Q E { s with heap:=h2 }:=by
  refine QL (RD uH rfl (x:=k) rfl (QL (RD uH rfl (x:=v) rfl ?_)))
  refine QL (Sj uH (by simp) fun h3 e3 s3=>?_)
  refine QL (Sj e3 (by simp) fun h4 e4 s4=>?_)
  refine QL (Sj e4 (by simp) fun h5 e5 s5=>?_)
  refine QL (Sj e5 (by simp) fun h6 e6 s6=>?_)
  have keep:∀ c o,c≠it→h2.get? c=some o→h6.get? c=some o:=fun c o hc e=>s6.extBut c o hc (s5.extBut c o hc (s4.extBut c o hc (s3.extBut c o hc e)))
  refine QL (Ue (QN (hQ h6 ⟨_,_,_,_,e6,.inr ⟨_,rfl⟩⟩ (keep _ _ ne htu) ?_ fun c o hc e=>keep c o hc (hold c o e))))
  rw [s6.1,s5.1,s4.1,s3.1,hsz]
 have told:∀ (h3:Heap) (x:Value) (f:Bool),h3.get? it=some { cls:=.type "dict_itemiterator",dict:=none,data:=.fields #[x,.bool f,.ref d,.int i 0,.int n 0,.int ep 0,k,v],slots:= #[] }→(x=.none∨∃ a:Addr,x=rawInt a) →
  SH it h2 h3→Q (.ref s.heap.objs.size) { s with heap:=h3 }:=fun h3 x f e hx' s3 =>
  hQ h3 ⟨x,f,k,v,e,hx'⟩ (s3.extBut _ _ ne htu) (by rw [s3.1,hsz]) fun c o hc e=>s3.extBut c o hc (hold c o e)
 show wpAny _ _ (Xh (.ref it) >>= _) _ _ _
 unfold Xh
 refine QL (QL (RD uH rfl (x:=x) rfl ?_))
 rcases hx with rfl | ⟨a0,rfl⟩
 ·exact QN free
 ·show wpAny _ _ (loadIfAlive (a0:Int).toNat >>= _) _ _ _
  refine QL (sJ ?_)
  split
  ·exact QN free
  ·refine QL ?_
   refine RD uH rfl (x:=.bool f) rfl ?_
   cases f with
   | true =>
    dsimp only
    rw [if_neg (by decide)]
    exact QN (QN (told h2 _ _ uH (.inr ⟨a0,rfl⟩) (.refl ..)))
   | false =>
    dsimp only
    rw [if_pos (by decide)]
    refine QL (Sj uH (by simp) fun h3 e3 s3=>?_)
    exact QN (QN (told h3 _ true e3 (.inr ⟨a0,rfl⟩) s3))
theorem BW.Kg (h:BW s.heap it d i n ep):s.TypeIs (.ref it) "dict_itemiterator":=let ⟨_,_,_,_,e,_⟩:=h; ⟨_,e,rfl⟩
theorem next_item (hit:BW s.heap it d i es.size ep) (hod:s.heap.get? d=some od) (hdd:od.data=.dict es ep) (hx:es[i]?=some e)
 (hQ:∀ h',BW h' it d (i+1) es.size ep→h'.get? s.heap.objs.size=some { cls:=.type "tuple",data:=.seq #[e.key,e.val] }→h'.objs.size=s.heap.objs.size+1→(∀ c o,c≠it→s.heap.get? c=some o→h'.get? c=some o)→Q (some (.ref s.heap.objs.size)) { s with heap:=h' }) :
 wpAny (model prog w) A (pyNext (.ref it)) Q E s:=by
 have hT:=hit.Kg
 obtain ⟨x,f,k,v,hat,hxx⟩:=hit
 have hlt:i<es.size:=(Ut.mp hx).1
 unfold pyNext
 refine QL (Tw (SN (name:=QK "__next__") hT Um (Sk Um hT Xn ?_ (Xj _))))
 refine QL (QN (QL (QL ?_)))
 first | refine QL (Vj hT (QN ?_)) | refine QL (Vl hT (QN ?_))
 refine QL (wpAny_fieldsOf hat rfl ?_)
 simp only [qE,if_true]
 show wpAny _ _ (if (Rc d == RW)=true then _ else _) _ _ _
 rw [if_neg (show ¬ (Rc d == RW)=true from QZ)]
 refine QL (QN (QL (WO hod hdd ?_)))
 rw [if_neg (by simp)]
 refine QL (QN (QL (wpAny_dictEpoch hod hdd ?_)))
 rw [if_neg (by simp)]
 refine QN ?_
 simp only [show ¬ ((i:Int)<0) from by lia,if_false,Rp,hx]
 refine QL ?_
 first | refine QL (Vj hT (QN ?_)) | refine QL (Vl hT (QN ?_))
 refine QL (Wq hT ?_)
 show wpAny _ _ (setField (.ref it) 3 (rawInt ((i:Int)+1)) >>= _) _ _ s
 refine QL (Sj hat (by simp) fun h1 e1 s1=>?_)
 have e1':h1.get? it=some { cls:=.type "dict_itemiterator",dict:=none,data:=.fields #[x,.bool f,.ref d,.int ((i+1:Nat):Int) 0,.int es.size 0,.int ep 0,k,v],slots:= #[] }:=by
  have q:((i+1:Nat):Int)=(i:Int)+1:=by lia
  rw [q]; simpa [rawInt] using e1
 have hT1:Shared.TypeIs { s with heap:=h1 } (.ref it) "dict_itemiterator":=⟨_,e1',rfl⟩
 refine QL (Sf ?_)
 refine QL (Wq hT1 (QL (Wq hT1 ?_)))
 show wpAny _ _ (We (.ref it) 6 e.key e.val) _ _ { s with heap:=h1 }
 have z1:h1.objs.size=s.heap.objs.size:=s1.1
 refine BX (s:={ s with heap:=h1 }) rfl e1' hxx fun h2 g2 t2 z2 k2=>?_
 rw [z1] at t2 z2 ⊢
 exact QN ⟨_,rfl,QN (hQ h2 g2 t2 z2 fun c o hc q=>k2 c o hc (s1.extBut c o hc q))⟩
theorem next_end (hh:A.handled=none) (hit:BW s.heap it d i es.size ep) (hod:s.heap.get? d=some od) (hdd:od.data=.dict es ep) (hx:es.size≤i)
 (hQ:∀ h',TM it s.heap h'→Q none { s with heap:=h' }):wpAny (model prog w) A (pyNext (.ref it)) Q E s:=by
 have hT:=hit.Kg
 obtain ⟨x,f,k,v,hat,hxx⟩:=hit
 unfold pyNext
 refine QL (Tw (SN (name:=QK "__next__") hT Um (Sk Um hT Xn ?_ (Xj _))))
 refine QL (QN (QL (QL ?_)))
 first | refine QL (Vj hT (QN ?_)) | refine QL (Vl hT (QN ?_))
 refine QL (wpAny_fieldsOf hat rfl ?_)
 simp only [qE,if_true]
 show wpAny _ _ (if (Rc d == RW)=true then _ else _) _ _ _
 rw [if_neg (show ¬ (Rc d == RW)=true from QZ)]
 refine QL (QN (QL (WO hod hdd ?_)))
 rw [if_neg (by simp)]
 refine QL (QN (QL (wpAny_dictEpoch hod hdd ?_)))
 rw [if_neg (by simp)]
 refine QN ?_
 simp only [show ¬ ((i:Int)<0) from by lia,if_false,Rp,Wv hx]
 refine QL ?_
 first | refine QL (Vj hT (QN ?_)) | refine QL (Vl hT (QN ?_))
 show wpAny _ _ (setField (.ref it) 2 .none >>= _) _ _ s
 refine QL (U4 hat rfl (by simp) (QL ?_))
 simp only [newExc,newTuple]
 refine QL (R0 ?_ (by size_fits))
 refine QL (m:=firstArgMember _ _) (wpAny_of_eq (a:=RW) (by first | rfl | (simp only [firstArgMember]; rfl)) ?_)
 refine R0 ?_ (by size_fits)
 simp only [raiseNew]
 refine QL (wpAny_handled ?_)
 rw [show A.in1.handled=none from hh]
 refine QL (QN (wpAny_throw ?_))
 refine QL (VI (T:="StopIteration") (b:=true) ⟨_,Q5 _ rfl,rfl⟩ isSubtype_stop ?_)
 exact QN (hQ _ (((UT ..).extBut.push _).push _))
theorem FW (hit:BW s.heap it d i n ep) (h:∀ h',BW h' it d i n ep→SH it s.heap h'→Q () { s with heap:=h' }):wpAny (model prog w) A (letOwnedTupleGo tg (.ref it) (.ref a)) Q E s:=by
 have stay:Q () s:=h s.heap hit (.refl ..)
 obtain ⟨x,f,k,v,hat,hxx⟩:=hit
 have part:wpAny (model prog w) A (do
  let o ← load it
  match o.cls,o.data with
  | .type n,.fields vs =>
   if (["enumerate","zip","dict_itemiterator","dict_reverseitemiterator","odict_iterator","itertools.zip_longest","itertools.pairwise"].contains n && vs[0]? == some (rawInt a))=true then do
    rule "for.unpacks-the-owned-tuple"
    updateField it 0 .none
   else pure ()
  | _,_=>pure ()) Q E s:=by
  refine QL (wpAny_load hat ?_)
  dsimp only
  split
  ·refine QL (RV ?_)
   show wpAny _ _ (setField (.ref it) 0 .none) Q E s
   exact Sj hat (by simp) fun h' e' s'=>h h' ⟨_,_,_,_,e',.inl rfl⟩ s'
  ·exact QN stay
 unfold letOwnedTupleGo
 cases tg <;> first
  | exact QN stay
  | exact part
end
noncomputable def cI:HO→List (V×V)
 | .dK ys=>ys.map fun y=>(kV y.1,y.2)
 | .dT ys=>ys.map fun y=>(.ref y.2.1,y.2.2)
 | _=>[]
theorem xu (h:lI k v=true):RelV (kV k) v:=by
 rcases bH h with ⟨i,t,rfl,rfl⟩ | ⟨x,t,rfl,rfl⟩
 ·exact ⟨t,rfl⟩
 ·exact ⟨t,rfl⟩
theorem dD (ok:bw P w H h d u) (hd:HO.dct u) (ho:h.get? d=some o) :
 o.ExactDict∧∃ es ep,o.data=.dict es ep∧Paired (fun (a:V×V) (e:DictEntry)=>RelV a.1 e.key∧RelV a.2 e.val) (cI u) es.toList∧(d == sysModules)=false∧(cI u).length≤sizeLine:=by
 cases u with
 | dK ys =>
  obtain ⟨z,y,vs,kv,o',es,ep,h1,h2,h3,h4,h5,h6⟩:=ok
  rw [ho] at h1; cases h1
  refine ⟨h2,es,ep,h3,?_,y,by simpa [cI] using z⟩
  show Paired _ (ys.map _) _
  clear h3 h4 h6 z
  generalize es.toList=l at h5 ⊢
  unfold KV at kv
  induction kv generalizing l with
  | nil=>cases h5; exact .nil
  | @cons a b as bs q t ih =>
   cases h5 with
   | cons r t' t''=>exact .cons ⟨by show L2.RelV (kV a.1) _; rw [q.1]; exact xu r,by rw [t']; exact q.2⟩ (ih hd _ t'')
 | dT ys =>
  obtain ⟨z,y,xs,kv,o',es,ep,h1,h2,h3,h4,h5⟩:=ok
  rw [ho] at h1; cases h1
  refine ⟨h2,es,ep,h3,?_,y,by simpa [cI] using z⟩
  rw [h4]
  show Paired _ (ys.map _) _
  clear h3 h4 h5 z
  induction kv with
  | nil=>exact .nil
  | @cons a b as bs q t ih =>
   rw [QW,QW]
   refine .cons ⟨?_,q.2.2⟩ (ih hd)
   show Rc b.2.1=Rc a.2.1
   rw [q.2.1]
 | _=>exact hd.elim
theorem fU:∀ {l:List α} {m:List β} {i:Nat} {a:α},Paired F l m→l[i]?=some a→∃ b,m[i]?=some b∧F a b
 | _,_,_,_,.nil,e=>by simp at e
 | _,_,0,_,.cons r _,e=>by simp at e; subst e; exact ⟨_,rfl,r⟩
 | _,_,i+1,a,.cons _ t,e=>by
  obtain ⟨b,h1,h2⟩:=fU (i:=i) t (by simpa using e)
  exact ⟨b,by simpa using h1,h2⟩
noncomputable def OE (d:Addr) (o:Obj) (u:HO):It :=
 ⟨fun i H=>H d=some (.frz o u)∧i<(cI u).length,fun i H x H'=>∃ p kv,(cI u)[i]?=some kv∧x=.ref p∧H p=none∧H'=upd H p (.tup [kv.1,kv.2]),fun i H=>H d=some (.frz o u)∧(cI u).length≤i⟩
theorem yW:entryFor table "dict_itemiterator.__iter__"=some Builtin.«dict_keyiterator.__iter__» :=entryFor_alias (id':="dict_keyiterator.__iter__") (by kernel_rfl) rfl (by decide +kernel) (by kernel_rfl)
theorem mh {P:Program} {w:World} {K:QM} {tg:Expr} {d it:Addr} {o:Obj} {u:HO} {es:Array DictEntry} {ep:Nat} (hd:HO.dct u) (hod:o.data=.dict es ep) (hne:it≠d) (hes:es.size=(cI u).length) :
 Turn P w K tg (OE d o u) [it] it (fun i h=>BW h it d i es.size ep) where
 mem:=by simp
 obj:=fun i h st b hb=>by
  have e:b=it:=by simpa using hb
  subst e
  obtain ⟨x,f,k,v,e,_⟩:=st
  exact ⟨_,e,fun v z=>by
   have z':Vd _=Uk v:=z
   cases z'⟩
 keep:=fun i h h' st k=>by
  obtain ⟨x,f,kk,v,e,hx⟩:=st
  exact ⟨x,f,kk,v,k it (by simp) _ e,hx⟩
 item:=by
  intro X hP hw hK hc i aa s σ H E I hf st hg
  subst hP hw hK
  obtain ⟨hH,hi⟩:=hg
  obtain ⟨f0,f1,f2,f3,f4,f5⟩:=hf it (by simp)
  obtain ⟨ho,ok⟩:=(show bw X.prog X.w H s.heap d (.frz o u) from I.hok d _ hH)
  obtain ⟨_,es',ep',e1,e2,_⟩:=dD ok hd ho
  rw [hod] at e1; cases e1
  obtain ⟨e,he,re⟩:=fU e2 (Ro hi)
  have he':es[i]?=some e:=by simpa using he
  refine next_item st ho hod he' fun h1 g1 t1 z1 k1=>?_
  have hil:it<s.heap.objs.size:=by
   obtain ⟨_,_,_,_,q,_⟩:=st
   exact QX q
  have Hp:H s.heap.objs.size=none:=I.hok.fresh (QS _)
  have hit0:it≠s.heap.objs.size:=Ri hil
  generalize hkv:(cI u)[i]=kv at re
  have IA:Inv X aa σ (upd H s.heap.objs.size (.tup [kv.1,kv.2])) { s with heap:=s.heap.push { cls:=.type "tuple",data:=.seq #[e.key,e.val] },toks:=s.toks } :=
   I.laid (a:=s.heap.objs.size) (o:=.tup [kv.1,kv.2]) (fun _ _ q=>QV _ q) (QS _) ⟨by show 2≤sizeLine; decide,[e.key,e.val],.cons re.1 (.cons re.2 .nil),_,Q5 _ rfl,rfl,0,rfl⟩
  have g0:upd H s.heap.objs.size (.tup [kv.1,kv.2]) it=none:=by rw [aj hit0]; exact f0
  have I1:Inv X aa σ (upd H s.heap.objs.size (.tup [kv.1,kv.2])) { s with heap:=h1,toks:=s.toks }:=IA.turned (fun b o hb q=>by
   by_cases z:b=s.heap.objs.size
   ·subst z
    rw [Q5 _ rfl] at q; cases q; exact t1
   ·have lt:b<s.heap.objs.size:=by
     have:=QX q
     rw [SD] at this
     exact Nat.lt_of_le_of_ne (Nat.le_of_lt_succ this) z
    refine k1 b o hb ?_
    rw [WZ _ _ _ z] at q; exact q) g0 f1 f3 f4 f5
  refine ⟨_,rfl,FW (s:={ s with heap:=h1 }) g1 fun h2 g2 s2=>?_⟩
  refine ⟨.ref s.heap.objs.size,_,I1.turned (t':=s.toks) (fun b o hb q=>(s2.2 b hb).trans q) g0 f1 f3 f4 f5,rfl,⟨_,kv,by rw [Ro hi,hkv],rfl,Hp,rfl⟩,g2,fun b hb=>?_⟩
  have e:b=it:=by simpa using hb
  rw [e]; exact g0
 done:=by
  intro X hP hw hK hc i aa s σ H E I hf st hg
  subst hP hw hK
  obtain ⟨hH,hi⟩:=hg
  obtain ⟨f0,f1,f2,f3,f4,f5⟩:=hf it (by simp)
  obtain ⟨ho,ok⟩:=(show bw X.prog X.w H s.heap d (.frz o u) from I.hok d _ hH)
  exact next_end (I.ok.hd hc) st ho hod (by lia) fun h' eb=>⟨rfl,I.turned (t':=s.toks) (fun b o hb e=>eb b o hb e) f0 f1 f3 f4 f5⟩
 self:=by
  intro A i s Q E st h
  have hT:=st.Kg
  refine wpAny_pyIter_slot hT Xp (Sk Xp hT yW ?_ (F.args_dict_itemiterator_iter_1 _))
  show wpAny _ _ (ret (.ref it)) _ _ s
  exact QN ⟨_,rfl,"dict_itemiterator",_,hT,Um.lookup,h⟩
section
theorem kE (d) (hd:(d == sysModules)=false) :
 MeetsIn prog w (Builtin.«dict.items» ⟨[.ref d],[]⟩) (fun _ R s=>s.TypeIs (.ref d) "dict"∧R (.ok (.ret (.ref s.heap.objs.size))) { s with heap:=s.heap.push { cls:=.type "dict_items",data:=.fields #[.ref d] } }) :=
 .of_wp fun A R s ⟨hT,h⟩=>by
  unfold Builtin.«dict.items»
  refine QL ?_
  unfold Builtin.Dict.noArgs
  refine QL (wpAny_notOrdered_dict hT (show wpAny _ _ (pure d) _ _ s from QN ?_))
  show wpAny _ _ (Builtin.Dict.showsAll d >>= _) _ _ s
  unfold Builtin.Dict.showsAll
  rw [if_neg (by rw [hd]; exact QZ)]
  exact QL (QN (QL (R0 (QN ⟨_,rfl,h⟩))))
theorem pB (hv:s.heap.IsItemsView v d) (hod:s.heap.get? d=some od) (hdd:od.data=.dict es ep)
 (hQ:Q (.ref s.heap.objs.size) { s with heap:=s.heap.push { cls:=.type "dict_itemiterator",data:=.fields #[.none,.bool false,.ref d,.int 0 0,.int es.size 0,.int ep 0,.none,.none] } }) :
 wpAny (model prog w) A (pyIter (.ref v)) Q E s:=by
 obtain ⟨ov,hov,hcv,hdv⟩:=id hv
 refine wpAny_pyIter_slot hv.typeIs F.slot_dict_items_iter (Sk F.slot_dict_items_iter hv.typeIs F.entry_dict_items_iter ?_ (F.args_dict_items_iter_1 _))
 unfold Builtin.«dict_items.__iter__»
 refine QL (QN (QL ?_))
 unfold Builtin.Dict_items.dictOf
 refine QL (RD hov hdv (x:=.ref d) rfl (QN (QL ?_)))
 unfold Builtin.Dict_items.newIterator
 refine QL (WO hod hdd (QL (wpAny_dictEpoch hod hdd ?_)))
 simp only [qE,if_true]
 refine R0 (QN ⟨_,rfl,"dict_itemiterator",_,⟨_,Q5 _ rfl,rfl⟩,Um.lookup,?_⟩)
  (by simp only [sizeOk,Xi,Rb,Rr,RH,SS,sizeLine_eq]; lia)
 simpa [rawInt,Xi] using hQ
end
noncomputable def yX:Key→D | .inl i=>.int i | .inr x=>.str x
noncomputable def D.pairs:D→Option (List D)
 | .fdK ks ds=>some (U9 (fun k d=>D.tup [yX k,d]) ks ds)
 | .fdT ks ds=>some (U9 (fun k d=>D.tup [.tup (k.map yX),d]) ks ds)
 | _=>none
noncomputable def Kh (te:TE):TI:=fun σ H R=>te σ H fun x H1=>∃ d o u,x=.ref d∧H1 d=some (.frz o u)∧HO.dct u∧∀ v,H1 v=none→R (OE d o u) (upd H1 v (.ext fun h=>h.IsItemsView v d))
theorem BY (he:PE X e te) (hbase:attributeBase e "items" X.env (eval e X.env)=eval e X.env) (hline:(ap.endLine == cp.line)=true):PI X tg (.Call (.Attribute e "items" ap) [] [] cp) (Kh te):=by
 intro aa s σ H R I h
 refine WQ (T:="dict") (id:="dict.items") hbase rfl hline F.plainAttrs_dict VH F.type_dict_items (bD (he aa s σ H _ I h) fun v s1 hh=>z2 hh fun x H1 hh=>w3 hh fun I1 r1 hh=>z3 hh fun d o u hh=>w4 hh fun ex hH hd q=>?_)
 subst ex
 cases r1
 obtain ⟨ho,ok⟩:=(show bw X.prog X.w H1 s1.heap d (.frz o u) from I1.hok d _ hH)
 obtain ⟨hx,es,ep,hod,hp,hs,hz⟩:=dD ok hd ho
 have hT:s1.TypeIs (.ref d) "dict":=⟨o,ho,hx.1⟩
 refine ⟨hT,fun b z=>by cases z; exact ⟨o,ho,hx.2.1⟩,?_⟩
 show wpAny _ _ (callWith cp (.builtin "dict.items") [.ref d] [] []) _ _ s1
 refine method_meetsIn VH F.entry_dict_items rfl (WB ⟨rfl,hT,F.args_dict_items_1 _,_,kE d hs,hT,?_⟩)
 have Hv:H1 s1.heap.objs.size=none:=I1.hok.fresh (QS _)
 have hve:(s1.heap.push { cls:=.type "dict_items",data:=.fields #[.ref d] }).IsItemsView s1.heap.objs.size d:=⟨_,Q5 _ rfl,rfl,rfl⟩
 have I2:Inv X aa σ (upd H1 s1.heap.objs.size (.ext fun h=>h.IsItemsView s1.heap.objs.size d)) { s1 with heap:=s1.heap.push { cls:=.type "dict_items",data:=.fields #[.ref d] },toks:=s1.toks } :=
  I1.laid (a:=s1.heap.objs.size) (fun _ _ q=>QV _ q) (QS _) ⟨hve,⟨_,Q5 _ rfl⟩,fun h1 h2 ⟨o,e,r⟩ k=>⟨o,k o e,r⟩⟩
 refine pB hve (QV _ ho) hod ?_
 have hsz:es.size=(cI u).length:=by rw [SE hp]; simp
 have I3:=I2.kept (t':=s1.toks) (h':=(s1.heap.push { cls:=.type "dict_items",data:=.fields #[.ref d] }).push { cls:=.type "dict_itemiterator",data:=.fields #[.none,.bool false,.ref d,.int 0 0,.int es.size 0,.int ep 0,.none,.none] }) fun b o e=>QV _ e
 refine ⟨_,[_],_,_,_,rfl,I3,mh (o:=o) (u:=u) (es:=es) (ep:=ep) hd hod (fun z=>?_) hsz,⟨.none,false,.none,.none,Q5 _ rfl,.inl rfl⟩,fun b hb=>?_,q _ Hv⟩
 ·have lt:=QX (QV ({ cls:=.type "dict_items",data:=.fields #[.ref d] }:Obj) ho)
  rw [z] at lt
  exact absurd lt (Sv _)
 ·have e:b=(s1.heap.push { cls:=.type "dict_items",data:=.fields #[.ref d] }).objs.size:=by simpa using hb
  subst e
  exact I2.nR (QS _) (I2.hok.fresh (QS _))
section
variable {K:QM} {Hf:Hp}
theorem sL:Rep K Hf (yX k) (kV k):=by
 cases k with
 | inl i=>exact av.mpr rfl
 | inr x=>exact fS.mpr rfl
theorem pD:∀ {ks:List Key},ak K Hf (ks.map yX) (ks.map kV)
 | []=>aA.mpr rfl
 | k::ks=>.cons sL pD
noncomputable def pF (K:QM) (Hf:Hp) (d:D) (kv:V×V):Prop:=∃ k e,d=.tup [k,e]∧Rep K Hf k kv.1∧Rep K Hf e kv.2
theorem xw:∀ {ys:List (Key×V)} {vs:List D},ak K Hf vs (ys.map (·.2))→Paired (pF K Hf) (U9 (fun k d=>D.tup [yX k,d]) (ys.map (·.1)) vs) (ys.map fun y=>(kV y.1,y.2))
 | [],vs,h=>by
  cases vs with
  | nil=>exact .nil
  | cons d ds=>obtain ⟨x,r,e,_⟩:=aE.mp h; cases e
 | y::ys,vs,h=>by
  cases vs with
  | nil=>rw [aA] at h; cases h
  | cons d ds =>
   obtain ⟨x,r,e,h1,h2⟩:=aE.mp h
   cases e
   exact .cons ⟨_,_,rfl,sL,h1⟩ (xw h2)
theorem xx:∀ {ys:List (List Key×Addr×V)} {vs:List D},(∀ y∈ys,dw K Hf y.2.1 (y.1.map kV))→ak K Hf vs (ys.map (·.2.2))→Paired (pF K Hf) (U9 (fun k d=>D.tup [.tup (k.map yX),d]) (ys.map (·.1)) vs) (ys.map fun y=>(.ref y.2.1,y.2.2))
 | [],vs,_,h=>by
  cases vs with
  | nil=>exact .nil
  | cons d ds=>obtain ⟨x,r,e,_⟩:=aE.mp h; cases e
 | y::ys,vs,hk,h=>by
  cases vs with
  | nil=>rw [aA] at h; cases h
  | cons d ds =>
   obtain ⟨x,r,e,h1,h2⟩:=aE.mp h
   cases e
   exact .cons ⟨_,_,rfl,aJ.mpr ⟨_,_,rfl,hk y Q6,pD⟩,h1⟩ (xx (fun z hz=>hk z (Q9 _ hz)) h2)
theorem pG (hp:d.pairs=some ds) (h:Rep K Hf d v):∃ a o u,v=.ref a∧Hf a=some (.frz o u)∧HO.dct u∧Paired (pF K Hf) ds (cI u):=by
 cases d with
 | fdK ks vs =>
  cases hp
  obtain ⟨a,ys,o,rfl,h1,h2,h3⟩:=i8.mp h
  subst h2
  exact ⟨a,o,_,rfl,h1,trivial,xw h3⟩
 | fdT ks vs =>
  cases hp
  obtain ⟨a,ys,o,rfl,h1,h2,h3,h4⟩:=qm.mp h
  subst h2
  exact ⟨a,o,_,rfl,h1,trivial,xx h3 h4⟩
 | _=>cases hp
theorem mj {ds:List D} {a:Addr} {o:Obj} {u:HO} (h:Hf a=some (.frz o u)) (hp:Paired (pF K Hf) ds (cI u)):jM K (OE a o u) ds Hf where
 go:=fun i d H aP s1 s2 e=>by
  obtain ⟨kv,ekv,k,dd,rfl,r1,r2⟩:=fU hp e
  refine ⟨⟨s2 _ _ (s1 _ _ h),(Q2.mp ekv).1⟩,fun x H' ⟨p,kv',e1,e2,e3,e4⟩=>?_⟩
  rw [ekv] at e1; cases e1
  subst e2 e4
  have g:=bu.new s2 e3 (o:=.tup [kv.1,kv.2])
  exact ⟨upd aP p (.tup [kv.1,kv.2]),g,aJ.mpr ⟨p,_,rfl,.inl (.inl ah),.cons (Rep.mono (s1.trans g.f) _ r1) (.cons (Rep.mono (s1.trans g.f) _ r2) (aA.mpr rfl))⟩⟩
 stop:=fun i H aP s1 s2 e=>⟨s2 _ _ (s1 _ _ h),by rw [← SE hp]; exact e⟩
end
section
variable {K:QM}
theorem FY (h:aH c e ρ fun d=>∃ ds,d.pairs=some ds∧R ds)
 (hb:∀ env,attributeBase e "items" env (eval e env)=eval e env:=by intro _; walk_at "u") (hl:(ap.endLine == cp.line)=true:=by walk_at "u") :
 yO c tg (.Call (.Attribute e "items" ap) [] [] cp) ρ R:=fun σ H Hf Q S q aa s I =>
 BY (cW (X:=c.X)) (hb _) hl aa s σ H Q I (h σ H Hf _ S fun d v H1 aP ⟨ds,hp,hR⟩ rv g=>by
  obtain ⟨a,o,u,e1,e2,e3,e4⟩:=pG hp rv
  refine ⟨a,o,u,e1,g.b _ _ e2,e3,fun vw hv=>?_⟩
  exact q ds _ _ aP hR (g.trans (bu.gp g.b hv)) (mj e2 e4))
theorem Kl {x:D} {Q:List D→Prop} (e:x.pairs=some ds) (h:Q ds):∃ ys,x.pairs=some ys∧Q ys:=⟨ds,e,h⟩
end
end EV
namespace SR
open PySem PyProof.Rows
noncomputable def cQ:Bool→Keyed→Array Keyed→Nat→Nat→Nat→StateT SortSt Sem (Option Nat):=sortPriv% PySem.Builtin.gallop
noncomputable def cH:Nat→StateT SortSt Sem Unit:=sortPriv% PySem.Builtin.setMinGallop
noncomputable def dW (left:Bool) (key:Keyed) (arr:Array Keyed) (base i:Nat):StateT SortSt Sem (Option Bool):=do
 let x ← elem' arr (base+i)
 if left then lt' x key else return (← lt' key x).map (!·)
noncomputable abbrev sM:=Option (Option Nat)×Nat×Nat
noncomputable def mq (bey:Nat→StateT SortSt Sem (Option Bool)) (n lo hi:Nat):StateT SortSt Sem (Option Nat):=do
 let __s ← forIn [0:n] ((none,lo,hi):sM) fun _ __s =>
  if __s.snd.fst≥__s.snd.snd then pure (Ss (none,__s.snd.fst,__s.snd.snd))
  else do
   let __x ← bey (__s.snd.fst+(__s.snd.snd - __s.snd.fst) / 2)
   match __x with
   | some more=>if more=true then pure (RQ (none,__s.snd.fst+(__s.snd.snd - __s.snd.fst) / 2+1,__s.snd.snd)) else pure (RQ (none,__s.snd.fst,__s.snd.fst+(__s.snd.snd - __s.snd.fst) / 2))
   | _=>pure (Ss (some none,__s.snd.fst,__s.snd.snd))
 match __s.fst with
 | some r=>pure r
 | none=>pure (some __s.snd.snd)
noncomputable def BZ (bey:Nat→StateT SortSt Sem (Option Bool)) (n hint maxofs:Nat):StateT SortSt Sem sM :=
 forIn [0:n] ((none,0,1):sM) fun _ __s =>
  if __s.snd.snd≥maxofs then pure (Ss (none,__s.snd.fst,__s.snd.snd))
  else do
   let __x ← bey (hint+__s.snd.snd)
   match __x with
   | some more=>if (!more)=true then pure (Ss (none,__s.snd.fst,__s.snd.snd)) else pure (RQ (none,__s.snd.snd,2 * __s.snd.snd+1))
   | _=>pure (Ss (some none,__s.snd.fst,__s.snd.snd))
noncomputable def B0 (bey:Nat→StateT SortSt Sem (Option Bool)) (n hint maxofs:Nat):StateT SortSt Sem sM :=
 forIn [0:n] ((none,0,1):sM) fun _ __s =>
  if __s.snd.snd≥maxofs then pure (Ss (none,__s.snd.fst,__s.snd.snd))
  else do
   let __x ← bey (hint - __s.snd.snd)
   match __x with
   | some found=>if found=true then pure (Ss (none,__s.snd.fst,__s.snd.snd)) else pure (RQ (none,__s.snd.snd,2 * __s.snd.snd+1))
   | _=>pure (Ss (some none,__s.snd.fst,__s.snd.snd))
local macro_rules | `(tactic| walk_at "dl gallop")=>do
 let i:=Uc (TY `PySem.Builtin.List.W1All `PySem.Builtin.gallop)
 `(tactic| delta $i)
theorem ve (left) (key) (arr) (base n hint):cQ left key arr base n hint=(do
 let __x ← dW left key arr base hint
 match __x with
 | some right =>
  if right=true then do
   let __s ← BZ (dW left key arr base) n hint (n - hint)
   match __s.fst with
   | some r=>pure r
   | none=>mq (dW left key arr base) n (hint+__s.snd.fst+1) (hint+min __s.snd.snd (n - hint))
  else do
   let __s ← B0 (dW left key arr base) n hint (hint+1)
   match __s.fst with
   | some r=>pure r
   | none=>mq (dW left key arr base) n (hint+1 - min __s.snd.snd (hint+1)) (hint - __s.snd.fst)
 | _=>pure none):=by
 unfold cQ
 walk_at "dl gallop"
 unfold BZ B0 mq dW
 dsimp only
 congr 1
 funext x
 cases x with
 | none=>rfl
 | some right =>
  dsimp only
  cases right with
  | true =>
   rw [if_pos rfl,if_pos rfl]
   congr 1
   funext c
   obtain ⟨r,l,o⟩:=c
   cases r with
   | some r=>rfl
   | none =>
    dsimp only
    congr 1
    funext c
    obtain ⟨r,l,o⟩:=c
    cases r <;> rfl
  | false =>
   rw [if_neg QZ,if_neg QZ]
   congr 1
   funext c
   obtain ⟨r,l,o⟩:=c
   cases r with
   | some r=>rfl
   | none =>
    dsimp only
    congr 1
    funext c
    obtain ⟨r,l,o⟩:=c
    cases r <;> rfl
section
noncomputable def iZ (prog:Program) (w:World) (A:Around) (s:Shared) (κ:SortKind) (rk:Keyed→Int) (L:List Keyed):Prop :=
 ∀ x∈L,∀ y∈L,∀ (E:Value→Shared→Prop) (Q:Bool→Shared→Prop),Q (decide (rk x<rk y)) s→wpAny (model prog w) A (keyLt' κ x.1 y.1) Q E s
noncomputable def R (rk:Keyed→Int) (xs:Array Keyed) (i:Nat):Int:=match xs[i]? with | some p=>rk p | none=>0
theorem dX (h:xs[i]?=some p):R rk xs i=rk p:=by unfold R; rw [h]
theorem cy (h:xs[i]?=ys[j]?):R rk xs i=R rk ys j:=by unfold R; rw [h]
theorem mw {st:SortSt} (hC:iZ prog w A s κ rk L) (hk:kindOf st=κ) (hx:x∈L) (hy:y∈L) (h:Q (some (decide (rk x<rk y))) st):wpS (model prog w) A E s (lt' x y) Q st:=by
 rw [lt'_eq]
 refine QO (Sw ?_)
 rw [hk]
 refine QO (TV (Tw (hC x hx y hy _ _ ⟨rfl,?_⟩)))
 exact QT h
theorem aU {st:SortSt} (hi:arr[i]?=some p) (h:Q p st):wpS (model prog w) A E s (elem' arr i) Q st:=by
 rw [elem'_eq,hi]; exact QT h
theorem yY {st:SortSt} (hC:iZ prog w A s κ rk L) (hk:kindOf st=κ) (hi:(arrOf st)[i]?=some p) (hj:(arrOf st)[j]?=some q) (hp:p∈L) (hq:q∈L)
 (h:Q (some (decide (R rk (arrOf st) i<R rk (arrOf st) j))) st):wpS (model prog w) A E s (ltAt' i j) Q st:=by
 rw [ltAt'_eq]
 refine QO (Sw ?_)
 show wpS _ _ _ _ (do let x ← elem' (arrOf st) i; let y ← elem' (arrOf st) j; lt' x y) Q st
 refine QO (aU hi (QO (aU hj (mw hC hk hp hq ?_))))
 rw [dX hi,dX hj] at h
 exact h
theorem vf {st:SortSt} (hC:iZ prog w A s κ rk L) (hk:kindOf st=κ) (hkey:key∈L) (hi:arr[base+i]?=some p) (hp:p∈L)
 (hb:(if left=true then rk p<rk key else rk p≤rk key)↔i<k) (h:Q (some (decide (i<k))) st):wpS (model prog w) A E s (dW left key arr base i) Q st:=by
 unfold dW
 refine QO (aU hi ?_)
 cases left with
 | true =>
  simp only [if_true] at hb ⊢
  refine mw hC hk hp hkey ?_
  rw [decide_eq_decide.mpr hb]; exact h
 | false =>
  simp only [RO,if_false] at hb ⊢
  refine QO (mw hC hk hkey hp (QT ?_))
  have e:(!decide (rk key<rk p))=decide (i<k):=by
   rw [← decide_not]; exact decide_eq_decide.mpr (by rw [← hb]; omega)
  rw [Option.map_some,e]; exact h
theorem mz {st:SortSt} {n lo hi k:Nat} (hb:∀ i,i<n→∀ (Q:Option Bool→SortSt→Prop),Q (some (decide (i<k))) st→wpS (model prog w) A E s (bey i) Q st)
 (h1:lo≤k) (h2:k≤hi) (h3:hi≤n) (h:Q (some k) st):wpS (model prog w) A E s (mq bey n lo hi) Q st:=by
 unfold mq
 refine QO (RA (R1 (I:=fun x c st'=>st'=st∧∃ l r,c=(none,l,r)∧l≤k∧k≤r∧r≤n∧r - l≤n - x) (Q:=fun c st'=>st'=st∧∃ l,c=(none,l,k)) ?step ?fin ⟨rfl,lo,hi,rfl,h1,h2,h3,by omega⟩) ?post)
 case fin =>
  rintro c st' ⟨rfl,l,r,rfl,a1,a2,a3,a4⟩
  have:r=k:=by omega
  subst this
  exact ⟨rfl,l,rfl⟩
 case step =>
  rintro x c st' _ hx ⟨rfl,l,r,rfl,a1,a2,a3,a4⟩
  dsimp only
  by_cases hge:l≥r
  ·rw [if_pos hge]
   have:r=k:=by omega
   subst this
   exact QT ⟨rfl,l,rfl⟩
  ·rw [if_neg hge]
   refine QO (hb _ (by omega) _ ?_)
   dsimp only
   by_cases hm:l+(r - l) / 2<k
   ·rw [decide_eq_true hm,if_pos rfl]
    exact QT ⟨rfl,_,_,rfl,by omega,by omega,by omega,by omega⟩
   ·rw [decide_eq_false hm,if_neg QZ]
    exact QT ⟨rfl,_,_,rfl,by omega,by omega,by omega,by omega⟩
 case post =>
  rintro c st' ⟨rfl,l,rfl⟩
  exact QT h
theorem fV {st:SortSt} (hC:iZ prog w A s κ rk L) (hk:kindOf st=κ) (hkey:key∈L) (harr:∀ i,i<n→∃ p,arr[base+i]?=some p∧p∈L)
 (hb:∀ i,i<n→((if left=true then R rk arr (base+i)<rk key else R rk arr (base+i)≤rk key)↔i<k)) (hkn:k≤n) (hh:hint<n) (h:Q (some k) st):wpS (model prog w) A E s (cQ left key arr base n hint) Q st:=by
 have bey:∀ i,i<n→∀ (Q:Option Bool→SortSt→Prop),Q (some (decide (i<k))) st→wpS (model prog w) A E s (dW left key arr base i) Q st:=fun i hi Q hQ=>by
  obtain ⟨p,e,hp⟩:=harr i hi
  refine vf hC hk hkey e hp ?_ hQ
  have:=hb i hi
  rw [dX e] at this
  exact this
 rw [ve]
 refine QO (bey hint hh _ ?_)
 dsimp only
 by_cases hr:hint<k
 ·rw [decide_eq_true hr,if_pos rfl]
  unfold BZ
  refine QO (RA (R1 (I:=fun x c st'=>st'=st∧∃ l o,c=(none,l,o)∧hint+l<k∧x<o) (Q:=fun c st'=>st'=st∧∃ l o,c=(none,l,o)∧hint+l<k∧(k≤hint+o∨n - hint≤o)) ?step ?fin ⟨rfl,0,1,rfl,hr,by omega⟩) ?post)
  case fin =>
   rintro c st' ⟨rfl,l,o,rfl,a1,a2⟩
   exact ⟨rfl,l,o,rfl,a1,.inr (by omega)⟩
  case step =>
   rintro x c st' _ hx ⟨rfl,l,o,rfl,a1,a2⟩
   dsimp only
   by_cases hge:o≥n - hint
   ·rw [if_pos hge]; exact QT ⟨rfl,l,o,rfl,a1,.inr hge⟩
   ·rw [if_neg hge]
    refine QO (bey _ (by omega) _ ?_)
    dsimp only
    by_cases hm:hint+o<k
    ·rw [decide_eq_true hm]; simp only [Ua,RO,if_false]
     exact QT ⟨rfl,o,2 * o+1,rfl,hm,by omega⟩
    ·rw [decide_eq_false hm]; simp only [Bool.not_false,if_true]
     exact QT ⟨rfl,l,o,rfl,a1,.inl (by omega)⟩
  case post =>
   rintro c st' ⟨rfl,l,o,rfl,a1,a2⟩
   dsimp only
   exact mz bey (by omega) (by omega) (by omega) h
 ·rw [decide_eq_false hr,if_neg QZ]
  unfold B0
  refine QO (RA (R1 (I:=fun x c st'=>st'=st∧∃ l o,c=(none,l,o)∧l≤hint∧k≤hint - l∧x<o) (Q:=fun c st'=>st'=st∧∃ l o,c=(none,l,o)∧l≤hint∧k≤hint - l∧(hint+1≤k+o∨hint+1≤o)) ?step ?fin ⟨rfl,0,1,rfl,by omega,by omega,by omega⟩) ?post)
  case fin =>
   rintro c st' ⟨rfl,l,o,rfl,a1,a2,a3⟩
   exact ⟨rfl,l,o,rfl,a1,a2,.inr (by omega)⟩
  case step =>
   rintro x c st' _ hx ⟨rfl,l,o,rfl,a1,a2,a3⟩
   dsimp only
   by_cases hge:o≥hint+1
   ·rw [if_pos hge]; exact QT ⟨rfl,l,o,rfl,a1,a2,.inr hge⟩
   ·rw [if_neg hge]
    refine QO (bey _ (by omega) _ ?_)
    dsimp only
    by_cases hm:hint - o<k
    ·rw [decide_eq_true hm,if_pos rfl]
     exact QT ⟨rfl,l,o,rfl,a1,a2,.inl (by omega)⟩
    ·rw [decide_eq_false hm,if_neg QZ]
     exact QT ⟨rfl,o,2 * o+1,rfl,by omega,by omega,by omega⟩
  case post =>
   rintro c st' ⟨rfl,l,o,rfl,a1,a2,a3⟩
   dsimp only
   exact mz bey (by omega) (by omega) (by omega) h
end
noncomputable def mC:Array Keyed→Array Keyed→StateT SortSt Sem (Array Keyed):=sortPriv% PySem.Builtin.mergeLo
theorem fW {st:SortSt} (h:Q () (TQ (kindOf st) (arrOf st) (pendingOf st) g (failedOf st))):wpS M A E s (cH g) Q st :=
 SM (f:=fun st=>TQ (kindOf st) (arrOf st) (pendingOf st) g (failedOf st)) h
section
variable {rk:Keyed→Int} {a b:Array Keyed}
noncomputable def B3 (rk:Keyed→Int) (xs:List Keyed):Prop:=xs.Pairwise fun p q=>rk p≤rk q
theorem xy (h:xs.length≤1):B3 rk xs:=by
 cases xs with
 | nil=>exact UX
 | cons x xs =>
  cases xs with
  | nil=>exact Uu _ _
  | cons y ys=>simp at h
noncomputable def Res (rk:Keyed→Int) (a b r:Array Keyed):Prop:=r.toList.Perm (a.toList++b.toList)∧B3 rk r.toList
structure WL (rk:Keyed→Int) (a b:Array Keyed) (out:Array Keyed) (ia ib:Nat):Prop where
 pa:ia≤a.size
 pb:ib≤b.size
 pm:out.toList.Perm (a.toList.take ia++b.toList.take ib)
 sr:B3 rk out.toList
 ha:∀ p∈out.toList,∀ (j:Nat) (q:Keyed),ia≤j→a[j]?=some q→rk p≤rk q
 hb:∀ p∈out.toList,∀ (j:Nat) (q:Keyed),ib≤j→b[j]?=some q→rk p≤rk q
noncomputable def Up (rk:Keyed→Int) (a:Array Keyed):Prop:=∀ (i j:Nat) (p q:Keyed),i≤j→a[i]?=some p→a[j]?=some q→rk p≤rk q
theorem jQ (h:Up rk a):B3 rk a.toList:=by
 unfold B3
 rw [Wf]
 intro i j hi hj hij
 exact h i j _ _ (TJ hij) (by simp at hi ⊢) (by simp at hj ⊢)
theorem Km (h:B3 rk a.toList):Up rk a:=fun i j p q hij e1 e2=>by
 rw [← RN] at e1 e2
 obtain ⟨h1,r1⟩:=Q2.mp e1
 obtain ⟨h2,r2⟩:=Q2.mp e2
 subst r1 r2
 rcases Nat.lt_or_eq_of_le hij with z | z
 ·exact (Wf.mp h) i j h1 h2 z
 ·subst z; exact Sg _
theorem bN (h1:B3 rk xs) (h2:B3 rk ys) (h3:∀ p∈xs,∀ q∈ys,rk p≤rk q):B3 rk (xs++ys):=List.pairwise_append.mpr ⟨h1,h2,h3⟩
theorem eB (xs:Array Keyed) (i j):(xs.extract i j).toList=(xs.toList.take j).drop i:=by
 rw [List.drop_take]; simp [List.extract_eq_take_drop]
theorem gY (xs:Array Keyed) (i):(xs.extract i xs.size).toList=xs.toList.drop i:=by
 rw [eB,UO (by simp)]
theorem jj (xs:Array Keyed) (i):(xs.extract i i).toList=[]:=by
 rw [eB,List.drop_take]; simp
theorem xA {xs:Array Keyed} (h:q∈(xs.extract i j).toList):∃ k,i≤k∧k<j∧xs[k]?=some q:=by
 obtain ⟨n,hn⟩:=Ux h
 rw [RN,Vt] at hn
 split at hn
 ·rename_i z
  exact ⟨i+n,by lia,by lia,hn⟩
 ·cases hn
theorem WL.jR (h:WL rk a b out ia ib) (ua:Up rk a) (e:ib=b.size):Res rk a b (out++a.extract ia a.size++b.extract ib b.size):=by
 subst e
 have e0:(out++a.extract ia a.size++b.extract b.size b.size).toList=out.toList++a.toList.drop ia:=by
  rw [R7,R7,gY,gY,List.drop_of_length_le (show b.toList.length≤b.size by simp),Ru]
 refine ⟨?_,?_⟩
 ·rw [e0]
  have hp:=h.pm
  rw [UO (show b.toList.length≤b.size by simp)] at hp
  refine (hp.append_right _).trans ?_
  have:(a.toList.take ia++b.toList++a.toList.drop ia).Perm (a.toList.take ia++a.toList.drop ia++b.toList):=by
   rw [Rk,Rk]
   exact Uw _ T3
  rw [S0] at this
  exact this
 ·rw [e0]
  refine bN h.sr ((jQ ua).sublist (WY _ _)) fun p hp q hq=>?_
  obtain ⟨n,hn⟩:=Ux hq
  rw [UA] at hn
  exact h.ha p hp (ia+n) q (by lia) (by rw [← RN]; exact hn)
theorem WL.jS (h:WL rk a b out ia ib) (ub:Up rk b) (e:ia=a.size):Res rk a b (out++a.extract ia a.size++b.extract ib b.size):=by
 subst e
 have e0:(out++a.extract a.size a.size++b.extract ib b.size).toList=out.toList++b.toList.drop ib:=by
  rw [R7,R7,gY,gY,List.drop_of_length_le (show a.toList.length≤a.size by simp),Ru]
 refine ⟨?_,?_⟩
 ·rw [e0]
  have hp:=h.pm
  rw [UO (show a.toList.length≤a.size by simp)] at hp
  refine (hp.append_right _).trans ?_
  rw [Rk,S0]
 ·rw [e0]
  refine bN h.sr ((jQ ub).sublist (WY _ _)) fun p hp q hq=>?_
  obtain ⟨n,hn⟩:=Ux hq
  rw [UA] at hn
  exact h.hb p hp (ib+n) q (by lia) (by rw [← RN]; exact hn)
theorem WL.last (h:WL rk a b out ia ib) (ub:Up rk b) (e:ia+1=a.size) (hl:∀ (j:Nat) (p q:Keyed),a[ia]?=some p→b[j]?=some q→rk q≤rk p) :
 Res rk a b (out++b.extract ib b.size++a.extract ia a.size):=by
 have e0:(out++b.extract ib b.size++a.extract ia a.size).toList=out.toList++(b.toList.drop ib++a.toList.drop ia):=by
  rw [R7,R7,gY,gY,Rk]
 refine ⟨?_,?_⟩
 ·rw [e0]
  refine (h.pm.append_right _).trans ?_
  have:(a.toList.take ia++b.toList.take ib++(b.toList.drop ib++a.toList.drop ia)).Perm (a.toList.take ia++a.toList.drop ia++(b.toList.take ib++b.toList.drop ib)):=by
   rw [Rk,Rk]
   refine Uw _ ?_
   rw [← Rk]
   exact T3
  rw [S0,S0] at this
  exact this
 ·rw [e0]
  have ml:∀ q∈b.toList.drop ib,∃ j,ib≤j∧b[j]?=some q:=fun q hq=>by
   obtain ⟨n,hn⟩:=Ux hq
   rw [UA] at hn
   exact ⟨ib+n,by lia,by rw [← RN]; exact hn⟩
  have ml2:∀ q∈a.toList.drop ia,a[ia]?=some q:=fun q hq=>by
   obtain ⟨n,hn⟩:=Ux hq
   rw [UA] at hn
   have:=(Q2.mp hn).1
   have hn0:n=0:=by simp at this; lia
   subst hn0
   rw [← RN]; exact hn
  refine bN h.sr (bN ((jQ ub).sublist (WY _ _)) ?_ fun p hp q hq=>?_) fun p hp q hq=>?_
  ·exact xy (by simp; lia)
  ·obtain ⟨j,_,e1⟩:=ml p hp
   exact hl j q p (ml2 q hq) e1
  ·rcases Rg.mp hq with z | z
   ·obtain ⟨j,h1,e1⟩:=ml q z
    exact h.hb p hp j q h1 e1
   ·exact h.ha p hp ia q (QS _) (ml2 q z)
theorem cR {xs:Array Keyed} (h:xs[i]?=some p):xs.toList.take (i+1)=xs.toList.take i++[p]:=by
 rw [WV,RN,h]; rfl
theorem WL.gx {out:Array Keyed} {ia ib:Nat} {p:Keyed} (h:WL rk a b out ia ib) (ub:Up rk b) (e:b[ib]?=some p) (hl:∀ (j:Nat) (q:Keyed),ia≤j→a[j]?=some q→rk p≤rk q):WL rk a b (out.push p) ia (ib+1) where
 pa:=h.pa
 pb:=(Ut.mp e).1
 pm:=by
  rw [RB,cR e,← Rk]
  exact h.pm.append_right _
 sr:=by
  rw [RB]
  exact bN h.sr (Uu _ _) fun q hq r hr=>by
   rw [Q8.mp hr]; exact h.hb q hq ib p (QS _) e
 ha:=fun q hq j r hj er=>by
  rw [RB] at hq
  rcases Rg.mp hq with z | z
  ·exact h.ha q z j r hj er
  ·rw [Q8.mp z]; exact hl j r hj er
 hb:=fun q hq j r hj er=>by
  rw [RB] at hq
  rcases Rg.mp hq with z | z
  ·exact h.hb q z j r (by lia) er
  ·rw [Q8.mp z]; exact ub ib j p r (by lia) e er
theorem WL.gy {out:Array Keyed} {ia ib:Nat} {p:Keyed} (h:WL rk a b out ia ib) (ua:Up rk a) (e:a[ia]?=some p) (hl:∀ (j:Nat) (q:Keyed),ib≤j→b[j]?=some q→rk p≤rk q):WL rk a b (out.push p) (ia+1) ib where
 pa:=(Ut.mp e).1
 pb:=h.pb
 pm:=by
  rw [RB,cR e]
  refine (h.pm.append_right _).trans ?_
  rw [Rk,Rk]
  exact Uw _ T3
 sr:=by
  rw [RB]
  exact bN h.sr (Uu _ _) fun q hq r hr=>by
   rw [Q8.mp hr]; exact h.ha q hq ia p (QS _) e
 hb:=fun q hq j r hj er=>by
  rw [RB] at hq
  rcases Rg.mp hq with z | z
  ·exact h.hb q z j r hj er
  ·rw [Q8.mp z]; exact hl j r hj er
 ha:=fun q hq j r hj er=>by
  rw [RB] at hq
  rcases Rg.mp hq with z | z
  ·exact h.ha q z j r (by lia) er
  ·rw [Q8.mp z]; exact ua ia j p r (by lia) e er
theorem WL.sN (h:WL rk a b out ia ib) (ua:Up rk a):∀ (k:Nat),ia+k≤a.size→(∀ (i j:Nat) (p q:Keyed),ia≤i→i<ia+k→ib≤j→a[i]?=some p→b[j]?=some q→rk p≤rk q)→WL rk a b (out++a.extract ia (ia+k)) (ia+k) ib
 | 0,_,_=>by
  have:out++a.extract ia (ia+0)=out:=by
   apply TR
   rw [R7,Nat.add_zero,jj,Ru]
  rw [this]; exact h
 | k+1,hk,hl=>by
  have ih:=h.sN ua k (by lia) fun i j p q h1 h2=>hl i j p q h1 (by lia)
  have e:a[ia+k]?=some (a[ia+k]'(by lia)):=Rm _
  have z:=ih.gy ua e fun j q hj eq=>hl _ j _ q (by lia) (by lia) hj e eq
  have:out++a.extract ia (ia+(k+1))=(out++a.extract ia (ia+k)).push (a[ia+k]'(by lia)):=by
   apply TR
   simp only [R7,RB,eB]
   rw [show ia+(k+1)=(ia+k)+1 by lia,cR e,Xo (by simp; lia),Rk]
  rw [this]; exact z
theorem WL.sO (h:WL rk a b out ia ib) (ub:Up rk b):∀ (k:Nat),ib+k≤b.size→(∀ (i j:Nat) (p q:Keyed),ib≤i→i<ib+k→ia≤j→b[i]?=some p→a[j]?=some q→rk p≤rk q)→WL rk a b (out++b.extract ib (ib+k)) ia (ib+k)
 | 0,_,_=>by
  have:out++b.extract ib (ib+0)=out:=by
   apply TR
   rw [R7,Nat.add_zero,jj,Ru]
  rw [this]; exact h
 | k+1,hk,hl=>by
  have ih:=h.sO ub k (by lia) fun i j p q h1 h2=>hl i j p q h1 (by lia)
  have e:b[ib+k]?=some (b[ib+k]'(by lia)):=Rm _
  have z:=ih.gx ub e fun j q hj eq=>hl _ j _ q (by lia) (by lia) hj e eq
  have:out++b.extract ib (ib+(k+1))=(out++b.extract ib (ib+k)).push (b[ib+k]'(by lia)):=by
   apply TR
   simp only [R7,RB,eB]
   rw [show ib+(k+1)=(ib+k)+1 by lia,cR e,Xo (by simp; lia),Rk]
  rw [this]; exact z
end
section
variable {prog:Program} {w:World} {A:Around} {E:Value→Shared→Prop} {s:Shared} {L:List Keyed} {κ:SortKind} {rk:Keyed→Int} {a b:Array Keyed}
theorem mD (f:Nat→Int) (c):∀ n,(∀ i j,i≤j→j<n→f i≤f j)→∃ k,k≤n∧∀ i,i<n→(f i≤c↔i<k)
 | 0,_=>⟨0,QS _,fun i hi=>by lia⟩
 | n+1,hm=>by
  obtain ⟨k,h1,h2⟩:=mD f c n fun i j hij hj=>hm i j hij (by lia)
  by_cases hc:f n≤c
  ·refine ⟨n+1,QS _,fun i hi=>⟨fun _=>hi,fun _=>?_⟩⟩
   exact Ry (hm i n (by lia) (by lia)) hc
  ·refine ⟨k,by lia,fun i hi=>?_⟩
   by_cases hin:i<n
   ·exact h2 i hin
   ·have:i=n:=by lia
    subst this
    exact ⟨fun z=>absurd z hc,fun z=>by lia⟩
theorem mE (f:Nat→Int) (c):∀ n,(∀ i j,i≤j→j<n→f i≤f j)→∃ k,k≤n∧∀ i,i<n→(f i<c↔i<k)
 | 0,_=>⟨0,QS _,fun i hi=>by lia⟩
 | n+1,hm=>by
  obtain ⟨k,h1,h2⟩:=mE f c n fun i j hij hj=>hm i j hij (by lia)
  by_cases hc:f n<c
  ·refine ⟨n+1,QS _,fun i hi=>⟨fun _=>hi,fun _=>?_⟩⟩
   exact VC (hm i n (by lia) (by lia)) hc
  ·refine ⟨k,by lia,fun i hi=>?_⟩
   by_cases hin:i<n
   ·exact h2 i hin
   ·have:i=n:=by lia
    subst this
    exact ⟨fun z=>absurd z hc,fun z=>by lia⟩
theorem M9 (h:Up rk a) (hij:i≤j) (hj:j<a.size):R rk a i≤R rk a j:=by
 have e1:a[i]?=some (a[i]'(by lia)):=Rm _
 have e2:a[j]?=some a[j]:=Rm _
 rw [dX e1,dX e2]
 exact h i j _ _ hij e1 e2
structure cS (st st':SortSt):Prop where
 k:kindOf st'=kindOf st
 a:arrOf st'=arrOf st
 p:pendingOf st'=pendingOf st
 f:failedOf st'=failedOf st
theorem cS.refl (st:SortSt):cS st st:=⟨rfl,rfl,rfl,rfl⟩
theorem cS.min {st st':SortSt} (h:cS st st') (g):cS st (TQ (kindOf st') (arrOf st') (pendingOf st') g (failedOf st')):=⟨h.k,h.a,h.p,h.f⟩
theorem cS.trans (h:cS s1 s2) (g:cS s2 s3):cS s1 s3:=⟨g.k.trans h.k,g.a.trans h.a,g.p.trans h.p,g.f.trans h.f⟩
theorem sP {st:SortSt} (hC:iZ prog w A s κ rk L) (hk:kindOf st=κ) (hkey:key∈L) (mx:∀ (i:Nat) (p:Keyed),xs[i]?=some p→p∈L) (ux:Up rk xs) (n) (hn:base+n≤xs.size) (hh:hint<n)
 (h:∀ k,k≤n→(∀ (i:Nat) (p:Keyed),i<k→xs[base+i]?=some p→rk p≤rk key)→(∀ (i:Nat) (p:Keyed),k≤i→base+i<base+n→xs[base+i]?=some p→rk key<rk p)→Q (some k) st) :
 wpS (model prog w) A E s (cQ false key xs base n hint) Q st:=by
 obtain ⟨k,h1,h2⟩:=mD (fun i=>R rk xs (base+i)) (rk key) n fun i j hij hj=>M9 ux (by lia) (by lia)
 refine fV hC hk hkey (fun i hi=>⟨xs[base+i]'(by lia),Rm _,mx _ _ (Rm _)⟩) (fun i hi=>by simp only [RO,if_false]; exact h2 i hi) h1 hh (h k h1 (fun i p hi e=>?_) fun i p hi hb e=>?_)
 ·have:=(h2 i (by lia)).mpr hi
  rw [dX e] at this; exact this
 ·have:=mt (h2 i (by lia)).mp (by lia)
  rw [dX e] at this; lia
theorem sQ {st:SortSt} (hC:iZ prog w A s κ rk L) (hk:kindOf st=κ) (hkey:key∈L) (mx:∀ (i:Nat) (p:Keyed),xs[i]?=some p→p∈L) (ux:Up rk xs) (n) (hn:base+n≤xs.size) (hh:hint<n)
 (h:∀ k,k≤n→(∀ (i:Nat) (p:Keyed),i<k→xs[base+i]?=some p→rk p<rk key)→(∀ (i:Nat) (p:Keyed),k≤i→base+i<base+n→xs[base+i]?=some p→rk key≤rk p)→Q (some k) st) :
 wpS (model prog w) A E s (cQ true key xs base n hint) Q st:=by
 obtain ⟨k,h1,h2⟩:=mE (fun i=>R rk xs (base+i)) (rk key) n fun i j hij hj=>M9 ux (by lia) (by lia)
 refine fV hC hk hkey (fun i hi=>⟨xs[base+i]'(by lia),Rm _,mx _ _ (Rm _)⟩) (fun i hi=>by simp only [if_true]; exact h2 i hi) h1 hh (h k h1 (fun i p hi e=>?_) fun i p hi hb e=>?_)
 ·have:=(h2 i (by lia)).mpr hi
  rw [dX e] at this; exact this
 ·have:=mt (h2 i (by lia)).mp (by lia)
  rw [dX e] at this; lia
structure n9 (rk:Keyed→Int) (a b out:Array Keyed) (ia ib:Nat):Prop where
 w:WL rk a b out ia ib
 la:ia+1<a.size
 lb:ib<b.size
end
section
local macro_rules | `(tactic| walk_at "dl mergeLo")=>do
 let i:=Uc (TY `PySem.Builtin.List.W1All `PySem.Builtin.mergeLo)
 `(tactic| delta $i)
noncomputable abbrev B4:=Option (Array Keyed)×Array Keyed×Nat×Nat×Nat×Nat×Nat
noncomputable def HP (a b out:Array Keyed) (ia ib:Nat):Array Keyed:=out++a.extract ia a.size++b.extract ib b.size
noncomputable def EH (a b out:Array Keyed) (ia ib:Nat):Array Keyed:=out++b.extract ib b.size++a.extract ia a.size
noncomputable def xB (a b:Array Keyed) (mg ac bc ia ib:Nat) (out:Array Keyed):StateT SortSt Sem (ForInStep B4):=do
 let p ← elem' a ia
 if (ia+1+1 == a.size)=true then pure (.done (some (EH a b (out.push p) (ia+1) ib),out.push p,ia+1,ib,mg,ac,bc))
 else if (decide (ac<7) && decide (bc<7))=true then pure (.done (none,out.push p,ia+1,ib,mg,ac,bc))
 else pure (.yield (none,out.push p,ia+1,ib,mg,ac,bc))
noncomputable def xC (a b:Array Keyed) (mg ac bc ia ib:Nat) (out:Array Keyed):StateT SortSt Sem (ForInStep B4):=do
 let q ← elem' b ib
 if (ib+1 == b.size)=true then pure (.done (some (HP a b (out.push q) ia (ib+1)),out.push q,ia,ib+1,mg,ac,bc))
 else do
  let p ← elem' a ia
  let x ← cQ true p b (ib+1) (b.size - (ib+1)) 0
  match x with
  | some k=>(if k>0 then
   (if (ib+1+k == b.size)=true then pure (.done (some (HP a b (out.push q++b.extract (ib+1) (ib+1+k)) ia (ib+1+k)),out.push q++b.extract (ib+1) (ib+1+k),ia,ib+1+k,mg,ac,k))
    else xB a b mg ac k ia (ib+1+k) (out.push q++b.extract (ib+1) (ib+1+k)))
   else xB a b mg ac k ia (ib+1) (out.push q))
  | _=>pure (.done (some (HP a b (out.push q) ia (ib+1)),out.push q,ia,ib+1,mg,ac,bc))
noncomputable def xD (a b:Array Keyed) (mg ac bc ia ib:Nat) (out:Array Keyed):StateT SortSt Sem (ForInStep B4):=do
 cH mg
 let q ← elem' b ib
 let x ← cQ false q a ia (a.size - ia) 0
 match x with
 | some k=>(if k>0 then
  (if (ia+k+1 == a.size)=true then pure (.done (some (EH a b (out++a.extract ia (ia+k)) (ia+k) ib),out++a.extract ia (ia+k),ia+k,ib,mg,k,bc))
   else if (ia+k == a.size)=true then pure (.done (some (HP a b (out++a.extract ia (ia+k)) (ia+k) ib),out++a.extract ia (ia+k),ia+k,ib,mg,k,bc))
   else xC a b mg k bc (ia+k) ib (out++a.extract ia (ia+k)))
  else xC a b mg k bc ia ib out)
 | _=>pure (.done (some (HP a b out ia ib),out,ia,ib,mg,ac,bc))
noncomputable def B5 (a b:Array Keyed) (c:B4):StateT SortSt Sem (ForInStep B4) :=
 if c.2.2.2.2.1>1 then xD a b (c.2.2.2.2.1 - 1) c.2.2.2.2.2.1 c.2.2.2.2.2.2 c.2.2.1 c.2.2.2.1 c.2.1 else xD a b c.2.2.2.2.1 c.2.2.2.2.2.1 c.2.2.2.2.2.2 c.2.2.1 c.2.2.2.1 c.2.1
noncomputable abbrev Kn:=Option (Array Keyed)×Array Keyed×Nat×Nat×Nat×Nat
noncomputable def B6 (a b:Array Keyed) (mg:Nat) (c:Kn):StateT SortSt Sem (ForInStep Kn):=do
 let q ← elem' b c.2.2.2.1
 let p ← elem' a c.2.2.1
 let x ← lt' q p
 match x with
 | some y=>(if y=true then (do
  let q ← elem' b c.2.2.2.1
  if (c.2.2.2.1+1 == b.size)=true then pure (.done (some (HP a b (c.2.1.push q) c.2.2.1 (c.2.2.2.1+1)),c.2.1.push q,c.2.2.1,c.2.2.2.1+1,0,c.2.2.2.2.2+1))
  else if c.2.2.2.2.2+1≥mg then pure (.done (none,c.2.1.push q,c.2.2.1,c.2.2.2.1+1,0,c.2.2.2.2.2+1))
  else pure (.yield (none,c.2.1.push q,c.2.2.1,c.2.2.2.1+1,0,c.2.2.2.2.2+1)))
  else (do
   let p ← elem' a c.2.2.1
   if (c.2.2.1+1+1 == a.size)=true then pure (.done (some (EH a b (c.2.1.push p) (c.2.2.1+1) c.2.2.2.1),c.2.1.push p,c.2.2.1+1,c.2.2.2.1,c.2.2.2.2.1+1,0))
   else if c.2.2.2.2.1+1≥mg then pure (.done (none,c.2.1.push p,c.2.2.1+1,c.2.2.2.1,c.2.2.2.2.1+1,0))
   else pure (.yield (none,c.2.1.push p,c.2.2.1+1,c.2.2.2.1,c.2.2.2.2.1+1,0))))
 | _=>pure (.done (some (HP a b c.2.1 c.2.2.1 c.2.2.2.1),c.2.1,c.2.2.1,c.2.2.2.1,c.2.2.2.2.1,c.2.2.2.2.2))
noncomputable abbrev FZ:=Option (Array Keyed)×Array Keyed×Nat×Nat×Nat
noncomputable def qF (a b:Array Keyed) (c:FZ):StateT SortSt Sem (ForInStep FZ):=do
 let s ← forIn [:a.size+b.size] ((none,c.2.1,c.2.2.1,c.2.2.2.1,0,0):Kn) fun _ s=>B6 a b c.2.2.2.2 s
 match s.1 with
 | some r=>pure (.done (some r,s.2.1,s.2.2.1,s.2.2.2.1,c.2.2.2.2))
 | none=>do
  liftM (rule "list.sort.gallop")
  let t ← forIn [:a.size+b.size] ((none,s.2.1,s.2.2.1,s.2.2.2.1,c.2.2.2.2+1,s.2.2.2.2.1,s.2.2.2.2.2):B4) fun _ t=>B5 a b t
  match t.1 with
  | some r=>pure (.done (some r,t.2.1,t.2.2.1,t.2.2.2.1,t.2.2.2.2.1))
  | none=>do
   cH (t.2.2.2.2.1+1)
   pure (.yield (none,t.2.1,t.2.2.1,t.2.2.2.1,t.2.2.2.2.1+1))
theorem sR (a b):mC a b=(do
 liftM (rule "list.sort.merge-lo")
 let p ← elem' b 0
 if (1 == b.size)=true then pure (HP a b #[p] 0 1)
 else if (0+1 == a.size)=true then pure (EH a b #[p] 0 1)
 else do
  let st ← get
  let s ← forIn [:a.size+b.size] ((none,#[p],0,1,gallopOf st):FZ) fun _ c=>qF a b c
  match s.1 with
  | some r=>pure r
  | none=>liftM (unsupported (α:=Array Keyed) "internal:list.sort.merge-bound")):=by
 unfold mC
 walk_at "dl mergeLo"
 dsimp only
 refine congrArg _ (funext fun _=>?_)
 refine congrArg _ (funext fun p=>?_)
 refine congrArg _ (congrArg _ ?_)
 refine congrArg _ (funext fun st=>?_)
 have e:∀ (f g:Nat→FZ→StateT SortSt Sem (ForInStep FZ)) (c:FZ) (k:FZ→StateT SortSt Sem (Array Keyed)),f=g→(forIn [:a.size+b.size] c f >>= k)=(forIn [:a.size+b.size] c g >>= k):=fun _ _ _ _ h=>by rw [h]
 refine (e _ _ _ _ (funext fun _=>funext fun c=>?_)).trans (congrArg _ (funext fun s=>?_))
 ·obtain ⟨o,out,ia,ib,mg⟩:=c
  unfold qF
  dsimp only
  have e2:∀ (f g:Nat→Kn→StateT SortSt Sem (ForInStep Kn)) (c:Kn) (k l:Kn→StateT SortSt Sem (ForInStep FZ)),f=g→k=l→(forIn [:a.size+b.size] c f >>= k)=(forIn [:a.size+b.size] c g >>= l):=fun _ _ _ _ _ h h2=>by rw [h,h2]
  refine e2 _ _ _ _ _ (funext fun _=>funext fun c=>?_) (funext fun s=>?_)
  ·rfl
  ·obtain ⟨o,out,ia,ib,ac,bc⟩:=s
   cases o with
   | some r=>rfl
   | none =>
    dsimp only
    refine congrArg _ (funext fun _=>?_)
    have e3:∀ (f g:Nat→B4→StateT SortSt Sem (ForInStep B4)) (c:B4) (k l:B4→StateT SortSt Sem (ForInStep FZ)),f=g→k=l→(forIn [:a.size+b.size] c f >>= k)=(forIn [:a.size+b.size] c g >>= l):=fun _ _ _ _ _ h h2=>by rw [h,h2]
    refine e3 _ _ _ _ _ (funext fun _=>funext fun c=>?_) (funext fun s=>?_)
    ·rfl
    ·obtain ⟨o,s⟩:=s
     cases o <;> rfl
 ·obtain ⟨o,s⟩:=s
  cases o <;> rfl
end
theorem some_at {xs:Array Keyed} (h:i<xs.size):∃ p,xs[i]?=some p:=⟨xs[i],Rm h⟩
section
noncomputable def F0 (rk:Keyed→Int) (a b:Array Keyed) (n:Nat) (o:Option (Array Keyed)) (ia ib:Nat) (out:Array Keyed):Prop:=(∃ r,o=some r∧Res rk a b r)∨(o=none∧n9 rk a b out ia ib∧n≤ia+ib)
noncomputable def F1 (rk:Keyed→Int) (a b:Array Keyed) (n:Nat):ForInStep B4→Prop
 | .done c=>F0 rk a b n c.1 c.2.2.1 c.2.2.2.1 c.2.1
 | .yield c=>c.1=none∧n9 rk a b c.2.1 c.2.2.1 c.2.2.2.1∧n≤c.2.2.1+c.2.2.2.1
theorem pH {st:SortSt} (lA:∀ {out:Array Keyed} {ia ib:Nat},WL rk a b out ia ib→ia+1=a.size→Res rk a b (EH a b out ia ib)) (W:WL rk a b out ia ib) (ua:Up rk a) (la:ia+1<a.size) (lb:ib<b.size) (ep:a[ia]?=some p)
 (hl:∀ (j:Nat) (r:Keyed),ib≤j→b[j]?=some r→rk p≤rk r) (hn:n≤ia+1+ib) (hQ:∀ x,F1 rk a b n x→Q x st):wpS (model prog w) A E s (xB a b mg ac bc ia ib out) Q st:=by
 unfold xB
 have W4:=W.gy ua ep hl
 refine QO (aU ep ?_)
 by_cases e9:ia+1+1=a.size
 ·rw [if_pos (by simpa using e9)]
  exact QT (hQ _ (.inl ⟨_,rfl,lA W4 e9⟩))
 rw [if_neg (by simpa using e9)]
 have hL:n9 rk a b (out.push p) (ia+1) ib:=⟨W4,Nat.lt_of_le_of_ne la e9,lb⟩
 split
 ·exact QT (hQ _ (.inr ⟨rfl,hL,hn⟩))
 ·exact QT (hQ _ ⟨rfl,hL,hn⟩)
theorem qG {xs:Array Keyed} {i j:Nat} (h:i≤j) (e:xs[j]?=some p):xs[i+(j - i)]?=some p:=by rw [WC h]; exact e
theorem pI {st:SortSt} (hC:iZ prog w A s κ rk L) (hk:kindOf st=κ) (ma:∀ (i:Nat) (p:Keyed),a[i]?=some p→p∈L) (mb:∀ (i:Nat) (p:Keyed),b[i]?=some p→p∈L)
 (lA:∀ {out:Array Keyed} {ia ib:Nat},WL rk a b out ia ib→ia+1=a.size→Res rk a b (EH a b out ia ib)) (W:WL rk a b out ia ib) (ua:Up rk a) (ub:Up rk b) (la:ia+1<a.size) (lb:ib<b.size) (eq:b[ib]?=some q)
 (hl:∀ (j:Nat) (r:Keyed),ia≤j→a[j]?=some r→rk q≤rk r) (hn:n≤ia+ib+2) (hQ:∀ x,F1 rk a b n x→Q x st):wpS (model prog w) A E s (xC a b mg ac bc ia ib out) Q st:=by
 unfold xC
 have W2:=W.gx ub eq hl
 refine QO (aU eq ?_)
 by_cases e5:ib+1=b.size
 ·rw [if_pos (by simpa using e5)]
  exact QT (hQ _ (.inl ⟨_,rfl,W2.jR ua e5⟩))
 rw [if_neg (by simpa using e5)]
 obtain ⟨p,ep⟩:=some_at (xs:=a) (i:=ia) (by lia)
 refine QO (aU ep ?_)
 refine QO (sQ hC hk (ma _ _ ep) mb ub _ (by lia) (by lia) fun k hj1 hj2 hj3=>?_)
 dsimp only
 have W3:=W2.sO ub k (by lia) fun i j r p' z1 z2 z3 e6 e7=>Ry (Tf (hj2 (i - (ib+1)) r (by lia) (qG z1 e6))) (ua ia j p p' z3 ep e7)
 have bwd:∀ (j:Nat) (r:Keyed),ib+1+k≤j→b[j]?=some r→rk p≤rk r:=fun j r hj e6=>hj3 (j - (ib+1)) r (by lia) (by have:=(Ut.mp e6).1; lia) (qG (Q4 (Tp _ _) hj) e6)
 by_cases hj0:k>0
 ·rw [if_pos hj0]
  by_cases e8:ib+1+k=b.size
  ·rw [if_pos (by simpa using e8)]
   exact QT (hQ _ (.inl ⟨_,rfl,W3.jR ua e8⟩))
  rw [if_neg (by simpa using e8)]
  exact pH lA W3 ua la (by lia) ep bwd (by lia) hQ
 ·rw [if_neg hj0]
  exact pH lA W2 ua la (by lia) ep (fun j r hj e6=>bwd j r (by lia) e6) (by lia) hQ
theorem pJ {st:SortSt} (hC:iZ prog w A s κ rk L) (hk:kindOf st=κ) (ma:∀ (i:Nat) (p:Keyed),a[i]?=some p→p∈L) (mb:∀ (i:Nat) (p:Keyed),b[i]?=some p→p∈L)
 (lA:∀ {out:Array Keyed} {ia ib:Nat},WL rk a b out ia ib→ia+1=a.size→Res rk a b (EH a b out ia ib)) (ua:Up rk a) (ub:Up rk b) (hL:n9 rk a b out ia ib) (hn:n≤ia+ib) (hQ:∀ x st',cS st st'→F1 rk a b n x→Q x st') :
 wpS (model prog w) A E s (xD a b mg ac bc ia ib out) Q st:=by
 unfold xD
 have W:=hL.w
 have la:=hL.la
 have lb:=hL.lb
 obtain ⟨q,eq⟩:=some_at (xs:=b) lb
 refine QO (fW ?_)
 have EC:=fun x=>hQ x _ ((cS.refl st).min mg)
 refine QO (aU eq ?_)
 refine QO (sP hC (by exact hk) (mb _ _ eq) ma ua _ (by lia) (by lia) fun k hk1 hk2 hk3=>?_)
 dsimp only
 have Wk:=W.sN ua k (by lia) fun i j p r z1 z2 z3 e3 e4=>Ry (hk2 (i - ia) p (by lia) (qG z1 e3)) (ub ib j q r z3 eq e4)
 have fwd:∀ (j:Nat) (r:Keyed),ia+k≤j→a[j]?=some r→rk q≤rk r:=fun j r hj e3=>Tf (hk3 (j - ia) r (by lia) (by have:=(Ut.mp e3).1; lia) (qG (Q4 (Tp _ _) hj) e3))
 by_cases hk0:k>0
 ·rw [if_pos hk0]
  by_cases e3:ia+k+1=a.size
  ·rw [if_pos (by simpa using e3)]
   exact QT (EC _ (.inl ⟨_,rfl,lA Wk e3⟩))
  rw [if_neg (by simpa using e3)]
  by_cases e4:ia+k=a.size
  ·rw [if_pos (by simpa using e4)]
   exact QT (EC _ (.inl ⟨_,rfl,Wk.jS ub e4⟩))
  rw [if_neg (by simpa using e4)]
  exact pI hC (by exact hk) ma mb lA Wk ua ub (by lia) lb eq fwd (by lia) EC
 ·rw [if_neg hk0]
  exact pI hC (by exact hk) ma mb lA W ua ub la lb eq (fun j r hj e3=>fwd j r (by lia) e3) (by lia) EC
theorem yZ {st:SortSt} (hC:iZ prog w A s κ rk L) (hk:kindOf st=κ) (ma:∀ (i:Nat) (p:Keyed),a[i]?=some p→p∈L) (mb:∀ (i:Nat) (p:Keyed),b[i]?=some p→p∈L)
 (lA:∀ {out:Array Keyed} {ia ib:Nat},WL rk a b out ia ib→ia+1=a.size→Res rk a b (EH a b out ia ib)) (ua:Up rk a) (ub:Up rk b) (hL:n9 rk a b c.2.1 c.2.2.1 c.2.2.2.1) (hn:n≤c.2.2.1+c.2.2.2.1+1)
 (hQ:∀ o ia ib out z y,F0 rk a b n o ia ib out→Q (.done (o,out,ia,ib,z)) st∧(o=none→Q (.yield (none,out,ia,ib,y)) st)):wpS (model prog w) A E s (B6 a b mg c) Q st:=by
 obtain ⟨_,out,ia,ib,ac,bc⟩:=c
 unfold B6
 dsimp only at hL hn ⊢
 have W:=hL.w
 have la:=hL.la
 have lb:=hL.lb
 obtain ⟨q,eq⟩:=some_at (xs:=b) lb
 obtain ⟨p,ep⟩:=some_at (xs:=a) (Nat.lt_of_succ_lt la)
 refine QO (aU eq (QO (aU ep (QO (mw hC hk (mb _ _ eq) (ma _ _ ep) ?_)))))
 dsimp only
 by_cases hw:rk q<rk p
 ·rw [decide_eq_true hw,if_pos rfl]
  have W1:=W.gx ub eq fun j r hj e=>Ry (Tf hw) (ua ia j p r hj ep e)
  refine QO (aU eq ?_)
  by_cases e3:ib+1=b.size
  ·rw [if_pos (by simpa using e3)]
   exact QT (hQ _ _ _ _ _ (0,0) (.inl ⟨_,rfl,W1.jR ua e3⟩)).1
  rw [if_neg (by simpa using e3)]
  have z:=hQ none ia (ib+1) (out.push q) (0,bc+1) (0,bc+1) (.inr ⟨rfl,⟨W1,la,by lia⟩,by lia⟩)
  split
  ·exact QT z.1
  ·exact QT (z.2 rfl)
 ·rw [decide_eq_false hw,if_neg QZ]
  have W1:=W.gy ua ep fun j r hj e=>Ry (Int.not_lt.mp hw) (ub ib j q r hj eq e)
  refine QO (aU ep ?_)
  by_cases e3:ia+1+1=a.size
  ·rw [if_pos (by simpa using e3)]
   exact QT (hQ _ _ _ _ _ (0,0) (.inl ⟨_,rfl,lA W1 e3⟩)).1
  rw [if_neg (by simpa using e3)]
  have z:=hQ none (ia+1) ib (out.push p) (ac+1,0) (ac+1,0) (.inr ⟨rfl,⟨W1,by lia,lb⟩,by lia⟩)
  split
  ·exact QT z.1
  ·exact QT (z.2 rfl)
theorem vg {st:SortSt} (hC:iZ prog w A s κ rk L) (hk:kindOf st=κ) (ma:∀ (i:Nat) (p:Keyed),a[i]?=some p→p∈L) (mb:∀ (i:Nat) (p:Keyed),b[i]?=some p→p∈L)
 (lA:∀ {out:Array Keyed} {ia ib:Nat},WL rk a b out ia ib→ia+1=a.size→Res rk a b (EH a b out ia ib)) (ua:Up rk a) (ub:Up rk b) (hL:n9 rk a b c.2.1 c.2.2.1 c.2.2.2.1) (hn:n≤c.2.2.1+c.2.2.2.1+1)
 (h1:∀ r z st',cS st st'→Res rk a b r→Q (.done (some r,z)) st') (h2:∀ ia ib out g st',cS st st'→n9 rk a b out ia ib→n≤ia+ib→Q (.yield (none,out,ia,ib,g)) st'):wpS (model prog w) A E s (qF a b c) Q st:=by
 unfold qF
 refine QO (RA (R1 (I:=fun y c st'=>st'=st∧c.1=none∧n9 rk a b c.2.1 c.2.2.1 c.2.2.2.1∧n+y≤c.2.2.1+c.2.2.2.1+1) (Q:=fun c st'=>st'=st∧F0 rk a b n c.1 c.2.2.1 c.2.2.2.1 c.2.1) ?step ?fin ⟨rfl,rfl,hL,hn⟩) ?post)
 case fin =>
  rintro c st' ⟨rfl,hc,hL',hx⟩
  exact ⟨rfl,.inr ⟨hc,hL',by have:=hL'.la; have:=hL'.lb; lia⟩⟩
 case step =>
  rintro y c st' _ hy ⟨rfl,_,hL',hx⟩
  refine yZ (n:=n+y) hC hk ma mb lA ua ub hL' hx fun o ia ib out z y hR=>⟨?_,?_⟩
  ·refine ⟨rfl,?_⟩
   rcases hR with hR | ⟨q1,q2,q3⟩
   ·exact .inl hR
   ·exact .inr ⟨q1,q2,Q4 (Tp _ _) q3⟩
  ·rintro rfl
   rcases hR with ⟨_,q,_⟩ | ⟨q1,q2,q3⟩
   ·cases q
   ·exact ⟨rfl,rfl,q2,VL q3⟩
 case post =>
  rintro ⟨o,out,ia,ib,ac,bc⟩ st' ⟨rfl,hR⟩
  dsimp only at hR ⊢
  rcases hR with ⟨r,rfl,hr⟩ | ⟨rfl,hL2,hn2⟩
  ·exact QT (h1 r _ _ (.refl _) hr)
  refine QO (TV (RV ⟨rfl,?_⟩))
  refine QO (RA (R1 (I:=fun y c st''=>cS st' st''∧c.1=none∧n9 rk a b c.2.1 c.2.2.1 c.2.2.2.1∧n≤c.2.2.1+c.2.2.2.1) (Q:=fun c st''=>cS st' st''∧F0 rk a b n c.1 c.2.2.1 c.2.2.2.1 c.2.1) ?gstep ?gfin ⟨.refl _,rfl,hL2,hn2⟩) ?gpost)
  case gfin=>exact fun c st'' ⟨q1,q2,q3,q4⟩=>⟨q1,.inr ⟨q2,q3,q4⟩⟩
  case gstep =>
   rintro y c st'' _ _ ⟨q1,q2,q3,q4⟩
   have key:wpS (model prog w) A E s (B5 a b c) (fun x st3=>cS st'' st3∧F1 rk a b n x) st'':=by
    unfold B5
    split
    ·exact pJ hC (q1.k.trans hk) ma mb lA ua ub q3 q4 fun x st3 k h=>⟨k,h⟩
    ·exact pJ hC (q1.k.trans hk) ma mb lA ua ub q3 q4 fun x st3 k h=>⟨k,h⟩
   refine RA key fun x st3 ⟨k,h⟩=>?_
   cases x with
   | done c=>exact ⟨q1.trans k,h⟩
   | yield c=>exact ⟨q1.trans k,h⟩
  case gpost =>
   rintro ⟨o,out,ia,ib,g,ac,bc⟩ st'' ⟨q1,hR⟩
   dsimp only at hR ⊢
   rcases hR with ⟨r,rfl,hr⟩ | ⟨rfl,hL3,hn3⟩
   ·exact QT (h1 r _ _ q1 hr)
   ·exact QO (fW (QT (h2 _ _ _ _ _ (q1.min _) hL3 hn3)))
theorem sS {st:SortSt} (hC:iZ prog w A s κ rk L) (hk:kindOf st=κ) (ma:∀ (i:Nat) (p:Keyed),a[i]?=some p→p∈L) (mb:∀ (i:Nat) (p:Keyed),b[i]?=some p→p∈L) (ua:Up rk a) (ub:Up rk b) (na:1≤a.size) (nb:1≤b.size)
 (h0:∀ p q,a[0]?=some p→b[0]?=some q→rk q≤rk p) (hl:∀ (j:Nat) (p q:Keyed),a[a.size - 1]?=some p→b[j]?=some q→rk q≤rk p) (h:∀ r st',Res rk a b r→cS st st'→Q r st'):wpS (model prog w) A E s (mC a b) Q st:=by
 have lastA:∀ {out:Array Keyed} {ia ib:Nat},WL rk a b out ia ib→ia+1=a.size→Res rk a b (EH a b out ia ib):=fun hw e=>hw.last ub e fun j p q e1 e2=>hl j p q (by rw [← e]; exact e1) e2
 obtain ⟨q0,eq0⟩:=some_at (xs:=b) (i:=0) nb
 obtain ⟨p0,ep0⟩:=some_at (xs:=a) (i:=0) na
 have W0:WL rk a b #[q0] 0 1:=by
  have z:WL rk a b #[] 0 0:=⟨Rq _,Rq _,by simp,UX,by simp,by simp⟩
  exact z.gx ub eq0 fun j q _ e=>Ry (h0 p0 q0 ep0 eq0) (ua 0 j p0 q (Rq _) ep0 e)
 rw [sR]
 refine QO (TV (RV ⟨rfl,?_⟩))
 refine QO (aU eq0 ?_)
 by_cases e1:1=b.size
 ·rw [if_pos (by simpa using e1)]
  exact QT (h _ _ (W0.jR ua e1) (.refl _))
 rw [if_neg (by simpa using e1)]
 by_cases e2:0+1=a.size
 ·rw [if_pos (by simpa using e2)]
  exact QT (h _ _ (lastA W0 e2) (.refl _))
 rw [if_neg (by simpa using e2)]
 refine QO (Sw ?_)
 refine QO (RA (R1 (I:=fun x c st'=>cS st st'∧c.1=none∧n9 rk a b c.2.1 c.2.2.1 c.2.2.2.1∧x+1≤c.2.2.1+c.2.2.2.1) (Q:=fun c st'=>cS st st'∧∃ r,c.1=some r∧Res rk a b r) ?step ?fin ⟨.refl _,rfl,⟨W0,by dsimp only; lia,by dsimp only; lia⟩,by dsimp only; lia⟩) ?post)
 case fin =>
  rintro c st' ⟨hK,hc,hL,hx⟩
  have h1:=hL.la
  have h2:=hL.lb
  lia
 case post =>
  rintro c st' ⟨hK,r,hc,hr⟩
  rw [hc]
  exact QT (h r st' hr hK)
 case step =>
  rintro x c st1 _ hx ⟨hK,_,hL,hn⟩
  exact vg (n:=x+2) hC (hK.k.trans hk) ma mb lastA ua ub hL (VL hn) (fun r z st' k hr=>⟨hK.trans k,r,rfl,hr⟩) fun ia ib out g st' k q1 q2=>⟨hK.trans k,rfl,q1,q2⟩
end
noncomputable def mF:Array Keyed→Array Keyed→StateT SortSt Sem (Array Keyed):=sortPriv% PySem.Builtin.mergeHi
local macro_rules | `(tactic| walk_at "dl mergeHi")=>do
 let i:=Uc (TY `PySem.Builtin.List.W1All `PySem.Builtin.mergeHi)
 `(tactic| delta $i)
section
variable {rk:Keyed→Int} {a b:Array Keyed}
structure WH (rk:Keyed→Int) (a b:Array Keyed) (out:Array Keyed) (na nb:Nat):Prop where
 pa:na≤a.size
 pb:nb≤b.size
 pm:out.toList.Perm (a.toList.drop na++b.toList.drop nb)
 sr:B3 rk out.toList.reverse
 ha:∀ p∈out.toList,∀ (j:Nat) (q:Keyed),j<na→a[j]?=some q→rk q≤rk p
 hb:∀ p∈out.toList,∀ (j:Nat) (q:Keyed),j<nb→b[j]?=some q→rk q≤rk p
theorem dF (xs:Array Keyed) (i):(xs.extract 0 i).toList=xs.toList.take i:=by rw [eB,List.drop_zero]
theorem jk {xs:Array Keyed} (h:q∈xs.toList.take i):∃ j,j<i∧xs[j]?=some q:=by
 obtain ⟨n,hn⟩:=Ux h
 have hl:=(Q2.mp hn).1
 rw [Rx] at hl
 rw [Vo (by lia)] at hn
 exact ⟨n,by lia,by rw [← RN]; exact hn⟩
theorem WH.res (h:WH rk a b out na nb) (x) (hx:x.toList.Perm (a.toList.take na++b.toList.take nb)) (hs:B3 rk x.toList):Res rk a b (x++out.reverse):=by
 have e0:(x++out.reverse).toList=x.toList++out.toList.reverse:=by simp
 refine ⟨?_,?_⟩
 ·rw [e0]
  refine (hx.append ((WW _).trans h.pm)).trans ?_
  have:(a.toList.take na++b.toList.take nb++(a.toList.drop na++b.toList.drop nb)).Perm (a.toList.take na++a.toList.drop na++(b.toList.take nb++b.toList.drop nb)):=by
   rw [Rk,Rk]
   refine Uw _ ?_
   rw [← Rk,← Rk]
   exact List.Perm.append_right _ T3
  rw [S0,S0] at this
  exact this
 ·rw [e0]
  refine bN hs h.sr fun p hp q hq=>?_
  have hq':q∈out.toList:=by simpa using hq
  rcases Rg.mp (hx.mem_iff.mp hp) with z | z
  ·obtain ⟨j,h1,e⟩:=jk z
   exact h.ha q hq' j p h1 e
  ·obtain ⟨j,h1,e⟩:=jk z
   exact h.hb q hq' j p h1 e
theorem WH.jS (h:WH rk a b out na nb) (ub:Up rk b) (e:na=0):Res rk a b (a.extract 0 na++b.extract 0 nb++out.reverse):=by
 subst e
 refine h.res _ ?_ ?_
 ·simp [dF]
 ·have:(a.extract 0 0++b.extract 0 nb).toList=b.toList.take nb:=by rw [R7,dF,dF]; simp
  rw [this]; exact (jQ ub).sublist (VE _ _)
theorem WH.jR (h:WH rk a b out na nb) (ua:Up rk a) (e:nb=0):Res rk a b (a.extract 0 na++b.extract 0 nb++out.reverse):=by
 subst e
 refine h.res _ ?_ ?_
 ·simp [dF]
 ·have:(a.extract 0 na++b.extract 0 0).toList=a.toList.take na:=by rw [R7,dF,dF]; simp
  rw [this]; exact (jQ ua).sublist (VE _ _)
theorem WH.first (h:WH rk a b out na nb) (ua:Up rk a) (e:nb=1) (hf:∀ (j:Nat) (p q:Keyed),a[j]?=some p→b[0]?=some q→rk q≤rk p) :
 Res rk a b (b.extract 0 nb++a.extract 0 na++out.reverse):=by
 subst e
 have e1:(b.extract 0 1++a.extract 0 na).toList=b.toList.take 1++a.toList.take na:=by rw [R7,dF,dF]
 refine h.res _ ?_ ?_
 ·rw [e1]; exact T3
 ·rw [e1]
  refine bN ?_ ((jQ ua).sublist (VE _ _)) fun p hp q hq=>?_
  ·exact xy (by simp; lia)
  ·obtain ⟨j,h1,e2⟩:=jk hp
   obtain ⟨j2,h2,e3⟩:=jk hq
   have:j=0:=by lia
   subst this
   exact hf j2 q p e3 e2
theorem pK {xs:Array Keyed} (hi:1≤i) (h:xs[i - 1]?=some p):xs.toList.drop (i - 1)=p::xs.toList.drop i:=by
 rw [← RN] at h
 obtain ⟨h1,h2⟩:=Q2.mp h
 rw [Wg h1,h2,show i - 1+1=i by lia]
theorem WH.gy {out:Array Keyed} {na nb:Nat} {p:Keyed} (h:WH rk a b out na nb) (ua:Up rk a) (hn:1≤na) (e:a[na - 1]?=some p) (hl:∀ (j:Nat) (q:Keyed),j<nb→b[j]?=some q→rk q≤rk p):WH rk a b (out.push p) (na - 1) nb where
 pa:=by have:=h.pa; lia
 pb:=h.pb
 pm:=by
  rw [RB,pK hn e]
  refine (h.pm.append_right _).trans ?_
  rw [SJ]
  exact T3
 sr:=by
  rw [RB,WD]
  exact bN (Uu _ _) h.sr fun r hr q hq=>by
   have hr':r=p:=by simpa using hr
   rw [hr']
   exact h.ha q (by simpa using hq) (na - 1) p (by lia) e
 ha:=fun q hq j r hj er=>by
  rw [RB] at hq
  rcases Rg.mp hq with z | z
  ·exact h.ha q z j r (by lia) er
  ·rw [Q8.mp z]; exact ua j (na - 1) r p (by lia) er e
 hb:=fun q hq j r hj er=>by
  rw [RB] at hq
  rcases Rg.mp hq with z | z
  ·exact h.hb q z j r hj er
  ·rw [Q8.mp z]; exact hl j r hj er
theorem WH.gx {out:Array Keyed} {na nb:Nat} {p:Keyed} (h:WH rk a b out na nb) (ub:Up rk b) (hn:1≤nb) (e:b[nb - 1]?=some p) (hl:∀ (j:Nat) (q:Keyed),j<na→a[j]?=some q→rk q≤rk p):WH rk a b (out.push p) na (nb - 1) where
 pa:=h.pa
 pb:=by have:=h.pb; lia
 pm:=by
  rw [RB,pK hn e]
  refine (h.pm.append_right _).trans ?_
  rw [Rk]
  exact Uw _ T3
 sr:=by
  rw [RB,WD]
  exact bN (Uu _ _) h.sr fun r hr q hq=>by
   have hr':r=p:=by simpa using hr
   rw [hr']
   exact h.hb q (by simpa using hq) (nb - 1) p (by lia) e
 hb:=fun q hq j r hj er=>by
  rw [RB] at hq
  rcases Rg.mp hq with z | z
  ·exact h.hb q z j r (by lia) er
  ·rw [Q8.mp z]; exact ub j (nb - 1) r p (by lia) er e
 ha:=fun q hq j r hj er=>by
  rw [RB] at hq
  rcases Rg.mp hq with z | z
  ·exact h.ha q z j r hj er
  ·rw [Q8.mp z]; exact hl j r hj er
theorem xE {xs:Array Keyed} (h:m<n) (e:xs[m]?=some p):(xs.extract m n).reverse=(xs.extract (m+1) n).reverse.push p:=by
 apply TR
 rw [RB,Uy,Uy,eB,eB]
 rw [← RN] at e
 obtain ⟨h1,h2⟩:=Q2.mp e
 have h3:m<(xs.toList.take n).length:=by rw [Rx]; lia
 rw [Wg h3,List.reverse_cons,List.getElem_take,h2]
theorem sU (xs ys:Array Keyed) (p):xs++ys.push p=(xs++ys).push p:=by
 apply TR; simp
theorem WH.sN (h:WH rk a b out na nb) (ua:Up rk a):∀ (k m:Nat),m+k=na→(∀ (i j:Nat) (p q:Keyed),m≤i→i<na→j<nb→a[i]?=some p→b[j]?=some q→rk q≤rk p)→WH rk a b (out++(a.extract m na).reverse) m nb
 | 0,m,hm,_=>by
  have e:m=na:=by lia
  subst e
  have:out++(a.extract m m).reverse=out:=by
   apply TR
   rw [R7,Uy,jj,List.reverse_nil,Ru]
  rw [this]; exact h
 | k+1,m,hm,hl=>by
  have hp:=h.pa
  have ih:=h.sN ua k (m+1) (by lia) fun i j p q h1 h2=>hl i j p q (by lia) h2
  have e:a[m+1 - 1]?=some (a[m]'(by lia)):=Rm (show m<a.size by lia)
  have z:=ih.gy ua (by lia) e fun j q hj eq=>hl m j _ q (QS _) (by lia) hj (Rm (show m<a.size by lia)) eq
  rw [xE (show m<na by lia) (Rm (show m<a.size by lia)),sU]
  exact z
theorem WH.sO (h:WH rk a b out na nb) (ub:Up rk b):∀ (k m:Nat),m+k=nb→(∀ (i j:Nat) (p q:Keyed),m≤i→i<nb→j<na→b[i]?=some p→a[j]?=some q→rk q≤rk p)→WH rk a b (out++(b.extract m nb).reverse) na m
 | 0,m,hm,_=>by
  have e:m=nb:=by lia
  subst e
  have:out++(b.extract m m).reverse=out:=by
   apply TR
   rw [R7,Uy,jj,List.reverse_nil,Ru]
  rw [this]; exact h
 | k+1,m,hm,hl=>by
  have hp:=h.pb
  have ih:=h.sO ub k (m+1) (by lia) fun i j p q h1 h2=>hl i j p q (by lia) h2
  have e:b[m+1 - 1]?=some (b[m]'(by lia)):=Rm (show m<b.size by lia)
  have z:=ih.gx ub (by lia) e fun j q hj eq=>hl m j _ q (QS _) (by lia) hj (Rm (show m<b.size by lia)) eq
  rw [xE (show m<nb by lia) (Rm (show m<b.size by lia)),sU]
  exact z
structure iB (rk:Keyed→Int) (a b out:Array Keyed) (na nb:Nat):Prop where
 w:WH rk a b out na nb
 la:1≤na
 lb:2≤nb
end
noncomputable abbrev B7:=Option (Array Keyed)×Nat×Nat×Array Keyed×Nat×Nat×Nat
noncomputable def HQ (a b out:Array Keyed) (na nb:Nat):Array Keyed:=a.extract 0 na++b.extract 0 nb++out.reverse
noncomputable def F2 (a b out:Array Keyed) (na nb:Nat):Array Keyed:=b.extract 0 nb++a.extract 0 na++out.reverse
noncomputable def xF (a b:Array Keyed) (mg ac bc na nb:Nat) (out:Array Keyed):StateT SortSt Sem (ForInStep B7):=do
 let p ← elem' a (na - 1)
 if (na - 1 == 0)=true then pure (.done (some (HQ a b (out.push p) (na - 1) nb),na - 1,nb,out.push p,mg,ac,bc))
 else if (decide (ac<7) && decide (bc<7))=true then pure (.done (none,na - 1,nb,out.push p,mg,ac,bc))
 else pure (.yield (none,na - 1,nb,out.push p,mg,ac,bc))
noncomputable def xG (a b:Array Keyed) (mg ac bc na nb:Nat) (out:Array Keyed):StateT SortSt Sem (ForInStep B7):=do
 let q ← elem' b (nb - 1)
 if (nb - 1 == 1)=true then pure (.done (some (F2 a b (out.push q) na (nb - 1)),na,nb - 1,out.push q,mg,ac,bc))
 else do
  let p ← elem' a (na - 1)
  let x ← cQ true p b 0 (nb - 1) (nb - 1 - 1)
  match x with
  | some k=>(if nb - 1 - k>0 then
   (if (k == 1)=true then pure (.done (some (F2 a b (out.push q++(b.extract k (nb - 1)).reverse) na k),na,k,out.push q++(b.extract k (nb - 1)).reverse,mg,ac,nb - 1 - k))
    else if (k == 0)=true then pure (.done (some (HQ a b (out.push q++(b.extract k (nb - 1)).reverse) na k),na,k,out.push q++(b.extract k (nb - 1)).reverse,mg,ac,nb - 1 - k))
    else xF a b mg ac (nb - 1 - k) na k (out.push q++(b.extract k (nb - 1)).reverse))
   else xF a b mg ac (nb - 1 - k) na (nb - 1) (out.push q))
  | _=>pure (.done (some (HQ a b (out.push q) na (nb - 1)),na,nb - 1,out.push q,mg,ac,bc))
noncomputable def xH (a b:Array Keyed) (mg ac bc na nb:Nat) (out:Array Keyed):StateT SortSt Sem (ForInStep B7):=do
 cH mg
 let q ← elem' b (nb - 1)
 let x ← cQ false q a 0 na (na - 1)
 match x with
 | some k=>(if na - k>0 then
  (if (k == 0)=true then pure (.done (some (HQ a b (out++(a.extract k na).reverse) k nb),k,nb,out++(a.extract k na).reverse,mg,na - k,bc))
   else xG a b mg (na - k) bc k nb (out++(a.extract k na).reverse))
  else xG a b mg (na - k) bc na nb out)
 | _=>pure (.done (some (HQ a b out na nb),na,nb,out,mg,ac,bc))
noncomputable def B8 (a b:Array Keyed) (c:B7):StateT SortSt Sem (ForInStep B7) :=
 if c.2.2.2.2.1>1 then xH a b (c.2.2.2.2.1 - 1) c.2.2.2.2.2.1 c.2.2.2.2.2.2 c.2.1 c.2.2.1 c.2.2.2.1 else xH a b c.2.2.2.2.1 c.2.2.2.2.2.1 c.2.2.2.2.2.2 c.2.1 c.2.2.1 c.2.2.2.1
noncomputable abbrev Ko:=Option (Array Keyed)×Nat×Nat×Array Keyed×Nat×Nat
noncomputable def B9 (a b:Array Keyed) (mg:Nat) (c:Ko):StateT SortSt Sem (ForInStep Ko):=do
 let q ← elem' b (c.2.2.1 - 1)
 let p ← elem' a (c.2.1 - 1)
 let x ← lt' q p
 match x with
 | some y=>(if y=true then (do
  let p ← elem' a (c.2.1 - 1)
  if (c.2.1 - 1 == 0)=true then pure (.done (some (HQ a b (c.2.2.2.1.push p) (c.2.1 - 1) c.2.2.1),c.2.1 - 1,c.2.2.1,c.2.2.2.1.push p,c.2.2.2.2.1+1,0))
  else if c.2.2.2.2.1+1≥mg then pure (.done (none,c.2.1 - 1,c.2.2.1,c.2.2.2.1.push p,c.2.2.2.2.1+1,0))
  else pure (.yield (none,c.2.1 - 1,c.2.2.1,c.2.2.2.1.push p,c.2.2.2.2.1+1,0)))
  else (do
   let q ← elem' b (c.2.2.1 - 1)
   if (c.2.2.1 - 1 == 1)=true then pure (.done (some (F2 a b (c.2.2.2.1.push q) c.2.1 (c.2.2.1 - 1)),c.2.1,c.2.2.1 - 1,c.2.2.2.1.push q,0,c.2.2.2.2.2+1))
   else if c.2.2.2.2.2+1≥mg then pure (.done (none,c.2.1,c.2.2.1 - 1,c.2.2.2.1.push q,0,c.2.2.2.2.2+1))
   else pure (.yield (none,c.2.1,c.2.2.1 - 1,c.2.2.2.1.push q,0,c.2.2.2.2.2+1))))
 | _=>pure (.done (some (HQ a b c.2.2.2.1 c.2.1 c.2.2.1),c.2.1,c.2.2.1,c.2.2.2.1,c.2.2.2.2.1,c.2.2.2.2.2))
noncomputable abbrev EI:=Option (Array Keyed)×Nat×Nat×Array Keyed×Nat
noncomputable def jT (a b:Array Keyed) (c:EI):StateT SortSt Sem (ForInStep EI):=do
 let s ← forIn [:a.size+b.size] ((none,c.2.1,c.2.2.1,c.2.2.2.1,0,0):Ko) fun _ s=>B9 a b c.2.2.2.2 s
 match s.1 with
 | some r=>pure (.done (some r,s.2.1,s.2.2.1,s.2.2.2.1,c.2.2.2.2))
 | none=>do
  liftM (rule "list.sort.gallop")
  let t ← forIn [:a.size+b.size] ((none,s.2.1,s.2.2.1,s.2.2.2.1,c.2.2.2.2+1,s.2.2.2.2.1,s.2.2.2.2.2):B7) fun _ t=>B8 a b t
  match t.1 with
  | some r=>pure (.done (some r,t.2.1,t.2.2.1,t.2.2.2.1,t.2.2.2.2.1))
  | none=>do
   cH (t.2.2.2.2.1+1)
   pure (.yield (none,t.2.1,t.2.2.1,t.2.2.2.1,t.2.2.2.2.1+1))
theorem sV (a b):mF a b=(do
 liftM (rule "list.sort.merge-hi")
 let p ← elem' a (a.size - 1)
 if (a.size - 1 == 0)=true then pure (HQ a b #[p] (a.size - 1) b.size)
 else if (b.size == 1)=true then pure (F2 a b #[p] (a.size - 1) b.size)
 else do
  let st ← get
  let s ← forIn [:a.size+b.size] ((none,a.size - 1,b.size,#[p],gallopOf st):EI) fun _ c=>jT a b c
  match s.1 with
  | some r=>pure r
  | none=>liftM (unsupported (α:=Array Keyed) "internal:list.sort.merge-bound")):=by
 unfold mF
 walk_at "dl mergeHi"
 dsimp only
 refine congrArg _ (funext fun _=>?_)
 refine congrArg _ (funext fun p=>?_)
 refine congrArg _ (congrArg _ ?_)
 refine congrArg _ (funext fun st=>?_)
 have h1:∀ (c:EI),jT a b c=jT a b c:=fun _=>rfl
 have e:∀ (f g:Nat→EI→StateT SortSt Sem (ForInStep EI)) (c:EI) (k:EI→StateT SortSt Sem (Array Keyed)),f=g→(forIn [:a.size+b.size] c f >>= k)=(forIn [:a.size+b.size] c g >>= k):=fun _ _ _ _ h=>by rw [h]
 refine (e _ _ _ _ (funext fun _=>funext fun c=>?_)).trans (congrArg _ (funext fun s=>?_))
 ·obtain ⟨o,na,nb,out,mg⟩:=c
  unfold jT
  dsimp only
  have e2:∀ (f g:Nat→Ko→StateT SortSt Sem (ForInStep Ko)) (c:Ko) (k l:Ko→StateT SortSt Sem (ForInStep EI)),f=g→k=l→(forIn [:a.size+b.size] c f >>= k)=(forIn [:a.size+b.size] c g >>= l):=fun _ _ _ _ _ h h2=>by rw [h,h2]
  refine e2 _ _ _ _ _ (funext fun _=>funext fun c=>?_) (funext fun s=>?_)
  ·rfl
  ·obtain ⟨o,na,nb,out,ac,bc⟩:=s
   cases o with
   | some r=>rfl
   | none =>
    dsimp only
    refine congrArg _ (funext fun _=>?_)
    have e3:∀ (f g:Nat→B7→StateT SortSt Sem (ForInStep B7)) (c:B7) (k l:B7→StateT SortSt Sem (ForInStep EI)),f=g→k=l→(forIn [:a.size+b.size] c f >>= k)=(forIn [:a.size+b.size] c g >>= l):=fun _ _ _ _ _ h h2=>by rw [h,h2]
    refine e3 _ _ _ _ _ (funext fun _=>funext fun c=>?_) (funext fun s=>?_)
    ·rfl
    ·obtain ⟨o,s⟩:=s
     cases o <;> rfl
 ·obtain ⟨o,s⟩:=s
  cases o <;> rfl
section
noncomputable def F3 (rk:Keyed→Int) (a b:Array Keyed) (n:Nat) (o:Option (Array Keyed)) (na nb:Nat) (out:Array Keyed):Prop:=(∃ r,o=some r∧Res rk a b r)∨(o=none∧iB rk a b out na nb∧na+nb≤n)
noncomputable def F4 (rk:Keyed→Int) (a b:Array Keyed) (n:Nat):ForInStep B7→Prop
 | .done c=>F3 rk a b n c.1 c.2.1 c.2.2.1 c.2.2.2.1
 | .yield c=>c.1=none∧iB rk a b c.2.2.2.1 c.2.1 c.2.2.1∧c.2.1+c.2.2.1≤n
theorem pM {st:SortSt} (W:WH rk a b out na nb) (ua:Up rk a) (ub:Up rk b) (la:1≤na) (lb:2≤nb) (ep:a[na - 1]?=some p)
 (hl:∀ (j:Nat) (r:Keyed),j<nb→b[j]?=some r→rk r≤rk p) (hn:na - 1+nb≤n) (hQ:∀ x,F4 rk a b n x→Q x st):wpS (model prog w) A E s (xF a b mg ac bc na nb out) Q st:=by
 unfold xF
 have W4:=W.gy ua la ep hl
 refine QO (aU ep ?_)
 by_cases e9:na - 1=0
 ·rw [if_pos (by simpa using e9)]
  exact QT (hQ _ (.inl ⟨_,rfl,W4.jS ub e9⟩))
 rw [if_neg (by simpa using e9)]
 have hL:iB rk a b (out.push p) (na - 1) nb:=⟨W4,Wt.mpr e9,lb⟩
 split
 ·exact QT (hQ _ (.inr ⟨rfl,hL,hn⟩))
 ·exact QT (hQ _ ⟨rfl,hL,hn⟩)
theorem pN {st:SortSt} (hC:iZ prog w A s κ rk L) (hk:kindOf st=κ) (ma:∀ (i:Nat) (p:Keyed),a[i]?=some p→p∈L) (mb:∀ (i:Nat) (p:Keyed),b[i]?=some p→p∈L)
 (fB:∀ {out:Array Keyed} {na nb:Nat},WH rk a b out na nb→nb=1→Res rk a b (F2 a b out na nb)) (W:WH rk a b out na nb) (ua:Up rk a) (ub:Up rk b) (la:1≤na) (lb:2≤nb) (eq:b[nb - 1]?=some q)
 (hl:∀ (j:Nat) (r:Keyed),j<na→a[j]?=some r→rk r≤rk q) (hn:na+nb≤n+2) (hQ:∀ x,F4 rk a b n x→Q x st):wpS (model prog w) A E s (xG a b mg ac bc na nb out) Q st:=by
 unfold xG
 have W2:=W.gx ub (Nat.le_of_succ_le lb) eq hl
 have hpa:=W.pa
 have hpb:=W.pb
 refine QO (aU eq ?_)
 by_cases e5:nb - 1=1
 ·rw [if_pos (by simpa using e5)]
  exact QT (hQ _ (.inl ⟨_,rfl,fB W2 e5⟩))
 rw [if_neg (by simpa using e5)]
 have lb1:2≤nb - 1:=by lia
 obtain ⟨p,ep⟩:=some_at (xs:=a) (i:=na - 1) (by lia)
 refine QO (aU ep ?_)
 refine QO (sQ hC hk (ma _ _ ep) mb ub _ (by lia) (by lia) fun k hj1 hj2 hj3=>?_)
 dsimp only
 have dn2:∀ (i:Nat) (r:Keyed),i<k→b[i]?=some r→rk r<rk p:=fun i r z1 e6=>hj2 i r z1 (by rw [TF]; exact e6)
 by_cases hj0:nb - 1 - k>0
 ·rw [if_pos hj0]
  have W3:=W2.sO ub (nb - 1 - k) k (WC hj1) fun i j r p' z1 z2 z3 e6 e7=>Ry (ua j (na - 1) p' p (Vv z3) e7 ep) (hj3 i r z1 (Nat.add_lt_add_left z2 0) (by rw [TF]; exact e6))
  by_cases e8:k=1
  ·rw [if_pos (by simpa using e8)]
   exact QT (hQ _ (.inl ⟨_,rfl,fB W3 e8⟩))
  rw [if_neg (by simpa using e8)]
  by_cases e10:k=0
  ·rw [if_pos (by simpa using e10)]
   exact QT (hQ _ (.inl ⟨_,rfl,W3.jR ua e10⟩))
  rw [if_neg (by simpa using e10)]
  exact pM W3 ua ub la (by lia) ep (fun j r hj e6=>Tf (dn2 j r hj e6)) (by lia) hQ
 ·rw [if_neg hj0]
  exact pM W2 ua ub la lb1 ep (fun j r hj e6=>Tf (dn2 j r (by lia) e6)) (by lia) hQ
theorem pO {st:SortSt} (hC:iZ prog w A s κ rk L) (hk:kindOf st=κ) (ma:∀ (i:Nat) (p:Keyed),a[i]?=some p→p∈L) (mb:∀ (i:Nat) (p:Keyed),b[i]?=some p→p∈L)
 (fB:∀ {out:Array Keyed} {na nb:Nat},WH rk a b out na nb→nb=1→Res rk a b (F2 a b out na nb)) (ua:Up rk a) (ub:Up rk b) (hL:iB rk a b out na nb) (hn:na+nb≤n) (hQ:∀ x st',cS st st'→F4 rk a b n x→Q x st') :
 wpS (model prog w) A E s (xH a b mg ac bc na nb out) Q st:=by
 unfold xH
 have W:=hL.w
 have la:=hL.la
 have lb:=hL.lb
 have hpa:=W.pa
 have hpb:=W.pb
 obtain ⟨q,eq⟩:=some_at (xs:=b) (i:=nb - 1) (by lia)
 refine QO (fW ?_)
 have EC:=fun x=>hQ x _ ((cS.refl st).min mg)
 refine QO (aU eq ?_)
 refine QO (sP hC (by exact hk) (mb _ _ eq) ma ua _ (by lia) (by lia) fun k hk1 hk2 hk3=>?_)
 dsimp only
 have dn1:∀ (i:Nat) (p:Keyed),i<k→a[i]?=some p→rk p≤rk q:=fun i p z1 e3=>hk2 i p z1 (by rw [TF]; exact e3)
 by_cases hk0:na - k>0
 ·rw [if_pos hk0]
  have Wk:=W.sN ua (na - k) k (WC hk1) fun i j p r z1 z2 z3 e3 e4=>Ry (ub j (nb - 1) r q (Vv z3) e4 eq) (Tf (hk3 i p z1 (Nat.add_lt_add_left z2 0) (by rw [TF]; exact e3)))
  by_cases e4:k=0
  ·rw [if_pos (by simpa using e4)]
   exact QT (EC _ (.inl ⟨_,rfl,Wk.jS ub e4⟩))
  rw [if_neg (by simpa using e4)]
  exact pN hC (by exact hk) ma mb fB Wk ua ub (Wt.mpr e4) lb eq dn1 (by lia) EC
 ·rw [if_neg hk0]
  exact pN hC (by exact hk) ma mb fB W ua ub la lb eq (fun j r hj e3=>dn1 j r (by lia) e3) (by lia) EC
theorem y9 {st:SortSt} (hC:iZ prog w A s κ rk L) (hk:kindOf st=κ) (ma:∀ (i:Nat) (p:Keyed),a[i]?=some p→p∈L) (mb:∀ (i:Nat) (p:Keyed),b[i]?=some p→p∈L)
 (fB:∀ {out:Array Keyed} {na nb:Nat},WH rk a b out na nb→nb=1→Res rk a b (F2 a b out na nb)) (ua:Up rk a) (ub:Up rk b) (hL:iB rk a b c.2.2.2.1 c.2.1 c.2.2.1) (hn:c.2.1+c.2.2.1≤n+1)
 (hQ:∀ o na nb out z y,F3 rk a b n o na nb out→Q (.done (o,na,nb,out,z)) st∧(o=none→Q (.yield (none,na,nb,out,y)) st)):wpS (model prog w) A E s (B9 a b mg c) Q st:=by
 obtain ⟨_,na,nb,out,ac,bc⟩:=c
 unfold B9
 dsimp only at hL hn ⊢
 have W:=hL.w
 have la:=hL.la
 have lb:=hL.lb
 have hpa:=W.pa
 have hpb:=W.pb
 obtain ⟨q,eq⟩:=some_at (xs:=b) (i:=nb - 1) (by lia)
 obtain ⟨p,ep⟩:=some_at (xs:=a) (i:=na - 1) (by lia)
 refine QO (aU eq (QO (aU ep (QO (mw hC hk (mb _ _ eq) (ma _ _ ep) ?_)))))
 dsimp only
 by_cases hw:rk q<rk p
 ·rw [decide_eq_true hw,if_pos rfl]
  have W1:=W.gy ua la ep fun j r hj e=>Ry (ub j (nb - 1) r q (Vv hj) e eq) (Tf hw)
  refine QO (aU ep ?_)
  by_cases e3:na - 1=0
  ·rw [if_pos (by simpa using e3)]
   exact QT (hQ _ _ _ _ _ (0,0) (.inl ⟨_,rfl,W1.jS ub e3⟩)).1
  rw [if_neg (by simpa using e3)]
  have z:=hQ none (na - 1) nb (out.push p) (ac+1,0) (ac+1,0) (.inr ⟨rfl,⟨W1,Wt.mpr e3,lb⟩,by lia⟩)
  split
  ·exact QT z.1
  ·exact QT (z.2 rfl)
 ·rw [decide_eq_false hw,if_neg QZ]
  have W1:=W.gx ub (Nat.le_of_succ_le lb) eq fun j r hj e=>Ry (ua j (na - 1) r p (Vv hj) e ep) (Int.not_lt.mp hw)
  refine QO (aU eq ?_)
  by_cases e3:nb - 1=1
  ·rw [if_pos (by simpa using e3)]
   exact QT (hQ _ _ _ _ _ (0,0) (.inl ⟨_,rfl,fB W1 e3⟩)).1
  rw [if_neg (by simpa using e3)]
  have z:=hQ none na (nb - 1) (out.push q) (0,bc+1) (0,bc+1) (.inr ⟨rfl,⟨W1,la,by lia⟩,by lia⟩)
  split
  ·exact QT z.1
  ·exact QT (z.2 rfl)
theorem vh {st:SortSt} (hC:iZ prog w A s κ rk L) (hk:kindOf st=κ) (ma:∀ (i:Nat) (p:Keyed),a[i]?=some p→p∈L) (mb:∀ (i:Nat) (p:Keyed),b[i]?=some p→p∈L)
 (fB:∀ {out:Array Keyed} {na nb:Nat},WH rk a b out na nb→nb=1→Res rk a b (F2 a b out na nb)) (ua:Up rk a) (ub:Up rk b) (hL:iB rk a b c.2.2.2.1 c.2.1 c.2.2.1) (hn:c.2.1+c.2.2.1≤n+1) (hm:n+1≤a.size+b.size)
 (h1:∀ r z st',cS st st'→Res rk a b r→Q (.done (some r,z)) st') (h2:∀ na nb out g st',cS st st'→iB rk a b out na nb→na+nb≤n→Q (.yield (none,na,nb,out,g)) st'):wpS (model prog w) A E s (jT a b c) Q st:=by
 unfold jT
 refine QO (RA (R1 (I:=fun y c st'=>st'=st∧c.1=none∧iB rk a b c.2.2.2.1 c.2.1 c.2.2.1∧y+c.2.1+c.2.2.1≤n+1) (Q:=fun c st'=>st'=st∧F3 rk a b n c.1 c.2.1 c.2.2.1 c.2.2.2.1) ?step ?fin ⟨rfl,rfl,hL,by dsimp only; lia⟩) ?post)
 case fin =>
  rintro c st' ⟨rfl,hc,hL',hx⟩
  exact ⟨rfl,.inr ⟨hc,hL',by lia⟩⟩
 case step =>
  rintro y c st' _ hy ⟨rfl,_,hL',hx⟩
  refine y9 (n:=n - y) hC hk ma mb fB ua ub hL' (by have:=hL'.la; have:=hL'.lb; lia) fun o na nb out z y hR=>⟨?_,?_⟩
  ·refine ⟨rfl,?_⟩
   rcases hR with hR | ⟨q1,q2,q3⟩
   ·exact .inl hR
   ·exact .inr ⟨q1,q2,by dsimp only; lia⟩
  ·rintro rfl
   rcases hR with ⟨_,q,_⟩ | ⟨q1,q2,q3⟩
   ·cases q
   ·exact ⟨rfl,rfl,q2,by have:=q2.la; have:=q2.lb; dsimp only; lia⟩
 case post =>
  rintro ⟨o,na,nb,out,ac,bc⟩ st' ⟨rfl,hR⟩
  dsimp only at hR ⊢
  rcases hR with ⟨r,rfl,hr⟩ | ⟨rfl,hL2,hn2⟩
  ·exact QT (h1 r _ _ (.refl _) hr)
  refine QO (TV (RV ⟨rfl,?_⟩))
  refine QO (RA (R1 (I:=fun y c st''=>cS st' st''∧c.1=none∧iB rk a b c.2.2.2.1 c.2.1 c.2.2.1∧c.2.1+c.2.2.1≤n) (Q:=fun c st''=>cS st' st''∧F3 rk a b n c.1 c.2.1 c.2.2.1 c.2.2.2.1) ?gstep ?gfin ⟨.refl _,rfl,hL2,hn2⟩) ?gpost)
  case gfin=>exact fun c st'' ⟨q1,q2,q3,q4⟩=>⟨q1,.inr ⟨q2,q3,q4⟩⟩
  case gstep =>
   rintro y c st'' _ _ ⟨q1,q2,q3,q4⟩
   have key:wpS (model prog w) A E s (B8 a b c) (fun x st3=>cS st'' st3∧F4 rk a b n x) st'':=by
    unfold B8
    split
    ·exact pO hC (q1.k.trans hk) ma mb fB ua ub q3 q4 fun x st3 k h=>⟨k,h⟩
    ·exact pO hC (q1.k.trans hk) ma mb fB ua ub q3 q4 fun x st3 k h=>⟨k,h⟩
   refine RA key fun x st3 ⟨k,h⟩=>?_
   cases x with
   | done c=>exact ⟨q1.trans k,h⟩
   | yield c=>exact ⟨q1.trans k,h⟩
  case gpost =>
   rintro ⟨o,na,nb,out,g,ac,bc⟩ st'' ⟨q1,hR⟩
   dsimp only at hR ⊢
   rcases hR with ⟨r,rfl,hr⟩ | ⟨rfl,hL3,hn3⟩
   ·exact QT (h1 r _ _ q1 hr)
   ·exact QO (fW (QT (h2 _ _ _ _ _ (q1.min _) hL3 hn3)))
theorem sW {st:SortSt} (hC:iZ prog w A s κ rk L) (hk:kindOf st=κ) (ma:∀ (i:Nat) (p:Keyed),a[i]?=some p→p∈L) (mb:∀ (i:Nat) (p:Keyed),b[i]?=some p→p∈L) (ua:Up rk a) (ub:Up rk b) (na1:1≤a.size) (nb1:1≤b.size)
 (h0:∀ p q,a[0]?=some p→b[0]?=some q→rk q≤rk p) (hl:∀ (j:Nat) (p q:Keyed),a[a.size - 1]?=some p→b[j]?=some q→rk q≤rk p) (h:∀ r st',Res rk a b r→cS st st'→Q r st'):wpS (model prog w) A E s (mF a b) Q st:=by
 obtain ⟨p0,ep0⟩:=some_at (xs:=a) (i:=0) na1
 have firstB:∀ {out:Array Keyed} {na nb:Nat},WH rk a b out na nb→nb=1→Res rk a b (F2 a b out na nb):=fun hw e=>hw.first ua e fun j p q e1 e2=>Ry (h0 p0 q ep0 e2) (ua 0 j p0 p (Rq _) ep0 e1)
 obtain ⟨pl,epl⟩:=some_at (xs:=a) (i:=a.size - 1) (by lia)
 have W0:WH rk a b #[pl] (a.size - 1) b.size:=by
  have z:WH rk a b #[] a.size b.size:=⟨QS _,QS _,by simp,UX,by simp,by simp⟩
  exact z.gy ua na1 epl fun j q _ e=>hl j pl q epl e
 rw [sV]
 refine QO (TV (RV ⟨rfl,?_⟩))
 refine QO (aU epl ?_)
 by_cases e1:a.size - 1=0
 ·rw [if_pos (by simpa using e1)]
  exact QT (h _ _ (W0.jS ub e1) (.refl _))
 rw [if_neg (by simpa using e1)]
 by_cases e2:b.size=1
 ·rw [if_pos (by simpa using e2)]
  exact QT (h _ _ (firstB W0 e2) (.refl _))
 rw [if_neg (by simpa using e2)]
 refine QO (Sw ?_)
 refine QO (RA (R1 (I:=fun x c st'=>cS st st'∧c.1=none∧iB rk a b c.2.2.2.1 c.2.1 c.2.2.1∧x+c.2.1+c.2.2.1<a.size+b.size) (Q:=fun c st'=>cS st st'∧∃ r,c.1=some r∧Res rk a b r) ?step ?fin ⟨.refl _,rfl,⟨W0,by dsimp only; lia,by dsimp only; lia⟩,by dsimp only; lia⟩) ?post)
 case fin =>
  rintro c st' ⟨hK,hc,hL,hx⟩
  have h1:=hL.la
  lia
 case post =>
  rintro c st' ⟨hK,r,hc,hr⟩
  rw [hc]
  exact QT (h r st' hr hK)
 case step =>
  rintro x c st1 _ hx ⟨hK,_,hL,hn⟩
  have l1:=hL.la
  have l2:=hL.lb
  exact vh (n:=a.size+b.size - x - 2) hC (hK.k.trans hk) ma mb firstB ua ub hL (by lia) (by lia) (fun r z st' k hr=>⟨hK.trans k,r,rfl,hr⟩) fun na nb out g st' k q1 q2=>⟨hK.trans k,rfl,q1,by have:=q1.la; dsimp only; lia⟩
end
noncomputable def Seg (rk:Keyed→Int) (xs:Array Keyed) (lo hi:Nat):Prop:=∀ i j,lo≤i→i≤j→j<hi→R rk xs i≤R rk xs j
noncomputable def HR (rk:Keyed→Int) (xs:Array Keyed) (lo hi:Nat):Prop:=∀ i j,lo≤i→i≤j→j<hi→R rk xs j≤R rk xs i
structure Bs (κ:SortKind) (L:List Keyed) (st:SortSt):Prop where
 perm:(arrOf st).toList.Perm L
 kind:kindOf st=κ
 failed:failedOf st=none
structure Mv (st st':SortSt) (lo hi:Nat):Prop where
 out:∀ i,i<lo∨hi≤i→(arrOf st')[i]?=(arrOf st)[i]?
 pend:pendingOf st'=pendingOf st
section
variable {st st' st'':SortSt} {lo hi:Nat}
theorem Bs.size (h:Bs κ L st):(arrOf st).size=L.length:=by simpa using h.perm.length_eq
theorem Bs.at (h:Bs κ L st) (hi:i<L.length):∃ p,(arrOf st)[i]?=some p∧p∈L:=by
 have hs:=h.size
 refine ⟨(arrOf st)[i]'(by lia),Rm _,h.perm.mem_iff.mp ?_⟩
 rw [WA]; exact W5 _
theorem Bs.arr (h:Bs κ L st) (hp:xs.toList.Perm (arrOf st).toList):Bs κ L (setArr st xs):=⟨hp.trans h.perm,h.kind,h.failed⟩
theorem Mv.refl:Mv st st lo hi:=⟨fun _ _=>rfl,rfl⟩
theorem Mv.trans (a:Mv st st' lo hi) (b:Mv st' st'' lo hi):Mv st st'' lo hi:=⟨fun i h=>(b.out i h).trans (a.out i h),b.pend.trans a.pend⟩
theorem Ca (hj:j≤xs.size) (k):R rk (mirror xs i j ((j - i) / 2)) k=if i≤k∧k<j then R rk xs (i+j - 1 - k) else R rk xs k:=by
 have e:=getElem?_mirror_all (i:=i) hj k
 by_cases h:i≤k∧k<j
 ·rw [if_pos h] at e ⊢; exact cy e
 ·rw [if_neg h] at e ⊢; exact cy e
theorem mG (hj:j≤(arrOf st).size) (h1:lo≤i) (h2:j≤hi):Mv st (setArr st (mirror (arrOf st) i j ((j - i) / 2))) lo hi :=
 ⟨fun k hk=>by
   have e:=getElem?_mirror_all (i:=i) hj k
   rw [if_neg (by lia)] at e; exact e,rfl⟩
theorem F5 (i) (xs):Seg rk xs i (i+1):=fun a b h1 h2 h3=>by
 have:a=b:=by lia
 subst this; exact Sg _
theorem Cb (h:Seg rk xs lo (lo+n)) (hn:1≤n) (hl:¬ R rk xs (lo+n)<R rk xs (lo+n - 1)):Seg rk xs lo (lo+(n+1)):=fun a b h1 h2 h3=>by
 by_cases hb:b<lo+n
 ·exact h a b h1 h2 hb
 ·have e:b=lo+n:=by lia
  subst e
  by_cases ha:a=lo+n
  ·subst ha; exact Sg _
  ·exact Ry (h a (lo+n - 1) h1 (by lia) (by lia)) (Int.not_lt.mp hl)
theorem gz (h:HR rk xs lo (lo+n)) (hn:1≤n) (hl:R rk xs (lo+n)≤R rk xs (lo+n - 1)):HR rk xs lo (lo+(n+1)):=fun a b h1 h2 h3=>by
 by_cases hb:b<lo+n
 ·exact h a b h1 h2 hb
 ·have e:b=lo+n:=by lia
  subst e
  by_cases ha:a=lo+n
  ·subst ha; exact Sg _
  ·exact Ry hl (h a (lo+n - 1) h1 (by lia) (by lia))
end
section
variable {st:SortSt} {lo nrem:Nat}
theorem mH (hC:iZ prog w A s κ rk L) (hB:Bs κ L st) (hi:i<L.length) (hj:j<L.length) (h:Q (some (decide (R rk (arrOf st) i<R rk (arrOf st) j))) st):wpS (model prog w) A E s (ltAt' i j) Q st:=by
 obtain ⟨p,ep,hp⟩:=hB.at hi
 obtain ⟨q,eq,hq⟩:=hB.at hj
 exact yY hC hB.kind ep eq hp hq h
theorem fc (h:Q () (setArr st (mirror (arrOf st) i j ((j - i) / 2)))):wpS (model prog w) A E s (reverseSlice' i j) Q st :=
 SM (f:=fun s=>setArr s (mirror (arrOf s) i j ((j - i) / 2))) h
noncomputable abbrev Na:=Option (Option Nat)×Nat
noncomputable def asc (lo a nrem:Nat):StateT SortSt Sem Na :=
 forIn [a:nrem] ((none,a):Na) fun _ c=>ltAt' (lo+c.2) (lo+c.2 - 1) >>= fun x=>match x with
  | some smaller=>if smaller=true then pure (Ss (none,c.2)) else pure (RQ (none,c.2+1))
  | _=>pure (Ss (some none,c.2))
theorem xJ (hC:iZ prog w A s κ rk L) (hB:Bs κ L st) (hn:lo+nrem≤L.length) (h1:1≤a) (h2:a≤nrem) (hs:Seg rk (arrOf st) lo (lo+a))
 (h:∀ n,a≤n→n≤nrem→Seg rk (arrOf st) lo (lo+n)→(n=nrem∨R rk (arrOf st) (lo+n)<R rk (arrOf st) (lo+n - 1))→Q (none,n) st):wpS (model prog w) A E s (asc lo a nrem) Q st:=by
 unfold asc
 refine R1 (I:=fun x c st'=>st'=st∧c=(none,x)∧Seg rk (arrOf st) lo (lo+x)) ?step ?fin ⟨rfl,rfl,hs⟩
 case fin =>
  rintro c st' ⟨rfl,rfl,hs'⟩
  rw [show max a nrem=nrem by lia] at hs' ⊢
  exact h nrem h2 (QS _) hs' (.inl rfl)
 case step =>
  rintro x c st' hax hxn ⟨rfl,rfl,hs'⟩
  refine QO (mH hC hB (by dsimp only; lia) (by dsimp only; lia) ?_)
  dsimp only
  by_cases hl:R rk (arrOf st') (lo+x)<R rk (arrOf st') (lo+x - 1)
  ·rw [decide_eq_true hl,if_pos rfl]
   exact QT (h x hax (by lia) hs' (.inr hl))
  ·rw [decide_eq_false hl,if_neg QZ]
   exact QT ⟨rfl,rfl,Cb hs' (by lia) hl⟩
noncomputable abbrev Nb:=Option (Option Nat)×Nat×Nat
noncomputable def Nc (lo n nrem:Nat):StateT SortSt Sem Nb :=
 forIn [n:nrem] ((none,n,0):Nb) fun _ c=>ltAt' (lo+c.2.1) (lo+c.2.1 - 1) >>= fun x=>match x with
  | some smaller=>if smaller=true then
   (if c.2.2>0 then reverseSlice' (lo+c.2.1 - (c.2.2+1)) (lo+c.2.1) >>= fun _=>pure (RQ (none,c.2.1+1,0)) else pure (RQ (none,c.2.1+1,0)))
   else ltAt' (lo+c.2.1 - 1) (lo+c.2.1) >>= fun y=>match y with
    | some larger=>if larger=true then pure (Ss (none,c.2.1,c.2.2)) else pure (RQ (none,c.2.1+1,c.2.2+1))
    | _=>pure (Ss (some none,c.2.1,c.2.2))
  | _=>pure (Ss (some none,c.2.1,c.2.2))
theorem jl (hj:j≤xs.size) (he:∀ k,i≤k→k<j→R rk xs k=R rk xs (j - 1)) (k):R rk (mirror xs i j ((j - i) / 2)) k=R rk xs k:=by
 rw [Ca hj]
 split
 ·rw [he _ (by lia) (by lia),he k (by lia) (by lia)]
 ·rfl
theorem F6 (hC:iZ prog w A s κ rk L) (hB:Bs κ L st) (hn:lo+nrem≤L.length) (h1:1≤n) (h2:n≤nrem) (hs:HR rk (arrOf st) lo (lo+n))
 (h:∀ m neq st',Bs κ L st'→Mv st st' lo (lo+nrem)→n≤m→m≤nrem→HR rk (arrOf st') lo (lo+m)→neq+1≤m→(∀ i,lo+m - (neq+1)≤i→i<lo+m→R rk (arrOf st') i=R rk (arrOf st') (lo+m - 1))→Q (none,m,neq) st') :
 wpS (model prog w) A E s (Nc lo n nrem) Q st:=by
 unfold Nc
 refine R1 (I:=fun x c st'=>∃ neq,c=(none,x,neq)∧Bs κ L st'∧Mv st st' lo (lo+nrem)∧HR rk (arrOf st') lo (lo+x)∧neq+1≤x∧(∀ i,lo+x - (neq+1)≤i→i<lo+x→R rk (arrOf st') i=R rk (arrOf st') (lo+x - 1))) ?step ?fin
  ⟨0,rfl,hB,.refl,hs,h1,fun i a1 a2=>by congr 1; lia⟩
 case fin =>
  rintro c st' ⟨neq,rfl,ko,hM',hs',hq,he⟩
  rw [show max n nrem=nrem by lia] at hs' hq he ⊢
  exact h nrem neq st' ko hM' h2 (QS _) hs' hq he
 case step =>
  rintro x c st' hax hxn ⟨neq,rfl,ko,hM',hs',hq,he⟩
  have hsz:=ko.size
  refine QO (mH hC ko (by dsimp only; lia) (by dsimp only; lia) ?_)
  dsimp only
  by_cases hl:R rk (arrOf st') (lo+x)<R rk (arrOf st') (lo+x - 1)
  ·rw [decide_eq_true hl,if_pos rfl]
   by_cases hq0:neq>0
   ·rw [if_pos hq0]
    have key:=jl (rk:=rk) (xs:=arrOf st') (i:=lo+x - (neq+1)) (j:=lo+x) (by lia) he
    refine QO (fc (QT ⟨0,rfl,ko.arr (Us.mp (Vb _ _ _ _)),hM'.trans (mG (by lia) (by lia) (by lia)),?_,by lia,fun i a1 a2=>by congr 1; lia⟩))
    refine gz (fun a b z1 z2 z3=>?_) (by lia) ?_
    ·show R rk (mirror _ _ _ _) b≤R rk (mirror _ _ _ _) a
     rw [key,key]; exact hs' a b z1 z2 z3
    ·show R rk (mirror _ _ _ _) _≤R rk (mirror _ _ _ _) _
     rw [key,key]; lia
   ·rw [if_neg hq0]
    exact QT ⟨0,rfl,ko,hM',gz hs' (by lia) (by lia),by lia,fun i a1 a2=>by congr 1; lia⟩
  ·rw [decide_eq_false hl,if_neg QZ]
   refine QO (mH hC ko (by lia) (by lia) ?_)
   dsimp only
   by_cases hg:R rk (arrOf st') (lo+x - 1)<R rk (arrOf st') (lo+x)
   ·rw [decide_eq_true hg,if_pos rfl]
    exact QT (h x neq st' ko hM' hax (by lia) hs' hq he)
   ·rw [decide_eq_false hg,if_neg QZ]
    have heq:R rk (arrOf st') (lo+x)=R rk (arrOf st') (lo+x - 1):=by lia
    refine QT ⟨neq+1,rfl,ko,hM',gz hs' (by lia) (by lia),by lia,fun i a1 a2=>?_⟩
    rw [show lo+(x+1) - 1=lo+x by lia]
    by_cases hi:i=lo+x
    ·rw [hi]
    ·rw [heq]; exact he i (by lia) (by lia)
noncomputable def countRun':Nat→Nat→StateT SortSt Sem (Option Nat):=sortPriv% PySem.Builtin.countRun
theorem jm {Q:Option Nat→SortSt→Prop} (hC:iZ prog w A s κ rk L) (hB:Bs κ L st) (hn:lo+nrem≤L.length) (h1:1≤n) (h2:n≤nrem) (hs:HR rk (arrOf st) lo (lo+n))
 (h:∀ m st',Bs κ L st'→Mv st st' lo (lo+nrem)→1≤m→m≤nrem→Seg rk (arrOf st') lo (lo+m)→Q (some m) st') :
 wpS (model prog w) A E s (asc lo n nrem) (fun c st'=>c.1=none∧Q (some c.2) st') (setArr st (mirror (arrOf st) lo (lo+n) ((lo+n - lo) / 2))):=by
 have hsz:=hB.size
 have ko:=hB.arr (Us.mp (Vb (arrOf st) lo (lo+n) ((lo+n - lo) / 2)))
 refine xJ hC ko hn h1 h2 (fun a b z1 z2 z3=>?_) fun m m1 m2 ms _=>⟨rfl,h m _ ko (mG (by lia) (QS _) (by lia)) (by lia) m2 ms⟩
 show R rk (mirror _ _ _ _) a≤R rk (mirror _ _ _ _) b
 rw [Ca (by lia),Ca (by lia),if_pos (by lia),if_pos (by lia)]
 exact hs _ _ (by lia) (by lia) (by lia)
local macro_rules | `(tactic| walk_at "dl countRun")=>do
 let i:=Uc (TY `PySem.Builtin.List.W1All `PySem.Builtin.countRun)
 `(tactic| delta $i)
theorem wpS_countRun (hC:iZ prog w A s κ rk L) (hB:Bs κ L st) (hn:lo+nrem≤L.length) (h1:1≤nrem)
 (h:∀ m st',Bs κ L st'→Mv st st' lo (lo+nrem)→1≤m→m≤nrem→Seg rk (arrOf st') lo (lo+m)→Q (some m) st'):wpS (model prog w) A E s (countRun' lo nrem) Q st:=by
 unfold countRun'
 walk_at "dl countRun"
 dsimp only
 have hsz:=hB.size
 refine QO (show wpS _ _ _ _ (asc lo 1 nrem) _ _ from xJ hC hB hn (QS _) h1 (F5 lo _) fun n n1 n2 ns nor=>?_)
 dsimp only
 by_cases hnn:n=nrem
 ·rw [if_pos (by simpa using hnn)]
  exact QT (h n st hB .refl n1 n2 ns)
 rw [if_neg (by simpa using hnn)]
 have hlt:=nor.resolve_left hnn
 have rest:∀ (st1:SortSt),Bs κ L st1→Mv st st1 lo (lo+nrem)→HR rk (arrOf st1) lo (lo+(n+1))→wpS (model prog w) A E s (Nc lo (n+1) nrem) (fun c st2=>Bs κ L st2∧Mv st st2 lo (lo+nrem)∧c.1=none∧n+1≤c.2.1∧c.2.1≤nrem∧HR rk (arrOf st2) lo (lo+c.2.1)∧c.2.2+1≤c.2.1∧(∀ i,lo+c.2.1 - (c.2.2+1)≤i→i<lo+c.2.1→R rk (arrOf st2) i=R rk (arrOf st2) (lo+c.2.1 - 1))) st1 :=
  fun st1 hB1 hM1 hs1=>F6 hC hB1 hn (by lia) (by lia) hs1 fun m neq st2 a1 a2 a3 a4 a5 a6 a7=>⟨a1,hM1.trans a2,rfl,a3,a4,a5,a6,a7⟩
 by_cases hgt:n>1
 ·rw [if_pos hgt]
  refine QO (mH hC hB (by lia) (by lia) ?_)
  dsimp only
  by_cases hrose:R rk (arrOf st) lo<R rk (arrOf st) (lo+n - 1)
  ·rw [decide_eq_true hrose,if_pos rfl]
   exact QT (h n st hB .refl n1 n2 ns)
  ·rw [decide_eq_false hrose,if_neg QZ]
   have hall:∀ k,lo≤k→k<lo+n→R rk (arrOf st) k=R rk (arrOf st) (lo+n - 1):=fun k z1 z2=>by
    have a1:=ns lo k (QS _) z1 z2
    have a2:=ns k (lo+n - 1) z1 (by lia) (by lia)
    lia
   have key:=jl (rk:=rk) (xs:=arrOf st) (i:=lo) (j:=lo+n) (by lia) hall
   refine QO (fc ?_)
   refine QO (TV (RV ⟨rfl,?_⟩))
   refine QO (RA (show wpS _ _ _ _ (Nc lo (n+1) nrem) _ _ from rest _ (hB.arr (Us.mp (Vb _ _ _ _))) (mG (by lia) (QS _) (by lia)) (gz (fun a b z1 z2 z3=>?_) (by lia) ?_)) fun c st2 hc=>?_)
   ·show R rk (mirror _ _ _ _) b≤R rk (mirror _ _ _ _) a
    rw [key,key,hall b (by lia) z3,hall a z1 (by lia)]; exact Sg _
   ·show R rk (mirror _ _ _ _) _≤R rk (mirror _ _ _ _) _
    rw [key,key]; lia
   ·obtain ⟨r,m,neq⟩:=c
    obtain ⟨b1,b2,b3,b4,b5,b6,b7,b8⟩:=hc
    dsimp only at b3 b4 b5 b6 b7 b8 ⊢
    rw [b3]
    dsimp only
    by_cases hq0:neq>0
    ·rw [if_pos hq0]
     have hsz2:=b1.size
     have key2:=jl (rk:=rk) (xs:=arrOf st2) (i:=lo+m - (neq+1)) (j:=lo+m) (by lia) b8
     refine QO (fc (QO (fc (QO (RA (show wpS _ _ _ _ (asc lo m nrem) _ _ from jm (Q:=Q) hC (b1.arr (Us.mp (Vb _ _ _ _))) hn (by lia) b5 (fun a b z1 z2 z3=>?_) fun k st3 c1 c2 c3 c4 c5=>h k st3 c1 ((b2.trans (mG (by lia) (by lia) (by lia))).trans c2) c3 c4 c5) fun c st4 hc=>?_)))))
     ·show R rk (mirror _ _ _ _) b≤R rk (mirror _ _ _ _) a
      rw [key2,key2]; exact b6 a b z1 z2 z3
     ·obtain ⟨r,k⟩:=c
      obtain ⟨e,hQ⟩:=hc
      dsimp only at e hQ ⊢
      rw [e]
      exact QT hQ
    ·rw [if_neg hq0]
     refine QO (fc (QO (RA (show wpS _ _ _ _ (asc lo m nrem) _ _ from jm (Q:=Q) hC b1 hn (by lia) b5 b6 fun k st3 c1 c2 c3 c4 c5=>h k st3 c1 (b2.trans c2) c3 c4 c5) fun c st4 hc=>?_)))
     obtain ⟨r,k⟩:=c
     obtain ⟨e,hQ⟩:=hc
     dsimp only at e hQ ⊢
     rw [e]
     exact QT hQ
 ·rw [if_neg hgt]
  have e1:n=1:=by lia
  subst e1
  refine QO (TV (RV ⟨rfl,?_⟩))
  refine QO (RA (show wpS _ _ _ _ (Nc lo (1+1) nrem) _ _ from rest st hB .refl (gz (fun a b z1 z2 z3=>?_) (QS _) (Tf hlt))) fun c st2 hc=>?_)
  ·have:a=b:=by lia
   subst this; exact Sg _
  ·obtain ⟨r,m,neq⟩:=c
   obtain ⟨b1,b2,b3,b4,b5,b6,b7,b8⟩:=hc
   dsimp only at b3 b4 b5 b6 b7 b8 ⊢
   rw [b3]
   dsimp only
   by_cases hq0:neq>0
   ·rw [if_pos hq0]
    have hsz2:=b1.size
    have key2:=jl (rk:=rk) (xs:=arrOf st2) (i:=lo+m - (neq+1)) (j:=lo+m) (by lia) b8
    refine QO (fc (QO (fc (QO (RA (show wpS _ _ _ _ (asc lo m nrem) _ _ from jm (Q:=Q) hC (b1.arr (Us.mp (Vb _ _ _ _))) hn (by lia) b5 (fun a b z1 z2 z3=>?_) fun k st3 c1 c2 c3 c4 c5=>h k st3 c1 ((b2.trans (mG (by lia) (by lia) (by lia))).trans c2) c3 c4 c5) fun c st4 hc=>?_)))))
    ·show R rk (mirror _ _ _ _) b≤R rk (mirror _ _ _ _) a
     rw [key2,key2]; exact b6 a b z1 z2 z3
    ·obtain ⟨r,k⟩:=c
     obtain ⟨e,hQ⟩:=hc
     dsimp only at e hQ ⊢
     rw [e]
     exact QT hQ
   ·rw [if_neg hq0]
    refine QO (fc (QO (RA (show wpS _ _ _ _ (asc lo m nrem) _ _ from jm (Q:=Q) hC b1 hn (by lia) b5 b6 fun k st3 c1 c2 c3 c4 c5=>h k st3 c1 (b2.trans c2) c3 c4 c5) fun c st4 hc=>?_)))
    obtain ⟨r,k⟩:=c
    obtain ⟨e,hQ⟩:=hc
    dsimp only at e hQ ⊢
    rw [e]
    exact QT hQ
end
section
variable {st:SortSt} {lo:Nat}
theorem HU (hs:src<xs.size) (hd:d≤src) (k):R rk (bubble xs src d) k=if k=src - d then R rk xs src else if src - d<k∧k≤src then R rk xs (k - 1) else R rk xs k:=by
 have e:=getElem?_bubble hs d hd k
 by_cases h1:k=src - d
 ·rw [if_pos h1] at e ⊢; exact cy e
 ·rw [if_neg h1] at e ⊢
  by_cases h2:src - d<k∧k≤src
  ·rw [if_pos h2] at e ⊢; exact cy e
  ·rw [if_neg h2] at e ⊢; exact cy e
theorem Cc (h:Q () (setArr st (bubble (arrOf st) i (i - j)))):wpS (model prog w) A E s (moveDown' i j) Q st :=
 SM (f:=fun s=>setArr s (bubble (arrOf s) i (i - j))) h
noncomputable def binarySort':Nat→Nat→Nat→StateT SortSt Sem Bool:=sortPriv% PySem.Builtin.binarySort
local macro_rules | `(tactic| walk_at "dl binarySort")=>do
 let i:=Uc (TY `PySem.Builtin.List.W1All `PySem.Builtin.binarySort)
 `(tactic| delta $i)
theorem wpS_binarySort (hC:iZ prog w A s κ rk L) (hB:Bs κ L st) (hn:lo+n≤L.length) (hok:ok≤n) (hs:Seg rk (arrOf st) lo (lo+ok))
 (h:∀ st',Bs κ L st'→Mv st st' lo (lo+n)→Seg rk (arrOf st') lo (lo+n)→Q true st'):wpS (model prog w) A E s (binarySort' lo n ok) Q st:=by
 unfold binarySort'
 walk_at "dl binarySort"
 dsimp only
 refine QO (RA (R1 (I:=fun k c st'=>c.1=none∧Bs κ L st'∧Mv st st' lo (lo+n)∧Seg rk (arrOf st') lo (lo+min k n)) (Q:=fun c st'=>c.1=none∧Bs κ L st'∧Mv st st' lo (lo+n)∧Seg rk (arrOf st') lo (lo+n)) ?step ?fin ?init) ?post)
 case post =>
  rintro ⟨c,u⟩ st' ⟨hc,ko,hM',hs'⟩
  dsimp only at hc ⊢
  rw [hc]
  exact QT (h st' ko hM' hs')
 case init =>
  refine ⟨rfl,hB,.refl,fun a b z1 z2 z3=>?_⟩
  by_cases h1:ok=0
  ·have:a=b:=by lia
   subst this; exact Sg _
  ·exact hs a b z1 z2 (by lia)
 case fin =>
  rintro c st' ⟨hc,ko,hM',hs'⟩
  rw [show min (max (max ok 1) n) n=n by lia] at hs'
  exact ⟨hc,ko,hM',hs'⟩
 case step =>
  rintro k ⟨c,u⟩ st' hak hkn ⟨rfl,ko,hM',hs'⟩
  rw [show min k n=k by lia] at hs'
  have hsz:=ko.size
  refine QO (RA (R1 (I:=fun x c st2=>st2=st'∧∃ l r,c=(none,l,r)∧l≤r∧r≤k∧r - l≤k - x∧(∀ i,i<l→R rk (arrOf st') (lo+i)≤R rk (arrOf st') (lo+k))∧(∀ i,r≤i→i<k→R rk (arrOf st') (lo+k)<R rk (arrOf st') (lo+i)))
   (Q:=fun c st2=>st2=st'∧∃ l r,c=(none,l,r)∧l≤k∧(∀ i,i<l→R rk (arrOf st') (lo+i)≤R rk (arrOf st') (lo+k))∧(∀ i,l≤i→i<k→R rk (arrOf st') (lo+k)<R rk (arrOf st') (lo+i))) ?istep ?ifin ⟨rfl,0,k,rfl,by lia,by lia,by lia,fun i hi=>by lia,fun i h1 h2=>by lia⟩) ?ipost)
  case ifin =>
   rintro c st2 ⟨rfl,l,r,rfl,a1,a2,a3,a4,a5⟩
   have:l=r:=by lia
   subst this
   exact ⟨rfl,l,l,rfl,a2,a4,a5⟩
  case istep =>
   rintro x c st2 _ hx ⟨rfl,l,r,rfl,a1,a2,a3,a4,a5⟩
   dsimp only
   by_cases hge:l≥r
   ·rw [if_pos hge]
    have:l=r:=by lia
    subst this
    exact QT ⟨rfl,l,l,rfl,a2,a4,a5⟩
   ·rw [if_neg hge]
    refine QO (mH hC ko (by lia) (by lia) ?_)
    dsimp only
    by_cases hl:R rk (arrOf st2) (lo+k)<R rk (arrOf st2) (lo+(l+r) / 2)
    ·rw [decide_eq_true hl,if_pos rfl]
     refine QT ⟨rfl,l,(l+r) / 2,rfl,by lia,by lia,by lia,a4,fun i h1 h2=>?_⟩
     exact Int.lt_of_lt_of_le hl (hs' _ _ (by lia) (by lia) (by lia))
    ·rw [decide_eq_false hl,if_neg QZ]
     refine QT ⟨rfl,(l+r) / 2+1,r,rfl,by lia,by lia,by lia,fun i h1=>?_,a5⟩
     exact Ry (hs' (lo+i) (lo+(l+r) / 2) (by lia) (by lia) (by lia)) (Int.not_lt.mp hl)
  case ipost =>
   rintro c st2 ⟨rfl,l,r,rfl,hlk,a4,a5⟩
   dsimp only
   have e1:lo+k - (lo+l)=k - l:=by lia
   refine QO (Cc (QT ⟨rfl,ko.arr (Us.mp (bubble_perm _ _ _)),?_,?_⟩))
   ·refine hM'.trans ⟨fun i hi=>?_,rfl⟩
    have e:=getElem?_bubble (xs:=arrOf st2) (src:=lo+k) (by lia) (lo+k - (lo+l)) (by lia) i
    rw [if_neg (by lia),if_neg (by lia)] at e
    exact e
   ·rw [show min (k+1) n=k+1 by lia]
    intro i j hi hij hj
    show R rk (bubble (arrOf st2) (lo+k) (lo+k - (lo+l))) i≤R rk (bubble (arrOf st2) (lo+k) (lo+k - (lo+l))) j
    rw [HU (by lia) (by lia),HU (by lia) (by lia),e1]
    have sub:∀ i,lo≤i→lo+(i - lo)=i:=fun i hi=>by lia
    have f4:∀ i,lo≤i→i<lo+l→R rk (arrOf st2) i≤R rk (arrOf st2) (lo+k):=fun i h1 h2=>by have:=a4 (i - lo) (by lia); rwa [sub i h1] at this
    have f5:∀ i,lo+l≤i→i<lo+k→R rk (arrOf st2) (lo+k)<R rk (arrOf st2) i:=fun i h1 h2=>by have:=a5 (i - lo) (by lia) (by lia); rwa [sub i (by lia)] at this
    repeat' split
    all_goals first
     | (exfalso; lia)
     | exact Sg _
     | exact f4 _ (by lia) (by lia)
     | exact Tf (f5 _ (by lia) (by lia))
     | exact hs' _ _ (by lia) (by lia) (by lia)
theorem pP:∀ (l:List Keyed) (k sa:Nat) (A:Array Keyed),sa+k+l.length≤A.size→((l.zipIdx k).foldl (fun a (x:Keyed×Nat)=>a.setIfInBounds (sa+x.2) x.1) A).size=A.size ∧
 ∀ i:Nat,((l.zipIdx k).foldl (fun a (x:Keyed×Nat)=>a.setIfInBounds (sa+x.2) x.1) A)[i]?=if sa+k≤i∧i<sa+k+l.length then l[i - (sa+k)]? else A[i]?
 | [],k,sa,A,h=>⟨rfl,fun i=>by rw [if_neg (by simp only [SS]; lia)]; rfl⟩
 | x::l,k,sa,A,h=>by
  rw [RH] at h
  obtain ⟨h1,h2⟩:=pP l (k+1) sa (A.setIfInBounds (sa+k) x) (by rw [Array.size_setIfInBounds]; lia)
  rw [W7,So]
  refine ⟨by rw [h1,Array.size_setIfInBounds],fun i=>?_⟩
  rw [h2 i,RH]
  by_cases c1:sa+(k+1)≤i∧i<sa+(k+1)+l.length
  ·rw [if_pos c1,if_pos (by lia),show i - (sa+k)=i - (sa+(k+1))+1 by lia,List.getElem?_cons_succ]
  ·rw [if_neg c1]
   by_cases c2:i=sa+k
   ·subst c2
    rw [if_pos (by lia),Nat.sub_self,List.getElem?_cons_zero,Array.getElem?_setIfInBounds_self_of_lt (by lia)]
   ·rw [if_neg (by lia),Array.getElem?_setIfInBounds_ne (by lia)]
end
noncomputable def iF:Nat→StateT SortSt Sem Bool:=sortPriv% PySem.Builtin.mergeAt
local macro_rules | `(tactic| walk_at "dl mergeAt")=>do
 let i:=Uc (TY `PySem.Builtin.List.W1All `PySem.Builtin.mergeAt)
 `(tactic| delta $i)
section
variable {st:SortSt}
theorem F7 (h:Q ⟨⟩ st1):wpS M A E s (set st1:StateT SortSt Sem PUnit) Q st:=by
 unfold wpS; rw [StateT.run_set]; exact QN ⟨rfl,h⟩
theorem za (hC:iZ prog w A s κ rk L) (hk:kindOf st=κ) (hkey:key∈L) (mx:∀ (i:Nat) (p:Keyed),xs[i]?=some p→p∈L) (hn:base+n≤xs.size) (us:Seg rk xs base (base+n)) (hh:hint<n)
 (h:∀ k,k≤n→(∀ i,base≤i→i<base+k→R rk xs i≤rk key)→(∀ i,base+k≤i→i<base+n→rk key<R rk xs i)→Q (some k) st):wpS (model prog w) A E s (cQ false key xs base n hint) Q st:=by
 obtain ⟨k,h1,h2⟩:=mD (fun i=>R rk xs (base+i)) (rk key) n fun i j hij hj=>us _ _ (by lia) (by lia) (by lia)
 refine fV hC hk hkey (fun i hi=>⟨xs[base+i]'(by lia),Rm _,mx _ _ (Rm _)⟩) (fun i hi=>by simp only [RO,if_false]; exact h2 i hi) h1 hh (h k h1 (fun i hi hk=>?_) fun i hi hk=>?_)
 ·have:=(h2 (i - base) (by lia)).mpr (by lia)
  rwa [show base+(i - base)=i by lia] at this
 ·have:=mt (h2 (i - base) (by lia)).mp (by lia)
  rw [show base+(i - base)=i by lia] at this
  lia
theorem zb (hC:iZ prog w A s κ rk L) (hk:kindOf st=κ) (hkey:key∈L) (mx:∀ (i:Nat) (p:Keyed),xs[i]?=some p→p∈L) (hn:base+n≤xs.size) (us:Seg rk xs base (base+n)) (hh:hint<n)
 (h:∀ k,k≤n→(∀ i,base≤i→i<base+k→R rk xs i<rk key)→(∀ i,base+k≤i→i<base+n→rk key≤R rk xs i)→Q (some k) st):wpS (model prog w) A E s (cQ true key xs base n hint) Q st:=by
 obtain ⟨k,h1,h2⟩:=mE (fun i=>R rk xs (base+i)) (rk key) n fun i j hij hj=>us _ _ (by lia) (by lia) (by lia)
 refine fV hC hk hkey (fun i hi=>⟨xs[base+i]'(by lia),Rm _,mx _ _ (Rm _)⟩) (fun i hi=>by simp only [if_true]; exact h2 i hi) h1 hh (h k h1 (fun i hi hk=>?_) fun i hi hk=>?_)
 ·have:=(h2 (i - base) (by lia)).mpr (by lia)
  rwa [show base+(i - base)=i by lia] at this
 ·have:=mt (h2 (i - base) (by lia)).mp (by lia)
  rw [show base+(i - base)=i by lia] at this
  lia
theorem ff {xs:Array Keyed} (h:(xs.extract i j)[m]?=some p):xs[i+m]?=some p∧i+m<j:=by
 rw [Vt] at h
 split at h
 ·exact ⟨h,by lia⟩
 ·cases h
theorem xK {lo hi i j:Nat} (h:Seg rk xs lo hi) (h1:lo≤i) (h2:j≤hi):Up rk (xs.extract i j):=fun a b p q hab e1 e2=>by
 obtain ⟨f1,g1⟩:=ff e1
 obtain ⟨f2,g2⟩:=ff e2
 have:=h (i+a) (i+b) (by lia) (by lia) (by lia)
 rwa [dX f1,dX f2] at this
theorem sX (hC:iZ prog w A s κ rk L) (hB:Bs κ L st) (p1:(pendingOf st)[i]?=some (sa,na,pw)) (p2:(pendingOf st)[i+1]?=some (sa+na,nb,pw2)) (h1:1≤na) (h2:1≤nb) (hz:sa+na+nb≤L.length)
 (s1:Seg rk (arrOf st) sa (sa+na)) (s2:Seg rk (arrOf st) (sa+na) (sa+na+nb))
 (h:∀ st',Bs κ L st'→(∀ j,j<sa∨sa+na+nb≤j→(arrOf st')[j]?=(arrOf st)[j]?)→pendingOf st'=((pendingOf st).setIfInBounds i (sa,na+nb,pw)).eraseIdxIfInBounds (i+1)→Seg rk (arrOf st') sa (sa+na+nb)→Q true st') :
 wpS (model prog w) A E s (iF i) Q st:=by
 unfold iF
 walk_at "dl mergeAt"
 dsimp only
 refine QO (Sw ?_)
 rw [p1,p2]
 dsimp only
 have hsz:=hB.size
 have mL:∀ (i:Nat) (p:Keyed),(arrOf st)[i]?=some p→p∈L:=fun i p e=>hB.perm.mem_iff.mp (by
  obtain ⟨h1,h2⟩:=Ut.mp e
  rw [← h2,WA]; exact W5 _)
 refine QO (F7 ?_)
 obtain ⟨key,ek,hkL⟩:=hB.at (i:=sa+na) (by lia)
 refine QO (aU ek ?_)
 have rkey:R rk (arrOf st) (sa+na)=rk key:=dX ek
 refine QO (za hC hB.kind hkL mL (by show _≤(arrOf st).size; lia) s1 (by lia) fun k k1 k2 k3=>?_)
 dsimp only
 by_cases e0:na - k=0
 ·rw [if_pos (by simpa using e0)]
  refine QT (h _ ⟨hB.perm,hB.kind,hB.failed⟩ (fun _ _=>rfl) rfl fun a b z1 z2 z3=>?_)
  by_cases hb:b<sa+na
  ·exact s1 a b z1 z2 hb
  ·by_cases ha:sa+na≤a
   ·exact s2 a b ha z2 z3
   ·refine Ry (k2 a z1 (by lia)) ?_
    rw [← rkey]; exact s2 (sa+na) b (QS _) (by lia) z3
 rw [if_neg (by simpa using e0)]
 obtain ⟨key2,ek2,hk2L⟩:=hB.at (i:=sa+k+(na - k) - 1) (by lia)
 have rkey2:R rk (arrOf st) (sa+na - 1)=rk key2:=by rw [← dX (rk:=rk) ek2]; congr 1; lia
 refine QO (aU ek2 ?_)
 refine QO (zb hC (by exact hB.kind) hk2L mL (by show _≤(arrOf st).size; lia) s2 (by lia) fun m m1 m2 m3=>?_)
 dsimp only
 by_cases e1:m=0
 ·exfalso
  have a1:=m3 (sa+na) (by lia) (by lia)
  have a2:=k3 (sa+na - 1) (by lia) (by lia)
  rw [rkey2] at a2; rw [rkey] at a1; lia
 rw [if_neg (by simpa using e1)]
 have mx:∀ (i:Nat) (p:Keyed),((arrOf st).extract (sa+k) (sa+na))[i]?=some p→p∈L:=fun i p e=>mL _ p (ff e).1
 have my:∀ (i:Nat) (p:Keyed),((arrOf st).extract (sa+na) (sa+na+m))[i]?=some p→p∈L:=fun i p e=>mL _ p (ff e).1
 have ux:Up rk ((arrOf st).extract (sa+k) (sa+na)):=xK s1 (by lia) (QS _)
 have uy:Up rk ((arrOf st).extract (sa+na) (sa+na+m)):=xK s2 (QS _) (by lia)
 have zx:((arrOf st).extract (sa+k) (sa+na)).size=na - k:=by rw [Array.size_extract]; lia
 have zy:((arrOf st).extract (sa+na) (sa+na+m)).size=m:=by rw [Array.size_extract]; lia
 have h0:∀ p q,((arrOf st).extract (sa+k) (sa+na))[0]?=some p→((arrOf st).extract (sa+na) (sa+na+m))[0]?=some q→rk q≤rk p:=fun p q e2 e3=>by
  obtain ⟨f1,g1⟩:=ff e2
  obtain ⟨f2,g2⟩:=ff e3
  have a1:=k3 (sa+k+0) (by lia) (by lia)
  rw [dX f1] at a1
  have a2:rk q=rk key:=by rw [← rkey,← dX (rk:=rk) f2]; rfl
  lia
 have hl:∀ (j:Nat) (p q:Keyed),((arrOf st).extract (sa+k) (sa+na))[((arrOf st).extract (sa+k) (sa+na)).size - 1]?=some p→((arrOf st).extract (sa+na) (sa+na+m))[j]?=some q→rk q≤rk p:=fun j p q e2 e3=>by
  rw [zx] at e2
  obtain ⟨f1,g1⟩:=ff e2
  obtain ⟨f2,g2⟩:=ff e3
  have a1:=m2 (sa+na+j) (by lia) (by lia)
  rw [dX f2] at a1
  have a2:rk p=rk key2:=by rw [← rkey2,← dX (rk:=rk) f1]; congr 1; lia
  lia
 have fin:∀ (r:Array Keyed) (st2:SortSt),Res rk ((arrOf st).extract (sa+k) (sa+na)) ((arrOf st).extract (sa+na) (sa+na+m)) r→kindOf st2=kindOf st→arrOf st2=arrOf st→pendingOf st2=((pendingOf st).setIfInBounds i (sa,na+nb,pw)).eraseIdxIfInBounds (i+1)→failedOf st2=failedOf st →
  Q true (setArr st2 (UK (fun a (x:Keyed×Nat)=>a.setIfInBounds (sa+k+x.2) x.1) (arrOf st2) r.toList.zipIdx)):=fun r st2 hr e2 e3 e4 e5=>by
  have hlen:r.toList.length=na - k+m:=by
   have:=hr.1.length_eq
   simp only [Rr,RS,zx,zy] at this ⊢
   exact this
  obtain ⟨w1,w2⟩:=pP r.toList 0 (sa+k) (arrOf st) (by lia)
  generalize hW:UK (fun a (x:Keyed×Nat)=>a.setIfInBounds (sa+k+x.2) x.1) (arrOf st) r.toList.zipIdx=W at w1 w2
  rw [e3,hW]
  have rW:∀ i,sa+k≤i→i<sa+na+m→R rk W i=R rk r (i - (sa+k)):=fun i z1 z2=>by
   refine cy ?_
   rw [w2,if_pos (by lia),RN]; rfl
  have rO:∀ i,(i<sa+k∨sa+na+m≤i)→R rk W i=R rk (arrOf st) i:=fun i z=>by
   refine cy ?_
   rw [w2,if_neg (by lia)]
  have elt:∀ i,sa+k≤i→i<sa+na+m→∃ t,sa+k≤t∧t<sa+na+m∧R rk W i=R rk (arrOf st) t:=fun i z1 z2=>by
   have hi:i - (sa+k)<r.size:=by rw [← RS]; lia
   have e6:r[i - (sa+k)]?=some r[i - (sa+k)]:=Rm hi
   have hm:r[i - (sa+k)]∈r.toList:=by rw [WA]; exact W5 _
   rw [rW i z1 z2,dX e6]
   rcases Rg.mp (hr.1.mem_iff.mp hm) with z | z
   ·obtain ⟨t,t1,t2,t3⟩:=xA z
    exact ⟨t,t1,by lia,(dX t3).symm⟩
   ·obtain ⟨t,t1,t2,t3⟩:=xA z
    exact ⟨t,by lia,by lia,(dX t3).symm⟩
  have ur:=Km hr.2
  refine h _ ⟨?_,e2.trans hB.kind,e5.trans hB.failed⟩ (fun j hj=>?_) e4 fun a b z1 z2 z3=>?_
  ·
   refine List.Perm.trans ?_ hB.perm
   have eW:W.toList=(arrOf st).toList.take (sa+k)++r.toList++(arrOf st).toList.drop (sa+na+m):=by
    apply VG
    intro j
    rw [RN,w2,Rk,UQ,UQ,Rx,UA,U0 (by rw [RS]; lia)]
    by_cases c1:j<sa+k
    ·rw [if_neg (by lia),if_pos c1,Vo c1,RN]
    ·rw [if_neg c1]
     by_cases c2:j - (sa+k)<r.toList.length
     ·rw [if_pos (by lia),if_pos c2]; rfl
     ·rw [if_neg (by lia),if_neg c2,RN]; congr 1; lia
   have eA:(arrOf st).toList=(arrOf st).toList.take (sa+k)++(((arrOf st).extract (sa+k) (sa+na)).toList++((arrOf st).extract (sa+na) (sa+na+m)).toList)++(arrOf st).toList.drop (sa+na+m):=by
    apply VG
    intro j
    rw [Rk,Rk,UQ,UQ,UQ,Rx,RS,RS,RS,zx,zy,UA,U0 (by lia)]
    by_cases c1:j<sa+k
    ·rw [if_pos c1,Vo c1]
    ·rw [if_neg c1]
     by_cases c2:j - (sa+k)<na - k
     ·rw [if_pos c2,RN,RN,Vt,if_pos (by lia)]; congr 1; lia
     ·rw [if_neg c2]
      by_cases c3:j - (sa+k) - (na - k)<m
      ·rw [if_pos c3,RN,RN,Vt,if_pos (by lia)]; congr 1; lia
      ·rw [if_neg c3]; congr 1; lia
   show W.toList.Perm _
   rw [eW]
   conv=>rhs; rw [eA]
   exact (Uw _ hr.1).append_right _
  ·show W[j]?=_
   rw [w2,if_neg (by lia)]
  ·show R rk W a≤R rk W b
   have kk:∀ t,sa+na≤t→t<sa+na+nb→rk key≤R rk (arrOf st) t:=fun t t1 t2=>by rw [← rkey]; exact s2 _ t (QS _) t1 t2
   have kk2:∀ t,sa≤t→t<sa+na→R rk (arrOf st) t≤rk key2:=fun t t1 t2=>by rw [← rkey2]; exact s1 t _ t1 (by lia) (by lia)
   by_cases c1:a<sa+k
   ·rw [rO a (.inl c1)]
    have la:=k2 a z1 c1
    by_cases d1:b<sa+k
    ·rw [rO b (.inl d1)]; exact s1 a b z1 z2 (by lia)
    ·by_cases d2:b<sa+na+m
     ·obtain ⟨t,t1,t2,t3⟩:=elt b (by lia) d2
      rw [t3]
      by_cases d3:t<sa+na
      ·exact s1 a t z1 (by lia) d3
      ·exact Ry la (kk t (by lia) (by lia))
     ·rw [rO b (.inr (by lia))]
      exact Ry la (kk b (by lia) z3)
   ·by_cases c2:a<sa+na+m
    ·by_cases d2:b<sa+na+m
     ·rw [rW a (by lia) c2,rW b (by lia) d2]
      have f1:r[a - (sa+k)]?=some (r[a - (sa+k)]'(by rw [← RS]; lia)):=Rm _
      have f2:r[b - (sa+k)]?=some (r[b - (sa+k)]'(by rw [← RS]; lia)):=Rm _
      rw [dX f1,dX f2]
      exact ur _ _ _ _ (by lia) f1 f2
     ·obtain ⟨t,t1,t2,t3⟩:=elt a (by lia) c2
      rw [t3,rO b (.inr (by lia))]
      by_cases d3:t<sa+na
      ·exact Ry (kk2 t (by lia) d3) (m3 b (by lia) z3)
      ·exact s2 t b (by lia) (by lia) z3
    ·rw [rO a (.inr (by lia)),rO b (.inr (by lia))]
     exact s2 a b (by lia) z2 z3
 have post:∀ (r:Array Keyed) (st2:SortSt),failedOf st2=failedOf st→(failedOf st2).isNone=true:=fun r st2 e=>by rw [e,hB.failed]; rfl
 by_cases hle:na - k≤m
 ·rw [if_pos hle]
  refine QO (sS hC (by exact hB.kind) mx my ux uy (by show 1≤((arrOf st).extract (sa+k) (sa+na)).size; lia) (by show 1≤((arrOf st).extract (sa+na) (sa+na+m)).size; lia) h0 hl fun r st2 hr hK=>?_)
  refine QO (SM (QO (Sw ?_)))
  have e9:failedOf st2=none:=hK.f.trans hB.failed
  have z:=fin r st2 hr hK.k hK.a hK.p hK.f
  refine QT ?_
  show Q (failedOf st2).isNone _
  rw [e9]; exact z
 ·rw [if_neg hle]
  refine QO (sW hC (by exact hB.kind) mx my ux uy (by show 1≤((arrOf st).extract (sa+k) (sa+na)).size; lia) (by show 1≤((arrOf st).extract (sa+na) (sa+na+m)).size; lia) h0 hl fun r st2 hr hK=>?_)
  refine QO (SM (QO (Sw ?_)))
  have e9:failedOf st2=none:=hK.f.trans hB.failed
  have z:=fin r st2 hr hK.k hK.a hK.p hK.f
  refine QT ?_
  show Q (failedOf st2).isNone _
  rw [e9]; exact z
end
noncomputable abbrev Nd:Nat→Nat→Nat→Nat:=sortPriv% PySem.Builtin.minRun
noncomputable def sY:StateT SortSt Sem Unit:=sortPriv% PySem.Builtin.sortRuns
local macro_rules | `(tactic| walk_at "dl sortRuns")=>do
 let i:=Uc (TY `PySem.Builtin.List.W1All `PySem.Builtin.sortRuns)
 `(tactic| delta $i)
noncomputable def fN (rk:Keyed→Int) (xs:Array Keyed):Nat→List (Nat×Nat×Nat)→Nat→Prop
 | a,[],b=>a=b
 | a,p::r,b=>p.1=a∧1≤p.2.1∧Seg rk xs a (a+p.2.1)∧fN rk xs (a+p.2.1) r b
section
theorem fN.le:∀ {ps:List (Nat×Nat×Nat)} {a b:Nat},fN rk xs a ps b→a+ps.length≤b
 | [],a,b,h=>by have:a=b:=h; simp; lia
 | p::r,a,b,h=>by
  obtain ⟨_,h1,_,h2⟩:=h
  have:=h2.le
  rw [RH]; lia
theorem fN.app:∀ {ps qs:List (Nat×Nat×Nat)} {a b:Nat},fN rk xs a (ps++qs) b↔∃ m,fN rk xs a ps m∧fN rk xs m qs b
 | [],qs,a,b=>⟨fun h=>⟨a,rfl,h⟩,fun ⟨m,h1,h2⟩=>by have:a=m:=h1; subst this; exact h2⟩
 | p::r,qs,a,b=>by
  constructor
  ·rintro ⟨h1,h2,h3,h4⟩
   obtain ⟨m,h5,h6⟩:=fN.app.mp h4
   exact ⟨m,⟨h1,h2,h3,h5⟩,h6⟩
  ·rintro ⟨m,⟨h1,h2,h3,h5⟩,h6⟩
   exact ⟨h1,h2,h3,fN.app.mpr ⟨m,h5,h6⟩⟩
theorem fN.congr:∀ {ps:List (Nat×Nat×Nat)} {a b:Nat},fN rk xs a ps b→(∀ i,a≤i→i<b→R rk ys i=R rk xs i)→fN rk ys a ps b
 | [],a,b,h,_=>h
 | p::r,a,b,h,e=>by
  obtain ⟨h1,h2,h3,h4⟩:=h
  have hl:=h4.le
  refine ⟨h1,h2,fun i j z1 z2 z3=>?_,h4.congr fun i z1 z2=>e i (by lia) z2⟩
  rw [e i z1 (by lia),e j (by lia) (by lia)]
  exact h3 i j z1 z2 z3
theorem fN.mod (f) (hf:∀ p,(f p).1=p.1∧(f p).2.1=p.2.1):∀ {ps:List (Nat×Nat×Nat)} {a b:Nat} (i:Nat),fN rk xs a ps b→fN rk xs a (ps.modify i f) b
 | [],a,b,i,h=>by simpa using h
 | p::r,a,b,0,h=>by
  obtain ⟨h1,h2,h3,h4⟩:=h
  rw [List.modify_zero_cons]
  refine ⟨(hf p).1.trans h1,by rw [(hf p).2]; exact h2,by rw [(hf p).2]; exact h3,by rw [(hf p).2]; exact h4⟩
 | p::r,a,b,i+1,h=>by
  obtain ⟨h1,h2,h3,h4⟩:=h
  rw [List.modify_succ_cons]
  exact ⟨h1,h2,h3,h4.mod f hf i⟩
theorem fN.two:∀ {ps:List (Nat×Nat×Nat)} {a b:Nat} (i:Nat),fN rk xs a ps b→i+1<ps.length→∃ s n pw m pw2,ps[i]?=some (s,n,pw)∧ps[i+1]?=some (s+n,m,pw2)∧1≤n∧1≤m∧a≤s∧s+n+m≤b∧Seg rk xs s (s+n)∧Seg rk xs (s+n) (s+n+m) ∧
 ∀ ys:Array Keyed,(∀ j,j<s∨s+n+m≤j→R rk ys j=R rk xs j)→Seg rk ys s (s+n+m)→fN rk ys a ((ps.set i (s,n+m,pw)).eraseIdx (i+1)) b
 | [],a,b,i,h,hi=>by simp at hi
 | [p],a,b,i,h,hi=>by simp at hi
 | p::q::r,a,b,0,h,hi=>by
  obtain ⟨h1,h2,h3,h4,h5,h6,h7⟩:=h
  obtain ⟨s,n,pw⟩:=p
  obtain ⟨s',m,pw2⟩:=q
  dsimp only at h1 h2 h3 h4 h5 h6 h7
  subst h1; subst h4
  have hl:=h7.le
  refine ⟨s,n,pw,m,pw2,rfl,rfl,h2,h5,QS _,by lia,h3,h6,fun ys e hs=>?_⟩
  refine ⟨rfl,by dsimp only; lia,by dsimp only; rw [← Nat.add_assoc]; exact hs,?_⟩
  dsimp only
  rw [← Nat.add_assoc]
  exact h7.congr fun i z1 z2=>e i (.inr z1)
 | p::q::r,a,b,i+1,h,hi=>by
  obtain ⟨h1,h2,h3,h4⟩:=h
  obtain ⟨s,n,pw,m,pw2,e1,e2,a1,a2,a3,a4,a5,a6,a7⟩:=h4.two i (by simpa using hi)
  refine ⟨s,n,pw,m,pw2,by simpa using e1,by simpa using e2,a1,a2,by lia,a4,a5,a6,fun ys e hs=>?_⟩
  rw [List.set_cons_succ,List.eraseIdx_cons_succ]
  refine ⟨h1,h2,fun j j' z1 z2 z3=>?_,a7 ys e hs⟩
  rw [e j (.inl (by lia)),e j' (.inl (by lia))]
  exact h3 j j' z1 z2 z3
end
section
variable {st:SortSt}
theorem iG (hC:iZ prog w A s κ rk L) (hB:Bs κ L st) (hc:fN rk (arrOf st) 0 (pendingOf st).toList b) (hb:b≤L.length) (hi:i+1<(pendingOf st).size)
 (h:∀ st',Bs κ L st'→fN rk (arrOf st') 0 (pendingOf st').toList b→(∀ j,b≤j→(arrOf st')[j]?=(arrOf st)[j]?)→(pendingOf st').size+1=(pendingOf st).size→Q true st'):wpS (model prog w) A E s (iF i) Q st:=by
 obtain ⟨sa,n,pw,m,pw2,e1,e2,a1,a2,a3,a4,a5,a6,a7⟩:=hc.two i (by rw [RS]; exact hi)
 rw [RN] at e1 e2
 refine sX hC hB e1 e2 a1 a2 (by lia) a5 a6 fun st' b1 b2 b3 b4=>h st' b1 ?_ (fun j hj=>b2 j (.inr (by lia))) ?_
 ·rw [b3,Xk,Array.toList_setIfInBounds]
  exact a7 _ (fun j hj=>cy (b2 j hj)) b4
 ·rw [b3,← RS,Xk,Array.toList_setIfInBounds,List.length_eraseIdx,List.length_set,RS,if_pos hi]; lia
theorem wpS_sortRuns (hC:iZ prog w A s κ rk L) (hB:Bs κ L st) (hp:pendingOf st= #[]) (h:∀ st',Bs κ L st'→Seg rk (arrOf st') 0 L.length→Q () st'):wpS (model prog w) A E s sY Q st:=by
 unfold sY
 walk_at "dl sortRuns"
 dsimp only
 refine QO (Sw ?_)
 have hsz:=hB.size
 rw [hsz]
 obtain ⟨mr,hmr⟩:∃ mr,Nd L.length L.length 0=mr:=⟨_,rfl⟩
 delta Nd at hmr
 rw [hmr]
 refine QO (RA (R1 (I:=fun x c st'=>c.1=none∧Bs κ L st'∧fN rk (arrOf st') 0 (pendingOf st').toList c.2∧c.2≤L.length∧(x≤c.2∨L.length≤c.2)) (Q:=fun c st'=>c.1=none∧Bs κ L st'∧fN rk (arrOf st') 0 (pendingOf st').toList L.length) ?step ?fin ?init) ?post)
 case init=>exact ⟨rfl,hB,by rw [hp]; rfl,Rq _,.inl (QS _)⟩
 case fin =>
  rintro ⟨c,lo⟩ st' ⟨rfl,ko,hC',h1,h2⟩
  dsimp only at hC' h1 h2 ⊢
  have e:lo=L.length:=by
   rcases h2 with z | z
   ·lia
   ·lia
  subst e
  exact ⟨rfl,ko,hC'⟩
 case step =>
  rintro x ⟨c,lo⟩ st' _ hx ⟨rfl,ko,hC',h1,h2⟩
  dsimp only at hC' h1 h2 ⊢
  by_cases hge:lo≥L.length
  ·rw [if_pos hge]
   have e:lo=L.length:=by lia
   subst e
   exact QT ⟨rfl,ko,hC'⟩
  rw [if_neg hge]
  refine QO (show wpS _ _ _ _ (countRun' lo (L.length - lo)) _ _ from wpS_countRun hC ko (by lia) (by lia) fun m st1 hB1 hM1 m1 m2 ms=>?_)
  have hC1:fN rk (arrOf st1) 0 (pendingOf st1).toList lo:=by
   rw [hM1.pend]; exact hC'.congr fun i _ z=>cy (hM1.out i (.inl z))
  dsimp only
  by_cases hmin:m<mr
  ·rw [if_pos (show m<_ from hmin)]
   refine QO (TV (RV ⟨rfl,?_⟩))
   have hf1:m≤min (L.length - lo) mr:=by lia
   have hf2:lo+min (L.length - lo) mr≤L.length:=by lia
   refine QO (show wpS _ _ _ _ (binarySort' lo (min (L.length - lo) mr) m) _ _ from wpS_binarySort hC hB1 hf2 hf1 ms fun st2 hB2 hM2 hS2=>?_)
   have hC2:fN rk (arrOf st2) 0 (pendingOf st2).toList lo:=by
    rw [hM2.pend]; exact hC1.congr fun i _ z=>cy (hM2.out i (.inl z))
   simp only [Ua,RO,if_false]
   generalize hF:min (L.length - lo) mr=F at hf1 hf2 hS2
   have hF':=hF
   clear hM2 hM1
   refine QO (Sw ?_)
   rcases hbk:(pendingOf st2).back? with _ | ⟨q1,q2,q3⟩
   ·dsimp only
    refine QO (SM (QT ⟨rfl,⟨hB2.perm,hB2.kind,hB2.failed⟩,?_,by dsimp only; lia,by dsimp only; lia⟩))
    show fN rk (arrOf st2) 0 ((pendingOf st2).push (lo,F,0)).toList (lo+(F))
    rw [RB]
    exact fN.app.mpr ⟨lo,hC2,rfl,by dsimp only; lia,hS2,rfl⟩
   ·dsimp only
    refine QO (RA (R1 (I:=fun y c st'=>c.1=none∧Bs κ L st'∧fN rk (arrOf st') 0 (pendingOf st').toList lo∧Seg rk (arrOf st') lo (lo+(F))) (Q:=fun c st'=>c.1=none∧Bs κ L st'∧fN rk (arrOf st') 0 (pendingOf st').toList lo∧Seg rk (arrOf st') lo (lo+(F))) ?_ (fun _ _ z=>z) ⟨rfl,hB2,hC2,hS2⟩) ?_)
    ·rintro y ⟨c,u⟩ st3 _ hy ⟨rfl,wz,EE,ED⟩
     refine QO (Sw ?_)
     by_cases hs1:(pendingOf st3).size>1
     ·rw [if_pos hs1]
      obtain ⟨⟨r1,r2,r3⟩,er⟩:∃ t,(pendingOf st3)[(pendingOf st3).size - 2]?=some t:=⟨_,Rm (show (pendingOf st3).size - 2<(pendingOf st3).size by lia)⟩
      rw [er]
      dsimp only
      split
      ·exact QT ⟨rfl,wz,EE,ED⟩
      ·refine QO (show wpS _ _ _ _ (iF ((pendingOf st3).size - 2)) _ _ from iG hC wz EE (by lia) (by lia) fun st4 hB4 hC4 ho4 hz4=>?_)
       simp only [Ua,RO,if_false]
       exact QT ⟨rfl,hB4,hC4,fun a b z1 z2 z3=>by rw [cy (ho4 a z1),cy (ho4 b (by lia))]; exact ED a b z1 z2 z3⟩
     ·rw [if_neg hs1]
      exact QT ⟨rfl,wz,EE,ED⟩
    ·rintro ⟨c,u⟩ st3 ⟨hc,wz,EE,ED⟩
     dsimp only at hc ⊢
     rw [hc]
     dsimp only
     refine QO (SM (QO (SM (QT ⟨rfl,⟨wz.perm,wz.kind,wz.failed⟩,?_,by dsimp only; lia,by dsimp only; lia⟩))))
     show fN rk (arrOf st3) 0 (((pendingOf st3).modify ((pendingOf st3).size - 1) _).push (lo,F,0)).toList (lo+(F))
     rw [RB,Array.toList_modify]
     refine fN.app.mpr ⟨lo,?_,rfl,by dsimp only; lia,ED,rfl⟩
     refine fN.mod _ (fun p=>?_) _ EE
     exact ⟨rfl,rfl⟩
  ·rw [if_neg (show ¬ m<_ from hmin)]
   refine QO (Sw ?_)
   rcases hbk:(pendingOf st1).back? with _ | ⟨q1,q2,q3⟩
   ·dsimp only
    refine QO (SM (QT ⟨rfl,⟨hB1.perm,hB1.kind,hB1.failed⟩,?_,by dsimp only; lia,by dsimp only; lia⟩))
    show fN rk (arrOf st1) 0 ((pendingOf st1).push (lo,m,0)).toList (lo+(m))
    rw [RB]
    exact fN.app.mpr ⟨lo,hC1,rfl,by dsimp only; lia,ms,rfl⟩
   ·dsimp only
    refine QO (RA (R1 (I:=fun y c st'=>c.1=none∧Bs κ L st'∧fN rk (arrOf st') 0 (pendingOf st').toList lo∧Seg rk (arrOf st') lo (lo+(m))) (Q:=fun c st'=>c.1=none∧Bs κ L st'∧fN rk (arrOf st') 0 (pendingOf st').toList lo∧Seg rk (arrOf st') lo (lo+(m))) ?_ (fun _ _ z=>z) ⟨rfl,hB1,hC1,ms⟩) ?_)
    ·rintro y ⟨c,u⟩ st3 _ hy ⟨rfl,wz,EE,ED⟩
     refine QO (Sw ?_)
     by_cases hs1:(pendingOf st3).size>1
     ·rw [if_pos hs1]
      obtain ⟨⟨r1,r2,r3⟩,er⟩:∃ t,(pendingOf st3)[(pendingOf st3).size - 2]?=some t:=⟨_,Rm (show (pendingOf st3).size - 2<(pendingOf st3).size by lia)⟩
      rw [er]
      dsimp only
      split
      ·exact QT ⟨rfl,wz,EE,ED⟩
      ·refine QO (show wpS _ _ _ _ (iF ((pendingOf st3).size - 2)) _ _ from iG hC wz EE (by lia) (by lia) fun st4 hB4 hC4 ho4 hz4=>?_)
       simp only [Ua,RO,if_false]
       exact QT ⟨rfl,hB4,hC4,fun a b z1 z2 z3=>by rw [cy (ho4 a z1),cy (ho4 b (by lia))]; exact ED a b z1 z2 z3⟩
     ·rw [if_neg hs1]
      exact QT ⟨rfl,wz,EE,ED⟩
    ·rintro ⟨c,u⟩ st3 ⟨hc,wz,EE,ED⟩
     dsimp only at hc ⊢
     rw [hc]
     dsimp only
     refine QO (SM (QO (SM (QT ⟨rfl,⟨wz.perm,wz.kind,wz.failed⟩,?_,by dsimp only; lia,by dsimp only; lia⟩))))
     show fN rk (arrOf st3) 0 (((pendingOf st3).modify ((pendingOf st3).size - 1) _).push (lo,m,0)).toList (lo+(m))
     rw [RB,Array.toList_modify]
     refine fN.app.mpr ⟨lo,?_,rfl,by dsimp only; lia,ED,rfl⟩
     refine fN.mod _ (fun p=>?_) _ EE
     exact ⟨rfl,rfl⟩
 case post =>
  rintro ⟨c,lo⟩ st' ⟨hc,ko,hC'⟩
  dsimp only at hc ⊢
  rw [hc]
  dsimp only
  have hl0:=hC'.le
  rw [RS] at hl0
  refine QO (RA (R1 (I:=fun x c st2=>c.1=none∧Bs κ L st2∧fN rk (arrOf st2) 0 (pendingOf st2).toList L.length∧((pendingOf st2).size≤1∨(pendingOf st2).size+x≤L.length)) (Q:=fun c st2=>c.1=none∧Bs κ L st2∧fN rk (arrOf st2) 0 (pendingOf st2).toList L.length∧(pendingOf st2).size≤1) ?mstep ?mfin ⟨rfl,ko,hC',.inr (by lia)⟩) ?mpost)
  case mfin =>
   rintro c2 st2 ⟨a1,a2,a3,a4⟩
   exact ⟨a1,a2,a3,by lia⟩
  case mpost =>
   rintro ⟨c2,u⟩ st2 ⟨a1,a2,a3,a4⟩
   dsimp only at a1 ⊢
   rw [a1]
   refine QT (h st2 a2 ?_)
   rw [← RS] at a4
   match e:(pendingOf st2).toList,a4 with
   | [],_ =>
    rw [e] at a3
    have z:0=L.length:=a3
    intro i j _ _ hj; lia
   | [p],_ =>
    rw [e] at a3
    obtain ⟨b1,b2,b3,b4⟩:=a3
    have z:0+p.2.1=L.length:=b4
    rw [← z]; exact b3
  case mstep =>
   rintro x ⟨c2,u⟩ st2 _ hx ⟨a1,a2,a3,a4⟩
   refine QO (Sw ?_)
   by_cases hs1:(pendingOf st2).size≤1
   ·rw [if_pos hs1]
    exact QT ⟨rfl,a2,a3,hs1⟩
   ·rw [if_neg hs1]
    have key:∀ i,i+1<(pendingOf st2).size→wpS (model prog w) A E s (iF i) (fun r st3=>r=true∧Bs κ L st3∧fN rk (arrOf st3) 0 (pendingOf st3).toList L.length∧(pendingOf st3).size+1=(pendingOf st2).size) st2:=fun i hi =>
     iG hC a2 a3 (QS _) hi fun st3 b1 b2 _ b3=>⟨rfl,b1,b2,b3⟩
    refine QO (RA (show wpS _ _ _ _ (iF _) _ _ from key _ ?_) fun r st3 hr=>?_)
    ·unfold pendingOf at hs1 ⊢
     repeat' split
     all_goals lia
    ·obtain ⟨rfl,b1,b2,b3⟩:=hr
     simp only [Ua,RO,if_false]
     exact QT ⟨rfl,b1,b2,.inr (by lia)⟩
end
end SR
namespace SR
open PySem PyProof.Rows
section
noncomputable def dup (vs:List Value):List Keyed:=vs.map fun v=>(v,v)
theorem xM (vs):(vs.toArray.zip vs.toArray).toList=dup vs:=by
 unfold dup
 rw [Array.toList_zip]
 induction vs with
 | nil=>rfl
 | cons v vs ih=>simpa using ih
noncomputable def Ord (rk:Keyed→Int) (b:Bool) (out:List Value):Prop:=out.Pairwise fun x y=>if b then rk (y,y)≤rk (x,x) else rk (x,x)≤rk (y,y)
theorem sZ {xs:Array Keyed} (h:xs.toList.Perm (dup vs)):(xs.toList.map (·.2)).Perm vs∧∀ p∈xs.toList,p=(p.2,p.2):=by
 refine ⟨?_,fun p hp=>?_⟩
 ·have q:=h.map (·.2)
  have e:(dup vs).map (·.2)=vs:=by
   unfold dup
   rw [Rv]
   exact List.map_id' vs
  rwa [e] at q
 ·have:=h.mem_iff.mp hp
  simp only [dup,Rj] at this
  obtain ⟨v,_,rfl⟩:=this
  rfl
theorem F8 {st:SortSt} (hp:(arrOf st).toList.Perm (dup vs)) (hs:Seg rk (arrOf st) 0 (dup vs).length) (b) :
 ((if b=true then ((arrOf st).map (·.2)).reverse else (arrOf st).map (·.2)).toList).Perm vs∧Ord rk b (if b=true then ((arrOf st).map (·.2)).reverse else (arrOf st).map (·.2)).toList:=by
 obtain ⟨h1,h2⟩:=sZ hp
 have up:((arrOf st).toList.map (·.2)).Pairwise fun x y=>rk (x,x)≤rk (y,y):=by
  rw [UW]
  refine Wf.mpr fun i j hi hj hij=>?_
  have l:=hp.length_eq
  simp only [RS] at hi hj l
  have z:=hs i j (Rq _) (TJ hij) (by lia)
  have ei:(arrOf st)[i]?=some ((arrOf st).toList[i]'(by simpa using hi)):=by simp [hi]
  have ej:(arrOf st)[j]?=some ((arrOf st).toList[j]'(by simpa using hj)):=by simp [hj]
  rw [dX ei,dX ej] at z
  have e1:=h2 _ (RI (show i<(arrOf st).toList.length by simpa using hi))
  have e2:=h2 _ (RI (show j<(arrOf st).toList.length by simpa using hj))
  rw [e1,e2] at z
  exact z
 cases b with
 | false=>simp only [RO,if_false,Xd]; exact ⟨h1,up.imp fun h=>by simpa using h⟩
 | true =>
  simp only [if_true,Uy,Xd]
  refine ⟨(WW _).trans h1,?_⟩
  unfold Ord
  rw [List.pairwise_reverse]
  exact up.imp fun h=>by simpa using h
noncomputable def PY (prog:Program) (w:World) (A:Around) (s:Shared) (a:Addr) (vs:List Value) (κ:SortKind) (rk:Keyed→Int):Prop :=
 ∀ h':Heap,(∀ c o,c≠a→s.heap.get? c=some o→h'.get? c=some o) →
  (∀ (Q:SortKind→Shared→Prop) (E:Value→Shared→Prop),2≤vs.length→Q κ { s with heap:=h' }→wpAny (model prog w) A (keyKind' vs.toArray) Q E { s with heap:=h' })∧iZ prog w A { s with heap:=h' } κ rk (dup vs)
theorem zc (ho:s.heap.get? a=some (seqObj "list" vs.toArray n)) (hk:PY prog w A s a vs κ rk) (hz:vs.length≤sizeLine)
 (h:∀ out:Array Value,out.toList.Perm vs→Ord rk b out.toList→P (.done (.ret .none)) { s with heap:=sortedHeap s.heap a vs out }) :
 wpAny (model prog w) A (Builtin.«list.sort» ⟨[.ref a],[(QK "reverse",.bool b)]⟩) P E s:=by
 rw [list_sort_rev]
 have lta:a<s.heap.objs.size:=QX ho
 refine QL (Ub ho rfl (QL (Su ho rfl ?_ (by simpa using hz))))
 obtain ⟨e1,ho1⟩:∃ e1,(s.heap.update a (Rw fun _=> #[])).get? a=some (seqObj "list" #[] e1):=⟨_,VP ho (fun _=> #[])⟩
 have oth:∀ c o,c≠a→s.heap.get? c=some o→(s.heap.update a (Rw fun _=> #[])).get? c=some o:=fun c o hc q=>by rw [S9 _ _ _ _ hc]; exact q
 have sz1:(s.heap.update a (Rw fun _=> #[])).objs.size=s.heap.objs.size:=Xb ..
 refine QL (UH ho1 rfl (QL (VU ?_ (by simpa using hz))))
 refine QL (V2 (Sf ?_))
 show wpAny (model prog w) A _ P E { s with heap:=((s.heap.update a (Rw fun _=> #[])).push (seqObj "tuple" vs.toArray 0)).push (seqObj "list" #[] 0) }
 have ho6:(((s.heap.update a (Rw fun _=> #[])).push (seqObj "tuple" vs.toArray 0)).push (seqObj "list" #[] 0)).get? a=some (seqObj "list" #[] e1):=QV _ (QV _ ho1)
 obtain ⟨hkk,hC⟩:=hk (((s.heap.update a (Rw fun _=> #[])).push (seqObj "tuple" vs.toArray 0)).push (seqObj "list" #[] 0)) fun c o hc q=>QV _ (QV _ (oth c o hc q))
 have fin:∀ st':SortSt,(arrOf st').toList.Perm (dup vs)→Seg rk (arrOf st') 0 (dup vs).length →
  P (.done (.ret .none)) { s with heap:=sortedHeap s.heap a vs (if b then ((arrOf st').map (·.2)).reverse else (arrOf st').map (·.2)) }:=fun st' hp hs =>
  let ⟨q1,q2⟩:=F8 hp hs b; h _ q1 q2
 have hstart:(if b=true then (vs.toArray.zip vs.toArray).reverse else vs.toArray.zip vs.toArray).toList.Perm (dup vs):=by
  cases b with
  | false=>rw [if_neg QZ,xM]
  | true=>rw [if_pos rfl,Uy,xM]; exact WW _
 dsimp only
 have told:∀ t:Sem Fin,wpAny (model prog w) A t P E { s with heap:=((s.heap.update a (Rw fun _=> #[])).push (seqObj "tuple" vs.toArray 0)).push (seqObj "list" #[] 0) } →
  wpAny (model prog w) A (if b=true then (do let _ ← rule "list.sort.reverse"; t) else t) P E { s with heap:=((s.heap.update a (Rw fun _=> #[])).push (seqObj "tuple" vs.toArray 0)).push (seqObj "list" #[] 0) }:=fun t ht=>by
  split
  ·exact QL (RV ht)
  ·exact ht
 refine told _ ?_
 have hlen:∀ {xs:Array Keyed},xs.toList.Perm (dup vs)→(if b=true then (Array.map (fun x=>x.snd) xs).reverse else Array.map (fun x=>x.snd) xs).size≤sizeLine+1:=fun {xs} hp=>by
  have l:=hp.length_eq
  simp only [RS,dup,QU] at l
  split
  ·rw [Array.size_reverse,Array.size_map]; lia
  ·rw [Array.size_map]; lia
 by_cases h2:vs.toArray.size<2
 ·rw [if_pos h2,if_pos h2]
  refine QL (QN ?_)
  rw [StateT.run_pure]
  refine QL (QN ?_)
  dsimp only
  refine QL (UH ho6 rfl (QL (Su ho6 rfl ?_ (hsz2:=hlen hstart))))
  simp only [bne_self_eq_false,RO,if_false]
  refine QN (fin (TQ general' (if b=true then (vs.toArray.zip vs.toArray).reverse else vs.toArray.zip vs.toArray) #[] 7 none) hstart ?_)
  intro i j _ hij hj
  have hl:(dup vs).length<2:=by simpa [dup] using h2
  have:i=j:=by lia
  subst this; exact Sg _
 ·rw [if_neg h2,if_neg h2]
  refine QL (hkk _ _ (by simpa using h2) ?_)
  refine QL (RE (wpS_sortRuns (κ:=κ) (rk:=rk) (L:=dup vs) (st:=TQ κ (if b=true then (vs.toArray.zip vs.toArray).reverse else vs.toArray.zip vs.toArray) #[] 7 none)
   (Q:=fun _ st'=>(arrOf st').toList.Perm (dup vs)∧failedOf st'=none∧Seg rk (arrOf st') 0 (dup vs).length) hC ⟨hstart,rfl,rfl⟩ rfl fun st' a1 a2=>⟨a1.perm,a1.failed,a2⟩) ?_ fun _ _ e=>e)
  rintro ⟨⟨⟩,st'⟩ s' ⟨rfl,hp,hf,hs⟩
  dsimp only
  refine QL (UH ho6 rfl (QL (Su ho6 rfl ?_ (hsz2:=hlen hp))))
  rw [hf]
  simp only [bne_self_eq_false,RO,if_false]
  exact QN (fin st' hp hs)
end
section
variable {α:Type} {lt:α→α→Bool} {L:List α}
theorem filter_le:∀ {l:List α},(∀ z∈l,p z=true→q z=true)→(l.filter p).length≤(l.filter q).length
 | [],_=>QS _
 | x::l,h=>by
  have ih:=filter_le (l:=l) fun z hz=>h z (Q9 _ hz)
  have hx:=h x Q6
  cases e:p x with
  | false =>
   rw [UN (by simp [e])]
   by_cases e2:q x=true
   ·rw [Th e2]; exact Nat.le_succ_of_le ih
   ·rw [UN e2]; exact ih
  | true =>
   rw [Th e,Th (hx e)]
   exact VL ih
theorem filter_lt:∀ {l:List α},(∀ z∈l,p z=true→q z=true)→(∃ z∈l,q z=true∧p z=false)→(l.filter p).length<(l.filter q).length
 | [],_,h=>by obtain ⟨z,h,_⟩:=h; cases h
 | x::l,h,g=>by
  have h':∀ z∈l,p z=true→q z=true:=fun z hz=>h z (Q9 _ hz)
  have hx:=h x Q6
  by_cases e:p x=true
  ·rw [Th e,Th (hx e)]
   obtain ⟨z,hz,z1,z2⟩:=g
   rcases Q0.mp hz with rfl | hz
   ·rw [e] at z2; cases z2
   ·exact Nat.succ_lt_succ (filter_lt h' ⟨z,hz,z1,z2⟩)
  ·rw [UN e]
   by_cases e2:q x=true
   ·rw [Th e2]; exact Nat.lt_succ_of_le (filter_le h')
   ·rw [UN e2]
    obtain ⟨z,hz,z1,z2⟩:=g
    rcases Q0.mp hz with rfl | hz
    ·exact absurd z1 e2
    ·exact filter_lt h' ⟨z,hz,z1,z2⟩
structure LO (lt:α→α→Bool) (L:List α):Prop where
 irr:∀ x∈L,lt x x=false
 tr:∀ x∈L,∀ y∈L,∀ z∈L,lt x y=true→lt y z=true→lt x z=true
 tot:∀ x∈L,∀ y∈L,x≠y→lt x y=true∨lt y x=true
noncomputable def rank (lt:α→α→Bool) (L:List α) (x:α):Int:=((L.filter fun z=>lt z x).length:Int)
theorem lz (h:LO lt L) (hx:x∈L) (hy:y∈L) (e:lt x y=true):rank lt L x<rank lt L y:=by
 have q:=filter_lt (l:=L) (p:=fun z=>lt z x) (q:=fun z=>lt z y) (fun z hz hzx=>h.tr z hz x hx y hy hzx e) ⟨x,hx,e,h.irr x hx⟩
 unfold rank; lia
theorem F9 (h:LO lt L) (hx:x∈L) (hy:y∈L):decide (rank lt L x<rank lt L y)=lt x y:=by
 classical
 cases e:lt x y with
 | true=>exact decide_eq_true (lz h hx hy e)
 | false =>
  refine decide_eq_false fun z=>?_
  by_cases w:x=y
  ·subst w; exact absurd z (Int.lt_irrefl _)
  ·rcases h.tot x hx y hy w with q | q
   ·rw [e] at q; cases q
   ·have:=lz h hy hx q; lia
theorem gB (hp:n.Perm m):∀ {l:List α},Paired S l m→∃ l',l'.Perm l∧Paired S l' n:=by
 induction hp with
 | nil=>intro l h; exact ⟨l,.refl _,h⟩
 | cons x _ ih =>
  intro l h
  cases h with
  | cons r t=>obtain ⟨l',h1,h2⟩:=ih t; exact ⟨_::l',h1.cons _,.cons r h2⟩
 | swap x y l' =>
  intro l h
  cases h with
  | cons r t=>cases t with | cons r2 t2=>exact ⟨_,.swap _ _ _,.cons r2 (.cons r t2)⟩
 | trans _ _ ih1 ih2 =>
  intro l h
  obtain ⟨l1,h1,h2⟩:=ih2 h
  obtain ⟨l2,h3,h4⟩:=ih1 h2
  exact ⟨l2,h3.trans h1,h4⟩
theorem iH (h:Paired S l m):∀ u∈m,∃ x∈l,S x u:=by
 induction h with
 | nil=>intro u hu; cases hu
 | cons r t ih =>
  intro u hu
  rcases Q0.mp hu with rfl | hu
  ·exact ⟨_,Q6,r⟩
  ·obtain ⟨x,h1,h2⟩:=ih u hu; exact ⟨x,Q9 _ h1,h2⟩
open Classical in
noncomputable def Cd {β:Type} (S:α→Value→Prop) (lt:α→α→Bool) (L:List α) (p:Value×β):Int:=if h:∃ x,x∈L∧S x p.1 then rank lt L h.choose else 0
theorem lB (inj:∀ x y u,S x u→S y u→x=y) (hx:x∈L) (h:S x p.1):Cd S lt L p=rank lt L x:=by
 have e:∃ x,x∈L∧S x p.1:=⟨x,hx,h⟩
 unfold Cd
 rw [dif_pos e,inj _ _ _ e.choose_spec.2 h]
theorem Ce (inj:∀ x y u,S x u→S y u→x=y) (h:LO lt L) (nd:L.Nodup) (hL:Paired S L us) (hp:out.Perm us) (ho:Ord (Cd S lt L) b out) :
 ∃ L',L'.Perm L∧L'.Pairwise (fun x y=>if b then lt y x=true else lt x y=true)∧Paired S L' out:=by
 obtain ⟨L',h1,h2⟩:=gB hp hL
 refine ⟨L',h1,?_,h2⟩
 have hm:∀ x∈L',x∈L:=fun x hx=>h1.mem_iff.mp hx
 have nd':L'.Nodup:=h1.nodup_iff.mpr nd
 clear h1 hp hL nd
 unfold Ord at ho
 induction h2 with
 | nil=>exact .nil
 | @cons x u xs us r t ih =>
  obtain ⟨q1,q2⟩:=Uz.mp ho
  obtain ⟨n1,n2⟩:=Sm.mp nd'
  refine .cons (fun y hy=>?_) (ih q2 (fun z hz=>hm z (Q9 _ hz)) n2)
  have hx:=hm x Q6
  have hyL:=hm y (Q9 _ hy)
  obtain ⟨v,hv,sv⟩:∃ v∈us,S y v:=by
   clear ih ho q1 q2 n1 n2 hm nd'
   induction t with
   | nil=>cases hy
   | cons r t ih2 =>
    rcases Q0.mp hy with rfl | hy
    ·exact ⟨_,Q6,r⟩
    ·obtain ⟨v,h1,h2⟩:=ih2 hy; exact ⟨v,Q9 _ h1,h2⟩
  have q:=q1 v hv
  rw [lB inj hx (p:=(u,u)) r,lB inj hyL (p:=(v,v)) sv] at q
  have ne:x≠y:=fun z=>n1 (z ▸ hy)
  cases b with
  | true =>
   simp only [if_true] at q ⊢
   rcases h.tot x hx y hyL ne with w | w
   ·have:=lz h hx hyL w; lia
   ·exact w
  | false =>
   simp only [RO,if_false] at q ⊢
   rcases h.tot x hx y hyL ne with w | w
   ·exact w
   ·have:=lz h hyL hx w; lia
end
section
theorem Kp (inj:∀ x y u,S x u→S y u→x=y) (h:LO lt L) (hL:Paired S L us)
 (hk:∀ x∈L,∀ y∈L,∀ u v,S x u→S y v→∀ (E:Value→Shared→Prop) (Q:Bool→Shared→Prop),Q (lt x y) s→wpAny (model prog w) A (keyLt' κ u v) Q E s):iZ prog w A s κ (Cd S lt L) (dup us):=by
 intro p hp q hq E Q hQ
 simp only [dup,Rj] at hp hq
 obtain ⟨u,hu,rfl⟩:=hp
 obtain ⟨v,hv,rfl⟩:=hq
 obtain ⟨x,hx,sx⟩:=iH hL u hu
 obtain ⟨y,hy,sy⟩:=iH hL v hv
 refine hk x hx y hy u v sx sy E Q ?_
 rw [lB inj hx (p:=(u,u)) sx,lB inj hy (p:=(v,v)) sy,F9 h hx hy] at hQ
 exact hQ
end
end SR
namespace SR
open PySem PySem.Calls PyProof.Rows L2 EV
theorem oh (a):Builtin.«list.sort» ⟨[.ref a],[(QK "key",.builtin "len")]⟩=(do
 let items ← TZ (.ref a)
 Ti (.ref a) fun _=> #[]
 let before ← seqEpoch a
 let held ← newTuple items.toList
 let keyStore ← newList []
 holding [held,keyStore] do
  rule "list.sort.key"
  for x in items do
   match ← (call (.builtin "len") [x]).attempt with
   | .ok k=>Ti keyStore (·.push k)
   | .error e =>
    rule "list.sort.key-raised"
    let made ← TZ keyStore
    Ti keyStore fun _=> #[]
    letGo made.toList.reverse [e]
    Ti (.ref a) fun _=>items; throw e
  let keys ← TZ keyStore
  let kind ← if items.size<2 then pure general' else keyKind' keys
  let ((),s) ← (if items.size<2 then pure () else sortRuns').run (TQ kind (keys.zip items) #[] 7 none)
  Ti keyStore fun _=> #[]
  letGo ((arrOf s).map (·.1)).toList (failedOf s).toList
  let touched:=(← seqEpoch a) != before
  Ti (.ref a) fun _=>(arrOf s).map (·.2)
  if let some e:=failedOf s then rule "list.sort.comparison-raised"; throw e
  if touched then rule "list.sort.modified"; raiseError "ValueError" "list modified during sort"
  ret .none):=by
 rfl
theorem iI (a v):argsOk "list.sort" ⟨[a],[(QK "key",v)]⟩:=by unfold argsOk; kernel_rfl
theorem kK (a v):argsOk "sorted" ⟨[a],[(QK "key",v)]⟩:=by unfold argsOk; kernel_rfl
section
variable {prog:Program} {w:World} {A:Around} {E:Value→Shared→Prop} {s:Shared}
noncomputable def intOf (p:Keyed):Int:=match p.1 with | .int m _=>m | _=>0
theorem xN:∀ {ks vs:List Value},ks.length=vs.length→(ks.zip vs).map (·.2)=vs
 | [],[],_=>rfl
 | k::ks,v::vs,h=>by rw [WI,QW,xN (by simpa using h)]
 | [],_::_,h=>by simp at h
 | _::_,[],h=>by simp at h
theorem xO (h:IntsAre ks ms) (hp:p∈ks.zip vs):∃ m t,p.1=.int m t:=by
 obtain ⟨k,v⟩:=p
 exact h.all k (VQ hp).1
theorem Cf (ho:s.heap.get? a=some (seqObj "list" vs.toArray n)) (hz:vs.length≤sizeLine)
 (hv:∀ v∈vs,∃ (l:Addr) (items:Array Value),v=.ref l∧l≠a∧s.heap.IsList l items∧items.size≤sizeLine)
 (h:∀ (out:Array Value) (h':Heap) (tk e:Nat),out.toList.Perm vs→h'.get? a=some (seqObj "list" out e)→(∀ c o,c≠a→s.heap.get? c=some o→h'.get? c=some o)→P (.done (.ret .none)) { s with heap:=h',toks:=tk }) :
 wpAny (model prog w) A (Builtin.«list.sort» ⟨[.ref a],[(QK "key",.builtin "len")]⟩) P E s:=by
 rw [oh]
 have lta:a<s.heap.objs.size:=QX ho
 refine QL (Ub ho rfl (QL (Su ho rfl ?_ (by simpa using hz))))
 obtain ⟨e1,ho1⟩:∃ e1,(s.heap.update a (Rw fun _=> #[])).get? a=some (seqObj "list" #[] e1):=⟨_,VP ho (fun _=> #[])⟩
 have oth:∀ c o,c≠a→s.heap.get? c=some o→(s.heap.update a (Rw fun _=> #[])).get? c=some o:=fun c o hc q=>by rw [S9 _ _ _ _ hc]; exact q
 refine QL (UH ho1 rfl (QL (VU ?_ (by simpa using hz))))
 refine QL (V2 (Sf ?_))
 generalize hkS:((s.heap.update a (Rw fun _=> #[])).push (seqObj "tuple" vs.toArray 0)).objs.size=kS
 have hks:(((s.heap.update a (Rw fun _=> #[])).push (seqObj "tuple" vs.toArray 0)).push (seqObj "list" #[] 0)).get? kS=some (seqObj "list" #[] 0):=by rw [← hkS]; exact Q5 _ rfl
 have kne:∀ c,c<s.heap.objs.size→c≠kS:=fun c hc e=>by
  rw [← hkS,size_push',Xb] at e; lia
 have k1:∀ c o,c≠a→s.heap.get? c=some o→(((s.heap.update a (Rw fun _=> #[])).push (seqObj "tuple" vs.toArray 0)).push (seqObj "list" #[] 0)).get? c=some o:=fun c o hc q=>QV _ (QV _ (oth c o hc q))
 have ho6:(((s.heap.update a (Rw fun _=> #[])).push (seqObj "tuple" vs.toArray 0)).push (seqObj "list" #[] 0)).get? a=some (seqObj "list" #[] e1):=QV _ (QV _ ho1)
 dsimp only
 generalize (((s.heap.update a (Rw fun _=> #[])).push (seqObj "tuple" vs.toArray 0)).push (seqObj "list" #[] 0))=h1 at hks k1 ho6 ⊢
 have hak:a≠kS:=kne a lta
 refine QL (RV ?_)
 refine QL (RE (wpAny_forIn_array' _ (fun rest _ s'=>∃ (dn:List Value) (ks:List Value) (ms:List Int) (hh:Heap) (tk e:Nat),vs=dn++rest∧s'={ s with heap:=hh,toks:=tk }∧IntsAre ks ms∧ks.length=dn.length∧hh.get? kS=some (seqObj "list" ks.toArray e)∧∀ c o,c≠kS→h1.get? c=some o→hh.get? c=some o)
  (fun _ s'=>∃ (ks:List Value) (ms:List Int) (hh:Heap) (tk e:Nat),s'={ s with heap:=hh,toks:=tk }∧IntsAre ks ms∧ks.length=vs.length∧hh.get? kS=some (seqObj "list" ks.toArray e)∧∀ c o,c≠kS→h1.get? c=some o→hh.get? c=some o) ?turn ?fin _ _ ?beg) ?rest fun _ _ e=>e)
 case beg=>exact ⟨[],[],[],h1,_,0,rfl,rfl,.nil,rfl,hks,fun _ _ _ q=>q⟩
 case fin =>
  rintro _ s' ⟨dn,ks,ms,hh,tk,e,e1,e2,e3,e4,e5,e6⟩
  rw [Ru] at e1
  exact ⟨ks,ms,hh,tk,e,e2,e3,by rw [e4,e1],e5,e6⟩
 case turn =>
  rintro v rest _ s' ⟨dn,ks,ms,hh,tk,e,ev,rfl,e3,e4,e5,e6⟩
  obtain ⟨l,items,rfl,hla,hli,hsz⟩:=hv v (by rw [ev]; simp)
  obtain ⟨o,q1,q2,q3⟩:=hli
  have hl':hh.IsList l items:=⟨o,e6 l o (kne l (QX q1)) (k1 l o hla q1),q2,q3⟩
  refine QL (Tw (call_len_list hl' (by have:=qf; lia) ?_))
  dsimp only
  have hkl:ks.length≤sizeLine:=by rw [e4]; have:=congrArg UI ev; simp at this; lia
  refine QL (Su e5 rfl ?_ (by simpa using hkl) (by simp; lia))
  refine QN ⟨dn++[.ref l],ks++[.int items.size (tk+1)],ms++[(items.size:Int)],_,_,e+1,by rw [ev]; simp,rfl,e3.append (.cons _ _ .nil),by simp [e4],?_,fun c o hc q=>?_⟩
  ·have:=VP e5 (fun a=>a.push (.int items.size (tk+1)))
   simpa using this
  ·rw [S9 _ _ _ _ hc]; exact e6 c o hc q
 case rest =>
  rintro _ s' ⟨ks,ms,hh,tk,e,rfl,e3,e4,e5,e6⟩
  refine QL (Ub e5 rfl ?_)
  have zl:(ks.toArray.zip vs.toArray).toList=ks.zip vs:=by rw [Array.toList_zip]
  have hoa:=e6 a _ hak ho6
  have pl:∀ {st':SortSt},(arrOf st').toList.Perm (ks.zip vs)→((arrOf st').map (·.2)).toList.Perm vs:=fun {st'} hp=>by
   rw [Xd]
   have:=hp.map (·.2)
   rwa [xN e4] at this
  have ho7:(hh.update kS (Rw fun _=>(#[]:Array Value))).get? a=some (seqObj "list" #[] e1):=by rw [S9 _ _ _ _ hak]; exact hoa
  have fin:∀ (out:Array Value),out.toList.Perm vs→P (.done (.ret .none)) { s with heap:=(hh.update kS (Rw fun _=>(#[]:Array Value))).update a (Rw fun _=>out),toks:=tk }:=fun out hp =>
   h out _ _ _ hp (VP ho7 (fun _=>out)) fun c o hc q=>by
    have lc:=QX q
    rw [S9 _ _ _ _ hc,S9 _ _ _ _ (kne c lc)]
    exact e6 c o (kne c lc) (k1 c o hc q)
  have hkz:(ks.toArray:Array Value).size≤sizeLine:=by rw [Rb,e4]; exact hz
  have oz:∀ {out:Array Value},out.toList.Perm vs→out.size≤sizeLine+1:=fun {out} hp=>by
   have l:=hp.length_eq
   rw [RS] at l; lia
  by_cases h2:vs.toArray.size<2
  ·rw [if_pos h2,if_pos h2]
   refine QL (QN ?_)
   rw [StateT.run_pure]
   refine QL (QN ?_)
   dsimp only
   have p0:=pl (st':=TQ general' (ks.toArray.zip vs.toArray) #[] 7 none) (by show (ks.toArray.zip vs.toArray).toList.Perm _; rw [zl])
   refine QL (Su e5 rfl ?_ hkz)
   refine QL (Ue ?_)
   refine QL (UH ho7 rfl (QL (Su ho7 rfl ?_ (hsz2:=oz p0))))
   simp only [bne_self_eq_false,RO,if_false]
   exact QN (fin _ p0)
  ·rw [if_neg h2,if_neg h2]
   rw [ksk_kind (kz:=ms) e3 (by rw [Rb,e4]; simpa using h2)]
   refine QL (QN ?_)
   have hC:iZ prog w A { s with heap:=hh,toks:=tk } oneType' intOf (ks.zip vs):=fun x hx y hy E Q hQ=>by
    obtain ⟨m,t,ex⟩:=xO e3 hx
    obtain ⟨m',t',ey⟩:=xO e3 hy
    unfold intOf at hQ
    rw [ex,ey] at hQ ⊢
    rw [keyLt'_oneType]
    exact oneLt_int hQ
   refine QL (RE (wpS_sortRuns (κ:=oneType') (rk:=intOf) (L:=ks.zip vs) (st:=TQ oneType' (ks.toArray.zip vs.toArray) #[] 7 none)
    (Q:=fun _ st'=>(arrOf st').toList.Perm (ks.zip vs)∧failedOf st'=none) hC ⟨(by show (ks.toArray.zip vs.toArray).toList.Perm _; rw [zl]),rfl,rfl⟩ rfl fun st' a1 a2=>⟨a1.perm,a1.failed⟩) ?_ fun _ _ e=>e)
   rintro ⟨⟨⟩,st'⟩ s' ⟨rfl,hp,hf⟩
   dsimp only
   refine QL (Su e5 rfl ?_ hkz)
   refine QL (Ue ?_)
   refine QL (UH ho7 rfl (QL (Su ho7 rfl ?_ (hsz2:=oz (pl hp)))))
   rw [hf]
   simp only [bne_self_eq_false,RO,if_false]
   exact QN (fin _ (pl hp))
end
end SR
namespace EV
open PySem PySem.Spec PySem.Calls PyProof.Rows L2
theorem zd (b) (x y):keyLt' (tuples' b) x y=(do
 let xs ← TZ x
 let ys ← TZ y
 for ((p,q),i) in (xs.toList.zip ys.toList).zipIdx do
  if !(← eqBool p q) then return ← oneLt' (b && i == 0) p q
 return decide (xs.size<ys.size)):=rfl
theorem xP:∀ l:List Int,HT.lexLt l l=false
 | []=>rfl
 | x::l=>by rw [HT.cZ,if_pos rfl]; exact xP l
theorem Cg:∀ {a b c:List Int},HT.lexLt a b=true→HT.lexLt b c=true→HT.lexLt a c=true
 | [],[],_,h,_=>by cases h
 | [],_::_,[],_,h=>by cases h
 | [],_::_,_::_,_,_=>rfl
 | _::_,[],_,h,_=>by cases h
 | _::_,_::_,[],_,h=>by cases h
 | x::a,y::b,z::c,h,g=>by
  rw [HT.cZ] at h g ⊢
  by_cases e:x=y
  ·subst e
   rw [if_pos rfl] at h
   by_cases f:x=z
   ·subst f; rw [if_pos rfl] at g ⊢; exact Cg h g
   ·rw [if_neg f] at g ⊢; exact g
  ·rw [if_neg e] at h
   have h:=of_decide_eq_true h
   by_cases f:y=z
   ·subst f; rw [if_neg e]; exact decide_eq_true h
   ·rw [if_neg f] at g
    have g:=of_decide_eq_true g
    rw [if_neg (by lia)]; exact decide_eq_true (by lia)
theorem qH:∀ {a b:List Int},a≠b→HT.lexLt a b=true∨HT.lexLt b a=true
 | [],[],h=>absurd rfl h
 | [],_::_,_=>.inl rfl
 | _::_,[],_=>.inr rfl
 | x::a,y::b,h=>by
  rw [HT.cZ,HT.cZ]
  by_cases e:x=y
  ·subst e
   rw [if_pos rfl,if_pos rfl]
   exact qH fun z=>h (by rw [z])
  ·rw [if_neg e,if_neg (Rf e)]
   rcases Int.lt_or_gt_of_ne e with z | z
   ·exact .inl (decide_eq_true z)
   ·exact .inr (decide_eq_true z)
noncomputable abbrev aL:=List Int×Int
noncomputable def cU (x y:aL):Bool:=if x.1=y.1 then decide (x.2<y.2) else HT.lexLt x.1 y.1
theorem lC (L:List aL):SR.LO cU L where
 irr:=fun x _=>by unfold cU; rw [if_pos rfl]; exact decide_eq_false (Int.lt_irrefl _)
 tr:=fun x _ y _ z _ h g=>by
  unfold cU at *
  by_cases e:x.1=y.1
  ·rw [if_pos e] at h
   by_cases f:y.1=z.1
   ·rw [if_pos f] at g; rw [if_pos (e.trans f)]
    exact decide_eq_true (Int.lt_trans (of_decide_eq_true h) (of_decide_eq_true g))
   ·rw [if_neg f] at g; rw [if_neg (fun w=>f (e.symm.trans w)),e]; exact g
  ·rw [if_neg e] at h
   by_cases f:y.1=z.1
   ·rw [if_neg (fun w=>e (w.trans f.symm)),← f]; exact h
   ·rw [if_neg f] at g
    have q:=Cg h g
    rw [if_neg fun w=>by rw [w,xP] at q; cases q]; exact q
 tot:=fun x _ y _ h=>by
  unfold cU
  by_cases e:x.1=y.1
  ·rw [if_pos e,if_pos e.symm]
   have:x.2≠y.2:=fun z=>h (Prod.ext e z)
   rcases Int.lt_or_gt_of_ne this with z | z
   ·exact .inl (decide_eq_true z)
   ·exact .inr (decide_eq_true z)
  ·rw [if_neg e,if_neg (Rf e)]
   exact qH e
noncomputable abbrev au (t:aL):D:=.tup [.tup (t.1.map .int),.int t.2]
section
variable {X:Cx}
noncomputable def qI (K:QM) (Hf:Hp) (d:D) (u:Value):Prop:=∃ v,RelV v u∧Rep K Hf d v
theorem tw (l m:List Int):k9 1 (.tup (l.map .int)) (.tup (m.map .int)):=.tup fun i d e h1 h2=>by
 simp only [Q3,Q7] at h1 h2
 obtain ⟨x,_,rfl⟩:=h1
 obtain ⟨y,_,rfl⟩:=h2
 exact .sc rfl
theorem Ga (x y):k9 2 (au x) (au y):=.tup fun i d e h1 h2=>by
 rcases i with _ | _ | i
 ·simp at h1 h2; subst h1 h2; exact tw _ _
 ·simp at h1 h2; subst h1 h2; exact .sc rfl
 ·simp at h1
theorem Ci (h:au x=au y):x=y:=by
 simp only [D.tup.injEq,List.cons.injEq,D.int.injEq,and_true] at h
 have e:x.1=y.1:=by
  exact (List.map_inj_right (f:=D.int) (fun a b e=>by injection e)).mp h.1
 exact Prod.ext e h.2
theorem jn:∀ {l:List Int} {ys:List V},ak X.K Hf (l.map D.int) ys→ys=l.map V.int
 | [],ys,h=>aA.mp h
 | n::l,ys,h=>by
  obtain ⟨y,r,rfl,z1,z2⟩:=aE.mp h
  rw [av] at z1; subst z1
  rw [jn z2]; rfl
theorem Gb (I:Inv X aa σ H s) (sb:aM Hf H) (h1:qI X.K Hf (au x) u) (h2:qI X.K Hf (au y) u):x=y:=by
 obtain ⟨v,r1,q1⟩:=h1
 obtain ⟨v',r2,q2⟩:=h2
 have:=r1.inj r2
 subst this
 exact Ci (qt I sb 2 _ _ _ (Ga x y) q1 q2)
theorem qJ (I:Inv X aa σ H s) (sb:aM Hf H) (h:qI X.K Hf (au x) u):∃ a b its t,u=.ref a∧IsTup s.heap a #[.ref b,.int x.2 t]∧IsTup s.heap b its∧IntsAre its.toList x.1∧qI X.K Hf (.tup (x.1.map .int)) (.ref b):=by
 obtain ⟨v,rv,q⟩:=h
 obtain ⟨a,xs,rfl,h1,h2⟩:=aJ.mp q
 cases rv
 obtain ⟨p,r,rfl,q1,q2⟩:=aE.mp h2
 obtain ⟨p2,r2,rfl,q3,q4⟩:=aE.mp q2
 rw [aA] at q4; subst q4
 rw [av] at q3; subst q3
 obtain ⟨its,rel,tu,_⟩:=I.tuple (az sb h1)
 cases rel with
 | cons r1 t1=>cases t1 with
  | cons r2 t2 =>
   cases t2
   obtain ⟨t,rfl⟩:=r2
   obtain ⟨b,ys,rfl,h3,h4⟩:=aJ.mp q1
   cases r1
   obtain ⟨its2,rel2,tu2,_⟩:=I.tuple (az sb h3)
   refine ⟨a,b,its2.toArray,t,rfl,tu,tu2,?_,.ref b,rfl,aJ.mpr ⟨b,ys,rfl,h3,h4⟩⟩
   have e:=jn h4
   subst e
   exact intsAre_of rel2
theorem iJ:∀ (l:List α) (r:List β) {Q:List β→Shared→Prop},Paired (fun a b=>∀ (Q:β→Shared→Prop),Q b s→wpAny M A (f a) Q E s) l r→Q r s→wpAny M A (l.mapM f) Q E s
 | _,_,Q,.nil,h=>by rw [List.mapM_nil]; exact QN h
 | _,_,Q,.cons q t,h=>by
  rw [List.mapM_cons]
  exact QL (q _ (QL (iJ _ _ t (QN h))))
theorem Cj (I:Inv X aa σ H s) (sb:aM Hf H) (h:Paired (fun x u=>qI X.K Hf (au x) u) L us) (h2:2≤us.length) (hQ:Q (tuples' false) s):wpAny (model X.prog X.w) A (keyKind' us.toArray) Q E s:=by
 have key:∃ fs:List Value,fs.length=us.length∧(∀ f∈fs,s.TypeIs f "tuple")∧Paired (fun u o=>∀ (Q:Option Value→Shared→Prop),Q o s→wpAny (model X.prog X.w) A (firstOfTuple' u) Q E s) us (fs.map some):=by
  clear h2 hQ
  induction h with
  | nil=>exact ⟨[],rfl,by simp,.nil⟩
  | @cons x u L us r t ih =>
   obtain ⟨fs,e1,e2,e3⟩:=ih
   obtain ⟨a,b,its,tk,rfl,t1,t2,_⟩:=qJ I sb r
   refine ⟨.ref b::fs,by simp [e1],fun f hf=>?_,.cons (fun Q hQ=>?_) e3⟩
   ·rcases Q0.mp hf with rfl | hf
    ·obtain ⟨o,ho,hc,_⟩:=t2; exact ⟨o,ho,hc⟩
    ·exact e2 f hf
   ·obtain ⟨o,ho,hc,n,hd⟩:=t1
    show wpAny _ _ (do
     if (← typeOf (.ref a)) != .type "tuple" then return none
     return (← TZ (.ref a))[0]?) _ _ _
    refine QL (Tz (T:="tuple") ⟨o,ho,hc⟩ ?_)
    rw [if_neg (by simp)]
    exact QL (Ub ho hd (QN hQ))
 obtain ⟨fs,e1,e2,e3⟩:=key
 rw [keyKind'_eq,List.mapM_toArray]
 simp only [bind_map_left]
 refine QL (iJ _ _ e3 ?_)
 rw [if_pos (by simp)]
 refine QL (RV ?_)
 have e4:(List.map some fs).toArray.filterMap id=fs.toArray:=by simp
 rw [e4,oneTypeOnly'_eq,List.mapM_toArray]
 simp only [bind_map_left]
 have e5:Paired (fun u o=>∀ (Q:Value→Shared→Prop),Q o s→wpAny (model X.prog X.w) A (typeOf u) Q E s) fs (fs.map fun _=>R6 "tuple"):=by
  clear e1 e3 e4
  induction fs with
  | nil=>exact .nil
  | cons f fs ih=>exact .cons (fun Q hQ=>Tz (e2 f Q6) hQ) (ih fun g hg=>e2 g (Q9 _ hg))
 refine QL (QL (iJ _ _ e5 ?_))
 obtain ⟨f,fs',rfl⟩:∃ f fs',fs=f::fs':=by
  match fs,e1 with
  | [],e1=>simp at e1; lia
  | f::fs',_=>exact ⟨f,fs',rfl⟩
 have h0:(List.map (fun _=>R6 "tuple") (f::fs')).toArray[0]?=some (R6 "tuple"):=by simp
 rw [h0]
 dsimp only
 rw [if_pos (by simp)]
 refine QN (QN ?_)
 have e6:(some (R6 "tuple")).any (fun x=>x != R6 "tuple")=false:=by simp
 rw [e6]
 exact hQ
theorem Kq (I:Inv X aa σ H s) (sb:aM Hf H) (hA:A.units+10<cLine) (hx:qI X.K Hf (au x) u) (hy:qI X.K Hf (au y) v) (hQ:Q (cU x y) s):wpAny (model X.prog X.w) A (keyLt' (tuples' false) u v) Q E s:=by
 obtain ⟨a,b,its,t,rfl,⟨o,ho,hc,n,hd⟩,t2,i2,z1⟩:=qJ I sb hx
 obtain ⟨a',b',its',t',rfl,⟨o',ho',hc',n',hd'⟩,t2',i2',z2⟩:=qJ I sb hy
 rw [zd]
 refine QL (Ub ho hd (QL (Ub ho' hd' ?_)))
 obtain ⟨w1,r1,q1⟩:=z1
 obtain ⟨w2,r2,q2⟩:=z2
 have e1:Rl A s (.ref b) (.ref b') (decide (D.tup (x.1.map .int)=D.tup (y.1.map .int))):=o8 I sb 1 _ _ _ _ _ _ A (tw x.1 y.1) q1 q2 r1 r2 (by lia)
 have e2:decide (D.tup (x.1.map D.int)=D.tup (y.1.map D.int))=decide (x.1=y.1):=by
  by_cases z:x.1=y.1
  ·rw [z]; simp
  ·have:¬ D.tup (x.1.map D.int)=D.tup (y.1.map D.int):=fun w=>by
    injection w with w
    exact z ((List.map_inj_right (f:=D.int) (fun a b e=>by injection e)).mp w)
   rw [decide_eq_false this,decide_eq_false z]
 rw [e2] at e1
 have ez:((#[Rc b,TU x.2 t]:Array Value).toList.zip (#[Rc b',TU y.2 t']:Array Value).toList).zipIdx=[((Rc b,Rc b'),0),((TU x.2 t,TU y.2 t'),1)]:=rfl
 rw [ez]
 have lti:∀ (bb:Bool) (m n:Int) (t u:Tok) (Q:Bool→Shared→Prop),Q (decide (m<n)) s→wpAny (model X.prog X.w) A (oneLt' (false && bb) (.int m t) (.int n u)) Q E s:=fun bb m n t u Q h=>by
  rw [Bool.false_and,oneLt'_eq,if_neg QZ]
  exact QL (lt_int (QN h))
 simp only [T9,List.forIn_nil]
 refine QL (QL (QL (e1 _ _ _ _ ?_)))
 unfold cU at hQ
 by_cases z:x.1=y.1
 ·rw [if_pos z] at hQ
  rw [decide_eq_true z]
  simp only [Ua,RO,if_false]
  refine QN ?_
  dsimp only
  refine QL (QL ?_)
  refine wpAny_eqBool_int ?_
  by_cases w:x.2=y.2
  ·rw [show (x.2 == y.2)=true by simpa using w]
   simp only [Ua,RO,if_false]
   refine QN (QN ?_)
   dsimp only
   refine QN ?_
   rw [w] at hQ
   simpa using hQ
  ·rw [show (x.2 == y.2)=false by simpa using w]
   simp only [Bool.not_false,if_true]
   refine QL (lti _ _ _ _ _ _ (QN ?_))
   dsimp only
   exact QN (QN hQ)
 ·rw [if_neg z] at hQ
  rw [decide_eq_false z]
  simp only [Bool.not_false,if_true]
  refine QL ?_
  rw [Bool.false_and,oneLt'_eq,if_neg QZ]
  refine QL (HT.uS (s:=s) t2 t2' i2 i2' (by lia) ?_)
  refine QN (QN ?_)
  dsimp only
  exact QN (QN hQ)
end
section
noncomputable abbrev HV (X:Cx) (A:Around):Cx:={ X with A:=A }
theorem Nf (ok:X.Ok) (h1:X.calm=true→A.handled=none) (h2:A.frames=some X.stack):(HV X A).Ok :=
 ⟨ok.mod,ok.kind,ok.glob,ok.blt,ok.above,ok.inj,ok.has,ok.cab,h1,h2,ok.stk,ok.exf,ok.bs,ok.bsz,ok.noex,ok.exfs,ok.jI,ok.frf⟩
theorem mJ (I:Inv X aa σ H s) (h1:X.calm=true→A.handled=none) (h2:A.frames=some X.stack):Inv (HV X A) aa σ H s :=
 ⟨Nf I.ok h1 h2,I.os,I.bare,I.base,I.loc,I.cell,I.free,I.freeC,I.pin,I.hok,I.len⟩
theorem jo (ok:X.Ok) (I:Inv (HV X A) aa σ H s):Inv X aa σ H s :=
 ⟨ok,I.os,I.bare,I.base,I.loc,I.cell,I.free,I.freeC,I.pin,I.hok,I.len⟩
theorem Ge {fp:List Addr} (h:∀ b∈fp,fC X aa H b) (n:∀ b∈fp,H' b=none):∀ b∈fp,fC X aa H' b:=fun b hb=>⟨n b hb,(h b hb).2⟩
theorem Ck (hc:X.calm=true) (Tn:Turn X.prog X.w X.K (.Name nm np) J fp it tn) (io:jM X.K J ds EK)
 (hS0:Hb S=none) (hSf:S∉fp) (hn:ds.length≤sizeLine) (okX:X.Ok) (h1:X.A.in1.handled=none) (h2:X.A.in1.frames=some X.stack)
 (fin:∀ (s':Shared) (H' ai:Hp) (xs:List V),Inv X aa σ H' s'→H' S=some (.lst xs)→ai S=none→ak X.K ai ds xs→bu Hb EK H' ai→R (.ok (.ret res)) s') :
 ∀ (k i:Nat) (s:Shared) (H Hf:Hp) (xs:List V),ds.length - i=k→i≤ds.length→Inv X aa σ H s→tn i s.heap→(∀ b∈fp,fC X aa H b)→H S=some (.lst xs)→Hf S=none→ak X.K Hf (ds.take i) xs→bu Hb EK H Hf →
  codeAny (model X.prog X.w) X.A (.builtin "list.extend.loop" ⟨[.ref S,.ref it,res],[]⟩) R s:=by
 intro k
 induction k with
 | zero =>
  intro i s H Hf xs hk hi I t hf hS hfS hr g
  have e:i=ds.length:=by omega
  subst e
  rw [R9] at hr
  refine UZ PySem.F.entry_extend_loop ?_
  rw [Vx Vm _]
  show wpAny _ X.A.in1 (pyNext (.ref it) >>= _) _ _ s
  refine QL (RE (Tn.done (HV X X.A.in1) rfl rfl rfl hc _ aa s σ H _ (mJ I (fun _=>h1) h2) hf t (io.stop _ H Hf g.f g.b (QS _))) (fun r s' ⟨e,I'⟩=>?_) fun _ _ x=>x)
  subst e
  exact QN (fin s' H Hf xs (jo okX I') hS hfS hr g)
 | succ k ih =>
  intro i s H Hf xs hk hi I t hf hS hfS hr g
  have lt:i<ds.length:=by omega
  have ed:ds[i]?=some ds[i]:=Ro lt
  obtain ⟨hgo,hy⟩:=io.go i ds[i] H Hf g.f g.b ed
  refine UZ PySem.F.entry_extend_loop ?_
  rw [Vx Vm _]
  show wpAny _ X.A.in1 (pyNext (.ref it) >>= _) _ _ s
  refine QL (RE (Tn.item (HV X X.A.in1) rfl rfl rfl hc i aa s σ H _ (mJ I (fun _=>h1) h2) hf t hgo) (fun r s1 ⟨u,e,hu⟩=>?_) fun _ _ x=>x)
  subst e
  show wpAny _ X.A.in1 (letOwnedTupleGo (.Name nm np) (.ref it) u >>= fun _=>(Ti (.ref S) (·.push u) >>= fun _=>again (.builtin "list.extend.loop" ⟨[.ref S,.ref it,res],[]⟩))) _ _ s1
  refine QL (RE hu (fun _ s2 ⟨x,H',I2,rx,y,t2,n2⟩=>?_) fun _ _ x=>x)
  have I2:=jo okX I2
  obtain ⟨ai,g',rd⟩:=hy x H' y
  have hS':H' S=some (.lst xs):=g'.s _ _ hS
  have hfS':ai S=none:=g'.n S hfS (by rw [hS]; simp) (by intro ys; rw [hS]; simp)
  obtain ⟨z,its,n,rv,el,eo⟩:=I2.rN hS'
  have hx:xs.length=i:=by rw [← hr.length,Rx]; omega
  have hz:(xs++[x]).length≤sizeLine:=by simp only [Rr,RH,SS]; omega
  refine QL (Su eo rfl ?_ (by simp; omega) (by simp; omega))
  have ef:(fun a:Array Value=>a.push u) its.toArray=(its++[u]).toArray:=by simp
  have I3:=I2.uW (f:=fun a=>a.push u) (t':=s2.toks) hS' eo ef (rv.append (.cons rx .nil)) hz
  refine QN ⟨plainId_quiet Vm _,ih (i+1) _ (upd H' S (.lst (xs++[x]))) ai (xs++[x]) (by omega) lt I3 (Tn.keep _ _ _ t2 fun b hb o e=>?_) (Ge hf fun b hb=>?_) ah hfS' ?_ (qx (g.trans g') hS0 hfS')⟩
  ·exact (Vs _ _ (fun w:S=b=>hSf (w ▸ hb))).trans e
  ·rw [aj (fun w:b=S=>hSf (w ▸ hb))]; exact n2 b hb
  ·rw [WV,ed]
   exact (hr.mono g'.f).append (ak.one rd)
end
section
theorem ze (hT:s.TypeIs (.ref v) "dict_items") (hQ:Q false s):wpAny (model prog w) A (Uq (.ref v)) Q E s:=by
 unfold Uq
 refine QL (wpAny_specialOf hT PySem.F.slot_dict_items_len.lookup ?_)
 have e:splitId "dict_items.__len__"=some ("dict_items","__len__"):=by decide +kernel
 dsimp only
 rw [e]
 dsimp only
 refine QL (VI (b:=true) hT (by rw [isSubtype_type]; kernel_rfl) ?_)
 rw [if_neg (by decide)]
 exact QL (Tz hT (QN hQ))
end
section
theorem Gf (I:Inv X aa σ H s) (hv:s.heap.IsItemsView v d) (hH:H d=some (.frz o u)) (hd:HO.dct u) :
 wpAny (model X.prog X.w) A (pyIter (.ref v)) (fun itv s2=>∃ (it:Addr) (es:Array DictEntry) (ep:Nat),itv=.ref it∧s.heap.objs.size≤it∧Inv X aa σ H s2∧Turn X.prog X.w X.K tg (OE d o u) [it] it (fun i h=>BW h it d i es.size ep)∧BW s2.heap it d 0 es.size ep∧(∀ b∈[it],fC X aa H b) ∧
  (∀ b o,s.heap.get? b=some o→s2.heap.get? b=some o)) E s:=by
 obtain ⟨ho,ok⟩:=(show bw X.prog X.w H s.heap d (.frz o u) from I.hok d _ hH)
 obtain ⟨hx,es,ep,hod,hp,hs,hz⟩:=dD ok hd ho
 refine pB hv ho hod ?_
 have hsz:es.size=(cI u).length:=by rw [SE hp]; simp
 refine ⟨_,es,ep,rfl,QS _,I.kept (t':=s.toks) fun b o e=>QV _ e,mh (o:=o) (u:=u) (es:=es) (ep:=ep) hd hod (fun z=>?_) hsz,⟨.none,false,.none,.none,Q5 _ rfl,.inl rfl⟩,fun b hb=>?_,fun b o e=>QV _ e⟩
 ·have lt:=QX ho
  rw [← z] at lt
  exact absurd lt (Sv _)
 ·have e:b=s.heap.objs.size:=by simpa using hb
  subst e
  exact I.nR (QS _) (I.hok.fresh (QS _))
theorem pQ (hc:X.calm=true) (h1:X.A.in1.handled=none) (h2:X.A.in1.frames=some X.stack) (I1:Inv X aa σ (upd H S (.lst [])) s) (sb:aM Hf H) (HS:H S=none) (hvS:S≠src) (hltS:S<s.heap.objs.size) (hn:ds.length≤sizeLine)
 (hT:(false || R6 T == R6 "list" || R6 T == R6 "tuple")=false) (ty:∀ s':Shared,(∀ b o,s.heap.get? b=some o→s'.heap.get? b=some o)→s'.TypeIs (.ref src) T)
 (hint:∀ (A:Around) (s':Shared) (Q:Bool→Shared→Prop) (E:Value→Shared→Prop),s'.TypeIs (.ref src) T→Q false s'→wpAny (model X.prog X.w) A (Uq (.ref src)) Q E s')
 (iter:wpAny (model X.prog X.w) X.A.in1 (pyIter (.ref src)) (fun itv s2=>∃ (it:Addr) (tn:Nat→Heap→Prop) (J:It),itv=.ref it ∧
   s.heap.objs.size≤it∧Inv X aa σ (upd H S (.lst [])) s2∧Turn X.prog X.w X.K (.Name "x" ⟨0,0,0,0⟩) J [it] it tn∧tn 0 s2.heap∧(∀ b∈[it],fC X aa (upd H S (.lst [])) b)∧(∀ b o,s.heap.get? b=some o→s2.heap.get? b=some o)∧jM X.K J ds Hf) E s)
 (hR:∀ (s':Shared) (H' ai:Hp) (xs:List V),Inv X aa σ H' s'→H' S=some (.lst xs)→ai S=none→ak X.K ai ds xs→bu H Hf H' ai→R (.ok (.ret res)) s') :
 wpAny (model X.prog X.w) X.A.in1 (Vk (.ref S) (.ref src) res) (fun fin s'=>match fin with | .done f=>R (.ok f) s' | .again c=>c.quiet=true∧codeAny (model X.prog X.w) X.A c R s') E s:=by
 unfold Vk
 have ne:Builtin.List.listSameRef (.ref S) (.ref src)=false:=by simp [Builtin.List.listSameRef,hvS]
 refine QL (Tz (ty s fun _ _ e=>e) ?_)
 rw [if_neg (by rw [ne,hT]; decide)]
 refine QL (RE iter (fun itv s2 hh=>z3 hh fun it tn J hh=>w8 hh fun e hit I2 Tn t0 hf k2 io=>?_) fun _ _ x=>x)
 subst e
 refine QL (Sf (hint _ s2 _ _ (ty s2 k2) ?_))
 have hSne:it≠S:=TH (RG hltS hit)
 have g0:bu H Hf (upd H S (.lst [])) Hf:=bu.gp sb HS
 have fin:∀ s3:Shared,Inv X aa σ (upd H S (.lst [])) s3→tn 0 s3.heap→wpAny (model X.prog X.w) X.A.in1 (again (.builtin "list.extend.loop" ⟨[.ref S,.ref it,res],[]⟩)) (fun fin s'=>match fin with | .done f=>R (.ok f) s' | .again c=>c.quiet=true∧codeAny (model X.prog X.w) X.A c R s') E s3:=fun s3 I3 t3 =>
  QN ⟨plainId_quiet Vm _,Ck (X:=X) (Hb:=H) (EK:=Hf) hc Tn io HS (fun m=>hSne (Q8.mp m).symm) hn I1.ok h1 h2 hR ds.length 0 s3 _ Hf [] (by simp) (Rq _) I3 t3 hf ah (sb.free HS) (aA.mpr rfl) g0⟩
 obtain ⟨_,its,n,rv,el,eo⟩:=I2.rN (l:=S) (xs:=[]) ah
 cases rv
 split
 ·refine QL (RV ?_)
  unfold Builtin.List.listTouch
  refine QL (QL (Su eo rfl ?_))
  have I3:=I2.uW (f:=fun a=>a.push .none) (its':=[.none]) (ys:=[.non]) (t':=s2.toks) ah eo (by simp) (.cons rfl .nil) (by show 1≤sizeLine; decide)
  obtain ⟨_,its3,n3,rv3,el3,eo3⟩:=I3.rN (l:=S) (xs:=[.non]) ah
  cases rv3 with
  | cons r3 t3 =>
   cases t3
   cases r3
   refine Su eo3 rfl ?_
   have I4:=I3.uW (f:=fun a=>a.pop) (its':=[]) (ys:=[]) (t':=s2.toks) ah eo3 (by simp) .nil (Rq _)
   rw [p9,p9] at I4
   refine fin _ I4 (Tn.keep 0 _ _ t0 fun b hb o e=>?_)
   have hbS:S≠b:=fun w=>hSne (by rw [Q8.mp hb] at w; exact w.symm)
   exact (Vs _ _ hbS).trans ((Vs _ _ hbS).trans e)
 ·exact fin s2 I2 t0
theorem vm (hc:X.calm=true) (h1:X.A.in1.handled=none) (h2:X.A.in1.frames=some X.stack) (I:Inv X aa σ H s) (sb:aM Hf H) (hlt:src<s.heap.objs.size) (hn:ds.length≤sizeLine) (hT:(false || R6 T == R6 "list" || R6 T == R6 "tuple")=false)
 (ty:∀ s':Shared,(∀ b o,s.heap.get? b=some o→s'.heap.get? b=some o)→s'.TypeIs (.ref src) T)
 (hint:∀ (A:Around) (s':Shared) (Q:Bool→Shared→Prop) (E:Value→Shared→Prop),s'.TypeIs (.ref src) T→Q false s'→wpAny (model X.prog X.w) A (Uq (.ref src)) Q E s')
 (iter:∀ (A:Around) (s1:Shared) (H1:Hp) (E:Value→Shared→Prop),Inv X aa σ H1 s1→aM Hf H1→(∀ b o,s.heap.get? b=some o→s1.heap.get? b=some o)→wpAny (model X.prog X.w) A (pyIter (.ref src)) (fun itv s2=>∃ (it:Addr) (tn:Nat→Heap→Prop) (J:It),itv=.ref it ∧
   s1.heap.objs.size≤it∧Inv X aa σ H1 s2∧Turn X.prog X.w X.K (.Name "x" ⟨0,0,0,0⟩) J [it] it tn∧tn 0 s2.heap∧(∀ b∈[it],fC X aa H1 b)∧(∀ b o,s1.heap.get? b=some o→s2.heap.get? b=some o)∧jM X.K J ds Hf) E s1)
 (hQ:∀ (us:List Value) (s':Shared) (H' ai:Hp) (xs:List V),Inv X aa σ H' s'→Vals xs us→ak X.K ai ds xs→bu H Hf H' ai→ds.length≤sizeLine→Q us s'):wpAny (model X.prog X.w) X.A (collect (.ref src)) Q E s:=by
 unfold collect
 refine QL (wpAny_runValue (UZ PySem.F.entry_proto_collect ?_))
 rw [Vx PySem.F.plain_proto_collect _]
 show wpAny _ X.A.in1 (newList [] >>= fun l=>again (.builtin "list.__iadd__" ⟨[l,.ref src],[]⟩)) _ _ s
 have HS:H s.heap.objs.size=none:=I.hok.fresh (QS _)
 have hvS:s.heap.objs.size≠src:=TH hlt
 refine QL (R0 (QN ⟨plainId_quiet PySem.F.plain_list_iadd _,UZ PySem.F.entry_list_iadd ?_⟩))
 rw [Vx PySem.F.plain_list_iadd _]
 generalize hS:s.heap.objs.size=S at *
 have I1:Inv X aa σ (upd H S (.lst [])) { s with heap:=s.heap.push { cls:=.type "list",data:=.seq ([]:List Value).toArray },toks:=s.toks }:=by
  have:=I.E4 (t':=s.toks) (ys:=[]) (its:=[]) .nil (Rq _)
  rw [hS] at this
  exact this
 show wpAny _ X.A.in1 (Vk (.ref S) (.ref src) (.ref S)) _ _ { s with heap:=s.heap.push { cls:=.type "list",data:=.seq ([]:List Value).toArray } }
 have k1:∀ b o,s.heap.get? b=some o→(s.heap.push { cls:=.type "list",data:=.seq ([]:List Value).toArray }).get? b=some o:=fun b o e=>QV _ e
 generalize hs1:({ s with heap:=s.heap.push { cls:=.type "list",data:=.seq ([]:List Value).toArray } }:Shared)=s1
 replace I1:Inv X aa σ (upd H S (.lst [])) s1:=by rw [← hs1]; exact I1
 replace k1:∀ b o,s.heap.get? b=some o→s1.heap.get? b=some o:=by rw [← hs1]; exact k1
 have hltS:S<s1.heap.objs.size:=by rw [← hs1,← hS]; show _<(Heap.push _ _).objs.size; rw [SD]; exact T6 _
 refine pQ (R:=fun r s'=>match r with
  | .ok (.ret v)=>wpAny (model X.prog X.w) X.A (do
   let .ref a:=v | unsupported "internal:collect"
   let o ← load a
   match o.data with
   | .seq xs _=>pure xs.toList
   | _=>unsupported "internal:collect") Q E s'
  | .ok _=>False
  | .error e=>E e s') hc h1 h2 I1 sb HS hvS hltS hn hT (fun s' k=>ty s' fun b o e=>k b o (k1 b o e)) hint (iter _ s1 _ _ I1 (bu.gp sb HS (o:=.lst [])).b k1) fun s' H' ai xs I' hS' _ hr g=>?_
 obtain ⟨_,its,n,rv,el,eo⟩:=I'.rN hS'
 exact QL (wpAny_load eo (QN (hQ its s' H' ai xs I' rv hr g hn)))
end
noncomputable def Kr (te:TE):TE:=fun σ H Q=>te σ H fun x H1=>∃ d o u,x=.ref d∧H1 d=some (.frz o u)∧HO.dct u∧∀ v,H1 v=none→Q (.ref v) (upd H1 v (.ext fun h=>h.IsItemsView v d))
theorem Cm (he:PE X e te) (hbase:attributeBase e "items" X.env (eval e X.env)=eval e X.env) (hline:(ap.endLine == cp.line)=true):PE X (.Call (.Attribute e "items" ap) [] [] cp) (Kr te):=by
 intro aa s σ H Q I h
 refine WQ (T:="dict") (id:="dict.items") hbase rfl hline F.plainAttrs_dict VH F.type_dict_items (bD (he aa s σ H _ I h) fun v s1 ⟨x,H1,I1,r1,d,o,u,ex,hH,hd,q⟩=>?_)
 subst ex
 cases r1
 obtain ⟨ho,ok⟩:=(show bw X.prog X.w H1 s1.heap d (.frz o u) from I1.hok d _ hH)
 obtain ⟨hx,es,ep,hod,hp,hs,hz⟩:=dD ok hd ho
 have hT:s1.TypeIs (.ref d) "dict":=⟨o,ho,hx.1⟩
 refine ⟨hT,fun b z=>by cases z; exact ⟨o,ho,hx.2.1⟩,?_⟩
 show wpAny _ _ (callWith cp (.builtin "dict.items") [.ref d] [] []) _ _ s1
 refine method_meetsIn VH F.entry_dict_items rfl (WB ⟨rfl,hT,F.args_dict_items_1 _,_,kE d hs,hT,?_⟩)
 have Hv:H1 s1.heap.objs.size=none:=I1.hok.fresh (QS _)
 have hve:(s1.heap.push { cls:=.type "dict_items",data:=.fields #[.ref d] }).IsItemsView s1.heap.objs.size d:=⟨_,Q5 _ rfl,rfl,rfl⟩
 have I2:Inv X aa σ (upd H1 s1.heap.objs.size (.ext fun h=>h.IsItemsView s1.heap.objs.size d)) { s1 with heap:=s1.heap.push { cls:=.type "dict_items",data:=.fields #[.ref d] },toks:=s1.toks } :=
  I1.laid (a:=s1.heap.objs.size) (fun _ _ q=>QV _ q) (QS _) ⟨hve,⟨_,Q5 _ rfl⟩,fun h1 h2 ⟨o,e,r⟩ k=>⟨o,k o e,r⟩⟩
 exact ⟨.ref s1.heap.objs.size,_,I2,rfl,q _ Hv⟩
section
variable {X:Cx} {aa:List (Addr×Obj)} {σ:L2.St} {H Hf:Hp} {s:Shared} {E:Value→Shared→Prop} {α:Type} {enc:α→D} {lt:α→α→Bool} {κ:SortKind}
theorem tD {K:QM}:∀ {L:List α} {xs:List V} {us:List Value},ak K Hf (L.map enc) xs→Vals xs us→Paired (fun x u=>qI K Hf (enc x) u) L us
 | [],xs,us,h,v=>by rw [RJ,aA] at h; subst h; cases v; exact .nil
 | t::L,xs,us,h,v=>by
  rw [QW] at h
  obtain ⟨x,r,rfl,h1,h2⟩:=aE.mp h
  cases v with
  | cons r1 r2=>exact .cons ⟨x,r1,h1⟩ (tD h2 r2)
theorem tE {K:QM}:∀ {L:List α} {us:List Value},Paired (fun x u=>qI K Hf (enc x) u) L us→∃ xs,ak K Hf (L.map enc) xs∧Vals xs us
 | _,_,.nil=>⟨[],aA.mpr rfl,.nil⟩
 | _,_,.cons ⟨x,r1,h1⟩ t=>by
  obtain ⟨xs,h2,h3⟩:=tE t
  exact ⟨x::xs,.cons h1 h2,.cons r1 h3⟩
structure Ks (X:Cx) (enc:α→D) (lt:α→α→Bool) (κ:SortKind):Prop where
 lin:∀ L:List α,SR.LO lt L
 inj:∀ (aa:List (Addr×Obj)) (σ:L2.St) (H Hf:Hp) (s:Shared),Inv X aa σ H s→aM Hf H→∀ x y u,qI X.K Hf (enc x) u→qI X.K Hf (enc y) u→x=y
 kind:∀ (aa:List (Addr×Obj)) (σ:L2.St) (H Hf:Hp) (s:Shared) (A:Around) (E:Value→Shared→Prop),Inv X aa σ H s→aM Hf H→∀ (L:List α) (us:List Value),Paired (fun x u=>qI X.K Hf (enc x) u) L us→2≤us.length→∀ Q:SortKind→Shared→Prop,Q κ s→wpAny (model X.prog X.w) A (keyKind' us.toArray) Q E s
 cmp:∀ (aa:List (Addr×Obj)) (σ:L2.St) (H Hf:Hp) (s:Shared) (A:Around) (E:Value→Shared→Prop),Inv X aa σ H s→aM Hf H→A.units+10<cLine→∀ (x y:α) (u v:Value),qI X.K Hf (enc x) u→qI X.K Hf (enc y) v→∀ Q:Bool→Shared→Prop,Q (lt x y) s→wpAny (model X.prog X.w) A (keyLt' κ u v) Q E s
theorem Gg:Ks X au cU (tuples' false) :=
 ⟨lC,fun _ _ _ _ _ I sb _ _ _ h1 h2=>Gb I sb h1 h2,fun _ _ _ _ _ _ _ I sb _ _ p h2 _ hQ=>Cj I sb p h2 hQ,fun _ _ _ _ _ _ _ I sb hA _ _ _ _ hx hy _ hQ=>Kq I sb hA hx hy hQ⟩
noncomputable def kL (lt:α→α→Bool) (b:Bool) (L:List α):Prop:=L.Pairwise fun x y=>if b then lt y x=true else lt x y=true
noncomputable abbrev jq (b:Bool) (L:List aL):Prop:=kL cU b L
theorem tF {Q:Value→Shared→Prop} (hs:Ks X enc lt κ) (I:Inv X aa σ H s) (sb:aM Hf H) (hA:A.units+20<cLine) (hr:ak X.K Hf (L.map enc) xs) (hv:Vals xs us) (hz:us.length≤sizeLine) (nd:L.Nodup)
 (hQ:∀ (L':List α) (xs':List V) (s':Shared),L'.Perm L→kL lt b L'→ak X.K Hf (L'.map enc) xs'→xs'.length≤sizeLine→Inv X aa σ (upd H s.heap.objs.size (.lst xs')) s'→Q (.ref s.heap.objs.size) s') :
 wpAny (model X.prog X.w) A (newList us >>= fun l=>(holding [l] (call (.builtin "list.sort") [l] [(QK "reverse",.bool b)]) >>= fun _=>ret l)) (fun fin s'=>∃ v,fin=.done (.ret v)∧Q v s') E s:=by
 refine QL (V2 ?_ hz)
 have ha:(s.heap.push (seqObj "list" us.toArray 0)).get? s.heap.objs.size=some (seqObj "list" us.toArray 0):=Q5 _ rfl
 have I1:Inv X aa σ H { s with heap:=s.heap.push (seqObj "list" us.toArray 0),toks:=s.toks }:=I.kept fun b o e=>QV _ e
 have Ha:H s.heap.objs.size=none:=I.hok.fresh (QS _)
 obtain ⟨f0,f1,f2,f3,f4,f5⟩:=I.nR (H':=H) (QS _) Ha
 have pL:=tD hr hv
 refine QL (Sf (wpAny_call_entry_kw slot_list_sort ⟨_,ha,rfl⟩ entry_list_sort (SR.zc (κ:=κ) (rk:=SR.Cd (fun x u=>qI X.K Hf (enc x) u) lt L) (b:=b) ha ?_ hz fun out hp ho=>⟨_,rfl,?_⟩) (args_list_sort_rev _ _)))
 ·intro h' k
  have I2:=I1.turned (h':=h') (t':=s.toks) (it:=s.heap.objs.size) (fun b o hb e=>k b o hb e) f0 f1 f3 f4 f5
  refine ⟨fun Q E h2 hQ=>hs.kind _ _ _ _ _ _ _ I2 sb _ _ pL h2 _ hQ,SR.Kp (fun x y u h1 h2=>hs.inj _ _ _ _ _ I2 sb x y u h1 h2) (hs.lin L) pL fun x _ y _ u v hx hy E Q hQ=>hs.cmp _ _ _ _ _ _ _ I2 sb ?_ _ _ _ _ hx hy _ hQ⟩
  show A.units+1+10<cLine
  lia
 ·obtain ⟨L',p1,p2,p3⟩:=SR.Ce (S:=fun x u=>qI X.K Hf (enc x) u) (fun x y u h1 h2=>hs.inj _ _ _ _ _ I sb x y u h1 h2) (hs.lin L) nd pL hp ho
  obtain ⟨xs',r',v'⟩:=tE p3
  obtain ⟨e,he⟩:=sortedHeap_at (vs:=us) (out:=out) ha
  have hl:out.toList.length=us.length:=hp.length_eq
  refine QN ⟨_,rfl,hQ L' xs' _ p1 p2 r' ?_ ?_⟩
  ·have:=v'.length; lia
  ·refine I.laid (t':=s.toks) (fun b o q=>?_) (QS _) ⟨by have:=v'.length; lia,out.toList,e,v',by simpa using he⟩
   have lt:=QX q
   rw [sortedHeap_old (Ri lt) (by rw [size_push']; exact WU lt)]
   exact QV _ q
end
section
end
section
variable {K:QM}
end
section
theorem qK (hc:X.calm=true) (I:Inv X aa σ H s) (sb:aM Hf H) (hA:X.A.units+60<cLine) (hl:gn X.K Hf l ys) (hr:ak X.K Hf (L.map au) ys) (nd:L.Nodup)
 (hQ:∀ (L':List aL) (xs':List V) (s':Shared) (a:Addr),L'.Perm L→jq b L'→ak X.K Hf (L'.map au) xs'→H a=none→Inv X aa σ (upd H a (.lst xs')) s'→Q (.ref a) s') :
 wpAny (model X.prog X.w) X.A (call (.builtin "sorted") [.ref l] [(QK "reverse",.bool b)]) Q E s:=by
 refine Wr kind_sorted plain_sorted entry_sorted (args_sorted_rev _ _) ?_
 unfold Builtin.«sorted»
 refine QL (m:=checkCount "sorted" 1 1 _) (QN ?_)
 obtain ⟨its,rv,p,hz⟩:=I.list (sb.seq hl)
 have el:=rv.length
 refine QL (collect_list p.isList ?_ (by lia))
 have I2:Inv X aa σ H { s with heap:=(s.heap.push (seqObj "list" #[] 0)).update s.heap.objs.size (Rw (· ++its.toArray)),toks:=s.toks }:=I.kept fun c o e=>by
  rw [S9 _ _ _ _ (Ri (QX e))]
  exact QV _ e
 refine tF (b:=b) Gg I2 sb ?_ hr rv (by lia) nd fun L' xs' s2 p1 p2 p3 p4 I3=>hQ L' xs' s2 _ p1 p2 p3 (I2.hok.fresh (QS _)) I3
 show X.A.units+1+20<cLine
 lia
end
section
variable {K:QM} {c:Ctx P w K mg base k N sc bk}
theorem vn (hm:mg "sorted"=none) (h:aH c e ρ fun d=>∃ L:List aL,d=.lst (L.map au)∧Sd L.Nodup (∀ L':List aL,L'.Perm L→jq true L'→R (.ow (L'.map au))))
 (hg:sc.names.lookup (QK "sorted")=some .globalImplicit:=by walk_at "u")
 (he:∀ env,starEach [e] env=(false,eval e env)::starEach [] env:=by intro _; walk_at "u")
 (hpl:∀ env,(backTo pos (starEach [e] env)).any (·.1)=false:=by intro _; walk_at "u") :
 dz c (.Call (.Name "sorted" np) [e] [⟨some "reverse",.Constant (.bool true) j kp1,kp⟩] pos) ρ R:=fun σ H Hf Q S q aa s I=>by
 have hgl:Gl c.X "sorted":=by unfold Gl Rz; rw [c.esc]; exact hg
 refine SG (cX I hgl (by rw [c.emg]; exact hm) (show bootBuiltins "sorted"=some (.builtin "sorted") by decide +kernel) ?_ (by decide) (by decide))
 refine callWith_kw ?_ (by rw [he]; rfl) (hpl _)
 have hpa:=bL (X:=c.X) (e:=e) (es:=[]) cW cY (he _)
 refine bD (hpa pos aa s σ H (fun vs H1=>∃ x,vs=[x]∧∃ (L:List aL) (aP:Hp),Rep c.X.K aP (.lst (L.map au)) x∧L.Nodup∧bu H Hf H1 aP∧∀ L':List aL,L'.Perm L→jq true L'→R (.ow (L'.map au))) I ?_) fun us s1 hh=>z2 hh fun vs H1 hh=>w3 hh fun I1 r1 hh=>hh.elim fun x hh=>w2 hh fun ex hh=>z2 hh fun L aP hh=>w4 hh fun e1 e7 e8 e9=>?_
 ·exact h σ H Hf _ S fun d v H1 aP ⟨L,hp,⟨hn,hR⟩⟩ rv g=>⟨_,rfl,L,aP,by rw [← hp]; exact rv,hn,g,hR⟩
 ·subst ex
  obtain ⟨a0,ys,rfl,hs,hr⟩:=aS.mp e1
  have eu:us=[.ref a0]:=by
   cases r1 with
   | cons q1 q2=>cases q2; cases q1; rfl
  subst eu
  refine kws_cons (bD (AA (X:=c.X) (b:=true) (j:=j) (pos:=kp1) aa s1 σ _ (fun x H2=>x=.bl true∧H2=H1) I1 ⟨rfl,rfl⟩) fun kv s2 ⟨x,H2,I2,rx,e10,e11⟩=>kws_nil ?_)
  subst e10 e11
  have ek:kv=.bool true:=rx
  subst ek
  refine qK (b:=true) c.calm I2 e8.b ?_ hs hr e7 fun L' xs' s' a p1 p2 p3 na I3=>?_
  ·have:=c.room.un
   lia
  ·exact ⟨.ref a,_,I3,rfl,q (.ow (L'.map au)) _ _ aP (e9 L' p1 p2) ⟨a,xs',rfl,e8.s.free na,ah,e8.b.free na,p3⟩ (e8.trans (bu.gp e8.b na))⟩
end
end EV
namespace EV
open PySem PySem.Spec PyProof.Rows L2
noncomputable def trim (l:List Int):List Int:=(l.reverse.dropWhile fun x=>x == 0).reverse
theorem gZ (l):trim (l++[0])=trim l:=by simp [trim]
theorem jU (l) (h:x≠0):trim (l++[x])=l++[x]:=by simp [trim,List.dropWhile_cons,h]
theorem jV {l:List Int} (h:m<l.length):l.take (m+1)=l.take m++[l.getD m 0]:=by
 rw [Sa h]; simp [R3,h]
theorem pR (h:m<l.length) (z:l.getD m 0=0) (e:trim (l.take (m+1))=trim l):trim (l.take m)=trim l:=by
 rw [jV h,z,gZ] at e; exact e
theorem pS (h:m<l.length) (z:l.getD m 0≠0) (e:trim (l.take (m+1))=trim l):l.take (m+1)=trim l:=by
 rw [← e,jV h,jU _ z]
theorem gC (l):(trim l).length≤l.length:=by
 unfold trim
 rw [List.length_reverse]
 exact Q4 (List.dropWhile_sublist _).length_le (by simp)
theorem cB (l):trim (trim l)=trim l:=by
 unfold trim
 rw [List.reverse_reverse]
 congr 1
 generalize l.reverse=r
 induction r with
 | nil=>rfl
 | cons x r ih=>by_cases h:x == 0 <;> simp [List.dropWhile_cons,h,ih]
theorem Cn (l:List α) (h:m≤l.length):EV.cutD l none (some (m:Int))=l.take m:=by
 unfold EV.cutD HT.cj
 have e:¬ (m:Int)<0:=by lia
 simp only [e,if_false,Rp]
 simp [U0 h]
section
variable {K:QM} {c:Ctx P w K mg base k N sc bk}
theorem s_pop (hN:At N i x) (hi:At ρ i r) (hr:r.getL=some ds) (h:Sd (ds≠[]) (Nx ρ i nx (r.putL ds.dropLast)))
 (hs:∀ env,swapsWith (.Call (.Attribute (.Name x px) "pop" ap) [] [] cp) none pos.line env=pure false:=by intro _; walk_at "u") (hd:(x == ("__debug__":Str))=false:=by decide) (hcd:(x == ("__classdict__":Str))=false:=by decide)
 (hbase:∀ env,attributeBase (.Name x px) "pop" env (eval (.Name x px) env)=eval (.Name x px) env:=by intro _; walk_at "u")
 (hline:(ap.endLine == cp.line)=true:=by walk_at "u") :
 fH c (.Expr (.Call (.Attribute (.Name x px) "pop" ap) [] [] cp) pos) ρ nx p:=fun σ H Hf D S o=>by
 obtain ⟨q,eq,rq⟩:=S.own hi.get (c7 hr)
 obtain ⟨xs,h1,h2,h3⟩:=JZ hr rq
 obtain ⟨hz,ρ',hs',hn⟩:=h
 have hl:=h3.length
 have hlen:0<xs.length:=by
  rw [← hl]; exact List.length_pos_iff.mpr hz
 obtain ⟨y,hy⟩:∃ y,xs[xs.length - 1]?=some y:=⟨_,Ro (by omega)⟩
 refine d7 (kY (AW PySem.F.plainAttrs_list PySem.F.slot_list_pop PySem.F.type_list_pop Jv (c.lY hN hd hcd) (hbase _) hline) (hs _)) ⟨_,eq,.inl ⟨rfl,xs,.inl (.inl h1)⟩,?_⟩
 refine ⟨q,xs,y,rfl,rfl,h1,hy,?_⟩
 refine o.nx _ _ Hf ρ' ?_ hn
 rw [hs'.eq]
 exact S.upd hi.get (c7 hr) eq (gX S.sb h2) (lZ hr rq ah h2 h3.dropLast) (iE hr)
end
noncomputable def encA (A:List aL):List (List Key×D):=A.map fun t=>(t.1.map Rn,.int t.2)
theorem qL:∀ {l m:List Int},(l.map (Rn:Int→Key))=m.map Rn→l=m
 | [],[],_=>rfl
 | x::l,y::m,h=>by
  simp only [QW,List.cons.injEq,Rn.injEq] at h
  rw [h.1,qL h.2]
 | [],_::_,h=>by simp at h
 | _::_,[],h=>by simp at h
theorem xQ (A) (l):bF (encA A) (l.map Rn)=(bF A l).map D.int:=by
 induction A with
 | nil=>rfl
 | cons t A ih =>
  by_cases e:t.1=l
  ·rw [br e]
   show bF ((t.1.map Rn,D.int t.2)::encA A) _=_
   rw [br (by rw [e])]; rfl
  ·rw [aW e,← ih]
   show bF ((t.1.map Rn,D.int t.2)::encA A) _=_
   rw [aW fun z=>e (qL z)]
theorem Gh (A) (l) (n):putD (encA A) (l.map Rn) (.int n)=encA (putD A l n):=by
 unfold putD
 rw [xQ]
 by_cases h:(bF A l).isSome=true
 ·rw [if_pos h,if_pos (by rw [T5]; exact h)]
  unfold encA
  rw [Rv,Rv]
  refine S6 fun t _=>?_
  simp only [V4]
  by_cases e:t.1=l
  ·rw [if_pos e,if_pos (by rw [e])]
  ·rw [if_neg e,if_neg fun z=>e (qL z)]
 ·rw [if_neg h,if_neg (by rw [T5]; exact h)]
  unfold encA
  simp
theorem jW:∀ l:List Int,D.keys (l.map D.int)=some (l.map Rn)
 | []=>rfl
 | x::l=>by
  simp only [QW]
  unfold D.keys
  rw [jW l]; rfl
theorem Gi (A:List aL) (l:List Int) (n:Int):(putD A l n).length≤A.length+1:=by
 unfold putD; split <;> simp
theorem Gj (A):(encA A).length=A.length:=by simp [encA]
theorem tG {A:List aL} (l:List Int) (n:Int) (h:(A.map (·.1)).Nodup):((putD A l n).map (·.1)).Nodup:=by
 unfold putD
 split
 ·rw [Rv]
  have e:(A.map ((·.1)∘fun kv:aL=>if kv.1=l then (kv.1,n) else kv))=A.map (·.1):=S6 fun t _=>by
   simp only [V4]; split <;> rfl
  rw [e]; exact h
 ·rename_i q
  rw [Ra,VF]
  refine ⟨h,by simp,?_⟩
  intro a ha b hb
  simp at hb
  subst hb
  intro z
  subst z
  apply q
  obtain ⟨t,ht,e⟩:=Rj.mp ha
  unfold bF
  rw [T5,List.find?_isSome]
  exact ⟨t,ht,decide_eq_true e⟩
theorem keys_nodup {A:List aL} (h:(A.map (·.1)).Nodup):A.Nodup:=by
 unfold List.Nodup at *
 rw [UW] at h
 exact h.imp fun q z=>q (by rw [z])
noncomputable def fX (A:List aL) (t:aL):List aL:=putD A (trim t.1) ((bF A (trim t.1)).getD 0+t.2)
noncomputable def aV (ts:List aL):List aL:=ts.foldl fX []
theorem tH (ts) (t):aV (ts++[t])=fX (aV ts) t:=by simp [aV]
theorem qM (ts:List aL) (A):(ts.foldl fX A).length≤A.length+ts.length:=by
 induction ts generalizing A with
 | nil=>simp
 | cons t ts ih =>
  have h1:=ih (fX A t)
  have h2:=Gi A (trim t.1) ((bF A (trim t.1)).getD 0+t.2)
  simp only [So,RH]
  unfold fX at *
  lia
theorem g6 (ts):(aV ts).length≤ts.length:=by
 have:=qM ts []
 simpa [aV] using this
theorem fO (ts):((aV ts).map (·.1)).Nodup:=by
 unfold aV
 have:∀ A:List aL,(A.map (·.1)).Nodup→((ts.foldl fX A).map (·.1)).Nodup:=by
  induction ts with
  | nil=>exact fun A h=>h
  | cons t ts ih=>exact fun A h=>ih _ (tG _ _ h)
 exact this [] (by simp)
theorem Gk (x):cU x x=false:=(lC [x]).irr x (by simp)
theorem Co (h:cU x y=true) (g:cU y z=true):cU x z=true:=(lC [x,y,z]).tr x (by simp) y (by simp) z (by simp) h g
theorem tK:∀ {L M:List aL},L.Perm M→jq true L→jq true M→L=M
 | [],M,h,_,_=>by rw [List.nil_perm] at h; exact h.symm
 | x::L,[],h,_,_=>by simp at h
 | x::L,y::M,h,h1,h2=>by
  unfold jq kL at h1 h2
  rw [Uz] at h1 h2
  by_cases e:x=y
  ·subst e
   rw [tK ((List.perm_cons _).mp h) h1.2 h2.2]
  ·exfalso
   have hx:x∈M:=by
    have:=h.subset (Q6)
    rcases Q0.mp this with z | z
    ·exact absurd z e
    ·exact z
   have hy:y∈L:=by
    have:=h.symm.subset (Q6)
    rcases Q0.mp this with z | z
    ·exact absurd z.symm e
    ·exact z
   have a:=h1.1 y hy
   have b:=h2.1 x hx
   simp only [if_true] at a b
   have:=Co a b
   rw [Gk] at this; cases this
noncomputable def zf (t:aL):List aL→List aL
 | []=>[t]
 | x::r=>if cU x t=true then t::x::r else x::zf t r
noncomputable def jr (L:List aL):List aL:=L.foldr zf []
theorem mK (t):∀ L:List aL,(zf t L).Perm (t::L)
 | []=>.refl _
 | x::r=>by
  unfold zf
  split
  ·exact .refl _
  ·exact ((mK t r).cons x).trans (.swap _ _ _)
theorem b9:∀ L:List aL,(jr L).Perm L
 | []=>.refl _
 | t::L=>(mK t (jr L)).trans ((b9 L).cons t)
theorem Gm (h:x≠y):cU x y=true∨cU y x=true:=(lC [x,y]).tot x (by simp) y (by simp) h
theorem xR (t):∀ L:List aL,t∉L→jq true L→jq true (zf t L)
 | [],_,_=>Uu _ _
 | x::r,hn,h=>by
  have h':=h
  unfold jq kL at h'
  rw [Uz] at h'
  unfold zf
  by_cases e:cU x t=true
  ·rw [if_pos e]
   unfold jq kL
   rw [Uz]
   refine ⟨fun y hy=>?_,h⟩
   simp only [if_true]
   rcases Q0.mp hy with rfl | z
   ·exact e
   ·have:=h'.1 y z
    simp only [if_true] at this
    exact Co this e
  ·rw [if_neg e]
   unfold jq kL
   rw [Uz]
   refine ⟨fun y hy=>?_,xR t r (fun z=>hn (Q9 _ z)) h'.2⟩
   rcases Q0.mp ((mK t r).subset hy) with rfl | z
   ·simp only [if_true]
    rcases Gm (x:=x) (y:=y) (fun z=>hn (by rw [z]; exact Q6)) with q | q
    ·exact absurd q e
    ·exact q
   ·exact h'.1 y z
theorem ju:∀ {L:List aL},L.Nodup→jq true (jr L)
 | [],_=>UX
 | t::L,h=>by
  rw [Sm] at h
  exact xR t _ (fun z=>h.1 ((b9 L).subset z)) (ju h.2)
theorem vo (hn:L.Nodup) (hp:L'.Perm L) (hs:jq true L'):L'=jr L:=tK (hp.trans (b9 L).symm) hs (ju hn)
noncomputable def nz (L:List aL):List aL:=L.filter fun t=>t.2 != 0
theorem Ku (hn:L.Nodup):nz (jr L)=jr (nz L) :=
 vo (Wz _ hn) ((b9 L).filter _) ((ju hn).filter _)
theorem encK (A):(Sl.oT (encA A)).sI=some (.fdT (A.map fun t=>t.1.map Rn) (A.map fun t=>.int t.2)):=by
 show some _=some _
 unfold encA
 rw [Rv,Rv]; rfl
theorem zg (A:List aL):(D.fdT (A.map fun t=>t.1.map Rn) (A.map fun t=>.int t.2)).pairs=some (A.map au):=by
 show some _=some _
 congr 1
 rw [VM,VD]
 refine S6 fun t _=>?_
 unfold au
 congr 3
 rw [Rv]; rfl
theorem Kv (h:r.yR=some (encA A)) (l):HK r (.tup (l.map .int)) ((bF A l).map D.int):=by
 rw [← xQ]; exact .t h (jW l)
theorem Kw (hz:A.length<sizeLine):FG (.oT (encA A)) (.tup (l.map .int)) (.int n) (.oT (encA (putD A l n))):=by
 rw [← Gh]
 exact .t (r:=.oT (encA A)) rfl (jW l) (by rw [Gj]; exact hz)
theorem Cp (o:Option Int):(o.map D.int).getD (.int 0)=.int (o.getD 0):=by cases o <;> rfl
end EV
namespace EV
open PySem PySem.Spec PySem.Calls PyProof.Rows L2
section
theorem ic {L:List Addr} (I:Inv X aa σ H s) (k:∀ b o,b∉L→s.heap.get? b=some o→h'.get? b=some o) (hf:∀ b∈L,fC X aa H b):Inv X aa σ H { s with heap:=h',toks:=t' }:=by
 have nit:∀ b u,H b=some u→b∉L:=fun b u e z=>by rw [(hf b z).1] at e; cases e
 refine I.step (g':=s.gens) (d':=s.drawn) (ch:=L) (fun b hb=>?_) (fun b o _ _ hc e _=>k b o hc e) (fun b o _ _ hc e _=>⟨o.slots,k b o hc e⟩) (fun _ _ _ _ n=>n)
  (fun b o hc e=>⟨o,k b o hc e⟩) (fun _ _ e=>e) (fun _ _ _ e=>e) (fun b ps e=>⟨#[],by rw [e]; simp⟩) (fun m hm=>?_) (fun b u e=>?_) I.bare
 ·obtain ⟨_,f1,_,f3,f4,f5⟩:=hf b hb
  exact ⟨f3,f1,f4,f5⟩
 ·obtain ⟨o,es,ep,ho,r⟩:=hm
  exact ⟨o,es,ep,k _ o (fun z=>(hf _ z).2.1 rfl) ho,r⟩
 ·refine (I.hok b u e).stay (fun c v hc q=>k c v ?_ q) (fun _ q=>q) fun _ _ q=>q
  rcases hc with z | z
  ·rw [z]; exact nit b u e
  ·exact nit c _ z
end
noncomputable def mO (ds es:List D):List D:=U9 (fun x y=>D.tup [x,y]) ds es
theorem boot_zip:bootBuiltins "zip"=some (.type "zip"):=by decide +kernel
theorem kF {K:QM}:∀ {bs:List Bool} {xs:List V},ak K H (bs.map D.bl) xs→xs=bs.map V.bl
 | [],xs,h=>by rw [RJ,aA] at h; subst h; rfl
 | b::bs,xs,h=>by
  rw [QW,aE] at h
  obtain ⟨x,r,rfl,h1,h2⟩:=h
  rw [cP] at h1
  rw [h1,kF h2]; rfl
theorem tL:∀ {bs:List Bool} {us:List Value},Vals (bs.map V.bl) us→us=bs.map TN
 | [],_,h=>by cases h; rfl
 | b::bs,_,h=>by
  cases h with
  | cons q t =>
   cases q
   rw [tL t]; rfl
theorem range_all (bs:List Bool):(Rt bs.length).all (fun i=>bs.getD i true)=bs.all id:=by
 induction bs with
 | nil=>rfl
 | cons b bs ih =>
  rw [RH,List.range_succ_eq_map,List.all_cons,List.all_map,List.all_cons,← ih]
  rfl
theorem zh (hc:X.calm=true):fE X (.builtin "all") (fun xs H Q=>∃ (p:Addr) (bs:List Bool),xs=[.ref p]∧gn X.K H p (bs.map V.bl)∧Q (.bl (bs.all id)) H):=by
 intro aa s σ H xs us Q I r h
 obtain ⟨p,bs,rfl,hq,q⟩:=h
 obtain ⟨u,rfl,rx⟩:=vals1 r
 cases rx
 obtain ⟨its,rv,pl,hz⟩:=I.list hq
 have e:=tL rv
 subst e
 have hlt:p<s.heap.objs.size:=by obtain ⟨o,e,_⟩:=pl.isList; exact QX e
 refine call_all_walk (T4 pl.isList ?_)
 have hh:X.A.in1.handled=none:=I.ok.hd hc
 refine ⟨_,_,_,_,_,_,fun i=>bs.getD i true,rfl,Walks.list hh s.heap.objs.size p (Ri hlt) (bs.map TN).toArray,⟨⟨_,Q5 _ rfl,rfl,rfl⟩,pl.isList.at fun o e=>QV _ e⟩,?_,?_⟩
 ·intro i v s Q E hP hQ
  have hP':(bs.map TN)[i]?=some v:=by simpa using hP
  rw [Q3,Q7] at hP'
  obtain ⟨b,hb,rfl⟩:=hP'
  have e:bs.getD i true=b:=by rw [R3,hb]; rfl
  have EC:Q (bs.getD i true) s:=hQ
  rw [e] at EC
  exact UB EC
 ·intro h' tk hk
  have es:(bs.map TN).toArray.size=bs.length:=by simp
  rw [es,range_all]
  exact ⟨.bl (bs.all id),H,I.kept (h':=h') (t':=tk) (fun b u e=>hk b u (by simpa using Ri (QX e)) (QV _ e)),rfl,q⟩
section
variable {K:QM} {c:Ctx P w K mg base k N sc bk}
theorem boot_all:bootBuiltins "all"=some (.builtin "all"):=by decide +kernel
theorem HW (hm:mg "all"=none) (h:aH c e ρ fun x=>∃ bs:List Bool,x=.lst (bs.map D.bl)∧R (.bl (bs.all id))) (hg:sc.names.lookup (QK "all")=some .globalImplicit:=by walk_at "u")
 (he:∀ env,starEach [e] env=(false,eval e env)::starEach [] env:=by intro _; walk_at "u"):aH c (.Call (.Name "all" p) [e] [] pos) ρ R :=
 o7 (zh c.calm) (q:=fun ds R=>∃ bs:List Bool,ds=[.lst (bs.map D.bl)]∧R (.bl (bs.all id))) (by
  rintro ds vs H Hf Q R s rs ⟨bs,rfl,hR⟩ q
  obtain ⟨v,rfl,rv⟩:=lW rs
  rw [aS] at rv
  obtain ⟨a,xs,rfl,h1,h2⟩:=rv
  rw [kF h2] at h1
  exact ⟨a,bs,rfl,s.seq h1,q _ _ H Hf hR (cP.mpr rfl) (.refl s)⟩) hm boot_all (bx (h.imp fun d ⟨bs,e,hR⟩=>fJ ⟨bs,by rw [e],hR⟩) he) hg (by decide) (by decide) he (by intro _; walk_at "u")
end
end EV
namespace EV
open PySem PySem.Spec PyProof.Rows L2
theorem qN {A:List aL} {l:List Int} {n:Int} {t:aL} (h:t∈putD A l n):t.1=l∨t∈A:=by
 unfold putD at h
 split at h
 ·obtain ⟨u,hu,e⟩:=Rj.mp h
  split at e
  ·rename_i q; subst e; exact .inl q
  ·subst e; exact .inr hu
 ·rcases Rg.mp h with q | q
  ·exact .inr q
  ·simp at q; subst q; exact .inl rfl
theorem jv (hl:∀ t∈ts,t.1.length≤n):∀ t∈aV ts,trim t.1=t.1∧t.1.length≤n:=by
 unfold aV
 suffices H:∀ A:List aL,(∀ t∈A,trim t.1=t.1∧t.1.length≤n)→∀ t∈ts.foldl fX A,trim t.1=t.1∧t.1.length≤n from H [] (by simp)
 induction ts with
 | nil=>exact fun A h=>h
 | cons u ts ih =>
  refine fun A h=>ih (fun t ht=>hl t (Q9 _ ht)) _ fun t ht=>?_
  rcases qN ht with e | e
  ·rw [e,cB]
   exact ⟨rfl,Q4 (gC _) (hl u Q6)⟩
  ·exact h t e
noncomputable def aG (ts:List aL):List aL:=jr (nz (aV ts))
theorem xS (h:(A.map (·.1)).Nodup):((nz A).map (·.1)).Nodup:=List.Nodup.sublist (List.filter_sublist.map _) h
theorem jX (ts):(aG ts).Perm (nz (aV ts)):=b9 _
theorem mP (h:t∈aG ts):t∈aV ts∧t.2≠0:=by
 have:=(jX ts).subset h
 unfold nz at this
 rw [U1] at this
 exact ⟨this.1,by simpa using this.2⟩
theorem mQ (ts):(aG ts).length≤ts.length:=by
 rw [(jX ts).length_eq]
 exact Q4 (List.length_filter_le _ _) (g6 ts)
theorem Cq (h:∀ t∈ts,t.1.length≤n):∀ t∈aG ts,t.1.length≤n:=fun t ht=>(jv h t (mP ht).1).2
end EV
namespace EV
open PySem PySem.Spec PySem.Calls PyProof.Rows L2
theorem Gn {K:QM} {f:Int→Int→Int}:yJ K (fun xs H Q=>∃ i j,xs=[.int i,.int j]∧Q (.int (f i j)) H) (fun ds R=>∃ i j:Int,ds=[.int i,.int j]∧R (.int (f i j))):=by
 rintro ds vs H Hf Q R s rs ⟨i,j,rfl,hR⟩ q
 obtain ⟨v,r,rfl,r1,r2⟩:=aE.mp rs
 obtain ⟨v',r',rfl,r1',r2'⟩:=aE.mp r2
 rw [aA] at r2'
 subst r2'
 rw [av] at r1 r1'
 subst r1 r1'
 exact ⟨i,j,rfl,q _ _ H Hf hR (av.mpr rfl) (.refl s)⟩
section
variable {K:QM} {c:Ctx P w K mg base k N sc bk}
theorem boot_max:bootBuiltins "max"=some (.builtin "max"):=by decide +kernel
theorem Cr (hm:mg "max"=none) (h:aH c a ρ fun x=>aH c b ρ fun y=>I2 (fun i j=>R (.int (if j>i then j else i))) x y) (hg:sc.names.lookup (QK "max")=some .globalImplicit:=by walk_at "u")
 (he:∀ env,starEach [a,b] env=(false,eval a env)::starEach [b] env:=by intro _; walk_at "u") (he2:∀ env,starEach [b] env=(false,eval b env)::starEach [] env:=by intro _; walk_at "u")
 (hpl:∀ env,(backTo pos (starEach [b] env)).any (·.1)=false:=by intro _; walk_at "u"):aH c (.Call (.Name "max" p) [a,b] [] pos) ρ R :=
 o7 (yD c.calm) (Gn (f:=fun i j=>if j>i then j else i)) hm boot_max (bx (h.imp fun x h1=>bx (h1.imp fun y ⟨i,j,e1,e2,hR⟩=>fJ ⟨i,j,by rw [e1,e2],hR⟩) he2) he) hg (by decide) (by decide) he hpl
theorem HX (h:aH c a ρ fun x=>aH c b ρ fun y=>I2 (fun i j=>Sd (yC i j) (R (.int (i * 2 ^ j.toNat)))) x y):aH c (.BinOp a .LShift b pos) ρ R :=
 iA (nY Jl lV (h.imp fun x hx=>hx.imp fun y ⟨i,j,e1,e2,⟨hc,r⟩⟩=>⟨i,j,e1,e2,hc,_,rfl,r⟩))
theorem HY (h:aH c a ρ fun x=>aH c b ρ fun y=>I2 (fun i j=>Sd (0≤j) (R (.int (i / 2 ^ j.toNat)))) x y):aH c (.BinOp a .RShift b pos) ρ R :=
 iA (nY Jm lV (h.imp fun x hx=>hx.imp fun y ⟨i,j,e1,e2,⟨hc,r⟩⟩=>⟨i,j,e1,e2,hc,_,rfl,r⟩))
theorem Cs (h:aH c a ρ fun x=>aH c b ρ fun y=>I2 (fun i j=>R (.int (Builtin.bitAnd i j))) x y):aH c (.BinOp a .BitAnd b pos) ρ R :=
 iA (nY Jo A9 (h.imp fun x hx=>hx.imp fun y ⟨i,j,e1,e2,r⟩=>⟨i,j,e1,e2,_,rfl,r⟩))
end
noncomputable abbrev OF:=List (Key×D)→List D→(List (Key×D)→Prop)→Prop
noncomputable def Kx (K:QM) (F:OF):Sp:=fun vs H Q _=>∃ Hf p kvs xs us ds B,vs=.ref p::us∧aM Hf H∧H p=some (.dK xs)∧Hf p=none∧nL K Hf kvs xs∧ak K Hf ds us∧F kvs ds B ∧
 ∀ kvs' H' ai xs',B kvs'→bu (del H p) Hf H' ai→H' p=some (.dK xs')→ai p=none→nL K ai kvs' xs'→Q .non H'
structure zj (P:Program) (w:World) (K:QM) (mg:Str→Option Value) (base:Heap) (k:Nat) (x:Str) (F:OF):Prop where
 ex:∃ f fd ps,mg x=some (.ref f)∧SK K (.ref f)=true∧Binds K fd ps []∧bf P w K mg base (cO P w) k f fd ps (Kx K F)
noncomputable def startM (q:Addr) (kvs:List (Key×D)) (N:List Str) (ds:List D):List Sl:=.aK q kvs::(ds.map .va++QY (N.length - (ds.length+1)) .un)
theorem zk {K:QM} (r:ak K Hf ds us) (sb:aM Hf H) (h1:H q=some (.dK xs)) (h2:Hf q=none) (h3:nL K Hf kvs xs) :
 c6 K (del H q) Hf (L2.start N (.ref q::us)) H Hf (startM q kvs N ds):=by
 have hl:=r.length
 have rest:∀ (i:Nat) (r':Sl),(startM q kvs N ds)[i+1]?=some r'→r'≠.un→∃ d,ds[i]?=some d∧r'=.va d:=fun i r' h hu=>by
  have h':(ds.map Sl.va++QY (N.length - (ds.length+1)) Sl.un)[i]?=some r':=by simpa [startM] using h
  by_cases w:i<ds.length
  ·rw [Tg (by simpa using w),Q3,Ro w] at h'
   cases h'
   exact ⟨_,by simp,rfl⟩
  ·rw [Ur (by simp; lia)] at h'
   exact absurd (UM (Si h')) hu
 refine ⟨⟨fun b o e=>(jc e).2,.refl _,sb,fun _ h _ _=>h⟩,by simp [L2.start,startM,hl],fun i r' h hu=>?_,fun i j r1 r2 p hne e1 e2 o1 o2=>?_⟩
 ·cases i with
  | zero =>
   have:r'=.aK q kvs:=by simpa [startM] using h.symm
   subst this
   exact ⟨.ref q,by simp [L2.start],q,xs,rfl,⟨jb,rfl⟩,h1,h2,h3⟩
  | succ i =>
   obtain ⟨d,hd,rfl⟩:=rest i r' h hu
   obtain ⟨x,e2,rx⟩:=r.get hd
   refine ⟨x,?_,rx⟩
   have hi:i<us.length:=(Q2.mp e2).1
   unfold L2.start
   rw [Tg (by simp; lia)]
   simp [e2]
 ·exfalso
  have own:∀ {i:Nat} {r:Sl},(startM q kvs N ds)[i]?=some r→r.owned=true→i=0:=fun {i r} h ho=>by
   cases i with
   | zero=>rfl
   | succ i =>
    obtain ⟨d,_,rfl⟩:=rest i r h (by rintro rfl; cases ho)
    cases ho
  exact hne ((own e1 o1).trans (own e2 o2).symm)
section
variable {K:QM} {c:Ctx P w K mg base k N sc bk}
theorem Ng {st:Stmt} (Fu:dR K x qual st f fd) (Sc:aB N ps (af st)) (Vi:∀ x∈N,Loc (af st) x) (ar:∀ kvs ds B,F kvs ds B→ds.length+1=ps.length)
 (body:∀ (c:Ctx P w K mg base k N (af st) false),c.X.xe=(fun _ _=>False)→∀ q kvs ds B,F kvs ds B→aN c (aq st) (startM q kvs N ds) (fun ρ=>∃ kvs' r,B kvs'∧ρ=.aK q kvs'::r) { rt:=fun _=>False }) :
 bf P w K mg base (cO P w) (k+1) f fd ps (Kx K F):=by
 obtain ⟨oc,od,kV,doc,pm,an,cdv,ct,osl,rfl,lk,hcd⟩:=Fu.ex
 refine AN lk hcd Sc (fun vs H Q E hh=>z4 hh fun Hf q kvs xs hh=>z3 hh fun us ds B hh=>w8 hh fun e _ _ _ _ rs hF _=>by rw [e,RH,← rs.length]; exact ar _ _ _ hF) fun A outer s H vs Q E hr hh=>z4 hh fun Hf q kvs xs hh=>z3 hh fun us ds B hh=>w8 hh fun e sb h1 h2 h3 rs hF hq=>?_
 subst e
 let X:Cx:=(rL (cO P w) P w K mg base N qual (af st) f cdv A outer s H E).Hw
 let c:Ctx P w K mg base k N (af st) false :=
  { X:=X,eP:=rfl,ew:=rfl,eK:=rfl,emg:=rfl,eb:=rfl,eN:=rfl,esc:=rfl,calm:=rfl,top:=fun _=>⟨rfl,rfl,rfl⟩,cb:=fun _ _ _ _ _ I x c h=>I.ok.cab x c rfl h,fn:=fun _ _=>.inl rfl,B:=del H q,room:=hr,nd:=Sc.nd,vis:=Vi,Hf:=Hf,RX:=fun _ _=>False,
    exc:=fun _ _ _ _ _ _ _ _ _ _ _ _ h _ _=>h.elim,RM:=fun _ _=>False,mde:=fun _ _ _ _ _ _ _ _ _ _ _ _ h _=>h.elim }
 refine ⟨_,uI.Hw (t:=JH X (aq st)) (rZ (X:=X)),?_⟩
 refine body c rfl q kvs ds B hF (L2.start N (.ref q::us)) H Hf _ (zk rs sb h1 h2 h3) ⟨fun σ H' ai ρ S ⟨kvs',r,hB,e⟩=>?_,fun r v H' ai g rv e=>e.elim,fun _ _ _ _ _ h=>h.elim,fun _ _ _ _ _ h=>h.elim⟩
 subst e
 obtain ⟨v,_,q',xs',_,⟨_,rfl⟩,a1,a2,a3⟩:=S.at_ 0 _ rfl (by simp)
 exact hq kvs' H' ai xs' hB S.bas a1 a2 a3
theorem xT (h:zj P w K mg base j x F) (hj:j≤k) (hN:At N i y) (hi:At ρ i r) (hr:r.u0=some kvs)
 (ha:r6 c es ρ fun ds=>∃ B,F kvs ds B∧∀ kvs',B kvs'→Nx ρ i nx (r.sA kvs'))
 (hg:sc.names.lookup x=some .globalImplicit:=by walk_at "u") (hdb:(x == ("__debug__":Str))=false:=by decide) (hd:(y == ("__debug__":Str))=false:=by decide) (hcd:(y == ("__classdict__":Str))=false:=by decide)
 (he:∀ env,starEach (.Name y py::es) env=(false,eval (.Name y py) env)::starEach es env:=by intro _; walk_at "u")
 (hpl:∀ env,(backTo cp (starEach es env)).any (·.1)=false:=by intro _; walk_at "u")
 (hs:∀ env,swapsWith (.Call (.Name x px) (.Name y py::es) [] cp) none pos.line env=pure false:=by intro _; walk_at "u"):fH c (.Expr (.Call (.Name x px) (.Name y py::es) [] cp) pos) ρ nx p:=fun σ H Hf D S o=>by
 obtain ⟨q,eq,rq⟩:=S.own hi.get (l0 hr)
 obtain ⟨xs,h1,h2,h3⟩:=yS hr rq
 refine d7 (kY cW (hs _)) (show bE c.X _ σ H (fun _ H'=>D.nx σ H') from fun aa s I=>?_)
 obtain ⟨f,fd,ps,hm,hk,hb,hF⟩:=h.ex
 refine SG (i6 I (by unfold Gl Rz; rw [c.esc]; exact hg) (by rw [c.emg]; exact hm) ?_ hdb)
 have hA:bA c.X (.Name y py::es) σ H (fun vs H1=>∃ us aP ds B,vs=.ref q::us∧F kvs ds B∧(∀ kvs',B kvs'→Nx ρ i nx (r.sA kvs'))∧ak c.X.K aP ds us∧bu H Hf H1 aP) :=
  o6 (bL (c.lY hN hd hcd) Fe (he _)) ⟨_,eq,ha σ H Hf _ S fun ds vs H1 aP ⟨B,hF,hn⟩ rs g=>⟨vs,aP,ds,B,rfl,hF,hn,rs,g⟩⟩
 refine VA (h₀:=c.X.base) I.ok.mod.kin (by rw [c.eK]; exact hk) (bD (hA cp aa s I) fun us s1 hh=>z2 hh fun vs H1 hh=>w3 hh fun I1 rv hh=>z4 hh fun us' aP ds B hh=>w5 hh fun ev hF' hn rs g=>⟨I1.qb,?_⟩) (he _) (hpl _)
 subst ev
 have S1:=S.cE g
 have rq1:=rq.cE g
 obtain ⟨xs1,a1,a2,a3⟩:=yS hr rq1
 have hF2:bf c.X.prog c.X.w c.X.K c.X.mg c.X.base (cO c.X.prog c.X.w) k f fd ps (Kx c.X.K F):=by rw [c.eP,c.ew,c.eK,c.emg,c.eb]; exact hF.mono hj
 have rF:Kx c.X.K F (.ref q::us') H1 (fun _ H'=>D.nx σ H') (fun _ _ _=>False):=by
  refine ⟨aP,q,kvs,xs1,us',ds,B,rfl,g.b,a1,a2,a3,rs,hF',fun kvs' H' ai xs' hB g2 b1 b2 b3=>?_⟩
  obtain ⟨ρ',hs',hn⟩:=hn kvs' hB
  refine o.nx σ H' ai ρ' ?_ hn
  rw [hs'.eq]
  exact S1.upd hi.get (l0 hr) eq g2 (sC hr rq1 b1 b2 b3) (l5 hr)
 have hl:us.length=ps.length:=by rw [← rv.length]; exact hF2.len _ _ _ _ rF
 have hb':Binds c.X.K fd ps []:=by rw [c.eK]; exact hb
 have hb2:=hb' s1 us I1.qb (by simpa using hl)
 rw [Ru] at hb2
 refine UJ (UE (hF2.run c.X.A c.X.stack s1 H1 ⟨us,[]⟩ us _ _ _ c.room I1.EX hb2 rv rF) fun r' s' hq=>?_)
 cases r' with
 | error e =>
  obtain ⟨a,C,H',rfl,hE,h⟩:=hq
  exact h.elim
 | ok fl =>
  cases fl with
  | ret u=>exact I1.after hq
  | next=>exact RU hq
  | brk=>exact RU hq
  | cont=>exact RU hq
end
theorem ak.many {K:QM} (h:ak K H ds xs):∀ k:Nat,ak K H (QY k ds).flatten (QY k xs).flatten
 | 0=>aA.mpr rfl
 | k+1=>by
  rw [Sy,Sy,To,To]
  exact h.append (ak.many h k)
theorem ak.set {K:QM}:∀ {ds:List D} {xs:List V} (i:Nat) {d:D} {v:V},ak K H ds xs→Rep K H d v→ak K H (ds.set i d) (xs.set i v)
 | [],_,i,_,_,h,_=>by rw [aA] at h; subst h; exact aA.mpr rfl
 | e::ds,_,i,d,v,h,q=>by
  obtain ⟨x,r,rfl,h1,h2⟩:=aE.mp h
  cases i with
  | zero=>exact .cons q h2
  | succ i=>exact .cons h1 (ak.set i h2 q)
theorem Ct {n k:Nat} {i:Int} (hi:i=k) (e:s.heap.get? l=some { cls:=.type "list",data:=.seq items n }) (hk:k<items.size) (hf:items.size<2 ^ 63)
 (hQ:Q () { s with heap:=s.heap.update l (Rw fun xs=>xs.setIfInBounds k v) }):wpAny (model prog w) A (setItem (.ref l) (.int i t) v) Q E s:=by
 have ht:s.TypeIs (.ref l) "list":=⟨_,e,rfl⟩
 have hx:items[k]?=some items[k]:=Rm hk
 unfold setItem
 refine Sf (QL (WN ht (by decide) ?_))
 refine QL (SN (name:=QK "__setitem__") ht PySem.slot_list_setitem (Sk PySem.slot_list_setitem ht PySem.entry_list_setitem ?_ (PySem.args_list_setitem _ _ _)))
 show wpAny _ _ (Builtin.List.listSubscript? (.int i t) >>= _) _ _ s
 refine QL (wpAny_listSubscript_int (fitsIndex_of (show 0≤i by lia) (show i<2 ^ 63 by lia)) ?_)
 clear hf
 subst hi
 show wpAny _ _ ((seqItemAt l k >>= fun r=>pure (r.map fun x=>(k,x))) >>= _) _ _ s
 refine QL (QL (wpAny_seqItemAt e rfl (QN ?_)))
 rw [hx]
 show wpAny _ _ (setSeqItemAt l k v >>= _) _ _ s
 refine QL (wpAny_setSeqItemAt e rfl ?_)
 first
  | exact QL (QN (QN ⟨RW,rfl,QN hQ⟩))
  | exact QN ⟨RW,rfl,QN hQ⟩
noncomputable def Nh:IX:=fun o i v H Q=>∃ l xs k,o=.ref l∧i=.int (k:Nat)∧H l=some (.lst xs)∧k<xs.length∧Q (upd H l (.lst (xs.set k v)))
theorem Cu:L7 X Nh:=by
 intro aa s σ H o i v ov iv u Q I r1 r2 r3 h
 obtain ⟨l,xs,k,rfl,rfl,hH,hk,q⟩:=h
 cases r1
 obtain ⟨t,rfl⟩:=r2
 obtain ⟨z,its,n,r,hl,e⟩:=I.rN hH
 have hbig:xs.length<2 ^ 63:=Tc z (by decide)
 refine Ct rfl e (by rw [Rb,← hl]; exact hk) (by rw [Rb,← hl]; exact hbig) ⟨_,I.uW (its':=its.set k u) (t':=s.toks) hH e ?_ (Vals.set r3 k r) (by rw [List.length_set]; exact z),q⟩
 show its.toArray.setIfInBounds k u=(its.set k u).toArray
 simp
theorem Gp:Pf X "int.bit_length" (fun x vs H Q=>∃ i,x=.int i∧vs=[]∧Q (.int (Se i:Nat)) H):=by
 intro aa s σ H x xs v us Q I r1 r2 h
 obtain ⟨i,rfl,rfl,q⟩:=h
 obtain ⟨t,rfl⟩:=r1
 cases r2
 exact PyProof.Rows.call_int_bit_length ⟨.int (Se i:Nat),H,I.tok _,⟨_,rfl⟩,q⟩
section
variable {K:QM} {c:Ctx P w K mg base k N sc bk}
theorem Ky (h:aH c e ρ (I1 fun i=>R (.int (Se i:Nat)))) (hbase:∀ env,attributeBase e "bit_length" env (eval e env)=eval e env:=by intro _; walk_at "u") (hline:(ap.endLine == cp.line)=true:=by walk_at "u") :
 aH c (.Call (.Attribute e "bit_length" ap) [] [] cp) ρ R:=fun σ H Hf Q S q =>
 bM (AW PySem.F.plainAttrs_int PySem.F.slot_int_bit_length PySem.F.type_int_bit_length Gp cW (hbase _) hline) (h σ H Hf _ S fun d v H' ai ⟨i,e,hR⟩ r g=>by
  subst e
  rw [av] at r; subst r
  exact ⟨rfl,i,rfl,rfl,q _ _ H' ai hR (av.mpr rfl) g⟩)
theorem HZ {R:Sl→Prop} (h:dz c a ρ fun r=>∃ ds,r=.ow ds∧aH c b ρ (I1 fun n=>Sd ((0≤n∧n<2 ^ 63)∧ds.length * n.toNat≤sizeLine) (R (.ow (QY n.toNat ds).flatten)))):dz c (.BinOp a .Mult b pos) ρ R:=fun σ H Hf Q S q =>
 bM (AI Jw cW cW) (h σ H Hf _ S fun r v H1 aP ⟨ds,er,h1⟩ rr g1=>h1 σ H1 aP _ (S.cE g1) fun dn u H2 cK ⟨n,en,⟨⟨n0,n1⟩,hz⟩,hR⟩ rn g2=>by
  subst er en
  rw [av] at rn; subst rn
  obtain ⟨l,xs,rfl,fl,k1,k2,k3⟩:=rr
  have k1':=g2.s _ _ k1
  refine ⟨l,n,xs,rfl,rfl,k1',by lia,n1,by rw [← k3.length]; exact hz,fun p hp=>?_⟩
  have g3:=bu.gp (o:=.lst (QY n.toNat xs).flatten) g2.b hp
  exact q _ _ _ _ hR ⟨p,_,rfl,(g1.trans g2).s.free hp,ah,g2.b.free hp,(k3.mono g2.f).many _⟩ ((g1.trans g2).trans g3))
theorem Kz (hN:At N i x) (hi:At ρ i r) (hr:r.getL=some ds) (h:aH c e ρ fun dv=>aH c b ρ fun dk=>∃ m:Nat,dk=.int m∧Sd (m<ds.length) (Nx ρ i nx (r.putL (ds.set m dv))))
 (hs:∀ env,swapsWithSole [.Subscript (.Name x px) b tp] e pos.line env=pure false:=by intro _; walk_at "u") (hw:∀ env,swappedStores [.Subscript (.Name x px) b tp] e env=pure none:=by intro _; walk_at "u")
 (h1:∀ env,(assignEach [.Subscript (.Name x px) b tp] env).map (·.2)=[assign (.Subscript (.Name x px) b tp) env]:=by intro _; walk_at "u")
 (ha:∀ env v,assign (.Subscript (.Name x px) b tp) env v=(do
   let ov ← holding [v] (eval (.Name x px) env)
   let iv ← holding [v,ov] (eval b env)
   standAt tp
   holding [v,ov,iv] (setItem ov iv v)
   release [v,ov,iv] []):=by intro _ _; walk_at "u")
 (hd:(x == ("__debug__":Str))=false:=by decide) (hcd:(x == ("__classdict__":Str))=false:=by decide):fH c (.Assign [.Subscript (.Name x px) b tp] e pos) ρ nx p:=fun σ H Hf D S o=>by
 obtain ⟨q,eq,rq⟩:=S.own hi.get (c7 hr)
 refine d7 (I0 cW (IZ (c.lY hN hd hcd) cW Cu (ha _)) (hs _) (hw _) (h1 _)) (h σ H Hf _ S fun dv v H1 aP h2 rv g1=>⟨_,eq,h2 σ H1 aP _ (S.cE g1) fun dk y H2 cK ⟨m,em,hm,ρ',hs',hn⟩ ry g2=>?_⟩)
 subst em
 rw [av] at ry; subst ry
 have g:=g1.trans g2
 obtain ⟨xs,k1,k2,k3⟩:=JZ hr (rq.cE g)
 refine ⟨q,xs,m,rfl,rfl,k1,by rw [← k3.length]; exact hm,o.nx _ _ cK ρ' ?_ hn⟩
 rw [hs'.eq]
 exact (S.cE g).upd hi.get (c7 hr) eq (gX g.b k2) (lZ hr (rq.cE g) ah k2 (k3.set m (Rep.mono g2.f _ rv))) (iE hr)
end
theorem iK {K:QM}:∀ {ns:List Int} {xs:List V},ak K H (ns.map D.int) xs→xs=ns.map V.int
 | [],xs,h=>by rw [RJ,aA] at h; subst h; rfl
 | b::bs,xs,h=>by
  rw [QW,aE] at h
  obtain ⟨x,r,rfl,h1,h2⟩:=h
  rw [av] at h1
  rw [h1,iK h2]; rfl
theorem gD {ns:List Int} {us:List Value} (h:Vals (ns.map V.int) us) (i:Nat) (v:Value) (e:us.toArray[i]?=some v):∃ t,v=.int (ns.getD i 0) t:=by
 have e':us[i]?=some v:=by simpa using e
 have hi:i<ns.length:=by
  have:=(Q2.mp e').1
  have l:=h.length
  rw [QU] at l
  omega
 obtain ⟨u,hu,r⟩:=h.get (i:=i) (x:=.int (ns.getD i 0)) (by simp [R3,hi])
 rw [e'] at hu; cases hu
 exact r
theorem mR (I:Inv X aa σ H s) (hq:gn X.K H p xs) :
 ∃ its:List Value,Vals xs its∧s.heap.IsList p its.toArray∧p<s.heap.objs.size:=by
 obtain ⟨its,rv,pl,hz⟩:=I.list hq
 exact ⟨its,rv,pl.isList,by obtain ⟨o,e,_⟩:=pl.isList; exact QX e⟩
theorem pU (I:Inv X aa σ H s) (hk:∀ b o,b∉[s.heap.objs.size]→(s.heap.push ob).get? b=some o→h'.get? b=some o):Inv X aa σ H { s with heap:=h',toks:=tk } :=
 I.kept (h':=h') (t':=tk) fun b u e=>hk b u (by simpa using Ri (QX e)) (QV _ e)
theorem zm (hc:X.calm=true):fE X (.builtin "max") (fun xs H Q=>∃ (p:Addr) (ns:List Int),xs=[.ref p]∧ns≠[]∧gn X.K H p (ns.map V.int)∧∀ m∈ns,(∀ n∈ns,n≤m)→Q (.int m) H):=by
 intro aa s σ H xs us Q I r h
 obtain ⟨p,ns,rfl,hne,hq,q⟩:=h
 obtain ⟨u,rfl,rx⟩:=vals1 r
 cases rx
 obtain ⟨its,rv,pl,hlt⟩:=mR I hq
 have hn:its.toArray.size=ns.length:=by have l:=rv.length; rw [QU] at l; simp [l]
 have hpos:0<ns.length:=List.length_pos_iff.mpr hne
 refine call_max_walk (T4 pl ?_)
 have hh:X.A.in1.handled=none:=I.ok.hd hc
 refine ⟨_,_,_,_,_,_,_,rfl,Walks.list hh s.heap.objs.size p (Ri hlt) its.toArray,⟨⟨_,Q5 _ rfl,rfl,rfl⟩,pl.at fun o e=>QV _ e⟩,?_,by rw [hn]; exact hpos,CmpOf.ints_gt (fun i=>ns.getD i 0) (gD rv),?_⟩
 ·intro b hb
  show b<(s.heap.push _).objs.size
  rw [SD]
  simp only [Q0,RP,or_false] at hb
  rcases hb with rfl | rfl
  ·exact T6 _
  ·exact WU hlt
 ·intro v h' tk hP hk
  obtain ⟨t,rfl⟩:=gD rv _ _ hP
  obtain ⟨b1,b2⟩:=argBest_gt (fun i=>ns.getD i 0) (its.toArray.size - 1)
  rw [hn] at b1 b2 ⊢
  have J:=pU (s:=s) (tk:=tk) I hk
  refine ⟨.int _,H,J,⟨_,rfl⟩,q _ ?_ fun n hm=>?_⟩
  ·rw [R3,Ro (by omega)]
   exact RI _
  ·obtain ⟨j,hj,rfl⟩:=List.getElem_of_mem hm
   have:=b2 j (by omega)
   rw [show ns.getD j 0=ns[j] by simp [R3,hj]] at this
   exact this
theorem xU (ns:List Int):∀ j,j≤ns.length→preSum (fun i=>ns.getD i 0) j=(ns.take j).sum
 | 0,_=>rfl
 | j+1,h=>by
  show preSum (fun i=>ns.getD i 0) j+ns.getD j 0=_
  rw [xU ns j (by omega),Sa (by omega),UC]
  simp [R3,show j<ns.length by omega]
theorem zo (hc:X.calm=true):fE X (.builtin "sum") (fun xs H Q=>∃ (p:Addr) (ns:List Int),xs=[.ref p]∧gn X.K H p (ns.map V.int)∧Q (.int ns.sum) H):=by
 intro aa s σ H xs us Q I r h
 obtain ⟨p,ns,rfl,hq,q⟩:=h
 obtain ⟨u,rfl,rx⟩:=vals1 r
 cases rx
 obtain ⟨its,rv,pl,hlt⟩:=mR I hq
 have hn:its.toArray.size=ns.length:=by have l:=rv.length; rw [QU] at l; simp [l]
 refine call_sum_walkG (T4 pl ?_)
 have hh:X.A.in1.handled=none:=I.ok.hd hc
 refine ⟨_,_,_,_,_,_,fun i=>ns.getD i 0,rfl,Walks.list hh s.heap.objs.size p (Ri hlt) its.toArray,⟨⟨_,Q5 _ rfl,rfl,rfl⟩,pl.at fun o e=>QV _ e⟩,?_,gD rv,?_⟩
 ·intro b hb
  show b<(s.heap.push _).objs.size
  rw [SD]
  simp only [Q0,RP,or_false] at hb
  rcases hb with rfl | rfl
  ·exact T6 _
  ·exact WU hlt
 ·intro h' tk t' hk
  rw [hn,xU ns _ (QS _),R9]
  have J:=pU (s:=s) (tk:=tk) I hk
  exact ⟨.int ns.sum,H,J,⟨_,rfl⟩,q⟩
section
variable {K:QM} {c:Ctx P w K mg base k N sc bk}
theorem boot_sum:bootBuiltins "sum"=some (.builtin "sum"):=by decide +kernel
theorem zp {Z:List Int→Int→Prop} (hr:∀ (p:Addr) (ns:List Int) H Q,gn K H p (ns.map V.int)→(∀ m,Z ns m→Q (.int m) H)→ns≠[]→r [.ref p] H Q) :
 yJ K r (fun ds R=>∃ ns:List Int,ns≠[]∧ds=[.lst (ns.map D.int)]∧∀ m,Z ns m→R (.int m)):=by
 rintro ds vs H Hf Q R s rs ⟨ns,hne,rfl,hR⟩ q
 obtain ⟨v,rfl,rv⟩:=lW rs
 rw [aS] at rv
 obtain ⟨a,xs,rfl,h1,h2⟩:=rv
 rw [iK h2] at h1
 exact hr a ns H Q (s.seq h1) (fun m hm=>q _ _ H Hf (hR m hm) (av.mpr rfl) (.refl s)) hne
theorem KA (hm:mg "max"=none) (h:aH c e ρ fun x=>∃ ns:List Int,ns≠[]∧x=.lst (ns.map D.int)∧∀ m,(m∈ns∧∀ n∈ns,n≤m)→R (.int m)) (hg:sc.names.lookup (QK "max")=some .globalImplicit:=by walk_at "u")
 (he:∀ env,starEach [e] env=(false,eval e env)::starEach [] env:=by intro _; walk_at "u"):aH c (.Call (.Name "max" p) [e] [] pos) ρ R :=
 o7 (zm c.calm) (zp (Z:=fun ns m=>m∈ns∧∀ n∈ns,n≤m) fun p ns H Q h q hne=>⟨p,ns,rfl,hne,h,fun m h1 h2=>q m ⟨h1,h2⟩⟩) hm boot_max
  (bx (h.imp fun d ⟨ns,hne,e,hR⟩=>fJ ⟨ns,hne,by rw [e],hR⟩) he) hg (by decide) (by decide) he (by intro _; walk_at "u")
theorem KC (hm:mg "sum"=none) (h:aH c e ρ fun x=>∃ ns:List Int,x=.lst (ns.map D.int)∧R (.int ns.sum)) (hg:sc.names.lookup (QK "sum")=some .globalImplicit:=by walk_at "u")
 (he:∀ env,starEach [e] env=(false,eval e env)::starEach [] env:=by intro _; walk_at "u"):aH c (.Call (.Name "sum" p) [e] [] pos) ρ R :=
 o7 (zo c.calm) (q:=fun ds R=>∃ ns:List Int,ds=[.lst (ns.map D.int)]∧R (.int ns.sum)) (by
  rintro ds vs H Hf Q R s rs ⟨ns,rfl,hR⟩ q
  obtain ⟨v,rfl,rv⟩:=lW rs
  rw [aS] at rv
  obtain ⟨a,xs,rfl,h1,h2⟩:=rv
  rw [iK h2] at h1
  exact ⟨a,ns,rfl,s.seq h1,q _ _ H Hf hR (av.mpr rfl) (.refl s)⟩) hm boot_sum (bx (h.imp fun d ⟨ns,e,hR⟩=>fJ ⟨ns,by rw [e],hR⟩) he) hg (by decide) (by decide) he (by intro _; walk_at "u")
end
section
variable {prog:Program} {w:World} {A:Around} {E:Value→Shared→Prop} {s:Shared}
variable {jt tp:Addr} {i:Nat} {items:Array Value}
theorem nextT (hh:A.handled=none) (h1:s.heap.IsTupleIter jt tp i) (h2:s.heap.IsTuple tp items)
 (hv:∀ v,items[i]?=some v→∀ h',h'.IsTupleIter jt tp (i+1)→SH jt s.heap h'→Q v { s with heap:=h' })
 (hn:items[i]?=none→∀ h' e,TM jt s.heap h'→(∃ o,h'.get? e=some o∧o.cls=.type "StopIteration")→E (.ref e) { s with heap:=h' }) :
 wpAny (model prog w) A (Sx (.ref jt)) Q E s:=by
 obtain ⟨ob,hob,hcb,hdb⟩:=id h1
 obtain ⟨ot,hot,_,m,hdt⟩:=id h2
 unfold Sx
 refine QL (SN (name:=QK "__next__") h1.typeIs F.slot_tuple_iterator_next (Sk F.slot_tuple_iterator_next h1.typeIs F.entry_tuple_iterator_next ?_ (F.args_tuple_iterator_next_1 _)))
 show wpAny _ _ (field (.ref jt) 0 >>= _) _ _ s
 refine QL (RD hob hdb (x:=.ref tp) rfl ?_)
 show wpAny _ _ (if (Rc tp == RW)=true then _ else _) _ _ s
 rw [if_neg (show ¬ ((Rc tp == RW)=true) from QZ)]
 show wpAny _ _ (field (.ref jt) 1 >>= _) _ _ s
 refine QL (RD hob hdb (x:=.int i 0) rfl ?_)
 show wpAny _ _ (seqItems? (.ref tp) >>= _) _ _ s
 refine QL (SV hot hdt ?_)
 rw [Rp]
 dsimp only
 cases hx:items[i]? with
 | some v =>
  have q:=hv v hx (s.heap.update jt (Obj.mapFields fun vs=>vs.setIfInBounds 1 (rawInt ((i:Int)+1)))) ⟨_,Heap.get?_update_self _ hob (Obj.isFreed_of_fields (VB hdb _)),(Obj.cls_mapFields ..).trans hcb,by rw [VB hdb]; simp [rawInt]⟩ (UT ..)
  dsimp only
  exact QL (U4 hob hdb (by simp) (QN ⟨v,rfl,QN q⟩))
 | none =>
  dsimp only
  refine QL (RV (QL (U4 hob hdb (by simp) (show wpAny _ _ (newExc (.type "StopIteration") [] >>= _) _ _ _ from QL ?_))))
  simp only [newExc,newTuple]
  refine QL (R0 (QL (m:=firstArgMember _ _) (wpAny_of_eq (a:=RW) (by first | rfl | (simp only [firstArgMember]; rfl)) (R0 ?_ (by size_fits)))) (by size_fits))
  simp only [raiseNew]
  refine QL (wpAny_handled ?_)
  rw [show A.in1.handled=none from hh]
  exact QL (QN (wpAny_throw (hn hx _ _ (((UT ..).extBut.push _).push _) ⟨_,Q5 _ rfl,rfl⟩)))
theorem KD (hh:A.handled=none) (jt tp:Addr) (hne:tp≠jt) (items:Array Value) :
 Draws prog w A jt [jt,tp] items.size (fun i v=>items[i]?=some v) (fun i h=>h.IsTupleIter jt tp i∧h.IsTuple tp items) where
 live:=fun _ _ ⟨⟨o,ho,_⟩,_⟩=>⟨o,ho⟩
 frame:=fun _ _ _ ⟨⟨o,e,r⟩,⟨o',e',r'⟩⟩ hk=>⟨⟨o,hk jt (by simp) o e,r⟩,o',hk tp (by simp) o' e',r'⟩
 item:=fun i s Q E hi ⟨s1,s2⟩ q=>nextT hh s1 s2 (fun v hv h' a b=>q v h' s.toks hv ⟨a,s2.extBut b.extBut hne⟩ b) fun hx=>by
  rw [Rm hi] at hx; cases hx
 done:=fun s Q E ⟨s1,s2⟩ q=>nextT hh s1 s2 (fun v hv=>by simp at hv) fun _=>q
end
set_option maxHeartbeats 1000000 in
theorem tM (tp) (items) (n) (dc) (sl) :
 Meets (Builtin.«enumerate.__new__» ⟨[.type "enumerate",.ref tp],[]⟩) (fun _ R s=>s.heap.get? tp=some { cls:=.type "tuple",dict:=dc,data:=.seq items n,slots:=sl } ∧
  R (.ok (.ret (.ref (s.heap.push { cls:=.type "tuple_iterator",data:=.fields #[.ref tp,.int 0 0] }).objs.size)))
   { s with heap:=(s.heap.push { cls:=.type "tuple_iterator",data:=.fields #[.ref tp,.int 0 0] }).push { cls:=.type "enumerate",data:=.fields #[.none,.bool false,.ref s.heap.objs.size,rawInt 0,.none,.none] } }) :=
 .of_wp fun prog w A R ⟨hp,g,d,tk,os⟩ ⟨hl,h⟩=>by
  have hz:=sub_enumerate
  have hT:Heap.IsTuple (Ug ⟨hp,g,d,tk,os⟩) tp items:=⟨_,hl,rfl,n,rfl⟩
  wp_walk using Vq hl
  refine wpAny_stack_any fun st=>QN ?_
  split
  ·rename_i k _ _ _ _ _
   cases (k == R6 "enumerate") <;> (wp_walk using Vq hl,WE hT; exact ⟨_,rfl,h⟩)
  ·wp_walk using Vq hl,WE hT; exact ⟨_,rfl,h⟩
section
theorem vp (hT:s.heap.IsTuple tp items)
 (h:∀ h',IsEnum h' (s.heap.objs.size+1) s.heap.objs.size 0 .none→h'.IsTupleIter s.heap.objs.size tp 0→(∀ b o,s.heap.get? b=some o→h'.get? b=some o)→Q (.ref (s.heap.objs.size+1)) { s with heap:=h' }) :
 wpAny (model prog w) A (call (.type "enumerate") [.ref tp]) Q E s:=by
 obtain ⟨⟨c,dc,dt,sl⟩,hl,hc,n,hd⟩:=hT
 obtain rfl:c=.type "tuple":=hc
 obtain rfl:dt=.seq items n:=hd
 refine callType_new F.called_enumerate (by decide) (F.typeCall_enumerate_1 _) (F.newCall_enumerate_1 _) (fun ob=>F.args_object_init_2 ob _) F.entry_enumerate_new (tM tp items n dc sl) ⟨hl,?_⟩
 generalize e1:s.heap.push { cls:=.type "tuple_iterator",data:=.fields #[.ref tp,.int 0 0] }=g1
 have hz:g1.objs.size=s.heap.objs.size+1:=by rw [← e1]; exact SD ..
 have hi:g1.get? s.heap.objs.size=some { cls:=.type "tuple_iterator",data:=.fields #[.ref tp,.int 0 0] }:=by rw [← e1]; exact Q5 _ rfl
 have hb:∀ b o,s.heap.get? b=some o→g1.get? b=some o:=fun b o q=>by rw [← e1]; exact QV _ q
 have he:IsEnum (g1.push { cls:=.type "enumerate",data:=.fields #[.none,.bool false,.ref s.heap.objs.size,rawInt 0,.none,.none] }) g1.objs.size s.heap.objs.size 0 .none:=Q5 _ rfl
 rw [hz] at he
 show _∧_
 rw [hz]
 exact ⟨⟨_,he,rfl⟩,h _ he ⟨_,QV _ hi,rfl,rfl⟩ fun b o q=>QV _ (hb b o q)⟩
end
noncomputable def mS (ds:List D):List D:=ds.zipIdx.map fun x=>D.tup [.int x.2,x.1]
noncomputable def PZ (K:QM) (t:Addr):It :=
 ⟨fun i H=>∃ xs x,dw K H t xs∧xs[i]?=some x,
  fun i H v H'=>∃ p x,v=.ref p∧H p=none∧H'=upd H p (.tup [.int (i:Nat),x])∧∀ xs,dw K H t xs→xs[i]?=some x,
  fun i H=>∃ xs,dw K H t xs∧xs.length≤i⟩
theorem Gq (I:Inv X aa σ H s) (h1:dw X.K H a xs) (h2:dw X.K H a ys):xs=ys:=I.gW h1 h2
theorem Cv {prog:Program} {w:World} {A:Around} (hh:A.handled=none) (j t:Addr) (items:Array Value) (i:Nat) (hx:items[i]?=none) :
 Draws prog w A j [j,t] i (fun _ _=>False) (fun k h=>k=i∧h.IsTupleIter j t i∧h.IsTuple t items) where
 live:=fun _ _ ⟨_,⟨o,ho,_⟩,_⟩=>⟨o,ho⟩
 frame:=fun _ _ _ ⟨ek,⟨o,e,r⟩,⟨o',e',r'⟩⟩ hk=>⟨ek,⟨o,hk j (by simp) o e,r⟩,o',hk t (by simp) o' e',r'⟩
 item:=fun k s Q E hi ⟨ek,_⟩ _=>absurd ek (Ri hi)
 done:=fun s Q E ⟨_,s1,s2⟩ q=>nextT hh s1 s2 (fun v hv=>by rw [hx] at hv; cases hv) fun _=>q
theorem zq {P:Program} {w:World} {K:QM} {elts:List Expr} {k:Nat} {pos:Pos} {e j t:Addr} (hne:e≠j) :
 Turn P w K (.Tuple elts k pos) (PZ K t) [e,j] e (fun i h=>(∃ old,IsEnum h e j i old)∧h.IsTupleIter j t i) where
 mem:=by simp
 obj:=fun i h ⟨⟨old,he⟩,⟨o1,e1,_,d1⟩⟩ b hb=>by
  simp only [Q0,RP,or_false] at hb
  rcases hb with rfl | rfl
  ·exact ⟨_,he,fun v q=>by have q':Vd _=Uk v:=q; cases q'⟩
  ·exact ⟨_,e1,fun v q=>by rw [d1] at q; cases q⟩
 keep:=fun i h h' ⟨⟨old,he⟩,⟨o1,e1,r1⟩⟩ hk=>⟨⟨old,hk e (by simp) _ he⟩,⟨o1,hk j (by simp) _ e1,r1⟩⟩
 item:=by
  intro X hP hw hK hc i aa s σ H E I hf st hg
  subst hP hw hK
  obtain ⟨⟨old,he⟩,hj⟩:=st
  obtain ⟨xs,x,q1,hx⟩:=hg
  obtain ⟨its,rv,p1,z1⟩:=I.tuple q1
  obtain ⟨u,hu,ru⟩:=rv.get hx
  have pT:s.heap.IsTuple t its.toArray:=by obtain ⟨o,ho,hc',n,hd⟩:=p1; exact ⟨o,ho,hc',n,hd⟩
  have hjt:t≠j:=by
   obtain ⟨o,ho,hc',n,hd⟩:=pT
   obtain ⟨o',ho',hc'',_⟩:=hj
   rintro rfl
   rw [ho] at ho'; cases ho'
   rw [hc'] at hc''; exact absurd hc'' (by simp)
  have het:e≠t:=by
   obtain ⟨o,ho,hc',n,hd⟩:=pT
   rintro rfl
   rw [he] at ho; cases ho
   exact absurd hc' (by simp)
  have hi:i<its.toArray.size:=by
   have:i<its.length:=(Q2.mp hu).1
   simpa using this
  have hh:X.A.in1.handled=none:=I.ok.hd hc
  refine wpAny_pyNext_enum_itemD (KD hh j t hjt its.toArray) he ⟨hj,pT⟩ hi hne (by simp; exact ⟨hne,het⟩) fun x' h' tk hPx a1 a2 a3 a4 hk=>?_
  have ex:x'=u:=by
   have:its[i]?=some x':=by simpa using hPx
   rw [hu] at this; cases this; rfl
  subst ex
  have Hp:H s.heap.objs.size=none:=I.hok.fresh (QS _)
  have IA:Inv X aa σ (upd H s.heap.objs.size (.tup [.int (i:Nat),x])) { s with heap:=s.heap.push { cls:=.type "tuple",data:=.seq #[.int (i:Nat) tk,x'] },toks:=tk+1 } :=
   I.laid (a:=s.heap.objs.size) (o:=.tup [.int (i:Nat),x]) (fun _ _ q=>QV _ q) (QS _) ⟨by show 2≤sizeLine; decide,[.int (i:Nat) tk,x'],.cons ⟨tk,rfl⟩ (.cons ru .nil),_,Q5 _ rfl,rfl,0,rfl⟩
  have lt:∀ b∈[e,j],b<s.heap.objs.size:=fun b hb=>by
   obtain ⟨o1,e1,_⟩:=hj
   simp only [Q0,RP,or_false] at hb
   rcases hb with rfl | rfl
   ·exact QX he
   ·exact QX e1
  have gf:∀ b∈[e,j],fC X aa (upd H s.heap.objs.size (.tup [.int (i:Nat),x])) b:=fun b hb=>⟨by rw [aj (Ri (lt b hb))]; exact (hf b hb).1,(hf b hb).2⟩
  have I1:Inv X aa σ (upd H s.heap.objs.size (.tup [.int (i:Nat),x])) { s with heap:=h',toks:=tk+1 } :=
   ic (s:={ s with heap:=s.heap.push { cls:=.type "tuple",data:=.seq #[.int (i:Nat) tk,x'] },toks:=tk+1 }) (t':=tk+1) (h':=h') (L:=[e,j]) IA (fun b o hb q=>by
    simp only [Q0,RP,or_false,not_or] at hb
    by_cases z:b=s.heap.objs.size
    ·subst z
     rw [Q5 _ rfl] at q; cases q; exact a3
    ·refine hk b o hb.1 hb.2 ?_
     rw [WZ _ _ _ z] at q; exact q) gf
  refine ⟨_,rfl,wpAny_letOwnedTupleGo_enum (s:={ s with heap:=h',toks:=tk+1 }) a1 fun h2' hz' hs'=>?_⟩
  refine ⟨.ref s.heap.objs.size,_,ic (s:={ s with heap:=h',toks:=tk+1 }) (t':=tk+1) (h':=h2') (L:=[e,j]) I1 (fun b o hb q=>hs'.extBut b o (fun z=>hb (by simp [z])) q) gf,rfl,
   ⟨_,x,rfl,Hp,rfl,fun xs' h=>by rw [Gq I h q1]; exact hx⟩,⟨⟨x',?_⟩,a2.1.extBut hs'.extBut (Rf hne)⟩,fun b hb=>(gf b hb).1⟩
  have hz2:=hz'
  rw [show ((i:Int)+1)=((i+1:Nat):Int) by lia] at hz2
  exact hz2
 done:=by
  intro X hP hw hK hc i aa s σ H E I hf st hg
  subst hP hw hK
  obtain ⟨⟨old,he⟩,hj⟩:=st
  obtain ⟨xs,q1,hend⟩:=hg
  obtain ⟨its,rv,p1,z1⟩:=I.tuple q1
  have pT:s.heap.IsTuple t its.toArray:=by obtain ⟨o,ho,hc',n,hd⟩:=p1; exact ⟨o,ho,hc',n,hd⟩
  have hl:=rv.length
  have hx:its.toArray[i]?=none:=by simp; lia
  have hh:X.A.in1.handled=none:=I.ok.hd hc
  exact wpAny_pyNext_enum_endD (Cv hh j t its.toArray i hx) he ⟨rfl,hj,pT⟩ fun h' hk=>⟨rfl,ic (t':=s.toks) (L:=[e,j]) I (fun b o hb q=>hk b o (fun z=>hb (by simp [z])) q) hf⟩
 self:=fun A i s Q E ⟨⟨old,he⟩,_⟩ h=>wpAny_pyIter_enum he h
theorem zu {K:QM} {Hf:Hp} {ds:List D} {xs:List V} {t:Addr} (h1:dw K Hf t xs) (r1:ak K Hf ds xs):jM K (PZ K t) (mS ds) Hf where
 go:=fun i d H aP s1 s2 e=>by
  unfold mS at e
  rw [Q3,Q7] at e
  obtain ⟨⟨x,m⟩,ex,rfl⟩:=e
  rw [List.getElem?_zipIdx,Q7] at ex
  obtain ⟨x',ex,ee⟩:=ex
  cases ee
  obtain ⟨v1,f1,g1⟩:=r1.get ex
  have q1:=az (s1.trans s2) h1
  refine ⟨⟨xs,v1,q1,f1⟩,fun v H' ⟨p,y,e1,e2,e3,e4⟩=>?_⟩
  have z1:=e4 xs q1
  rw [f1] at z1; cases z1
  subst e1 e3
  have g:=bu.new s2 e2 (o:=.tup [.int (i:Nat),v1])
  rw [TF]
  exact ⟨upd aP p (.tup [.int (i:Nat),v1]),g,aJ.mpr ⟨p,_,rfl,.inl (.inl ah),.cons (av.mpr rfl) (.cons (Rep.mono (s1.trans g.f) _ g1) (aA.mpr rfl))⟩⟩
 stop:=fun i H aP s1 s2 e=>⟨xs,az (s1.trans s2) h1,by
  rw [← r1.length]
  simpa [mS] using e⟩
theorem zw:bootBuiltins "enumerate"=some (.type "enumerate"):=by decide +kernel
noncomputable def Ni (K:QM) (ta:TA):TI:=fun σ H R=>ta σ H fun vs H1=>∃ t xs,vs=[.ref t]∧dw K H1 t xs∧R (PZ K t) H1
theorem Gr (hg:Gl X "enumerate") (hm:X.mg "enumerate"=none) (ha:PA X [a] ta) (hs:starEach [a] X.env=[(false,eval a X.env)]) :
 PI X (.Tuple elts kt tpos) (.Call (.Name "enumerate" p) [a] [] pos) (Ni X.K ta):=by
 intro aa s σ H R I h
 refine Call_ (cX I hg hm zw (Uo (bD (ha pos aa s σ H _ I h) fun us s1 ⟨vs,H1,I1,r1,q1⟩=>?_) hs (by rfl)))
 obtain ⟨t,xs,e,q1,q⟩:=q1
 subst e
 obtain ⟨u,rfl,rx⟩:=vals1 r1
 cases rx
 obtain ⟨its,rv,p1,z1⟩:=I1.tuple q1
 have pT:s1.heap.IsTuple t its.toArray:=by obtain ⟨o,ho,hc',n,hd⟩:=p1; exact ⟨o,ho,hc',n,hd⟩
 refine vp pT fun h' a1 a2 hk=>wpAny_pyIter_enum a1 ?_
 refine ⟨s1.heap.objs.size+1,[s1.heap.objs.size+1,s1.heap.objs.size],_,_,H1,rfl,I1.kept (t':=s1.toks) hk,zq (TH (T6 _)),⟨⟨.none,a1⟩,a2⟩,fun b hb=>?_,q⟩
 have hb':s1.heap.objs.size≤b:=by
  simp only [Q0,RP,or_false] at hb
  rcases hb with rfl | rfl
  ·exact Tp _ _
  ·exact QS _
 exact I1.nR hb' (I1.hok.fresh hb')
section
variable {K:QM} {c:Ctx P w K mg base k N sc bk}
theorem KG (hm:mg "enumerate"=none) (h:aH c a ρ fun x=>∃ ds,x=.tup ds∧R (mS ds)) (hg:sc.names.lookup (QK "enumerate")=some .globalImplicit:=by walk_at "u")
 (hs:∀ env,starEach [a] env=(false,eval a env)::starEach [] env:=by intro _; walk_at "u"):yO c (.Tuple elts kt tpos) (.Call (.Name "enumerate" p) [a] [] pos) ρ R:=fun σ H Hf Q S q aa s I =>
 Gr (by unfold Gl Rz; rw [c.esc]; exact hg) (by rw [c.emg]; exact hm) (bL cW cY (hs _)) (by rw [hs]; rfl) aa s σ H Q I
  (h σ H Hf _ S fun x v1 H1 aP ⟨ds,e1,hR⟩ r1 g1=>by
    subst e1
    rw [aJ] at r1
    obtain ⟨t,xs,rfl,s1,t1⟩:=r1
    exact ⟨t,xs,rfl,az g1.b s1,q _ _ H1 aP hR g1 (zu s1 t1)⟩)
end
noncomputable def KH (lo:Int) (n:Nat):It:=⟨fun i _=>i<n,fun i H x H'=>H'=H∧x=.int (lo - i),fun i _=>n≤i⟩
noncomputable def Cw (lo:Int) (n:Nat):List D:=(Rt n).map fun (i:Nat)=>D.int (lo - (i:Int))
theorem zz {P:Program} {w:World} {K:QM} {tg:Expr} (j:Addr) (lo:Int) (n:Nat):Turn P w K tg (KH lo n) [j] j (fun i h=>IsRangeIter h j (lo+(i:Nat) * -1) ((n:Int) - (i:Nat)) (-1)) where
 mem:=Q8.mpr rfl
 obj:=fun i h st b hb=>by
  obtain rfl:b=j:=Q8.mp hb
  exact ⟨_,st,fun v z=>by have q:Vd _=Uk v:=z; cases q⟩
 keep:=fun i h h' st k=>k j (Q8.mpr rfl) _ st
 item:=by
  intro X hP hw hK hc i aa s σ H E I hf st hg
  subst hP hw hK
  obtain ⟨f0,f1,f2,f3,f4,f5⟩:=hf j (Q8.mpr rfl)
  have W:=Walks.range (prog:=X.prog) (w:=X.w) (I.ok.hd hc) j lo (-1) n
  refine W.item i s _ _ hg st fun v h' tk hv st' kk=>?_
  obtain ⟨t,rfl⟩:=hv
  have I1:Inv X aa σ H { s with heap:=h',toks:=tk }:=I.turned (fun b o hb e=>kk b o (by simpa using hb) e) f0 f1 f3 f4 f5
  have e:lo+(i:Int) * -1=lo - i:=by lia
  exact ⟨_,rfl,rK (s:={ s with heap:=h',toks:=tk }) (n:="range_iterator") st' rfl rfl (by decide) ⟨.int (lo - i),H,I1,⟨t,by rw [e]⟩,⟨rfl,rfl⟩,st',fun b hb=>(hf b hb).1⟩⟩
 done:=by
  intro X hP hw hK hc i aa s σ H E I hf st hg
  subst hP hw hK
  obtain ⟨f0,f1,f2,f3,f4,f5⟩:=hf j (Q8.mpr rfl)
  exact wpAny_pyNext_range_end (I.ok.hd hc) st (by have:n≤i:=hg; lia) fun h' eb=>⟨rfl,I.turned (t':=s.toks) (fun b o hb e=>eb b o hb e) f0 f1 f3 f4 f5⟩
 self:=fun _ _ _ _ _ st h=>wpAny_pyIter_rangeiter st h
theorem mT {lo hi:Int}:Vr lo hi (-1)=((lo - hi).toNat:Int):=by
 unfold Vr
 rw [if_neg (by decide)]
 split
 ·rw [show - (-1:Int)=1 by decide,Int.ediv_one]; lia
 ·lia
theorem small_down (ha: -(2 ^ 62)≤a) (ha':a<2 ^ 62) (hb: -(2 ^ 62)≤b) (hb':b<2 ^ 62):Builtin.Range.small a b (-1)=true:=by
 unfold Builtin.Range.small
 rw [mT]
 simp only [Builtin.Range.rangeFitsLong,UY,Bool.or_eq_true,decide_eq_true_eq,beq_iff_eq,show ¬ (-1:Int)>0 by decide,if_false]
 lia
noncomputable def Nj (ta:TA):TI:=fun σ H R=>ta σ H fun vs H1=>∃ i j:Int,vs=[.int i,.int j,.int (-1)]∧(-(2 ^ 62)≤i∧i<2 ^ 62∧ -(2 ^ 62)≤j∧j<2 ^ 62)∧R (KH i (i - j).toNat) H1
theorem Gs (hg:Gl X "range") (hm:X.mg "range"=none) (ha:PA X [a,b,c] ta) (hs:starEach [a,b,c] X.env=[(false,eval a X.env),(false,eval b X.env),(false,eval c X.env)])
 (hs2:starEach [b,c] X.env=[(false,eval b X.env),(false,eval c X.env)]):PI X tg (.Call (.Name "range" p) [a,b,c] [] pos) (Nj ta):=by
 intro aa s σ H R I h
 refine Call_ (cX I hg hm boot_range (Uo (bD (ha pos aa s σ H _ I h) fun us s1 ⟨vs,H1,I1,r1,q1⟩=>?_) (by rw [hs,hs2]) (by rw [hs2]; rfl)))
 obtain ⟨i,j,e,⟨q1,q2,q3,q4⟩,q⟩:=q1
 subst e
 cases r1 with
 | cons r rr=>cases rr with
  | cons r' rr=>cases rr with
   | cons r'' rr =>
    cases rr
    obtain ⟨t,rfl⟩:=r
    obtain ⟨t',rfl⟩:=r'
    obtain ⟨t'',rfl⟩:=r''
    refine call_range_3 (by decide) ?_ (.inl (Wj (by decide +kernel)))
    refine wpAny_pyIter_range (IsRange.new ..) (small_down q1 q2 q3 q4) ?_
    have I2:Inv X aa σ H1 { s1 with heap:=s1.heap.push { cls:=.type "range",data:=.fields #[.int i t,.int j t',.int (-1) t''] },toks:=s1.toks }:=I1.kept fun b o e=>QV _ e
    generalize s1.heap.push { cls:=.type "range",data:=.fields #[.int i t,.int j t',.int (-1) t''] }=g at I2 ⊢
    refine ⟨g.objs.size,[g.objs.size],_,_,H1,rfl,I2.kept (t':=s1.toks) fun b o e=>QV _ e,zz _ i (i - j).toNat,?_,fun b hb=>?_,q⟩
    ·show IsRangeIter _ _ (i+((0:Nat):Int) * -1) ((((i - j).toNat:Nat):Int) - ((0:Nat):Int)) (-1)
     rw [show i+((0:Nat):Int) * -1=i by simp,show (((i - j).toNat:Nat):Int) - ((0:Nat):Int)=Vr i j (-1) by rw [mT]; lia]
     exact Q5 _ rfl
    ·obtain rfl:b=g.objs.size:=Q8.mp hb
     exact I2.nR (QS _) (I2.hok.fresh (QS _))
theorem Cy {K:QM} {lo:Int} {n:Nat} {dS:Hp}:jM K (KH lo n) (Cw lo n) dS where
 go:=fun i d H Hf s1 s2 e=>by
  unfold Cw at e
  rw [Q3] at e
  obtain ⟨j,e1,e2⟩:=Q7.mp e
  have hi:i<n:=by simpa using (Q2.mp e1).1
  have:j=i:=by rw [US hi] at e1; cases e1; rfl
  subst this
  refine ⟨hi,fun x H' ⟨e3,e4⟩=>?_⟩
  subst e3 e4 e2
  exact ⟨Hf,.refl s2,av.mpr rfl⟩
 stop:=fun i H Hf s1 s2 e=>show n≤i by simpa [Cw] using e
section
variable {K:QM} {c:Ctx P w K mg base k N sc bk}
theorem KI (hm:mg "range"=none) (h:aH c a ρ fun x=>aH c b ρ fun y=>aH c e ρ fun z=>∃ i j:Int,x=.int i∧y=.int j∧z=.int (-1)∧Sd (BA i) (Sd (BA j) (R (Cw i (i - j).toNat))))
 (hg:sc.names.lookup (QK "range")=some .globalImplicit:=by walk_at "u")
 (hs:∀ env,starEach [a,b,e] env=(false,eval a env)::starEach [b,e] env:=by intro _; walk_at "u") (hs2:∀ env,starEach [b,e] env=(false,eval b env)::starEach [e] env:=by intro _; walk_at "u")
 (hs3:∀ env,starEach [e] env=(false,eval e env)::starEach [] env:=by intro _; walk_at "u"):yO c tg (.Call (.Name "range" p) [a,b,e] [] pos) ρ R:=fun σ H Hf Q S q aa s I =>
 Gs (by unfold Gl Rz; rw [c.esc]; exact hg) (by rw [c.emg]; exact hm) (bL cW (bL cW (bL cW cY (hs3 _)) (hs2 _)) (hs _)) (by rw [hs,hs2,hs3]; rfl) (by rw [hs2,hs3]; rfl) aa s σ H Q I
  (h σ H Hf _ S fun x v1 H1 aP h1 r1 g1=>h1 σ H1 aP _ (S.cE g1) fun y v2 H2 cK h2 r2 g2=>h2 σ H2 cK _ (S.cE (g1.trans g2)) fun z v3 H3 Hf3 ⟨i,j,e1,e2,e3,⟨hi,⟨hj,hR⟩⟩⟩ r3 g3=>by
    subst e1 e2 e3; rw [av] at r1 r2 r3; subst r1 r2 r3
    exact ⟨i,j,rfl,⟨hi.1,hi.2,hj.1,hj.2⟩,q _ _ H3 Hf3 hR ((g1.trans g2).trans g3) Cy⟩)
end
noncomputable abbrev ltI (x y:Int):Bool:=decide (x<y)
noncomputable def Ql (d:Addr) (o:Obj) (ys:List (Key×V)):It :=
 ⟨fun i H=>H d=some (.frz o (.dK ys))∧i<ys.length,fun i H x H'=>H'=H∧∃ y,ys[i]?=some y∧x=kV y.1,fun i H=>H d=some (.frz o (.dK ys))∧ys.length≤i⟩
section
theorem qO (I:Inv X aa σ H s) (hH:H d=some (.frz o (.dK ys))):∃ (vs:List (Key×Value)) (es:Array DictEntry) (ep:Nat),o.data=.dict es ep∧KV ys vs∧s.heap.DictAt (bY X.prog X.w) d vs ep∧(d == sysModules)=false∧ys.length≤sizeLine:=by
 obtain ⟨ho,ok⟩:=(show bw X.prog X.w H s.heap d (.frz o (.dK ys)) from I.hok d _ hH)
 obtain ⟨z,y,vs,kv,o',es,ep,h1,h2,h3,h4,h5,h6⟩:=ok
 rw [ho] at h1; cases h1
 exact ⟨vs,es,ep,h3,kv,⟨o,es,ho,h2,h3,h4,h5,h6⟩,y,z⟩
end
theorem zA {P:Program} {w:World} {K:QM} {tg:Expr} {d j:Addr} {o:Obj} {ys:List (Key×V)} {es:Array DictEntry} {ep:Nat} (hod:o.data=.dict es ep):Turn P w K tg (Ql d o ys) [j] j (fun i h=>h.IsKeyIter j d i ys.length ep) where
 mem:=Q8.mpr rfl
 obj:=fun i h ⟨q,e,_,hd⟩ b hb=>by
  obtain rfl:b=j:=Q8.mp hb
  exact ⟨_,e,fun v z=>by rw [hd] at z; cases z⟩
 keep:=fun i h h' ⟨q,e,r⟩ k=>⟨q,k j (Q8.mpr rfl) _ e,r⟩
 item:=by
  intro X hP hw hK hc i aa s σ H E I hf st hg
  subst hP hw hK
  obtain ⟨f0,f1,f2,f3,f4,f5⟩:=hf j (Q8.mpr rfl)
  obtain ⟨hH,hi⟩:=hg
  obtain ⟨vs,es',ep',e1,kv,da,_⟩:=qO I hH
  rw [hod] at e1; cases e1
  have hl:ys.length=vs.length:=SE kv
  obtain ⟨⟨ky,v⟩,hv,r1,r2⟩:=fU kv (Ro hi)
  rw [hl] at st
  refine wpAny_pyNext_dict_item st da hv fun key h' hkey hit' hs'=>?_
  have I1:Inv X aa σ H { s with heap:=h',toks:=s.toks }:=I.turned (fun b o hb e=>hs'.extBut b o hb e) f0 f1 f3 f4 f5
  obtain ⟨q,e,qc,qd⟩:=id hit'
  rw [← hl] at hit'
  exact ⟨_,rfl,rK (s:={ s with heap:=h',toks:=s.toks }) (n:="dict_keyiterator") e qc qd (by decide) ⟨kV ky,H,I1,xu hkey,⟨rfl,_,Ro hi,by rw [r1]⟩,hit',fun b hb=>(hf b hb).1⟩⟩
 done:=by
  intro X hP hw hK hc i aa s σ H E I hf st hg
  subst hP hw hK
  obtain ⟨f0,f1,f2,f3,f4,f5⟩:=hf j (Q8.mpr rfl)
  obtain ⟨hH,hi⟩:=hg
  obtain ⟨vs,es',ep',e1,kv,da,_⟩:=qO I hH
  rw [hod] at e1; cases e1
  have hl:ys.length=vs.length:=SE kv
  rw [hl] at st
  exact wpAny_pyNext_dict_end (I.ok.hd hc) st da (SO (by lia)) fun h' eb=>⟨rfl,I.turned (t':=s.toks) (fun b o hb e=>eb b o hb e) f0 f1 f3 f4 f5⟩
 self:=fun _ _ _ _ _ st h=>wpAny_pyIter_keyiter st h
theorem zB {K:QM} {Hf:Hp} {d:Addr} {o:Obj} {ys:List (Key×V)} {ns:List Int} (hH:Hf d=some (.frz o (.dK ys))) (hk:ys.map (·.1)=ns.map Rn):jM K (Ql d o ys) (ns.map D.int) Hf where
 go:=fun i x H aP s1 s2 e=>by
  rw [Q3,Q7] at e
  obtain ⟨n,hn,rfl⟩:=e
  have hq:=congrArg (fun l=>l[i]?) hk
  simp only [Q3,hn,Option.map_some] at hq
  obtain ⟨y,hy,ey⟩:=Q7.mp hq
  refine ⟨⟨s2 _ _ (s1 _ _ hH),(Q2.mp hy).1⟩,fun v H' ⟨e1,y',e2,e3⟩=>?_⟩
  rw [hy] at e2; cases e2
  subst e1 e3
  exact ⟨aP,.refl s2,by rw [ey]; exact av.mpr rfl⟩
 stop:=fun i H aP s1 s2 e=>⟨s2 _ _ (s1 _ _ hH),by
  have:=congrArg UI hk
  simp only [QU] at this e
  lia⟩
section
theorem zC (hT:s.TypeIs (.ref v) "dict") (hQ:Q false s):wpAny (model prog w) A (Uq (.ref v)) Q E s:=by
 unfold Uq
 refine QL (wpAny_specialOf hT PySem.F.slot_dict_len.lookup ?_)
 have e:splitId "dict.__len__"=some ("dict","__len__"):=by decide +kernel
 dsimp only
 rw [e]
 dsimp only
 refine QL (VI (b:=true) hT (by rw [isSubtype_type]; kernel_rfl) ?_)
 rw [if_neg (by decide)]
 exact QL (Tz hT (QN hQ))
end
section
variable {X:Cx} {aa:List (Addr×Obj)} {σ:L2.St} {H Hf:Hp} {s:Shared} {E:Value→Shared→Prop}
theorem tN {K:QM}:∀ {L:List Int} {us:List Value},Paired (fun x u=>qI K Hf (D.int x) u) L us→IntsAre us L
 | _,_,.nil=>.nil
 | _,_,.cons ⟨x,r1,h1⟩ t=>by
  rw [av] at h1; subst h1
  obtain ⟨tk,rfl⟩:=r1
  exact .cons _ _ (tN t)
theorem Gu:Ks X D.int ltI oneType' where
 lin:=fun L=>⟨fun x _=>by simp,fun x _ y _ z _ h g=>by simp only [decide_eq_true_eq] at *; lia,fun x _ y _ h=>by simp only [decide_eq_true_eq]; lia⟩
 inj:=fun _ _ _ _ _ _ _ x y u ⟨v,r1,h1⟩ ⟨v',r2,h2⟩=>by
  rw [av] at h1 h2; subst h1 h2
  obtain ⟨t,rfl⟩:=r1
  obtain ⟨t',e⟩:=r2
  cases e; rfl
 kind:=fun _ _ _ _ _ _ _ _ _ L us p h2 Q hQ=>by
  rw [ksk_kind (kz:=L) (tN p) (by simpa using h2)]
  exact QN hQ
 cmp:=fun _ _ _ _ _ _ _ _ _ _ x y u v ⟨a,r1,h1⟩ ⟨b,r2,h2⟩ Q hQ=>by
  rw [av] at h1 h2; subst h1 h2
  obtain ⟨t,rfl⟩:=r1
  obtain ⟨t',rfl⟩:=r2
  rw [keyLt'_oneType]
  exact oneLt_int hQ
theorem tO (hc:X.calm=true) (I:Inv X aa σ H s) (sb:aM Hf H) (hA:X.A.units+60<cLine) (hH:Hf d=some (.frz o (.dK ys))) (hk:ys.map (·.1)=ns.map Rn) (nd:ns.Nodup)
 (hQ:∀ (L':List Int) (xs':List V) (s':Shared) (H' ai:Hp) (a:Addr),L'.Perm ns→kL ltI b L'→ak X.K ai (L'.map D.int) xs'→bu H Hf H' ai→H' a=none→Inv X aa σ (upd H' a (.lst xs')) s'→Q (.ref a) s') :
 wpAny (model X.prog X.w) X.A (call (.builtin "sorted") [.ref d] [(QK "reverse",.bool b)]) Q E s:=by
 refine Wr kind_sorted plain_sorted entry_sorted (args_sorted_rev _ _) ?_
 unfold Builtin.«sorted»
 refine QL (m:=checkCount "sorted" 1 1 _) (QN ?_)
 have h1:X.A.in1.handled=none:=I.ok.hd hc
 have h2:X.A.in1.frames=some X.stack:=I.ok.frames
 obtain ⟨vs,es,ep,e1,kv,da,hs,hz⟩:=qO I (sb _ _ hH)
 have hl:ys.length=vs.length:=SE kv
 have hn:(ns.map D.int).length=ys.length:=by have:=congrArg UI hk; simp only [QU] at this ⊢; lia
 refine QL (vm (X:=HV X X.A.in1) (H:=H) (Hf:=Hf) (ds:=ns.map D.int) (T:="dict") hc h1 h2 (mJ I (fun _=>h1) h2) sb da.lt_size (by lia) (by decide) (fun s' k=>(da.keep k).dictOf.typeIs) (fun A s' Q E q h=>zC q h) (fun A s1 H1 E I1 sb1 k1=>?_) fun us s' H' ai xs I' rv rr g hz'=>?_)
 ·refine wpAny_pyIter_dict hs (da.keep k1) ?_
  refine ⟨_,_,_,rfl,QS _,I1.kept (t':=s1.toks) fun b o e=>QV _ e,zA e1,⟨_,Q5 _ rfl,rfl,?_⟩,fun b hb=>?_,fun b o e=>QV _ e,zB hH hk⟩
  ·rw [hl]; rfl
  ·obtain rfl:b=s1.heap.objs.size:=Q8.mp hb
   exact I1.nR (QS _) (I1.hok.fresh (QS _))
 ·have I2:=jo I.ok I'
  have el:=rr.length
  have el2:=rv.length
  refine tF (b:=b) Gu I2 g.b ?_ rr rv (by lia) nd fun L' xs' s2 p1 p2 p3 p4 I3=>hQ L' xs' s2 H' ai _ p1 p2 p3 g (I2.hok.fresh (QS _)) I3
  show X.A.units+1+20<cLine
  lia
end
section
variable {K:QM} {c:Ctx P w K mg base k N sc bk}
theorem vq (hm:mg "sorted"=none) (h:aH c e ρ fun d=>∃ (ns:List Int) (ds:List D),d=.fdK (ns.map Rn) ds∧Sd ns.Nodup (∀ L':List Int,L'.Perm ns→kL ltI true L'→R (.ow (L'.map D.int))))
 (hg:sc.names.lookup (QK "sorted")=some .globalImplicit:=by walk_at "u")
 (he:∀ env,starEach [e] env=(false,eval e env)::starEach [] env:=by intro _; walk_at "u")
 (hpl:∀ env,(backTo pos (starEach [e] env)).any (·.1)=false:=by intro _; walk_at "u") :
 dz c (.Call (.Name "sorted" np) [e] [⟨some "reverse",.Constant (.bool true) j kp1,kp⟩] pos) ρ R:=fun σ H Hf Q S q aa s I=>by
 have hgl:Gl c.X "sorted":=by unfold Gl Rz; rw [c.esc]; exact hg
 refine SG (cX I hgl (by rw [c.emg]; exact hm) (show bootBuiltins "sorted"=some (.builtin "sorted") by decide +kernel) ?_ (by decide) (by decide))
 refine callWith_kw ?_ (by rw [he]; rfl) (hpl _)
 have hpa:=bL (X:=c.X) (e:=e) (es:=[]) cW cY (he _)
 refine bD (hpa pos aa s σ H (fun vs H1=>∃ x,vs=[x]∧∃ (ns:List Int) (ds:List D) (aP:Hp),Rep c.X.K aP (.fdK (ns.map Rn) ds) x∧ns.Nodup∧bu H Hf H1 aP∧∀ L':List Int,L'.Perm ns→kL ltI true L'→R (.ow (L'.map D.int))) I ?_) fun us s1 hh=>z2 hh fun vs H1 hh=>w3 hh fun I1 r1 hh=>hh.elim fun x hh=>w2 hh fun ex hh=>z3 hh fun ns ds aP hh=>w4 hh fun e1 e7 e8 e9=>?_
 ·exact h σ H Hf _ S fun d v H1 aP ⟨ns,ds,hp,⟨hn,hR⟩⟩ rv g=>⟨_,rfl,ns,ds,aP,by rw [← hp]; exact rv,hn,g,hR⟩
 ·subst ex
  obtain ⟨a0,ys,o,rfl,hs,hk,hr⟩:=i8.mp e1
  have eu:us=[.ref a0]:=by
   cases r1 with
   | cons q1 q2=>cases q2; cases q1; rfl
  subst eu
  refine kws_cons (bD (AA (X:=c.X) (b:=true) (j:=j) (pos:=kp1) aa s1 σ _ (fun x H2=>x=.bl true∧H2=H1) I1 ⟨rfl,rfl⟩) fun kv s2 ⟨x,H2,I2,rx,e10,e11⟩=>kws_nil ?_)
  subst e10 e11
  have ek:kv=.bool true:=rx
  subst ek
  refine tO (b:=true) c.calm I2 e8.b ?_ hs hk e7 fun L' xs' s' H' ai a p1 p2 p3 g na I3=>?_
  ·have:=c.room.un
   lia
  ·have gg:=e8.trans g
   exact ⟨.ref a,_,I3,rfl,q (.ow (L'.map D.int)) _ _ ai (e9 L' p1 p2) ⟨a,xs',rfl,gg.s.free na,ah,g.b.free na,p3⟩ (gg.trans (bu.gp g.b na))⟩
end
theorem Gv {Q:Value→Shared→Prop} (ho:s.heap.get? l=some o) (hc:o.cls=.type "tuple") (hd:o.data=.seq its.toArray n) (hk:0≤k) (hk2:k<2 ^ 63) (hz:its.length * k.toNat≤sizeLine) (hne:its≠[])
 (h1:k=1→Q (.ref l) s) (h2:k≠1→Q (.ref s.heap.objs.size) { s with heap:=s.heap.push { cls:=.type "tuple",data:=.seq (QY k.toNat its).flatten.toArray } }) :
 wpAny (model prog w) A (Builtin.«tuple.__mul__» ⟨[.ref l,.int k u],[]⟩) (fun fin s'=>∃ v,fin=.done (.ret v)∧Q v s') E s:=by
 unfold Builtin.«tuple.__mul__»
 show wpAny _ _ (asIndex (.int k u) >>= _) _ _ s
 have ea:asIndex (.int k u)=pure k:=rfl
 rw [ea]
 refine QL (QN ?_)
 have b1:(decide (k< -2 ^ 63) || decide (k≥2 ^ 63))=false:=by simp only [Bool.or_eq_false_iff,decide_eq_false_iff_not]; lia
 rw [if_neg (by rw [b1]; exact QZ)]
 dsimp only
 refine QL (show wpAny _ _ (seqItems? (.ref l) >>= _) _ _ s from QL (SV ho hd (QN ?_)))
 have hne':its.toArray.isEmpty=false:=by cases its with | nil=>exact absurd rfl hne | cons a r=>rfl
 rw [hne',Bool.false_or]
 by_cases e:k=1
 ·rw [if_pos (by simp [e])]
  refine QL (QL (Tz ⟨o,ho,hc⟩ (QN ?_)))
  rw [if_pos (by decide)]
  exact QL (RV (QN ⟨_,rfl,h1 e⟩))
 ·rw [if_neg (by simpa using e)]
  have h2':=h2 e
  by_cases e0:k=0
  ·subst e0
   rw [if_pos (by decide)]
   exact QL (R0 (QN ⟨_,rfl,h2'⟩))
  ·have hpos:0<k:=by lia
   rw [if_neg (by simp; lia)]
   have hm:(its.toArray.size:Int) * k=((its.length * k.toNat:Nat):Int):=by
    rw [Int.natCast_mul,Int.toNat_of_nonneg hk,Rb]
   have hs:(sizeLine:Nat)≤(2 ^ 63 - 1) / 8:=by decide
   rw [hm,if_neg (by lia),if_neg (by unfold Builtin.Tuple.tupleTooMany; simp only [decide_eq_true_eq]; lia)]
   have ef:=foldl_rep its k.toNat []
   rw [Tq] at ef
   show wpAny _ _ (newObj (.type "tuple") (.seq (UK (fun x1 x2=>x1++x2) ([]:List Value).toArray (QY k.toNat its.toArray))) >>= _) _ _ _
   rw [ef]
   exact QL (R0 (QN ⟨_,rfl,h2'⟩) (hd:=by
    show (QY k.toNat its).flatten.toArray.size≤sizeLine
    rw [Rb,len_rep,V8]; exact hz))
theorem vv:fillsNumberSlot (.type "tuple") "mul"=pure false:=PySem.fillsNumberSlot_seq (id:="tuple.__mul__") (r:=some (.builtin "tuple.__rmul__")) Xc.lookup (by decide +kernel) F.slot_tuple_rmul.lookup (by decide +kernel)
theorem vz:seqRepeat? (.type "tuple")=pure (some (.builtin "tuple.__mul__")):=by
 unfold seqRepeat?
 rw [PySem.seqSlot_of (T:="tuple") (name:="__mul__") (id:="tuple.__mul__") Xc.lookup (by decide +kernel),PySem.seqSlot_of (T:="tuple") (name:="__rmul__") (id:="tuple.__rmul__") F.slot_tuple_rmul.lookup (by decide +kernel)]
 rfl
theorem Cz (a) (t:Tok) (l) (o) (items) (n) :
 Meets (Builtin.«int.__rmul__» ⟨[.int a t,.ref l],[]⟩) (fun _ R s=>s.heap.get? l=some o∧o.cls=.type "tuple"∧o.data=.seq items n∧R (.ok (.ret Value.notImplemented)) s) :=
 .of_wp fun prog w A R ⟨hp,g,d,tk,os⟩ ⟨hl,hc,hd,h⟩=>by
  obtain ⟨c,dc,dt,sl⟩:=o
  obtain rfl:c=.type "tuple":=hc
  obtain rfl:dt=.seq items n:=hd
  wp_walk
  exact ⟨_,rfl,h⟩
noncomputable def Nk (K:QM):R2:=fun x y H Q=>∃ l k xs,x=.ref l∧y=.int k∧dw K H l xs∧xs≠[]∧0≤k∧k<2 ^ 63∧xs.length * k.toNat≤sizeLine∧(k=1→Q (.ref l) H)∧(k≠1→∀ p,H p=none→Q (.ref p) (upd H p (.tup (QY k.toNat xs).flatten)))
theorem Gw:fR X (binaryOp .Mult) (Nk X.K):=by
 intro aa s σ H x y v u Q I rx ry h
 obtain ⟨l,k,xs,rfl,rfl,hq,hne,h0,h1,hz,q1,q2⟩:=h
 cases rx
 obtain ⟨t,rfl⟩:=ry
 obtain ⟨its,r,pl,hz0⟩:=I.tuple hq
 obtain ⟨o,ho,hc,n,hd⟩:=pl
 have hl:=r.length
 refine wpAny_binaryOp_repeat_ref (T:="tuple") (U:="int") (by decide) ⟨o,ho,hc⟩ (fun s'=>Ve s' k t) vv F.fills_int_mul VT vz F.slot_int_index.lookup
  (Vf VT (Ve s k t) F.entry_int_rmul (F.args_int_rmul_2 _ _) (Cz k t l o _ _) ⟨ho,hc,hd,rfl,⟨o,ho,hc⟩,Sk Xc ⟨o,ho,hc⟩ F.entry_tuple_mul (Gv (its:=its) ho hc hd h0 h1 (by rw [← hl]; exact hz) (by rintro rfl; cases r; exact hne rfl) (fun e=>?_) fun e=>?_) (F.args_tuple_mul_2 _ _)⟩)
 ·exact ⟨.ref l,H,I,rfl,q1 e⟩
 ·have Hp:H s.heap.objs.size=none:=I.hok.fresh (QS _)
  have hz2:(QY k.toNat xs).flatten.length≤sizeLine:=by rw [len_rep,V8]; exact hz
  have IA:Inv X aa σ (upd H s.heap.objs.size (.tup (QY k.toNat xs).flatten)) { s with heap:=s.heap.push { cls:=.type "tuple",data:=.seq (QY k.toNat its).flatten.toArray },toks:=s.toks } :=
   I.laid (a:=s.heap.objs.size) (o:=.tup (QY k.toNat xs).flatten) (fun _ _ q=>QV _ q) (QS _) ⟨hz2,_,r.rep k.toNat,_,Q5 _ rfl,rfl,0,rfl⟩
  exact ⟨.ref s.heap.objs.size,_,IA,rfl,q2 e _ Hp⟩
section
variable {K:QM}
theorem vA (h:aH c a ρ fun x=>aH c b ρ fun y=>∃ ds n,x=.tup ds∧y=.int n∧Sd (ds≠[]∧0≤n∧n<2 ^ 63∧ds.length * n.toNat≤sizeLine) (R (.tup (QY n.toNat ds).flatten))):aH c (.BinOp a .Mult b pos) ρ R:=fun σ H Hf Q S q =>
 bM (AI Gw cW cW) (h σ H Hf _ S fun x v H1 aP h1 r1 g1=>h1 σ H1 aP _ (S.cE g1) fun y u H2 cK ⟨ds,n,e1,e2,⟨hne,n0,n1,hz⟩,hR⟩ r2 g2=>by
  subst e1 e2
  have r1':=Rep.mono g2.f _ r1
  obtain ⟨l,xs,rfl,k1,k2⟩:=aJ.mp r1'
  rw [av] at r2; subst r2
  have hl:=k2.length
  have g:=g1.trans g2
  refine ⟨l,n,xs,rfl,rfl,az g2.b k1,by rintro rfl; exact hne (List.eq_nil_of_length_eq_zero hl),n0,n1,by rw [← hl]; exact hz,fun e=>?_,fun _ p hp=>?_⟩
  ·subst e
   refine q _ _ H2 cK hR ?_ g
   rw [show (QY (1:Int).toNat ds).flatten=ds by simp]
   exact r1'
  ·have g3:=bu.new (o:=.tup (QY n.toNat xs).flatten) g2.b hp
   exact q _ _ _ _ hR (aJ.mpr ⟨p,_,rfl,.inl (.inl ah),(k2.mono g3.f).many _⟩) (g.trans g3))
end
section
variable {K:QM}
end
end EV
namespace EV
open PySem PySem.Spec PyProof.Rows L2
noncomputable def dig (b:Int):Nat→(Nat→Int)→Int
 | 0,_=>0
 | m+1,f=>f 0 * b ^ m+dig b m (fun i=>f (i+1))
noncomputable abbrev bR (p:List Int) (i:Nat):Int:=p.getD i 0
noncomputable def pk (b:Int) (p:List Int):Int:=dig b 6 (bR p)
theorem jw:∀ {m:Nat} {f g:Nat→Int},(∀ i,i<m→f i=g i)→dig b m f=dig b m g
 | 0,_,_,_=>rfl
 | m+1,f,g,h=>by
  unfold dig
  rw [h 0 (by lia),jw (m:=m) fun i hi=>h (i+1) (by lia)]
theorem xV:∀ (m:Nat) (f g:Nat→Int),dig b m (fun i=>f i+g i)=dig b m f+dig b m g
 | 0,_,_=>rfl
 | m+1,f,g=>by
  unfold dig
  rw [xV m (fun i=>f (i+1)) (fun i=>g (i+1)),TL]
  lia
theorem jx:∀ (m:Nat),dig b m (fun _=>0)=0
 | 0=>rfl
 | m+1=>by unfold dig; rw [jx m,Ud]; rfl
theorem iL (hb:0<b):∀ (m:Nat) (f:Nat→Int),(∀ i,i<m→0≤f i∧f i<b)→0≤dig b m f∧dig b m f<b ^ m
 | 0,_,_=>⟨Sg _,by show (0:Int)<b ^ 0; rw [Int.pow_zero]; decide⟩
 | m+1,f,h=>by
  have h0:=h 0 (by lia)
  have ih:=iL hb m (fun i=>f (i+1)) fun i hi=>h (i+1) (by lia)
  have hp:0<b ^ m:=Uh hb
  unfold dig
  rw [Int.pow_succ]
  have a1:0≤f 0 * b ^ m:=VZ h0.1 (by lia)
  have a2:(f 0+1) * b ^ m≤b * b ^ m:=Xm (by lia) (by lia)
  rw [TL,Vc] at a2
  rw [Va (b ^ m) b]
  lia
theorem xW (hb:0<b):∀ (m:Nat) (f:Nat→Int),(∀ i,i<m→0≤f i∧f i<b)→∀ i,i<m→dig b m f / b ^ (m - 1 - i) % b=f i
 | 0,_,_,_,hi=>absurd hi (Nat.not_lt_zero _)
 | m+1,f,h,i,hi=>by
  have ih:=xW hb m (fun i=>f (i+1)) fun i hi=>h (i+1) (by lia)
  have bd:=iL hb m (fun i=>f (i+1)) fun i hi=>h (i+1) (by lia)
  have hp:0<b ^ m:=Uh hb
  unfold dig
  cases i with
  | zero =>
   rw [show m+1 - 1 - 0=m by lia,Wa,Int.add_mul_ediv_right _ _ (by lia),Int.ediv_eq_zero_of_lt bd.1 bd.2,UG]
   exact Int.emod_eq_of_lt (h 0 (by lia)).1 (h 0 (by lia)).2
  | succ i =>
   have e:b ^ m=b ^ (i+1) * b ^ (m - 1 - i):=by rw [← Int.pow_add]; congr 1; lia
   have hq:0<b ^ (m - 1 - i):=Uh hb
   rw [show m+1 - 1 - (i+1)=m - 1 - i by lia,e,← U7,Wa,Int.add_mul_ediv_right _ _ (by lia),Int.pow_succ,← U7,Int.add_mul_emod_self_right]
   exact ih i (by lia)
theorem jY (h:trim (x::p)=x::p):trim p=p:=by
 rcases List.eq_nil_or_concat p with rfl | ⟨r,z,rfl⟩
 ·rfl
 ·rw [List.concat_eq_append] at h ⊢
  by_cases e:z=0
  ·subst e
   rw [← SJ,gZ] at h
   have:=congrArg UI h
   have l:=gC (x::r)
   simp only [RH,Rr,SS] at this l
   lia
  ·exact jU r e
theorem tP:∀ {p:List Int},trim p=p→p≠[]→(∀ x∈p,0≤x)→∃ i,i<p.length∧0<bR p i
 | [],_,h,_=>absurd rfl h
 | [x],h,_,h0=>by
  refine ⟨0,by simp,?_⟩
  have:x≠0:=by rintro rfl; simp [trim] at h
  have:=h0 x (by simp)
  show 0<x
  lia
 | x::y::p,h,_,h0=>by
  obtain ⟨i,hi,hq⟩:=tP (jY h) (by simp) fun z hz=>h0 z (Q9 _ hz)
  exact ⟨i+1,by simp only [RH] at *; lia,by simpa [bR] using hq⟩
theorem xX (hb:0<b):∀ (m:Nat) (f:Nat→Int),(∀ i,i<m→0≤f i∧f i<b)→(∃ i,i<m∧0<f i)→0<dig b m f
 | 0,_,_,h=>by obtain ⟨i,hi,_⟩:=h; lia
 | m+1,f,h,⟨i,hi,hq⟩=>by
  have bd:=iL hb m (fun i=>f (i+1)) fun i hi=>h (i+1) (by lia)
  have hp:0<b ^ m:=Uh hb
  unfold dig
  cases i with
  | zero =>
   have:=Int.mul_pos hq hp
   lia
  | succ i =>
   have:=xX hb m (fun i=>f (i+1)) (fun i hi=>h (i+1) (by lia)) ⟨i,by lia,hq⟩
   have:=VZ (h 0 (by lia)).1 (show 0≤b ^ m by lia)
   lia
theorem CA (hb:0<b):∀ (m:Nat) (p q:List Int),trim p=p→trim q=q→p.length≤m→q.length≤m→(∀ x∈p,0≤x∧x<b)→(∀ x∈q,0≤x∧x<b)→HT.lexLt p q=true→dig b m (bR p)<dig b m (bR q)
 | m,[],[],_,_,_,_,_,_,h=>by cases h
 | m,[],y::q,_,tq,_,lq,_,hq,_=>by
  have e:dig b m (bR [])=0:=by
   rw [show bR ([]:List Int)=fun _=>0 from funext fun i=>by simp [bR]]; exact jx m
  rw [e]
  obtain ⟨i,hi,h0⟩:=tP tq (by simp) fun x hx=>(hq x hx).1
  refine xX hb m _ (fun j hj=>?_) ⟨i,by lia,h0⟩
  by_cases z:j<(y::q).length
  ·have:bR (y::q) j=(y::q)[j]:=by unfold bR; rw [R3,Ro z]; rfl
   rw [this]; exact hq _ (RI _)
  ·have:bR (y::q) j=0:=by simp only [bR,R3,SO (by lia:(y::q).length≤j)]; rfl
   rw [this]; lia
 | m,x::p,[],_,_,_,_,_,_,h=>by cases h
 | 0,x::p,y::q,_,_,lp,_,_,_,_=>by simp at lp
 | m+1,x::p,y::q,tp,tq,lp,lq,hp,hq,h=>by
  simp only [RH] at lp lq
  rw [HT.cZ] at h
  have rd:∀ (r:List Int),(∀ z∈r,0≤z∧z<b)→∀ j,0≤bR r j∧bR r j<b:=fun r hr j=>by
   by_cases z:j<r.length
   ·have:bR r j=r[j]:=by unfold bR; rw [R3,Ro z]; rfl
    rw [this]; exact hr _ (RI _)
   ·have:bR r j=0:=by simp only [bR,R3,SO (by lia:r.length≤j)]; rfl
    rw [this]; lia
  have hp':∀ z∈p,0≤z∧z<b:=fun z hz=>hp z (Q9 _ hz)
  have hq':∀ z∈q,0≤z∧z<b:=fun z hz=>hq z (Q9 _ hz)
  unfold dig
  show x * b ^ m+dig b m (bR p)<y * b ^ m+dig b m (bR q)
  by_cases e:x=y
  ·rw [if_pos e] at h
   subst e
   have:=CA hb m p q (jY tp) (jY tq) (by lia) (by lia) hp' hq' h
   lia
  ·rw [if_neg e] at h
   have hxy:x<y:=of_decide_eq_true h
   have b1:=iL hb m (bR p) fun i _=>rd p hp' i
   have b2:=iL hb m (bR q) fun i _=>rd q hq' i
   have a2:(x+1) * b ^ m≤y * b ^ m:=Xm (by lia) (by have hh:0<b ^ m:=Uh hb; lia)
   rw [TL,Vc] at a2
   lia
noncomputable def Bd (b:Int) (p:List Int):Prop:=p.length≤6∧∀ x∈p,0≤x∧x<b
theorem dM (z:j<p.length):bR p j=p[j]:=by unfold bR; rw [R3,Ro z]; rfl
theorem cV (z:p.length≤j):bR p j=0:=by unfold bR; rw [R3,SO z]; rfl
theorem Ia (hb:0<b) (h:Bd b p) (i):0≤bR p i∧bR p i<b:=by
 by_cases z:i<p.length
 ·rw [dM z]; exact h.2 _ (RI _)
 ·rw [cV (by lia)]; lia
theorem tQ (p):∃ m,p=trim p++QY m 0:=by
 suffices H:∀ r:List Int,∃ m,r=QY m 0++r.dropWhile fun x=>x == 0 by
  obtain ⟨m,h⟩:=H p.reverse
  refine ⟨m,?_⟩
  have:=congrArg List.reverse h
  rw [List.reverse_reverse,WD,List.reverse_replicate] at this
  exact this
 intro r
 induction r with
 | nil=>exact ⟨0,rfl⟩
 | cons x r ih =>
  by_cases e:x=0
  ·subst e
   obtain ⟨m,h⟩:=ih
   refine ⟨m+1,?_⟩
   rw [Sy,List.dropWhile_cons_of_pos (by simp),SJ,← h]
  ·exact ⟨0,by rw [List.dropWhile_cons_of_neg (by simpa using e)]; rfl⟩
theorem eE (p) (i):bR (trim p) i=bR p i:=by
 obtain ⟨m,h⟩:=tQ p
 by_cases z:i<(trim p).length
 ·have e:bR p i=bR (trim p++QY m 0) i:=by rw [← h]
  rw [e]
  unfold bR
  simp only [R3]
  rw [Tg z]
 ·rw [cV (by lia)]
  have e:bR p i=bR (trim p++QY m 0) i:=by rw [← h]
  rw [e]
  unfold bR
  simp only [R3]
  rw [Ur (by lia),Wo]
  split <;> rfl
theorem Gx (b) (p):pk b (trim p)=pk b p:=jw fun i _=>eE p i
theorem tR (h:x∈trim p):x∈p:=by
 obtain ⟨m,e⟩:=tQ p
 rw [e]; exact Tj _ h
theorem qP (h:Bd b p):Bd b (trim p):=⟨Q4 (gC p) h.1,fun x hx=>h.2 x (tR hx)⟩
theorem CB (hb:0<b) (hp:Bd b p) (hq:Bd b q) (tp:trim p=p) (tq:trim q=q) (h:HT.lexLt p q=true):pk b p<pk b q:=CA hb 6 p q tp tq hp.1 hq.1 hp.2 hq.2 h
theorem vB (hb:0<b) (hp:Bd b p) (hq:Bd b q) (tp:trim p=p) (tq:trim q=q) (h:pk b p=pk b q):p=q:=by
 by_cases e:p=q
 ·exact e
 ·exfalso
  rcases qH e with z | z
  ·have:=CB hb hp hq tp tq z; lia
  ·have:=CB hb hq hp tq tp z; lia
noncomputable def OG (b:Int) (key:Int):List Int:=trim ((Rt 6).map fun (i:Nat)=>key / b ^ (5 - i) % b)
theorem KJ (hb:0<b) (h:Bd b p):OG b (pk b p)=trim p:=by
 have e:((Rt 6).map fun (i:Nat)=>pk b p / b ^ (5 - i) % b)=p++QY (6 - p.length) 0:=by
  refine VO (by simp; have:=h.1; lia) fun i h1 h2=>?_
  have hi:i<6:=by simpa using h1
  rw [Xa,WJ]
  have:=xW hb 6 (bR p) (fun j _=>Ia hb h j) i hi
  rw [show 6 - 1 - i=5 - i by lia] at this
  rw [show pk b p=dig b 6 (bR p) from rfl,this]
  by_cases z:i<p.length
  ·rw [dM z,List.getElem_append_left z]
  ·rw [cV (by lia),List.getElem_append_right (by lia),List.getElem_replicate]
 unfold OG
 rw [e]
 generalize 6 - p.length=m
 induction m with
 | zero=>simp
 | succ m ih=>rw [List.replicate_succ',← Rk,gZ]; exact ih
noncomputable def cM (B:List (Int×Int)):List (Key×D):=B.map fun x=>(.inl x.1,.int x.2)
theorem jy (B) (k):bF (cM B) (.inl k)=(bF B k).map D.int:=by
 induction B with
 | nil=>rfl
 | cons t B ih =>
  by_cases e:t.1=k
  ·rw [br e]
   show bF ((Rn t.1,D.int t.2)::cM B) _=_
   rw [br (by rw [e])]; rfl
  ·rw [aW e,← ih]
   show bF ((Rn t.1,D.int t.2)::cM B) _=_
   rw [aW fun z=>e (Rn.inj z)]
theorem tS (B) (k n):putD (cM B) (.inl k) (.int n)=cM (putD B k n):=by
 unfold putD
 rw [jy]
 by_cases h:(bF B k).isSome=true
 ·rw [if_pos h,if_pos (by rw [T5]; exact h)]
  unfold cM
  rw [Rv,Rv]
  refine S6 fun t _=>?_
  simp only [V4]
  by_cases e:t.1=k
  ·rw [if_pos e,if_pos (by rw [e])]
  ·rw [if_neg e,if_neg fun z=>e (Rn.inj z)]
 ·rw [if_neg h,if_neg (by rw [T5]; exact h)]
  unfold cM
  simp
noncomputable def gE (b:Int) (t:aL):Int×Int:=(pk b t.1,t.2)
noncomputable def Gd (b:Int) (A:List aL):Prop:=∀ t∈A,Bd b t.1∧trim t.1=t.1
theorem vC (hb:0<b) (h:Gd b A) (hp:Bd b p) (tp:trim p=p):bF (A.map (gE b)) (pk b p)=bF A p:=by
 induction A with
 | nil=>rfl
 | cons t A ih =>
  have ih:=ih fun x hx=>h x (Q9 _ hx)
  have ht:=h t Q6
  by_cases e:t.1=p
  ·rw [br e,QW,br (show (gE b t).1=pk b p by unfold gE; rw [e])]; rfl
  ·rw [aW e,QW,aW fun z=>e (vB hb ht.1 hp ht.2 tp z),ih]
theorem KL (hb:0<b) (h:Gd b A) (hp:Bd b p) (tp:trim p=p):putD (A.map (gE b)) (pk b p) n=(putD A p n).map (gE b):=by
 unfold putD
 rw [vC hb h hp tp]
 split
 ·rw [Rv,Rv]
  refine S6 fun t ht=>?_
  simp only [V4]
  by_cases e:t.1=p
  ·rw [if_pos e,if_pos (show (gE b t).1=pk b p by unfold gE; rw [e])]; rfl
  ·rw [if_neg e,if_neg (show ¬ (gE b t).1=pk b p from fun z=>e (vB hb (h t ht).1 hp (h t ht).2 tp z))]
 ·simp [gE]
theorem KN (h:Gd b A) (hp:Bd b p) (tp:trim p=p):Gd b (putD A p n):=fun t ht=>by
 rcases qN ht with e | e
 ·rw [e]; exact ⟨hp,tp⟩
 ·exact h t e
theorem qQ (h:∀ t∈ts,Bd b t.1):Gd b (aV ts):=by
 unfold aV
 suffices H:∀ A,Gd b A→Gd b (ts.foldl fX A) from H [] (fun _ h=>by cases h)
 induction ts with
 | nil=>exact fun A h=>h
 | cons u ts ih=>exact fun A hA=>ih (fun t ht=>h t (Q9 _ ht)) _ (KN hA (qP (h u Q6)) (cB _))
theorem KO (hb:0<b) (h:∀ t∈ts,Bd b t.1) (ht:Bd b t.1) :
 putD ((aV ts).map (gE b)) (pk b t.1) ((bF ((aV ts).map (gE b)) (pk b t.1)).getD 0+t.2)=(aV (ts++[t])).map (gE b):=by
 rw [tH]
 unfold fX
 rw [← Gx b t.1,vC hb (qQ h) (qP ht) (cB _),KL hb (qQ h) (qP ht) (cB _)]
theorem tT:∀ {L M:List Int},L.Perm M→L.Pairwise (fun x y=>y<x)→M.Pairwise (fun x y=>y<x)→L=M
 | [],M,h,_,_=>by rw [List.nil_perm] at h; exact h.symm
 | x::L,[],h,_,_=>by simp at h
 | x::L,y::M,h,h1,h2=>by
  rw [Uz] at h1 h2
  by_cases e:x=y
  ·subst e
   rw [tT ((List.perm_cons _).mp h) h1.2 h2.2]
  ·exfalso
   have hx:x∈M:=(Q0.mp (h.subset Q6)).resolve_left e
   have hy:y∈L:=(Q0.mp (h.symm.subset Q6)).resolve_left (Rf e)
   have a:=h1.1 y hy
   have b:=h2.1 x hx
   lia
theorem xY {A:List aL} (hk:(A.map (·.1)).Nodup) {t:aL} (h:t∈A):bF A t.1=some t.2:=by
 induction A with
 | nil=>cases h
 | cons u A ih =>
  rw [QW,Sm] at hk
  rcases Q0.mp h with rfl | h
  ·exact br rfl
  ·rw [aW fun e=>hk.1 (by rw [e]; exact List.mem_map_of_mem h)]
   exact ih hk.2 h
theorem CC (hb:0<b) (h:∀ t∈ts,Bd b t.1) (hp:L'.Perm (((aV ts).map (gE b)).map (·.1))) (hs:L'.Pairwise fun x y=>y<x):L'=(jr (aV ts)).map fun t=>pk b t.1:=by
 have hg:=qQ h
 have hk:=fO ts
 generalize aV ts=A at *
 refine tT (hp.trans ?_) hs ?_
 ·rw [Rv]
  exact ((b9 A).map _).symm
 ·rw [UW]
  have hs2:=ju (keys_nodup hk)
  have hm:∀ t∈jr A,t∈A:=fun t ht=>(b9 A).subset ht
  have hk2:(jr A).Pairwise fun x y=>x.1≠y.1:=by
   have:=((b9 A).map (·.1)).nodup_iff.mpr hk
   unfold List.Nodup at this
   rwa [UW] at this
  unfold jq kL at hs2
  refine Xe.imp_of_mem (R:=fun x y=>(if true then cU y x=true else cU x y=true)∧x.1≠y.1) (fun {x y} hx hy q=>?_) (hs2.and hk2)
  obtain ⟨q1,q2⟩:=q
  rw [if_pos rfl] at q1
  unfold cU at q1
  rw [if_neg (Rf q2)] at q1
  exact CB hb (hg _ (hm _ hy)).1 (hg _ (hm _ hx)).1 (hg _ (hm _ hy)).2 (hg _ (hm _ hx)).2 q1
noncomputable def Gy (b:Int) (p:List Int):Int:=p.foldl (fun a x=>a * b+x) 0
theorem CD (b) (p) (x):Gy b (p++[x])=Gy b p * b+x:=by unfold Gy; rw [WX]; rfl
theorem tU (b):∀ (p:List Int) (a:Int),p.foldl (fun a x=>a * b+x) a=a * b ^ p.length+dig b p.length (bR p)
 | [],a=>by simp [dig]
 | x::p,a=>by
  rw [So,tU b p]
  show (a * b+x) * b ^ p.length+_=a * b ^ (p.length+1)+(x * b ^ p.length+dig b p.length (bR p))
  rw [TL,Int.pow_succ,U7,Va b (b ^ p.length)]
  lia
theorem xZ (b) (p):Gy b p=dig b p.length (bR p):=by unfold Gy; rw [tU]; lia
theorem tV (k):∀ (m:Nat) (f:Nat→Int),(∀ i,m≤i→f i=0)→dig b (m+k) f=dig b m f * b ^ k
 | 0,f,h=>by
  rw [TF,jw (g:=fun _=>0) fun i _=>h i (Rq _),jx]
  show 0=0 * b ^ k
  rw [Ud]
 | m+1,f,h=>by
  rw [show m+1+k=(m+k)+1 by lia]
  unfold dig
  rw [tV k m (fun i=>f (i+1)) fun i hi=>h (i+1) (by lia),TL,Int.pow_add,U7]
theorem KP (h:p.length≤6):Gy b p * b ^ (6 - p.length)=pk b p:=by
 rw [xZ,← tV (6 - p.length) p.length (bR p) fun i hi=>cV hi]
 rw [show p.length+(6 - p.length)=6 by lia]
 rfl
theorem CF (hb:0<b) (h:∀ x∈p,0≤x∧x<b):0≤Gy b p∧Gy b p<b ^ p.length:=by
 rw [xZ]
 exact iL hb _ _ fun i hi=>by rw [dM hi]; exact h _ (RI _)
theorem Nl (hb:0<b) (h:Bd b p):0≤pk b p∧pk b p<b ^ 6:=iL hb _ _ fun i _=>Ia hb h i
theorem two_pos (W):(0:Int)<2 ^ W:=Uh (by decide)
theorem ie (W):((2:Int) ^ W)=((2 ^ W:Nat):Int):=by rw [Int.natCast_pow]; rfl
theorem CG (hW:W≤10) (hn:n≤6):((2:Int) ^ W) ^ n≤2 ^ 60:=by
 rw [← Int.pow_mul,ie,ie]
 exact Int.ofNat_le.mpr (Vu (by decide) (Q4 (Tt hW hn) (by decide)))
theorem x6 (hW:W≤10) (hn:n≤6) (h0:0≤x) (h:x<((2:Int) ^ W) ^ n):x.natAbs<2 ^ 64:=by
 have:=CG hW hn
 have h60:(2:Int) ^ 60<2 ^ 64:=by decide
 have:x<((2 ^ 64:Nat):Int):=by rw [← ie]; lia
 lia
theorem zD (W) (h:0≤x):Builtin.bitAnd x (1 * 2 ^ W - 1)=x % 2 ^ W:=by
 have hp:=two_pos W
 have e0:(1:Int) * 2 ^ W - 1=((2 ^ W - 1:Nat):Int):=by
  have:0<2 ^ W:=Nat.pow_pos (by decide)
  rw [Vc,ie]; lia
 rw [e0]
 show (match decide (0≤x),decide (0≤((2 ^ W - 1:Nat):Int)) with
  | true,true=>(((x.toNat &&& (((2 ^ W - 1:Nat):Int)).toNat:Nat)):Int)
  | true,false=>_ | false,true=>_ | false,false=>_)=_
 rw [decide_eq_true h,decide_eq_true (Int.natCast_nonneg _)]
 show ((x.toNat &&& (2 ^ W - 1):Nat):Int)=_
 rw [Nat.and_two_pow_sub_one_eq_mod,ie,Int.natCast_emod,Int.toNat_of_nonneg h]
noncomputable def cC (p q:List Int):List Int:=(Rt (max p.length q.length)).map fun k=>bR p k+bR q k
noncomputable def dY (l r:aL):aL:=(cC l.1 r.1,l.2 * r.2)
noncomputable def aI (A B:List aL):List aL:=A.flatMap fun l=>B.map (dY l)
theorem jz (p q):(cC p q).length=max p.length q.length:=by simp [cC]
theorem cg (p q) (i):bR (cC p q) i=bR p i+bR q i:=by
 by_cases z:i<max p.length q.length
 ·rw [dM (by rw [jz]; exact z)]; simp [cC]
 ·rw [cV (by rw [jz]; lia),cV (by lia),cV (by lia)]; rfl
theorem Gz (b) (p q):pk b (cC p q)=pk b p+pk b q:=by
 unfold pk
 rw [← xV]
 exact jw fun i _=>cg p q i
theorem gF (h:t∈aI A B):∃ l∈A,∃ r∈B,t=dY l r:=by
 unfold aI at h
 obtain ⟨l,hl,h⟩:=W8.mp h
 obtain ⟨r,hr,rfl⟩:=Rj.mp h
 exact ⟨l,hl,r,hr,rfl⟩
theorem pV (A B) (l):aI (A++[l]) B=aI A B++B.map (dY l):=by
 unfold aI
 rw [List.flatMap_append,R8,SI,Ru]
theorem dG (A B):(aI A B).length=A.length * B.length:=by
 induction A with
 | nil=>simp [aI]
 | cons a A ih =>
  unfold aI at *
  rw [R8,Rr,ih,QU,RH,U8]
  lia
end EV
namespace EV
open PySem PySem.Spec PySem.Calls PyProof.Rows L2
theorem CH {K:QM}:∀ {kvs:List (Key×D)} {ys:List (Key×V)},ys.map (·.1)=kvs.map (·.1)→ak K H (kvs.map (·.2)) (ys.map (·.2))→nL K H kvs ys
 | [],[],_,_=>.nil
 | [],y::ys,h,_=>by simp at h
 | x::kvs,[],h,_=>by simp at h
 | x::kvs,y::ys,h,r=>by
  rw [QW,QW] at h r
  obtain ⟨v,t,e,r1,r2⟩:=aE.mp r
  injection e with e1 e2
  injection h with h1 h2
  subst e1 e2
  exact .cons ⟨h1.symm,r1⟩ (CH h2 r2)
section
variable {K:QM}
theorem KQ (h:aH c a ρ fun x=>aH c b ρ fun y=>∃ (kvs:List (Key×D)) (kk:Key) (d:D),x=.fdK (kvs.map (·.1)) (kvs.map (·.2))∧y.yQ=some kk∧bF kvs kk=some d∧R d) (hs:Jy b:=by with_unfolding_all exact fun _ _=>rfl):aH c (.Subscript a b pos) ρ R:=fun σ H Hf Q S q =>
 bM (E8 c.hu cW cW hs) (h σ H Hf _ S fun x v H1 aP h1 r1 g1=>h1 σ H1 aP _ (S.cE g1) fun y u H2 cK ⟨kvs,kk,d,e1,e2,e3,hR⟩ r2 g2=>by
  subst e1
  obtain ⟨p,ys,o,rfl,k1,k2,k3⟩:=i8.mp r1
  have kv:=(CH k2 k3).mono g2.f
  have rel:=kv.val kk
  rw [e3] at rel
  rw [jd e2 r2]
  cases z:lQ ys kk with
  | none=>rw [z] at rel; exact rel.elim
  | some v =>
   rw [z] at rel
   exact ⟨p,v,rfl,.inl ⟨ys,kk,.inr ⟨o,g2.b _ _ (g2.f _ _ k1)⟩,rfl,z.symm⟩,q d v H2 cK hR rel (g1.trans g2)⟩)
end
end EV
namespace EV
open PySem PySem.Spec PyProof.Rows L2
theorem tW {A:List aL} {l:List Int} {n:Int} {t:aL} (h:t∈putD A l n):t=(l,n)∨t∈A:=by
 unfold putD at h
 split at h
 ·obtain ⟨u,hu,e⟩:=Rj.mp h
  split at e
  ·rename_i q; subst e; exact .inl (by rw [q])
  ·subst e; exact .inr hu
 ·rcases Rg.mp h with q | q
  ·exact .inr q
  ·simp at q; exact .inl q
theorem KR {A:List aL} (h:∀ t∈A,t.2.natAbs≤c) (l):((bF A l).getD 0).natAbs≤c:=by
 unfold bF
 cases e:A.find? (fun kv=>decide (kv.1=l)) with
 | none=>exact Rq _
 | some u=>exact h u (List.mem_of_find?_eq_some e)
theorem x8:∀ (ts A:List aL) (c:Nat),(∀ t∈A,t.2.natAbs≤c)→(∀ t∈ts,t.2.natAbs≤m)→∀ t∈ts.foldl fX A,t.2.natAbs≤c+ts.length * m
 | [],A,c,h,_,t,ht=>by simpa using h t ht
 | u::ts,A,c,h,g,t,ht=>by
  have:=x8 (m:=m) ts (fX A u) (c+m) (fun t' ht'=>by
   rcases tW ht' with rfl | q
   ·have a:=KR h (trim u.1)
    have b:=g u Q6
    show ((bF A (trim u.1)).getD 0+u.2).natAbs≤c+m
    omega
   ·have:=h t' q; omega) (fun t h=>g t (Q9 _ h)) t ht
  rw [RH,U8]
  omega
theorem KS (h:∀ t∈ts,t.2.natAbs≤m):∀ t∈aV ts,t.2.natAbs≤ts.length * m:=fun t ht=>by
 have:=x8 ts [] 0 (by simp) h t ht
 omega
theorem zE (l m:List Int):k9 (n+1) (.tup (l.map D.int)) (.tup (m.map D.int)):=.tup fun i d e h1 h2=>by
 simp only [Q3,Q7] at h1 h2
 obtain ⟨a,_,rfl⟩:=h1
 obtain ⟨b,_,rfl⟩:=h2
 exact .sc rfl
theorem CI (x y):k9 (n+2) (au x) (au y):=.tup fun i d e h1 h2=>by
 rcases i with _ | _ | i
 ·simp at h1 h2; subst h1 h2; exact zE _ _
 ·simp at h1 h2; subst h1 h2; exact .sc rfl
 ·simp at h1
theorem CJ (L M:List aL):k9 (n+3) (.lst (L.map au)) (.lst (M.map au)):=.lst fun i d e h1 h2=>by
 simp only [Q3,Q7] at h1 h2
 obtain ⟨a,_,rfl⟩:=h1
 obtain ⟨b,_,rfl⟩:=h2
 exact CI a b
theorem CK (es):nZ [] es:=fun i d e h _=>by simp at h
theorem pW (h:k9 40 d e) (t:nZ ds es):nZ (d::ds) (e::es):=fun i a b h1 h2=>by
 cases i with
 | zero=>simp at h1 h2; subst h1 h2; exact h
 | succ i=>exact t i a b (by simpa using h1) (by simpa using h2)
theorem tX (h:nZ ds ds) (t:T true):Ba (.lst ds) (.lst ds) T:=Fl ⟨h,by rw [decide_eq_true rfl]; exact t⟩
theorem mU {α:Type} (xs:List α) (a b:Nat):(EV.cutD xs (some (a:Int)) (some (b:Int))).length≤b - a:=by
 unfold EV.cutD HT.cj
 simp only [show ¬ ((a:Int)<0) by omega,show ¬ ((b:Int)<0) by omega,if_false,Rx,VN,Rp]
 omega
section
variable {K:QM}
theorem int_mk (KX:K.In h) (G:h.Ns mainGlobals mg) (a:RT K mainGlobals x=some (some (.int i tk))):∃ tk:Tok,mg x=some (.int i tk):=⟨tk,PySem.W.mg_of KX G a⟩
theorem x9 {st:Stmt} (m:mg x=some (.ref f)) (Fu:dR K x x st f fd) (ok:bf P w K mg base (cO P w) k f fd ps (Kx K F))
 (hb:∀ (kV doc pm:Value) (an:Option Addr) (cdv ct:Value) (us:List Value),us.length=ps.length→bindArgs (SW x x (eX st) (aq st) (af st) .none kV doc pm an cdv ct) ⟨us,[]⟩=pure (ps.zip us)):zj P w K mg base k x F :=
 ⟨f,fd,ps,m,Fu.kp,Fu.binds hb,ok⟩
end
theorem c8 (h:n≤100000):n<sizeLine:=Tc h (by decide)
theorem jA (h:n≤100000):n≤sizeLine:=TJ (c8 h)
structure mV (P:Program) (w:World) (K:QM) (mg:Str→Option Value) (base:Heap) (k:Nat) (f:Addr) (F:Fn):Prop where
 ex:∃ fd ps,SK K (.ref f)=true∧Binds K fd ps []∧bf P w K mg base (cO P w) k f fd ps (dU K F)
section
variable {K:QM} {c:Ctx P w K mg base k N sc bk}
theorem bJ.at_ (h:bJ P w K mg base j x F):∃ f,mg x=some (.ref f)∧mV P w K mg base j f F:=by
 obtain ⟨f,fd,ps,a,b,c,d⟩:=h.ex
 exact ⟨f,a,fd,ps,b,c,d⟩
theorem iM (hm:mg x=some (.ref f)) (hR:R (.adr f)) (hg:sc.names.lookup x=some .globalImplicit:=by walk_at "u") (hd:(x == ("__debug__":Str))=false:=by decide) :
 aH c (.Name x pos) ρ R:=fun σ H Hf Q S q =>
 bM (wD (X:=c.X) (v:=.ref f) (u:=.ref f) (by unfold Gl Rz; rw [c.esc]; exact hg) (by rw [c.emg]; exact hm) rfl hd) (q _ _ H Hf hR (fG.mpr rfl) (.refl S.sb))
theorem CL (h:mV P w K mg base j f F) (hj:j≤k):SK K (.ref f)=true ∧
 ∀ (aa:List (Addr×Obj)) (σ:L2.St) (H Hf:Hp) (s:Shared) (us:List Value) (vs:List V) (ds:List D) (r:Res) (Q:VK),Inv c.X aa σ H s→bC c σ H Hf ρ→Vals vs us→ak c.X.K Hf ds vs→F ds r →
  (∀ sl v H' ai,r=.ok sl→aZ c.X.K (fun p=>H p=none) H' ai sl v→bu H Hf H' ai→Q v H')→(∀ C,r=.ex C→c.RX C ρ)→wpAny (model c.X.prog c.X.w) c.X.A (call (.ref f) us) (EP c.X aa σ Q) c.X.xe s:=by
 obtain ⟨fd,ps,hk,hb,hF⟩:=h.ex
 refine ⟨hk,fun aa σ H Hf s us vs ds r Q I S rv rs hr q hx=>?_⟩
 have hF':bf c.X.prog c.X.w c.X.K c.X.mg c.X.base (cO c.X.prog c.X.w) k f fd ps (dU c.X.K F):=by rw [c.eP,c.ew,c.eK,c.emg,c.eb]; exact hF.mono hj
 have rF:dU c.X.K F vs H Q (fun cv ao H'=>∃ C,r=.ex C∧cv=.ref C∧aM H H'):=by
  refine ⟨Hf,ds,r,S.bas.b,rs,hr,?_⟩
  cases r with
  | ok sl=>exact fun v H' ai g rs2=>q sl v H' ai rfl rs2 g
  | ex C=>exact fun a H' s2=>⟨C,rfl,rfl,s2⟩
 have hl:us.length=ps.length:=by rw [← rv.length]; exact hF'.len _ _ _ _ rF
 have hb':Binds c.X.K fd ps []:=by rw [c.eK]; exact hb
 have hb2:=hb' s us I.qb (by simpa using hl)
 rw [Ru] at hb2
 refine UJ (UE (hF'.run c.X.A c.X.stack s H ⟨us,[]⟩ us vs Q _ c.room I.EX hb2 rv rF) fun r' s' hq=>?_)
 cases r' with
 | error e =>
  obtain ⟨a,C,H',rfl,hE,C',e1,e2,sm⟩:=hq
  cases e2
  exact c.exc C a aa σ H Hf ρ s H' s' I S (hx C e1) hE sm
 | ok fl =>
  cases fl with
  | ret u=>exact I.after hq
  | next=>exact RU hq
  | brk=>exact RU hq
  | cont=>exact RU hq
theorem GA {R:Sl→Prop} (h:mV P w K mg base j f F) (hj:j≤k) (hN:At N i x) (hi:At ρ i (.va (.adr f)))
 (ha:r6 c (e::es) ρ fun ds=>∃ r,F ds r∧JN c ρ R r)
 (hdb:(x == ("__debug__":Str))=false:=by decide) (hcd:(x == ("__classdict__":Str))=false:=by decide) (he:∀ env,starEach (e::es) env=(false,eval e env)::starEach es env:=by intro _; walk_at "u")
 (hpl:∀ env,(backTo pos (starEach es env)).any (·.1)=false:=by intro _; walk_at "u"):dz c (.Call (.Name x p) (e::es) [] pos) ρ R:=fun σ H Hf Q S q aa s I=>by
 obtain ⟨hk,run⟩:=CL (c:=c) (ρ:=ρ) h hj
 obtain ⟨v0,e0,r0⟩:=S.va hi.get
 rw [fG] at r0
 subst r0
 refine SG (bD (c.lY hN hdb hcd aa s σ H (fun v H1=>v=.ref f∧H1=H) I ⟨_,e0,rfl,rfl⟩) fun fv s1 ⟨v,H1,I1,rv,e1,e2⟩=>?_)
 subst e1 e2
 have ef:fv=.ref f:=rv
 subst ef
 refine VA (h₀:=c.X.base) I1.ok.mod.kin (by rw [c.eK]; exact hk) (bD (ha σ _ Hf (fun vs H1=>∃ aP ds,(∃ r,F ds r∧JN c ρ R r)∧ak c.X.K aP ds vs∧bu _ Hf H1 aP) S (fun ds vs H1 aP hr rs g=>⟨aP,ds,hr,rs,g⟩) pos aa s1 I1) fun us s2 ⟨vs,H2,I2,rv,aP,ds,⟨r,hF,hR⟩,rs,g⟩=>⟨I2.qb,?_⟩) (he _) (hpl _)
 refine run aa σ H2 aP s2 us vs ds r Q I2 (S.cE g) rv rs hF (fun sl v H' ai e1 rs2 g2=>?_) fun C e1=>?_
 ·subst e1
  exact q sl v H' ai hR (rs2.weak fun p hp=>g.s.free hp) (g.trans g2)
 ·subst e1
  exact hR
end
end EV
namespace EV
open PySem PySem.Spec PySem.Calls PyProof.Rows L2
section
theorem zF (hc:X.calm=true) (I:Inv X aa σ H s) (sb:aM Hf H) (hv:s.heap.IsItemsView v d) (hH:Hf d=some (.frz o u)) (hd:HO.dct u) (hp:Paired (pF X.K Hf) ds (cI u))
 (hQ:∀ (a:Addr) (s':Shared) (H' ai:Hp) (xs:List V),Inv X aa σ H' s'→H' a=some (.lst xs)→H a=none→ai a=none→ak X.K ai ds xs→bu H Hf H' ai→Q (.ref a) s'):wpAny (model X.prog X.w) X.A (call (.type "list") [.ref v]) Q E s:=by
 obtain ⟨ho,ok⟩:=(show bw X.prog X.w H s.heap d (.frz o u) from I.hok d _ (sb _ _ hH))
 obtain ⟨_,_,_,_,_,_,hz⟩:=dD ok hd ho
 have h1:X.A.in1.handled=none:=I.ok.hd hc
 have h2:X.A.in1.frames=some X.stack:=I.ok.frames
 refine callType_codes (Q₁:=fun obj s₁=>obj=.ref s.heap.objs.size∧s₁={ s with heap:=s.heap.push { cls:=.type "list",data:=.seq #[] } }) F.called_list (F.typeCall_list_1 _) F.entry_list_init
  (code_list_new _ ⟨rfl,rfl⟩) fun obj s₁ h₁=>?_
 obtain ⟨rfl,rfl⟩:=h₁
 have hS:(s.heap.push { cls:=.type "list",data:=.seq #[] }).get? s.heap.objs.size=some { cls:=.type "list",data:=.seq #[] }:=Q5 _ rfl
 refine ⟨⟨_,hS,rfl⟩,F.args_list_init_2 _ _,?_⟩
 show wpAny _ X.A.in1.in1 (do let old ← TZ (.ref s.heap.objs.size); Ti (.ref s.heap.objs.size) (fun _=> #[]); letGo old.toList.reverse; Vk (.ref s.heap.objs.size) (.ref v) .none) _ _ _
 refine QL (Ub hS rfl ?_)
 have HS:H s.heap.objs.size=none:=I.hok.fresh (QS _)
 have I1:Inv X aa σ (upd H s.heap.objs.size (.lst [])) { s with heap:=s.heap.push { cls:=.type "list",data:=.seq ([]:List Value).toArray },toks:=s.toks }:=I.E4 (t':=s.toks) (ys:=[]) (its:=[]) .nil (Rq _)
 refine QL (Su hS rfl ?_)
 have I2:=I1.uW (f:=fun _=>(#[]:Array Value)) (its':=[]) (ys:=[]) (t':=s.toks) ah (n:=0) hS (by simp) .nil (Rq _)
 rw [p9] at I2
 refine QL (Ue ?_)
 have k1:∀ b o,s.heap.get? b=some o→((s.heap.push { cls:=.type "list",data:=.seq ([]:List Value).toArray }).update s.heap.objs.size (Rw fun _=>(#[]:Array Value))).get? b=some o:=fun b o e=>by
  rw [S9 _ _ _ _ (Ri (QX e))]
  exact QV _ e
 have up:∀ s':Shared,(∀ b o,s.heap.get? b=some o→s'.heap.get? b=some o)→s'.heap.IsItemsView v d:=fun s' k=>by obtain ⟨q,q1,q2⟩:=hv; exact ⟨q,k _ _ q1,q2⟩
 have hne:s.heap.objs.size≠v:=TH (by obtain ⟨_,q,_⟩:=hv; exact QX q)
 have g0:bu H Hf (upd H s.heap.objs.size (.lst [])) Hf:=bu.gp sb HS
 refine pQ (X:=HV X X.A.in1) (T:="dict_items") (ds:=ds) (H:=H) (Hf:=Hf) (R:=wants (fun r s₂=>r=.none∧Q (.ref s.heap.objs.size) s₂) E) hc h1 h2 (mJ I2 (fun _=>h1) h2) sb HS hne ?_ (by rw [SE hp]; exact hz) (by decide) (fun s' k=>(up s' fun b o e=>k b o (k1 b o e)).typeIs) (fun A s' Q E q h=>ze q h) ?_ fun s' H' ai xs I' hS' hfS hr g=>⟨rfl,hQ _ s' H' ai xs (jo I.ok I') hS' HS hfS hr g⟩
 ·show _<(Heap.update _ _ _).objs.size
  rw [Xb]
  show _<(Heap.push _ _).objs.size
  rw [SD]; exact T6 _
 ·refine RE (Gf (X:=HV X X.A.in1) (tg:=.Name "x" ⟨0,0,0,0⟩) (mJ I2 (fun _=>h1) h2) (up _ k1) (g0.b _ _ hH) hd) (fun itv s2 hh=>z3 hh fun it es ep hh=>w7 hh fun e hit I3 Tn t0 hf k2=>?_) fun _ _ x=>x
  exact ⟨it,_,_,e,hit,I3,Tn,t0,hf,k2,mj hH hp⟩
end
section
variable {K:QM} {c:Ctx P w K mg base k N sc bk}
theorem tY (hm:mg "list"=none) (h:aH c e ρ fun d=>∃ ds,d.pairs=some ds∧R (.ow ds)) (hg:sc.names.lookup (QK "list")=some .globalImplicit:=by walk_at "u")
 (hb:∀ env,attributeBase e "items" env (eval e env)=eval e env:=by intro _; walk_at "u") (hl:(ap.endLine == cp.line)=true:=by walk_at "u") :
 dz c (.Call (.Name "list" np) [.Call (.Attribute e "items" ap) [] [] cp] [] pos) ρ R:=fun σ H Hf Q S q aa s I=>by
 have hgl:Gl c.X "list":=by unfold Gl Rz; rw [c.esc]; exact hg
 refine SG (cX I hgl (by rw [c.emg]; exact hm) (show bootBuiltins "list"=some (.type "list") by decide +kernel) ?_ (by decide) (by decide))
 have hpa:=bL (X:=c.X) (e:=.Call (.Attribute e "items" ap) [] [] cp) (es:=[]) (Cm cW (hb _) hl) cY (by rfl)
 refine Uo (bD (hpa pos aa s σ H (fun vs H1=>∃ x,vs=[x]∧∃ (v d:Addr) (o:Obj) (u:HO) (ds:List D) (H0 EK:Hp),x=.ref v∧H1=upd H0 v (.ext fun h=>h.IsItemsView v d)∧H0 v=none∧EK d=some (.frz o u)∧HO.dct u∧Paired (pF c.X.K EK) ds (cI u)∧bu H Hf H0 EK∧R (.ow ds)) I ?_) fun us s1 hh=>z2 hh fun vs H1 hh=>w3 hh fun I1 r1 hh=>hh.elim fun x hh=>w2 hh fun ex hh=>z4 hh fun v d o u hh=>z3 hh fun ds H0 EK hh=>w8 hh fun e1 e2 e3 e4 e5 e6 e8 e9=>?_) (by rfl) (by rfl)
 ·exact h σ H Hf _ S fun d v H1 aP ⟨ds,hp,hR⟩ rv g=>by
   obtain ⟨a,o,u,e1,e2,e3,e4⟩:=pG hp rv
   exact ⟨a,o,u,e1,g.b _ _ e2,e3,fun vw hv=>⟨_,rfl,vw,a,o,u,ds,H1,aP,rfl,rfl,hv,e2,e3,e4,g,hR⟩⟩
 ·subst ex e1 e2
  have eu:us=[.ref v]:=by
   cases r1 with
   | cons q1 q2=>cases q2; cases q1; rfl
  subst eu
  have g1:bu H0 EK (upd H0 v (.ext fun h=>h.IsItemsView v d)) EK:=bu.gp e8.b e3
  obtain ⟨hvw,_⟩:=(show bw c.X.prog c.X.w _ s1.heap v (.ext fun h=>h.IsItemsView v d) from I1.hok v _ ah)
  refine zF c.calm I1 g1.b hvw e4 e5 e6 fun a s' H' ai xs I' hS' na Aw hr g=>?_
  have gg:=(e8.trans g1).trans g
  exact ⟨.ref a,H',I',rfl,q (.ow ds) _ _ ai e9 ⟨a,xs,rfl,e8.s.free (g1.s.free na),hS',Aw,hr⟩ gg⟩
end
section
theorem CM {K:QM}:∀ {ds:List D} {xs:List V} {us:List Value},ak K Hf ds xs→Vals xs us→Paired (fun d u=>qI K Hf d u) ds us
 | [],xs,us,h,v=>by rw [aA] at h; subst h; cases v; exact .nil
 | t::L,xs,us,h,v=>by
  obtain ⟨x,r,rfl,h1,h2⟩:=aE.mp h
  cases v with
  | cons r1 r2=>exact .cons ⟨x,r1,h1⟩ (CM h2 r2)
theorem CN {K:QM}:∀ {ds:List D} {us:List Value},Paired (fun d u=>qI K Hf d u) ds us→∃ xs,ak K Hf ds xs∧Vals xs us
 | _,_,.nil=>⟨[],aA.mpr rfl,.nil⟩
 | _,_,.cons ⟨x,r1,h1⟩ t=>by
  obtain ⟨xs,h2,h3⟩:=CN t
  exact ⟨x::xs,.cons h1 h2,.cons r1 h3⟩
theorem vD (hc:X.calm=true) (I:Inv X aa σ H s) (sb:aM Hf H) (hl:gn X.K Hf l ys) (hr:ak X.K Hf ds ys) (hd:∀ d∈ds,∃ es,d=.lst es)
 (hQ:∀ (ds':List D) (xs':List V) (s':Shared) (a:Addr),ds'.Perm ds→ak X.K Hf ds' xs'→H a=none→Inv X aa σ (upd H a (.lst xs')) s'→Q (.ref a) s') :
 wpAny (model X.prog X.w) X.A (call (.builtin "sorted") [.ref l] [(QK "key",.builtin "len")]) Q E s:=by
 refine Wr kind_sorted plain_sorted entry_sorted (SR.kK _ _) ?_
 unfold Builtin.«sorted»
 refine QL (m:=checkCount "sorted" 1 1 _) (QN ?_)
 obtain ⟨its,rv,p,hz⟩:=I.list (sb.seq hl)
 have el:=rv.length
 refine QL (collect_list p.isList ?_ (by lia))
 have I2:Inv X aa σ H { s with heap:=(s.heap.push (seqObj "list" #[] 0)).update s.heap.objs.size (Rw (· ++its.toArray)),toks:=s.toks }:=I.kept fun c o e=>by
  rw [S9 _ _ _ _ (Ri (QX e))]
  exact QV _ e
 generalize (s.heap.push (seqObj "list" #[] 0)).update s.heap.objs.size (Rw (· ++its.toArray))=h0 at I2 ⊢
 refine QL (V2 ?_ (by lia))
 have ha:(h0.push (seqObj "list" its.toArray 0)).get? h0.objs.size=some (seqObj "list" its.toArray 0):=Q5 _ rfl
 have Ha:H h0.objs.size=none:=I2.hok.fresh (QS _)
 have k2:∀ b o,h0.get? b=some o→(h0.push (seqObj "list" its.toArray 0)).get? b=some o:=fun b o e=>QV _ e
 have I3:Inv X aa σ H { s with heap:=h0.push (seqObj "list" its.toArray 0),toks:=s.toks }:=I2.kept (t':=s.toks) k2
 have pL:=CM hr rv
 refine QL (Sf (wpAny_call_entry_kw slot_list_sort ⟨_,ha,rfl⟩ entry_list_sort (SR.Cf ha (by lia) (fun v hv=>?_) fun out h' tk e hp he hk=>⟨_,rfl,?_⟩) (SR.iI _ _)))
 ·obtain ⟨d,hd',x,r1,h1⟩:=SR.iH pL v hv
  obtain ⟨es,rfl⟩:=hd d hd'
  obtain ⟨b,zs,rfl,q1,q2⟩:=aS.mp h1
  cases r1
  obtain ⟨its',rv',p',hz'⟩:=I3.list (sb.seq q1)
  have e':=rv'.length
  refine ⟨b,its'.toArray,rfl,?_,p'.isList,by simp only [Rb]; lia⟩
  rintro rfl
  obtain ⟨_,_,p2,_⟩:=I2.list (sb.seq q1)
  obtain ⟨o,q,_⟩:=p2.isList
  exact Sv _ (QX q)
 ·obtain ⟨ds',p1,p2⟩:=SR.gB hp pL
  obtain ⟨xs',r',v'⟩:=CN p2
  have hlen:out.toList.length=its.length:=hp.length_eq
  refine QN ⟨_,rfl,hQ ds' xs' _ _ p1 r' Ha ?_⟩
  refine I2.laid (t':=tk) (a:=h0.objs.size) (fun b o q=>hk b o (Ri (QX q)) (k2 b o q)) (QS _) ⟨by have:=v'.length; lia,out.toList,e,v',by simpa using he⟩
end
section
variable {K:QM} {c:Ctx P w K mg base k N sc bk}
theorem zG (hm:mg "sorted"=none) (hml:mg "len"=none) (h:aH c e ρ fun d=>∃ ds,d=.lst ds∧Sd (∀ x∈ds,∃ es,x=.lst es) (∀ ds':List D,ds'.Perm ds→R (.ow ds')))
 (hg:sc.names.lookup (QK "sorted")=some .globalImplicit:=by walk_at "u") (hgl:sc.names.lookup (QK "len")=some .globalImplicit:=by walk_at "u")
 (he:∀ env,starEach [e] env=(false,eval e env)::starEach [] env:=by intro _; walk_at "u")
 (hpl:∀ env,(backTo pos (starEach [e] env)).any (·.1)=false:=by intro _; walk_at "u") :
 dz c (.Call (.Name "sorted" np) [e] [⟨some "key",.Name "len" kp1,kp⟩] pos) ρ R:=fun σ H Hf Q S q aa s I=>by
 have hgs:Gl c.X "sorted":=by unfold Gl Rz; rw [c.esc]; exact hg
 have hgl':Gl c.X "len":=by unfold Gl Rz; rw [c.esc]; exact hgl
 refine SG (cX I hgs (by rw [c.emg]; exact hm) (show bootBuiltins "sorted"=some (.builtin "sorted") by decide +kernel) ?_ (by decide) (by decide))
 refine callWith_kw ?_ (by rw [he]; rfl) (hpl _)
 have hpa:=bL (X:=c.X) (e:=e) (es:=[]) cW cY (he _)
 refine bD (hpa pos aa s σ H (fun vs H1=>∃ x,vs=[x]∧∃ (ds:List D) (aP:Hp),Rep c.X.K aP (.lst ds) x∧(∀ x∈ds,∃ es,x=.lst es)∧bu H Hf H1 aP∧∀ ds':List D,ds'.Perm ds→R (.ow ds')) I ?_) fun us s1 hh=>z2 hh fun vs H1 hh=>w3 hh fun I1 r1 hh=>hh.elim fun x hh=>w2 hh fun ex hh=>z2 hh fun ds aP hh=>w4 hh fun e1 e7 e8 e9=>?_
 ·exact h σ H Hf _ S fun d v H1 aP ⟨ds,hp,⟨hn,hR⟩⟩ rv g=>⟨_,rfl,ds,aP,by rw [← hp]; exact rv,hn,g,hR⟩
 ·subst ex
  obtain ⟨a0,ys,rfl,hs,hr⟩:=aS.mp e1
  have eu:us=[.ref a0]:=by
   cases r1 with
   | cons q1 q2=>cases q2; cases q1; rfl
  subst eu
  refine kws_cons (cX I1 hgl' (by rw [c.emg]; exact hml) (show bootBuiltins "len"=some (.builtin "len") by decide +kernel) ?_ (by decide) (by decide))
  refine kws_nil ?_
  exact vD c.calm I1 e8.b hs hr e7 fun ds' xs' s' a p1 p3 na I3=>⟨.ref a,_,I3,rfl,q (.ow ds') _ _ aP (e9 ds' p1) ⟨a,xs',rfl,e8.s.free na,ah,e8.b.free na,p3⟩ (e8.trans (bu.gp e8.b na))⟩
end
mutual
def Sh.d:Sh→D
 | .v d=>d
 | .l ds=>.lst ds
 | .la _ ds=>.lst ds
 | .t ss=>.tup (Sh.ds ss)
 | .ls ss=>.lst (Sh.ds ss)
def Sh.ds:List Sh→List D
 | []=>[]
 | s::ss=>s.d::Sh.ds ss
end
section
variable {K:QM} {H Hf H' ai:Hp}
noncomputable abbrev Fp:=List (Addr×List V)
mutual
theorem bq.fz:∀ (s:Sh) {v:V} {fp:Fp},bq K H Hf s v fp→∀ a∈fp,H a.1=some (pl a.1 a.2)∧Hf a.1=none
 | .v d,_,_,h=>by simp only [bq] at h; obtain ⟨_,rfl⟩:=h; intro a ha; cases ha
 | .l ds,_,_,h=>by
  simp only [bq] at h
  obtain ⟨p,xs,e,h1,h2,h3,rfl⟩:=h
  intro a ha
  obtain rfl:=Q8.mp ha
  exact ⟨h1,h2⟩
 | .la p ds,_,_,h=>by
  simp only [bq] at h
  obtain ⟨xs,e,h1,h2,h3,rfl⟩:=h
  intro a ha
  obtain rfl:=Q8.mp ha
  exact ⟨h1,h2⟩
 | .t ss,_,_,h=>by
  simp only [bq] at h
  obtain ⟨a,xs,e,h1,h2⟩:=h
  exact aD.fz ss h2
 | .ls ss,_,_,h=>by
  simp only [bq] at h
  obtain ⟨p,xs,fq,e,h1,h2,h3,rfl⟩:=h
  intro a ha
  rcases Q0.mp ha with rfl | ha
  ·exact ⟨h1,h2⟩
  ·exact aD.fz ss h3 a ha
theorem aD.fz:∀ (ss:List Sh) {xs:List V} {fp:Fp},aD K H Hf ss xs fp→∀ a∈fp,H a.1=some (pl a.1 a.2)∧Hf a.1=none
 | [],_,_,h=>by simp only [aD] at h; obtain ⟨_,rfl⟩:=h; intro a ha; cases ha
 | s::ss,_,_,h=>by
  simp only [aD] at h
  obtain ⟨x,r,f1,f2,e,h1,h2,rfl⟩:=h
  intro a ha
  rcases Rg.mp ha with ha | ha
  ·exact bq.fz s h1 a ha
  ·exact aD.fz ss h2 a ha
end
mutual
theorem bq.rep (sf:aM Hf ai):∀ (s:Sh) {v:V} {fp:Fp},(∀ a∈fp,ai a.1=some (.lst a.2))→bq K H Hf s v fp→Rep K ai s.d v
 | .v d,_,_,_,h=>by simp only [bq] at h; exact h.1.mono sf d
 | .l ds,_,_,hk,h=>by
  simp only [bq] at h
  obtain ⟨p,xs,e,h1,h2,h3,rfl⟩:=h
  exact aS.mpr ⟨p,xs,e,.inl (.inl (hk _ Q6)),h3.mono sf ds⟩
 | .la p ds,_,_,hk,h=>by
  simp only [bq] at h
  obtain ⟨xs,e,h1,h2,h3,rfl⟩:=h
  exact aS.mpr ⟨p,xs,e,.inl (.inl (hk _ Q6)),h3.mono sf ds⟩
 | .t ss,_,_,hk,h=>by
  simp only [bq] at h
  obtain ⟨a,xs,e,h1,h2⟩:=h
  exact aJ.mpr ⟨a,xs,e,az sf h1,aD.rep sf ss hk h2⟩
 | .ls ss,_,_,hk,h=>by
  simp only [bq] at h
  obtain ⟨p,xs,fq,e,h1,h2,h3,rfl⟩:=h
  exact aS.mpr ⟨p,xs,e,.inl (.inl (hk _ Q6)),aD.rep sf ss (fun a ha=>hk a (Q9 _ ha)) h3⟩
theorem aD.rep (sf:aM Hf ai):∀ (ss:List Sh) {xs:List V} {fp:Fp},(∀ a∈fp,ai a.1=some (.lst a.2))→aD K H Hf ss xs fp→ak K ai (Sh.ds ss) xs
 | [],_,_,_,h=>by simp only [aD] at h; exact aA.mpr h.1
 | s::ss,_,_,hk,h=>by
  simp only [aD] at h
  obtain ⟨x,r,f1,f2,e,h1,h2,rfl⟩:=h
  exact aE.mpr ⟨x,r,e,bq.rep sf s (fun a ha=>hk a (Tj _ ha)) h1,aD.rep sf ss (fun a ha=>hk a (RY _ ha)) h2⟩
end
noncomputable def kM (H:Hp) (fp:Fp):Hp:=fun a=>if a∈fp.map (·.1) then none else H a
noncomputable def iy (g:Addr→List V→HO):Fp→Hp→Hp
 | [],H=>H
 | p::fp,H=>upd (iy g fp H) p.1 (g p.1 p.2)
noncomputable def CO:Addr→List V→HO:=fun _ xs=>.lst xs
theorem fP (h:a∉fp.map (·.1)):kM H fp a=H a:=if_neg h
theorem lD (h:a∈fp.map (·.1)):kM H fp a=none:=if_pos h
theorem aX:∀ {fp:Fp},a∉fp.map (·.1)→iy g fp H a=H a
 | [],_=>rfl
 | p::fp,h=>by
  rw [QW,Q0,not_or] at h
  show upd _ _ _ a=_
  rw [aj h.1,aX h.2]
theorem fY:∀ {fp:Fp},(fp.map (·.1)).Nodup→∀ a∈fp,iy g fp H a.1=some (g a.1 a.2)
 | p::fp,nd,a,ha=>by
  rw [QW,Sm] at nd
  show upd _ _ _ a.1=_
  rcases Q0.mp ha with rfl | ha
  ·exact ah
  ·rw [aj fun e=>nd.1 (by rw [← e]; exact Rj.mpr ⟨a,ha,rfl⟩)]
   exact fY nd.2 a ha
theorem cD {fp:Fp} (h:a∈fp.map (·.1)):∃ p∈fp,p.1=a:=Rj.mp h
theorem CP (nd:(fp.map (·.1)).Nodup) (hz:∀ a∈fp,H a.1=some (pl a.1 a.2)∧Hf a.1=none) (g:bu (iy CO fp H) (iy CO fp Hf) H' ai):bu H Hf (iy pl fp H') (kM ai fp):=by
 refine ⟨fun b o e=>?_,fun b o e=>?_,fun b o e=>?_,fun b h1 h2 h3=>?_⟩
 ·by_cases m:b∈fp.map (·.1)
  ·obtain ⟨p,hp,rfl⟩:=cD m
   rw [fY nd p hp,← (hz p hp).1]; exact e
  ·rw [aX m]; exact g.s b o (by rw [aX m]; exact e)
 ·have m:b∉fp.map (·.1):=fun m=>by obtain ⟨p,hp,rfl⟩:=cD m; rw [(hz p hp).2] at e; cases e
  rw [fP m]; exact g.f b o (by rw [aX m]; exact e)
 ·by_cases m:b∈fp.map (·.1)
  ·rw [lD m] at e; cases e
  ·rw [fP m] at e; rw [aX m]; exact g.b b o e
 ·by_cases m:b∈fp.map (·.1)
  ·exact lD m
  ·rw [fP m]; exact g.n b (by rw [aX m]; exact h1) (by rw [aX m]; exact h2) fun xs=>by rw [aX m]; exact h3 xs
end
section
theorem Ib:bw P w H h p (pl p xs)↔bw P w H h p (.lst xs):=by
 constructor
 ·exact fun q=>q.1
 ·rintro ⟨z,its,n,r,e⟩
  exact ⟨⟨z,its,n,r,e⟩,⟨_,e⟩,fun h1 h2 ⟨z,its,n,r,e⟩ k=>⟨z,its,n,r,k _ e⟩⟩
theorem vE (I:Inv X aa σ H s) (h:H a=some (.lst xs)):Inv X aa σ (upd H a (pl a xs)) s :=
 qC I h (by intro _ z; cases z) (by intro _ z; cases z) (by intro _ z; cases z) (fun o z e=>by have q:=I.base.frzs a o z e; rw [h] at q; cases q) (Ib.mpr (I.hok a _ h))
theorem CQ (I:Inv X aa σ H s) (h:H a=some (pl a xs)):Inv X aa σ (upd H a (.lst xs)) s :=
 qC I h (by intro _ z; cases z) (by intro _ z; cases z) (by intro _ z; cases z) (fun o z e=>by have q:=I.base.frzs a o z e; rw [h] at q; cases q) (Ib.mp (I.hok a _ h))
theorem mW (I:Inv X aa σ H s):∀ {fp:Fp},(fp.map (·.1)).Nodup→(∀ a∈fp,H a.1=some (pl a.1 a.2))→Inv X aa σ (iy CO fp H) s
 | [],_,_=>I
 | p::fp,nd,h=>by
  rw [QW,Sm] at nd
  exact CQ (mW I nd.2 fun a ha=>h a (Q9 _ ha)) (by rw [aX nd.1]; exact h p Q6)
theorem tZ (I:Inv X aa σ H s):∀ {fp:Fp},(fp.map (·.1)).Nodup→(∀ a∈fp,H a.1=some (.lst a.2))→Inv X aa σ (iy pl fp H) s
 | [],_,_=>I
 | p::fp,nd,h=>by
  rw [QW,Sm] at nd
  exact vE (tZ I nd.2 fun a ha=>h a (Q9 _ ha)) (by rw [aX nd.1]; exact h p Q6)
end
inductive LP:List Sl→Prop where
 | nil:LP []
 | cons {r:Sl} {l:List Sl} (h:r.LK=false):LP l→LP (r::l)
inductive kN:List Sl→Nat→Sh→Prop where
 | z {s:Sh} {l:List Sl}:LP l→kN (.fo s::l) 0 s
 | s {r:Sl} {l:List Sl} {i:Nat} {s:Sh} (h:r.LK=false):kN l i s→kN (r::l) (i+1) s
theorem LP.get (h:LP l):∀ {j:Nat} {r:Sl},l[j]?=some r→r.LK=false:=by
 induction h with
 | nil=>intro j r e; simp at e
 | cons h _ ih =>
  intro j r e
  cases j with
  | zero=>simp at e; subst e; exact h
  | succ j=>exact ih (by simpa using e)
theorem kN.at_ {l:List Sl} {i:Nat} {s:Sh} (h:kN l i s):l[i]?=some (.fo s)∧∀ {j:Nat} {r:Sl},j≠i→l[j]?=some r→r.LK=false:=by
 induction h with
 | z h =>
  refine ⟨rfl,fun {j r} hj e=>?_⟩
  cases j with
  | zero=>exact absurd rfl hj
  | succ j=>exact h.get (by simpa using e)
 | s h _ ih =>
  refine ⟨by simpa using ih.1,fun {j r} hj e=>?_⟩
  cases j with
  | zero=>simp at e; subst e; exact h
  | succ j=>exact ih.2 (fun z=>hj (congrArg (· +1) z)) (by simpa using e)
section
variable {K:QM}
theorem c6.Nm (S:c6 K H₀ dS σ H Hf ρ) (h:kN ρ i s) :
 ∃ fp:Fp,(fp.map (·.1)).Nodup∧(∀ a∈fp,H a.1=some (pl a.1 a.2)∧Hf a.1=none)∧c6 K H₀ dS σ (iy CO fp H) (iy CO fp Hf) (ρ.set i (.va s.d)):=by
 obtain ⟨hi,ho⟩:=h.at_
 obtain ⟨v,ev,fp,rf,nd,hfr⟩:=S.at_ i _ hi (by intro z; cases z)
 have hz:=bq.fz s rf
 have hlt:i<ρ.length:=(Q2.mp hi).1
 have none_in:∀ {b:Addr} {o:HO},Hf b=some o→b∉fp.map (·.1):=fun e m=>by obtain ⟨p,hp,rfl⟩:=cD m; rw [(hz p hp).2] at e; cases e
 have fr_in:∀ {b:Addr},b∈fp.map (·.1)→H₀ b=none:=fun m=>by obtain ⟨p,hp,rfl⟩:=cD m; exact hfr p hp
 have sf:aM Hf (iy CO fp Hf):=fun b o e=>by rw [aX (none_in e)]; exact e
 refine ⟨fp,nd,hz,⟨⟨fun b o e=>?_,S.bas.f.trans sf,fun b o e=>?_,fun b h1 h2 h3=>?_⟩,by simp [S.len],fun j r hj hu=>?_,fun j j' r r' q hne h1 h2 o1 o2=>?_⟩⟩
 ·rw [aX fun m=>by rw [fr_in m] at e; cases e]; exact S.bas.s b o e
 ·by_cases m:b∈fp.map (·.1)
  ·obtain ⟨p,hp,rfl⟩:=cD m
   rw [fY nd p hp] at e ⊢; exact e
  ·rw [aX m] at e ⊢; exact S.sb b o e
 ·rw [aX fun m=>h2 (fr_in m)]; exact S.bas.n b h1 h2 h3
 ·by_cases q:j=i
  ·subst q
   rw [R4 hlt] at hj
   cases hj
   exact ⟨v,ev,bq.rep sf s (fun a ha=>fY nd a ha) rf⟩
  ·rw [R5 (Rf q)] at hj
   obtain ⟨v,e1,e2⟩:=S.at_ j r hj hu
   refine ⟨v,e1,aZ.mv (B:=fun a=>a∈fp.map (·.1)) sf (fun a o hm e1 _ e3=>⟨by rw [aX hm]; exact e1,by rw [aX hm]; exact e3⟩) (fun hf=>by rw [ho q hj] at hf; cases hf) (fun ow a e m=>?_) e2⟩
   subst e
   obtain ⟨_,_,e,_,_,_,nf⟩:=e2.se ow
   cases e
   obtain ⟨p,hp,rfl⟩:=cD m
   exact nf ⟨p.2,(hz p hp).1⟩
 ·have out:∀ {j:Nat} {r:Sl},(ρ.set i (.va s.d))[j]?=some r→r.owned=true→ρ[j]?=some r:=fun {j r} hj ho=>by
   by_cases q:j=i
   ·subst q; rw [R4 hlt] at hj; cases hj; cases ho
   ·rw [R5 (Rf q)] at hj; exact hj
  exact S.sep j j' r r' q hne (out h1 o1) (out h2 o2) o1 o2
end
section
variable {K:QM}
theorem CS (i) (h1:kN ρ i s) (hs:SSet ρ i (.va s.d) ρ') (h:jL c e ρ' T):jL c e ρ T:=fun σ H Hf Q S q aa s' I=>by
 obtain ⟨fp,nd,hz,S1⟩:=S.Nm h1
 rw [← hs.eq] at S1
 refine bD (h σ _ _ (fun b H'=>∃ ai,T b∧bu (iy CO fp H) (iy CO fp Hf) H' ai) S1 (fun b H' ai rd g=>⟨ai,rd,g⟩) aa s' (mW I nd fun a ha=>(hz a ha).1)) fun b s1 ⟨H1,I1,aP,rd,g⟩=>?_
 have hL:∀ a∈fp,H1 a.1=some (.lst a.2):=fun a ha=>g.s _ _ (fY nd a ha)
 exact ⟨_,tZ I1 nd hL,q b _ (kM aP fp) rd (CP nd hz g)⟩
theorem KU {R:Sl→Prop} (h:dz c e ρ fun r=>∃ ds,r=.ow ds∧R (.fo (.l ds))):dz c e ρ R:=fun σ H Hf Q S q aa s I=>by
 refine bD (h σ H Hf (fun v H'=>∃ ds ai,aZ c.X.K (fun p=>H p=none) H' ai (.ow ds) v∧bu H Hf H' ai∧R (.fo (.l ds))) S (fun r v H' ai ⟨ds,e,hR⟩ rs g=>⟨ds,ai,by rw [← e]; exact rs,g,hR⟩) aa s I) fun u s1 hh=>z2 hh fun v H1 hh=>w3 hh fun I1 rv hh=>z2 hh fun ds aP hh=>w3 hh fun hh g hR=>z2 hh fun a xs hh=>w5 hh fun ev fa h1 h2 h3=>?_
 subst ev
 exact ⟨_,_,vE I1 h1,rv,q (.fo (.l ds)) _ _ aP hR ⟨[(a,xs)],by simp only [bq]; exact ⟨a,xs,rfl,ah,h2,h3,rfl⟩,by simp,fun b hb=>by obtain rfl:=Q8.mp hb; exact fa⟩ (qx g fa h2)⟩
noncomputable def Sl.sh:Sl→Option Sh | .va d=>some (.v d) | .fo s=>some s | _=>none
theorem KW {H H' ai:Hp} (e:r.sh=some s) (h:aZ K (fun p=>H p=none) H' ai r v):∃ fp,bq K H' ai s v fp∧(fp.map (·.1)).Nodup∧∀ a∈fp,H a.1=none:=by
 cases r with
 | va d=>cases e; exact ⟨[],by simp only [bq]; exact ⟨h,trivial⟩,by simp,by intro a ha; cases ha⟩
 | fo s=>cases e; exact h
 | _=>cases e
noncomputable def GB (c:Ctx P w K mg base k N sc bk) (es:List Expr) (ρ:List Sl) (R:List Sh→Prop):Prop :=
 ∀ (σ:L2.St) (H Hf:Hp) (Q:List V→Hp→Prop),bC c σ H Hf ρ→(∀ ss vs fp H' ai,R ss→aD c.X.K H' ai ss vs fp→(fp.map (·.1)).Nodup→(∀ a∈fp,H a.1=none)→bu H Hf H' ai→Q vs H')→bA c.X es σ H Q
theorem t6 {R:List Sh→Prop} (h:R []):GB c [] ρ R:=fun σ H Hf Q S q=>o6 cY (q [] [] [] H Hf h (by simp [aD]) List.nodup_nil (by intro a ha; cases ha) (.refl S.sb))
theorem vF {R:List Sh→Prop} (h:dz c e ρ fun r=>∃ s,r.sh=some s∧GB c es ρ fun ss=>R (s::ss)) (hs:∀ env,starEach (e::es) env=(false,eval e env)::starEach es env:=by intro _; walk_at "u"):GB c (e::es) ρ R:=fun σ H Hf Q S q =>
 o6 (bL cW Fe (hs _)) (h σ H Hf _ S fun r v H1 aP ⟨s,es,h1⟩ rs g1=>by
  obtain ⟨f1,r1,n1,fr1⟩:=KW es rs
  have z1:=bq.fz s r1
  refine h1 σ H1 aP _ (S.cE g1) fun ss vs fp H2 cK h2 r2 n2 fr2 g2=>q (s::ss) (v::vs) (f1++fp) H2 cK h2 ?_ ?_ ?_ (g1.trans g2)
  ·simp only [aD]
   refine ⟨v,vs,f1,fp,rfl,bq.mv g2.f s (fun a _ e1 e2=>⟨g2.s _ _ e1,g2.n a.1 e2 (by rw [e1]; simp) (by intro ys z; rw [e1] at z; cases z)⟩) r1,r2,rfl⟩
  ·rw [Ra,VF]
   refine ⟨n1,n2,fun a ha b hb e=>?_⟩
   subst e
   obtain ⟨p,hp,rfl⟩:=cD ha
   obtain ⟨p',hp',e'⟩:=cD hb
   have:=(z1 p hp).1
   rw [← e',fr2 p' hp'] at this; cases this
  ·intro a ha
   rcases Rg.mp ha with ha | ha
   ·exact fr1 a ha
   ·exact g1.s.free (fr2 a ha))
theorem aD.len:∀ {ss:List Sh} {xs:List V} {fp:Fp},aD K H Hf ss xs fp→ss.length=xs.length
 | [],_,_,h=>by simp only [aD] at h; rw [h.1]; rfl
 | s::ss,_,_,h=>by
  simp only [aD] at h
  obtain ⟨x,r,f1,f2,rfl,_,h2,_⟩:=h
  rw [RH,RH,aD.len h2]
theorem mX {R:Sl→Prop} (h:GB c es ρ fun ss=>Sd (ss.length≤sizeLine) (R (.fo (.t ss)))):dz c (.Tuple es j pos) ρ R:=fun σ H Hf Q S q =>
 bM (AM Fe) (h σ H Hf _ S fun ss vs fp H' ai ⟨hl,hR⟩ r nd fr g=>⟨by rw [← aD.len r]; exact hl,fun p hp=>by
  have g2:=bu.new g.b hp (o:=.tup vs)
  have hz:=aD.fz ss r
  refine q _ _ _ _ hR ⟨fp,?_,nd,fr⟩ (g.trans g2)
  simp only [bq]
  exact ⟨p,vs,rfl,.inl (.inl ah),aD.mv g2.f ss (fun a _ e1 e2=>⟨g2.s _ _ e1,g2.n a.1 e2 (by rw [e1]; simp) (by intro ys z; rw [e1] at z; cases z)⟩) r⟩⟩)
end
noncomputable def LQ (K:QM) (ok:Sh→Prop):Sp:=fun vs H Q _=>∃ Hf s v fp,vs=[v]∧aM Hf H∧bq K H Hf s v fp∧(fp.map (·.1)).Nodup∧ok s∧∀ H' ai,bu (kM H fp) Hf H' ai→Q .non H'
structure CT (P:Program) (w:World) (K:QM) (mg:Str→Option Value) (base:Heap) (k:Nat) (x:Str) (ok:Sh→Prop):Prop where
 ex:∃ f fd ps,mg x=some (.ref f)∧SK K (.ref f)=true∧Binds K fd ps []∧bf P w K mg base (cO P w) k f fd ps (LQ K ok)
theorem qR:aM (kM H fp) H:=fun b o e=>by
 by_cases m:b∈fp.map (·.1)
 ·rw [lD m] at e; cases e
 ·rw [fP m] at e; exact e
theorem CU (sb:aM Hf H):bu (kM H fp) Hf H Hf:=⟨qR,.refl _,sb,fun _ h _ _=>h⟩
theorem zH {K:QM} (r:bq K H Hf s v fp) (nd:(fp.map (·.1)).Nodup) (sb:aM Hf H) (hN:1≤N.length) :
 c6 K (kM H fp) Hf (L2.start N [v]) H Hf (.fo s::QY (N.length - 1) .un):=by
 have rest:∀ (i:Nat) (r':Sl),(Sl.fo s::QY (N.length - 1) Sl.un)[i]?=some r'→r'≠.un→i=0∧r'=.fo s:=fun i r' h hu=>by
  cases i with
  | zero=>exact ⟨rfl,by simpa using h.symm⟩
  | succ i=>exact absurd (UM (Si (by simpa using h))) hu
 refine ⟨CU sb,by simp [L2.start],fun i r' h hu=>?_,fun i j r1 r2 p hne e1 e2 o1 o2=>?_⟩
 ·obtain ⟨rfl,rfl⟩:=rest i r' h hu
  exact ⟨v,by simp [L2.start],fp,r,nd,fun a ha=>lD (Rj.mpr ⟨a,ha,rfl⟩)⟩
 ·obtain ⟨_,rfl⟩:=rest i r1 e1 (by rintro rfl; cases o1)
  cases o1
section
variable {K:QM} {c:Ctx P w K mg base k N sc bk}
theorem P0 {st:Stmt} (Fu:dR K x qual st f fd) (Sc:aB N ps (af st)) (Vi:∀ x∈N,Loc (af st) x) (h1:ps.length=1) (hN:1≤N.length)
 (body:∀ (c:Ctx P w K mg base k N (af st) false),c.X.xe=(fun _ _=>False)→∀ s,ok s→aN c (aq st) (.fo s::QY (N.length - 1) .un) (fun _=>True) { rt:=fun _=>False }) :
 bf P w K mg base (cO P w) (k+1) f fd ps (LQ K ok):=by
 obtain ⟨oc,od,kV,doc,pm,an,cdv,ct,osl,rfl,lk,hcd⟩:=Fu.ex
 refine AN lk hcd Sc (fun vs H Q E ⟨Hf,s,v,fp,e,_⟩=>by rw [e,h1]; rfl) fun A outer st' H vs Q E hr hh=>z4 hh fun Hf s v fp hh=>w6 hh fun e sb rf nd hok hq=>?_
 subst e
 let X:Cx:=(rL (cO P w) P w K mg base N qual (af st) f cdv A outer st' H E).Hw
 let c:Ctx P w K mg base k N (af st) false :=
  { X:=X,eP:=rfl,ew:=rfl,eK:=rfl,emg:=rfl,eb:=rfl,eN:=rfl,esc:=rfl,calm:=rfl,top:=fun _=>⟨rfl,rfl,rfl⟩,cb:=fun _ _ _ _ _ I x c h=>I.ok.cab x c rfl h,fn:=fun _ _=>.inl rfl,B:=kM H fp,room:=hr,nd:=Sc.nd,vis:=Vi,Hf:=Hf,RX:=fun _ _=>False,
    exc:=fun _ _ _ _ _ _ _ _ _ _ _ _ h _ _=>h.elim,RM:=fun _ _=>False,mde:=fun _ _ _ _ _ _ _ _ _ _ _ _ h _=>h.elim }
 refine ⟨_,uI.Hw (t:=JH X (aq st)) (rZ (X:=X)),?_⟩
 exact body c rfl s hok (L2.start N [v]) H Hf _ (zH rf nd sb hN) ⟨fun σ H' ai ρ S _=>hq H' ai S.bas,fun r v H' ai g rv e=>e.elim,fun _ _ _ _ _ h=>h.elim,fun _ _ _ _ _ h=>h.elim⟩
theorem bU {α:Type} {l:List α} {a b:α} (h:(l.set i a)[j]?=some b):(j=i∧b=a)∨(j≠i∧l[j]?=some b):=by
 by_cases e:j=i
 ·subst e
  have hl:j<l.length:=by have:=(Q2.mp h).1; simpa using this
  rw [R4 hl] at h
  exact .inl ⟨rfl,(Sz h).symm⟩
 ·rw [R5 (Rf e)] at h
  exact .inr ⟨e,h⟩
theorem c6.gone (S:c6 K H₀ dS σ H Hf ρ) (h:kN ρ i s) (ev:σ[i]?=some (some v)) (rf:bq K H Hf s v fp) (fr:∀ a∈fp,H₀ a.1=none) (g:bu (kM H fp) Hf H1 aP):c6 K H₀ dS σ H1 aP (ρ.set i .un):=by
 obtain ⟨hi,ho⟩:=h.at_
 have hz:=bq.fz s rf
 have fr_in:∀ {b:Addr},b∈fp.map (·.1)→H₀ b=none:=fun m=>by obtain ⟨p,hp,rfl⟩:=cD m; exact fr p hp
 have s0:aM H₀ (kM H fp):=fun b o e=>by rw [fP fun m=>by rw [fr_in m] at e; cases e]; exact S.bas.s b o e
 refine ⟨⟨s0.trans g.s,S.bas.f.trans g.f,g.b,fun b h1 h2 h3=>?_⟩,by simp [S.len],fun j r hj hu=>?_,fun j j' r r' q hne h1 h2 o1 o2=>?_⟩
 ·cases z:H₀ b with
  | none=>exact absurd z h2
  | some o1 =>
   have e1:=s0 b o1 z
   exact g.n b (S.bas.n b h1 h2 h3) (by rw [e1]; simp) fun xs=>by rw [e1,← z]; exact h3 xs
 ·rcases bU hj with ⟨_,rfl⟩ | ⟨q,hj⟩
  ·exact absurd rfl hu
  ·obtain ⟨v,e1,e2⟩:=S.at_ j r hj hu
   have e3:aZ K (fun p=>H₀ p=none) (kM H fp) Hf r v:=aZ.mv (B:=fun a=>a∈fp.map (·.1)) (.refl _) (fun a o hm e1 _ e3=>⟨by rw [fP hm]; exact e1,e3⟩) (fun hf=>by rw [ho q hj] at hf; cases hf) (fun ow a e m=>by
    subst e
    obtain ⟨_,_,e,_,_,_,nf⟩:=e2.se ow
    cases e
    obtain ⟨p,hp,rfl⟩:=cD m
    exact nf ⟨p.2,(hz p hp).1⟩) e2
   exact ⟨v,e1,e3.cE g⟩
 ·have out:∀ {j:Nat} {r:Sl},(ρ.set i .un)[j]?=some r→r.owned=true→ρ[j]?=some r:=fun {j r} hj ho=>by
   rcases bU hj with ⟨_,rfl⟩ | ⟨_,hj⟩
   ·cases ho
   ·exact hj
  exact S.sep j j' r r' q hne (out h1 o1) (out h2 o2) o1 o2
theorem lE (h:CT P w K mg base j x ok) (hj:j≤k) (hN:At N i y) (h1:kN ρ i s) (hok:ok s) (hn:Nx ρ i nx .un)
 (hg:sc.names.lookup x=some .globalImplicit:=by walk_at "u") (hdb:(x == ("__debug__":Str))=false:=by decide) (hd:(y == ("__debug__":Str))=false:=by decide) (hcd:(y == ("__classdict__":Str))=false:=by decide)
 (he:∀ env,starEach [.Name y py] env=(false,eval (.Name y py) env)::starEach [] env:=by intro _; walk_at "u")
 (hpl:∀ env,(backTo cp (starEach [] env)).any (·.1)=false:=by intro _; walk_at "u")
 (hs:∀ env,swapsWith (.Call (.Name x px) [.Name y py] [] cp) none pos.line env=pure false:=by intro _; walk_at "u"):fH c (.Expr (.Call (.Name x px) [.Name y py] [] cp) pos) ρ nx p:=fun σ H Hf D S o=>by
 obtain ⟨v,ev,fp,rf,nd,hfr⟩:=S.at_ i _ h1.at_.1 (by intro z; cases z)
 obtain ⟨ρ',hs',hn⟩:=hn
 refine d7 (kY cW (hs _)) (show bE c.X _ σ H (fun _ H'=>D.nx σ H') from fun aa s' I=>?_)
 obtain ⟨f,fd,ps,hm,hk,hb,hF⟩:=h.ex
 refine SG (i6 I (by unfold Gl Rz; rw [c.esc]; exact hg) (by rw [c.emg]; exact hm) ?_ hdb)
 have hA:bA c.X [.Name y py] σ H (fun vs H1=>vs=[v]∧H1=H):=o6 (bL (c.lY hN hd hcd) cY (he _)) ⟨_,ev,rfl,rfl⟩
 refine VA (h₀:=c.X.base) I.ok.mod.kin (by rw [c.eK]; exact hk) (bD (hA cp aa s' I) fun us s1 ⟨vs,H1,I1,rv,e1,e2⟩=>⟨I1.qb,?_⟩) (he _) (hpl _)
 subst e1 e2
 have hF2:bf c.X.prog c.X.w c.X.K c.X.mg c.X.base (cO c.X.prog c.X.w) k f fd ps (LQ c.X.K ok):=by rw [c.eP,c.ew,c.eK,c.emg,c.eb]; exact hF.mono hj
 have rF:LQ c.X.K ok [v] H1 (fun _ H'=>D.nx σ H') (fun _ _ _=>False):=by
  refine ⟨Hf,s,v,fp,rfl,S.sb,rf,nd,hok,fun H' ai g=>?_⟩
  refine o.nx σ H' ai ρ' ?_ hn
  rw [hs'.eq]
  exact S.gone h1 ev rf hfr g
 have hl:us.length=ps.length:=by rw [← rv.length]; exact hF2.len _ _ _ _ rF
 have hb':Binds c.X.K fd ps []:=by rw [c.eK]; exact hb
 have hb2:=hb' s1 us I1.qb (by simpa using hl)
 rw [Ru] at hb2
 refine UJ (UE (hF2.run c.X.A c.X.stack s1 H1 ⟨us,[]⟩ us _ _ _ c.room I1.EX hb2 rv rF) fun r' s' hq=>?_)
 cases r' with
 | error e =>
  obtain ⟨a,C,H',rfl,hE,h⟩:=hq
  exact h.elim
 | ok fl =>
  cases fl with
  | ret u=>exact I1.after hq
  | next=>exact RU hq
  | brk=>exact RU hq
  | cont=>exact RU hq
noncomputable def Sh.raw:Sh→Option D | .v d=>some d | .la a _=>some (.adr a) | _=>none
noncomputable def zI:List Sh→Option (List D)
 | []=>some []
 | s::ss=>match s.raw,zI ss with | some d,some ds=>some (d::ds) | _,_=>none
theorem bq.raw (e:s.raw=some d) (h:bq K H Hf s v fp):Rep K Hf d v:=by
 cases s with
 | v d'=>cases e; simp only [bq] at h; exact h.1
 | la a ds=>cases e; simp only [bq] at h; obtain ⟨xs,e,_⟩:=h; exact fG.mpr e
 | _=>cases e
theorem aD.raw:∀ {ss:List Sh} {vs:List V} {fp:Fp} {ds:List D},zI ss=some ds→aD K H Hf ss vs fp→ak K Hf ds vs
 | [],_,_,_,e,h=>by cases e; simp only [aD] at h; exact aA.mpr h.1
 | s::ss,_,_,_,e,h=>by
  simp only [aD] at h
  obtain ⟨x,r,f1,f2,rfl,h1,h2,_⟩:=h
  unfold zI at e
  split at e
  ·rename_i d ds q1 q2
   cases e
   exact .cons (h1.raw q1) (aD.raw q2 h2)
  ·cases e
theorem KY (hN:At N i y) (hi:At ρ i (.fo (.t ss))) (hr:zI ss=some ds) (hR:R (.tup ds)) (hd:(y == ("__debug__":Str))=false:=by decide) (hcd:(y == ("__classdict__":Str))=false:=by decide):aH c (.Name y py) ρ R:=fun σ H Hf Q S q=>by
 obtain ⟨v,ev,fp,rf,nd,hfr⟩:=S.at_ i _ hi.get (by intro z; cases z)
 refine bM (c.lY hN hd hcd) ⟨v,ev,q (.tup ds) v H Hf hR ?_ (.refl S.sb)⟩
 simp only [bq] at rf
 obtain ⟨a,xs,e,h1,h2⟩:=rf
 exact aJ.mpr ⟨a,xs,e,h1,aD.raw hr h2⟩
end
section
variable {K:QM}
noncomputable def mY (L:List (Addr×List D)):List Sh:=L.map fun x=>.la x.1 x.2
theorem ya (q1:H q=some (pl q xs)) (q2:Hf q=none) (q3:ak K Hf ds xs):bq K H Hf (.la q ds) (.ref q) [(q,xs)]:=by
 simp only [bq]
 exact ⟨xs,trivial,q1,q2,q3,rfl⟩
theorem aD.tag:∀ {dss:List (List D)} {vs:List V} {fp:Fp},aD K H Hf (dss.map .l) vs fp→∃ L:List (Addr×List D),L.map (·.2)=dss∧aD K H Hf (mY L) vs fp
 | [],_,_,h=>⟨[],rfl,h⟩
 | ds::dss,_,_,h=>by
  simp only [QW,aD] at h
  obtain ⟨x,r,f1,f2,rfl,h1,h2,rfl⟩:=h
  obtain ⟨L,e,h3⟩:=aD.tag h2
  simp only [bq] at h1
  obtain ⟨p,xs,rfl,q1,q2,q3,rfl⟩:=h1
  refine ⟨(p,ds)::L,by rw [QW,e],?_⟩
  show aD K H Hf (.la p ds::mY L) _ _
  simp only [aD]
  exact ⟨_,r,_,f2,rfl,ya q1 q2 q3,h3,rfl⟩
theorem c6.P1 (S:c6 K H₀ dS σ H Hf ρ) (h:ρ[i]?=some (.fo (.t (dss.map .l)))):∃ L:List (Addr×List D),L.map (·.2)=dss∧c6 K H₀ dS σ H Hf (ρ.set i (.fo (.t (mY L)))):=by
 obtain ⟨v,ev,fp,rf,nd,hfr⟩:=S.at_ i _ h (by intro z; cases z)
 simp only [bq] at rf
 obtain ⟨a,xs,e,h1,h2⟩:=rf
 obtain ⟨L,eL,h3⟩:=aD.tag h2
 refine ⟨L,eL,S.bas,by simp [S.len],fun j r hj hu=>?_,fun j j' r r' q hne h1 h2 o1 o2=>?_⟩
 ·rcases bU hj with ⟨rfl,rfl⟩ | ⟨_,hj⟩
  ·exact ⟨v,ev,fp,by simp only [bq]; exact ⟨a,xs,e,h1,h3⟩,nd,hfr⟩
  ·exact S.at_ j r hj hu
 ·have out:∀ {j:Nat} {r:Sl},(ρ.set i (.fo (.t (mY L))))[j]?=some r→r.owned=true→ρ[j]?=some r:=fun {j r} hj ho=>by
   rcases bU hj with ⟨_,rfl⟩ | ⟨_,hj⟩
   ·cases ho
   ·exact hj
  exact S.sep j j' r r' q hne (out h1 o1) (out h2 o2) o1 o2
theorem aD.Ic:∀ {pre post:List Sh} {vs:List V} {fp:Fp},aD K H Hf (pre++.la q ds::post) vs fp →
 ∃ (xs:List V) (f1 f2:Fp),fp=f1++(q,xs)::f2∧H q=some (pl q xs)∧Hf q=none∧ak K Hf ds xs∧aD K H Hf (pre++.v (.adr q)::post) vs (f1++f2)
 | [],post,_,_,h=>by
  simp only [Tq,aD] at h
  obtain ⟨x,r,f1,f2,rfl,h1,h2,rfl⟩:=h
  simp only [bq] at h1
  obtain ⟨xs,rfl,q1,q2,q3,rfl⟩:=h1
  refine ⟨xs,[],f2,rfl,q1,q2,q3,?_⟩
  simp only [Tq,aD]
  exact ⟨_,r,[],f2,rfl,by simp only [bq]; exact ⟨fG.mpr rfl,trivial⟩,h2,rfl⟩
 | s::pre,post,_,_,h=>by
  simp only [SJ,aD] at h
  obtain ⟨x,r,f1,f2,rfl,h1,h2,rfl⟩:=h
  obtain ⟨xs,g1,g2,rfl,q1,q2,q3,q4⟩:=aD.Ic h2
  refine ⟨xs,f1++g1,g2,by rw [Rk],q1,q2,q3,?_⟩
  simp only [SJ,aD]
  exact ⟨x,r,f1,g1++g2,rfl,h1,q4,by rw [Rk]⟩
theorem aD.Ie (q1:H q=some (pl q xs)) (q2:Hf q=none) (q3:ak K Hf ds xs):∀ {pre post:List Sh} {vs:List V} {fp:Fp},aD K H Hf (pre++.v (.adr q)::post) vs fp →
 ∃ (f1 f2:Fp),fp=f1++f2∧aD K H Hf (pre++.la q ds::post) vs (f1++(q,xs)::f2)
 | [],post,_,_,h=>by
  simp only [Tq,aD] at h
  obtain ⟨x,r,f1,f2,rfl,h1,h2,rfl⟩:=h
  simp only [bq] at h1
  obtain ⟨h1,rfl⟩:=h1
  rw [fG] at h1
  subst h1
  refine ⟨[],f2,rfl,?_⟩
  simp only [Tq,aD]
  exact ⟨_,r,[(q,xs)],f2,rfl,ya q1 q2 q3,h2,rfl⟩
 | s::pre,post,_,_,h=>by
  simp only [SJ,aD] at h
  obtain ⟨x,r,f1,f2,rfl,h1,h2,rfl⟩:=h
  obtain ⟨g1,g2,rfl,q4⟩:=aD.Ie q1 q2 q3 h2
  refine ⟨f1++g1,g2,by rw [Rk],?_⟩
  simp only [SJ,aD]
  exact ⟨x,r,f1,g1++(q,xs)::g2,rfl,h1,q4,by rw [Rk]⟩
theorem c6.Ig (S:c6 K H₀ dS σ H Hf ρ) (h1:kN ρ i s) (hk:k<ρ.length) (hik:k≠i) (fq:H₀ q=none) (uL:Hf q=none) (hq:∀ (j:Nat) (r:Sl),j≠i→j≠k→ρ[j]?=some r→r.owned=true→σ[j]?≠some (some (.ref q)))
 (v1:r1≠.un→∃ v,σ[i]?=some (some v)∧aZ K (fun p=>H₀ p=none) (L2.upd H q o) Hf r1 v) (v2:r2≠.un→∃ v,σ[k]?=some (some v)∧aZ K (fun p=>H₀ p=none) (L2.upd H q o) Hf r2 v) (n1:r1.owned=false) (n2:r2.owned=true→σ[k]?=some (some (.ref q))) :
 c6 K H₀ dS σ (L2.upd H q o) Hf ((ρ.set i r1).set k r2):=by
 obtain ⟨hi,ho⟩:=h1.at_
 have get:∀ {j:Nat} {r:Sl},((ρ.set i r1).set k r2)[j]?=some r→(j=k∧r=r2)∨(j≠k∧j=i∧r=r1)∨(j≠k∧j≠i∧ρ[j]?=some r):=fun {j r} h=>by
  rcases bU h with ⟨a,b⟩ | ⟨a,h⟩
  ·exact .inl ⟨a,b⟩
  ·rcases bU h with ⟨b,c⟩ | ⟨b,h⟩
   ·exact .inr (.inl ⟨a,b,c⟩)
   ·exact .inr (.inr ⟨a,b,h⟩)
 refine ⟨⟨fun b u e=>by rw [L2.aj (aC e fq)]; exact S.bas.s b u e,S.bas.f,fun b u e=>by rw [L2.aj (aC e uL)]; exact S.bas.b b u e,S.bas.n⟩,by simp [S.len],fun j r hj hu=>?_,fun j j' r r' p hne e1 e2 o1 o2=>?_⟩
 ·rcases get hj with ⟨rfl,rfl⟩ | ⟨_,rfl,rfl⟩ | ⟨a,b,hj⟩
  ·exact v2 hu
  ·exact v1 hu
  ·obtain ⟨v,e1,e2⟩:=S.at_ j r hj hu
   exact ⟨v,e1,aZ.mv (B:=fun z=>z=q) (.refl _) (fun z u hz e1 _ e3=>⟨by rw [L2.aj hz]; exact e1,e3⟩) (fun hf=>by rw [ho b hj] at hf; cases hf) (fun ow z ez e=>by subst e; subst ez; exact hq j r b a hj ow e1) e2⟩
 ·rcases get e1 with ⟨rfl,rfl⟩ | ⟨_,rfl,rfl⟩ | ⟨a,b,f1⟩
  ·intro s1 s2
   rw [n2 o1] at s1; cases s1
   rcases get e2 with ⟨rfl,rfl⟩ | ⟨_,rfl,rfl⟩ | ⟨a2,b2,f2⟩
   ·exact hne rfl
   ·rw [n1] at o2; cases o2
   ·exact hq j' r' b2 a2 f2 o2 s2
  ·rw [n1] at o1; cases o1
  ·rcases get e2 with ⟨rfl,rfl⟩ | ⟨_,rfl,rfl⟩ | ⟨a2,b2,f2⟩
   ·intro s1 s2
    rw [n2 o2] at s2; cases s2
    exact hq j r b a f1 o1 s1
   ·rw [n1] at o2; cases o2
   ·exact S.sep j j' r r' p hne f1 f2 o1 o2
end
section
variable {K:QM} {st:Stmt}
theorem KZ (i) (hi:At ρ i (.fo (.t (dss.map .l)))) (h:∀ L:List (Addr×List D),L.map (·.2)=dss→fH c st (ρ.set i (.fo (.t (mY L)))) nx p):fH c st ρ nx p:=fun σ H Hf D S o=>by
 obtain ⟨L,e,S1⟩:=S.P1 hi.get
 exact h L e σ H Hf D S1 o
theorem CV (i j) (h1:kN ρ i (.t (pre++.la q ds::post))) (hj:At ρ j (.va (.adr q))) (h:aN c sts ((ρ.set i (.fo (.t (pre++.v (.adr q)::post)))).set j (.aw q ds)) nx p) (hij:j≠i):aN c sts ρ nx p:=fun σ H Hf D S o aa s I=>by
 obtain ⟨v,ev,fp,rf,nd,hfr⟩:=S.at_ i _ h1.at_.1 (by intro z; cases z)
 obtain ⟨vj,evj,rj⟩:=S.va hj.get
 rw [fG] at rj
 subst rj
 simp only [bq] at rf
 obtain ⟨a,vs,e,t1,t2⟩:=rf
 obtain ⟨xs,f1,f2,rfl,q1,q2,q3,q4⟩:=aD.Ic t2
 have fq:c.B q=none:=hfr (q,xs) (by simp)
 have nq:q∉(f1++f2).map (·.1):=fun m=>by
  rw [Ra,QW,VF,Sm] at nd
  rw [Ra,Rg] at m
  rcases m with m | m
  ·exact nd.2.2 q m q Q6 rfl
  ·exact nd.2.1.1 m
 have I1:=CQ I q1
 refine h σ _ Hf D (S.Ig h1 (Q2.mp hj.get).1 hij fq q2 (fun j' r a b hj' ow e=>?_) (fun _=>⟨v,ev,f1++f2,?_,?_,?_⟩) (fun _=>⟨_,evj,q,xs,rfl,⟨fq,rfl⟩,ah,q2,q3⟩) rfl fun _=>evj) o aa s I1
 ·obtain ⟨v',e',r'⟩:=S.at_ j' r hj' (by rintro rfl; cases ow)
  rw [e] at e'; cases e'
  obtain ⟨_,_,e2,_,_,_,nf⟩:=r'.se ow
  cases e2
  exact nf ⟨xs,q1⟩
 ·simp only [bq]
  exact ⟨a,vs,e,t1,aD.mv (.refl _) _ (fun z hz e1 e2=>⟨by rw [aj fun e=>nq (by rw [← e]; exact Rj.mpr ⟨z,hz,rfl⟩)]; exact e1,e2⟩) q4⟩
 ·rw [Ra] at nd ⊢
  exact nd.sublist (List.Sublist.append (List.Sublist.refl _) (by rw [QW]; exact List.sublist_cons_self _ _))
 ·intro z hz
  exact hfr z (by rcases Rg.mp hz with h | h; exact Tj _ h; exact RY _ (Q9 _ h))
theorem CW (i j) (h1:kN ρ i (.t (pre++.v (.adr q)::post))) (hj:At ρ j (.aw q ds)) (h:aN c sts ((ρ.set i (.fo (.t (pre++.la q ds::post)))).set j .un) nx p) (hij:j≠i):aN c sts ρ nx p:=fun σ H Hf D S o aa s I=>by
 obtain ⟨v,ev,fp,rf,nd,hfr⟩:=S.at_ i _ h1.at_.1 (by intro z; cases z)
 obtain ⟨vj,evj,rj⟩:=S.at_ j _ hj.get (by intro z; cases z)
 obtain ⟨q',xs,rfl,⟨fq,rfl⟩,q1,q2,q3⟩:=rj
 have hz:=bq.fz _ rf
 simp only [bq] at rf
 obtain ⟨a,vs,e,t1,t2⟩:=rf
 have nq:q'∉fp.map (·.1):=fun m=>by
  obtain ⟨z,hm,rfl⟩:=cD m
  have:=(hz z hm).1
  rw [q1] at this; cases this
 have t3:=aD.mv (H':=upd H q' (pl q' xs)) (.refl _) _ (fun z hz e1 e2=>⟨by rw [aj fun e=>nq (by rw [← e]; exact Rj.mpr ⟨z,hz,rfl⟩)]; exact e1,e2⟩) t2
 obtain ⟨f1,f2,rfl,t4⟩:=aD.Ie ah q2 q3 t3
 have I1:=vE I q1
 refine h σ _ Hf D (S.Ig h1 (Q2.mp hj.get).1 hij fq q2 (fun j' r a b hj' ow e=>?_) (fun _=>⟨v,ev,f1++(q',xs)::f2,?_,?_,?_⟩) (fun z=>absurd rfl z) rfl fun z=>by cases z) o aa s I1
 ·exact S.sep j' j r _ q' b hj' hj.get ow rfl e evj
 ·simp only [bq]
  exact ⟨a,vs,e,t1,t4⟩
 ·rw [Ra,QW]
  rw [Ra] at nd nq
  rw [VF] at nd ⊢
  rw [Rg,not_or] at nq
  refine ⟨nd.1,Sm.mpr ⟨nq.2,nd.2.1⟩,fun a ha b hb e=>?_⟩
  rcases Q0.mp hb with rfl | hb
  ·subst e; exact nq.1 ha
  ·exact nd.2.2 a ha b hb e
 ·intro z hz
  rcases Rg.mp hz with h | h
  ·exact hfr z (Tj _ h)
  ·rcases Q0.mp h with rfl | h
   ·exact fq
   ·exact hfr z (RY _ h)
end
end EV
namespace EV
open PySem PySem.Spec PyProof.Rows L2
noncomputable def jB (t:aL):aL:=(t.1,-t.2)
theorem GC (h:trim m=m) (hn:m≠[]):bR m (m.length - 1)≠0:=by
 rcases List.eq_nil_or_concat m with rfl | ⟨l,x,rfl⟩
 ·exact absurd rfl hn
 ·rw [List.concat_eq_append] at h ⊢
  intro z
  have e:bR (l++[x]) ((l++[x]).length - 1)=x:=by
   rw [dM (by simp)]; simp
  rw [e] at z; subst z
  rw [gZ] at h
  have:=gC l
  rw [h,Rr,Sb] at this
  lia
theorem zJ (hl:trim l=l) (hm:trim m=m) (h:∀ i,bR l i=bR m i):l=m:=by
 have key:∀ {l m:List Int},trim m=m→(∀ i,bR l i=bR m i)→m.length≤l.length:=fun {l m} hm h=>by
  rcases Nat.lt_or_ge l.length m.length with z | z
  ·have hn:m≠[]:=by rintro rfl; simp at z
   have:=GC hm hn
   rw [← h,cV (by lia)] at this
   exact absurd rfl this
  ·exact z
 have e:l.length=m.length:=Nat.le_antisymm (key hl fun i=>(h i).symm) (key hm h)
 refine VO e fun i h1 h2=>?_
 have:=h i
 rwa [dM h1,dM h2] at this
theorem gG (h:∀ i,bR p i=bR q i):trim p=trim q:=zJ (cB p) (cB q) fun i=>by rw [eE,eE,h]
theorem zK (a b):trim (cC (trim a) (trim b))=trim (cC a b):=gG fun i=>by rw [cg,cg,eE,eE]
theorem vG (a b):trim (cC (trim a) b)=trim (cC a b):=gG fun i=>by rw [cg,cg,eE]
theorem vH (a b):trim (cC a (trim b))=trim (cC a b):=gG fun i=>by rw [cg,cg,eE]
theorem zL (a b):cC a b=cC b a:=by
 unfold cC; rw [Nat.max_comm]; exact S6 fun k _=>Wa _ _
theorem mZ (a):trim (cC [] a)=trim a:=gG fun i=>by rw [cg,cV (Rq _),UG]
theorem vI (a b c):trim (cC (cC a b) c)=trim (cC a (cC b c)):=gG fun i=>by
 rw [cg,cg,cg,cg,Int.add_assoc]
noncomputable def ev (g:List Int→Int):List aL→Int
 | []=>0
 | t::A=>t.2 * g (trim t.1)+ev g A
theorem bg (g) (t) (A):ev g (t::A)=t.2 * g (trim t.1)+ev g A:=rfl
theorem cu (g) (B):∀ A,ev g (A++B)=ev g A+ev g B
 | []=>by simp [ev]
 | t::A=>by rw [SJ,bg,bg,cu g B A]; lia
theorem jZ (g):∀ A:List aL,ev g (A.map jB)= - ev g A
 | []=>rfl
 | t::A=>by
  rw [QW,bg,bg,jZ g A]
  show -t.2 * g (trim t.1)+_=_
  rw [Int.neg_mul]; lia
theorem CY (g) (l):∀ B:List aL,ev g (B.map (dY l))=l.2 * ev (fun q=>g (trim (cC (trim l.1) q))) B
 | []=>by simp [ev]
 | r::B=>by
  rw [QW,bg,bg,CY g l B]
  show l.2 * r.2 * g (trim (cC l.1 r.1))+_=_
  rw [Int.mul_add,zK,U7]
theorem bQ (g) (B):∀ A:List aL,ev g (aI A B)=ev (fun p=>ev (fun q=>g (trim (cC p q))) B) A
 | []=>rfl
 | l::A=>by
  show ev g (B.map (dY l)++aI A B)=_
  rw [cu,CY,bQ g B A]; rfl
theorem gH (e:∀ p,trim p=p→g p=h p):∀ A,ev g A=ev h A
 | []=>rfl
 | t::A=>by rw [bg,bg,e _ (cB _),gH e A]
theorem CZ (g h):∀ A,ev (fun p=>g p+h p) A=ev g A+ev h A
 | []=>rfl
 | t::A=>by rw [bg,bg,bg,CZ g h A,Int.mul_add]; lia
theorem Ih (c) (g):∀ A,ev (fun p=>c * g p) A=c * ev g A
 | []=>by simp [ev]
 | t::A=>by rw [bg,bg,Ih c g A,Int.mul_add,Int.mul_left_comm]
theorem yb:∀ A,ev (fun _=>0) A=0
 | []=>rfl
 | t::A=>by rw [bg,yb A]; simp
theorem yc (f:List Int→List Int→Int) (B):∀ A,ev (fun p=>ev (fun q=>f p q) B) A=ev (fun q=>ev (fun p=>f p q) A) B
 | []=>by show 0=ev (fun _=>0) B; rw [yb]
 | t::A=>by
  show t.2 * ev (fun q=>f (trim t.1) q) B+ev _ A=ev (fun q=>t.2 * f (trim t.1) q+ev (fun p=>f p q) A) B
  rw [CZ,Ih,yc f B A]
noncomputable def eqv (A B:List aL):Prop:=∀ g,ev g A=ev g B
theorem eqv.rf (A):eqv A A:=fun _=>rfl
theorem eqv.app (h:eqv A A') (k:eqv B B'):eqv (A++B) (A'++B'):=fun g=>by rw [cu,cu,h g,k g]
theorem eqv.neg (h:eqv A B):eqv (A.map jB) (B.map jB):=fun g=>by rw [jZ,jZ,h g]
theorem eqv.prod (h:eqv A A') (k:eqv B B'):eqv (aI A B) (aI A' B'):=fun g=>by
 rw [bQ,bQ,h]; exact gH (fun p _=>k _) _
instance trmSetoid:Setoid (List aL):=⟨eqv,⟨eqv.rf,fun h g=>(h g).symm,fun h k g=>(h g).trans (k g)⟩⟩
noncomputable def MP:Type:=Quotient trmSetoid
noncomputable def mp (A:List aL):MP:=Quotient.mk trmSetoid A
theorem eF:mp A=mp B↔eqv A B:=⟨fun h=>Quotient.exact h,fun h=>VW h⟩
noncomputable def cT (n:Int):List aL:=[([],n)]
theorem kO (g) (n):ev g (cT n)=n * g []:=by show n * g (trim [])+0=_; rw [V9]; rfl
noncomputable instance:Add MP:=⟨Quotient.lift₂ (fun A B=>mp (A++B)) fun _ _ _ _ h k=>VW (eqv.app h k)⟩
noncomputable instance:Mul MP:=⟨Quotient.lift₂ (fun A B=>mp (aI A B)) fun _ _ _ _ h k=>VW (eqv.prod h k)⟩
noncomputable instance:Neg MP:=⟨Quotient.lift (fun A=>mp (A.map jB)) fun _ _ h=>VW (eqv.neg h)⟩
noncomputable instance:Sub MP:=⟨fun a b=>a+ -b⟩
noncomputable instance:NatCast MP:=⟨fun n=>mp (cT n)⟩
noncomputable instance:IntCast MP:=⟨fun n=>mp (cT n)⟩
noncomputable instance (n:Nat):OfNat MP n:=⟨mp (cT n)⟩
noncomputable instance:SMul Nat MP:=⟨fun n a=>(n:MP) * a⟩
noncomputable instance:SMul Int MP:=⟨fun n a=>(n:MP) * a⟩
noncomputable def MP.pow (a:MP):Nat→MP
 | 0=>1
 | n+1=>MP.pow a n * a
noncomputable instance:HPow MP Nat MP:=⟨MP.pow⟩
theorem iN (A B):mp (A++B)=mp A+mp B:=rfl
theorem fh (A B):mp (aI A B)=mp A * mp B:=rfl
theorem K0 (A B):mp (A++B.map jB)=mp A - mp B:=rfl
theorem j0 (n):mp (cT n)=(n:MP):=rfl
theorem rD {P:MP→Prop} (h:∀ A,P (mp A)) (a:MP):P a:=Quotient.inductionOn a h
theorem K1 (g) (A):ev g (aI (cT 1) A)=ev g A:=by
 rw [bQ,kO,Vc]
 exact gH (fun p hp=>by rw [mZ,hp]) _
theorem mulC:∀ a b:MP,a * b=b * a:=rD fun A=>rD fun B=>eF.mpr fun g=>by
 rw [bQ,bQ,yc]
 exact gH (fun q _=>gH (fun p _=>by rw [zL]) _) _
theorem Nn:∀ a:MP,1 * a=a:=rD fun A=>eF.mpr fun g=>K1 g A
theorem P4:∀ a b:MP,a+b=b+a:=rD fun A=>rD fun B=>eF.mpr fun g=>by rw [cu,cu,Wa]
theorem Ii:∀ a b c:MP,(a+b) * c=a * c+b * c:=rD fun A=>rD fun B=>rD fun C=>eF.mpr fun g=>by rw [bQ,cu,cu,bQ,bQ]
theorem Ij:∀ a:MP,0 * a=0:=rD fun A=>eF.mpr fun g=>by
 rw [bQ,kO,kO]; show 0 * _=0 * _; rw [Ud,Ud]
noncomputable instance:Lean.Grind.CommRing MP where
 add_zero:=rD fun A=>eF.mpr fun g=>by rw [cu,kO]; show _+0 * _=_; rw [Ud,V9]
 add_comm:=P4
 add_assoc:=rD fun A=>rD fun B=>rD fun C=>eF.mpr fun g=>by rw [cu,cu,cu,cu,Int.add_assoc]
 mul_assoc:=rD fun A=>rD fun B=>rD fun C=>eF.mpr fun g=>by
  rw [bQ,bQ,bQ]
  refine gH (fun p _=>?_) _
  rw [bQ]
  refine gH (fun q _=>gH (fun r _=>?_) _) _
  rw [vG,vH,vI]
 mul_one:=fun a=>by rw [mulC,Nn]
 one_mul:=Nn
 left_distrib:=fun a b c=>by rw [mulC,Ii,mulC b,mulC c]
 right_distrib:=Ii
 zero_mul:=Ij
 mul_zero:=fun a=>by rw [mulC,Ij]
 pow_zero:=fun _=>rfl
 pow_succ:=fun _ _=>rfl
 ofNat_succ:=fun n=>eF.mpr fun g=>by
  show ev g (cT ((n+1:Nat):Int))=ev g (cT (n:Int)++cT ((1:Nat):Int))
  rw [cu,kO,kO,kO,Int.natCast_add,TL]
 ofNat_eq_natCast:=fun _=>rfl
 nsmul_eq_natCast_mul:=fun _ _=>rfl
 neg_add_cancel:=rD fun A=>eF.mpr fun g=>by
  rw [cu,jZ,kO]; show _=0 * _; rw [Ud]; lia
 sub_eq_add_neg:=fun _ _=>rfl
 neg_zsmul:=fun i=>rD fun A=>eF.mpr fun g=>by
  show ev g (aI (cT (-i)) A)=ev g ((aI (cT i) A).map jB)
  rw [jZ,bQ,bQ,kO,kO,Int.neg_mul]
 zsmul_natCast_eq_nsmul:=fun _ _=>rfl
 intCast_ofNat:=fun _=>rfl
 intCast_neg:=fun i=>eF.mpr fun g=>by
  show ev g (cT (-i))=ev g ((cT i).map jB)
  rw [jZ,kO,kO,Int.neg_mul]
 mul_comm:=mulC
theorem C0 {A:List aL} {p q:List Int} {n:Int}:(bF (putD A p n) q).getD 0=if q=p then n else (bF A q).getD 0:=by
 unfold putD
 split
 ·rename_i h
  induction A with
  | nil=>simp [bF] at h
  | cons t A ih =>
   rw [QW]
   by_cases e:t.1=p
   ·rw [if_pos e]
    by_cases z:q=p
    ·rw [if_pos z,br (by rw [e,z])]; rfl
    ·rw [if_neg z,aW (by rw [e]; exact fun w=>z w.symm),aW (by rw [e]; exact fun w=>z w.symm)]
     clear ih h
     induction A with
     | nil=>rfl
     | cons u A ih =>
      rw [QW]
      by_cases w:u.1=q
      ·rw [if_neg (by rw [w]; exact z),br w,br w]
      ·rw [aW w,← ih,aW (by split <;> exact w)]
   ·rw [if_neg e]
    have h':(bF A p).isSome=true:=by rw [aW e] at h; exact h
    by_cases z:t.1=q
    ·rw [br z,br z,if_neg (by rw [← z]; exact e)]
    ·rw [aW z,aW z,ih h']
 ·rename_i h
  induction A with
  | nil =>
   rw [Tq]
   by_cases z:q=p
   ·rw [if_pos z,br z.symm]; rfl
   ·rw [if_neg z,aW fun w=>z w.symm]
  | cons t A ih =>
   have h0:¬ t.1=p:=fun e=>h (by rw [br e]; rfl)
   rw [SJ]
   by_cases z:t.1=q
   ·rw [br z,br z,if_neg (by rw [← z]; exact h0)]
   ·rw [aW z,aW z,ih (by rw [aW h0] at h; exact h)]
noncomputable def cf (p:List Int) (A:List aL):Int:=ev (fun q=>if q=p then 1 else 0) A
theorem C1 (p):∀ ts:List aL,(bF (aV ts) p).getD 0=cf p ts:=by
 intro ts
 suffices H:∀ (ts A:List aL),(bF (ts.foldl fX A) p).getD 0=(bF A p).getD 0+cf p ts by
  have:=H ts []
  rw [show (bF ([]:List aL) p).getD 0=0 from rfl,UG] at this
  exact this
 intro ts
 induction ts with
 | nil=>intro A; show _=_+0; rw [V9]; rfl
 | cons t ts ih =>
  intro A
  rw [So,ih]
  unfold fX
  rw [C0]
  show _=_+(t.2 * (if trim t.1=p then 1 else 0)+cf p ts)
  by_cases z:p=trim t.1
  ·rw [if_pos z,if_pos z.symm,z]; lia
  ·rw [if_neg z,if_neg fun w=>z w.symm]; lia
theorem C9:t∈nz (aV ts)↔trim t.1=t.1∧t.2≠0∧t.2=cf t.1 ts:=by
 have hk:=fO ts
 constructor
 ·intro h
  unfold nz at h
  rw [U1] at h
  refine ⟨?_,by simpa using h.2,?_⟩
  ·have bd:∃ n,∀ t∈ts,t.1.length≤n:=by
    clear h hk
    induction ts with
    | nil=>exact ⟨0,fun t h=>by cases h⟩
    | cons u ts ih =>
     obtain ⟨n,hn⟩:=ih
     refine ⟨max n u.1.length,fun t ht=>?_⟩
     rcases Q0.mp ht with rfl | ht
     ·lia
     ·have:=hn t ht; lia
   obtain ⟨n,hn⟩:=bd
   exact (jv hn t h.1).1
  ·rw [← C1,xY hk h.1]; rfl
 ·rintro ⟨h1,h2,h3⟩
  unfold nz
  rw [U1]
  refine ⟨?_,by simpa using h2⟩
  rw [← C1] at h3
  cases e:bF (aV ts) t.1 with
  | none=>rw [e] at h3; exact absurd h3 h2
  | some n =>
   rw [e] at h3
   have h3':t.2=n:=h3
   unfold bF at e
   obtain ⟨u,hu,e2⟩:=Q7.mp e
   have m:=List.mem_of_find?_eq_some hu
   have z:u.1=t.1:=by simpa using List.find?_some hu
   have:u=t:=Prod.ext z (by rw [e2,h3'])
   rw [← this]; exact m
theorem t8 {L M:List aL} (h1:L.Nodup) (h2:M.Nodup) (h:∀ t,t∈L↔t∈M):L.Perm M:=(List.perm_ext_iff_of_nodup h1 h2).mpr h
theorem Dc (h:eqv A B):aG A=aG B:=by
 have nA:=keys_nodup (xS (fO A))
 have nB:=keys_nodup (xS (fO B))
 have hp:(nz (aV A)).Perm (nz (aV B)):=t8 nA nB fun t=>by rw [C9,C9]; unfold cf; rw [h]
 exact vo nB ((b9 _).trans hp) (ju nA)
theorem bZ (h:mp A=mp B):aG A=aG B:=Dc (eF.mp h)
theorem K2 (g) (hp:trim p=p) (n) (hk:(A.map (·.1)).Nodup) (ht:∀ t∈A,trim t.1=t.1):ev g (putD A p n)=ev g A+(n - (bF A p).getD 0) * g p:=by
 unfold putD
 split
 ·rename_i h
  induction A with
  | nil=>simp [bF] at h
  | cons t A ih =>
   rw [QW]
   rw [QW,Sm] at hk
   by_cases e:t.1=p
   ·rw [if_pos e]
    have same:A.map (fun kv:aL=>if kv.1=p then (kv.1,n) else kv)=A:=by
     refine (S6 fun u hu=>?_).trans (List.map_id A)
     rw [if_neg fun z=>hk.1 (by rw [e,← z]; exact Rj.mpr ⟨u,hu,rfl⟩)]; rfl
    rw [same,br e]
    rw [bg,bg]
    show n * g (trim t.1)+_=_+(n - t.2) * _
    rw [ht t Q6,e,Int.sub_mul]; lia
   ·rw [if_neg e]
    rw [bg,bg,ih hk.2 (fun u hu=>ht u (Q9 _ hu)) (by rw [aW e] at h; exact h),aW e]; lia
 ·rename_i h
  have e:bF A p=none:=by
   cases e:bF A p with
   | none=>rfl
   | some n=>rw [e] at h; exact absurd rfl h
  rw [cu,e]
  show _+(n * g (trim p)+0)=_+(n - 0) * _
  rw [hp,Int.sub_zero,V9]
theorem yd (ts):eqv (aV ts) ts:=by
 suffices H:∀ (ts A:List aL),(A.map (·.1)).Nodup→(∀ t∈A,trim t.1=t.1)→eqv (ts.foldl fX A) (A++ts) from H ts [] (by simp) (by simp)
 intro ts
 induction ts with
 | nil=>intro A _ _ g; simp
 | cons t ts ih =>
  intro A hk ht g
  have ih':ev g (ts.foldl fX (fX A t))=ev g (fX A t++ts):=ih _ (tG _ _ hk) (fun u hu=>by
   rcases qN hu with e | e
   ·rw [e,cB]
   ·exact ht u e) g
  rw [So,ih',cu,cu]
  unfold fX
  rw [K2 g (cB _) _ hk ht]
  show _=_+(t.2 * g (trim t.1)+ev g ts)
  rw [Int.sub_mul,TL]; lia
theorem GD (g) (h:A.Perm B):ev g A=ev g B:=by
 induction h with
 | nil=>rfl
 | cons x _ ih=>rw [bg,bg,ih]
 | swap x y l=>rw [bg,bg,bg,bg]; lia
 | trans _ _ a b=>rw [a,b]
theorem Dd (g):∀ A:List aL,ev g (nz A)=ev g A
 | []=>rfl
 | t::A=>by
  unfold nz
  by_cases h:t.2=0
  ·rw [UN (by simp [h])]
   show ev g (nz A)=t.2 * _+_
   rw [Dd g A,h,Ud,UG]
  ·rw [Th (by simp [h])]
   show _+ev g (nz A)=_
   rw [Dd g A]; rfl
theorem De (ts):eqv (aG ts) ts:=fun g=>by
 show ev g (jr (nz (aV ts)))=_
 rw [GD g (b9 _),Dd,yd ts g]
theorem di (A):mp (aG A)=mp A:=eF.mpr (De A)
theorem K3 (A):mp (aV A)=mp A:=eF.mpr (yd A)
noncomputable def stp {α:Type} (xs:List α) (lo hi st:Option Int):List α:=(sliceRange (sliceBounds lo hi st xs.length).1 (sliceBounds lo hi st xs.length).2.1 (sliceBounds lo hi st xs.length).2.2).filterMap (xs[·]?)
theorem div_le_self {m st:Int} (h:0<m) (hs:0<st):(m+st - 1) / st≤m:=by
 have e:(m+st - 1) / st<m+1:=by
  apply Int.ediv_lt_of_lt_mul hs
  have:0≤m * (st - 1):=VZ (by lia) (by lia)
  rw [Int.mul_sub,Int.mul_one] at this
  rw [TL,Vc]
  lia
 lia
theorem ye {lo hi:Option Int} (hk:0<k):(stp xs lo hi (some k)).length≤xs.length:=by
 unfold stp
 refine Q4 (List.length_filterMap_le ..) ?_
 have h0:0≤(sliceBounds lo hi (some k) xs.length).1:=by
  cases lo with
  | none=>simp only [sliceBounds,VJ]; rw [if_pos hk]; lia
  | some i=>simp only [sliceBounds,VJ]; rw [if_pos hk]; lia
 have h1:(sliceBounds lo hi (some k) xs.length).2.1≤xs.length:=by
  cases hi with
  | none=>simp only [sliceBounds,VJ]; rw [if_pos hk]; lia
  | some i=>simp only [sliceBounds,VJ]; rw [if_pos hk]; lia
 have h2:(sliceBounds lo hi (some k) xs.length).2.2=k:=rfl
 rw [h2]
 unfold sliceRange
 simp only [QU,List.length_range]
 rw [if_pos (by exact hk)]
 split
 ·rename_i z
  have:=div_le_self (m:=(sliceBounds lo hi (some k) xs.length).2.1 - (sliceBounds lo hi (some k) xs.length).1) (by lia) hk
  lia
 ·simp
theorem GF (f:α→β) (xs) (lo hi st):stp (xs.map f) lo hi st=(stp xs lo hi st).map f:=by
 unfold stp
 rw [QU,List.map_filterMap]
 congr 1
 funext i
 rw [Q3]
theorem zM (h:Vals xs its):∀ ns:List Nat,Vals (ns.filterMap (xs[·]?)) (ns.filterMap (its[·]?)):=by
 intro ns
 induction ns with
 | nil=>exact .nil
 | cons n ns ih =>
  rw [SQ,SQ]
  by_cases z:n<xs.length
  ·obtain ⟨u,e,hu⟩:=h.get (Ro z)
   rw [Ro z,e]
   exact .cons hu ih
  ·rw [SO (by lia),SO (by rw [← h.length]; lia)]
   exact ih
theorem zN {K:QM} (h:ak K H ds xs):∀ ns:List Nat,ak K H (ns.filterMap (ds[·]?)) (ns.filterMap (xs[·]?)):=by
 intro ns
 induction ns with
 | nil=>exact aA.mpr rfl
 | cons n ns ih =>
  rw [SQ,SQ]
  by_cases z:n<ds.length
  ·obtain ⟨u,e,hu⟩:=h.get (Ro z)
   rw [Ro z,e]
   exact aE.mpr ⟨_,_,rfl,hu,ih⟩
  ·rw [SO (by lia),SO (by rw [← h.length]; lia)]
   exact ih
noncomputable def P5 (X:Cx) (te:TE) (tl th ts:TO):TE:=fun σ H Q=>te σ H fun x H1=>tl σ H1 fun l H2=>th σ H2 fun u H3=>ts σ H3 fun t H4=>∃ a xs k,x=.ref a∧gn X.K H4 a xs∧t=some k∧0<k∧∀ p,H4 p=none→Q (.ref p) (upd H4 p (.lst (stp xs l u (some k))))
section
variable {lo hi:Option Expr} {st:Expr}
theorem K4 (he:PE X e te) (hl:PO X lo tl) (hu:PO X hi th) (ht:PO X (some st) ts):PE X (.Subscript e (.Slice lo hi (some st) p2) pos) (P5 X te tl th ts):=by
 intro aa s σ H Q I h
 refine Subscript_ (bD (he aa s σ H _ I h) fun v s1 ⟨x,H1,I1,r1,q1⟩=>?_)
 refine wpAny_Slice (bD (hl aa s1 σ H1 _ I1 q1) fun vl s2 ⟨l,H2,I2,pl,q2⟩=>bD (hu aa s2 σ H2 _ I2 q2) fun vu s3 ⟨u,H3,I3,pu,q3⟩=>bD (ht aa s3 σ H3 _ I3 q3) fun vt s4 ⟨t,H4,I4,pt,q4⟩=>?_)
 obtain ⟨a,xs,k,rfl,hx,rfl,hk,q⟩:=q4
 have I5:Inv X aa σ H4 { s4 with heap:=s4.heap.push { cls:=.type "slice",data:=.fields #[vl,vu,vt] } }:=I4.kept (t':=s4.toks) fun b ob q=>QV _ q
 cases r1
 obtain ⟨its,r,hi,hz⟩:=I5.list hx
 have hlen:=r.length
 show wpAny (model X.prog X.w) X.A (subscriptTail e (.Slice lo _ (some st) p2) (.ref a) (.ref s4.heap.objs.size)) (EP X aa σ Q) X.xe { s4 with heap:=s4.heap.push { cls:=.type "slice",data:=.fields #[vl,vu,vt] } }
 refine tail_any (ops:=[.ref a,.ref s4.heap.objs.size]) hi.isList.typeIs WR.lookup ?_ (by walk_at "u")
 refine wpAny_getItem_list_slice hi.isList (Heap.IsSliceOf.new ..) pl pu pt (by intro e; injection e with e; lia) ?_ (by rw [Rb] <;> lia)
 have I6:=I5
 generalize hS:({ s4 with heap:=s4.heap.push { cls:=.type "slice",data:=.fields #[vl,vu,vt] } }:Shared)=S at I6 ⊢
 have ep:slicePick its.toArray l u (some k)=(stp its l u (some k)).toArray:=by
  unfold slicePick stp
  simp only [Rb,List.getElem?_toArray]
 rw [ep]
 refine ⟨.ref S.heap.objs.size,_,I6.laid (t':=S.toks) (o:=.lst (stp xs l u (some k))) (fun b ob q=>QV _ q) (QS _) ?_,rfl,q _ (I6.hok.fresh (QS _))⟩
 exact ⟨Q4 (ye hk) hz,_,0,by unfold stp; rw [hlen]; exact zM r _,Q5 _ rfl⟩
end
section
variable {K:QM}
theorem Np {lo hi:Option Expr} {st:Expr} (h:aH c e ρ fun x=>EG c lo ρ fun l=>EG c hi ρ fun u=>EG c (some st) ρ fun t=>∃ ds k,x=.lst ds∧t=some k∧0<k∧R (.ow (stp ds l u (some k)))):dz c (.Subscript e (.Slice lo hi (some st) p2) pos) ρ R:=fun σ H Hf Q S q =>
 bM (K4 cW M0 M0 M0) (h σ H Hf _ S fun x v H1 aP h1 r1 g1=>h1 σ H1 aP _ (S.cE g1) fun l H2 cK h2 g2=>h2 σ H2 cK _ (S.cE (g1.trans g2)) fun u H3 Hf3 h3 g3=>h3 σ H3 Hf3 _ (S.cE ((g1.trans g2).trans g3)) fun t H4 Hf4 h4 g4=>by
  obtain ⟨ds,k,rfl,rfl,hk,hR⟩:=h4
  have r3:=Rep.mono g4.f _ (Rep.mono g3.f _ (Rep.mono g2.f _ r1))
  have g:=((g1.trans g2).trans g3).trans g4
  rw [aS] at r3
  obtain ⟨a,xs,rfl,k1,k2⟩:=r3
  refine ⟨a,xs,k,rfl,g4.b.seq k1,rfl,hk,fun p hp=>?_⟩
  exact q _ _ _ _ hR ⟨p,_,rfl,g.s.free hp,ah,g4.b.free hp,by unfold stp; rw [k2.length]; exact zN k2 _⟩ (g.trans (bu.gp g4.b hp)))
end
end EV
namespace EV
open PySem PySem.Spec PySem.Calls PyProof.Rows L2
structure OH (prog:Program) (w:World) (L:List Addr) (i:Addr) (N N':Heap→Prop) (x:Value):Prop where
 keep:∀ {b:Addr} {h h':Heap},b∈L→TM b h h'→N h→N h'
 keep':∀ {b:Addr} {h h':Heap},b∈L→TM b h h'→N' h→N' h'
 run:∀ {A:Around} {E Q:Value→Shared→Prop} {s:Shared},N s.heap→(∀ h',N' h'→SH i s.heap h'→Q x { s with heap:=h' })→wpAny (model prog w) A (Sx (.ref i)) Q E s
structure P6 (prog:Program) (w:World) (L:List Addr) (i:Addr) (N:Heap→Prop):Prop where
 keep:∀ {b:Addr} {h h':Heap},b∈L→TM b h h'→N h→N h'
 run:∀ {A:Around} {E Q:Value→Shared→Prop} {s:Shared},A.handled=none→N s.heap→(∀ h' e,TM i s.heap h'→(∃ o,h'.get? e=some o∧o.cls=.type "StopIteration")→E (.ref e) { s with heap:=h' })→wpAny (model prog w) A (Sx (.ref i)) Q E s
structure Nq (z TI TO i1 i2:Addr):Prop where
 a:TI≠z
 b:TO≠z
 c:i1≠z
 d:i2≠z
 e:TI≠TO
 f:TI≠i1
 g:TI≠i2
 h:TO≠i1
 i:TO≠i2
 j:i1≠i2
section
variable {z TI TO i1 i2:Addr}
theorem Df {Q:Value→Shared→Prop} (D:Nq z TI TO i1 i2) (hz:IsZip s.heap z TI TO .none) (hTI:IsPair s.heap TI (.ref i1) (.ref i2)) (hTO:IsPair s.heap TO a b)
 (d1:OH prog w [z,TO,i2] i1 N1 N1' x) (d2:OH prog w [z,TO,i1] i2 N2 N2' y) (h1:N1 s.heap) (h2:N2 s.heap)
 (up1:∀ {h h':Heap},(∀ c o,c≠z→h.get? c=some o→h'.get? c=some o)→N1' h→N1' h') (up2:∀ {h h':Heap},(∀ c o,c≠z→h.get? c=some o→h'.get? c=some o)→N2' h→N2' h')
 (q:∀ h',IsZip h' z TI TO (rawInt s.heap.objs.size)→IsPair h' TO x y→N1' h'→N2' h'→IsPair h' s.heap.objs.size x y →
   (∀ c o,c≠z→c≠TO→c≠i1→c≠i2→s.heap.get? c=some o→h'.get? c=some o)→Q (.ref s.heap.objs.size) { s with heap:=h' }) :
 wpAny (model prog w) A (Builtin.«zip.__next__» ⟨[.ref z],[]⟩) (fun fin s'=>∃ v,fin=.done (.ret v)∧Q v s') E s:=by
 refine QL (m:=field (.ref z) 2) (RD hz rfl (x:=.bool false) rfl ?_)
 refine QL (m:=field (.ref z) 3) (RD hz rfl (x:=.ref TI) rfl (QL (SV hTI rfl ?_)))
 refine QL (m:=Vh (.ref z)) ?_
 unfold Vh
 refine QL (RD hz rfl (x:=.none) rfl (QN ?_))
 simp only [if_true]
 refine QL (RV (QL (RD hz rfl (x:=.ref TO) rfl (QL (Sj hz (by simp) fun g1 (k1:IsZip g1 z TI TO .ellipsis) b1=>?_)))))
 have c1:=b1.extBut
 refine QL ?_
 simp only [W7,List.zipIdx_nil,T9,List.forIn_nil]
 refine QL (QL (V1 ?_))
 refine QL (m:=Sx (.ref i1)) (d1.run (d1.keep (by simp) c1 h1) fun g2 m1 b2=>QN ?_)
 have c2:=b2.extBut
 have o2:IsPair g2 TO a b:=c2 _ _ D.h (c1 _ _ D.b hTO)
 refine QL (SV o2 rfl (QL (Wy o2 fun g3 (o3:IsPair g3 TO x b) b3=>QL (Ue (QN ?_)))))
 have c3:=b3.extBut
 refine QL (QL (V1 ?_))
 refine QL (m:=Sx (.ref i2)) (d2.run (d2.keep (by simp) c3 (d2.keep (by simp) c2 (d2.keep (by simp) c1 h2))) fun g4 m2 b4=>QN ?_)
 have c4:=b4.extBut
 have o4:IsPair g4 TO x b:=c4 _ _ D.i o3
 refine QL (SV o4 rfl (QL (Wy o4 fun g5 (o5:IsPair g5 TO x y) b5=>QL (Ue (QN (QN ?_))))))
 have c5:=b5.extBut
 refine QL (SV o5 rfl (QL (VU ?_)))
 have sz:g5.objs.size=s.heap.objs.size:=by rw [b5.1,b4.1,b3.1,b2.1,b1.1]
 have k5:IsZip g5 z TI TO .ellipsis:=c5 _ _ D.b.symm (c4 _ _ D.d.symm (c3 _ _ D.b.symm (c2 _ _ D.c.symm k1)))
 have all:∀ c o,c≠z→c≠TO→c≠i1→c≠i2→s.heap.get? c=some o→g5.get? c=some o:=fun c o n1 n2 n3 n4 e=>c5 _ _ n2 (c4 _ _ n4 (c3 _ _ n2 (c2 _ _ n3 (c1 _ _ n1 e))))
 have m1':N1' g5:=d1.keep' (by simp) c5 (d1.keep' (by simp) c4 (d1.keep' (by simp) c3 m1))
 have m2':N2' g5:=d2.keep' (by simp) c5 m2
 refine QL (m:=Xg (.ref z) (.ref g5.objs.size)) ?_
 unfold Xg
 have k6:IsZip (g5.push { cls:=.type "tuple",data:=.seq #[x,y] }) z TI TO .ellipsis:=QV _ k5
 refine QL (Sj k6 (by simp) fun g7 (k7:IsZip g7 z TI TO (rawInt g5.objs.size)) b7=>Sj k7 (by simp) fun g8 (k8:IsZip g8 z TI TO (rawInt g5.objs.size)) b8=>?_)
 have up:∀ c o,c≠z→g5.get? c=some o→g8.get? c=some o:=fun c o n e=>b8.extBut _ _ n (b7.extBut _ _ n (QV _ e))
 have nz:g5.objs.size≠z:=TH (QX k5)
 have p8:IsPair g8 g5.objs.size x y:=b8.extBut _ _ nz (b7.extBut _ _ nz (Q5 _ rfl))
 refine QN ⟨_,rfl,?_⟩
 show Q (.ref g5.objs.size) _
 rw [sz] at k8 p8 ⊢
 exact q g8 k8 (up _ _ D.b o5) (up1 up m1') (up2 up m2') p8 fun c o n1 n2 n3 n4 e=>up c o n1 (all c o n1 n2 n3 n4 e)
theorem GG (hh:A.handled=none) (D:Nq z TI TO i1 i2) (hz:IsZip s.heap z TI TO .none) (hTI:IsPair s.heap TI (.ref i1) (.ref i2)) (hTO:IsPair s.heap TO a b)
 (d:P6 prog w [z] i1 N1∨∃ x N1',OH prog w [z] i1 N1 N1' x∧P6 prog w [z,TO,i1] i2 N2) (h1:N1 s.heap) (h2:N2 s.heap)
 (q:∀ h' e,(∀ c o,c≠z→c≠TO→c≠i1→c≠i2→s.heap.get? c=some o→h'.get? c=some o)→(∃ o,h'.get? e=some o∧o.cls=.type "StopIteration")→E (.ref e) { s with heap:=h' }) :
 wpAny (model prog w) A (Builtin.«zip.__next__» ⟨[.ref z],[]⟩) Q E s:=by
 refine QL (m:=field (.ref z) 2) (RD hz rfl (x:=.bool false) rfl ?_)
 refine QL (m:=field (.ref z) 3) (RD hz rfl (x:=.ref TI) rfl (QL (SV hTI rfl ?_)))
 refine QL (m:=Vh (.ref z)) ?_
 unfold Vh
 refine QL (RD hz rfl (x:=.none) rfl (QN ?_))
 simp only [if_true]
 refine QL (RV (QL (RD hz rfl (x:=.ref TO) rfl (QL (Sj hz (by simp) fun g1 (k1:IsZip g1 z TI TO .ellipsis) b1=>?_)))))
 have c1:=b1.extBut
 refine QL ?_
 simp only [W7,List.zipIdx_nil,T9,List.forIn_nil]
 refine QL (QL (V1 ?_))
 refine QL (m:=Sx (.ref i1)) ?_
 rcases d with d | ⟨x,N1',d1,d2⟩
 ·refine d.run hh (d.keep (by simp) c1 h1) fun g2 e b2 ⟨oe,e1,e2⟩=>?_
  have k2:IsZip g2 z TI TO .ellipsis:=b2 _ _ D.c.symm k1
  have ne:e≠z:=fun u=>by subst u; rw [k2] at e1; cases e1; simp at e2
  exact Sj k2 (by simp) fun g3 _ b3=>q g3 e (fun c o n1 _ n3 _ u=>b3.extBut _ _ n1 (b2 _ _ n3 (c1 _ _ n1 u))) ⟨oe,b3.extBut _ _ ne e1,e2⟩
 ·refine d1.run (d1.keep (by simp) c1 h1) fun g2 m1 b2=>QN ?_
  have c2:=b2.extBut
  have o2:IsPair g2 TO a b:=c2 _ _ D.h (c1 _ _ D.b hTO)
  refine QL (SV o2 rfl (QL (Wy o2 fun g3 (o3:IsPair g3 TO x b) b3=>QL (Ue (QN ?_)))))
  have c3:=b3.extBut
  refine QL (QL (V1 ?_))
  refine QL (m:=Sx (.ref i2)) (d2.run hh (d2.keep (by simp) c3 (d2.keep (by simp) c2 (d2.keep (by simp) c1 h2))) fun g4 e b4 ⟨oe,e1,e2⟩=>?_)
  have k4:IsZip g4 z TI TO .ellipsis:=b4 _ _ D.d.symm (c3 _ _ D.b.symm (c2 _ _ D.c.symm k1))
  have ne:e≠z:=fun u=>by subst u; rw [k4] at e1; cases e1; simp at e2
  exact Sj k4 (by simp) fun g5 _ b5=>q g5 e (fun c o n1 n2 n3 n4 u=>b5.extBut _ _ n1 (b4 _ _ n4 (c3 _ _ n2 (c2 _ _ n3 (c1 _ _ n1 u))))) ⟨oe,b5.extBut _ _ ne e1,e2⟩
end
end EV
namespace EV
open PySem PySem.Spec PyProof.Rows L2
section
theorem GH (nd:(fp.map (·.1)).Nodup) (hn:∀ a∈fp,aP a.1=none) (fr:∀ a∈fp,H a.1=none) (g:bu H Hf H1 aP):bu H Hf (iy CO fp H1) (iy CO fp aP):=by
 have o1:∀ {b:Addr} {o:HO},H b=some o→b∉fp.map (·.1):=fun e m=>by obtain ⟨p,hp,rfl⟩:=cD m; rw [fr p hp] at e; cases e
 refine ⟨fun b o e=>?_,fun b o e=>?_,fun b o e=>?_,fun b h1 h2 h3=>?_⟩
 ·rw [aX (o1 e)]; exact g.s b o e
 ·have e1:=g.f b o e
  rw [aX fun m=>by obtain ⟨p,hp,rfl⟩:=cD m; rw [hn p hp] at e1; cases e1]; exact e1
 ·by_cases m:b∈fp.map (·.1)
  ·obtain ⟨p,hp,rfl⟩:=cD m
   rw [fY nd p hp] at e ⊢; exact e
  ·rw [aX m] at e ⊢; exact g.b b o e
 ·rw [aX fun m=>by obtain ⟨p,hp,rfl⟩:=cD m; exact h2 (fr p hp)]; exact g.n b h1 h2 h3
end
section
variable {K:QM}
theorem m9 (h:dz c e ρ fun r=>∃ s,r=.fo s∧R s.d):aH c e ρ R:=fun σ H Hf Q S q aa s I=>by
 refine bD (h σ H Hf (fun v H'=>∃ (sh:Sh) (fp:Fp) (ai:Hp),bq c.X.K H' ai sh v fp∧(fp.map (·.1)).Nodup∧(∀ a∈fp,H a.1=none)∧bu H Hf H' ai∧R sh.d) S (fun r v H' ai ⟨sh,e,hR⟩ rs g=>by subst e; obtain ⟨fp,r1,r2,r3⟩:=rs; exact ⟨sh,fp,ai,r1,r2,r3,g,hR⟩) aa s I) fun u s1 hh=>z2 hh fun v H1 hh=>w3 hh fun I1 rv hh=>z3 hh fun sh fp aP hh=>w5 hh fun rf nd fr g hR=>?_
 have hz:=bq.fz sh rf
 exact ⟨v,_,mW I1 nd fun a ha=>(hz a ha).1,rv,q sh.d v _ (iy CO fp aP) hR (bq.rep (fun b o e=>by rw [aX fun m=>by obtain ⟨p,hp,rfl⟩:=cD m; rw [(hz p hp).2] at e; cases e]; exact e) sh (fun a ha=>fY nd a ha) rf) (GH nd (fun a ha=>(hz a ha).2) fr g)⟩
end
end EV
namespace EV
open PySem PySem.Spec PySem.Calls PyProof.Rows L2
structure ZS (K:QM) where
 sq:Hp→Addr→List V→Prop
 it:Heap→Addr→Addr→Nat→Prop
 us:Heap→Addr→Array Value→Prop
 dm:List D→D
 cl:String
 rep:∀ {H:Hp} {ds:List D} {v:V},Rep K H (dm ds) v↔∃ a xs,v=.ref a∧sq H a xs∧ak K H ds xs
 same:∀ {H H':Hp} {a:Addr} {xs:List V},aM H H'→sq H a xs→sq H' a xs
 ini:∀ {h:Heap} {i l:Addr},h.get? i=some { cls:=.type cl,data:=.fields #[.ref l,.int 0 0] }→it h i l 0
 get:∀ {X:Cx} {aa:List (Addr×Obj)} {σ:L2.St} {H:Hp} {s:Shared} {l:Addr} {xs:List V},X.K=K→Inv X aa σ H s→sq H l xs→∃ its,Vals xs its∧us s.heap l its.toArray
 inj:∀ {X:Cx} {aa:List (Addr×Obj)} {σ:L2.St} {H:Hp} {s:Shared} {l:Addr} {xs ys:List V},X.K=K→Inv X aa σ H s→sq H l xs→sq H l ys→xs=ys
 ito:∀ {h:Heap} {i l:Addr} {k:Nat},it h i l k→∃ o,h.get? i=some o∧∀ v,o.data≠.cell v
 itk:∀ {h h':Heap} {i l:Addr} {k:Nat},(∀ o,h.get? i=some o→h'.get? i=some o)→it h i l k→it h' i l k
 usk:∀ {h h':Heap} {l:Addr} {a:Array Value},(∀ o,h.get? l=some o→h'.get? l=some o)→us h l a→us h' l a
 uso:∀ {h:Heap} {l:Addr} {a:Array Value},us h l a→∃ o,h.get? l=some o
 run:∀ {prog:Program} {w:World} {i l:Addr} {a:Array Value} {k:Nat} {x:Value} {A:Around} {E Q:Value→Shared→Prop} {s:Shared},l≠i→a[k]?=some x→it s.heap i l k→us s.heap l a→(∀ h',it h' i l (k+1)→SH i s.heap h'→Q x { s with heap:=h' })→wpAny (model prog w) A (Sx (.ref i)) Q E s
 dry:∀ {prog:Program} {w:World} {i l:Addr} {a:Array Value} {k:Nat} {A:Around} {E Q:Value→Shared→Prop} {s:Shared},A.handled=none→a[k]?=none→it s.heap i l k→us s.heap l a→(∀ h' e,TM i s.heap h'→(∃ o,h'.get? e=some o∧o.cls=.type "StopIteration")→E (.ref e) { s with heap:=h' })→wpAny (model prog w) A (Sx (.ref i)) Q E s
noncomputable def P7 (K:QM):ZS K where
 sq:=dw K
 it:=IsTupIter
 us:=IsTup
 dm:=.tup
 cl:="tuple_iterator"
 rep:=aJ
 same:=az
 ini:=fun e=>⟨_,e,rfl,rfl⟩
 get:=fun h I q=>by subst h; obtain ⟨its,rv,p,_⟩:=I.tuple q; exact ⟨its,rv,p⟩
 inj:=fun h I q q'=>by subst h; exact I.gW q q'
 ito:=fun ⟨o,e,_,d⟩=>⟨o,e,fun v q=>by rw [d] at q; cases q⟩
 itk:=fun k ⟨o,e,r⟩=>⟨o,k o e,r⟩
 usk:=fun k ⟨o,e,r⟩=>⟨o,k o e,r⟩
 uso:=fun ⟨o,e,_⟩=>⟨o,e⟩
 run:=fun {prog w i l a k x A E Q s} hil hx t u q=>by
  obtain ⟨o,ho,hc,hd⟩:=id t
  obtain ⟨ol,hol,_,nl,hdl⟩:=id u
  unfold Sx
  refine QL (SN (name:=QK "__next__") t.typeIs Vy (Sk Vy t.typeIs entry_tupleiter_next ?_ (args_tupleiter_next _)))
  refine QL (m:=field (.ref i) 0) (RD ho hd (x:=.ref l) rfl ?_)
  show wpAny _ _ (if (Rc l == RW)=true then _ else _) _ _ s
  rw [if_neg (show ¬ ((Rc l == RW)=true) from QZ)]
  refine QL (m:=field (.ref i) 1) (RD ho hd (x:=.int k 0) rfl ?_)
  refine QL (m:=seqItems? (.ref l)) (SV hol hdl ?_)
  simp only [Rp,hx]
  refine QL (U4 ho hd (by simp) (QN ⟨x,rfl,QN (q _ ?_ (UT ..))⟩))
  exact ⟨_,Heap.get?_update_self _ ho (Obj.isFreed_of_fields (VB hd _)),(Obj.cls_mapFields ..).trans hc,by rw [VB hd]; simp [rawInt]⟩
 dry:=fun {prog w i l a k A E Q s} hh hx t u q=>by
  obtain ⟨o,ho,hc,hd⟩:=id t
  obtain ⟨ol,hol,_,nl,hdl⟩:=id u
  unfold Sx
  refine QL (SN (name:=QK "__next__") t.typeIs Vy (Sk Vy t.typeIs entry_tupleiter_next ?_ (args_tupleiter_next _)))
  refine QL (m:=field (.ref i) 0) (RD ho hd (x:=.ref l) rfl ?_)
  show wpAny _ _ (if (Rc l == RW)=true then _ else _) _ _ s
  rw [if_neg (show ¬ ((Rc l == RW)=true) from QZ)]
  refine QL (m:=field (.ref i) 1) (RD ho hd (x:=.int k 0) rfl ?_)
  refine QL (m:=seqItems? (.ref l)) (SV hol hdl ?_)
  simp only [Rp,hx]
  refine QL (RV (QL (U4 ho hd (by simp) ?_)))
  refine QL (m:=newExc (.type "StopIteration") []) ?_
  simp only [newExc,newTuple]
  refine QL (R0 ?_ (by size_fits))
  refine QL (m:=firstArgMember _ _) (wpAny_of_eq (a:=RW) (by first | rfl | (simp only [firstArgMember]; rfl)) ?_)
  refine R0 ?_ (by size_fits)
  simp only [raiseNew]
  refine QL (wpAny_handled ?_)
  first | rw [show A.in1.handled=none from hh] | rw [hh]
  refine QL (QN (wpAny_throw ?_))
  exact q _ _ (((UT ..).extBut.push _).push _) ⟨_,Q5 _ rfl,rfl⟩
noncomputable def Nr (K:QM):ZS K where
 sq:=gn K
 it:=fun h i l k=>h.IsListIter i l k
 us:=fun h l a=>h.IsList l a
 dm:=.lst
 cl:="list_iterator"
 rep:=aS
 same:=fun e q=>e.seq q
 ini:=fun e=>⟨_,e,rfl,rfl⟩
 get:=fun h I q=>by subst h; obtain ⟨its,rv,p,_⟩:=I.list q; exact ⟨its,rv,p.isList⟩
 inj:=fun h I q q'=>by subst h; exact I.lJ q q'
 ito:=fun ⟨o,e,_,d⟩=>⟨o,e,fun v q=>by rw [d] at q; cases q⟩
 itk:=fun k t=>t.at fun o e=>k o e
 usk:=fun k ⟨o,e,r⟩=>⟨o,k o e,r⟩
 uso:=fun ⟨o,e,_⟩=>⟨o,e⟩
 run:=fun _ hx t u q=>wpAny_nextOf_list_item t u hx q
 dry:=fun hh hx t u q=>wpAny_nextOf_list_end hh t u hx q
section
variable {prog:Program} {w:World} {E:Value→Shared→Prop} {s:Shared} {K:QM} {i l:Addr} {us:Array Value} {k:Nat} {L:List Addr}
noncomputable def ZS.At (A:ZS K) (i l:Addr) (us:Array Value) (k:Nat) (h:Heap):Prop:=A.it h i l k∧A.us h l us
theorem ZS.At.keep {A:ZS K} (t:A.At i l us k h) (e:TM b h h') (n1:i≠b) (n2:l≠b):A.At i l us k h':=⟨A.itk (fun o=>e _ o n1) t.1,A.usk (fun o=>e _ o n2) t.2⟩
theorem Dg {A:ZS K} {x:Value} (hL:∀ b∈L,i≠b∧l≠b) (hil:l≠i) (hx:us[k]?=some x):OH prog w L i (A.At i l us k) (A.At i l us (k+1)) x where
 keep:=fun hb e t=>t.keep e (hL _ hb).1 (hL _ hb).2
 keep':=fun hb e t=>t.keep e (hL _ hb).1 (hL _ hb).2
 run:=fun t q=>A.run hil hx t.1 t.2 fun h' a b=>q h' ⟨a,A.usk (fun o=>b.extBut _ o hil) t.2⟩ b
theorem Ik {A:ZS K} (hL:∀ b∈L,i≠b∧l≠b) (hx:us[k]?=none):P6 prog w L i (A.At i l us k) where
 keep:=fun hb e t=>t.keep e (hL _ hb).1 (hL _ hb).2
 run:=fun hh t q=>A.dry hh hx t.1 t.2 q
theorem QH {z TI TO i1 i2 l1 l2:Addr} (D:ZipApart z TI TO i1 i2 l1 l2):∀ b∈[z,TO,i2],i1≠b∧l1≠b:=by
 intro b hb
 simp only [Q0,RP,or_false] at hb
 rcases hb with rfl | rfl | rfl
 ·exact ⟨D.i1z,D.l1z⟩
 ·exact ⟨D.TOi1.symm,D.l1TO⟩
 ·exact ⟨D.i12,D.l1i2⟩
theorem Qm {z TI TO i1 i2 l1 l2:Addr} (D:ZipApart z TI TO i1 i2 l1 l2):∀ b∈[z,TO,i1],i2≠b∧l2≠b:=by
 intro b hb
 simp only [Q0,RP,or_false] at hb
 rcases hb with rfl | rfl | rfl
 ·exact ⟨D.i2z,D.l2z⟩
 ·exact ⟨D.TOi2.symm,D.l2TO⟩
 ·exact ⟨D.i12.symm,D.l2i1⟩
theorem Qn {z TI TO i1 i2 l1 l2:Addr} (D:ZipApart z TI TO i1 i2 l1 l2):∀ b∈[z],i1≠b∧l1≠b:=by
 intro b hb
 cases Q8.mp hb
 exact ⟨D.i1z,D.l1z⟩
variable {B C:ZS K}
theorem zO {z TI TO i1 i2 l1 l2:Addr} (D:ZipApart z TI TO i1 i2 l1 l2)
 (hz:IsZip s.heap z TI TO .none) (hTI:IsPair s.heap TI (.ref i1) (.ref i2)) (hTO:IsPair s.heap TO a b) (h1:B.At i1 l1 xs k s.heap) (h2:C.At i2 l2 ys k s.heap) (hx:xs[k]?=some x) (hy:ys[k]?=some y)
 (q:∀ h',IsZip h' z TI TO (rawInt s.heap.objs.size)→IsPair h' TO x y→B.At i1 l1 xs (k+1) h'→C.At i2 l2 ys (k+1) h'→IsPair h' s.heap.objs.size x y →
   (∀ c o,c≠z→c≠TO→c≠i1→c≠i2→s.heap.get? c=some o→h'.get? c=some o)→Q (some (.ref s.heap.objs.size)) { s with heap:=h' }):wpAny (model prog w) A (pyNext (.ref z)) Q E s:=by
 have hT:s.TypeIs (.ref z) "zip":=⟨_,hz,rfl⟩
 have up:∀ {B:ZS K} {i l:Addr} {us:Array Value} {k:Nat},i≠z→l≠z→∀ {h h':Heap},(∀ c o,c≠z→h.get? c=some o→h'.get? c=some o)→B.At i l us k h→B.At i l us k h':=fun {B} {_} {_} {_} {_} n1 n2 h h' e t=>⟨B.itk (fun o=>e _ o n1) t.1,B.usk (fun o=>e _ o n2) t.2⟩
 unfold pyNext
 exact QL (Tw (SN (name:=QK "__next__") hT VS
  (Sk VS hT F.entry_zip_next
    (Df ⟨D.TIz,D.TOz,D.i1z,D.i2z,D.TITO,D.TIi1,D.TIi2,D.TOi1,D.TOi2,D.i12⟩ hz hTI hTO
      (Dg (QH D) D.l1i1 hx) (Dg (Qm D) D.l2i2 hy) h1 h2
      (up D.i1z D.l1z) (up D.i2z D.l2z) fun h' a1 a2 a3 a4 a5 a6=>QN (q h' a1 a2 a3 a4 a5 a6)) (F.args_zip_next_1 _))))
theorem zP {z TI TO i1 i2 l1 l2:Addr} (hh:A.handled=none) (D:ZipApart z TI TO i1 i2 l1 l2)
 (hz:IsZip s.heap z TI TO .none) (hTI:IsPair s.heap TI (.ref i1) (.ref i2)) (hTO:IsPair s.heap TO a b) (h1:B.At i1 l1 xs k s.heap) (h2:C.At i2 l2 ys k s.heap) (hend:xs.size≤k∨ys.size≤k)
 (q:∀ h',(∀ c o,c≠z→c≠TO→c≠i1→c≠i2→s.heap.get? c=some o→h'.get? c=some o)→Q none { s with heap:=h' }):wpAny (model prog w) A (pyNext (.ref z)) Q E s:=by
 have hT:s.TypeIs (.ref z) "zip":=⟨_,hz,rfl⟩
 unfold pyNext
 refine QL (Tw (SN (name:=QK "__next__") hT VS
  (Sk VS hT F.entry_zip_next (GG (N1:=B.At i1 l1 xs k) (N2:=C.At i2 l2 ys k) hh ⟨D.TIz,D.TOz,D.i1z,D.i2z,D.TITO,D.TIi1,D.TIi2,D.TOi1,D.TOi2,D.i12⟩ hz hTI hTO ?_ h1 h2 fun h' e hk he=>?_) (F.args_zip_next_1 _))))
 ·by_cases z:k<xs.size
  ·exact .inr ⟨_,_,Dg (Qn D) D.l1i1 (Rm z),Ik (Qm D) (Wv (by lia))⟩
  ·exact .inl (Ik (Qn D) (Wv (by lia)))
 ·obtain ⟨o,ho,hc⟩:=he
  refine QL (VI (T:="StopIteration") (b:=true) ⟨o,ho,hc⟩ isSubtype_stop ?_)
  exact QN (q _ hk)
end
noncomputable def K5 {K:QM} (B C:ZS K) (l1 l2:Addr):It :=
 ⟨fun i H=>∃ xs ys x y,B.sq H l1 xs∧C.sq H l2 ys∧xs[i]?=some x∧ys[i]?=some y,
  fun i H v H'=>∃ p x y,v=.ref p∧H p=none∧H'=upd H p (.tup [x,y])∧(∀ xs,B.sq H l1 xs→xs[i]?=some x)∧∀ ys,C.sq H l2 ys→ys[i]?=some y,
  fun i H=>∃ xs ys,B.sq H l1 xs∧C.sq H l2 ys∧(xs.length≤i∨ys.length≤i)⟩
theorem zQ {P:Program} {w:World} {K:QM} {B C:ZS K} {elts:List Expr} {k:Nat} {pos:Pos} {z TI TO i1 i2 l1 l2:Addr} (D:ZipApart z TI TO i1 i2 l1 l2) :
 Turn P w K (.Tuple elts k pos) (K5 B C l1 l2) [z,TI,TO,i1,i2] z (fun i h=>IsZip h z TI TO .none∧IsPair h TI (.ref i1) (.ref i2)∧(∃ a b,IsPair h TO a b)∧B.it h i1 l1 i∧C.it h i2 l2 i) where
 mem:=by simp
 obj:=fun i h ⟨hz,hTI,⟨a,b,hTO⟩,h1,h2⟩ b hb=>by
  simp only [Q0,RP,or_false] at hb
  rcases hb with rfl | rfl | rfl | rfl | rfl
  ·exact ⟨_,hz,fun v q=>by have q':Vd _=Uk v:=q; cases q'⟩
  ·exact ⟨_,hTI,fun v q=>by have q':Data.seq _ _=Uk v:=q; cases q'⟩
  ·exact ⟨_,hTO,fun v q=>by have q':Data.seq _ _=Uk v:=q; cases q'⟩
  ·exact B.ito h1
  ·exact C.ito h2
 keep:=fun i h h' ⟨hz,hTI,⟨a,b,hTO⟩,h1,h2⟩ hk=>⟨hk z (by simp) _ hz,hk TI (by simp) _ hTI,⟨a,b,hk TO (by simp) _ hTO⟩,B.itk (hk i1 (by simp)) h1,C.itk (hk i2 (by simp)) h2⟩
 item:=by
  intro X hP hw hK hc i aa s σ H E I hf st hg
  obtain ⟨hz,hTI,⟨a,b,hTO⟩,h1,h2⟩:=st
  obtain ⟨xs,ys,x,y,q1,q2,hx,hy⟩:=hg
  obtain ⟨Ox,OP,p1⟩:=B.get hK I q1
  obtain ⟨its2,OQ,p2⟩:=C.get hK I q2
  subst hP hw
  obtain ⟨u1,hu1,ru1⟩:=OP.get hx
  obtain ⟨u2,hu2,ru2⟩:=OQ.get hy
  refine zO D hz hTI hTO ⟨h1,p1⟩ ⟨h2,p2⟩ (x:=u1) (y:=u2) (by simpa using hu1) (by simpa using hu2) fun h' a1 a2 a3 a4 a5 hk=>?_
  have Hp:H s.heap.objs.size=none:=I.hok.fresh (QS _)
  have IA:Inv X aa σ (upd H s.heap.objs.size (.tup [x,y])) { s with heap:=s.heap.push { cls:=.type "tuple",data:=.seq #[u1,u2] },toks:=s.toks } :=
   I.laid (a:=s.heap.objs.size) (o:=.tup [x,y]) (fun _ _ q=>QV _ q) (QS _) ⟨by show 2≤sizeLine; decide,[u1,u2],.cons ru1 (.cons ru2 .nil),_,Q5 _ rfl,rfl,0,rfl⟩
  have lt:∀ b∈[z,TI,TO,i1,i2],b<s.heap.objs.size:=fun b hb=>by
   obtain ⟨o1,e1,_⟩:=B.ito h1
   obtain ⟨o2,e2,_⟩:=C.ito h2
   simp only [Q0,RP,or_false] at hb
   rcases hb with rfl | rfl | rfl | rfl | rfl
   ·exact QX hz
   ·exact QX hTI
   ·exact QX hTO
   ·exact QX e1
   ·exact QX e2
  have gf:∀ b∈[z,TI,TO,i1,i2],fC X aa (upd H s.heap.objs.size (.tup [x,y])) b:=fun b hb=>⟨by rw [aj (Ri (lt b hb))]; exact (hf b hb).1,(hf b hb).2⟩
  have I1:Inv X aa σ (upd H s.heap.objs.size (.tup [x,y])) { s with heap:=h',toks:=s.toks }:=ic (s:={ s with heap:=s.heap.push { cls:=.type "tuple",data:=.seq #[u1,u2] },toks:=s.toks }) (t':=s.toks) (h':=h') (L:=[z,TI,TO,i1,i2]) IA (fun b o hb q=>by
   simp only [Q0,RP,or_false,not_or] at hb
   by_cases e:b=s.heap.objs.size
   ·subst e
    rw [Q5 _ rfl] at q; cases q; exact a5
   ·refine hk b o hb.1 hb.2.2.1 hb.2.2.2.1 hb.2.2.2.2 ?_
    rw [WZ _ _ _ e] at q; exact q) gf
  have b1:IsPair h' TI (.ref i1) (.ref i2):=hk _ _ D.TIz D.TITO D.TIi1 D.TIi2 hTI
  refine ⟨_,rfl,wpAny_letOwnedTupleGo_zip (s:={ s with heap:=h' }) a1 fun h2' hz' hs'=>?_⟩
  refine ⟨.ref s.heap.objs.size,_,ic (s:={ s with heap:=h',toks:=s.toks }) (t':=s.toks) (h':=h2') (L:=[z,TI,TO,i1,i2]) I1 (fun b o hb q=>hs'.extBut b o (fun e=>hb (by simp [e])) q) gf,rfl,
   ⟨_,x,y,rfl,Hp,rfl,fun xs' h=>by rw [B.inj hK I h q1]; exact hx,fun ys' h=>by rw [C.inj hK I h q2]; exact hy⟩,
   ⟨hz',hs'.extBut _ _ D.TIz b1,⟨_,_,hs'.extBut _ _ D.TOz a2⟩,B.itk (fun o=>hs'.extBut _ o D.i1z) a3.1,C.itk (fun o=>hs'.extBut _ o D.i2z) a4.1⟩,fun b hb=>(gf b hb).1⟩
 done:=by
  intro X hP hw hK hc i aa s σ H E I hf st hg
  obtain ⟨hz,hTI,⟨a,b,hTO⟩,h1,h2⟩:=st
  obtain ⟨xs,ys,q1,q2,hend⟩:=hg
  obtain ⟨Ox,OP,p1⟩:=B.get hK I q1
  obtain ⟨its2,OQ,p2⟩:=C.get hK I q2
  subst hP hw
  have l1:=OP.length
  have l2:=OQ.length
  refine zP (I.ok.hd hc) D hz hTI hTO ⟨h1,p1⟩ ⟨h2,p2⟩ (by simp; lia) fun h' hk=>⟨rfl,ic (t':=s.toks) (L:=[z,TI,TO,i1,i2]) I (fun b o hb q=>?_) hf⟩
  simp only [Q0,RP,or_false,not_or] at hb
  exact hk b o hb.1 hb.2.2.1 hb.2.2.2.1 hb.2.2.2.2 q
 self:=fun A i s Q E st h=>wpAny_pyIter_zip st.1 h
theorem zR {K:QM} {B C:ZS K} {Hf:Hp} {ds es:List D} {xs ys:List V} {l1 l2:Addr} (h1:B.sq Hf l1 xs) (r1:ak K Hf ds xs) (h2:C.sq Hf l2 ys) (r2:ak K Hf es ys):jM K (K5 B C l1 l2) (mO ds es) Hf where
 go:=fun i d H aP s1 s2 e=>by
  unfold mO at e
  rw [List.getElem?_zipWith_eq_some] at e
  obtain ⟨x,y,ex,ey,rfl⟩:=e
  obtain ⟨v1,f1,g1⟩:=r1.get ex
  obtain ⟨v2,f2,g2⟩:=r2.get ey
  have q1:=B.same (s1.trans s2) h1
  have q2:=C.same (s1.trans s2) h2
  refine ⟨⟨xs,ys,v1,v2,q1,q2,f1,f2⟩,fun v H' ⟨p,x',y',e1,e2,e3,e4,e5⟩=>?_⟩
  have z1:=e4 xs q1
  have z2:=e5 ys q2
  rw [f1] at z1; cases z1
  rw [f2] at z2; cases z2
  subst e1 e3
  have g:=bu.new s2 e2 (o:=.tup [v1,v2])
  exact ⟨upd aP p (.tup [v1,v2]),g,aJ.mpr ⟨p,_,rfl,.inl (.inl ah),.cons (Rep.mono (s1.trans g.f) _ g1) (.cons (Rep.mono (s1.trans g.f) _ g2) (aA.mpr rfl))⟩⟩
 stop:=fun i H aP s1 s2 e=>⟨xs,ys,B.same (s1.trans s2) h1,C.same (s1.trans s2) h2,by
  rw [← r1.length,← r2.length]
  unfold mO at e
  rw [List.length_zipWith] at e
  lia⟩
noncomputable abbrev Qo (c:String) (h:Heap) (l:Addr):Heap:=h.push { cls:=.type c,data:=.fields #[.ref l,.int 0 0] }
noncomputable abbrev Qp (h:Heap) (a b:Value):Heap:=h.push { cls:=.type "tuple",data:=.seq #[a,b] }
section
variable (c d:String)
noncomputable abbrev OI (h:Heap) (l1 _l2:Addr):Heap:=Qo c h l1
noncomputable abbrev Nt (h:Heap) (l1 l2:Addr):Heap:=Qo d (OI c h l1 l2) l2
noncomputable abbrev OJ (h:Heap) (l1 l2:Addr):Heap:=Qp (Nt c d h l1 l2) (.ref h.objs.size) (.ref (OI c h l1 l2).objs.size)
noncomputable abbrev OL (h:Heap) (l1 l2:Addr):Heap:=Qp (OJ c d h l1 l2) .none .none
noncomputable abbrev Il (h:Heap) (l1 l2:Addr):Heap:=(OL c d h l1 l2).push { cls:=.type "zip",data:=.fields #[.none,.bool false,.bool false,.ref (Nt c d h l1 l2).objs.size,.ref (OJ c d h l1 l2).objs.size] }
end
noncomputable abbrev zS {K:QM} (B C:ZS K):Prop:=∀ (l1 l2:Addr) (xs ys:Array Value),Meets (Builtin.«zip.__new__» ⟨[.type "zip",.ref l1,.ref l2],[]⟩) (fun _ R s=>B.us s.heap l1 xs∧C.us s.heap l2 ys∧R (.ok (.ret (.ref (OL B.cl C.cl s.heap l1 l2).objs.size))) { s with heap:=Il B.cl C.cl s.heap l1 l2 })
theorem Dh (K):zS (P7 K) (P7 K):=fun l1 l2 xs ys =>
 .of_wp fun prog w A R s h=>by
  obtain ⟨hp,g,d,tk,os⟩:=s
  obtain ⟨e1,e2,h⟩:=h
  have hsub:=PySem.sub_zip
  have t1:IsTup (Ug ⟨hp,g,d,tk,os⟩) l1 xs:=e1
  have t2:IsTup (Ug ⟨hp.push { cls:=.type "tuple_iterator",data:=.fields #[.ref l1,.int 0 0] },g,d,tk,os⟩) l2 ys:=IsTup.push e2 _
  wp_walk using iter_tuple t1,iter_tuple t2
  exact ⟨_,rfl,h⟩
theorem Di (K):zS (P7 K) (Nr K):=fun l1 l2 xs ys =>
 .of_wp fun prog w A R s h=>by
  obtain ⟨hp,g,d,tk,os⟩:=s
  obtain ⟨e1,e2,h⟩:=h
  have hsub:=PySem.sub_zip
  have t1:IsTup (Ug ⟨hp,g,d,tk,os⟩) l1 xs:=e1
  have t2:Heap.IsList (Ug ⟨hp.push { cls:=.type "tuple_iterator",data:=.fields #[.ref l1,.int 0 0] },g,d,tk,os⟩) l2 ys:=(Nr K).usk (fun o e=>QV _ e) e2
  wp_walk using iter_tuple t1,T4 t2
  exact ⟨_,rfl,h⟩
theorem Dj (K):zS (Nr K) (Nr K):=fun l1 l2 xs ys =>
 .of_wp fun prog w A R s h=>by
  obtain ⟨hp,g,d,tk,os⟩:=s
  obtain ⟨e1,e2,h⟩:=h
  have hsub:=PySem.sub_zip
  have t1:Heap.IsList (Ug ⟨hp,g,d,tk,os⟩) l1 xs:=e1
  have t2:Heap.IsList (Ug ⟨hp.push { cls:=.type "list_iterator",data:=.fields #[.ref l1,.int 0 0] },g,d,tk,os⟩) l2 ys:=(Nr K).usk (fun o e=>QV _ e) e2
  wp_walk using T4 t1,T4 t2
  exact ⟨_,rfl,h⟩
section
variable {K:QM}
theorem zT (M:zS B C) (e1:B.us s.heap l1 xs) (e2:C.us s.heap l2 ys)
 (h:∀ h',IsZip h' (s.heap.objs.size+4) (s.heap.objs.size+2) (s.heap.objs.size+3) .none→IsPair h' (s.heap.objs.size+2) (.ref s.heap.objs.size) (.ref (s.heap.objs.size+1)) →
   IsPair h' (s.heap.objs.size+3) .none .none→B.it h' s.heap.objs.size l1 0→C.it h' (s.heap.objs.size+1) l2 0 →
   (∀ c o,s.heap.get? c=some o→h'.get? c=some o)→Q (.ref (s.heap.objs.size+4)) { s with heap:=h' }):wpAny (model prog w) A (call (.type "zip") [.ref l1,.ref l2]) Q E s:=by
 refine callType_new F.called_zip (by decide) (F.typeCall_zip_2 _ _) (F.newCall_zip_2 _ _) (fun obj=>F.args_object_init_3 obj _ _) F.entry_zip_new (M l1 l2 xs ys) ⟨e1,e2,?_⟩
 have z1:(OI B.cl s.heap l1 l2).objs.size=s.heap.objs.size+1:=SD ..
 have z2:(Nt B.cl C.cl s.heap l1 l2).objs.size=s.heap.objs.size+2:=by rw [SD,z1]
 have z3:(OJ B.cl C.cl s.heap l1 l2).objs.size=s.heap.objs.size+3:=by rw [SD,z2]
 have z4:(OL B.cl C.cl s.heap l1 l2).objs.size=s.heap.objs.size+4:=by rw [SD,z3]
 have g5:(Il B.cl C.cl s.heap l1 l2).get? (OL B.cl C.cl s.heap l1 l2).objs.size=some _:=Q5 _ rfl
 have g4:(Il B.cl C.cl s.heap l1 l2).get? (OJ B.cl C.cl s.heap l1 l2).objs.size=some _:=QV _ (Q5 _ rfl)
 have g3:(Il B.cl C.cl s.heap l1 l2).get? (Nt B.cl C.cl s.heap l1 l2).objs.size=some _:=QV _ (QV _ (Q5 _ rfl))
 have g2:(Il B.cl C.cl s.heap l1 l2).get? (OI B.cl s.heap l1 l2).objs.size=some _:=QV _ (QV _ (QV _ (Q5 _ rfl)))
 have g1:(Il B.cl C.cl s.heap l1 l2).get? s.heap.objs.size=some _:=QV _ (QV _ (QV _ (QV _ (Q5 _ rfl))))
 have q:=h (Il B.cl C.cl s.heap l1 l2)
 rw [← z2,← z3,← z4] at q
 have pr:IsPair (Il B.cl C.cl s.heap l1 l2) (Nt B.cl C.cl s.heap l1 l2).objs.size (.ref s.heap.objs.size) (.ref (s.heap.objs.size+1)):=by rw [← z1]; exact g3
 refine ⟨⟨_,g5,rfl⟩,q g5 pr g4 (B.ini g1) (C.ini (by rw [← z1]; exact g2)) fun c o x=>QV _ (QV _ (QV _ (QV _ (QV _ x))))⟩
end
theorem apart_new {n l1 l2:Nat} (h1:l1<n) (h2:l2<n):ZipApart (n+4) (n+2) (n+3) n (n+1) l1 l2:=by
 constructor <;> first | exact Ri (by lia) | exact TH (by lia)
noncomputable def Nu {K:QM} (B C:ZS K) (ta:TA):TI:=fun σ H R=>ta σ H fun vs H1=>∃ l1 l2 xs ys,vs=[.ref l1,.ref l2]∧B.sq H1 l1 xs∧C.sq H1 l2 ys∧R (K5 B C l1 l2) H1
theorem GI {B C:ZS X.K} (M:zS B C) (hg:Gl X "zip") (hm:X.mg "zip"=none) (ha:PA X [a,b] ta) (hs:starEach [a,b] X.env=[(false,eval a X.env),(false,eval b X.env)]) (hs2:starEach [b] X.env=[(false,eval b X.env)]) :
 PI X (.Tuple elts kt tpos) (.Call (.Name "zip" p) [a,b] [] pos) (Nu B C ta):=by
 intro aa s σ H R I h
 refine Call_ (cX I hg hm EV.boot_zip (Uo (bD (ha pos aa s σ H _ I h) fun us s1 ⟨vs,H1,I1,r1,q1⟩=>?_) (by rw [hs,hs2]) (by rw [hs2]; rfl)))
 obtain ⟨l1,l2,xs,ys,e,q1,q2,q⟩:=q1
 subst e
 cases r1 with
 | cons r rr =>
  cases rr with
  | cons r' rr =>
   cases rr
   cases r
   cases r'
   obtain ⟨Ox,OP,p1⟩:=B.get rfl I1 q1
   obtain ⟨its2,OQ,p2⟩:=C.get rfl I1 q2
   have b1:l1<s1.heap.objs.size:=by obtain ⟨_,e⟩:=B.uso p1; exact QX e
   have b2:l2<s1.heap.objs.size:=by obtain ⟨_,e⟩:=C.uso p2; exact QX e
   refine zT M p1 p2 fun h' a1 a2 a3 a4 a5 hk=>wpAny_pyIter_zip a1 ?_
   refine ⟨s1.heap.objs.size+4,[s1.heap.objs.size+4,s1.heap.objs.size+2,s1.heap.objs.size+3,s1.heap.objs.size,s1.heap.objs.size+1],_,_,H1,rfl,I1.kept (t':=s1.toks) hk,zQ (apart_new b1 b2),⟨a1,a2,⟨_,_,a3⟩,a4,a5⟩,fun b hb=>?_,q⟩
   have hb':s1.heap.objs.size≤b:=by
    simp only [Q0,RP,or_false] at hb
    rcases hb with rfl | rfl | rfl | rfl | rfl
    ·exact Tp _ _
    ·exact Tp _ _
    ·exact Tp _ _
    ·exact QS _
    ·exact Tp _ _
   exact I1.nR hb' (I1.hok.fresh hb')
section
variable {K:QM} {c:Ctx P w K mg base k N sc bk}
theorem vJ {B C:ZS c.X.K} (M:zS B C) (hm:mg "zip"=none) (h:aH c a ρ fun x=>aH c b ρ fun y=>∃ ds es,x=B.dm ds∧y=C.dm es∧R (mO ds es)) (hg:sc.names.lookup (QK "zip")=some .globalImplicit:=by walk_at "u")
 (hs:∀ env,starEach [a,b] env=(false,eval a env)::starEach [b] env:=by intro _; walk_at "u") (hs2:∀ env,starEach [b] env=(false,eval b env)::starEach [] env:=by intro _; walk_at "u"):yO c (.Tuple elts kt tpos) (.Call (.Name "zip" p) [a,b] [] pos) ρ R:=fun σ H Hf Q S q aa s I =>
 GI M (by unfold Gl Rz; rw [c.esc]; exact hg) (by rw [c.emg]; exact hm) (bL cW (bL cW cY (hs2 _)) (hs _)) (by rw [hs,hs2]; rfl) (by rw [hs2]; rfl) aa s σ H Q I
  (h σ H Hf _ S fun x v1 H1 aP h1 r1 g1=>h1 σ H1 aP _ (S.cE g1) fun y v2 H2 cK ⟨ds,es,e1,e2,hR⟩ r2 g2=>by
    subst e1 e2
    rw [B.rep] at r1
    rw [C.rep] at r2
    obtain ⟨l1,xs,rfl,s1,t1⟩:=r1
    obtain ⟨l2,ys,rfl,s2,t2⟩:=r2
    have s1':=B.same g2.f s1
    exact ⟨l1,l2,xs,ys,rfl,B.same g2.b s1',C.same g2.b s2,q _ _ H2 cK hR (g1.trans g2) (zR s1' (t1.mono g2.f) s2 t2)⟩)
theorem K6 (hm:mg "zip"=none) (h:aH c a ρ fun x=>aH c b ρ fun y=>∃ ds es,x=.tup ds∧y=.tup es∧R (mO ds es)) (hg:sc.names.lookup (QK "zip")=some .globalImplicit:=by walk_at "u")
 (hs:∀ env,starEach [a,b] env=(false,eval a env)::starEach [b] env:=by intro _; walk_at "u") (hs2:∀ env,starEach [b] env=(false,eval b env)::starEach [] env:=by intro _; walk_at "u"):yO c (.Tuple elts kt tpos) (.Call (.Name "zip" p) [a,b] [] pos) ρ R:=vJ (Dh _) hm h hg hs hs2
theorem K7 (hm:mg "zip"=none) (h:aH c a ρ fun x=>aH c b ρ fun y=>∃ ds es,x=.tup ds∧y=.lst es∧R (mO ds es)) (hg:sc.names.lookup (QK "zip")=some .globalImplicit:=by walk_at "u")
 (hs:∀ env,starEach [a,b] env=(false,eval a env)::starEach [b] env:=by intro _; walk_at "u") (hs2:∀ env,starEach [b] env=(false,eval b env)::starEach [] env:=by intro _; walk_at "u"):yO c (.Tuple elts kt tpos) (.Call (.Name "zip" p) [a,b] [] pos) ρ R:=vJ (Di _) hm h hg hs hs2
theorem Nv (hm:mg "zip"=none) (h:aH c a ρ fun x=>aH c b ρ fun y=>∃ ds es,x=.lst ds∧y=.lst es∧R (mO ds es)) (hg:sc.names.lookup (QK "zip")=some .globalImplicit:=by walk_at "u")
 (hs:∀ env,starEach [a,b] env=(false,eval a env)::starEach [b] env:=by intro _; walk_at "u") (hs2:∀ env,starEach [b] env=(false,eval b env)::starEach [] env:=by intro _; walk_at "u"):yO c (.Tuple elts kt tpos) (.Call (.Name "zip" p) [a,b] [] pos) ρ R:=vJ (Dj _) hm h hg hs hs2
end
end EV
namespace EV
open PySem PySem.Spec PyProof.Rows L2
theorem GJ {K:QM} {st:Stmt} (m:mg x=some (.ref f)) (Fu:dR K x x st f fd) (h:bf P w K mg base (cO P w) k f fd ps (LQ K ok))
 (hb:∀ (kV doc pm:Value) (an:Option Addr) (cdv ct:Value) (us:List Value),us.length=ps.length→bindArgs (SW x x (eX st) (aq st) (af st) .none kV doc pm an cdv ct) ⟨us,[]⟩=pure (ps.zip us)):CT P w K mg base k x ok :=
 ⟨f,fd,ps,m,Fu.kp,Fu.binds hb,h⟩
end EV
namespace My
open PySem PySem.Spec PyProof.Rows L2 EV
noncomputable abbrev top (i:Nat):Stmt:=PySem.Challenge.pw_everydraw_k12_raw_rules_of_points.main.body.getD i (.Pass ⟨0,0,0,0⟩)
noncomputable abbrev iO:=top 2
theorem vK:aB ["powers","end"] ["powers"] (af iO):=⟨rfl,rfl,rfl,by decide +kernel,rfl,by decide +kernel,by decide +kernel⟩
theorem vL:∀ x∈(["powers","end"]:List Str),L2.Loc (af iO) x:=by unfold L2.Loc; decide +kernel
noncomputable abbrev cJ:=top 3
theorem iP:aB ["some","greatest","powers","number","k","power"] ["some"] (af cJ):=⟨rfl,rfl,rfl,by decide +kernel,rfl,by decide +kernel,by decide +kernel⟩
theorem iQ:∀ x∈(["some","greatest","powers","number","k","power"]:List Str),L2.Loc (af cJ) x:=by unfold L2.Loc; decide +kernel
noncomputable abbrev j3:=top 4
theorem zU:aB ["powers","width","key","power"] ["powers","width"] (af j3):=⟨rfl,rfl,rfl,by decide +kernel,rfl,by decide +kernel,by decide +kernel⟩
theorem zV:∀ x∈(["powers","width","key","power"]:List Str),L2.Loc (af j3) x:=by unfold L2.Loc; decide +kernel
noncomputable abbrev fZ:=top 5
theorem qS:aB ["key","width","mask"] ["key","width"] (af fZ):=⟨rfl,rfl,rfl,by decide +kernel,rfl,by decide +kernel,by decide +kernel⟩
theorem qT:∀ x∈(["key","width","mask"]:List Str),L2.Loc (af fZ) x:=by unfold L2.Loc; decide +kernel
noncomputable abbrev j4:=top 6
theorem zW:aB ["some","width"] ["some","width"] (af j4):=⟨rfl,rfl,rfl,by decide +kernel,rfl,by decide +kernel,by decide +kernel⟩
theorem zX:∀ x∈(["some","width"]:List Str),L2.Loc (af j4) x:=by unfold L2.Loc; decide +kernel
noncomputable abbrev gI:=top 7
theorem uc:aB ["total","width"] ["total","width"] (af gI):=⟨rfl,rfl,rfl,by decide +kernel,rfl,by decide +kernel,by decide +kernel⟩
theorem ud:∀ x∈(["total","width"]:List Str),L2.Loc (af gI) x:=by unfold L2.Loc; decide +kernel
noncomputable abbrev dN:=top 8
theorem kP:aB ["total","left","right","key","number","shift","part","whole"] ["total","left","right"] (af dN):=⟨rfl,rfl,rfl,by decide +kernel,rfl,by decide +kernel,by decide +kernel⟩
theorem kQ:∀ x∈(["total","left","right","key","number","shift","part","whole"]:List Str),L2.Loc (af dN) x:=by unfold L2.Loc; decide +kernel
noncomputable abbrev gJ:=top 10
theorem ue:aB ["parts","most","part"] ["parts"] (af gJ):=⟨rfl,rfl,rfl,by decide +kernel,rfl,by decide +kernel,by decide +kernel⟩
theorem uf:∀ x∈(["parts","most","part"]:List Str),L2.Loc (af gJ) x:=by unfold L2.Loc; decide +kernel
noncomputable abbrev gK:=top 11
theorem ug:aB ["whole","part","width","factors","left","right","product"] ["whole","part","width"] (af gK):=⟨rfl,rfl,rfl,by decide +kernel,rfl,by decide +kernel,by decide +kernel⟩
theorem uh:∀ x∈(["whole","part","width","factors","left","right","product"]:List Str),L2.Loc (af gK) x:=by unfold L2.Loc; decide +kernel
noncomputable abbrev fj:=top 12
theorem oi:aB ["parts","width","whole","part"] ["parts"] (af fj):=⟨rfl,rfl,rfl,by decide +kernel,rfl,by decide +kernel,by decide +kernel⟩
theorem oj:∀ x∈(["parts","width","whole","part"]:List Str),L2.Loc (af fj) x:=by unfold L2.Loc; decide +kernel
noncomputable abbrev f9:=top 13
theorem qU:aB ["k"] ["k"] (af f9):=⟨rfl,rfl,rfl,by decide +kernel,rfl,by decide +kernel,by decide +kernel⟩
theorem qV:∀ x∈(["k"]:List Str),L2.Loc (af f9) x:=by unfold L2.Loc; decide +kernel
noncomputable abbrev c9:=top 14
theorem j5:aB ["total","f"] ["total","f"] (af c9):=⟨rfl,rfl,rfl,by decide +kernel,rfl,by decide +kernel,by decide +kernel⟩
theorem j6:∀ x∈(["total","f"]:List Str),L2.Loc (af c9) x:=by unfold L2.Loc; decide +kernel
noncomputable abbrev eG:=top 16
theorem nc:aB ["total","i","j"] ["total","i","j"] (af eG):=⟨rfl,rfl,rfl,by decide +kernel,rfl,by decide +kernel,by decide +kernel⟩
theorem ng:∀ x∈(["total","i","j"]:List Str),L2.Loc (af eG) x:=by unfold L2.Loc; decide +kernel
noncomputable abbrev gc:=top 18
theorem qW:aB ["total","f","g"] ["total","f","g"] (af gc):=⟨rfl,rfl,rfl,by decide +kernel,rfl,by decide +kernel,by decide +kernel⟩
theorem qX:∀ x∈(["total","f","g"]:List Str),L2.Loc (af gc) x:=by unfold L2.Loc; decide +kernel
noncomputable abbrev gh:=top 19
theorem qY:aB ["total","i","j","f","way"] ["total","i","j","f"] (af gh):=⟨rfl,rfl,rfl,by decide +kernel,rfl,by decide +kernel,by decide +kernel⟩
theorem qZ:∀ x∈(["total","i","j","f","way"]:List Str),L2.Loc (af gh) x:=by unfold L2.Loc; decide +kernel
noncomputable abbrev fk:=top 20
theorem om:aB ["u","v"] ["u","v"] (af fk):=⟨rfl,rfl,rfl,by decide +kernel,rfl,by decide +kernel,by decide +kernel⟩
theorem oq:∀ x∈(["u","v"]:List Str),L2.Loc (af fk) x:=by unfold L2.Loc; decide +kernel
noncomputable abbrev fm:=top 21
theorem ou:aB ["f","g"] ["f","g"] (af fm):=⟨rfl,rfl,rfl,by decide +kernel,rfl,by decide +kernel,by decide +kernel⟩
theorem oA:∀ x∈(["f","g"]:List Str),L2.Loc (af fm) x:=by unfold L2.Loc; decide +kernel
noncomputable abbrev eO:=top 22
theorem nh:aB ["i","j","t"] ["i","j","t"] (af eO):=⟨rfl,rfl,rfl,by decide +kernel,rfl,by decide +kernel,by decide +kernel⟩
theorem ni:∀ x∈(["i","j","t"]:List Str),L2.Loc (af eO) x:=by unfold L2.Loc; decide +kernel
noncomputable abbrev fu:=top 23
theorem oB:aB ["i","j","f"] ["i","j","f"] (af fu):=⟨rfl,rfl,rfl,by decide +kernel,rfl,by decide +kernel,by decide +kernel⟩
theorem oE:∀ x∈(["i","j","f"]:List Str),L2.Loc (af fu) x:=by unfold L2.Loc; decide +kernel
noncomputable abbrev iR:=top 25
theorem vM:aB ["_law_found"] ["_law_found"] (af iR):=⟨rfl,rfl,rfl,by decide +kernel,rfl,by decide +kernel,by decide +kernel⟩
theorem vN:∀ x∈(["_law_found"]:List Str),L2.Loc (af iR) x:=by unfold L2.Loc; decide +kernel
noncomputable abbrev j7:=top 26
theorem zY:aB ["_law_script","_law_k"] ["_law_script","_law_k"] (af j7):=⟨rfl,rfl,rfl,by decide +kernel,rfl,by decide +kernel,by decide +kernel⟩
theorem zZ:∀ x∈(["_law_script","_law_k"]:List Str),L2.Loc (af j7) x:=by unfold L2.Loc; decide +kernel
noncomputable abbrev iS:=top 27
theorem vO:aB ["_law_cell_here","_law_k","_law_many","_law_number"] ["_law_cell_here","_law_k","_law_many"] (af iS):=⟨rfl,rfl,rfl,by decide +kernel,rfl,by decide +kernel,by decide +kernel⟩
theorem vP:∀ x∈(["_law_cell_here","_law_k","_law_many","_law_number"]:List Str),L2.Loc (af iS) x:=by unfold L2.Loc; decide +kernel
noncomputable abbrev gi:=top 28
theorem q8:aB ["_law_powers","_law_found"] ["_law_powers"] (af gi):=⟨rfl,rfl,rfl,by decide +kernel,rfl,by decide +kernel,by decide +kernel⟩
theorem q9:∀ x∈(["_law_powers","_law_found"]:List Str),L2.Loc (af gi) x:=by unfold L2.Loc; decide +kernel
noncomputable abbrev nj:=top 29
theorem Dk:aB ["_law_terms","_law_counts","_law_powers","_law_number","_law_short"] ["_law_terms"] (af nj):=⟨rfl,rfl,rfl,by decide +kernel,rfl,by decide +kernel,by decide +kernel⟩
theorem Dl:∀ x∈(["_law_terms","_law_counts","_law_powers","_law_number","_law_short"]:List Str),L2.Loc (af nj) x:=by unfold L2.Loc; decide +kernel
noncomputable abbrev gj:=top 30
theorem rg:aB ["_law_one","_law_other","_law_terms","_law_left","_law_first","_law_right","_law_second","_law_wide","_law_powers"] ["_law_one","_law_other"] (af gj):=⟨rfl,rfl,rfl,by decide +kernel,rfl,by decide +kernel,by decide +kernel⟩
theorem ri:∀ x∈(["_law_one","_law_other","_law_terms","_law_left","_law_first","_law_right","_law_second","_law_wide","_law_powers"]:List Str),L2.Loc (af gj) x:=by unfold L2.Loc; decide +kernel
noncomputable abbrev j8:=top 31
theorem z0:aB ["_law_found","_law_due","_law_one","_law_other"] ["_law_found","_law_due"] (af j8):=⟨rfl,rfl,rfl,by decide +kernel,rfl,by decide +kernel,by decide +kernel⟩
theorem Aa:∀ x∈(["_law_found","_law_due","_law_one","_law_other"]:List Str),L2.Loc (af j8) x:=by unfold L2.Loc; decide +kernel
noncomputable abbrev j9:=top 32
theorem Ab:aB ["_law_one","_law_other"] ["_law_one","_law_other"] (af j9):=⟨rfl,rfl,rfl,by decide +kernel,rfl,by decide +kernel,by decide +kernel⟩
theorem Ac:∀ x∈(["_law_one","_law_other"]:List Str),L2.Loc (af j9) x:=by unfold L2.Loc; decide +kernel
noncomputable abbrev gM:=top 33
theorem um:aB ["_law_some","_law_many"] ["_law_some","_law_many"] (af gM):=⟨rfl,rfl,rfl,by decide +kernel,rfl,by decide +kernel,by decide +kernel⟩
theorem uo:∀ x∈(["_law_some","_law_many"]:List Str),L2.Loc (af gM) x:=by unfold L2.Loc; decide +kernel
noncomputable abbrev iT:=top 34
theorem vQ:aB ["_law_cells","_law_offset","_law_found","_law_k","_law_terms","_law_cell_here"] ["_law_cells","_law_offset"] (af iT):=⟨rfl,rfl,rfl,by decide +kernel,rfl,by decide +kernel,by decide +kernel⟩
theorem vR:∀ x∈(["_law_cells","_law_offset","_law_found","_law_k","_law_terms","_law_cell_here"]:List Str),L2.Loc (af iT) x:=by unfold L2.Loc; decide +kernel
noncomputable abbrev dO:=top 35
theorem kR:aB ["_law_cell_here","_law_rest","_law_powers","_law_k"] ["_law_cell_here"] (af dO):=⟨rfl,rfl,rfl,by decide +kernel,rfl,by decide +kernel,by decide +kernel⟩
theorem kT:∀ x∈(["_law_cell_here","_law_rest","_law_powers","_law_k"]:List Str),L2.Loc (af dO) x:=by unfold L2.Loc; decide +kernel
noncomputable abbrev dP:=top 36
theorem kU:aB ["_law_found","_law_due"] ["_law_found","_law_due"] (af dP):=⟨rfl,rfl,rfl,by decide +kernel,rfl,by decide +kernel,by decide +kernel⟩
theorem kW:∀ x∈(["_law_found","_law_due"]:List Str),L2.Loc (af dP) x:=by unfold L2.Loc; decide +kernel
noncomputable abbrev kc:=top 37
theorem Ad:aB ["_law_some"] ["_law_some"] (af kc):=⟨rfl,rfl,rfl,by decide +kernel,rfl,by decide +kernel,by decide +kernel⟩
theorem Ae:∀ x∈(["_law_some"]:List Str),L2.Loc (af kc) x:=by unfold L2.Loc; decide +kernel
noncomputable abbrev iU:=top 38
theorem vS:aB ["_law_found","_law_terms"] ["_law_found"] (af iU):=⟨rfl,rfl,rfl,by decide +kernel,rfl,by decide +kernel,by decide +kernel⟩
theorem vU:∀ x∈(["_law_found","_law_terms"]:List Str),L2.Loc (af iU) x:=by unfold L2.Loc; decide +kernel
noncomputable abbrev fy:=top 39
theorem oF:aB ["_law_top","_law_bottom","_law_one","_law_other"] ["_law_top","_law_bottom"] (af fy):=⟨rfl,rfl,rfl,by decide +kernel,rfl,by decide +kernel,by decide +kernel⟩
theorem oG:∀ x∈(["_law_top","_law_bottom","_law_one","_law_other"]:List Str),L2.Loc (af fy) x:=by unfold L2.Loc; decide +kernel
noncomputable abbrev nk:=top 40
theorem Dm:aB ["_law_i","_law_j","_law_first"] ["_law_i","_law_j"] (af nk):=⟨rfl,rfl,rfl,by decide +kernel,rfl,by decide +kernel,by decide +kernel⟩
theorem Dn:∀ x∈(["_law_i","_law_j","_law_first"]:List Str),L2.Loc (af nk) x:=by unfold L2.Loc; decide +kernel
noncomputable abbrev iV:=top 41
theorem vV:aB ["_law_i","_law_j","_law_t","_law_free","_law_stretch","_law_found","_law_k"] ["_law_i","_law_j","_law_t"] (af iV):=⟨rfl,rfl,rfl,by decide +kernel,rfl,by decide +kernel,by decide +kernel⟩
theorem vW:∀ x∈(["_law_i","_law_j","_law_t","_law_free","_law_stretch","_law_found","_law_k"]:List Str),L2.Loc (af iV) x:=by unfold L2.Loc; decide +kernel
noncomputable abbrev kg:=top 42
theorem Af:aB ["_law_i","_law_j","_law_f","_law_stretch","_law_found","_law_k","_law_start"] ["_law_i","_law_j","_law_f"] (af kg):=⟨rfl,rfl,rfl,by decide +kernel,rfl,by decide +kernel,by decide +kernel⟩
theorem Ag:∀ x∈(["_law_i","_law_j","_law_f","_law_stretch","_law_found","_law_k","_law_start"]:List Str),L2.Loc (af kg) x:=by unfold L2.Loc; decide +kernel
noncomputable abbrev eS:=top 43
theorem nv:aB ["_law_i","_law_j","_law_t","_law_f","_law_handed","_law_k","_law_found"] ["_law_i","_law_j","_law_t","_law_f"] (af eS):=⟨rfl,rfl,rfl,by decide +kernel,rfl,by decide +kernel,by decide +kernel⟩
theorem ny:∀ x∈(["_law_i","_law_j","_law_t","_law_f","_law_handed","_law_k","_law_found"]:List Str),L2.Loc (af eS) x:=by unfold L2.Loc; decide +kernel
noncomputable abbrev eT:=top 44
theorem nC:aB ["_law_f","_law_g","_law_u","_law_v","_law_k","_law_found","_law_due"] ["_law_f","_law_g","_law_u","_law_v"] (af eT):=⟨rfl,rfl,rfl,by decide +kernel,rfl,by decide +kernel,by decide +kernel⟩
theorem nD:∀ x∈(["_law_f","_law_g","_law_u","_law_v","_law_k","_law_found","_law_due"]:List Str),L2.Loc (af eT) x:=by unfold L2.Loc; decide +kernel
noncomputable abbrev vX:=top 45
theorem K8:aB ["_law_script","_law_cells","_law_i","_law_j","_law_kind","_law_one","_law_other","_law_f","_law_g","_law_u"] ["_law_script"] (af vX):=⟨rfl,rfl,rfl,by decide +kernel,rfl,by decide +kernel,by decide +kernel⟩
theorem K9:∀ x∈(["_law_script","_law_cells","_law_i","_law_j","_law_kind","_law_one","_law_other","_law_f","_law_g","_law_u"]:List Str),L2.Loc (af vX) x:=by unfold L2.Loc; decide +kernel
local macro_rules | `(tactic| walk_at "side")=> `(tactic| first | omega | assumption | exact jP | exact fK (Uv rfl) | exact Bh (by decide) (by decide +kernel) | (show yC _ _; exact ⟨by decide,by decide,by decide +kernel⟩))
local macro_rules | `(tactic| walk_at "at")=> `(tactic| with_reducible (repeat (first | exact At.z | apply At.s)))
local macro_rules | `(tactic| walk_at "sset")=> `(tactic| with_reducible (repeat (first | exact SSet.z | apply SSet.s)))
local macro_rules | `(tactic| walk_at "atI")=> `(tactic| first | assumption | rfl)
local macro_rules | `(tactic| walk_at "own")=> `(tactic| walk_at "u")
local macro_rules | `(tactic| walk_at "evSs")=> `(tactic| first
 | with_reducible refine aY ?_
 | with_reducible refine uZ ?_)
local macro_rules | `(tactic| walk_at "evS")=> `(tactic| first
 | ((with_reducible show fH _ (Wb [Rh _ _] _ _) _ _ _); with_reducible refine HE (by walk_at "at") ?_)
 | ((with_reducible show fH _ (Stmt.If _ _ _ _) _ _ _); walk_at "evIf")
 | ((with_reducible show fH _ (Stmt.Expr _ _) _ _ _); walk_at "evXp")
 | ((with_reducible show fH _ (Stmt.Return (some (Rh _ _)) _) _ _ _); with_reducible refine Bg (by walk_at "at") (by walk_at "at") rfl ?_)
 | ((with_reducible show fH _ (Stmt.Return (some _) _) _ _ _); with_reducible refine eY ?_)
 | ((with_reducible show fH _ (Stmt.Return none _) _ _ _); with_reducible refine s_retN ?_)
 | ((with_reducible show fH _ (VV (Rh _ _) V7 _ _) _ _ _); with_reducible refine s_addq (by walk_at "at") (by walk_at "at") ?_)
 | ((with_reducible show fH _ (VV (Rh _ _) Operator.Sub _ _) _ _ _); with_reducible refine JM (by walk_at "at") (by walk_at "at") ?_)
 | ((with_reducible show fH _ (VV (Tv (Rh _ _) _ _) V7 _ _) _ _ _); with_reducible refine xg (by walk_at "at") (by walk_at "at") ?_)
 | ((with_reducible show fH _ (Wb [UL [Rh _ _,Rh _ _] _ _] (UL [_,_] _ _) _) _ _ _); with_reducible refine MU (by walk_at "at") (by walk_at "at") (by decide) ?_)
 | ((with_reducible show fH _ (Wb [UL _ _ _] _ _) _ _ _); with_reducible refine s_asg ?_)
 | ((with_reducible show fH _ (Wb [Tv (Rh _ _) _ _] _ _) _ _ _); walk_at "evPut")
 | with_reducible refine s_break ?_
 | with_reducible refine s_continue ?_
 | with_reducible refine s_pass ?_)
local macro_rules | `(tactic| walk_at "evIf")=> `(tactic| with_reducible refine Fw ?_)
local macro_rules | `(tactic| walk_at "evXp")=> `(tactic| with_reducible refine BG (by walk_at "at") (by walk_at "at") (by walk_at "own") ?_)
local macro_rules | `(tactic| walk_at "evPut")=> `(tactic| with_reducible refine J1 (by walk_at "at") (by walk_at "at") ?_ (ho:=by walk_at "own"))
local macro_rules | `(tactic| walk_at "evK")=> `(tactic| first
 | with_reducible refine MB ?_
 | with_reducible refine Pw ?_
 | with_reducible refine e_non ?_
 | with_reducible refine e_str ?_)
local macro_rules | `(tactic| walk_at "evCm")=> `(tactic| first
 | with_reducible refine e_isN ?_
 | with_reducible refine e_notN ?_
 | with_reducible refine e_lt ?_
 | with_reducible refine PJ ?_
 | with_reducible refine e_ne ?_)
local macro_rules | `(tactic| walk_at "evIx")=> `(tactic| first
 | ((with_reducible show aH _ (Tv _ (Expr.Slice _ _ _ _) _) _ _); with_reducible refine BB ?_)
 | ((with_reducible show aH _ (Tv (Rh _ _) _ _) _ _); with_reducible refine M7 (by walk_at "at") (by walk_at "at") (by walk_at "own") (by walk_at "sset") ?_ (by walk_at "at"))
 | ((with_reducible show aH _ (Tv (Rh _ _) _ _) _ _); with_reducible refine e_dix (by walk_at "at") (by walk_at "at") ?_)
 | with_reducible refine M4 ?_)
local macro_rules | `(tactic| walk_at "evBo")=> `(tactic| first
 | with_reducible refine JW ?_
 | with_reducible refine MF ?_
 | with_reducible refine MG ?_
 | with_reducible refine MH ?_
 | with_reducible refine JJ ?_
 | with_reducible refine MI ?_)
local macro_rules | `(tactic| walk_at "evCa")=> `(tactic| first
 | ((with_reducible show aH _ (RK (Expr.Attribute _ _ _) _ _ _) _ _); walk_at "evMt")
 | ((with_reducible show aH _ (RK (Rh "isinstance" _) _ _ _) _ _); first
  | with_reducible refine qp (Txt.isin (by assumption)) (Txt.M8 (by assumption)) ?_
  | with_reducible refine qp (Txt.isin (by assumption)) (Txt.FO (by assumption)) ?_
  | with_reducible refine qp (Txt.isin (by assumption)) (Txt.J7 (by assumption)) ?_
  | with_reducible refine qp (Txt.isin (by assumption)) (Txt.J6 (by assumption)) ?_)
 | ((with_reducible show aH _ (RK (Rh "len" _) _ _ _) _ _); first
  | ((with_reducible show aH _ (RK _ [Rh _ _] _ _) _ _); with_reducible refine J4 (Txt.len (by assumption)) (by walk_at "at") (by walk_at "at") (by walk_at "own") (by walk_at "sset") ?_)
  | with_reducible refine e_len (Txt.len (by assumption)) ?_)
 | ((with_reducible show aH _ (RK (Rh "tuple" _) _ _ _) _ _); first
  | ((with_reducible show aH _ (RK _ [Rh _ _] _ _) _ _); with_reducible refine BN (Txt.tuple (by assumption)) (by walk_at "at") (by walk_at "at") (by walk_at "own") (by walk_at "sset") ?_)
  | with_reducible refine wY (Txt.tuple (by assumption)) ?_)
 | ((with_reducible show aH _ (RK (Rh "abs" _) _ _ _) _ _); with_reducible refine MY (Txt.abs (by assumption)) ?_)
 | ((with_reducible show aH _ (RK (Rh "int" _) _ _ _) _ _); with_reducible refine e_intB (Txt.int (by assumption)) ?_))
local macro_rules | `(tactic| walk_at "evMt")=> `(tactic| with_reducible refine J0 (by walk_at "at") (by walk_at "at") ?_ (ho:=by walk_at "own"))
local macro_rules | `(tactic| walk_at "evE")=> `(tactic| first
 | ((with_reducible show aH _ (Rh _ _) _ _); with_reducible refine ku (by walk_at "at") (by walk_at "at") ?_)
 | ((with_reducible show aH _ (Expr.Constant _ _ _) _ _); walk_at "evK")
 | ((with_reducible show aH _ (RK _ _ _ _) _ _); walk_at "evCa")
 | ((with_reducible show aH _ (Tv _ _ _) _ _); walk_at "evIx")
 | ((with_reducible show aH _ (Uj _ _ _ _) _ _); walk_at "evBo")
 | ((with_reducible show aH _ (Expr.Compare _ _ _ _) _ _); walk_at "evCm")
 | with_reducible refine MS ?_
 | with_reducible refine JX ?_
 | with_reducible refine MJ ?_
 | with_reducible refine MQ ?_
 | with_reducible refine MO ?_
 | with_reducible refine e_or ?_
 | with_reducible refine MN ?_
 | with_reducible refine Fv ?_)
local macro_rules | `(tactic| walk_at "evX")=> `(tactic| first
 | ((with_reducible show dz _ (Expr.List _ _) _ _); with_reducible refine HD ?_)
 | ((with_reducible show dz _ (RK _ _ _ _) _ _); walk_at "evXC")
 | ((with_reducible show dz _ (Uj _ V7 _ _) _ _); with_reducible refine HG ?_)
 | ((with_reducible show dz _ (Tv _ (Expr.Slice _ _ _ _) _) _ _); with_reducible refine wZ ?_)
 | with_reducible refine MA ?_)
local macro_rules | `(tactic| walk_at "evXC")=> `(tactic| first
 | ((with_reducible show dz _ (RK (Rh "list" _) _ _ _) _ _); first
  | ((with_reducible show dz _ (RK _ [Rh _ _] _ _) _ _); with_reducible refine x_listO (Txt.list (by assumption)) (by walk_at "at") (by walk_at "at") (by walk_at "own") (by walk_at "sset") ?_)
  | with_reducible refine Br (Txt.list (by assumption)) ?_)
 | with_reducible refine MA ?_)
local macro_rules | `(tactic| walk_at "evT")=> `(tactic| first
 | ((with_reducible show jL _ (Expr.Compare _ _ _ _) _ _); first
  | with_reducible refine t_isN ?_
  | with_reducible refine t_notN ?_
  | with_reducible refine PF ?_
  | with_reducible refine PD ?_
  | with_reducible refine Px ?_
  | with_reducible refine t_le ?_
  | with_reducible refine Py ?_
  | with_reducible refine t_ge ?_
  | with_reducible refine HL (by walk_at "at") (by walk_at "at") ?_
  | with_reducible refine t_dnotin (by walk_at "at") (by walk_at "at") ?_)
 | with_reducible refine MM ?_
 | with_reducible refine Qk (w_and ?_)
 | with_reducible refine Qk (w_or ?_)
 | with_reducible refine MR ?_)
local macro_rules | `(tactic| walk_at "evW")=> `(tactic| first
 | with_reducible refine w_and ?_
 | with_reducible refine w_or ?_
 | with_reducible refine JK ?_
 | with_reducible refine ML ?_)
local macro_rules | `(tactic| walk_at "evG")=> `(tactic| first
 | ((with_reducible show nX _ (Rh _ _) _ _ _); with_reducible refine dJ (by walk_at "at") ?_)
 | with_reducible refine MT rfl (by walk_at "u") ?_)
local macro_rules | `(tactic| walk_at "evGs")=> `(tactic| first
 | with_reducible refine JL ?_
 | ((with_reducible show yI _ (_::_) _ _ _); with_reducible refine Fx (by walk_at "at") ?_))
local macro_rules | `(tactic| walk_at "evL")=> `(tactic| first
 | ((with_reducible show Nx _ _ _ _); with_reducible refine wR (by walk_at "sset") ?_)
 | ((with_reducible show Sd _ _); first | with_reducible refine Sd.mk (by walk_at "side") ?_ | with_reducible refine Sd.mk ?_ ?_)
 | ((with_reducible show n5 _ _ _); first
  | with_reducible refine MD ?_
  | with_reducible refine ME ?_
  | with_reducible refine Fg ?_
  | with_reducible refine Ff (fun h=>?_) (fun h=>?_)
  | with_reducible refine if2 (fun h=>?_) (fun h=>?_))
 | with_reducible refine i2 ?_
 | with_reducible refine i1 ?_
 | with_reducible refine b1 ?_
 | ((with_reducible show Ba _ _ _); first
  | with_reducible refine Fi ?_
  | with_reducible refine eqp_bl ?_
  | with_reducible refine eqp_str ?_)
 | ((with_reducible show lX _ _ _); first
  | with_reducible refine BC ?_
  | with_reducible refine BD ?_
  | with_reducible refine BE ?_)
 | ((with_reducible show HA _ _); first
  | with_reducible refine HH ?_
  | with_reducible refine d8 ?_)
 | ((with_reducible show IsN _ _); first
  | with_reducible refine isn_t ?_
  | with_reducible refine isn_f (by intro q; cases q) ?_)
 | ((with_reducible show LN _ _ _); first
  | refine r9 (by rfl) ?_
  | refine o9 (by rfl) ?_)
 | ((with_reducible show JU _ _ _ _); first
  | with_reducible refine EV.JU.lst ?_
  | with_reducible refine EV.JU.tup ?_)
 | ((with_reducible show ∃ ys,D.row _=some ys∧_); refine M5 (by rfl) ?_)
 | ((with_reducible show ∃ t b,yL _ _ t∧_); first
  | with_reducible refine JY .int J8 ?_
  | with_reducible refine JY .int (Txt.ib (by assumption)) ?_
  | with_reducible refine JY .bl kit_bb ?_
  | with_reducible refine JY .lst Ka ?_
  | with_reducible refine JY .tup J9 ?_)
 | ((with_reducible show ∃ j d,D.int _=D.int j∧_); refine ⟨_,_,rfl,(by walk_at "atI"),?_⟩)
 | ((with_reducible show ∃ r,_∧JN _ _ _ r); walk_at "evR"))
local macro_rules | `(tactic| walk_at "ev1")=> `(tactic| first
 | ((with_reducible show aH _ _ _ _); walk_at "evE")
 | ((with_reducible show dz _ _ _ _); walk_at "evX")
 | ((with_reducible show jL _ _ _ _); walk_at "evT")
 | ((with_reducible show aN _ _ _ _ _); walk_at "evSs")
 | ((with_reducible show fH _ _ _ _ _); walk_at "evS")
 | ((with_reducible show r6 _ _ _ _); first | with_reducible refine bx ?_ | with_reducible refine fJ ?_)
 | ((with_reducible show HC _ _ _ _); walk_at "evW")
 | ((with_reducible show nX _ _ _ _ _); walk_at "evG")
 | ((with_reducible show yI _ _ _ _ _); walk_at "evGs")
 | ((with_reducible show EG _ _ _ _); first | with_reducible refine JS ?_ | with_reducible refine JT ?_)
 | walk_at "evL")
local macro_rules | `(tactic| walk_at "ev")=> `(tactic| repeat' (walk_at "ev1"))
section
variable {K:QM}
noncomputable def nE:Fn:=fun ds r=>∃ n:Int,ds=[.int n]∧r=.ok (.va (.bl true))
theorem GK (n):nE [.int n] (.ok (.va (.bl true))):=⟨n,rfl,rfl⟩
theorem Dp (Fu:dR K "_law_whole" "_law_whole" iR f fd) (T:Txt K mg):bf P w K mg base (cO P w) 1 f fd ["_law_found"] (dU K nE):=by
 refine ck Fu vM vN (by rintro ds r ⟨a,rfl,_⟩; rfl) (by rintro ds r ⟨a,_,rfl⟩; exact ⟨_,rfl⟩) fun c hq ds sl hF=>?_
 obtain ⟨a,rfl,e⟩:=hF
 injection e with e
 subst e
 show aN c _ [.va (.int a)] _ _
 conv in (aq _)=>whnf
 walk_at "ev"
 rfl
noncomputable def jC:Fn:=fun ds r=>∃ l:List Int,l.length≤64∧ds=[.tup (l.map .int)]∧r=.ok (.va (.tup ((trim l).map .int)))
theorem Dq (h:l.length≤64):jC [.tup (l.map .int)] (.ok (.va (.tup ((trim l).map .int)))):=⟨l,h,rfl,rfl⟩
theorem Dr {cl:List Int} {j:Int} (h0:0≤j) (h1:j<cl.length) (h:R (.int (cl.getD j.toNat 0))):LN (.tup (cl.map D.int)) (.int j) R:=by
 refine r9 ?_ h
 rw [ji h0 (by simpa using h1)]
 have hj:j.toNat<cl.length:=by lia
 simp [Q3,hj]
theorem GL (Fu:dR K "trimmed" "trimmed" iO f fd) (T:Txt K mg):bf P w K mg base (cO P w) 1 f fd ["powers"] (dU K jC):=by
 refine ck Fu vK vL (by rintro ds r ⟨a,_,rfl,_⟩; rfl) (by rintro ds r ⟨a,_,_,rfl⟩; exact ⟨_,rfl⟩) fun c hq ds sl hF=>?_
 obtain ⟨l,hl,rfl,e⟩:=hF
 injection e with e
 subst e
 show aN c _ [.va (.tup (l.map .int)),.un] _ _
 conv in (aq _)=>whnf
 walk_at "ev"
 with_reducible refine qo hq (fun m ρ'=>m≤l.length∧trim (l.take m)=trim l∧ρ'=[.va (.tup (l.map .int)),.va (.int (m:Int))]) (m₀:=l.length) ?_ ?_
 ·refine ⟨QS _,by rw [R9],?_⟩
  rw [QU]
 ·rintro m ρ' ⟨hm,ht,rfl⟩
  walk_at "ev"
  ·refine Dr (by lia) (by lia) ?_
   have hk:((m:Int) - 1).toNat=m - 1:=by lia
   rw [hk]
   have hm1:m - 1+1=m:=by lia
   walk_at "ev"
   ·exact ⟨m - 1,by lia,by lia,pR (by lia) (by assumption) (by rw [hm1]; exact ht),by rw [show ((m - 1:Nat):Int)=(m:Int) - 1 by lia]⟩
   ·show Sl.va _=Sl.va _
    rw [jh,Cn _ hm]
    have:=pS (l:=l) (m:=m - 1) (by lia) (by assumption) (by rw [hm1]; exact ht)
    rw [hm1] at this
    rw [this]
  ·show Sl.va _=Sl.va _
   have:m=0:=by lia
   subst this
   rw [jh,Cn _ hm,← ht]
   rfl
noncomputable def thing (a k m:Int):Int :=
 ((a % 2147483647 * 48271+69621 * k * k+7 * k) % 2147483629 * ((a % 2147483647 * 48271+69621 * k * k+7 * k) % 2147483629) % 2147483587) * ((a % 2147483647 * 48271+69621 * k * k+7 * k) % 2147483629 * ((a % 2147483647 * 48271+69621 * k * k+7 * k) % 2147483629) % 2147483587+48271) % 2147483563 % m
theorem jD (a k) (h:0<m):0≤thing a k m∧thing a k m<m:=⟨VR _ (by lia),WK _ h⟩
noncomputable def nF:Fn:=fun ds r=>∃ a k m:Int,0<m∧m.natAbs<2 ^ 63∧k.natAbs<2 ^ 40∧ds=[.int a,.int k,.int m]∧r=.ok (.va (.int (thing a k m)))
theorem GN (hm:0<m) (h2:m.natAbs<2 ^ 63) (hk:k.natAbs<2 ^ 40):nF [.int a,.int k,.int m] (.ok (.va (.int (thing a k m)))):=⟨a,k,m,hm,h2,hk,rfl,rfl⟩
theorem Ds (Fu:dR K "_law_thing" "_law_thing" iS f fd) (T:Txt K mg):bf P w K mg base (cO P w) 1 f fd ["_law_cell_here","_law_k","_law_many"] (dU K nF):=by
 refine ck Fu vO vP (by rintro ds r ⟨a,k,m,_,_,_,rfl,_⟩; rfl) (by rintro ds r ⟨a,k,m,_,_,_,_,rfl⟩; exact ⟨_,rfl⟩) fun c hq ds sl hF=>?_
 obtain ⟨a,k,m,hm,hm2,hk,rfl,e⟩:=hF
 injection e with e
 subst e
 show aN c _ [.va (.int a),.va (.int k),.va (.int m),.un] _ _
 conv in (aq _)=>whnf
 walk_at "ev"
 all_goals first
  | exact sH (by lia)
  | exact dv_few hm hm2
  | rfl
  | trace_state
theorem Dt {l:List Int} (h:m<l.length):kr ((l.take (m+1)).map D.int) (-1)=some (.int (l.getD m 0)):=by
 have hl:(l.take (m+1)).length=m+1:=by simp; lia
 rw [xr (by decide) (by simp only [QU,hl]; lia),QU,hl]
 have e:(-1+((m+1:Nat):Int)).toNat=m:=by lia
 rw [e,Q3,List.getElem?_take]
 simp [R3,h]
section
local macro_rules | `(tactic| walk_at "side")=> `(tactic| exact jf _)
local macro_rules | `(tactic| walk_at "evXp")=> `(tactic| ((with_reducible show fH _ (Stmt.Expr (RK _ [] _ _) _) _ _ _); with_reducible refine s_pop (by walk_at "at") (by walk_at "at") (by walk_at "own") ?_))
theorem Du (Fu:dR K "_law_trimmed" "_law_trimmed" gi f fd) (T:Txt K mg):bf P w K mg base (cO P w) 1 f fd ["_law_powers"] (dU K jC):=by
 refine ck Fu q8 q9 (by rintro ds r ⟨a,_,rfl,_⟩; rfl) (by rintro ds r ⟨a,_,_,rfl⟩; exact ⟨_,rfl⟩) fun c hq ds sl hF=>?_
 obtain ⟨l,hl,rfl,e⟩:=hF
 injection e with e
 subst e
 show aN c _ [.va (.tup (l.map .int)),.un] _ _
 conv in (aq _)=>whnf
 walk_at "ev"
 with_reducible refine qo hq (fun m ρ'=>m≤l.length∧trim (l.take m)=trim l∧ρ'=[.va (.tup (l.map .int)),.ow ((l.take m).map .int)]) (m₀:=l.length) ?_ ?_
 ·exact ⟨QS _,by rw [R9],by rw [R9]⟩
 ·rintro m ρ' ⟨hm,ht,rfl⟩
  have hL:((l.take m).map D.int).length=m:=by simp; lia
  walk_at "ev"
  ·rw [hL] at *
   obtain ⟨n,rfl⟩:∃ n,m=n+1:=⟨m - 1,by lia⟩
   refine ⟨_,_,rfl,Dt (by lia),?_⟩
   walk_at "ev"
   ·intro z; have z':=congrArg UI z; rw [QU,Rx,SS] at z'; lia
   ·refine ⟨n,by lia,by lia,pR (by lia) (by assumption) ht,?_⟩
    show [_,Sl.ow _]=_
    rw [jV (by lia),Ra,List.map_singleton,List.dropLast_concat]
   ·show Sl.va _=Sl.va _
    rw [pS (by lia) (by assumption) ht]
  ·show Sl.va _=Sl.va _
   have:m=0:=by rw [hL] at *; lia
   subst this
   rw [← ht]
   rfl
end
end
section
variable {K:QM}
theorem rm (x):(au x).nl:=qA (by unfold D.qz; exact ⟨qA (jf _),fT (f:=D.int) (l:=[x.2]) fun _ _=>jP⟩)
noncomputable def Dv (t:aL):Option D:=if t.2≠0 then some (au t) else none
theorem lF:∀ L:List aL,(L.map Dv).filterMap id=(nz L).map au
 | []=>rfl
 | t::L=>by
  unfold nz
  by_cases h:t.2=0
  ·simp only [QW,Dv,h,ne_eq,not_true,if_false,SQ,id,List.filter_cons,bne_self_eq_false,RO]
   exact lF L
  ·have hb:(t.2 != 0)=true:=by simpa using h
   rw [List.filter_cons,if_pos hb,QW,QW,SQ]
   simp only [Dv,ne_eq,h,not_false_eq_true,if_true,id]
   rw [lF L]; rfl
noncomputable def gq:Fn:=fun ds r=>∃ ts:List aL,ts.length≤20000∧(∀ t∈ts,t.1.length≤64)∧ds=[.lst (ts.map au)]∧r=.ok (.ow ((jr (nz (aV ts))).map au))
theorem kh (h:ts.length≤20000) (h2:∀ t∈ts,t.1.length≤64):gq [.lst (ts.map au)] (.ok (.ow ((jr (nz (aV ts))).map au))):=⟨ts,h,h2,rfl,rfl⟩
section
local macro_rules | `(tactic| walk_at "evX")=> `(tactic| first | ((with_reducible show dz _ (Expr.Dict _ _ _) _ _); with_reducible refine FH ?_))
local macro_rules | `(tactic| walk_at "evCa")=> `(tactic| first | with_reducible refine bz (F:=jC) (by assumption) (by decide) ?_)
local macro_rules | `(tactic| walk_at "evR")=> `(tactic| first | with_reducible refine aF (Dq ?_) ?_)
theorem GO (Fu:dR K "_law_sum" "_law_sum" nj f fd) (T:Txt K mg) (h1:bJ P w K mg base 1 "_law_trimmed" jC):bf P w K mg base (cO P w) 2 f fd ["_law_terms"] (dU K gq):=by
 refine ck Fu Dk Dl (by rintro ds r ⟨n,_,_,rfl,_⟩; rfl) (by rintro ds r ⟨n,_,_,_,rfl⟩; exact ⟨_,rfl⟩) fun c hq ds sl hF=>?_
 obtain ⟨ts,hl,hlen,rfl,e⟩:=hF
 injection e with e
 subst e
 show aN c _ [.va (.lst (ts.map au)),.un,.un,.un,.un] _ _
 conv in (aq _)=>whnf
 walk_at "ev"
 with_reducible refine cG hq (cL ?_)
 walk_at "ev"
 refine ⟨fun i ρ'=>∃ s2 s3 s4:Sl,ρ'=[.va (.lst (ts.map au)),.oT (encA (aV (ts.take i))),s2,s3,s4],⟨_,_,_,rfl⟩,?_,?_⟩
 ·rintro c' nP uJ uK i d ρ' hd ⟨s2,s3,s4,rfl⟩
  simp only [Q3,Q7] at hd
  obtain ⟨t,ht,rfl⟩:=hd
  obtain ⟨hi,rfl⟩:=Q2.mp ht
  have h6:=hlen _ (RI hi)
  have hsz:(aV (ts.take i)).length<sizeLine:=c8 (by have:=g6 (ts.take i); rw [Rx] at this; lia)
  show nX c' _ (D.tup [.tup (ts[i].1.map .int),.int ts[i].2]) _ _
  walk_at "ev"
  ·exact h6
  walk_at "ev"
  refine ⟨_,Kv (A:=aV (ts.take i)) rfl _,?_⟩
  rw [Cp]
  walk_at "ev"
  refine ⟨_,Kw hsz,?_⟩
  walk_at "ev"
  have e:aV (ts.take (i+1))=putD (aV (ts.take i)) (trim ts[i].1) ((bF (aV (ts.take i)) (trim ts[i].1)).getD 0+ts[i].2):=by
   rw [Sa hi,tH]; rfl
  show ∃ s2 s3 s4:Sl,_=[_,Sl.oT (encA (aV (ts.take (i+1)))),s2,s3,s4]
  rw [e]
  exact ⟨_,_,_,rfl⟩
 ·rintro ρ' ⟨s2,s3,s4,rfl⟩
  rw [QU,R9]
  have hn:=keys_nodup (fO ts)
  with_reducible refine aY ?_
  with_reducible refine eY ?_
  refine vn (Txt.sorted T) (e_x (vd 1 (by walk_at "at") (encK _) (by walk_at "sset") (d9 hq (N':=["_law_powers","_law_number"]) (ρ0:=fun _=>[.un,.un]) (fun t=>.un (.un .nil)) (FY ?_))))
  walk_at "ev"
  refine Kl (zg _) ⟨?_,(aV ts).map Dv,by simp,?_,?_⟩
  ·exact jA (by rw [QU]; have:=g6 ts; lia)
  ·intro c' hc t i d o hd ho
   simp only [Q3,Q7] at hd ho
   obtain ⟨x,hx,rfl⟩:=hd
   obtain ⟨x',hx',rfl⟩:=ho
   rw [hx] at hx'; cases hx'
   show nX c' _ (.tup [.tup (x.1.map .int),.int x.2]) _ _
   walk_at "ev"
   refine ⟨.un (.un .nil),?_⟩
   simp only [sE]
   walk_at "ev"
   all_goals first
    | (show Dv x=some (au x); unfold Dv; rw [if_pos (by assumption)])
    | (show Dv x=none; unfold Dv; rw [if_neg fun h=>h (by assumption)])
  ·rw [lF]
   refine ⟨fT fun x _=>rm x,d8 ⟨_,rfl,Wz _ hn,fun L' hp hs=>?_⟩⟩
   have eL:=vo (Wz _ hn) hp hs
   rw [eL]
   rfl
end
end
section
variable {K:QM}
theorem Dw (x y:aL):nZ [.tup (x.1.map .int),.int x.2] [.tup (y.1.map .int),.int y.2]:=fun i d e h1 h2=>by
 rcases i with _ | _ | i
 ·simp at h1 h2; subst h1 h2
  exact .tup fun j d e h1 h2=>by
   simp only [Q3,Q7] at h1 h2
   obtain ⟨a,_,rfl⟩:=h1
   obtain ⟨b,_,rfl⟩:=h2
   exact .sc rfl
 ·simp at h1 h2; subst h1 h2
  exact .sc rfl
 ·simp at h1
theorem GP (h:T (decide (au x=au y))):Ba (.tup [.tup (x.1.map .int),.int x.2]) (.tup [.tup (y.1.map .int),.int y.2]) T:=by
 refine Fj ⟨Dw x y,?_⟩
 have e:decide ([D.tup (x.1.map .int),.int x.2]=[D.tup (y.1.map .int),.int y.2])=decide (au x=au y):=by
  unfold au; simp
 rw [e]; exact h
noncomputable def uq:Fn:=fun ds r=>∃ L:List aL,L.length≤20000∧(∀ t∈L,t.1.length≤64)∧ds=[.lst (L.map au),.lst (L.map au)]∧r=.ok (.va (.bl true))
theorem La {L:List aL} (h:L.length≤20000) (h2:∀ t∈L,t.1.length≤64):uq [.lst (L.map au),.lst (L.map au)] (.ok (.va (.bl true))):=⟨L,h,h2,rfl,rfl⟩
section
local macro_rules | `(tactic| walk_at "evCa")=> `(tactic| first | with_reducible refine bz (F:=nE) (by assumption) (by decide) ?_)
local macro_rules | `(tactic| walk_at "evR")=> `(tactic| first | with_reducible refine aF (GK _) ?_)
theorem GQ (Fu:dR K "_law_same" "_law_same" j8 f fd) (T:Txt K mg) (h1:bJ P w K mg base 1 "_law_whole" nE):bf P w K mg base (cO P w) 2 f fd ["_law_found","_law_due"] (dU K uq):=by
 refine ck Fu z0 Aa (by rintro ds r ⟨n,_,_,rfl,_⟩; rfl) (by rintro ds r ⟨n,_,_,_,rfl⟩; exact ⟨_,rfl⟩) fun c hq ds sl hF=>?_
 obtain ⟨L,hl,hlen,rfl,e⟩:=hF
 injection e with e
 subst e
 show aN c _ [.va (.lst (L.map au)),.va (.lst (L.map au)),.un,.un] _ _
 conv in (aq _)=>whnf
 walk_at "ev"
 ·with_reducible refine cG hq (Nv (Txt.zip T) ?_)
  walk_at "ev"
  refine ⟨_,_,rfl,rfl,?_⟩
  have ez:mO (L.map au) (L.map au)=L.map fun t=>D.tup [au t,au t]:=by
   unfold mO
   rw [VM,VD]
  rw [ez]
  refine ⟨fun i ρ'=>∃ s2 s3:Sl,ρ'=[.va (.lst (L.map au)),.va (.lst (L.map au)),s2,s3],⟨_,_,rfl⟩,?_,?_⟩
  ·rintro c' nP uJ uK i d ρ' hd ⟨s2,s3,rfl⟩
   simp only [Q3,Q7] at hd
   obtain ⟨t,ht,rfl⟩:=hd
   have hlt:=hlen t (Si ht)
   show nX c' _ (.tup [.tup [.tup (t.1.map .int),.int t.2],.tup [.tup (t.1.map .int),.int t.2]]) _ _
   walk_at "ev"
   ·refine HW (Txt.all T) (e_x (d9 (show c'.X.xe=jO by rw [nP]; exact hq) (N':=["_law_power"]) (ρ0:=fun _=>[.un]) (fun t=>.un .nil) (cL ?_)))
    walk_at "ev"
    ·exact jA (by rw [QU]; lia)
    refine ⟨t.1.map fun _=>some (.bl true),by simp,?_,d8 ⟨t.1.map fun _=>true,?_,?_⟩⟩
    ·intro c2 hc2 tg j d o hd ho
     simp only [Q3,Q7] at hd ho
     obtain ⟨x,hx,rfl⟩:=hd
     obtain ⟨x',hx',rfl⟩:=ho
     refine dJ (by walk_at "at") (wR (by walk_at "sset") ⟨.un .nil,?_⟩)
     simp only [sE]
     refine ⟨fun _=>?_,fun h=>by cases h⟩
     walk_at "ev"
     rfl
    ·congr 1
     induction t.1 with
     | nil=>rfl
     | cons a l ih=>simpa using ih
    ·have e:((t.1.map fun _=>true).all id)=true:=by simp
     rw [e]
     walk_at "ev"
     refine GP ?_
     rw [decide_eq_true rfl]
     walk_at "ev"
     exact ⟨_,_,rfl⟩
   ·exact absurd (show (([D.tup (t.1.map .int),.int t.2].length:Nat):Int)=2 from rfl) (by assumption)
  ·rintro ρ' ⟨s2,s3,rfl⟩
   walk_at "ev"
   rfl
 ·exact absurd rfl (by assumption)
end
end
section
variable {K:QM}
noncomputable def GR (p:List Int) (g:Nat→Int) (k:Nat):Int:=if bR p k>g k then bR p k else g k
noncomputable def gk (L:List aL) (k:Nat):Int:=L.foldl (fun a t=>if bR t.1 k>a then bR t.1 k else a) 0
noncomputable def eU (L:List aL):List Int:=(Rt 6).map (gk L)
noncomputable def iW (p:List Int) (g:Nat→Int) (j k:Nat):Int:=if k<j then GR p g k else g k
theorem yf (L:List aL) (k):∀ a:Int,a≤L.foldl (fun a t=>if bR t.1 k>a then bR t.1 k else a) a:=by
 induction L with
 | nil=>exact fun a=>Sg _
 | cons t L ih =>
  intro a
  rw [So]
  refine Ry ?_ (ih _)
  split <;> lia
theorem Im (L) (k):0≤gk L k:=yf L k 0
theorem GS (L) (t):gk (L++[t])=GR t.1 (gk L):=by
 funext k
 unfold gk GR
 rw [WX]; rfl
theorem GU:iW p (gk L) p.length=GR p (gk L):=by
 funext k
 unfold iW
 split
 ·rfl
 ·unfold GR
  rw [cV (by lia)]
  have:=Im L k
  rw [if_neg (by lia)]
theorem Dy (p) (g):iW p g 0=g:=by funext k; unfold iW; rw [if_neg (by lia)]
noncomputable def gm (g:Nat→Int):List D:=((Rt 6).map g).map D.int
theorem Dz (p) (g) (h:j<6) (q:GR p g j=bR p j):(gm (iW p g j)).set j (.int (bR p j))=gm (iW p g (j+1)):=by
 refine VO (by simp [gm]) fun i h1 h2=>?_
 have hi:i<6:=by simpa [gm] using h2
 rw [List.getElem_set]
 simp only [gm,Xa,WJ]
 unfold iW
 by_cases e:j=i
 ·subst e
  rw [if_pos rfl,if_pos (by lia),q]
 ·rw [if_neg e]
  by_cases z:i<j
  ·rw [if_pos z,if_pos (by lia)]
  ·rw [if_neg z,if_neg (by lia)]
theorem Ah (p) (g) (q:GR p g j=g j):gm (iW p g j)=gm (iW p g (j+1)):=by
 unfold gm
 congr 1
 refine S6 fun i _=>?_
 unfold iW
 by_cases z:i<j
 ·rw [if_pos z,if_pos (by lia)]
 ·by_cases e:i=j
  ·subst e; rw [if_neg z,if_pos (by lia),q]
  ·rw [if_neg z,if_neg (by lia)]
theorem GV (g) {j:Nat} (h:j<6):kr (gm g) (j:Int)=some (.int (g j)):=by
 rw [ji (by lia) (by simp [gm]; lia),Rp]
 simp [gm,h]
noncomputable def nG:Fn:=fun ds r=>∃ L:List aL,(∀ t∈L,t.1.length≤6)∧ds=[.lst (L.map au)]∧r=.ok (.ow (gm (gk L)))
theorem GW (h:∀ t∈L,t.1.length≤6):nG [.lst (L.map au)] (.ok (.ow (gm (gk L)))):=⟨L,h,rfl,rfl⟩
section
local macro_rules | `(tactic| walk_at "evPut")=> `(tactic| with_reducible refine Kz (by walk_at "at") (by walk_at "at") (by walk_at "own") ?_)
local macro_rules | `(tactic| walk_at "evX")=> `(tactic| first | ((with_reducible show dz _ (Uj _ U6 _ _) _ _); with_reducible refine HZ ?_))
local macro_rules | `(tactic| walk_at "evE")=> `(tactic| first | ((with_reducible show aH _ (Rh "PLACES" _) _ _); with_reducible refine uY (by assumption) ?_))
theorem DA (Fu:dR K "greatest_powers" "greatest_powers" cJ f fd) (T:Txt K mg) (PL:∃ tk:Tok,mg "PLACES"=some (.int 6 tk)):bf P w K mg base (cO P w) 1 f fd ["some"] (dU K nG):=by
 obtain ⟨tk,hPL⟩:=PL
 refine ck Fu iP iQ (by rintro ds r ⟨L,_,rfl,_⟩; rfl) (by rintro ds r ⟨L,_,_,rfl⟩; exact ⟨_,rfl⟩) fun c hq ds sl hF=>?_
 obtain ⟨L,hl,rfl,e⟩:=hF
 injection e with e
 subst e
 show aN c _ [.va (.lst (L.map au)),.un,.un,.un,.un,.un] _ _
 conv in (aq _)=>whnf
 walk_at "ev"
 refine ⟨_,rfl,?_⟩
 walk_at "ev"
 ·exact ⟨⟨by decide,by decide⟩,by decide⟩
 walk_at "ev"
 show fH c _ [.va (.lst (L.map au)),.ow (gm (gk [])),.un,.un,.un,.un] _ _
 with_reducible refine cG hq (cL ?_)
 walk_at "ev"
 refine ⟨fun i ρ'=>∃ s2 s3 s4 s5:Sl,ρ'=[.va (.lst (L.map au)),.ow (gm (gk (L.take i))),s2,s3,s4,s5],⟨_,_,_,_,rfl⟩,?_,?_⟩
 ·rintro c' nP uJ uK i d ρ' hd ⟨s2,s3,s4,s5,rfl⟩
  simp only [Q3,Q7] at hd
  obtain ⟨t,ht,rfl⟩:=hd
  obtain ⟨hi,rfl⟩:=Q2.mp ht
  have h6:=hl _ (RI hi)
  have hq':c'.X.xe=fun _ _=>False:=by rw [nP]; exact hq
  show nX c' _ (D.tup [.tup (L[i].1.map .int),.int L[i].2]) _ _
  walk_at "ev"
  have eg:gk (L.take (i+1))=iW L[i].1 (gk (L.take i)) L[i].1.length:=by rw [Sa hi,GS,GU]
  generalize L[i]=t at h6 eg ⊢
  generalize gk (L.take i)=g at eg ⊢
  with_reducible refine cG hq' (KG (Txt.enum (by assumption)) ?_)
  walk_at "ev"
  refine ⟨_,rfl,?_⟩
  refine ⟨fun j ρ'=>∃ s4 s5:Sl,ρ'=[.va (.lst (L.map au)),.ow (gm (iW t.1 g j)),.va (.tup (t.1.map .int)),.va (.int t.2),s4,s5],⟨s4,s5,by rw [Dy]⟩,?_,?_⟩
  ·rintro c2 hcX2 hcR2 hcM2 j d ρ' hd ⟨s4,s5,rfl⟩
   unfold mS at hd
   simp only [Q3,Q7,List.getElem?_zipIdx] at hd
   obtain ⟨⟨x,m⟩,⟨y,⟨z,hz,rfl⟩,e⟩,rfl⟩:=hd
   obtain ⟨rfl,rfl⟩:D.int z=x∧0+j=m:=by simpa using e
   obtain ⟨hj,rfl⟩:=Q2.mp hz
   have hj6:j<6:=by lia
   have ha:kr (gm (iW t.1 g j)) (((0+j:Nat):Int))=some (.int (g j)):=by
    rw [TF,GV _ hj6]; unfold iW; rw [if_neg (by lia)]
   have ep:bR t.1 j=t.1[j]:=dM hj
   have hj0:0+j=j:=TF j
   rw [hj0] at ha ⊢
   show nX c2 _ (D.tup [.int (j:Nat),.int t.1[j]]) _ _
   walk_at "ev"
   ·refine ⟨j,rfl,⟨by simp [gm]; lia,?_⟩⟩
    walk_at "ev"
    refine ⟨.va (.int (j:Nat)),.va (.int t.1[j]),?_⟩
    show [_,Sl.ow ((gm (iW t.1 g j)).set j (.int t.1[j])),_,_,_,_]=_
    rw [← ep,Dz t.1 g hj6 (by unfold GR; rw [ep,if_pos (by assumption)])]
   ·refine ⟨.va (.int (j:Nat)),.va (.int t.1[j]),?_⟩
    rw [Ah t.1 g (by unfold GR; rw [ep,if_neg (by assumption)])]
  ·rintro ρ' ⟨s4,s5,rfl⟩
   rw [show (mS (t.1.map D.int)).length=t.1.length by simp [mS]]
   walk_at "ev"
   exact ⟨_,_,_,_,by rw [eg]⟩
 ·rintro ρ' ⟨s2,s3,s4,s5,rfl⟩
  rw [QU,R9]
  walk_at "ev"
  rfl
end
noncomputable def EJ (ns:List Int):Int:=ns.foldr max 0
theorem DB:∀ {ns:List Int} {n:Int},n∈ns→n≤EJ ns
 | x::ns,n,h=>by
  show n≤max x (EJ ns)
  rcases Q0.mp h with rfl | h
  ·lia
  ·have:=DB h; lia
theorem Io:∀ (ns:List Int),0≤EJ ns
 | []=>Sg _
 | x::ns=>by show 0≤max x (EJ ns); have:=Io ns; lia
theorem vY:∀ {ns:List Int} {m:Int},0≤m→(∀ n∈ns,n≤m)→EJ ns≤m
 | [],_,h,_=>h
 | x::ns,m,h0,h=>by
  show max x (EJ ns)≤m
  have:=vY h0 fun n hn=>h n (Q9 _ hn)
  have:=h x Q6
  lia
theorem DC (h:m∈eU L) (h2:∀ n∈eU L,n≤m):m=EJ (eU L):=by
 have h0:0≤m:=by
  unfold eU at h
  obtain ⟨k,_,rfl⟩:=Rj.mp h
  exact Im L k
 exact Int.le_antisymm (DB h) (vY h0 h2)
end
section
variable {K:QM}
noncomputable def DE:Fn:=fun ds r=>∃ (p:List Int) (W:Nat),W≤10∧Bd (2 ^ W) p∧ds=[.tup (p.map .int),.int (W:Nat)]∧r=.ok (.va (.int (pk (2 ^ W) p)))
theorem Ny (h:W≤10) (h2:Bd (2 ^ W) p):DE [.tup (p.map .int),.int (W:Nat)] (.ok (.va (.int (pk (2 ^ W) p)))):=⟨p,W,h,h2,rfl,rfl⟩
section
local macro_rules | `(tactic| walk_at "evE")=> `(tactic| first | ((with_reducible show aH _ (Rh "PLACES" _) _ _); with_reducible refine uY (by assumption) ?_))
local macro_rules | `(tactic| walk_at "evBo")=> `(tactic| first | with_reducible refine HX ?_ | with_reducible refine HY ?_ | with_reducible refine Cs ?_)
theorem Lb (Fu:dR K "key_of" "key_of" j3 f fd) (T:Txt K mg) (PL:∃ tk:Tok,mg "PLACES"=some (.int 6 tk)):bf P w K mg base (cO P w) 1 f fd ["powers","width"] (dU K DE):=by
 obtain ⟨tk,hPL⟩:=PL
 refine ck Fu zU zV (by rintro ds r ⟨p,W,_,_,rfl,_⟩; rfl) (by rintro ds r ⟨p,W,_,_,_,rfl⟩; exact ⟨_,rfl⟩) fun c hq ds sl hF=>?_
 obtain ⟨p,W,hW,hp,rfl,e⟩:=hF
 injection e with e
 subst e
 have h6:=hp.1
 show aN c _ [.va (.tup (p.map .int)),.va (.int (W:Nat)),.un,.un] _ _
 conv in (aq _)=>whnf
 walk_at "ev"
 with_reducible refine cG hq (cL ?_)
 walk_at "ev"
 refine ⟨fun i ρ'=>∃ s3:Sl,ρ'=[.va (.tup (p.map .int)),.va (.int (W:Nat)),.va (.int (Gy (2 ^ W) (p.take i))),s3],⟨_,rfl⟩,?_,?_⟩
 ·rintro c' nP uJ uK i d ρ' hd ⟨s3,rfl⟩
  simp only [Q3,Q7] at hd
  obtain ⟨x,hx,rfl⟩:=hd
  obtain ⟨hi,rfl⟩:=Q2.mp hx
  have bd:=CF (two_pos W) (p:=p.take i) fun x hx=>hp.2 x (Vw hx)
  have hl:(p.take i).length≤6:=by rw [Rx]; lia
  walk_at "ev"
  ·exact ⟨by lia,by lia,x6 hW hl bd.1 bd.2⟩
  ·refine ⟨.va (.int p[i]),?_⟩
   rw [Sa hi,CD,Rp]
 ·rintro ρ' ⟨s3,rfl⟩
  rw [QU,R9]
  have bd:=CF (two_pos W) hp.2
  have ew:(W:Int) * (6 - ((p.map D.int).length:Nat))=((W * (6 - p.length):Nat):Int):=by
   rw [QU,Int.natCast_mul,Int.ofNat_sub h6]; rfl
  have ew2:W * (6 - p.length)≤60:=Q4 (Tt hW (Nat.sub_le 6 _)) (by decide)
  walk_at "ev"
  ·exact sH (by lia)
  ·rw [ew]; exact ⟨by lia,by lia,x6 hW h6 bd.1 bd.2⟩
  ·show Sl.va _=Sl.va _
   rw [ew,Rp,Int.pow_mul,KP h6]
end
theorem fQ {α:Type} (f:α→D):∀ L:List α,(L.map fun t=>some (f t)).filterMap id=L.map f
 | []=>rfl
 | x::L=>by
  rw [QW,QW,SQ]
  exact congrArg (f x:: ·) (fQ f L)
noncomputable def uu:Fn:=fun ds r=>∃ (x:Int) (W:Nat),W≤10∧0≤x∧ds=[.int x,.int (W:Nat)]∧r=.ok (.va (.tup ((OG (2 ^ W) x).map .int)))
theorem Lc (h:W≤10) (h2:0≤x):uu [.int x,.int (W:Nat)] (.ok (.va (.tup ((OG (2 ^ W) x).map .int)))):=⟨x,W,h,h2,rfl,rfl⟩
section
local macro_rules | `(tactic| walk_at "evE")=> `(tactic| first | ((with_reducible show aH _ (Rh "PLACES" _) _ _); with_reducible refine uY (by assumption) ?_))
local macro_rules | `(tactic| walk_at "evBo")=> `(tactic| first | with_reducible refine HX ?_ | with_reducible refine HY ?_ | with_reducible refine Cs ?_)
local macro_rules | `(tactic| walk_at "evXC")=> `(tactic| first | with_reducible refine x_call (F:=jC) (by assumption) (by decide) ?_)
theorem GX (Fu:dR K "powers_of" "powers_of" fZ f fd) (T:Txt K mg) (PL:∃ tk:Tok,mg "PLACES"=some (.int 6 tk)) (h1:bJ P w K mg base 1 "trimmed" jC):bf P w K mg base (cO P w) 2 f fd ["key","width"] (dU K uu):=by
 obtain ⟨tk,hPL⟩:=PL
 refine ck Fu qS qT (by rintro ds r ⟨x,W,_,_,rfl,_⟩; rfl) (by rintro ds r ⟨x,W,_,_,_,rfl⟩; exact ⟨_,rfl⟩) fun c hq ds sl hF=>?_
 obtain ⟨x,W,hW,hx,rfl,e⟩:=hF
 injection e with e
 subst e
 show aN c _ [.va (.int x),.va (.int (W:Nat)),.un] _ _
 conv in (aq _)=>whnf
 walk_at "ev"
 ·exact ⟨by lia,by lia,by decide⟩
 walk_at "ev"
 rw [Rp]
 refine e_x (d9 hq (N':=["k","key","mask","width"]) (ρ0:=fun _=>[.un,.va (.int x),.va (.int (1 * 2 ^ W - 1)),.va (.int (W:Nat))]) (fun t=>.un (.fr (by walk_at "at") (by walk_at "at") (by decide) rfl (.fr (by walk_at "at") (by walk_at "at") (by decide) rfl (.fr (by walk_at "at") (by walk_at "at") (by decide) rfl .nil)))) (KI (Txt.range T) ?_))
 walk_at "ev"
 refine ⟨rfl,⟨⟨by decide,by decide⟩,⟨⟨by decide,by decide⟩,⟨by decide,?_⟩⟩⟩⟩
 refine ⟨(Rt 6).map fun (i:Nat)=>some (.int (x / (2 ^ W) ^ (5 - i) % 2 ^ W)),rfl,?_,d8 ?_⟩
 ·intro c' hc t i d o hd ho
  unfold Cw at hd
  simp only [Q3,Q7] at hd ho
  obtain ⟨a,ha,rfl⟩:=hd
  obtain ⟨a',ha',rfl⟩:=ho
  have hi:i<6:=by simpa using (Q2.mp ha').1
  rw [US hi] at ha'; cases ha'
  rw [show (6 - 1 - -1:Int).toNat=6 by decide,US hi] at ha; cases ha
  refine dJ (by walk_at "at") (wR (by walk_at "sset") ⟨.un (.same (.same (.same .nil))),?_⟩)
  simp only [sE]
  refine ⟨fun _=>?_,fun h=>by cases h⟩
  have e5:((W:Int) * (6 - 1 - (i:Int))).toNat=W * (5 - i):=by
   rw [show ((6:Int) - 1 - (i:Int))=((5 - i:Nat):Int) by lia,← Int.natCast_mul,Rp]
  have e6:(0:Int)≤(W:Int) * (6 - 1 - (i:Int)):=VZ (by lia) (by lia)
  have hp:(0:Int)<(2 ^ W) ^ (5 - i):=Uh (two_pos W)
  walk_at "ev"
  ·exact sH (by lia)
  ·show some _=some (D.int _)
   rw [e5,Int.pow_mul,zD W (Int.ediv_nonneg hx (by lia))]
 ·refine ⟨_,rfl,?_⟩
  rw [fQ (fun (i:Nat)=>D.int (x / (2 ^ W) ^ (5 - i) % 2 ^ W)) (Rt 6),show ((Rt 6).map fun (i:Nat)=>D.int (x / (2 ^ W) ^ (5 - i) % 2 ^ W))=((Rt 6).map fun (i:Nat)=>x / (2 ^ W) ^ (5 - i) % 2 ^ W).map D.int by rw [Rv]; rfl]
  walk_at "ev"
  exact aF (Dq (by simp)) rfl
end
noncomputable def uv (b:Int) (t:aL):D:=.tup [.int (pk b t.1),.int t.2]
noncomputable def uw:Fn:=fun ds r=>∃ (L:List aL) (W:Nat),W≤10∧L.length≤20000∧(∀ t∈L,Bd (2 ^ W) t.1)∧ds=[.lst (L.map au),.int (W:Nat)]∧r=.ok (.ow (L.map (uv (2 ^ W))))
theorem Ld {L:List aL} (h:W≤10) (h1:L.length≤20000) (h2:∀ t∈L,Bd (2 ^ W) t.1):uw [.lst (L.map au),.int (W:Nat)] (.ok (.ow (L.map (uv (2 ^ W))))):=⟨L,W,h,h1,h2,rfl,rfl⟩
section
local macro_rules | `(tactic| walk_at "evCa")=> `(tactic| first | with_reducible refine bz (F:=DE) (by assumption) (by decide) ?_)
theorem GY (Fu:dR K "packed" "packed" j4 f fd) (T:Txt K mg) (h1:bJ P w K mg base 1 "key_of" DE):bf P w K mg base (cO P w) 2 f fd ["some","width"] (dU K uw):=by
 refine ck Fu zW zX (by rintro ds r ⟨L,W,_,_,_,rfl,_⟩; rfl) (by rintro ds r ⟨L,W,_,_,_,_,rfl⟩; exact ⟨_,rfl⟩) fun c hq ds sl hF=>?_
 obtain ⟨L,W,hW,hL,hb,rfl,e⟩:=hF
 injection e with e
 subst e
 show aN c _ [.va (.lst (L.map au)),.va (.int (W:Nat))] _ _
 conv in (aq _)=>whnf
 refine aY (eY (d9 hq (N':=["powers","number","width"]) (ρ0:=fun _=>[.un,.un,.va (.int (W:Nat))]) (fun t=>.un (.un (.fr (by walk_at "at") (by walk_at "at") (by decide) rfl .nil))) (cL ?_)))
 walk_at "ev"
 ·exact jA (by rw [QU]; lia)
 refine ⟨L.map fun t=>some (uv (2 ^ W) t),by simp,?_,by show Sl.ow _=Sl.ow _; rw [fQ]⟩
 intro c' hc t i d o hd ho
 simp only [Q3,Q7] at hd ho
 obtain ⟨x,hx,rfl⟩:=hd
 obtain ⟨x',hx',rfl⟩:=ho
 rw [hx] at hx'; cases hx'
 have hbx:=hb x (Si hx)
 show nX c' _ (.tup [.tup (x.1.map .int),.int x.2]) _ _
 walk_at "ev"
 refine ⟨.un (.un (.same .nil)),?_⟩
 simp only [sE]
 refine ⟨fun _=>?_,fun h=>by cases h⟩
 walk_at "ev"
 refine aF (Ny hW hbx) ?_
 walk_at "ev"
 rfl
end
end
section
variable {P:Program} {w:World} {K:QM} {mg:Str→Option Value} {base:Heap}
noncomputable def GZ:OF:=fun kvs ds Z=>∃ (ts A B:List aL) (W:Nat),W≤10∧ts.length+A.length * B.length≤20000∧A.length≤20000∧B.length≤20000∧(∀ t∈ts,Bd (2 ^ W) t.1)∧(∀ l∈A,∀ r∈B,Bd (2 ^ W) (cC l.1 r.1)∧EV.MulOk l.2 r.2) ∧
 kvs=cM ((aV ts).map (gE (2 ^ W)))∧ds=[.lst (A.map (uv (2 ^ W))),.lst (B.map (uv (2 ^ W)))]∧Z=fun kvs'=>kvs'=cM ((aV (ts++aI A B)).map (gE (2 ^ W)))
section
local macro_rules | `(tactic| walk_at "evS")=> `(tactic| first | ((with_reducible show fH _ (VV (Tv (Rh _ _) _ _) V7 _ _) _ _ _); with_reducible refine xg (by walk_at "at") (by walk_at "at") ?_ (ho:=by walk_at "own")))
theorem Le (Fu:dR K "add_products" "add_products" dN f fd) (T:Txt K mg):bf P w K mg base (cO P w) 1 f fd ["total","left","right"] (Kx K GZ):=by
 refine Ng Fu kP kQ (by rintro kvs ds Z ⟨t0,A,B,W,_,_,_,_,_,_,_,rfl,_⟩; rfl) fun c hq q kvs ds Z hF=>?_
 obtain ⟨t0,A,B,W,hW,hl,hA,hB,hb0,hp,rfl,rfl,rfl⟩:=hF
 have e00:t0=t0++aI (A.take 0) B:=by show t0=t0++[]; rw [Ru]
 rw [show cM ((aV t0).map (gE (2 ^ W)))=cM ((aV (t0++aI (A.take 0) B)).map (gE (2 ^ W))) by rw [← e00]]
 show aN c _ [.aK q (cM ((aV (t0++aI (A.take 0) B)).map (gE (2 ^ W)))),.va (.lst (A.map (uv (2 ^ W)))),.va (.lst (B.map (uv (2 ^ W)))),.un,.un,.un,.un,.un] _ _
 conv in (aq _)=>whnf
 walk_at "ev"
 with_reducible refine cG hq (cL ?_)
 walk_at "ev"
 refine ⟨fun i ρ'=>∃ s3 s4 s5 s6 s7:Sl,ρ'=[.aK q (cM ((aV (t0++aI (A.take i) B)).map (gE (2 ^ W)))),.va (.lst (A.map (uv (2 ^ W)))),.va (.lst (B.map (uv (2 ^ W)))),s3,s4,s5,s6,s7],⟨_,_,_,_,_,rfl⟩,?_,?_⟩
 ·rintro c' nP uJ uK i d ρ' hd ⟨s3,s4,s5,s6,s7,rfl⟩
  simp only [Q3,Q7] at hd
  obtain ⟨l,hlx,rfl⟩:=hd
  obtain ⟨hi,rfl⟩:=Q2.mp hlx
  have hq':c'.X.xe=fun _ _=>False:=by rw [nP]; exact hq
  show nX c' _ (.tup [.int (pk (2 ^ W) A[i].1),.int A[i].2]) _ _
  walk_at "ev"
  with_reducible refine cG hq' (cL ?_)
  walk_at "ev"
  have hpi:=hp A[i] (RI hi)
  have e0:t0++aI (A.take (i+1)) B=(t0++aI (A.take i) B)++B.map (dY A[i]):=by
   rw [Sa hi,pV,Rk]
  have hprev:∀ t∈t0++aI (A.take i) B,Bd (2 ^ W) t.1:=fun t ht=>by
   rcases Rg.mp ht with z | z
   ·exact hb0 t z
   ·obtain ⟨l,hl,r,hr,rfl⟩:=gF z
    exact (hp l (Vw hl) r hr).1
  have hlen:(t0++aI (A.take i) B).length+B.length≤20000:=by
   rw [Rr,dG,Rx,U0 (by lia),Nat.add_assoc,← U8]
   exact Q4 (Nat.add_le_add_left (Nat.mul_le_mul_right _ (by lia)) _) hl
  generalize A[i]=l at hpi e0 ⊢
  generalize t0++aI (A.take i) B=ts at e0 hprev hlen ⊢
  refine ⟨fun j ρ'=>∃ s5 s6 s7:Sl,ρ'=[.aK q (cM ((aV (ts++(B.take j).map (dY l))).map (gE (2 ^ W)))),.va (.lst (A.map (uv (2 ^ W)))),.va (.lst (B.map (uv (2 ^ W)))),.va (.int (pk (2 ^ W) l.1)),.va (.int l.2),s5,s6,s7],⟨s5,s6,s7,by simp⟩,?_,?_⟩
  ·rintro c2 hcX2 hcR2 hcM2 j d ρ' hd ⟨s5,s6,s7,rfl⟩
   simp only [Q3,Q7] at hd
   obtain ⟨r,hrx,rfl⟩:=hd
   obtain ⟨hj,rfl⟩:=Q2.mp hrx
   obtain ⟨hb,hm⟩:=hpi B[j] (RI hj)
   have e1:ts++(B.take (j+1)).map (dY l)=(ts++(B.take j).map (dY l))++[dY l B[j]]:=by
    rw [Sa hj,Ra,Rk]; rfl
   have hprev2:∀ t∈ts++(B.take j).map (dY l),Bd (2 ^ W) t.1:=fun t ht=>by
    rcases Rg.mp ht with z | z
    ·exact hprev t z
    ·obtain ⟨r,hr,rfl⟩:=Rj.mp z
     exact (hpi r (Vw hr)).1
   have hlen2:(ts++(B.take j).map (dY l)).length<20000:=by
    rw [Rr,QU,Rx]; lia
   have key:=KO (two_pos W) hprev2 (t:=dY l B[j]) hb
   rw [← e1] at key
   generalize ts++(B.take j).map (dY l)=us at key hlen2 ⊢
   generalize B[j]=r at key hb hm ⊢
   show nX c2 _ (.tup [.int (pk (2 ^ W) r.1),.int r.2]) _ _
   have ek:pk (2 ^ W) (dY l r).1=pk (2 ^ W) l.1+pk (2 ^ W) r.1:=Gz _ _ _
   rw [ek] at key
   have hC:(cM ((aV us).map (gE (2 ^ W)))).length<sizeLine:=c8 (by
    have:=g6 us
    simp only [cM,QU]; lia)
   generalize (aV us).map (gE (2 ^ W))=C at key hC ⊢
   walk_at "ev"
   refine HL (by walk_at "at") (by walk_at "at") ?_
   walk_at "ev"
   refine ⟨_,.k rfl rfl,?_⟩
   rw [jy]
   cases hv:bF C (pk (2 ^ W) l.1+pk (2 ^ W) r.1) with
   | some m =>
    rw [hv] at key
    show n5 _ _ true
    walk_at "ev"
    refine ⟨m,by rw [← show bF (cM C) (.inl (pk (2 ^ W) l.1+pk (2 ^ W) r.1))=some (D.int m) by rw [jy,hv]; rfl]; exact .k rfl rfl,?_⟩
    walk_at "ev"
    refine ⟨_,.k rfl rfl hC,?_⟩
    walk_at "ev"
    refine ⟨.va (.int (pk (2 ^ W) r.1)),.va (.int r.2),.va (.int (pk (2 ^ W) l.1+pk (2 ^ W) r.1)),?_⟩
    show [Sl.aK q (putD (cM C) (.inl (pk (2 ^ W) l.1+pk (2 ^ W) r.1)) (.int (m+l.2 * r.2))),_,_,_,_,_,_,_]=_
    rw [tS,show putD C (pk (2 ^ W) l.1+pk (2 ^ W) r.1) (m+l.2 * r.2)=_ from key]
   | none =>
    rw [hv] at key
    show n5 _ _ false
    walk_at "ev"
    refine ⟨_,.k rfl rfl hC,?_⟩
    walk_at "ev"
    refine ⟨.va (.int (pk (2 ^ W) r.1)),.va (.int r.2),.va (.int (pk (2 ^ W) l.1+pk (2 ^ W) r.1)),?_⟩
    show [Sl.aK q (putD (cM C) (.inl (pk (2 ^ W) l.1+pk (2 ^ W) r.1)) (.int (l.2 * r.2))),_,_,_,_,_,_,_]=_
    rw [tS,← UG (l.2 * r.2),show putD C (pk (2 ^ W) l.1+pk (2 ^ W) r.1) (0+l.2 * r.2)=_ from key]
  ·rintro ρ' ⟨s5,s6,s7,rfl⟩
   rw [QU,R9,← e0]
   walk_at "ev"
   exact ⟨_,_,_,_,_,rfl⟩
 ·rintro ρ' ⟨s3,s4,s5,s6,s7,rfl⟩
  rw [QU,R9]
  walk_at "ev"
  exact ⟨_,_,rfl,rfl⟩
end
noncomputable def LR (C:List (Int×Int)):D:=.fdK ((cM C).map (·.1)) ((cM C).map (·.2))
theorem DF (C):(cM C).map (·.1)=(C.map (·.1)).map Rn:=by unfold cM; rw [Rv,Rv]; rfl
noncomputable def DG:Fn:=fun ds r=>∃ (ts:List aL) (W:Nat),W≤10∧ts.length≤20000∧(∀ t∈ts,Bd (2 ^ W) t.1)∧ds=[LR ((aV ts).map (gE (2 ^ W))),.int (W:Nat)]∧r=.ok (.ow ((aG ts).map au))
theorem Nz (h:W≤10) (h1:ts.length≤20000) (h2:∀ t∈ts,Bd (2 ^ W) t.1):DG [LR ((aV ts).map (gE (2 ^ W))),.int (W:Nat)] (.ok (.ow ((aG ts).map au))):=⟨ts,W,h,h1,h2,rfl,rfl⟩
theorem vZ (h:kL ltI true L):L.Pairwise fun x y=>y<x:=by
 unfold kL at h
 exact h.imp fun {x y} q=>by simpa using q
section
local macro_rules | `(tactic| walk_at "evIx")=> `(tactic| with_reducible refine KQ ?_)
local macro_rules | `(tactic| walk_at "evCa")=> `(tactic| first | with_reducible refine bz (F:=uu) (by assumption) (by decide) ?_)
theorem Lf (Fu:dR K "unpacked" "unpacked" gI f fd) (T:Txt K mg) (h1:bJ P w K mg base 2 "powers_of" uu):bf P w K mg base (cO P w) 3 f fd ["total","width"] (dU K DG):=by
 refine ck Fu uc ud (by rintro ds r ⟨ts,W,_,_,_,rfl,_⟩; rfl) (by rintro ds r ⟨ts,W,_,_,_,_,rfl⟩; exact ⟨_,rfl⟩) fun c hq ds sl hF=>?_
 obtain ⟨ts,W,hW,hl,hb,rfl,e⟩:=hF
 injection e with e
 subst e
 show aN c _ [.va (LR ((aV ts).map (gE (2 ^ W)))),.va (.int (W:Nat))] _ _
 conv in (aq _)=>whnf
 refine aY (eY (d9 hq (N':=["key","total","width"]) (ρ0:=fun _=>[.un,.va (LR ((aV ts).map (gE (2 ^ W)))),.va (.int (W:Nat))]) (fun t=>.un (.fr (by walk_at "at") (by walk_at "at") (by decide) rfl (.fr (by walk_at "at") (by walk_at "at") (by decide) rfl .nil))) (cL (e_x (vq (Txt.sorted T) ?_)))))
 walk_at "ev"
 have hk:=fO ts
 have hg:=qQ hb
 have nd:(((aV ts).map (gE (2 ^ W))).map (·.1)).Nodup:=by
  rw [Rv]
  unfold List.Nodup at hk ⊢
  rw [UW] at hk ⊢
  exact Xe.imp_of_mem (fun {x y} hx hy q z=>q (vB (two_pos W) (hg x hx).1 (hg y hy).1 (hg x hx).2 (hg y hy).2 z)) hk
 refine ⟨((aV ts).map (gE (2 ^ W))).map (·.1),_,by rw [← DF]; rfl,nd,fun L' hp hs=>?_⟩
 have eL:=CC (two_pos W) hb hp (vZ hs)
 subst eL
 have hle:=g6 ts
 have hpl:=(b9 (aV ts)).length_eq
 refine d8 (M5 rfl ⟨jA (by simp only [QU]; lia),(jr (aV ts)).map Dv,by simp,?_,?_⟩)
 ·intro c' hc t i d o hd ho
  simp only [Q3,Q7] at hd ho
  obtain ⟨n,⟨x,hx,rfl⟩,rfl⟩:=hd
  obtain ⟨x',hx',rfl⟩:=ho
  rw [hx] at hx'; cases hx'
  have hm:x∈aV ts:=(b9 (aV ts)).subset (Si hx)
  have hv:bF (cM ((aV ts).map (gE (2 ^ W)))) (.inl (pk (2 ^ W) x.1))=some (.int x.2):=by
   rw [jy,vC (two_pos W) hg (hg x hm).1 (hg x hm).2,xY hk hm]; rfl
  refine dJ (by walk_at "at") (wR (by walk_at "sset") ⟨.un (.same (.same .nil)),?_⟩)
  simp only [sE]
  have h0:=(Nl (two_pos W) (hg x hm).1).1
  walk_at "ev"
  refine ⟨_,_,_,rfl,rfl,hv,?_⟩
  walk_at "ev"
  ·unfold Dv; rw [if_neg fun h=>h (by assumption)]
  refine aF (Lc hW h0) ?_
  rw [KJ (two_pos W) (hg x hm).1,(hg x hm).2]
  walk_at "ev"
  refine ⟨_,_,_,rfl,rfl,hv,?_⟩
  walk_at "ev"
  unfold Dv
  rw [if_pos (by assumption)]
 ·show Sl.ow _=Sl.ow _
  rw [lF,Ku (keys_nodup hk)]
  rfl
end
structure DH (A B:List aL):Prop where
 la:A.length≤20000
 lb:B.length≤20000
 lp:A.length * B.length≤20000
 pa:∀ t∈A,t.1.length≤6∧∀ x∈t.1,0≤x∧x≤500
 pb:∀ t∈B,t.1.length≤6∧∀ x∈t.1,0≤x∧x≤500
 mu:∀ l∈A,∀ r∈B,EV.MulOk l.2 r.2
theorem yg:∀ {L:List aL} (a:Int),a≤m→(∀ t∈L,bR t.1 k≤m)→L.foldl (fun a t=>if bR t.1 k>a then bR t.1 k else a) a≤m
 | [],_,h,_=>h
 | t::L,a,h,q=>by
  rw [So]
  have:=q t Q6
  exact yg _ (by split <;> lia) fun u hu=>q u (Q9 _ hu)
theorem DI (h0:0≤m) (h:∀ t∈L,∀ x∈t.1,x≤m):EJ (eU L)≤m:=by
 refine vY h0 fun n hn=>?_
 unfold eU at hn
 obtain ⟨k,_,rfl⟩:=Rj.mp hn
 refine yg 0 h0 fun t ht=>?_
 by_cases z:k<t.1.length
 ·rw [dM z]; exact h t ht _ (RI _)
 ·rw [cV (by lia)]; exact h0
theorem DJ (ht:t∈L) (hl:t.1.length≤6) (hx:x∈t.1):x≤EJ (eU L):=by
 obtain ⟨k,hk,rfl⟩:=List.getElem_of_mem hx
 refine Ry ?_ (DB (show gk L k∈eU L from Rj.mpr ⟨k,by simp; lia,rfl⟩))
 unfold gk
 rw [← dM hk]
 suffices H:∀ a:Int,bR t.1 k≤L.foldl (fun a t=>if bR t.1 k>a then bR t.1 k else a) a from H 0
 induction L with
 | nil=>cases ht
 | cons u L ih =>
  intro a
  rw [So]
  rcases Q0.mp ht with rfl | ht
  ·refine Ry ?_ (yf L k _)
   split <;> lia
  ·exact ih ht _
theorem G0 (h:0≤x):x<2 ^ Se x:=by
 unfold Se
 by_cases z:x=0
 ·subst z; decide
 ·have e:(x == 0)=false:=by simpa using z
  rw [e,if_neg QZ,ie]
  have:=Nat.lt_log2_self (n:=x.natAbs)
  lia
theorem bits_le (h:x.natAbs<1024):Se x≤10:=by
 unfold Se
 by_cases z:x=0
 ·subst z; decide
 ·have e:(x == 0)=false:=by simpa using z
  rw [e,if_neg QZ]
  have:=(Wd (n:=x.natAbs) (k:=10) (by lia)).mpr h
  lia
end
section
variable {K:QM}
theorem yh (n):(n8 0 n).length=n:=by simp [n8]
theorem Ai (L) (t):L.map au++[au t]=(L++[t]).map au:=by rw [Ra]; rfl
noncomputable def gO:Fn:=fun ds r=>∃ A B:List aL,DH A B∧ds=[.lst (A.map au),.lst (B.map au)]∧r=.ok (.ow ((aG (aI A B)).map au))
theorem yi (h:DH A B):gO [.lst (A.map au),.lst (B.map au)] (.ok (.ow ((aG (aI A B)).map au))):=⟨A,B,h,rfl,rfl⟩
theorem Aj (n):(QY n [D.int 0]).flatten=(QY n (0:Int)).map D.int:=by
 induction n with
 | zero=>rfl
 | succ n ih=>rw [Sy,To,ih,Sy]; rfl
theorem DK (h:k<n) (hp:p.length≤n):kr (p.map D.int++(QY n [D.int 0]).flatten) (k:Int)=some (.int (bR p k)):=by
 rw [Aj,← Ra,ji (by lia) (by simp; lia),Rp,Q3]
 by_cases z:k<p.length
 ·rw [Tg z,Ro z,dM z]; rfl
 ·rw [Ur (by lia),Wo,if_pos (by lia),cV (by lia)]; rfl
section
local macro_rules | `(tactic| walk_at "evBo")=> `(tactic| first | ((with_reducible show aH _ (Uj (UL _ _ _) U6 _ _) _ _); with_reducible refine vA ?_))
local macro_rules | `(tactic| walk_at "evCa")=> `(tactic| first
 | ((with_reducible show aH _ (RK (Rh "max" _) [_,_] _ _) _ _); with_reducible refine Cr (Txt.max (by assumption)) ?_))
theorem DL (Fu:dR K "_law_product" "_law_product" gj f fd) (T:Txt K mg) (h1:bJ P w K mg base 2 "_law_sum" gq):bf P w K mg base (cO P w) 3 f fd ["_law_one","_law_other"] (dU K gO):=by
 refine ck Fu rg ri (by rintro ds r ⟨A,B,_,rfl,_⟩; rfl) (by rintro ds r ⟨A,B,_,_,rfl⟩; exact ⟨_,rfl⟩) fun c hq ds sl hF=>?_
 obtain ⟨A,B,h,rfl,e⟩:=hF
 injection e with e
 subst e
 show aN c _ [.va (.lst (A.map au)),.va (.lst (B.map au)),.un,.un,.un,.un,.un,.un,.un] _ _
 conv in (aq _)=>whnf
 walk_at "ev"
 show fH c _ [.va (.lst (A.map au)),.va (.lst (B.map au)),.ow ((aI (A.take 0) B).map au),.un,.un,.un,.un,.un,.un] _ _
 with_reducible refine cG hq (cL ?_)
 walk_at "ev"
 refine ⟨fun i ρ'=>∃ s3 s4 s5 s6 s7 s8:Sl,ρ'=[.va (.lst (A.map au)),.va (.lst (B.map au)),.ow ((aI (A.take i) B).map au),s3,s4,s5,s6,s7,s8],⟨_,_,_,_,_,_,rfl⟩,?_,?_⟩
 ·rintro c' nP uJ uK i d ρ' hd ⟨s3,s4,s5,s6,s7,s8,rfl⟩
  simp only [Q3,Q7] at hd
  obtain ⟨l,hlx,rfl⟩:=hd
  obtain ⟨hi,rfl⟩:=Q2.mp hlx
  have hq':c'.X.xe=fun _ _=>False:=by rw [nP]; exact hq
  show nX c' _ (.tup [.tup (A[i].1.map .int),.int A[i].2]) _ _
  walk_at "ev"
  with_reducible refine cG hq' (cL ?_)
  walk_at "ev"
  have hm:=h.mu A[i] (RI hi)
  have h6:=(h.pa A[i] (RI hi)).1
  have e0:aI (A.take (i+1)) B=aI (A.take i) B++B.map (dY A[i]):=by
   rw [Sa hi,pV]
  have hlen:(aI (A.take i) B).length+B.length≤20000:=by
   rw [dG,Rx,U0 (by lia),← U8]
   exact Q4 (Nat.mul_le_mul_right _ (by lia)) h.lp
  generalize A[i]=l at hm h6 e0 ⊢
  generalize aI (A.take i) B=ts at e0 hlen ⊢
  refine ⟨fun j ρ'=>∃ s5 s6 s7 s8:Sl,ρ'=[.va (.lst (A.map au)),.va (.lst (B.map au)),.ow ((ts++(B.take j).map (dY l)).map au),.va (.tup (l.1.map .int)),.va (.int l.2),s5,s6,s7,s8],⟨s5,s6,s7,s8,by simp⟩,?_,?_⟩
  ·rintro c2 hcX2 hcR2 hcM2 j d ρ' hd ⟨s5,s6,s7,s8,rfl⟩
   simp only [Q3,Q7] at hd
   obtain ⟨r,hrx,rfl⟩:=hd
   obtain ⟨hj,rfl⟩:=Q2.mp hrx
   have hmr:=hm B[j] (RI hj)
   have h6r:=(h.pb B[j] (RI hj)).1
   have hq2:c2.X.xe=fun _ _=>False:=by rw [hcX2]; exact hq'
   have e1:ts++(B.take (j+1)).map (dY l)=(ts++(B.take j).map (dY l))++[dY l B[j]]:=by
    rw [Sa hj,Ra,Rk]; rfl
   have hlen2:((ts++(B.take j).map (dY l)).map au).length<sizeLine:=c8 (by
    rw [QU,Rr,QU,Rx]; lia)
   generalize ts++(B.take j).map (dY l)=us at e1 hlen2 ⊢
   generalize B[j]=r at hmr h6r e1 ⊢
   show nX c2 _ (.tup [.tup (r.1.map .int),.int r.2]) _ _
   walk_at "ev"
   have ew:(if ((r.1.map D.int).length:Int)>((l.1.map D.int).length:Int) then ((r.1.map D.int).length:Int) else ((l.1.map D.int).length:Int))=((max l.1.length r.1.length:Nat):Int):=by simp only [QU]; split <;> lia
   rw [ew]
   have hw6:max l.1.length r.1.length≤6:=by lia
   refine J3 (by walk_at "at") hq2 (N':=["_law_k","_law_left","_law_right","_law_wide"]) (ρ0:=fun _=>[.un,.va (.tup (l.1.map .int)),.va (.tup (r.1.map .int)),.va (.int ((max l.1.length r.1.length:Nat):Int))]) (fun t=>.un (.fr (by walk_at "at") (by walk_at "at") (by decide) rfl (.fr (by walk_at "at") (by walk_at "at") (by decide) rfl (.fr (by walk_at "at") (by walk_at "at") (by decide) rfl .nil)))) (dB (Txt.range T) ?_)
   walk_at "ev"
   ·exact ⟨by lia,by lia⟩
   ·rw [yh]; exact jA (by lia)
   refine ⟨(Rt (max l.1.length r.1.length)).map fun k=>some (.int (bR l.1 k+bR r.1 k)),by simp [yh],?_,?_⟩
   ·intro c3 hc3 t k d o hd ho
    rw [Rp] at hd
    obtain ⟨hk,rfl⟩:=eZ hd
    rw [Q3,US hk] at ho
    cases ho
    refine dJ (by walk_at "at") (wR (by walk_at "sset") ⟨.un (.same (.same (.same .nil))),?_⟩)
    simp only [sE]
    refine ⟨fun _=>?_,fun h=>by cases h⟩
    walk_at "ev"
    refine ⟨_,_,rfl,rfl,⟨⟨by simp,by lia,by lia,?_⟩,?_⟩⟩
    ·exact jA (by simp; lia)
    rw [Rp]
    walk_at "ev"
    ·exact jA (by simp; lia)
    refine r9 (DK (p:=l.1) hk (by lia)) ?_
    walk_at "ev"
    refine ⟨_,_,rfl,rfl,⟨⟨by simp,by lia,by lia,?_⟩,?_⟩⟩
    ·exact jA (by simp; lia)
    rw [Rp]
    walk_at "ev"
    ·exact jA (by simp; lia)
    refine r9 (DK (p:=r.1) hk (by lia)) ?_
    walk_at "ev"
    rfl
   ·rw [fQ (fun k=>D.int (bR l.1 k+bR r.1 k)),show (Rt (max l.1.length r.1.length)).map (fun k=>D.int (bR l.1 k+bR r.1 k))=(cC l.1 r.1).map D.int by unfold cC; rw [Rv]; rfl]
    walk_at "ev"
    ·exact jf _
    refine ⟨.va (.tup (r.1.map .int)),.va (.int r.2),.va (.int ((max l.1.length r.1.length:Nat):Int)),.ow ((cC l.1 r.1).map .int),?_⟩
    show [_,_,Sl.ow _,_,_,_,_,_,_]=_
    rw [e1,← Ai]
    rfl
  ·rintro ρ' ⟨s5,s6,s7,s8,rfl⟩
   rw [QU,R9,← e0]
   walk_at "ev"
   exact ⟨_,_,_,_,_,_,rfl⟩
 ·rintro ρ' ⟨s3,s4,s5,s6,s7,s8,rfl⟩
  rw [QU,R9]
  refine aY (eY (HM 2 (by walk_at "at") rfl (by walk_at "sset") (x_call (F:=gq) (by assumption) (by decide) ?_)))
  walk_at "ev"
  refine aF (kh (by rw [dG]; exact h.lp) fun t ht=>?_) ⟨fT fun x _=>rm x,rfl⟩
  obtain ⟨l,hl,r,hr,rfl⟩:=gF ht
  show (cC l.1 r.1).length≤64
  have:=(h.pa l hl).1
  have:=(h.pb r hr).1
  rw [jz]; lia
end
end
section
variable {P:Program} {w:World} {K:QM} {mg:Str→Option Value} {base:Heap}
noncomputable abbrev Part:=Int×List (List aL)
noncomputable def aR (A:List aL):D:=.lst (A.map au)
noncomputable def gP (p:Part):D:=.tup (.int p.1::p.2.map aR)
noncomputable def jE (n:Int) (As:List (List aL)):List aL:=As.foldl aI (cT n)
noncomputable def dQ (ps:List Part):List aL:=ps.flatMap fun p=>jE p.1 p.2
noncomputable def bV (As:List (List aL)):Nat:=(As.map fun A=>max A.length 1).foldr (· * ·) 1
noncomputable def nN (A:List aL):Int:=EJ (eU A)
noncomputable def nO (As:List (List aL)):MP:=(As.map mp).foldr (· * ·) 1
theorem DM (As):∀ L:List aL,mp (As.foldl aI L)=mp L * nO As:=by
 induction As with
 | nil=>intro L; show mp L=mp L * 1; grind
 | cons A As ih =>
  intro L
  rw [So,ih,fh]
  show _=mp L * (mp A * nO As)
  grind
theorem bB (n) (As):mp (jE n As)=(n:MP) * nO As:=by unfold jE; rw [DM,j0]
theorem DN (h:As.Perm Bs):nO As=nO Bs:=by
 induction h with
 | nil=>rfl
 | cons x _ ih=>exact congrArg (mp x * ·) ih
 | swap x y l=>show mp y * (mp x * nO l)=mp x * (mp y * nO l); grind
 | trans _ _ a b=>rw [a,b]
theorem DO (As) (A):nO (As++[A])=nO As * mp A:=by
 induction As with
 | nil=>show mp A * 1=1 * mp A; grind
 | cons B As ih=>show mp B * nO (As++[A])=mp B * nO As * mp A; rw [ih]; grind
theorem Ak (h:As.Perm Bs):bV As=bV Bs:=by
 unfold bV
 induction h with
 | nil=>rfl
 | cons x _ ih=>simp only [QW,Sn] at ih ⊢; rw [ih]
 | swap x y l=>simp only [QW,Sn]; rw [Nat.mul_left_comm]
 | trans _ _ a b=>rw [a,b]
theorem Al (As) (A):bV (As++[A])=bV As * max A.length 1:=by
 unfold bV
 induction As with
 | nil=>simp
 | cons B As ih=>simp only [SJ,QW,Sn] at ih ⊢; rw [ih,Nat.mul_assoc]
theorem DP (As):1≤bV As:=by
 unfold bV
 induction As with
 | nil=>exact QS _
 | cons B As ih=>simp only [QW,Sn]; exact Tt (m₁:=1) (n₁:=1) (by lia) ih
theorem Am (As) (i):bV (As.take i)≤bV As:=by
 induction As generalizing i with
 | nil=>simp
 | cons B As ih =>
  cases i with
  | zero=>exact DP _
  | succ i =>
   have:=ih i
   unfold bV at *
   simp only [List.take_succ_cons,QW,Sn]
   exact Nat.mul_le_mul_left _ this
noncomputable def Ex (m:Int) (L:List aL):Prop:=∀ t∈L,t.1.length≤6∧∀ x∈t.1,0≤x∧x≤m
noncomputable def Bn (m:Nat) (L:List aL):Prop:=∀ t∈L,t.2.natAbs<2 ^ m
theorem Ex.bd (h:Ex m L) (hm:m<2 ^ W):∀ t∈L,Bd (2 ^ W) t.1:=fun t ht=>⟨(h t ht).1,fun x hx=>⟨((h t ht).2 x hx).1,VC ((h t ht).2 x hx).2 hm⟩⟩
theorem DQ (h0:0≤m) (h:∀ x∈p,0≤x∧x≤m) (k):0≤bR p k∧bR p k≤m:=by
 by_cases z:k<p.length
 ·rw [dM z]; exact h _ (RI _)
 ·rw [cV (by lia)]; lia
theorem G1 (h0:0≤m) (g0:0≤n) (hp:p.length≤6∧∀ x∈p,0≤x∧x≤m) (hq:q.length≤6∧∀ x∈q,0≤x∧x≤n):(cC p q).length≤6∧∀ x∈cC p q,0≤x∧x≤m+n:=by
 refine ⟨by rw [jz]; lia,fun x hx=>?_⟩
 unfold cC at hx
 obtain ⟨k,_,rfl⟩:=Rj.mp hx
 have:=DQ h0 hp.2 k
 have:=DQ g0 hq.2 k
 lia
theorem Ex.prod (h0:0≤m) (g0:0≤n) (h:Ex m A) (g:Ex n B):Ex (m+n) (aI A B):=fun t ht=>by
 obtain ⟨l,hl,r,hr,rfl⟩:=gF ht
 exact G1 h0 g0 (h l hl) (g r hr)
theorem Ex.sum (h:Ex m L):Ex m (aV L):=by
 unfold aV
 suffices H:∀ (ts A:List aL),Ex m A→Ex m ts→Ex m (ts.foldl fX A) from H L [] (fun t ht=>by cases ht) h
 intro ts
 induction ts with
 | nil=>exact fun A hA _=>hA
 | cons u ts ih =>
  refine fun A hA hts=>ih _ (fun t ht=>?_) fun t ht=>hts t (Q9 _ ht)
  rcases tW ht with rfl | q
  ·have:=hts u Q6
   exact ⟨Q4 (gC _) this.1,fun x hx=>this.2 x (tR hx)⟩
  ·exact hA t q
theorem Ex.mono (h:Ex m L) (hn:m≤n):Ex n L:=fun t ht=>⟨(h t ht).1,fun x hx=>⟨((h t ht).2 x hx).1,Ry ((h t ht).2 x hx).2 hn⟩⟩
theorem Ex.app (h:Ex m A) (g:Ex m B):Ex m (A++B):=fun t ht=>(Rg.mp ht).elim (h t) (g t)
theorem Bn.mono (h:Bn m L) (hn:m≤n):Bn n L:=fun t ht=>RG (h t ht) (Vu (by decide) hn)
theorem Bn.prod (h:Bn m A) (g:Bn n B):Bn (m+n) (aI A B):=fun t ht=>by
 obtain ⟨l,hl,r,hr,rfl⟩:=gF ht
 show (l.2 * r.2).natAbs<_
 rw [VY,Nat.pow_add]
 exact Nat.mul_lt_mul'' (h l hl) (g r hr)
theorem Bn.sum (h:Bn m L) (hl:L.length<2 ^ 16):Bn (m+16) (aV L):=fun t ht=>by
 have:=KS (m:=2 ^ m) (fun t ht=>TJ (h t ht)) t ht
 refine Tc this ?_
 rw [Nat.pow_add,V8]
 exact Nat.mul_lt_mul_of_pos_left hl (Nat.two_pow_pos m)
theorem yj (h:a.natAbs<2 ^ m):Se a≤m+1:=by
 unfold Se
 by_cases z:a=0
 ·subst z; simp
 ·have e:(a == 0)=false:=by simpa using z
  rw [e,if_neg QZ]
  have:=(Wd (n:=a.natAbs) (k:=m) (by lia)).mpr h
  lia
theorem gQ (h:a.natAbs<2 ^ m) (g:b.natAbs<2 ^ n) (hm:m+n≤1000000):EV.MulOk a b:=by
 have h1:=yj h
 have h2:=yj g
 unfold EV.MulOk IntMulOk Builtin.Int.intTooBig bitsLine
 have e:decide (((Se a+Se b:Nat):Int)>((2 ^ 27:Nat):Int))=false:=by
  apply decide_eq_false
  rw [show (2:Nat) ^ 27=134217728 by decide]
  lia
 simp only [UY]
 rintro ⟨_,z⟩
 have z':=of_decide_eq_true z
 rw [show (2:Nat) ^ 27=134217728 by decide] at z'
 lia
structure dH (A:List aL):Prop where
 l:A.length≤20000
 e:Ex 120 A
 b:Bn 2000 A
structure dh (p:Part):Prop where
 n:p.1.natAbs<2 ^ 2000
 m:p.2.length≤8
 f:∀ A∈p.2,dH A
structure cz (ps:List Part):Prop where
 p:∀ p∈ps,dh p
 l:ps.length≤1000
 s:(ps.map fun p=>bV p.2).sum≤20000
theorem DR (A):0≤nN A:=Io _
theorem dH.mx (h:dH A):nN A≤120:=DI (by decide) fun t ht x hx=>((h.e t ht).2 x hx).2
theorem dH.ex (h:dH A):Ex (nN A) A:=fun t ht=>⟨(h.e t ht).1,fun x hx=>⟨((h.e t ht).2 x hx).1,DJ ht (h.e t ht).1 hx⟩⟩
noncomputable def rE (p:Part):Int:=(p.2.map nN).sum
theorem yk (As:List (List aL)):0≤(As.map nN).sum:=by
 induction As with
 | nil=>exact Sg _
 | cons A As ih=>rw [QW,UD]; have:=DR A; lia
theorem dh.sz (h:dh p):rE p≤960:=by
 have:∀ As:List (List aL),(∀ A∈As,dH A)→(As.map nN).sum≤120 * As.length:=fun As=>by
  induction As with
  | nil=>exact fun _=>by simp
  | cons A As ih =>
   intro hA
   have:=ih fun B hB=>hA B (Q9 _ hB)
   have:=(hA A Q6).mx
   rw [QW,UD,RH]; lia
 have h1:=this p.2 h.f
 have h2:=h.m
 unfold rE
 lia
noncomputable def gR (ps:List Part):Int:=ps.foldl (fun m p=>if rE p>m then rE p else m) 0
theorem pX (ps:List Part):∀ m:Int,m≤ps.foldl (fun m p=>if rE p>m then rE p else m) m:=by
 induction ps with
 | nil=>exact fun m=>Sg _
 | cons p ps ih=>intro m; rw [So]; refine Ry ?_ (ih _); split <;> lia
theorem G2 (h:p∈ps):rE p≤gR ps:=by
 unfold gR
 suffices H:∀ m:Int,rE p≤ps.foldl (fun m p=>if rE p>m then rE p else m) m from H 0
 induction ps with
 | nil=>cases h
 | cons q ps ih =>
  intro m
  rw [So]
  rcases Q0.mp h with rfl | h
  ·refine Ry ?_ (pX ps _)
   split <;> lia
  ·exact ih h _
theorem G3 (h:∀ p∈ps,dh p):gR ps≤960:=by
 unfold gR
 suffices H:∀ m:Int,m≤960→ps.foldl (fun m p=>if rE p>m then rE p else m) m≤960 from H 0 (by decide)
 induction ps with
 | nil=>exact fun m hm=>hm
 | cons q ps ih =>
  intro m hm
  rw [So]
  refine ih (fun p hp=>h p (Q9 _ hp)) _ ?_
  have:=(h q Q6).sz
  split <;> lia
noncomputable def DS (ps:List Part):Nat:=Se (gR ps)
theorem G4 (h:∀ p∈ps,dh p):DS ps≤10∧∀ p∈ps,rE p<2 ^ DS ps:=by
 have h0:0≤gR ps:=pX ps 0
 have h1:=G3 h
 exact ⟨bits_le (by lia),fun p hp=>VC (G2 hp) (G0 h0)⟩
theorem jF (x:α) (xs):EV.cutD (x::xs) (some 1) none=xs:=by
 unfold EV.cutD HT.cj; simp
noncomputable def DT:Fn:=fun ds r=>∃ ps:List Part,(∀ p∈ps,dh p)∧ds=[.lst (ps.map gP)]∧r=.ok (.va (.int (DS ps:Nat)))
theorem NB (h:∀ p∈ps,dh p):DT [.lst (ps.map gP)] (.ok (.va (.int (DS ps:Nat)))):=⟨ps,h,rfl,rfl⟩
section
local macro_rules | `(tactic| walk_at "evMt")=> `(tactic| with_reducible refine Ky ?_)
local macro_rules | `(tactic| walk_at "evCa")=> `(tactic| first
 | ((with_reducible show aH _ (RK (Rh "max" _) [_] _ _) _ _); with_reducible refine KA (Txt.max (by assumption)) ?_)
 | ((with_reducible show aH _ (RK (Rh "max" _) [_,_] _ _) _ _); with_reducible refine Cr (Txt.max (by assumption)) ?_)
 | ((with_reducible show aH _ (RK (Rh "sum" _) _ _ _) _ _); with_reducible refine KC (Txt.sum (by assumption)) ?_)
 | with_reducible refine bz (F:=nG) (by assumption) (by decide) ?_)
theorem Lg (Fu:dR K "width_of" "width_of" gJ f fd) (T:Txt K mg) (h1:bJ P w K mg base 1 "greatest_powers" nG):bf P w K mg base (cO P w) 2 f fd ["parts"] (dU K DT):=by
 refine ck Fu ue uf (by rintro ds r ⟨ps,_,rfl,_⟩; rfl) (by rintro ds r ⟨ps,_,_,rfl⟩; exact ⟨_,rfl⟩) fun c hq ds sl hF=>?_
 obtain ⟨ps,hp,rfl,e⟩:=hF
 injection e with e
 subst e
 show aN c _ [.va (.lst (ps.map gP)),.un,.un] _ _
 conv in (aq _)=>whnf
 walk_at "ev"
 with_reducible refine cG hq (cL ?_)
 walk_at "ev"
 refine ⟨fun i ρ'=>∃ s2:Sl,ρ'=[.va (.lst (ps.map gP)),.va (.int (gR (ps.take i))),s2],⟨_,rfl⟩,?_,?_⟩
 ·rintro c' nP uJ uK i d ρ' hd ⟨s2,rfl⟩
  simp only [Q3,Q7] at hd
  obtain ⟨p,hpx,rfl⟩:=hd
  obtain ⟨hi,rfl⟩:=Q2.mp hpx
  have hpo:=hp ps[i] (RI hi)
  have eg:gR (ps.take (i+1))=if rE ps[i]>gR (ps.take i) then rE ps[i] else gR (ps.take i):=by
   unfold gR; rw [Sa hi,WX]; rfl
  generalize ps[i]=p at hpo eg ⊢
  show nX c' _ (.tup (.int p.1::p.2.map aR)) _ _
  walk_at "ev"
  refine e_x (d9 (show c'.X.xe=jO by rw [nP]; exact hq) (N':=["some"]) (ρ0:=fun _=>[.un]) (fun t=>.un .nil) (cL ?_))
  walk_at "ev"
  ·rw [jF,QU]; exact jA (by have:=hpo.m; lia)
  rw [jF]
  refine ⟨p.2.map fun A=>some (.int (nN A)),by simp,?_,d8 ?_⟩
  ·intro c2 hc2 t j d o hd ho
   simp only [Q3,Q7] at hd ho
   obtain ⟨A,hA,rfl⟩:=hd
   obtain ⟨A',hA',rfl⟩:=ho
   rw [hA] at hA'; cases hA'
   have hf:=hpo.f A (Si hA)
   refine dJ (by walk_at "at") (wR (by walk_at "sset") ⟨.un .nil,?_⟩)
   simp only [sE]
   refine ⟨fun _=>?_,fun h=>by cases h⟩
   show aH c2 _ [.va (.lst (A.map au))] _
   walk_at "ev"
   refine aF (GW fun t ht=>(hf.e t ht).1) (d8 ⟨eU A,by simp [eU],rfl,fun m ⟨m1,m2⟩=>?_⟩)
   rw [DC m1 m2]; rfl
  ·rw [fQ]
   refine ⟨p.2.map nN,by rw [Rv]; rfl,?_⟩
   walk_at "ev"
   refine ⟨.va (gP p),?_⟩
   rw [eg]; rfl
 ·rintro ρ' ⟨s2,rfl⟩
  rw [QU,R9]
  walk_at "ev"
  rfl
end
end
section
variable {P:Program} {w:World} {K:QM} {mg:Str→Option Value} {base:Heap}
theorem G5 (x:α) (xs):kr (x::xs) 0=some x:=by rw [ji (by decide) (by simp)]; rfl
theorem Lh (b):pk b []=0:=(jw (g:=fun _=>0) fun i _=>cV (Rq _)).trans (jx _)
theorem Ip (b n):(cT n).map (uv b)=[.tup [.int 0,.int n]]:=by show [D.tup [.int (pk b []),.int n]]=_; rw [Lh]
theorem DU (xs:List α):EV.cutD xs none (some (-1))=xs.dropLast:=by
 unfold EV.cutD HT.cj
 rw [Wx]
 simp only [List.drop_zero]
 congr 1
 split <;> lia
theorem G6 (xs) (x:α):kr (xs++[x]) (-1)=some x:=by
 rw [xr (by decide) (by simp; lia),show (-1+((xs++[x]).length:Int)).toNat=xs.length by simp; lia]
 simp
noncomputable def OM (b:Int) (A:List aL):D:=.lst (A.map (uv b))
theorem DV {α β:Type} {f:α→β} {L:List α} {M:List β} (h:M.Perm (L.map f)):∃ L':List α,L'.Perm L∧M=L'.map f:=by
 have p:∀ L:List α,Paired (fun a b=>b=f a) L (L.map f):=fun L=>by
  induction L with
  | nil=>exact .nil
  | cons x L ih=>exact .cons rfl ih
 obtain ⟨L',h1,h2⟩:=SR.gB h (p L)
 refine ⟨L',h1,?_⟩
 clear h1 h p
 induction h2 with
 | nil=>rfl
 | cons r _ ih=>rw [r,ih]; rfl
theorem An (C):(LR C).pairs=some (C.map fun c=>D.tup [.int c.1,.int c.2]):=by
 show some _=some _
 congr 1
 unfold cM
 rw [Rv,Rv,VM,VD]
 rfl
theorem Ao (b) (L:List aL):(LR (L.map (gE b))).pairs=some (L.map (uv b)):=by
 rw [An,Rv]; rfl
theorem Li (b) (L:List aL):D.qz (L.map (uv b)):=fT fun x _=>qA (by unfold D.qz; exact ⟨jP,by unfold D.qz; exact ⟨jP,by unfold D.qz; trivial⟩⟩)
structure Way (n:Int) (As:List (List aL)) (L:List aL):Prop where
 m:mp L=(n:MP) * nO As
 l:L.length≤bV As
 e:Ex (As.map nN).sum L
 b:Bn (2000+2016 * As.length) L
theorem G7 {n:Int} (h:n.natAbs<2 ^ 2000):Way n [] (cT n) where
 m:=by rw [j0]; show _=_ * (1:MP); grind
 l:=QS _
 e:=fun t ht=>by
  have:t=([],n):=by simpa [cT] using ht
  subst this
  exact ⟨Rq _,fun x hx=>by cases hx⟩
 b:=fun t ht=>by
  have:t=([],n):=by simpa [cT] using ht
  subst this
  exact h
theorem v5:dH (cT 1) where
 l:=by show (1:Nat)≤_; lia
 e:=fun t ht=>by
  have:t=([],1):=by simpa [cT] using ht
  subst this
  exact ⟨Rq _,fun x hx=>by cases hx⟩
 b:=fun t ht=>by
  have:t=([],1):=by simpa [cT] using ht
  subst this
  exact UU (by decide)
theorem Aq (As) (A):((As++[A]).map nN).sum=(As.map nN).sum+nN A:=by
 rw [Ra,UC]; simp
theorem nH (h:Way n As L) (f:dH A):mp (aI L A)=(n:MP) * nO (As++[A])∧(aI L A).length≤bV (As++[A])∧Ex ((As++[A]).map nN).sum (aI L A)∧Bn (2000+2016 * As.length+2000) (aI L A):=by
 refine ⟨?_,?_,?_,h.b.prod f.b⟩
 ·rw [fh,h.m,DO]; grind
 ·rw [dG,Al]; exact Tt h.l (by lia)
 ·rw [Aq]; exact Ex.prod (yk _) (DR _) h.e f.ex
theorem DW (h:Way n As L) (f:dH A) (hl:bV (As++[A])≤20000):Way n (As++[A]) (aV (aI L A)):=by
 obtain ⟨h1,h2,h3,h4⟩:=nH h f
 refine ⟨by rw [K3,h1],Q4 (g6 _) h2,h3.sum,(h4.sum (Tc (Q4 h2 hl) (by decide))).mono ?_⟩
 rw [Rr,Sb]; lia
theorem DX {As Bs:List (List aL)} (h:As.Perm Bs):(As.map nN).sum=(Bs.map nN).sum:=by
 induction h with
 | nil=>rfl
 | cons x _ ih=>rw [QW,UD,QW,UD,ih]
 | swap x y l=>simp only [QW,UD]; lia
 | trans _ _ a b=>rw [a,b]
theorem DY (As:List (List aL)) (i):((As.take i).map nN).sum≤(As.map nN).sum:=by
 have e:(As.map nN).sum=((As.take i).map nN).sum+((As.drop i).map nN).sum:=by rw [← UC,← Ra,S0]
 have:=yk (As.drop i)
 lia
noncomputable def rA:OF:=fun kvs ds Z=>∃ (ts:List aL) (p:Part) (W:Nat),W≤10∧dh p∧rE p<2 ^ W∧ts.length+bV p.2≤20000∧(∀ t∈ts,Bd (2 ^ W) t.1)∧kvs=cM ((aV ts).map (gE (2 ^ W)))∧ds=[gP p,.int (W:Nat)] ∧
 Z=fun kvs'=>∃ X,mp X=mp (jE p.1 p.2)∧X.length≤bV p.2∧(∀ t∈X,Bd (2 ^ W) t.1)∧kvs'=cM ((aV (ts++X)).map (gE (2 ^ W)))
section
local macro_rules | `(tactic| walk_at "evX")=> `(tactic| first | ((with_reducible show dz _ (Expr.Dict _ _ _) _ _); with_reducible refine w9 ?_))
local macro_rules | `(tactic| walk_at "evXC")=> `(tactic| first
 | ((with_reducible show dz _ (RK (Rh "sorted" _) _ _ _) _ _); with_reducible refine zG (Txt.sorted (by assumption)) (Txt.len (by assumption)) ?_)
 | ((with_reducible show dz _ (RK (Rh "list" _) [RK _ _ _ _] _ _) _ _); refine vd 6 (by walk_at "at") rfl (by walk_at "sset") (tY (Txt.list (by assumption)) ?_)))
local macro_rules | `(tactic| walk_at "evXp")=> `(tactic| with_reducible refine xT (F:=GZ) (by assumption) (by decide) (by walk_at "at") (by walk_at "at") (by walk_at "own") ?_)
theorem DZ (Fu:dR K "add_part" "add_part" gK f fd) (T:Txt K mg) (h1:bJ P w K mg base 2 "packed" uw) (h2:zj P w K mg base 1 "add_products" GZ):bf P w K mg base (cO P w) 3 f fd ["whole","part","width"] (Kx K rA):=by
 refine Ng Fu ug uh (by rintro kvs ds Z ⟨ts,p,W,_,_,_,_,_,_,rfl,_⟩; rfl) fun c hq q kvs ds Z hF=>?_
 obtain ⟨ts,p,W,hW,hp,hsz,hl,hb,rfl,rfl,rfl⟩:=hF
 show aN c _ [.aK q (cM ((aV ts).map (gE (2 ^ W)))),.va (.tup (.int p.1::p.2.map aR)),.va (.int (W:Nat)),.un,.un,.un,.un] _ _
 conv in (aq _)=>whnf
 walk_at "ev"
 refine e_x (d9 hq (N':=["some","width"]) (ρ0:=fun _=>[.un,.va (.int (W:Nat))]) (fun t=>.un (.fr (by walk_at "at") (by walk_at "at") (by decide) rfl .nil)) (cL ?_))
 walk_at "ev"
 ·rw [jF,QU]; exact jA (by have:=hp.m; lia)
 rw [jF]
 refine ⟨p.2.map fun A=>some (OM (2 ^ W) A),by simp,?_,d8 ?_⟩
 ·intro c2 hc2 t j d o hd ho
  simp only [Q3,Q7] at hd ho
  obtain ⟨A,hA,rfl⟩:=hd
  obtain ⟨A',hA',rfl⟩:=ho
  rw [hA] at hA'; cases hA'
  have hm:=Si hA
  have hf:=hp.f A hm
  refine dJ (by walk_at "at") (wR (by walk_at "sset") ⟨.un (.same .nil),?_⟩)
  simp only [sE]
  refine ⟨fun _=>?_,fun h=>by cases h⟩
  show aH c2 _ [.va (.lst (A.map au)),_] _
  refine bz (F:=uw) h1 (by decide) ?_
  walk_at "ev"
  have hx:nN A<2 ^ W:=by
   refine VC ?_ hsz
   obtain ⟨l,r,e⟩:=List.append_of_mem hm
   unfold rE
   rw [e,Ra,QW,UC,UD]
   have:=yk l
   have:=yk r
   lia
  exact aF (Ld hW hf.l (hf.ex.bd hx)) (d8 rfl)
 rw [fQ]
 refine ⟨_,rfl,fun x hx=>by obtain ⟨A,_,rfl⟩:=Rj.mp hx; exact ⟨_,rfl⟩,fun ds' hp'=>?_⟩
 obtain ⟨As,hpm,rfl⟩:=DV hp'
 have Aw:∀ A∈As,dH A:=fun A hA=>hp.f A (hpm.mem_iff.mp hA)
 have hpl:=Ak hpm
 have hps:=DX hpm
 have hlen:=hpm.length_eq
 refine wR (by walk_at "sset") ?_
 with_reducible refine gw 3 (by walk_at "at") rfl (by walk_at "sset") ?_
 walk_at "ev"
 refine r9 (G5 _ _) ?_
 walk_at "ev"
 with_reducible refine sG 4 (by walk_at "at") rfl (by walk_at "sset") ?_
 rw [← Ip (2 ^ W) p.1]
 with_reducible refine cG hq (cL ?_)
 walk_at "ev"
 rw [DU]
 have hcap:∀ i,bV (As.take i)≤20000:=fun i=>Q4 (Am As i) (by lia)
 have hm8:As.length≤8:=by rw [hlen]; exact hp.m
 have oH:∀ (i:Nat) (L A:List aL),As[i]?=some A→Way p.1 (As.take i) L→dH A∧As.take (i+1)=As.take i++[A]∧mp (aI L A)=(p.1:MP) * nO (As.take (i+1))∧(aI L A).length≤bV (As.take (i+1))∧(∀ l∈L,∀ r∈A,Bd (2 ^ W) (cC l.1 r.1)∧EV.MulOk l.2 r.2)∧L.length≤20000:=fun i L A hA hw=>by
  obtain ⟨hi,rfl⟩:=Q2.mp hA
  have hf:=Aw As[i] (RI hi)
  have et:As.take (i+1)=As.take i++[As[i]]:=Sa hi
  obtain ⟨q1,q2,q3,q4⟩:=nH hw hf
  rw [← et] at q1 q2 q3
  refine ⟨hf,et,q1,q2,fun l hl r hr=>⟨?_,?_⟩,Q4 hw.l (hcap i)⟩
  ·have hm:dY l r∈aI L As[i]:=W8.mpr ⟨l,hl,Rj.mpr ⟨r,hr,rfl⟩⟩
   have hx:=DY As (i+1)
   exact q3.bd (by unfold rE at hsz; lia) _ hm
  ·refine gQ (hw.b l hl) (hf.b r hr) ?_
   rw [Rx]; lia
 refine ⟨fun i ρ'=>∃ (L:List aL) (s5 s6:Sl),Way p.1 (As.take i) L∧ρ'=[.aK q (cM ((aV ts).map (gE (2 ^ W)))),.va (.tup (.int p.1::p.2.map aR)),.va (.int (W:Nat)),.va (.lst (As.map (OM (2 ^ W)))),.va (.lst (L.map (uv (2 ^ W)))),s5,s6],⟨_,_,_,G7 hp.n,rfl⟩,?_,?_⟩
 ·rintro c' nP uJ uK i d ρ' hd ⟨L,s5,s6,hw,rfl⟩
  rw [← List.map_dropLast] at hd
  simp only [Q3,Q7] at hd
  obtain ⟨A,hA,rfl⟩:=hd
  rw [List.getElem?_dropLast] at hA
  replace hA:As[i]?=some A:=by
   split at hA
   ·exact hA
   ·cases hA
  obtain ⟨hf,et,q1,q2,q3,q4⟩:=oH i L A hA hw
  have q5:=hcap (i+1)
  have q6:=DW hw hf (by rw [← et]; exact q5)
  rw [← et] at q6
  show nX c' _ (.lst (A.map (uv (2 ^ W)))) _ _
  walk_at "ev"
  refine ⟨_,⟨[],L,A,W,hW,by rw [dG] at q2; show 0+_≤_; lia,q4,hf.l,(by intro t ht; cases ht),q3,rfl,rfl,rfl⟩,?_⟩
  rintro kvs' rfl
  walk_at "ev"
  refine ⟨_,Ao _ _,Li _ _,?_⟩
  repeat ((fail_if_success (with_reducible show aN _ [] _ _ _)); walk_at "ev1")
  with_reducible refine gw 4 (by walk_at "at") rfl (by walk_at "sset") ?_
  walk_at "ev"
  exact ⟨_,_,_,q6,rfl⟩
 ·rintro ρ' ⟨L,s5,s6,hw,rfl⟩
  rw [List.length_dropLast,QU] at hw
  walk_at "ev"
  ·have hne:As≠[]:=by rintro rfl; simp at *
   obtain ⟨i0,A,e0⟩:∃ i0 A,As=i0++[A]:=⟨As.dropLast,As.getLast hne,(List.dropLast_concat_getLast hne).symm⟩
   have ei:As.length - 1=i0.length:=by rw [e0]; simp
   have hA:As[As.length - 1]?=some A:=by rw [ei,e0]; simp
   have etl:As.take (As.length - 1+1)=As:=UO (by lia)
   obtain ⟨hf,et,q1,q2,q3,q4⟩:=oH _ L A hA hw
   rw [etl] at q1 q2
   refine o9 (show kr (As.map (OM (2 ^ W))) (-1)=some (OM (2 ^ W) A) by rw [e0,Ra]; exact G6 _ _) ?_
   walk_at "ev"
   refine ⟨_,⟨ts,L,A,W,hW,by rw [dG] at q2; lia,q4,hf.l,hb,q3,rfl,rfl,rfl⟩,?_⟩
   rintro kvs' rfl
   walk_at "ev"
   refine ⟨_,_,⟨aI L A,by rw [q1,bB,DN hpm],by rw [← hpl]; exact q2,fun t ht=>?_,rfl⟩,rfl⟩
   obtain ⟨l,hl,r,hr,rfl⟩:=gF ht
   exact (q3 l hl r hr).1
  ·have e0:As=[]:=by
    cases As with
    | nil=>rfl
    | cons A As=>simp at *
   have hw0:Way p.1 [] L:=by rw [e0] at hw; exact hw
   have p0:p.2=[]:=List.length_eq_zero_iff.mp (by rw [← hlen,e0]; rfl)
   obtain ⟨q1,q2,q3,q4⟩:=nH hw0 v5
   have hL:L.length≤1:=hw0.l
   have q5:(aI L (cT 1)).length≤1:=q2
   have h0W:(0:Int)<2 ^ W:=two_pos W
   have hx:(([]++[cT 1]:List (List aL)).map nN).sum<2 ^ W:=h0W
   have hp1:bV p.2=1:=by rw [p0]; rfl
   rw [← Ip (2 ^ W) 1]
   refine ⟨_,⟨ts,L,cT 1,W,hW,by rw [dG] at q5; lia,by lia,v5.l,hb,fun l hl r hr=>⟨?_,?_⟩,rfl,rfl,rfl⟩,?_⟩
   ·exact q3.bd hx _ (W8.mpr ⟨l,hl,Rj.mpr ⟨r,hr,rfl⟩⟩)
   ·exact gQ (hw0.b l hl) (v5.b r hr) (by show 2000+2016 * 0+2000≤_; lia)
   rintro kvs' rfl
   walk_at "ev"
   refine ⟨_,_,⟨aI L (cT 1),?_,by rw [hp1]; exact q5,q3.bd hx,rfl⟩,rfl⟩
   rw [q1,bB,p0]
   show _ * (mp (cT 1) * 1)=_ * (1:MP)
   rw [j0]
   show _ * ((1:MP) * 1)=_ * (1:MP)
   grind
end
end
section
variable {K:QM}
theorem uz (ps) (p:Part):mp (dQ (ps++[p]))=mp (dQ ps)+mp (jE p.1 p.2):=by
 unfold dQ
 rw [List.flatMap_append,iN]
 congr 1
 rw [R8,SI,Ru]
theorem uA (l:List Nat) (i):(l.take i).sum≤l.sum:=by
 rw [← S0 i l,UC,S0]; lia
noncomputable def iz:Fn:=fun ds r=>∃ ps:List Part,cz ps∧ds=[.lst (ps.map gP)]∧r=.ok (.ow ((aG (dQ ps)).map au))
theorem iC (h:cz ps):iz [.lst (ps.map gP)] (.ok (.ow ((aG (dQ ps)).map au))):=⟨ps,h,rfl,rfl⟩
section
local macro_rules | `(tactic| walk_at "evX")=> `(tactic| first | ((with_reducible show dz _ (Expr.Dict _ _ _) _ _); with_reducible refine w9 ?_))
local macro_rules | `(tactic| walk_at "evCa")=> `(tactic| first | with_reducible refine bz (F:=DT) (by assumption) (by decide) ?_)
local macro_rules | `(tactic| walk_at "evXp")=> `(tactic| with_reducible refine xT (F:=rA) (by assumption) (by decide) (by walk_at "at") (by walk_at "at") (by walk_at "own") ?_)
local macro_rules | `(tactic| walk_at "evXC")=> `(tactic| first | ((with_reducible show dz _ (RK (Rh "unpacked" _) _ _ _) _ _); refine vd 2 (by walk_at "at") rfl (by walk_at "sset") (x_call (F:=DG) (by assumption) (by decide) ?_)))
theorem Lj (Fu:dR K "poly_total" "poly_total" fj f fd) (T:Txt K mg) (h1:bJ P w K mg base 2 "width_of" DT) (h2:zj P w K mg base 3 "add_part" rA) (h3:bJ P w K mg base 3 "unpacked" DG):bf P w K mg base (cO P w) 4 f fd ["parts"] (dU K iz):=by
 refine ck Fu oi oj (by rintro ds r ⟨ps,_,rfl,_⟩; rfl) (by rintro ds r ⟨ps,_,_,rfl⟩; exact ⟨_,rfl⟩) fun c hq ds sl hF=>?_
 obtain ⟨ps,h,rfl,e⟩:=hF
 injection e with e
 subst e
 show aN c _ [.va (.lst (ps.map gP)),.un,.un,.un] _ _
 conv in (aq _)=>whnf
 obtain ⟨hW,hsz⟩:=G4 h.p
 walk_at "ev"
 refine aF (NB h.p) ?_
 walk_at "ev"
 generalize DS ps=W at hW hsz ⊢
 with_reducible refine cG hq (cL ?_)
 walk_at "ev"
 refine ⟨fun i ρ'=>∃ (ts:List aL) (s3:Sl),mp ts=mp (dQ (ps.take i))∧ts.length≤((ps.take i).map fun p=>bV p.2).sum∧(∀ t∈ts,Bd (2 ^ W) t.1)∧ρ'=[.va (.lst (ps.map gP)),.va (.int (W:Nat)),.oK (cM ((aV ts).map (gE (2 ^ W)))),s3],⟨[],_,rfl,QS _,(by intro t ht; cases ht),rfl⟩,?_,?_⟩
 ·rintro c' nP uJ uK i d ρ' hd ⟨ts,s3,hm,hl,hb,rfl⟩
  simp only [Q3,Q7] at hd
  obtain ⟨p,hpx,rfl⟩:=hd
  obtain ⟨hi,rfl⟩:=Q2.mp hpx
  have et:ps.take (i+1)=ps.take i++[ps[i]]:=Sa hi
  have hmem:ps[i]∈ps:=RI hi
  have hcap:((ps.take (i+1)).map fun p=>bV p.2).sum≤20000:=by rw [List.map_take]; exact Q4 (uA _ _) h.s
  have ec:((ps.take (i+1)).map fun p=>bV p.2).sum=((ps.take i).map fun p=>bV p.2).sum+bV ps[i].2:=by rw [et,Ra,UC]; simp
  rw [ec] at hcap
  walk_at "ev"
  refine ⟨_,⟨ts,ps[i],W,hW,h.p _ hmem,hsz _ hmem,by lia,hb,rfl,rfl,rfl⟩,?_⟩
  rintro kvs' ⟨X,x1,x2,x3,rfl⟩
  walk_at "ev"
  refine ⟨ts++X,.va (gP ps[i]),?_,?_,fun t ht=>(Rg.mp ht).elim (hb t) (x3 t),rfl⟩
  ·rw [iN,hm,x1,et,uz]
  ·rw [ec,Rr]; lia
 ·rintro ρ' ⟨ts,s3,hm,hl,hb,rfl⟩
  rw [QU,R9] at hm hl
  walk_at "ev"
  refine aF (Nz (ts:=ts) hW (by have:=h.s; lia) hb) ⟨fT fun x _=>rm x,?_⟩
  show Sl.ow _=Sl.ow _
  rw [bZ hm]
end
end
section
variable {K:QM}
noncomputable def yl:Nat→Int→List Int×Int
 | 0,r=>([],r)
 | i+1,r=>((yl i r).1++[(yl i r).2 / 5 % 4],(yl i r).2 / 4)
noncomputable def Ay (n:Int):aL :=
 if n % 2=1 then ((yl (n / 2 % 5).toNat (n / 2)).1,(yl (n / 2 % 5).toNat (n / 2)).2 / 5 % (2 * 10 ^ SY 9+1) - 10 ^ SY 9)
 else ((Rt (thing (n / 2) 0 4).toNat).map fun (i:Nat)=>thing (n / 2) (1+(i:Int)) 2,thing (n / 2) 9 7 - 3)
theorem ym (i) (r):(yl i r).1.length=i:=by
 induction i with
 | zero=>rfl
 | succ i ih=>simp [yl,ih]
theorem Lk (i) (r):∀ x∈(yl i r).1,0≤x∧x≤3:=by
 induction i with
 | zero=>intro x hx; cases hx
 | succ i ih =>
  intro x hx
  simp only [yl,Rg,Q8] at hx
  rcases hx with hx | rfl
  ·exact ih x hx
  ·lia
noncomputable def Qq (t:aL):Prop:=t.1.length≤4∧(∀ x∈t.1,0≤x∧x≤3)∧t.2.natAbs<2 ^ 31
theorem Ll (n):Qq (Ay n):=by
 unfold Ay
 split
 ·refine ⟨by rw [ym]; lia,Lk _ _,?_⟩
  show ((yl (n / 2 % 5).toNat (n / 2)).2 / 5 % (2 * 1000000000+1) - 1000000000).natAbs<2 ^ 31
  lia
 ·have h4:=jD (n / 2) 0 (m:=4) (by decide)
  have h7:=jD (n / 2) 9 (m:=7) (by decide)
  refine ⟨by simp; lia,fun x hx=>?_,?_⟩
  ·obtain ⟨i,_,rfl⟩:=Rj.mp hx
   have:=jD (n / 2) (1+(i:Int)) (m:=2) (by decide)
   lia
  ·show (thing (n / 2) 9 7 - 3).natAbs<2 ^ 31
   lia
theorem gS (n):(n8 0 n).length=n:=by simp [n8]
noncomputable def D0:Fn:=fun ds r=>∃ n:Int,ds=[.int n]∧r=.ok (.va (au (Ay n)))
theorem NC (n):D0 [.int n] (.ok (.va (au (Ay n)))):=⟨n,rfl,rfl⟩
section
local macro_rules | `(tactic| walk_at "side")=> `(tactic| exact jf _)
local macro_rules | `(tactic| walk_at "evCa")=> `(tactic| with_reducible refine bz (F:=nF) (by assumption) (by decide) ?_)
local macro_rules | `(tactic| walk_at "evR")=> `(tactic| first | with_reducible refine aF (GN ?_ ?_ ?_) ?_)
theorem Ln (Fu:dR K "_law_small_term" "_law_small_term" dO f fd) (T:Txt K mg) (h1:bJ P w K mg base 1 "_law_thing" nF):bf P w K mg base (cO P w) 2 f fd ["_law_cell_here"] (dU K D0):=by
 refine ck Fu kR kT (by rintro ds r ⟨n,rfl,_⟩; rfl) (by rintro ds r ⟨n,_,rfl⟩; exact ⟨_,rfl⟩) fun c hq ds sl hF=>?_
 obtain ⟨n,rfl,e⟩:=hF
 injection e with e
 subst e
 show aN c _ [.va (.int n),.un,.un,.un] _ _
 conv in (aq _)=>whnf
 walk_at "ev"
 ·with_reducible refine cG hq (dB (Txt.range (by assumption)) ?_)
  walk_at "ev"
  ·exact ⟨by lia,by lia⟩
  refine ⟨fun i ρ'=>∃ s4:Sl,ρ'=[.va (.int n),.va (.int (yl i (n / 2)).2),.ow ((yl i (n / 2)).1.map .int),s4],⟨.un,rfl⟩,?_,?_⟩
  ·rintro c' nP uJ uK i d ρ' hd ⟨s4,rfl⟩
   obtain ⟨hi,rfl⟩:=eZ hd
   have hlen:((yl i (n / 2)).1.map D.int).length=i:=by rw [QU,ym]
   walk_at "ev"
   ·exact c8 (by lia)
   ·refine ⟨.va (.int (i:Int)),?_⟩
    show [_,_,Sl.ow _,_]=_
    simp only [yl,Ra,QW,RJ]
  ·rintro ρ' ⟨s4,rfl⟩
   rw [gS]
   walk_at "ev"
   all_goals first
    | exact sH (by decide)
    | decide
    | exact ⟨by decide,by decide,by decide +kernel⟩
    | (show Sl.va _=Sl.va _; unfold Ay; rw [if_pos (by assumption)])
 ·have t4:=jD (n / 2) 0 (m:=4) (by decide)
  with_reducible refine cG hq (dB (Txt.range (by assumption)) ?_)
  walk_at "ev"
  ·decide
  ·decide
  ·decide
  walk_at "ev"
  ·exact ⟨by lia,by lia⟩
  refine ⟨fun i ρ'=>∃ s4:Sl,ρ'=[.va (.int n),.va (.int (n / 2)),.ow (((Rt i).map fun (i:Nat)=>thing (n / 2) (1+(i:Int)) 2).map .int),s4],⟨.un,rfl⟩,?_,?_⟩
  ·rintro c' nP uJ uK i d ρ' hd ⟨s4,rfl⟩
   obtain ⟨hi,rfl⟩:=eZ hd
   have hlen:(((Rt i).map fun (i:Nat)=>thing (n / 2) (1+(i:Int)) 2).map D.int).length=i:=by simp
   walk_at "ev"
   ·decide
   ·decide
   ·lia
   walk_at "ev"
   ·exact c8 (by lia)
   ·refine ⟨.va (.int (i:Int)),?_⟩
    show [_,_,Sl.ow _,_]=_
    simp only [List.range_succ,Ra,QW,RJ]
  ·rintro ρ' ⟨s4,rfl⟩
   rw [gS]
   walk_at "ev"
   ·decide
   ·decide
   ·decide
   walk_at "ev"
   show Sl.va _=Sl.va _
   unfold Ay
   rw [if_neg (by assumption)]
end
end
section
variable {K:QM}
theorem D9 {xs:List α} {lo hi:Option Int} {x:α} (h:x∈EV.cutD xs lo hi):x∈xs:=List.mem_of_mem_drop (Vw h)
theorem Ea (xs:List α):(EV.cutD xs none (some 4)).length≤4:=by
 unfold EV.cutD
 have:HT.cj xs.length xs.length (some 4)≤4:=by
  simp only [HT.cj,show ¬ ((4:Int)<0) by decide,if_false]
  exact Nat.min_le_left _ _
 rw [Rx]; lia
noncomputable def ki (cs:List Int) (o:Int) (k:Int):List aL:=EV.cutD ((stp cs (some (3 * o+k)) none (some 9)).map Ay) none (some 4)++[([],k+1)]
theorem nI (cs) (o k):(ki cs o k).length≤5:=by
 unfold ki
 rw [Rr]
 have:=Ea ((stp cs (some (3 * o+k)) none (some 9)).map Ay)
 simp only [Sb]; lia
theorem lG (cs) (o k) (hk:k.natAbs<5):∀ t∈ki cs o k,Qq t:=by
 intro t ht
 unfold ki at ht
 rcases Rg.mp ht with h | h
 ·obtain ⟨n,_,rfl⟩:=Rj.mp (D9 h)
  exact Ll n
 ·rw [Q8] at h
  subst h
  exact ⟨Rq _,(by intro x hx; cases hx),by show (k+1).natAbs<2 ^ 31; lia⟩
noncomputable def QI (cs:List Int) (o:Int):List (List aL):=(Rt 3).map fun (k:Nat)=>aG (ki cs o k)
noncomputable def Eb:Fn:=fun ds r=>∃ (cs:List Int) (o:Int),o.natAbs<10∧cs.length≤1000∧ds=[.lst (cs.map .int),.int o]∧r=.ok (.va (.tup ((QI cs o).map aR)))
theorem ND {i:Nat} (h:i<3):kr [D.int 1,D.int 2,D.int 3] (i:Int)=some (D.int ((i:Int)+1)):=by
 obtain rfl | rfl | rfl:i=0∨i=1∨i=2:=by lia
 all_goals rfl
section
local macro_rules | `(tactic| walk_at "side")=> `(tactic| exact jf _)
local macro_rules | `(tactic| walk_at "evCa")=> `(tactic| first | with_reducible refine bz (F:=D0) (by assumption) (by decide) ?_)
local macro_rules | `(tactic| walk_at "evR")=> `(tactic| first | with_reducible refine aF (NC _) ?_)
theorem Ec (Fu:dR K "_law_three" "_law_three" iT f fd) (T:Txt K mg) (h1:bJ P w K mg base 2 "_law_small_term" D0) (h2:bJ P w K mg base 2 "_law_sum" gq):bf P w K mg base (cO P w) 3 f fd ["_law_cells","_law_offset"] (dU K Eb):=by
 refine ck Fu vQ vR (by rintro ds r ⟨cs,o,_,_,rfl,_⟩; rfl) (by rintro ds r ⟨cs,o,_,_,_,rfl⟩; exact ⟨_,rfl⟩) fun c hq ds sl hF=>?_
 obtain ⟨cs,o,ho,hl,rfl,e⟩:=hF
 injection e with e
 subst e
 show aN c _ [.va (.lst (cs.map .int)),.va (.int o),.un,.un,.un,.un] _ _
 conv in (aq _)=>whnf
 walk_at "ev"
 with_reducible refine cG hq (dB (Txt.range (by assumption)) ?_)
 walk_at "ev"
 ·exact ⟨by decide,by decide⟩
 refine ⟨fun i ρ'=>∃ s3 s4 s5:Sl,ρ'=[.va (.lst (cs.map .int)),.va (.int o),.ow (((Rt i).map fun (k:Nat)=>aG (ki cs o k)).map aR),s3,s4,s5],⟨_,_,_,rfl⟩,?_,?_⟩
 ·rintro c' nP uJ uK i d ρ' hd ⟨s3,s4,s5,rfl⟩
  obtain ⟨hi,rfl⟩:=eZ hd
  have hi':i<3:=hi
  walk_at "ev"
  refine cG (by rw [nP]; exact hq) (cL (e_x (Np ?_)))
  walk_at "ev"
  ·exact sH (by decide)
  refine ⟨_,9,rfl,rfl,by decide,?_⟩
  rw [GF]
  walk_at "ev"
  refine ⟨fun j ρ''=>∃ s5:Sl,ρ''=[.va (.lst (cs.map .int)),.va (.int o),.ow (((Rt i).map fun (k:Nat)=>aG (ki cs o k)).map aR),.va (.int (i:Int)),.ow (((((stp cs (some (3 * o+i)) none (some 9)).take j).map Ay).map au)),s5],⟨_,rfl⟩,?_,?_⟩
  ·rintro c'' hdX hdR hdM j d ρ'' hd ⟨s5,rfl⟩
   simp only [Q3,Q7] at hd
   obtain ⟨n,hn,rfl⟩:=hd
   obtain ⟨hj,rfl⟩:=Q2.mp hn
   have hs:(stp cs (some (3 * o+(i:Int))) none (some 9)).length≤cs.length:=ye (by decide)
   walk_at "ev"
   ·exact c8 (by rw [QU,QU,Rx]; lia)
   ·refine ⟨.va (.int (stp cs (some (3 * o+(i:Int))) none (some 9))[j]),?_⟩
    show [_,_,_,_,Sl.ow _,_]=_
    rw [Sa hj,Ra,Ra]
    rfl
  ·rintro ρ'' ⟨s5,rfl⟩
   rw [QU,R9]
   walk_at "ev"
   refine e_x (HM 4 (by walk_at "at") rfl (by walk_at "sset") (x_call (F:=gq) (by assumption) (by decide) ?_))
   walk_at "ev"
   refine o9 (ND hi') ?_
   walk_at "ev"
   ·have:=Ea (((stp cs (some (3 * o+(i:Int))) none (some 9)).map Ay).map au)
    exact jA (by simp only [Sb]; lia)
   have eL:ki cs o (i:Int)=EV.cutD ((stp cs (some (3 * o+(i:Int))) none (some 9)).map Ay) none (some 4)++[([],(i:Int)+1)]:=rfl
   have eM:(ki cs o (i:Int)).map au=EV.cutD (((stp cs (some (3 * o+(i:Int))) none (some 9)).map Ay).map au) none (some 4)++[.tup [.tup [],.int ((i:Int)+1)]]:=by rw [eL]; simp only [jh,Ra]; rfl
   refine ⟨_,⟨ki cs o i,Q4 (nI ..) (by decide),fun t ht=>Q4 (lG cs o i (by lia) t ht).1 (by decide),by rw [eM],rfl⟩,?_⟩
   refine ⟨fT fun x _=>rm x,d8 ?_⟩
   walk_at "ev"
   ·exact c8 (by rw [QU,QU,List.length_range]; lia)
   ·show ∃ s3 s4 s5:Sl,[_,_,Sl.ow _,_,_,_]=[_,_,Sl.ow (((Rt (i+1)).map fun (k:Nat)=>aG (ki cs o k)).map aR),s3,s4,s5]
    simp only [List.range_succ,Ra,QW,RJ]
    exact ⟨_,_,_,rfl⟩
 ·rintro ρ' ⟨s3,s4,s5,rfl⟩
  rw [gS]
  walk_at "evSs"
  refine sG 2 (by walk_at "at") rfl (by walk_at "sset") ?_
  walk_at "ev"
  rfl
end
end
section
variable {K:QM}
theorem smap {α β:Type} (L:List α) (f:α→β):(L.map fun x=>some (f x)).filterMap id=L.map f:=by
 induction L with
 | nil=>rfl
 | cons a l ih=>simpa using ih
noncomputable def iX:Fn:=fun ds r=>∃ A B:List aL,A.length+B.length≤20000∧(∀ t∈A++B,t.1.length≤64)∧ds=[.lst (A.map au),.lst (B.map au)]∧r=.ok (.ow ((aG (A++B.map jB)).map au))
theorem G8 (h:A.length+B.length≤20000) (h2:∀ t∈A++B,t.1.length≤64):iX [.lst (A.map au),.lst (B.map au)] (.ok (.ow ((aG (A++B.map jB)).map au))):=⟨A,B,h,h2,rfl,rfl⟩
noncomputable def pY:Fn:=fun ds r=>∃ Ls:List (List aL),Ls.length≤1000∧ds=[.tup (Ls.map aR)]∧r=.ok (.va (.tup (Ls.map aR)))
theorem Lo {Ls:List (List aL)} (h:Ls.length≤1000):pY [.tup (Ls.map aR)] (.ok (.va (.tup (Ls.map aR)))):=⟨Ls,h,rfl,rfl⟩
noncomputable def NF:Bool→List D→D
 | true=>.lst
 | false=>.tup
noncomputable def eV:Fn:=fun ds r=>∃ (b:Bool) (Ls:List (List aL)),Ls.length=3∧(∀ L∈Ls,L.length≤20000∧∀ t∈L,t.1.length≤64)∧ds=[.tup (Ls.map aR),NF b (Ls.map aR)]∧r=.ok (.va (.bl true))
theorem lH (b) {Ls:List (List aL)} (h:Ls.length=3) (h2:∀ L∈Ls,L.length≤20000∧∀ t∈L,t.1.length≤64):eV [.tup (Ls.map aR),NF b (Ls.map aR)] (.ok (.va (.bl true))):=⟨b,Ls,h,h2,rfl,rfl⟩
section
local macro_rules | `(tactic| walk_at "evXC")=> `(tactic| first | with_reducible refine x_call (F:=gq) (by assumption) (by decide) ?_)
local macro_rules | `(tactic| walk_at "evR")=> `(tactic| first | with_reducible refine aF (kh ?_ ?_) ?_)
theorem Ed (Fu:dR K "_law_less" "_law_less" j9 f fd) (T:Txt K mg) (h1:bJ P w K mg base 2 "_law_sum" gq):bf P w K mg base (cO P w) 3 f fd ["_law_one","_law_other"] (dU K iX):=by
 refine ck Fu Ab Ac (by rintro ds r ⟨A,B,_,_,rfl,_⟩; rfl) (by rintro ds r ⟨A,B,_,_,_,rfl⟩; exact ⟨_,rfl⟩) fun c hq ds sl hF=>?_
 obtain ⟨A,B,hl,hp,rfl,e⟩:=hF
 injection e with e
 subst e
 show aN c _ [.va (.lst (A.map au)),.va (.lst (B.map au))] _ _
 conv in (aq _)=>whnf
 walk_at "ev"
 refine e_x (d9 hq (N':=["_law_powers","_law_number"]) (ρ0:=fun _=>[.un,.un]) (fun t=>.un (.un .nil)) (cL ?_))
 walk_at "ev"
 ·exact jA (by rw [QU]; lia)
 refine ⟨B.map fun t=>some (au (jB t)),by simp,?_,d8 ?_⟩
 ·intro c' hc t i d o hd ho
  simp only [Q3,Q7] at hd ho
  obtain ⟨x,hx,rfl⟩:=hd
  obtain ⟨x',hx',rfl⟩:=ho
  rw [hx] at hx'; cases hx'
  show nX c' _ (.tup [.tup (x.1.map .int),.int x.2]) _ _
  walk_at "ev"
  refine ⟨.un (.un .nil),?_⟩
  simp only [sE]
  refine ⟨fun _=>?_,fun h=>by cases h⟩
  walk_at "ev"
  rw [Int.zero_sub]
  rfl
 ·rw [smap]
  rw [show (B.map fun t=>au (jB t))=(B.map jB).map au by rw [Rv]; rfl]
  walk_at "ev"
  ·rw [QU,QU,QU]; exact jA (by lia)
  rw [← Ra]
  refine aF (kh (by rw [Rr,QU]; lia) fun t ht=>?_) rfl
  rcases Rg.mp ht with q | q
  ·exact hp t (Tj _ q)
  ·obtain ⟨u,hu,rfl⟩:=Rj.mp q
   exact hp u (RY _ hu)
end
theorem G9 (Fu:dR K "_law_copy" "_law_copy" kc f fd) (T:Txt K mg):bf P w K mg base (cO P w) 1 f fd ["_law_some"] (dU K pY):=by
 refine ck Fu Ad Ae (by rintro ds r ⟨A,_,rfl,_⟩; rfl) (by rintro ds r ⟨A,_,_,rfl⟩; exact ⟨_,rfl⟩) fun c hq ds sl hF=>?_
 obtain ⟨Ls,hl,rfl,e⟩:=hF
 injection e with e
 subst e
 show aN c _ [.va (.tup (Ls.map aR))] _ _
 conv in (aq _)=>whnf
 walk_at "ev"
 refine e_x (d9 hq (N':=["_law_terms"]) (ρ0:=fun _=>[.un]) (fun t=>.un .nil) (cL ?_))
 walk_at "ev"
 ·exact jA (by rw [QU]; lia)
 refine ⟨Ls.map fun t=>some (aR t),by simp,?_,d8 ?_⟩
 ·intro c' hc t i d o hd ho
  simp only [Q3,Q7] at hd ho
  obtain ⟨x,hx,rfl⟩:=hd
  obtain ⟨x',hx',rfl⟩:=ho
  rw [hx] at hx'; cases hx'
  refine dJ (by walk_at "at") (wR (by walk_at "sset") ⟨.un .nil,?_⟩)
  simp only [sE]
  refine ⟨fun _=>?_,fun h=>by cases h⟩
  refine e_x (Br (Txt.list T) ?_)
  walk_at "ev"
  rfl
 ·rw [smap]
  walk_at "ev"
  rfl
section
local macro_rules | `(tactic| walk_at "evCa")=> `(tactic| first | with_reducible refine bz (F:=uq) (by assumption) (by decide) ?_)
theorem Ef (Fu:dR K "_law_same_three" "_law_same_three" dP f fd) (T:Txt K mg) (h1:bJ P w K mg base 2 "_law_same" uq):bf P w K mg base (cO P w) 3 f fd ["_law_found","_law_due"] (dU K eV):=by
 refine ck Fu kU kW (by rintro ds r ⟨b,A,_,_,rfl,_⟩; rfl) (by rintro ds r ⟨b,A,_,_,_,rfl⟩; exact ⟨_,rfl⟩) fun c hq ds sl hF=>?_
 obtain ⟨b,Ls,hl,hL,rfl,e⟩:=hF
 injection e with e
 subst e
 cases b
 all_goals
  show aN c _ [.va (.tup (Ls.map aR)),.va _] _ _
  conv in (aq _)=>whnf
  walk_at "ev"
  ·refine HW (Txt.all T) (e_x (d9 hq (N':=["_law_one","_law_other"]) (ρ0:=fun _=>[.un,.un]) (fun t=>.un (.un .nil)) ?_))
   first
   | (refine K6 (Txt.zip T) ?_; walk_at "ev"; refine ⟨_,_,rfl,rfl,?_⟩)
   | (refine K7 (Txt.zip T) ?_; walk_at "ev"; refine ⟨_,_,rfl,rfl,?_⟩)
   have ez:mO (Ls.map aR) (Ls.map aR)=Ls.map fun t=>D.tup [aR t,aR t]:=by
    unfold mO
    rw [VM,VD]
   rw [ez]
   refine Sd.mk (jA (by rw [QU]; lia)) ⟨Ls.map fun _=>some (.bl true),by simp,?_,d8 ⟨Ls.map fun _=>true,?_,?_⟩⟩
   ·intro c' hc t i d o hd ho
    simp only [Q3,Q7] at hd ho
    obtain ⟨x,hx,rfl⟩:=hd
    obtain ⟨x',hx',rfl⟩:=ho
    have hx2:=hL x (Si hx)
    show nX c' _ (.tup [.lst (x.map au),.lst (x.map au)]) _ _
    walk_at "ev"
    refine ⟨.un (.un .nil),?_⟩
    simp only [sE]
    refine ⟨fun _=>?_,fun h=>by cases h⟩
    walk_at "ev"
    exact aF (La hx2.1 hx2.2) (HH rfl)
   ·rw [smap,Rv]
    rfl
   ·rw [show ((Ls.map fun _=>true).all id)=true by simp]
  ·exact absurd (show (((Ls.map aR).length:Nat):Int)=3 by rw [QU,hl]; rfl) (by assumption)
end
end
section
variable {P:Program} {w:World} {K:QM} {mg:Str→Option Value} {base:Heap}
noncomputable def Lp:D:=.tup [.tup [.int 12],.int 1]
noncomputable def NG (i:Nat) (L:List (Addr×List D)):List (Addr×List D):=(L.take i).map (fun x=>(x.1,x.2++[Lp]))++L.drop i
theorem Eg:∀ L:List (Addr×List D),zI (mY L)=some (L.map fun x=>D.adr x.1)
 | []=>rfl
 | x::L=>by
  have:=Eg L
  unfold mY at this ⊢
  simp only [QW,zI,Sh.raw,this]
theorem v7 (A B):mY (A++B)=mY A++mY B:=by unfold mY; rw [Ra]
theorem Eh (h:i<L.length):mY (NG i L)=mY ((L.take i).map fun x=>(x.1,x.2++[Lp]))++.la L[i].1 L[i].2::mY (L.drop (i+1)):=by
 unfold NG
 rw [v7,Wg h]
 rfl
theorem Ei (h:i<L.length):mY ((L.take i).map fun x=>(x.1,x.2++[Lp]))++.la L[i].1 (L[i].2++[Lp])::mY (L.drop (i+1))=mY (NG (i+1) L):=by
 unfold NG
 rw [v7,Sa h,Ra,v7,Rk]
 rfl
noncomputable def uB (s:Sh):Prop:=∃ dss:List (List D),s=.t (dss.map .l)∧dss.length≤1000∧∀ ds∈dss,ds.length≤20000
theorem Ej (Fu:dR K "_law_spoil" "_law_spoil" iU f fd):bf P w K mg base (cO P w) 1 f fd ["_law_found"] (LQ K uB):=by
 refine P0 Fu vS vU rfl (by decide) fun c hq s hs=>?_
 obtain ⟨dss,rfl,hl,hd'⟩:=hs
 show aN c _ [.fo (.t (dss.map .l)),.un] _ _
 conv in (aq _)=>whnf
 refine aY (KZ 0 (by walk_at "at") fun L e=>?_)
 subst e
 show fH c _ [.fo (.t (mY L)),.un] _ _
 have hll:L.length≤1000:=by rw [← QU (f:=(·.2))]; exact hl
 with_reducible refine cG hq (cL (KY (by walk_at "at") (by walk_at "at") (Eg L) ?_))
 refine ⟨_,rfl,fun i ρ'=>ρ'=[.fo (.t (mY (NG i L))),.un],rfl,?_,?_⟩
 ·rintro c' nP uJ uK i d ρ' hd rfl
  simp only [Q3,Q7] at hd
  obtain ⟨x,hx,rfl⟩:=hd
  obtain ⟨hi,rfl⟩:=Q2.mp hx
  have hli:L[i].2.length≤20000:=hd' _ (Rj.mpr ⟨_,RI hi,rfl⟩)
  refine dJ (by walk_at "at") (wR (by walk_at "sset") ?_)
  rw [Eh hi]
  refine CV 0 1 (.z (.cons rfl .nil)) (by walk_at "at") ?_ (by decide)
  show aN c' _ [.fo (.t (mY ((L.take i).map fun x=>(x.1,x.2++[Lp]))++.v (.adr L[i].1)::mY (L.drop (i+1)))),.aw L[i].1 L[i].2] _ _
  refine aY ?_
  with_reducible refine BG (by walk_at "at") (by walk_at "at") (by walk_at "own") ?_
  generalize hG:(fun ρ''=>aN c' [] ρ'' _ _)=G
  walk_at "ev"
  ·exact c8 (by lia)
  subst hG
  show aN c' _ [.fo (.t (mY ((L.take i).map fun x=>(x.1,x.2++[Lp]))++.v (.adr L[i].1)::mY (L.drop (i+1)))),.aw L[i].1 (L[i].2++[Lp])] _ _
  refine CW 0 1 (.z (.cons rfl .nil)) (by walk_at "at") ?_ (by decide)
  refine uZ ?_
  show [Sl.fo (.t _),Sl.un]=_
  rw [Ei hi]
 ·rintro ρ' rfl
  exact uZ trivial
structure Lm (l:Nat) (e:Int) (b:Nat) (A:List aL):Prop where
 l:A.length≤l
 e:Ex e A
 b:Bn b A
theorem Ex.gT (h:Ex m L):Ex m (aG L):=fun t ht=>Ex.sum h t (mP ht).1
theorem Bn.gT (h:Bn m L) (hl:L.length<2 ^ 16):Bn (m+16) (aG L):=fun t ht=>Bn.sum h hl t (mP ht).1
section
variable {l l':Nat} {e e':Int} {b b':Nat} {A B:List aL}
theorem Lm.gT (h:Lm l e b A) (hl:l<2 ^ 16:=by decide):Lm l e (b+16) (aG A):=⟨Q4 (mQ _) h.l,h.e.gT,h.b.gT (Tc h.l hl)⟩
theorem Lm.mono (h:Lm l e b A) (h1:l≤l':=by decide) (h2:e≤e':=by decide) (h3:b≤b':=by decide):Lm l' e' b' A:=⟨Q4 h.l h1,h.e.mono h2,h.b.mono h3⟩
theorem Lm.app (h:Lm l e b A) (g:Lm l' e b B):Lm (l+l') e b (A++B):=⟨by rw [Rr]; exact Nat.add_le_add h.l g.l,h.e.app g.e,fun t ht=>(Rg.mp ht).elim (h.b t) (g.b t)⟩
theorem Lm.prod (h:Lm l e b A) (g:Lm l' e' b' B) (h0:0≤e:=by decide) (g0:0≤e':=by decide):Lm (l * l') (e+e') (b+b') (aI A B):=⟨by rw [dG]; exact Tt h.l g.l,h.e.prod h0 g0 g.e,h.b.prod g.b⟩
theorem Lm.neg (h:Lm l e b A):Lm l e b (A.map jB):=⟨by rw [QU]; exact h.l,fun t ht=>by obtain ⟨u,hu,rfl⟩:=Rj.mp ht; exact h.e u hu,fun t ht=>by obtain ⟨u,hu,rfl⟩:=Rj.mp ht; have:=h.b u hu; show (-u.2).natAbs<_; rw [Int.natAbs_neg]; exact this⟩
noncomputable def v8 (n:Int) (t:aL):aL:=(t.1,t.2 * n)
theorem Lm.QJ (h:Lm l e b A) (hn:n.natAbs<2 ^ b'):Lm l e (b+b') (A.map (v8 n)):=⟨by rw [QU]; exact h.l,fun t ht=>by obtain ⟨u,hu,rfl⟩:=Rj.mp ht; exact h.e u hu,fun t ht=>by
 obtain ⟨u,hu,rfl⟩:=Rj.mp ht
 show (u.2 * n).natAbs<_
 rw [VY,Nat.pow_add]
 exact Nat.mul_lt_mul_of_lt_of_lt (h.b u hu) hn⟩
theorem Lm.oH (h:Lm l e b A) (h1:l≤20000:=by decide) (h2:e≤120:=by decide) (h3:b≤2000:=by decide):dH A:=⟨Q4 h.l h1,h.e.mono h2,h.b.mono h3⟩
theorem Lm.pow (h:Lm l e b A):∀ t∈A,t.1.length≤64:=fun t ht=>Q4 (h.e t ht).1 (by decide)
theorem Lm.Qs (h:Lm l e b A) (g:Lm l' e' b' B) (hl:l * l'≤20000:=by decide) (h1:l≤20000:=by decide) (g1:l'≤20000:=by decide) (h2:e≤500:=by decide) (g2:e'≤500:=by decide) (hb:b+b'≤1000000:=by decide):DH A B where
 la:=Q4 h.l h1
 lb:=Q4 g.l g1
 lp:=Q4 (Tt h.l g.l) hl
 pa:=h.e.mono h2
 pb:=g.e.mono g2
 mu:=fun x hx y hy=>gQ (h.b x hx) (g.b y hy) hb
theorem Lm.nil:Lm l e b []:=⟨Rq _,(fun t ht=>by cases ht),fun t ht=>by cases ht⟩
theorem Lm.con (hn:n.natAbs<2 ^ b):Lm 1 e b [([],n)]:=⟨QS _,(fun t ht=>by cases Q8.mp ht; exact ⟨Rq _,fun x hx=>by cases hx⟩),fun t ht=>by cases Q8.mp ht; exact hn⟩
end
theorem mZ (p):cC [] p=p:=by
 unfold cC
 refine VO (by simp) fun i h1 h2=>?_
 rw [Xa,WJ]
 simp [bR,Ro h2]
theorem v9 (n:Int) (A:List aL):mp (A.map (v8 n))=(n:MP) * mp A:=by
 rw [← j0,← fh]
 refine congrArg mp ?_
 unfold aI cT
 rw [R8,SI,Ru]
 refine S6 fun t _=>?_
 unfold v8 dY
 rw [mZ,Va]
noncomputable def NH (ps:List Part):List D:=(aG (dQ ps)).map au
noncomputable def oJ (k:Nat):List aL:=[(QY k 0++[1],1)]
noncomputable def cN (n:Int):List aL:=aG (cT n)
noncomputable abbrev wc (A B:List aL):D:=.tup [aR A,aR B]
noncomputable abbrev cF (A B C:List aL):D:=.tup [aR A,aR B,aR C]
noncomputable def ON (A B:List aL):Sl:=.fo (.t [.l (A.map au),.l (B.map au)])
noncomputable def kX (pss:List (List Part)):Sl:=.fo (.t (pss.map fun ps=>.l (NH ps)))
noncomputable def uC:Fn:=fun ds r=>∃ k:Nat,k≤10∧ds=[.int k]∧r=.ok (ON (oJ k) (cT 1))
theorem we {k:Nat} (h:k≤10):uC [.int k] (.ok (ON (oJ k) (cT 1))):=⟨k,h,rfl,rfl⟩
noncomputable def NI (P:Program) (w:World) (K:QM) (mg:Str→Option Value) (base:Heap):Fn:=fun ds r=>∃ (f:Addr) (n d:Int),mV P w K mg base 4 f iz∧n.natAbs<2 ^ 2000∧d.natAbs<2 ^ 2000∧ds=[.adr f,.tup [.int n,.int d]]∧r=.ok (ON (cN n) (cN d))
theorem Lq (hf:mV P w K mg base 4 f iz) (hn:n.natAbs<2 ^ 2000) (hd:d.natAbs<2 ^ 2000):NI P w K mg base [.adr f,.tup [.int n,.int d]] (.ok (ON (cN n) (cN d))):=⟨f,n,d,hf,hn,hd,rfl,rfl⟩
noncomputable def wg (a b x y:List aL):List (List Part):=[[(1,[a,y])],[(1,[x,b])],[(1,[b,y])]]
noncomputable def NJ (P:Program) (w:World) (K:QM) (mg:Str→Option Value) (base:Heap):Fn:=fun ds r=>∃ (f:Addr) (a b x y:List aL),mV P w K mg base 4 f iz∧(∀ ps∈wg a b x y,cz ps)∧ds=[.adr f,wc a b,wc x y]∧r=.ok (kX (wg a b x y))
theorem NK (hf:mV P w K mg base 4 f iz) (h:∀ ps∈wg a b x y,cz ps):NJ P w K mg base [.adr f,wc a b,wc x y] (.ok (kX (wg a b x y))):=⟨f,a,b,x,y,hf,h,rfl,rfl⟩
noncomputable def Iq (p q r s:List aL):List Part:=[(1,[p,q]),(-1,[r,s])]
noncomputable def Ir (a b c x y z:List aL):List (List Part):=[Iq x c a z,Iq y c b z]
noncomputable def OO (P:Program) (w:World) (K:QM) (mg:Str→Option Value) (base:Heap):Fn:=fun ds r=>∃ (f:Addr) (a b c x y z:List aL),mV P w K mg base 4 f iz∧(∀ ps∈Ir a b c x y z,cz ps)∧ds=[.adr f,cF a b c,cF x y z]∧r=.ok (kX (Ir a b c x y z))
theorem P8 (hf:mV P w K mg base 4 f iz) (h:∀ ps∈Ir a b c x y z,cz ps):OO P w K mg base [.adr f,cF a b c,cF x y z] (.ok (kX (Ir a b c x y z))):=⟨f,a,b,c,x,y,z,hf,h,rfl,rfl⟩
noncomputable def w0 (a c x z:List aL):List aL:=aG (dQ (Iq x c a z))
noncomputable def Ek (a b c x y z p q:List aL):List (List Part):=[[(1,[q,a,z]),(1,[p,w0 a c x z])],[(1,[q,b,z]),(1,[p,w0 b c y z])],[(1,[q,c,z])]]
structure lU (a b c x y z p q:List aL):Prop where
 w:∀ ps∈Ir a b c x y z,cz ps
 p:∀ ps∈Ek a b c x y z p q,cz ps
noncomputable def NL (P:Program) (w:World) (K:QM) (mg:Str→Option Value) (base:Heap):Fn:=fun ds r=>∃ (f:Addr) (a b c x y z p q:List aL),mV P w K mg base 4 f iz∧lU a b c x y z p q∧ds=[.adr f,cF a b c,cF x y z,wc p q]∧r=.ok (kX (Ek a b c x y z p q))
theorem NN (hf:mV P w K mg base 4 f iz) (h:lU a b c x y z p q):NL P w K mg base [.adr f,cF a b c,cF x y z,wc p q] (.ok (kX (Ek a b c x y z p q))):=⟨f,a,b,c,x,y,z,p,q,hf,h,rfl,rfl⟩
section
local macro_rules | `(tactic| walk_at "evBo")=> `(tactic| first | ((with_reducible show aH _ (Uj _ U6 _ _) _ _); with_reducible refine PN (HZ ?_)))
theorem ig (k):(QY k [D.int 0]).flatten=(QY k (0:Int)).map D.int:=by
 induction k with
 | zero=>rfl
 | succ n ih=>rw [Sy,To,ih,Sy]; rfl
theorem Hg (Fu:dR K "free_poly" "free_poly" f9 f fd) (T:Txt K mg):bf P w K mg base (cO P w) 1 f fd ["k"] (dU K uC):=by
 refine ck Fu qU qV (by rintro ds r ⟨k,_,rfl,_⟩; rfl) (by rintro ds r ⟨k,_,_,rfl⟩; exact ⟨_,rfl⟩) fun c hq ds sl hF=>?_
 obtain ⟨k,hk,rfl,e⟩:=hF
 injection e with e
 subst e
 show aN c _ [.va (.int k)] _ _
 conv in (aq _)=>whnf
 walk_at "evSs"
 refine eY ?_
 refine mX ?_
 refine vF ?_
 refine KU ?_
 walk_at "ev"
 refine ⟨_,rfl,?_⟩
 walk_at "ev"
 ·exact ⟨⟨by lia,by lia⟩,by rw [Rp]; exact jA (by simp only [Sb]; lia)⟩
 ·rw [Rp,ig]; exact jA (by simp only [QU,UP,Sb]; lia)
 refine ⟨_,rfl,_,rfl,?_⟩
 refine vF (KU ?_)
 walk_at "ev"
 refine ⟨_,rfl,_,rfl,?_⟩
 refine t6 (Sd.mk (fK (Uv rfl)) ?_)
 show Sl.fo _=Sl.fo _
 rw [Rp,ig]
 unfold oJ
 rw [List.map_singleton]
 show _=Sl.fo (Sh.t [.l [.tup [.tup ((QY k (0:Int)++[1]).map D.int),.int 1]],_])
 rw [Ra]
 rfl
end
theorem yo (hn:n.natAbs<2 ^ 2000):cz [(n,[])]:=⟨fun p hp=>by cases Q8.mp hp; exact ⟨hn,Rq _,fun A hA=>by cases hA⟩,by show (1:Nat)≤1000; decide,by show (1:Nat)≤20000; decide⟩
section
local macro_rules | `(tactic| walk_at "cmp")=> `(tactic| (refine vF (KU (GA (F:=iz) (by assumption) (by decide) (by walk_at "at") (by walk_at "at") ?_)); walk_at "ev"))
theorem NO (Fu:dR K "told_fraction" "told_fraction" c9 f fd):bf P w K mg base (cO P w) 5 f fd ["total","f"] (dU K (NI P w K mg base)):=by
 refine ck Fu j5 j6 (by rintro ds r ⟨f,n,d,_,_,_,rfl,_⟩; rfl) (by rintro ds r ⟨f,n,d,_,_,_,_,rfl⟩; exact ⟨_,rfl⟩) fun k hq ds sl hF=>?_
 obtain ⟨g,n,d,hg,hn,hd,rfl,e⟩:=hF
 injection e with e
 subst e
 show aN k _ [.va (.adr g),.va (.tup [.int n,.int d])] _ _
 conv in (aq _)=>whnf
 walk_at "evSs"
 refine eY (mX ?_)
 walk_at "cmp"
 refine aF (iC (yo hn)) ⟨_,rfl,_,rfl,?_⟩
 walk_at "cmp"
 refine aF (iC (yo hd)) ⟨_,rfl,_,rfl,?_⟩
 refine t6 (Sd.mk (fK (Uv rfl)) rfl)
theorem NP (Fu:dR K "told_rule" "told_rule" gc f fd):bf P w K mg base (cO P w) 5 f fd ["total","f","g"] (dU K (NJ P w K mg base)):=by
 refine ck Fu qW qX (by rintro ds r ⟨f,a,b,x,y,_,_,rfl,_⟩; rfl) (by rintro ds r ⟨f,a,b,x,y,_,_,_,rfl⟩; exact ⟨_,rfl⟩) fun k hq ds sl hF=>?_
 obtain ⟨g,a,b,x,y,hg,h,rfl,e⟩:=hF
 injection e with e
 subst e
 have h1:cz [(1,[a,y])]:=h _ (by simp [wg])
 have h2:cz [(1,[x,b])]:=h _ (by simp [wg])
 have h3:cz [(1,[b,y])]:=h _ (by simp [wg])
 show aN k _ [.va (.adr g),.va (wc a b),.va (wc x y)] _ _
 conv in (aq _)=>whnf
 walk_at "evSs"
 refine eY (mX ?_)
 walk_at "cmp"
 refine aF (iC h1) ⟨_,rfl,_,rfl,?_⟩
 walk_at "cmp"
 refine aF (iC h2) ⟨_,rfl,_,rfl,?_⟩
 walk_at "cmp"
 refine aF (iC h3) ⟨_,rfl,_,rfl,?_⟩
 refine t6 (Sd.mk (fK (Uv rfl)) rfl)
theorem NQ (Fu:dR K "way_between" "way_between" eG f fd):bf P w K mg base (cO P w) 5 f fd ["total","i","j"] (dU K (OO P w K mg base)):=by
 refine ck Fu nc ng (by rintro ds r ⟨f,a,b,c,x,y,z,_,_,rfl,_⟩; rfl) (by rintro ds r ⟨f,a,b,c,x,y,z,_,_,_,rfl⟩; exact ⟨_,rfl⟩) fun k hq ds sl hF=>?_
 obtain ⟨g,a,b,c,x,y,z,hg,h,rfl,e⟩:=hF
 injection e with e
 subst e
 have h1:cz (Iq x c a z):=h _ (by simp [Ir])
 have h2:cz (Iq y c b z):=h _ (by simp [Ir])
 show aN k _ [.va (.adr g),.va (cF a b c),.va (cF x y z)] _ _
 conv in (aq _)=>whnf
 walk_at "evSs"
 refine eY (mX ?_)
 walk_at "cmp"
 refine aF (iC h1) ⟨_,rfl,_,rfl,?_⟩
 walk_at "cmp"
 refine aF (iC h2) ⟨_,rfl,_,rfl,?_⟩
 refine t6 (Sd.mk (fK (Uv rfl)) rfl)
theorem NR (Fu:dR K "part_rule" "part_rule" gh f fd) (h2:bJ P w K mg base 5 "way_between" (OO P w K mg base)):bf P w K mg base (cO P w) 6 f fd ["total","i","j","f"] (dU K (NL P w K mg base)):=by
 refine ck Fu qY qZ (by rintro ds r ⟨f,a,b,c,x,y,z,p,q,_,_,rfl,_⟩; rfl) (by rintro ds r ⟨f,a,b,c,x,y,z,p,q,_,_,_,rfl⟩; exact ⟨_,rfl⟩) fun k hq ds sl hF=>?_
 obtain ⟨g,a,b,c,x,y,z,p,q,hg,h,rfl,e⟩:=hF
 injection e with e
 subst e
 have t1:cz [(1,[q,a,z]),(1,[p,w0 a c x z])]:=h.p _ (by simp [Ek])
 have t2:cz [(1,[q,b,z]),(1,[p,w0 b c y z])]:=h.p _ (by simp [Ek])
 have t3:cz [(1,[q,c,z])]:=h.p _ (by simp [Ek])
 show aN k _ [.va (.adr g),.va (cF a b c),.va (cF x y z),.va (wc p q),.un] _ _
 conv in (aq _)=>whnf
 refine aY (HE (by walk_at "at") (MA (m9 (x_call h2 (by decide) ?_))))
 walk_at "ev"
 refine aF (P8 hg h.w) ⟨_,rfl,?_⟩
 refine wR (by walk_at "sset") ?_
 show aN k _ [.va (.adr g),.va (cF a b c),.va (cF x y z),.va (wc p q),.va (wc (w0 a c x z) (w0 b c y z))] _ _
 walk_at "evSs"
 refine eY (mX ?_)
 walk_at "cmp"
 refine aF (iC t1) ⟨_,rfl,_,rfl,?_⟩
 walk_at "cmp"
 refine aF (iC t2) ⟨_,rfl,_,rfl,?_⟩
 walk_at "cmp"
 refine aF (iC t3) ⟨_,rfl,_,rfl,?_⟩
 refine t6 (Sd.mk (fK (Uv rfl)) rfl)
end
noncomputable def NS:Fn:=fun ds r=>∃ u v:Nat,u≤10∧v≤10∧(∀ ps∈wg (oJ u) (cT 1) (oJ v) (cT 1),cz ps)∧ds=[.int u,.int v]∧r=.ok (kX (wg (oJ u) (cT 1) (oJ v) (cT 1)))
theorem NT (Fu:dR K "free_point" "free_point" fk f fd) (h1:bJ P w K mg base 4 "poly_total" iz) (h2:bJ P w K mg base 5 "told_rule" (NJ P w K mg base)) (h3:bJ P w K mg base 1 "free_poly" uC):bf P w K mg base (cO P w) 6 f fd ["u","v"] (dU K NS):=by
 refine ck Fu om oq (by rintro ds r ⟨u,v,_,_,_,rfl,_⟩; rfl) (by rintro ds r ⟨u,v,_,_,_,_,rfl⟩; exact ⟨_,rfl⟩) fun k hq ds sl hF=>?_
 obtain ⟨u,v,hu,hv,h,rfl,e⟩:=hF
 injection e with e
 subst e
 obtain ⟨g,hm,hg⟩:=h1.at_
 show aN k _ [.va (.int u),.va (.int v)] _ _
 conv in (aq _)=>whnf
 walk_at "evSs"
 refine eY (x_call h2 (by decide) (bx (iM hm (bx (m9 (x_call h3 (by decide) ?_))))))
 walk_at "ev"
 refine aF (we hu) ⟨_,rfl,?_⟩
 refine bx (m9 (x_call h3 (by decide) ?_))
 walk_at "ev"
 refine aF (we hv) ⟨_,rfl,?_⟩
 refine fJ ?_
 exact aF (NK hg h) rfl
noncomputable def NU:Fn:=fun ds r=>∃ n d m e:Int,n.natAbs<2 ^ 2000∧d.natAbs<2 ^ 2000∧m.natAbs<2 ^ 2000∧e.natAbs<2 ^ 2000∧(∀ ps∈wg (cN n) (cN d) (cN m) (cN e),cz ps)∧ds=[.tup [.int n,.int d],.tup [.int m,.int e]]∧r=.ok (kX (wg (cN n) (cN d) (cN m) (cN e)))
theorem NV (Fu:dR K "told_point" "told_point" fm f fd) (h1:bJ P w K mg base 4 "poly_total" iz) (h2:bJ P w K mg base 5 "told_rule" (NJ P w K mg base)) (h3:bJ P w K mg base 5 "told_fraction" (NI P w K mg base)):bf P w K mg base (cO P w) 6 f fd ["f","g"] (dU K NU):=by
 refine ck Fu ou oA (by rintro ds r ⟨n,d,m,e,_,_,_,_,_,rfl,_⟩; rfl) (by rintro ds r ⟨n,d,m,e,_,_,_,_,_,_,rfl⟩; exact ⟨_,rfl⟩) fun k hq ds sl hF=>?_
 obtain ⟨n,d,m,e',hn,hd,hm',he,h,rfl,e⟩:=hF
 injection e with e
 subst e
 obtain ⟨g,hm,hg⟩:=h1.at_
 show aN k _ [.va (.tup [.int n,.int d]),.va (.tup [.int m,.int e'])] _ _
 conv in (aq _)=>whnf
 walk_at "evSs"
 refine eY (x_call h2 (by decide) (bx (iM hm (bx (m9 (x_call h3 (by decide) (bx (iM hm ?_))))))))
 walk_at "ev"
 refine aF (Lq hg hn hd) ⟨_,rfl,?_⟩
 refine bx (m9 (x_call h3 (by decide) (bx (iM hm ?_))))
 walk_at "ev"
 refine aF (Lq hg hm' he) ⟨_,rfl,?_⟩
 refine fJ ?_
 exact aF (NK hg h) rfl
noncomputable def NW:Fn:=fun ds r=>∃ (a b c x y z:List aL) (t:Nat),t≤10∧lU a b c x y z (oJ t) (cT 1)∧ds=[cF a b c,cF x y z,.int t]∧r=.ok (kX (Ek a b c x y z (oJ t) (cT 1)))
theorem NX (Fu:dR K "slide_point" "slide_point" eO f fd) (h1:bJ P w K mg base 4 "poly_total" iz) (h2:bJ P w K mg base 6 "part_rule" (NL P w K mg base)) (h3:bJ P w K mg base 1 "free_poly" uC):bf P w K mg base (cO P w) 7 f fd ["i","j","t"] (dU K NW):=by
 refine ck Fu nh ni (by rintro ds r ⟨a,b,c,x,y,z,t,_,_,rfl,_⟩; rfl) (by rintro ds r ⟨a,b,c,x,y,z,t,_,_,_,rfl⟩; exact ⟨_,rfl⟩) fun k hq ds sl hF=>?_
 obtain ⟨a,b,c,x,y,z,t,ht,h,rfl,e⟩:=hF
 injection e with e
 subst e
 obtain ⟨g,hm,hg⟩:=h1.at_
 show aN k _ [.va (cF a b c),.va (cF x y z),.va (.int t)] _ _
 conv in (aq _)=>whnf
 walk_at "evSs"
 refine eY (x_call h2 (by decide) (bx (iM hm ?_)))
 refine bx (ku (by walk_at "at") (by walk_at "at") (bx (ku (by walk_at "at") (by walk_at "at") (bx (m9 (x_call h3 (by decide) ?_))))))
 walk_at "ev"
 refine aF (we ht) ⟨_,rfl,?_⟩
 refine fJ ?_
 exact aF (NN hg h) rfl
noncomputable def NY:Fn:=fun ds r=>∃ (a b c x y z:List aL) (n d:Int),n.natAbs<2 ^ 2000∧d.natAbs<2 ^ 2000∧lU a b c x y z (cN n) (cN d)∧ds=[cF a b c,cF x y z,.tup [.int n,.int d]]∧r=.ok (kX (Ek a b c x y z (cN n) (cN d)))
theorem NZ (Fu:dR K "part_point" "part_point" fu f fd) (h1:bJ P w K mg base 4 "poly_total" iz) (h2:bJ P w K mg base 6 "part_rule" (NL P w K mg base)) (h3:bJ P w K mg base 5 "told_fraction" (NI P w K mg base)):bf P w K mg base (cO P w) 7 f fd ["i","j","f"] (dU K NY):=by
 refine ck Fu oB oE (by rintro ds r ⟨a,b,c,x,y,z,n,d,_,_,_,rfl,_⟩; rfl) (by rintro ds r ⟨a,b,c,x,y,z,n,d,_,_,_,_,rfl⟩; exact ⟨_,rfl⟩) fun k hq ds sl hF=>?_
 obtain ⟨a,b,c,x,y,z,n,d,hn,hd,h,rfl,e⟩:=hF
 injection e with e
 subst e
 obtain ⟨g,hm,hg⟩:=h1.at_
 show aN k _ [.va (cF a b c),.va (cF x y z),.va (.tup [.int n,.int d])] _ _
 conv in (aq _)=>whnf
 walk_at "evSs"
 refine eY (x_call h2 (by decide) (bx (iM hm ?_)))
 refine bx (ku (by walk_at "at") (by walk_at "at") (bx (ku (by walk_at "at") (by walk_at "at") (bx (m9 (x_call h3 (by decide) (bx (iM hm ?_))))))))
 walk_at "ev"
 refine aF (Lq hg hn hd) ⟨_,rfl,?_⟩
 refine fJ ?_
 exact aF (NN hg h) rfl
end
section
variable {P:Program} {w:World} {K:QM} {mg:Str→Option Value} {base:Heap}
noncomputable abbrev dI (A:List aL):Prop:=Lm 5 3 47 A
noncomputable def yp (p q r s:List aL):List aL:=aG (aG (aI p q)++(aG (aI r s)).map jB)
theorem wj (p q r s):aG (dQ (Iq p q r s))=yp p q r s:=by
 unfold yp
 refine bZ ?_
 rw [K0,di,di,fh,fh]
 unfold dQ Iq
 rw [R8,R8,SI,Ru,iN,bB,bB]
 simp only [nO,QW,RJ,Sn,Tu]
 grind
noncomputable def Lr (a c x z fr:List aL):List aL:=aG (aG (aI a z)++aG (aI fr (yp x c a z)))
noncomputable def Hh (n:Int) (A:List aL):List aL:=aG (A.map (v8 n))
noncomputable def Lu (a c x z:List aL) (n d:Int):List aL:=aG (Hh d (aG (aI a z))++Hh n (yp x c a z))
section
variable {a c x z p q:List aL}
theorem dI.pz (h:dI a) (g:dI z):Lm 25 6 110 (aG (aI a z)):=(h.prod g).gT
theorem dI.lc (hp:dI p) (hq:dI q) (hr:dI a) (hs:dI z):Lm 50 6 126 (yp p q a z):=((hp.pz hq).app (hr.pz hs).neg).gT
theorem kG (h:t≤5):Lm 1 1 1 (oJ t):=⟨QS _,fun u hu=>by
 cases Q8.mp hu
 refine ⟨by simp only [Rr,UP,Sb]; omega,fun y hy=>?_⟩
 rcases Rg.mp hy with hy | hy
 ·rw [UM hy]; decide
 ·rw [Q8.mp hy]; decide,fun u hu=>by cases Q8.mp hu; exact UU (by decide)⟩
theorem pZ (h:n.natAbs<2 ^ 120):Lm 1 1 136 (cN n):=(Lm.con h).gT
theorem El:Lm 1 1 136 (cT 1):=Lm.con (UU (by decide))
theorem Iu (ha:dI a) (hc:dI c) (hx:dI x) (hz:dI z) (hf:Lm 1 1 1 fr):Lm 75 7 159 (Lr a c x z fr) :=
 (((ha.pz hz).mono (l':=25) (e':=7) (b':=143)).app ((hf.prod (hx.lc hc ha hz)).gT.mono (l':=50) (e':=7) (b':=143))).gT
theorem gU (h:Lm l e b A) (hn:n.natAbs<2 ^ 120) (hl:l<2 ^ 16:=by decide):Lm l e (b+120+16) (Hh n A):=(h.QJ hn).gT hl
theorem Iv (ha:dI a) (hc:dI c) (hx:dI x) (hz:dI z) (hn:n.natAbs<2 ^ 120) (hd:d.natAbs<2 ^ 120):Lm 75 6 278 (Lu a c x z n d) :=
 (((gU (ha.pz hz) hd).mono (l':=25) (e':=6) (b':=262)).app (gU (hx.lc hc ha hz) hn)).gT
theorem Lv (h:A.length≤k) (g:B.length≤l) (hk:1≤k:=by decide) (hl:1≤l:=by decide):My.bV [A,B]≤k * l:=by
 show max A.length 1 * (max B.length 1 * 1)≤_
 rw [Nat.mul_one]
 exact Tt (Nat.max_le.mpr ⟨h,hk⟩) (Nat.max_le.mpr ⟨g,hl⟩)
theorem Qt (h:A.length≤k) (g:B.length≤l) (j:C.length≤m) (hk:1≤k:=by decide) (hl:1≤l:=by decide) (hm:1≤m:=by decide):My.bV [A,B,C]≤k * (l * m) :=
 Tt (Nat.max_le.mpr ⟨h,hk⟩) (Lv g j hl hm)
theorem part2 (hn:n.natAbs<2 ^ 2000) (h:dH A) (g:dH B):dh (n,[A,B]):=⟨hn,by show (2:Nat)≤8; decide,fun C hC=>by
 simp only [Q0,RP,or_false] at hC
 rcases hC with rfl | rfl
 ·exact h
 ·exact g⟩
theorem part3 (hn:n.natAbs<2 ^ 2000) (h:dH A) (g:dH B) (j:dH C):dh (n,[A,B,C]):=⟨hn,by show (3:Nat)≤8; decide,fun D hD=>by
 simp only [Q0,RP,or_false] at hD
 rcases hD with rfl | rfl | rfl
 ·exact h
 ·exact g
 ·exact j⟩
theorem iY:(1:Int).natAbs<2 ^ 2000:=UU (by decide)
theorem Lw:(-1:Int).natAbs<2 ^ 2000:=UU (by decide)
theorem Hi {p:Part} (h:dh p) (hs:My.bV p.2≤20000):cz [p]:=⟨fun q hq=>by cases Q8.mp hq; exact h,by show (1:Nat)≤1000; decide,by show My.bV p.2+0≤20000; omega⟩
theorem N3 {p q:Part} (h:dh p) (g:dh q) (hs:My.bV p.2+My.bV q.2≤20000):cz [p,q]:=⟨fun r hr=>by
 simp only [Q0,RP,or_false] at hr
 rcases hr with rfl | rfl
 ·exact h
 ·exact g,by show (2:Nat)≤1000; decide,by show My.bV p.2+(My.bV q.2+0)≤20000; omega⟩
theorem Em (hp:dI p) (hq:dI q) (hr:dI a) (hs:dI z):cz (Iq p q a z) :=
 N3 (part2 iY hp.oH hq.oH) (part2 Lw hr.oH hs.oH) (by have:=Lv hp.l hq.l; have:=Lv hr.l hs.l; show My.bV [p,q]+My.bV [a,z]≤20000; omega)
theorem Iw (ha:dI a) (hc:dI c) (hx:dI x) (hz:dI z):Lm 50 6 126 (w0 a c x z):=by unfold w0; rw [wj]; exact hx.lc hc ha hz
theorem En (ha:dI a) (hc:dI c) (hx:dI x) (hz:dI z) (hp:Lm 1 1 136 p) (hq:Lm 1 1 136 q):cz [(1,[q,a,z]),(1,[p,w0 a c x z])] :=
 N3 (part3 iY hq.oH ha.oH hz.oH) (part2 iY hp.oH (Iw ha hc hx hz).oH) (by have:=Qt hq.l ha.l hz.l; have:=Lv hp.l (Iw ha hc hx hz).l; show My.bV [q,a,z]+My.bV [p,w0 a c x z]≤20000; omega)
structure gr (a b c x y z:List aL):Prop where
 a:dI a
 b:dI b
 c:dI c
 x:dI x
 y:dI y
 z:dI z
theorem gr.pt {a b c x y z p q:List aL} (h:gr a b c x y z) (hp:Lm 1 1 136 p) (hq:Lm 1 1 136 q):lU a b c x y z p q where
 w:=by
  intro ps hps
  simp only [Ir,Q0,RP,or_false] at hps
  rcases hps with rfl | rfl
  ·exact Em h.x h.c h.a h.z
  ·exact Em h.y h.c h.b h.z
 p:=by
  intro ps hps
  simp only [Ek,Q0,RP,or_false] at hps
  rcases hps with rfl | rfl | rfl
  ·exact En h.a h.c h.x h.z hp hq
  ·exact En h.b h.c h.y h.z hp hq
  ·exact Hi (part3 iY hq.oH h.c.oH h.z.oH) (by have:=Qt hq.l h.c.l h.z.l; show My.bV [q,c,z]≤20000; omega)
theorem Iz (ha:Lm 1 1 136 a) (hb:Lm 1 1 136 b) (hx:Lm 1 1 136 x) (hy:Lm 1 1 136 y):∀ ps∈wg a b x y,cz ps:=by
 intro ps hps
 simp only [wg,Q0,RP,or_false] at hps
 rcases hps with rfl | rfl | rfl
 ·exact Hi (part2 iY ha.oH hy.oH) (by have:=Lv ha.l hy.l; show My.bV [_,_]≤20000; omega)
 ·exact Hi (part2 iY hx.oH hb.oH) (by have:=Lv hx.l hb.l; show My.bV [_,_]≤20000; omega)
 ·exact Hi (part2 iY hb.oH hy.oH) (by have:=Lv hb.l hy.l; show My.bV [_,_]≤20000; omega)
end
noncomputable def genS (Ls:List (List aL)):Sh:=.t (Ls.map fun A=>Sh.l (A.map au))
theorem jG (pss):kX pss=.fo (genS (pss.map fun ps=>aG (dQ ps))):=by
 unfold kX genS NH
 rw [Rv]
 rfl
section
variable {n d:Int} {t:Nat}
theorem yq:mp (cT 1)=1:=rfl
theorem Eo (n):mp (cN n)=(n:MP):=by unfold cN; rw [di,j0]
theorem N4 (fr):aG (dQ [(1,[cT 1,a,z]),(1,[fr,w0 a c x z])])=Lr a c x z fr:=by
 unfold Lr w0
 rw [wj]
 refine bZ ?_
 rw [iN,di,di,fh,fh]
 unfold dQ
 rw [R8,R8,SI,Ru,iN,bB,bB]
 simp only [nO,QW,RJ,Sn,Tu,yq]
 grind
theorem Lx:aG (dQ [(1,[cT 1,c,z])])=aG (aI c z):=by
 refine bZ ?_
 rw [fh]
 unfold dQ
 rw [R8,SI,Ru,bB]
 simp only [nO,QW,RJ,Sn,Tu,yq]
 grind
theorem N5:aG (dQ [(1,[cN d,a,z]),(1,[cN n,w0 a c x z])])=Lu a c x z n d:=by
 unfold Lu w0 Hh
 rw [wj]
 refine bZ ?_
 rw [iN,di,di,v9,v9,di,fh]
 unfold dQ
 rw [R8,R8,SI,Ru,iN,bB,bB]
 simp only [nO,QW,RJ,Sn,Tu,Eo]
 grind
theorem Ly:aG (dQ [(1,[cN d,c,z])])=Hh d (aG (aI c z)):=by
 unfold Hh
 refine bZ ?_
 rw [v9,di,fh]
 unfold dQ
 rw [R8,SI,Ru,bB]
 simp only [nO,QW,RJ,Sn,Tu,Eo]
 grind
noncomputable def IB (a b c x y z:List aL) (t:Nat):List (List aL):=[Lr a c x z (oJ t),Lr b c y z (oJ t),aG (aI c z)]
noncomputable def IC (a b c x y z:List aL) (n d:Int):List (List aL):=[Lu a c x z n d,Lu b c y z n d,Hh d (aG (aI c z))]
theorem P9 (h:gr a b c x y z) (ht:t≤5):NW [cF a b c,cF x y z,.int t] (.ok (.fo (genS (IB a b c x y z t)))) :=
 ⟨a,b,c,x,y,z,t,Q4 ht (by decide),h.pt ((kG ht).mono) El,rfl,by
   rw [jG]; unfold Ek IB; simp only [QW,RJ,N4,Lx]⟩
theorem big (h:n.natAbs<2 ^ 120):n.natAbs<2 ^ 2000:=RG h (Vu (by decide) (by decide))
theorem Qa (h:gr a b c x y z) (hn:n.natAbs<2 ^ 120) (hd:d.natAbs<2 ^ 120):NY [cF a b c,cF x y z,.tup [.int n,.int d]] (.ok (.fo (genS (IC a b c x y z n d)))) :=
 ⟨a,b,c,x,y,z,n,d,big hn,big hd,h.pt ((pZ hn)) (pZ hd),rfl,by
   rw [jG]; unfold Ek IC; simp only [QW,RJ,N5,Ly]⟩
noncomputable def N6 (n d m e:Int):List (List aL):=[aG (cT (n * e)),aG (cT (m * d)),cT (d * e)]
theorem N7:aG (dQ [(1,[cN n,cN d])])=aG (cT (n * d)):=by
 refine bZ ?_
 unfold dQ
 rw [R8,SI,Ru,bB,j0]
 simp only [nO,QW,RJ,Sn,Tu,Eo]
 grind
theorem uD {t:aL} (h:t.2≠0) (ht:trim t.1=t.1):aG [t]=[t]:=by
 have p:=jX [t]
 have e:nz (aV [t])=[t]:=by
  obtain ⟨a,b⟩:=t
  show nz [(trim a,0+b)]=_
  have ht':trim a=a:=ht
  rw [ht',UG]
  unfold nz
  exact Th (by simpa using h)
 rw [e] at p
 exact List.perm_singleton.mp p
theorem Ep (h:n≠0):aG (cT n)=cT n:=uD h rfl
theorem Qc (hn:n.natAbs<2 ^ 120) (hd:d.natAbs<2 ^ 120) (hm:m.natAbs<2 ^ 120) (he:e.natAbs<2 ^ 120) (h:d * e≠0):NU [.tup [.int n,.int d],.tup [.int m,.int e]] (.ok (.fo (genS (N6 n d m e)))) :=
 ⟨n,d,m,e,big hn,big hd,big hm,big he,Iz (pZ hn) (pZ hd) (pZ hm) (pZ he),rfl,by
   rw [jG]; unfold wg N6; simp only [QW,RJ,N7,Ep h]⟩
noncomputable def N8 (u v:Nat):List (List aL):=[oJ u,oJ v,cT 1]
theorem ID:aG (dQ [(1,[oJ u,cT 1])])=oJ u:=by
 refine Eq.trans (bZ (B:=oJ u) ?_) (uD (t:=(QY u 0++[1],1)) (show (1:Int)≠0 by decide) (jU _ (by decide)))
 unfold dQ
 rw [R8,SI,Ru,bB]
 simp only [nO,QW,RJ,Sn,Tu,yq]
 grind
theorem N9:aG (dQ [(1,[cT 1,cT 1])])=cT 1:=by
 rw [← Ep (n:=1) (by decide)]
 refine bZ ?_
 unfold dQ
 rw [R8,SI,Ru,bB]
 simp only [nO,QW,RJ,Sn,Tu,di,yq]
 grind
theorem Qd {u v:Nat} (hu:u≤5) (hv:v≤5):NS [.int u,.int v] (.ok (.fo (genS (N8 u v)))) :=
 ⟨u,v,Q4 hu (by decide),Q4 hv (by decide),Iz ((kG hu).mono) El ((kG hv).mono) El,rfl,by
   rw [jG]; unfold wg N8; simp only [QW,RJ]; rw [ID,ID,N9]⟩
end
noncomputable def Oa:Fn:=fun ds r=>∃ a b:Int,b≠0∧Pz b∧ds=[.int a,.int b]∧r=.ok (.va (pA a b))
theorem Ob (hb:b≠0) (h:Pz b):Oa [.int a,.int b] (.ok (.va (pA a b))):=⟨a,b,hb,h,rfl,rfl⟩
section
local macro_rules | `(tactic| walk_at "evBo")=> `(tactic| with_reducible refine Fq ?_)
theorem Oc (Fu:dR K "_law_fraction" "_law_fraction" fy f fd) (T:Txt K mg):bf P w K mg base (cO P w) 1 f fd ["_law_top","_law_bottom"] (dU K Oa):=by
 refine ck Fu oF oG (by rintro ds r ⟨a,b,_,_,rfl,_⟩; rfl) (by rintro ds r ⟨a,b,_,_,_,rfl⟩; exact ⟨_,rfl⟩) fun c hq ds sl hF=>?_
 obtain ⟨a,b,hb,hs,rfl,e⟩:=hF
 injection e with e
 subst e
 show aN c _ [.va (.int a),.va (.int b),.un,.un] _ _
 conv in (aq _)=>whnf
 walk_at "ev"
 with_reducible refine qo hq (fun m ρ'=>∃ x y:Int,0≤x∧0≤y∧m=y.toNat∧RL x y=RL a b∧ρ'=[.va (.int a),.va (.int b),.va (.int x),.va (.int y)]) (m₀:=b.natAbs) ?_ ?_
 ·refine ⟨_,_,?_,?_,?_,?_,rfl⟩
  ·split <;> omega
  ·split <;> omega
  ·split <;> omega
  ·split <;> split <;> simp
 ·rintro m ρ' ⟨x,y,hx,hy,rfl,hg,rfl⟩
  have hG:=FP (a:=a) hs hb
  have hp:0<RL a b:=Int.gcd_pos_of_ne_zero_right a hb
  have done:¬0<y→x=RL a b:=fun h=>by
   have:y=0:=by omega
   subst this
   simp at hg
   omega
  walk_at "ev"
  ·show ∃ _,_
   refine ⟨_,?_,_,_,hy,?_,rfl,?_,rfl⟩
   ·have:=WK x (b:=y) (by omega); have:=VR x (b:=y) (by omega); omega
   ·exact VR _ (by omega)
   ·rw [← hg,BP]
  ·have e:=done (by assumption)
   subst e
   exact ⟨by omega,by rw [show (0 - (RL a b:Int)).natAbs=(RL a b:Int).natAbs by omega]; exact hG⟩
  ·have e:=done (by assumption)
   subst e
   exact ⟨by omega,by rw [show (0 - (RL a b:Int)).natAbs=(RL a b:Int).natAbs by omega]; exact hG⟩
  ·have e:=done (by assumption)
   subst e
   show Sl.va _=Sl.va _
   unfold pA nT nB fM
   rw [if_pos (by assumption)]
  ·have e:=done (by assumption)
   subst e
   exact ⟨by omega,hG⟩
  ·have e:=done (by assumption)
   subst e
   exact ⟨by omega,hG⟩
  ·have e:=done (by assumption)
   subst e
   show Sl.va _=Sl.va _
   unfold pA nT nB fM
   rw [if_neg (by assumption)]
end
noncomputable def Ar:Fn:=fun ds r=>∃ (A:List aL) (n:Int),A.length≤20000∧(∀ t∈A,t.1.length≤64)∧(∀ t∈A,EV.MulOk t.2 n)∧ds=[.lst (A.map au),.int n]∧r=.ok (.ow ((Hh n A).map au))
theorem IE (h:Lm l e b A) (hn:n.natAbs<2 ^ 120) (hl:l≤20000:=by decide) (hb:b+120≤1000000:=by decide):Ar [.lst (A.map au),.int n] (.ok (.ow ((Hh n A).map au))) :=
 ⟨A,n,Q4 h.l hl,h.pow,fun t ht=>gQ (h.b t ht) hn hb,rfl,rfl⟩
section
local macro_rules | `(tactic| walk_at "evXC")=> `(tactic| first | with_reducible refine x_call (F:=gq) (by assumption) (by decide) ?_)
theorem Lz (Fu:dR K "_law_scaled" "_law_scaled" gM f fd) (T:Txt K mg) (h1:bJ P w K mg base 2 "_law_sum" gq):bf P w K mg base (cO P w) 3 f fd ["_law_some","_law_many"] (dU K Ar):=by
 refine ck Fu um uo (by rintro ds r ⟨A,n,_,_,_,rfl,_⟩; rfl) (by rintro ds r ⟨A,n,_,_,_,_,rfl⟩; exact ⟨_,rfl⟩) fun c hq ds sl hF=>?_
 obtain ⟨A,n,hl,hp,hm,rfl,e⟩:=hF
 injection e with e
 subst e
 show aN c _ [.va (.lst (A.map au)),.va (.int n)] _ _
 conv in (aq _)=>whnf
 walk_at "ev"
 refine e_x (d9 hq (N':=["_law_powers","_law_number","_law_many"]) (ρ0:=fun _=>[.un,.un,.va (.int n)]) (fun t=>.un (.un (.fr (by walk_at "at") (by walk_at "at") (by decide) rfl .nil))) (cL ?_))
 walk_at "ev"
 ·exact jA (by rw [QU]; omega)
 refine ⟨A.map fun t=>some (au (v8 n t)),by simp,?_,d8 ?_⟩
 ·intro c' hc t i d o hd ho
  simp only [Q3,Q7] at hd ho
  obtain ⟨x,hx,rfl⟩:=hd
  obtain ⟨x',hx',rfl⟩:=ho
  rw [hx] at hx'; cases hx'
  have hx2:=hm x (Si hx)
  show nX c' _ (.tup [.tup (x.1.map .int),.int x.2]) _ _
  walk_at "ev"
  refine ⟨.un (.un (.same .nil)),?_⟩
  simp only [sE]
  refine ⟨fun _=>?_,fun h=>by cases h⟩
  walk_at "ev"
  rfl
 ·rw [smap]
  rw [show (A.map fun t=>au (v8 n t))=(A.map (v8 n)).map au by rw [Rv]; rfl]
  walk_at "ev"
  refine aF (kh (by rw [QU]; omega) fun t ht=>?_) rfl
  obtain ⟨u,hu,rfl⟩:=Rj.mp ht
  exact hp u hu
end
noncomputable def wm:Fn:=fun ds r=>∃ a b c x y z:List aL,gr a b c x y z∧ds=[cF a b c,cF x y z]∧r=.ok (.va (wc (yp x c a z) (yp y c b z)))
theorem Od (h:gr a b c x y z):wm [cF a b c,cF x y z] (.ok (.va (wc (yp x c a z) (yp y c b z)))):=⟨a,b,c,x,y,z,h,rfl,rfl⟩
theorem Oe (hp:dI p) (hq:dI q) (hr:dI r) (hs:dI s):iX [.lst ((aG (aI p q)).map au),.lst ((aG (aI r s)).map au)] (.ok (.ow ((yp p q r s).map au))) :=
 G8 (by have:=(hp.pz hq).l; have:=(hr.pz hs).l; omega) fun t ht=>(Rg.mp ht).elim ((hp.pz hq).pow t) ((hr.pz hs).pow t)
section
local macro_rules | `(tactic| walk_at "evCa")=> `(tactic| first
 | with_reducible refine bz (F:=gO) (by assumption) (by decide) ?_
 | with_reducible refine bz (F:=iX) (by assumption) (by decide) ?_)
local macro_rules | `(tactic| walk_at "evXC")=> `(tactic| first
 | with_reducible refine x_call (F:=iX) (by assumption) (by decide) ?_)
local macro_rules | `(tactic| walk_at "evR")=> `(tactic| first
 | refine aF (yi (Lm.Qs (by assumption) (by assumption))) ?_
 | refine aF (Oe (by assumption) (by assumption) (by assumption) (by assumption)) ?_)
theorem LA (Fu:dR K "_law_way" "_law_way" nk f fd) (T:Txt K mg) (h1:bJ P w K mg base 3 "_law_product" gO) (h2:bJ P w K mg base 3 "_law_less" iX):bf P w K mg base (cO P w) 4 f fd ["_law_i","_law_j"] (dU K wm):=by
 refine ck Fu Dm Dn (by rintro ds r ⟨a,b,c,x,y,z,_,rfl,_⟩; rfl) (by rintro ds r ⟨a,b,c,x,y,z,_,_,rfl⟩; exact ⟨_,rfl⟩) fun k hq ds sl hF=>?_
 obtain ⟨a,b,c,x,y,z,⟨ha,hb,hc,hx,hy,hz⟩,rfl,e⟩:=hF
 injection e with e
 subst e
 show aN k _ [.va (cF a b c),.va (cF x y z),.un] _ _
 conv in (aq _)=>whnf
 refine aY ?_
 generalize hG:(fun ρ'=>aN k _ ρ' _ _)=G
 walk_at "ev"
 subst hG
 refine gw 2 (by walk_at "at") rfl (by walk_at "sset") ?_
 walk_at "ev"
 rfl
end
noncomputable def nJ:Fn:=fun ds r=>∃ (a b c x y z:List aL) (t:Nat),gr a b c x y z∧t≤5∧ds=[cF a b c,cF x y z,.int t]∧r=.ok (.va (.tup ((IB a b c x y z t).map aR)))
theorem Hj {t:Nat} (h:gr a b c x y z) (ht:t≤5):nJ [cF a b c,cF x y z,.int t] (.ok (.va (.tup ((IB a b c x y z t).map aR)))):=⟨a,b,c,x,y,z,t,h,ht,rfl,rfl⟩
noncomputable def uE:Fn:=fun ds r=>∃ (a b c x y z:List aL) (n d:Int),gr a b c x y z∧n.natAbs<2 ^ 120∧d.natAbs<2 ^ 120∧ds=[cF a b c,cF x y z,.tup [.int n,.int d]]∧r=.ok (.va (.tup ((IC a b c x y z n d).map aR)))
theorem LB (h:gr a b c x y z) (hn:n.natAbs<2 ^ 120) (hd:d.natAbs<2 ^ 120):uE [cF a b c,cF x y z,.tup [.int n,.int d]] (.ok (.va (.tup ((IC a b c x y z n d).map aR)))):=⟨a,b,c,x,y,z,n,d,h,hn,hd,rfl,rfl⟩
theorem rB (h:Lm l e b A) (g:Lm l' e' b' B) (hl:l+l'≤20000:=by decide):gq [.lst ((A++B).map au)] (.ok (.ow ((aG (A++B)).map au))) :=
 kh (by rw [Rr]; have:=h.l; have:=g.l; omega) fun t ht=>(Rg.mp ht).elim (h.pow t) (g.pow t)
section
local macro_rules | `(tactic| walk_at "evBo")=> `(tactic| first | ((with_reducible show aH _ (Uj (UL _ _ _) U6 _ _) _ _); with_reducible refine vA ?_))
local macro_rules | `(tactic| walk_at "evCa")=> `(tactic| first
 | with_reducible refine bz (F:=gO) (by assumption) (by decide) ?_
 | with_reducible refine bz (F:=wm) (by assumption) (by decide) ?_
 | with_reducible refine bz (F:=gq) (by assumption) (by decide) ?_
 | with_reducible refine bz (F:=Ar) (by assumption) (by decide) ?_)
local macro_rules | `(tactic| walk_at "evXC")=> `(tactic| first
 | with_reducible refine x_call (F:=wm) (by assumption) (by decide) ?_
 | with_reducible refine x_call (F:=Ar) (by assumption) (by decide) ?_)
local macro_rules | `(tactic| walk_at "evR")=> `(tactic| first
 | refine aF (yi (Lm.Qs (by assumption) (by assumption))) ?_
 | refine aF (Od (by assumption)) ?_
 | refine aF (IE (dI.pz (by assumption) (by assumption)) (by assumption)) ?_
 | refine aF (IE (dI.lc (by assumption) (by assumption) (by assumption) (by assumption)) (by assumption)) ?_)
theorem Er (Fu:dR K "_law_slide" "_law_slide" iV f fd) (T:Txt K mg) (h1:bJ P w K mg base 3 "_law_product" gO) (h2:bJ P w K mg base 4 "_law_way" wm) (h3:bJ P w K mg base 2 "_law_sum" gq):bf P w K mg base (cO P w) 5 f fd ["_law_i","_law_j","_law_t"] (dU K nJ):=by
 refine ck Fu vV vW (by rintro ds r ⟨a,b,c,x,y,z,t,_,_,rfl,_⟩; rfl) (by rintro ds r ⟨a,b,c,x,y,z,t,_,_,_,rfl⟩; exact ⟨_,rfl⟩) fun k hq ds sl hF=>?_
 obtain ⟨a,b,c,x,y,z,t,h,ht,rfl,e⟩:=hF
 injection e with e
 subst e
 obtain ⟨ha,hb,hc,hx,hy,hz⟩:=id h
 have hf:=kG ht
 have hw0:=hx.lc hc ha hz
 have hw1:=hy.lc hc hb hz
 show aN k _ [.va (cF a b c),.va (cF x y z),.va (.int t),.un,.un,.un,.un] _ _
 conv in (aq _)=>whnf
 refine aY ?_
 generalize hG:(fun ρ'=>aN k _ ρ' _ _)=G
 walk_at "ev"
 refine ⟨_,_,rfl,rfl,?_⟩
 walk_at "ev"
 ·exact ⟨by simp,by omega,by omega,by rw [Rp]; exact jA (by simp only [Sb]; omega)⟩
 ·rw [Rp,ig]; exact jA (by simp only [QU,UP,Sb]; omega)
 subst hG
 have e0:D.tup [D.tup ((QY (t:Int).toNat [D.int 0]).flatten++[D.int 1]),D.int 1]=au (QY t 0++[1],1):=by
  rw [Rp,ig]
  show _=D.tup [.tup ((QY t (0:Int)++[1]).map D.int),.int 1]
  rw [Ra]
  rfl
 rw [e0]
 refine gw 3 (by walk_at "at") rfl (by walk_at "sset") ?_
 show aN k _ [.va (cF a b c),.va (cF x y z),.va (.int t),.va (aR (oJ t)),.un,.un,.un] _ _
 walk_at "ev"
 with_reducible refine cG hq (dB (Txt.range (by assumption)) ?_)
 walk_at "ev"
 ·exact ⟨by decide,by decide⟩
 refine ⟨fun i ρ'=>∃ s6:Sl,ρ'=[.va (cF a b c),.va (cF x y z),.va (.int t),.va (aR (oJ t)),.va (wc (yp x c a z) (yp y c b z)),.ow (([Lr a c x z (oJ t),Lr b c y z (oJ t)].take i).map aR),s6],⟨_,rfl⟩,?_,?_⟩
 ·rintro c' nP uJ uK i d ρ' hd ⟨s6,rfl⟩
  obtain ⟨hi,rfl⟩:=eZ hd
  have hi':i<2:=hi
  obtain rfl | rfl:i=0∨i=1:=by omega
  ·walk_at "ev"
   ·rw [QU,QU]; exact jA (by have:=(ha.pz hz).l; have:=(hf.prod hw0).gT.l; omega)
   rw [← Ra]
   refine aF (rB (ha.pz hz) (hf.prod hw0).gT) ?_
   walk_at "ev"
   ·exact c8 (by rw [QU,Rx]; omega)
   ·exact ⟨_,rfl⟩
  ·walk_at "ev"
   ·rw [QU,QU]; exact jA (by have:=(hb.pz hz).l; have:=(hf.prod hw1).gT.l; omega)
   rw [← Ra]
   refine aF (rB (hb.pz hz) (hf.prod hw1).gT) ?_
   walk_at "ev"
   ·exact c8 (by rw [QU,Rx]; omega)
   ·exact ⟨_,rfl⟩
 ·rintro ρ' ⟨s6,rfl⟩
  rw [gS]
  walk_at "evSs"
  refine sG 5 (by walk_at "at") rfl (by walk_at "sset") ?_
  walk_at "ev"
  rfl
theorem Hl (Fu:dR K "_law_part" "_law_part" kg f fd) (T:Txt K mg) (h1:bJ P w K mg base 3 "_law_product" gO) (h2:bJ P w K mg base 4 "_law_way" wm) (h3:bJ P w K mg base 2 "_law_sum" gq) (h4:bJ P w K mg base 3 "_law_scaled" Ar):bf P w K mg base (cO P w) 5 f fd ["_law_i","_law_j","_law_f"] (dU K uE):=by
 refine ck Fu Af Ag (by rintro ds r ⟨a,b,c,x,y,z,n,d,_,_,_,rfl,_⟩; rfl) (by rintro ds r ⟨a,b,c,x,y,z,n,d,_,_,_,_,rfl⟩; exact ⟨_,rfl⟩) fun k hq ds sl hF=>?_
 obtain ⟨a,b,c,x,y,z,n,d,h,hn,hd,rfl,e⟩:=hF
 injection e with e
 subst e
 obtain ⟨ha,hb,hc,hx,hy,hz⟩:=id h
 have hw0:=hx.lc hc ha hz
 have hw1:=hy.lc hc hb hz
 show aN k _ [.va (cF a b c),.va (cF x y z),.va (.tup [.int n,.int d]),.un,.un,.un,.un] _ _
 conv in (aq _)=>whnf
 walk_at "ev"
 with_reducible refine cG hq (dB (Txt.range (by assumption)) ?_)
 walk_at "ev"
 ·exact ⟨by decide,by decide⟩
 refine ⟨fun i ρ'=>∃ s5 s6:Sl,ρ'=[.va (cF a b c),.va (cF x y z),.va (.tup [.int n,.int d]),.va (wc (yp x c a z) (yp y c b z)),.ow (([Lu a c x z n d,Lu b c y z n d].take i).map aR),s5,s6],⟨_,_,rfl⟩,?_,?_⟩
 ·rintro c' nP uJ uK i d' ρ' hd' ⟨s5,s6,rfl⟩
  obtain ⟨hi,rfl⟩:=eZ hd'
  have hi':i<2:=hi
  obtain rfl | rfl:i=0∨i=1:=by omega
  ·refine dJ (by walk_at "at") (wR (by walk_at "sset") ?_)
   refine aY ?_
   generalize hG:(fun ρ'=>aN c' _ ρ' _ _)=G
   walk_at "ev"
   subst hG
   refine gw 6 (by walk_at "at") rfl (by walk_at "sset") ?_
   walk_at "ev"
   ·rw [QU,QU]; exact jA (by have:=(gU (ha.pz hz) hd).l; have:=(gU hw0 hn).l; omega)
   rw [← Ra]
   refine aF (rB (gU (ha.pz hz) hd) (gU hw0 hn)) ?_
   walk_at "ev"
   ·exact c8 (by rw [QU,Rx]; omega)
   ·exact ⟨_,_,rfl⟩
  ·refine dJ (by walk_at "at") (wR (by walk_at "sset") ?_)
   refine aY ?_
   generalize hG:(fun ρ'=>aN c' _ ρ' _ _)=G
   walk_at "ev"
   subst hG
   refine gw 6 (by walk_at "at") rfl (by walk_at "sset") ?_
   walk_at "ev"
   ·rw [QU,QU]; exact jA (by have:=(gU (hb.pz hz) hd).l; have:=(gU hw1 hn).l; omega)
   rw [← Ra]
   refine aF (rB (gU (hb.pz hz) hd) (gU hw1 hn)) ?_
   walk_at "ev"
   ·exact c8 (by rw [QU,Rx]; omega)
   ·exact ⟨_,_,rfl⟩
 ·rintro ρ' ⟨s5,s6,rfl⟩
  rw [gS]
  walk_at "evSs"
  refine sG 4 (by walk_at "at") rfl (by walk_at "sset") ?_
  walk_at "ev"
  rfl
end
end
section
variable {K:QM}
theorem p5 (Ls Ms:List (List aL)):k9 (n+4) (.tup (Ls.map aR)) (.tup (Ms.map aR)):=.tup fun i d e h1 h2=>by
 simp only [Q3,Q7] at h1 h2
 obtain ⟨a,_,rfl⟩:=h1
 obtain ⟨b,_,rfl⟩:=h2
 exact CJ a b
theorem uF (L1 L2:List (List aL)):nZ [.tup (L1.map aR),.tup (L2.map aR)] [.tup (L1.map aR),.tup (L2.map aR)]:=pW (p5 L1 L1) (pW (p5 L2 L2) (CK _))
theorem Lm.out {l b:Nat} {e:Int} {A:List aL} (h:Lm l e b A) (hl:l≤20000:=by decide):A.length≤20000∧∀ t∈A,t.1.length≤64:=⟨Q4 h.l hl,h.pow⟩
theorem Ho {p:List aL→Prop} (ha:p A) (hb:p B) (hc:p C):∀ L∈[A,B,C],p L:=by
 intro L hL
 simp only [Q0,RP,or_false] at hL
 rcases hL with rfl | rfl | rfl
 ·exact ha
 ·exact hb
 ·exact hc
noncomputable abbrev nK (L:List aL):Prop:=L.length≤20000∧∀ t∈L,t.1.length≤64
section
variable {t u v:Nat}
theorem Es (h:gr a b c x y z) (ht:t≤5):∀ L∈IB a b c x y z t,nK L:=Ho (Iu h.a h.c h.x h.z (kG ht)).out (Iu h.b h.c h.y h.z (kG ht)).out (h.c.pz h.z).out
theorem Et (h:gr a b c x y z) (hn:n.natAbs<2 ^ 120) (hd:d.natAbs<2 ^ 120):∀ L∈IC a b c x y z n d,nK L:=Ho (Iv h.a h.c h.x h.z hn hd).out (Iv h.b h.c h.y h.z hn hd).out (gU (h.c.pz h.z) hd).out
theorem uG (n):nK (cT n):=⟨(by decide:(1:Nat)≤20000),fun t ht=>by cases Q8.mp ht; exact Rq _⟩
theorem Eu (n):nK (aG (cT n)):=⟨Q4 (mQ _) (by decide:(1:Nat)≤20000),Cq (uG n).2⟩
theorem Ew:∀ L∈N6 n d m e,nK L:=Ho (Eu _) (Eu _) (uG _)
theorem Ey (hu:u≤5) (hv:v≤5):∀ L∈N8 u v,nK L:=Ho (kG hu).out (kG hv).out (uG _)
theorem ir (h:∀ L∈[A,B,C],nK L):uB (genS [A,B,C]):=⟨[A,B,C].map fun A=>A.map au,rfl,by show (3:Nat)≤1000; decide,fun ds hd=>by
 obtain ⟨L,hL,rfl⟩:=Rj.mp hd
 rw [QU]; exact (h L hL).1⟩
theorem Of (h:gr a b c x y z) (ht:t≤5):eV [(genS (IB a b c x y z t)).d,.tup ((IB a b c x y z t).map aR)] (.ok (.va (.bl true))):=lH false (Ls:=IB a b c x y z t) rfl (Es h ht)
theorem Og (h:gr a b c x y z) (hn:n.natAbs<2 ^ 120) (hd:d.natAbs<2 ^ 120):eV [(genS (IC a b c x y z n d)).d,.tup ((IC a b c x y z n d).map aR)] (.ok (.va (.bl true))):=lH false (Ls:=IC a b c x y z n d) rfl (Et h hn hd)
theorem Oh:eV [(genS (N6 n d m e)).d,.lst [.lst ((aG (cT (n * e))).map au),.lst ((aG (cT (m * d))).map au),.lst [.tup [.tup [],.int (d * e)]]]] (.ok (.va (.bl true))):=lH true (Ls:=N6 n d m e) rfl Ew
theorem Oi (hu:u≤5) (hv:v≤5):eV [(genS (N8 u v)).d,.lst [.lst [au (QY u 0++[1],1)],.lst [au (QY v 0++[1],1)],.lst [.tup [.tup [],.int 1]]]] (.ok (.va (.bl true))):=lH true (Ls:=N8 u v) rfl (Ey hu hv)
theorem LC (n):gq [.lst [.tup [.tup [],.int n]]] (.ok (.ow ((aG (cT n)).map au))):=kh (ts:=cT n) (uG n).1 (uG n).2
theorem Hq (a b c):pY [cF a b c] (.ok (.va (cF a b c))):=Lo (Ls:=[a,b,c]) (by show (3:Nat)≤1000; decide)
noncomputable def Oj:Fn:=fun ds r=>∃ (a b c x y z:List aL) (t:Nat) (n d:Int),gr a b c x y z∧t≤5∧n.natAbs<2 ^ 120∧d.natAbs<2 ^ 120∧ds=[cF a b c,cF x y z,.int t,.tup [.int n,.int d]]∧r=.ok (.va (.bl true))
theorem Ol (h:gr a b c x y z) (ht:t≤5) (hn:n.natAbs<2 ^ 120) (hd:d.natAbs<2 ^ 120):Oj [cF a b c,cF x y z,.int t,.tup [.int n,.int d]] (.ok (.va (.bl true))):=⟨a,b,c,x,y,z,t,n,d,h,ht,hn,hd,rfl,rfl⟩
noncomputable def Om:Fn:=fun ds r=>∃ (n d m e:Int) (u v:Nat),n.natAbs<2 ^ 120∧d.natAbs<2 ^ 120∧m.natAbs<2 ^ 120∧e.natAbs<2 ^ 120∧d * e≠0∧u≤5∧v≤5∧ds=[.tup [.int n,.int d],.tup [.int m,.int e],.int u,.int v]∧r=.ok (.va (.bl true))
theorem Qe (hn:n.natAbs<2 ^ 120) (hd:d.natAbs<2 ^ 120) (hm:m.natAbs<2 ^ 120) (he:e.natAbs<2 ^ 120) (h:d * e≠0) (hu:u≤5) (hv:v≤5):Om [.tup [.int n,.int d],.tup [.int m,.int e],.int u,.int v] (.ok (.va (.bl true))):=⟨n,d,m,e,u,v,hn,hd,hm,he,h,hu,hv,rfl,rfl⟩
end
section
local macro_rules | `(tactic| walk_at "evCa")=> `(tactic| first
 | with_reducible refine bz (F:=pY) (by assumption) (by decide) ?_
 | with_reducible refine bz (F:=nJ) (by assumption) (by decide) ?_
 | with_reducible refine bz (F:=uE) (by assumption) (by decide) ?_
 | with_reducible refine bz (F:=eV) (by assumption) (by decide) ?_)
local macro_rules | `(tactic| walk_at "evXC")=> `(tactic| first
 | with_reducible refine x_call (x:=QK "slide_point") (F:=NW) (by assumption) (by decide) ?_
 | with_reducible refine x_call (x:=QK "part_point") (F:=NY) (by assumption) (by decide) ?_)
local macro_rules | `(tactic| walk_at "evR")=> `(tactic| first
 | with_reducible refine aF (Hq _ _ _) ?_
 | with_reducible refine aF (Hj (by assumption) (by assumption)) ?_
 | with_reducible refine aF (LB (by assumption) (by assumption) (by assumption)) ?_
 | with_reducible refine aF (Of (by assumption) (by assumption)) ?_
 | with_reducible refine aF (Og (by assumption) (by assumption) (by assumption)) ?_
 | with_reducible refine aF (P9 (by assumption) (by assumption)) ?_
 | with_reducible refine aF (Qa (by assumption) (by assumption) (by assumption)) ?_)
local macro_rules | `(tactic| walk_at "evIf")=> `(tactic| first
 | refine Fw (CS 6 (.s rfl (.s rfl (.s rfl (.s rfl (.s rfl (.s rfl (.z .nil))))))) (by walk_at "sset") ?_))
theorem Oo (Fu:dR K "_law_pair_good" "_law_pair_good" eS f fd) (T:Txt K mg) (h1:bJ P w K mg base 7 "slide_point" NW) (h2:bJ P w K mg base 7 "part_point" NY)
 (h3:bJ P w K mg base 1 "_law_copy" pY) (h4:bJ P w K mg base 5 "_law_slide" nJ) (h5:bJ P w K mg base 5 "_law_part" uE) (h6:bJ P w K mg base 3 "_law_same_three" eV) (h7:CT P w K mg base 1 "_law_spoil" uB):bf P w K mg base (cO P w) 8 f fd ["_law_i","_law_j","_law_t","_law_f"] (dU K Oj):=by
 refine ck Fu nv ny (by rintro ds r ⟨a,b,c,x,y,z,t,n,d,_,_,_,_,rfl,_⟩; rfl) (by rintro ds r ⟨a,b,c,x,y,z,t,n,d,_,_,_,_,_,rfl⟩; exact ⟨_,rfl⟩) fun k hq ds sl hF=>?_
 obtain ⟨a,b,c,x,y,z,t,n,d,h,ht,hn,hd,rfl,e⟩:=hF
 injection e with e
 subst e
 show aN k _ [.va (cF a b c),.va (cF x y z),.va (.int t),.va (.tup [.int n,.int d]),.un,.un,.un] _ _
 conv in (aq _)=>whnf
 walk_at "ev"
 refine sG 4 (by walk_at "at") rfl (by walk_at "sset") ?_
 with_reducible refine cG hq (dB (Txt.range (by assumption)) ?_)
 walk_at "ev"
 ·exact ⟨by decide,by decide⟩
 refine ⟨fun i ρ'=>∃ s5:Sl,ρ'=[.va (cF a b c),.va (cF x y z),.va (.int t),.va (.tup [.int n,.int d]),.va (.lst [cF a b c,cF x y z]),s5,.un],⟨_,rfl⟩,?_,?_⟩
 ·rintro c' nP uJ uK i d' ρ' hd' ⟨s5,rfl⟩
  obtain ⟨hi,rfl⟩:=eZ hd'
  walk_at "ev"
  refine lE h7 (by decide) (by walk_at "at") (.s rfl (.s rfl (.s rfl (.s rfl (.s rfl (.s rfl (.z .nil))))))) (ir (Es h ht)) ?_
  walk_at "ev"
  refine tX (uF [a,b,c] [x,y,z]) ?_
  walk_at "ev"
  refine lE h7 (by decide) (by walk_at "at") (.s rfl (.s rfl (.s rfl (.s rfl (.s rfl (.s rfl (.z .nil))))))) (ir (Et h hn hd)) ?_
  walk_at "ev"
  exact ⟨_,rfl⟩
 ·rintro ρ' ⟨s5,rfl⟩
  walk_at "ev"
  refine tX (uF [a,b,c] [x,y,z]) ?_
  rfl
end
theorem Oq (u:Nat):D.tup [D.tup ((QY (u:Int).toNat [D.int 0]).flatten++[D.int 1]),D.int 1]=au (QY u 0++[1],1):=by
 rw [Rp,ig]
 show _=D.tup [.tup ((QY u (0:Int)++[1]).map D.int),.int 1]
 rw [Ra]
 rfl
theorem Ez {u:Nat} (h:u≤5):(QY (u:Int).toNat [D.int 0]).flatten.length+[D.int 1].length≤sizeLine:=by rw [Rp,ig]; exact jA (by simp only [QU,UP,Sb]; lia)
theorem EA {u:Nat} (h:u≤5):[D.int 0]≠[]∧(0:Int)≤u∧(u:Int)<2 ^ 63∧[D.int 0].length * (u:Int).toNat≤sizeLine:=⟨by simp,by lia,by lia,by rw [Rp]; exact jA (by simp only [Sb]; lia)⟩
section
local macro_rules | `(tactic| walk_at "evBo")=> `(tactic| first | ((with_reducible show aH _ (Uj (UL _ _ _) U6 _ _) _ _); with_reducible refine vA ?_))
local macro_rules | `(tactic| walk_at "evCa")=> `(tactic| first
 | with_reducible refine bz (F:=gq) (by assumption) (by decide) ?_
 | with_reducible refine bz (F:=eV) (by assumption) (by decide) ?_)
local macro_rules | `(tactic| walk_at "evXC")=> `(tactic| first
 | with_reducible refine x_call (x:=QK "told_point") (F:=NU) (by assumption) (by decide) ?_
 | with_reducible refine x_call (x:=QK "free_point") (F:=NS) (by assumption) (by decide) ?_)
local macro_rules | `(tactic| walk_at "evR")=> `(tactic| first
 | with_reducible refine aF (LC _) ?_
 | with_reducible refine aF Oh ?_
 | with_reducible refine aF (Qc (by assumption) (by assumption) (by assumption) (by assumption) (by assumption)) ?_
 | with_reducible refine aF (Qd (by assumption) (by assumption)) ?_)
local macro_rules | `(tactic| walk_at "evIf")=> `(tactic| first
 | refine Fw (CS 5 (.s rfl (.s rfl (.s rfl (.s rfl (.s rfl (.z (.cons rfl .nil))))))) (by walk_at "sset") ?_))
theorem Ot (Fu:dR K "_law_told_good" "_law_told_good" eT f fd) (T:Txt K mg) (h1:bJ P w K mg base 6 "told_point" NU) (h2:bJ P w K mg base 6 "free_point" NS)
 (h3:bJ P w K mg base 2 "_law_sum" gq) (h6:bJ P w K mg base 3 "_law_same_three" eV) (h7:CT P w K mg base 1 "_law_spoil" uB):bf P w K mg base (cO P w) 7 f fd ["_law_f","_law_g","_law_u","_law_v"] (dU K Om):=by
 refine ck Fu nC nD (by rintro ds r ⟨n,d,m,e,u,v,_,_,_,_,_,_,_,rfl,_⟩; rfl) (by rintro ds r ⟨n,d,m,e,u,v,_,_,_,_,_,_,_,_,rfl⟩; exact ⟨_,rfl⟩) fun k hq ds sl hF=>?_
 obtain ⟨n,d,m,e',u,v,hn,hd,hm,he,h0,hu,hv,rfl,e⟩:=hF
 injection e with e
 subst e
 have m1:EV.MulOk n e':=gQ hn he (by decide)
 have m2:EV.MulOk m d:=gQ hm hd (by decide)
 have m3:EV.MulOk d e':=gQ hd he (by decide)
 show aN k _ [.va (.tup [.int n,.int d]),.va (.tup [.int m,.int e']),.va (.int u),.va (.int v),.un,.un,.un] _ _
 conv in (aq _)=>whnf
 walk_at "evSs"
 with_reducible refine cG hq (dB (Txt.range (by assumption)) ?_)
 walk_at "ev"
 ·exact ⟨by decide,by decide⟩
 refine ⟨fun i ρ'=>∃ s4 s6:Sl,ρ'=[.va (.tup [.int n,.int d]),.va (.tup [.int m,.int e']),.va (.int u),.va (.int v),s4,.un,s6]∧s6.LK=false,⟨_,_,rfl,rfl⟩,?_,?_⟩
 ·rintro c' nP uJ uK i d' ρ' hd' ⟨s4,s6,rfl,h6⟩
  obtain ⟨hi,rfl⟩:=eZ hd'
  refine dJ (by walk_at "at") (wR (by walk_at "sset") ?_)
  refine aY ?_
  generalize hG:(fun ρ'=>aN c' _ ρ' _ _)=G
  walk_at "ev"
  subst hG
  refine aY ?_
  generalize hG:(fun ρ'=>aN c' _ ρ' _ _)=G
  walk_at "ev"
  subst hG
  refine gw 6 (by walk_at "at") rfl (by walk_at "sset") ?_
  walk_at "ev"
  refine lE h7 (by decide) (by walk_at "at") (.s rfl (.s rfl (.s rfl (.s rfl (.s rfl (.z (.cons rfl .nil))))))) (ir Ew) ?_
  walk_at "ev"
  refine ⟨_,_,rfl,rfl,?_⟩
  walk_at "ev"
  ·exact EA hu
  ·exact Ez hu
  refine ⟨_,_,rfl,rfl,?_⟩
  walk_at "ev"
  ·exact EA hv
  ·exact Ez hv
  rw [Oq,Oq]
  refine aF (Oi hu hv) ?_
  walk_at "ev"
  refine lE h7 (by decide) (by walk_at "at") (.s rfl (.s rfl (.s rfl (.s rfl (.s rfl (.z (.cons rfl .nil))))))) (ir (Ey hu hv)) ?_
  walk_at "ev"
  exact ⟨_,_,rfl,rfl⟩
 ·rintro ρ' ⟨s4,s6,rfl,h6⟩
  walk_at "ev"
  rfl
end
end
section
variable {P:Program} {w:World} {K:QM} {mg:Str→Option Value} {base:Heap}
noncomputable def p6 (ns:List Int) (k:Nat):Int:=if k<ns.length then ns.getD k 0 % 2147483647 else 0
noncomputable def p7:Fn:=fun ds r=>∃ (ns:List Int) (k:Nat),ds=[.lst (ns.map .int),.int (k:Int)]∧r=.ok (.va (.int (p6 ns k)))
theorem LD (ns) (k:Nat):p7 [.lst (ns.map .int),.int (k:Int)] (.ok (.va (.int (p6 ns k)))):=⟨ns,k,rfl,rfl⟩
theorem wo {ns:List Int} (h:k<ns.length):kr (ns.map D.int) (k:Int)=some (D.int (ns.getD k 0)):=by
 rw [ji (by omega) (by simp; omega),Rp,Q3,Ro h,R3,Ro h]
 rfl
theorem Hr (ns):p7 [.lst (ns.map .int),.int 0] (.ok (.va (.int (p6 ns 0)))):=LD ns 0
theorem Hs (Fu:dR K "_law_cell" "_law_cell" j7 f fd) (T:Txt K mg):bf P w K mg base (cO P w) 1 f fd ["_law_script","_law_k"] (dU K p7):=by
 refine ck Fu zY zZ (by rintro ds r ⟨ns,k,rfl,_⟩; rfl) (by rintro ds r ⟨ns,k,_,rfl⟩; exact ⟨_,rfl⟩) fun c hq ds sl hF=>?_
 obtain ⟨ns,k,rfl,e⟩:=hF
 injection e with e
 subst e
 show aN c _ [.va (.lst (ns.map .int)),.va (.int (k:Int))] _ _
 conv in (aq _)=>whnf
 walk_at "ev"
 ·have hk:k<ns.length:=by simp only [QU] at *; omega
  refine o9 (wo hk) ?_
  walk_at "ev"
  show Sl.va _=Sl.va _
  unfold p6
  rw [if_pos hk]
 ·have hk:¬ k<ns.length:=by simp only [QU] at *; omega
  show Sl.va _=Sl.va _
  unfold p6
  rw [if_neg hk]
theorem kj (cs:List Int) (o:Int) {k:Int} (hk:k.natAbs<5):dI (aG (ki cs o k)) where
 l:=Q4 (mQ _) (nI ..)
 e:=Ex.gT fun t ht=>⟨Q4 (lG cs o k hk t ht).1 (by decide),(lG cs o k hk t ht).2.1⟩
 b:=Bn.gT (fun t ht=>(lG cs o k hk t ht).2.2) (Tc (nI ..) (by decide))
noncomputable def th (cs:List Int) (o:Int) (k:Nat):List aL:=aG (ki cs o (k:Int))
theorem LF (ho:o.natAbs<10) (hl:cs.length≤1000):Eb [.lst (cs.map .int),.int o] (.ok (.va (.tup [aR (th cs o 0),aR (th cs o 1),aR (th cs o 2)]))):=⟨cs,o,ho,hl,rfl,rfl⟩
theorem mU {α:Type} (xs:List α) (a b:Nat):(EV.cutD xs (some (a:Int)) (some (b:Int))).length≤b - a:=by
 unfold EV.cutD HT.cj
 simp only [show ¬ ((a:Int)<0) by omega,show ¬ ((b:Int)<0) by omega,if_false,Rx,VN,Rp]
 omega
theorem Ou (hb:b≠0):(nT a b).natAbs≤a.natAbs:=by
 have h:=Ke (a:=a) hb
 have g:=ly (a:=a) hb
 have:a.natAbs=(fM a b).natAbs * (nT a b).natAbs:=by rw [← VY,← h]
 rw [this]
 exact Nat.le_mul_of_pos_left _ (by omega)
theorem Ov (hb:b≠0):(nB a b).natAbs≤b.natAbs∧nB a b≠0:=by
 have h:=Kf (a:=a) hb
 have g:=ly (a:=a) hb
 have:b.natAbs=(fM a b).natAbs * (nB a b).natAbs:=by rw [← VY,← h]
 exact ⟨by rw [this]; exact Nat.le_mul_of_pos_left _ (by omega),fun z=>hb (by rw [h,z,Int.mul_zero])⟩
theorem EB (ha:a.natAbs<2 ^ 101) (h:b.natAbs<2 ^ 101) (hb:b≠0):(nT a b).natAbs<2 ^ 120∧(nB a b).natAbs<2 ^ 120∧nB a b≠0:=by
 have h1:=Ou (a:=a) hb
 have h2:=Ov (a:=a) hb
 exact ⟨by omega,by omega,h2.2⟩
theorem IF (h:b.natAbs<2 ^ 101):Pz b:=BQ.mpr (RG h (by decide +kernel))
theorem Ow:(10:Int) ^ SY 30=1000000000000000000000000000000:=rfl
theorem wu:yC 10 30:=⟨by decide,by decide,by decide⟩
section
local macro_rules | `(tactic| walk_at "evR")=> `(tactic| first
 | with_reducible refine aF (LF (by decide) (by assumption)) ?_
 | with_reducible refine aF (Hr _) ?_)
local macro_rules | `(tactic| walk_at "evCa")=> `(tactic| first
 | with_reducible refine bz (F:=Eb) (by assumption) (by decide) ?_
 | with_reducible refine bz (F:=p7) (by assumption) (by decide) ?_
 | with_reducible refine bz (F:=Oa) (by assumption) (by decide) ?_
 | with_reducible refine bz (F:=Om) (by assumption) (by decide) ?_
 | with_reducible refine bz (F:=Oj) (by assumption) (by decide) ?_)
theorem LG (Fu:dR K "law" "law" vX f fd) (T:Txt K mg) (h1:bJ P w K mg base 1 "_law_cell" p7) (h2:bJ P w K mg base 3 "_law_three" Eb) (h3:bJ P w K mg base 1 "_law_fraction" Oa) (h4:bJ P w K mg base 7 "_law_told_good" Om) (h5:bJ P w K mg base 8 "_law_pair_good" Oj):bf P w K mg base (cO P w) 9 f fd ["_law_script"] (dU K BO):=by
 refine ck Fu K8 K9 (by rintro ds r ⟨ns,_,rfl,_⟩; rfl) (by rintro ds r ⟨ns,_,_,rfl⟩; exact ⟨_,rfl⟩) fun c hq ds sl hF=>?_
 obtain ⟨ns,hl,rfl,e⟩:=hF
 injection e with e
 subst e
 show aN c _ [.va (.lst (ns.map D.int)),.un,.un,.un,.un,.un,.un,.un,.un,.un] _ _
 conv in (aq _)=>whnf
 refine aY ?_
 generalize hG:(fun ρ'=>aN c _ ρ' _ _)=G
 walk_at "ev"
 ·have:(EV.cutD (ns.map D.int) (some 2) (some 63)).length≤61:=mU _ 2 63
  exact jA (by simp only [Sb]; omega)
 subst hG
 show aN c _ [.va (.lst (ns.map D.int)),.ow (EV.cutD (ns.map D.int) (some 2) (some 63)++[.int 5]),.un,.un,.un,.un,.un,.un,.un,.un] _ _
 have hcs:EV.cutD (ns.map D.int) (some 2) (some 63)++[D.int 5]=(EV.cutD ns (some 2) (some 63)++[5]).map .int:=by rw [jh,Ra]; rfl
 have hcl:(EV.cutD ns (some 2) (some 63)++[5]).length≤1000:=by
  have:(EV.cutD ns (some 2) (some 63)).length≤61:=mU _ 2 63
  rw [Rr,Sb]; omega
 rw [hcs]
 generalize EV.cutD ns (some 2) (some 63)++[5]=cs at hcl ⊢
 refine gw 1 (by walk_at "at") rfl (by walk_at "sset") ?_
 have a0:dI (th cs 0 0):=kj cs 0 (by decide)
 have a1:dI (th cs 0 1):=kj cs 0 (by decide)
 have a2:dI (th cs 0 2):=kj cs 0 (by decide)
 have b0:dI (th cs 1 0):=kj cs 1 (by decide)
 have b1:dI (th cs 1 1):=kj cs 1 (by decide)
 have b2:dI (th cs 1 2):=kj cs 1 (by decide)
 refine aY ?_
 generalize hG:(fun ρ'=>aN c _ ρ' _ _)=G
 walk_at "ev"
 subst hG
 refine aY ?_
 generalize hG:(fun ρ'=>aN c _ ρ' _ _)=G
 walk_at "ev"
 subst hG
 generalize th cs 0 0=p0 at a0 ⊢
 generalize th cs 0 1=p1 at a1 ⊢
 generalize th cs 0 2=p2 at a2 ⊢
 generalize th cs 1 0=q0 at b0 ⊢
 generalize th cs 1 1=q1 at b1 ⊢
 generalize th cs 1 2=q2 at b2 ⊢
 refine aY ?_
 generalize hG:(fun ρ'=>aN c _ ρ' _ _)=G
 walk_at "ev"
 subst hG
 generalize p6 ns 0 % 8=kd
 refine aY (HN (fun ρ'=>∃ x y z,dI x∧dI y∧dI z∧ρ'=[.va (.lst (ns.map D.int)),.va (.lst (cs.map D.int)),.va (cF p0 p1 p2),.va (cF x y z),.va (.int kd),.un,.un,.un,.un,.un]) ?_ ?_)
 ·walk_at "ev"
  ·exact ⟨_,_,_,a0,a1,a2,rfl⟩
  ·exact ⟨_,_,_,b0,b1,b2,rfl⟩
 rintro ρ' ⟨x,y,z,hx,hy,hz,rfl⟩
 refine aY (HN (fun ρ'=>∃ a b c,dI a∧dI b∧dI c∧ρ'=[.va (.lst (ns.map D.int)),.va (.lst (cs.map D.int)),.va (cF a b c),.va (cF x y z),.va (.int kd),.un,.un,.un,.un,.un]) ?_ ?_)
 ·walk_at "ev"
  ·exact ⟨_,_,_,a0,a1,Lm.nil,rfl⟩
  ·exact ⟨_,_,_,a0,a1,a2,rfl⟩
 rintro ρ' ⟨a,b,c',ha,hb,hc,rfl⟩
 have S1:gr a b c' x y z:=⟨ha,hb,hc,hx,hy,hz⟩
 have S2:gr x y z a b c':=⟨hx,hy,hz,ha,hb,hc⟩
 have hns:ns.map D.int++[.int 9,.int 4]=(ns++[9,4]).map D.int:=by rw [Ra]; rfl
 have hn2:2≤(ns++[9,4]).length:=by rw [Rr]; show 2≤ns.length+2; omega
 have hnl:(ns.map D.int).length+[D.int 9,D.int 4].length≤sizeLine:=jA (by rw [QU]; show ns.length+2≤100000; omega)
 have bR:kr ((ns++[9,4]).map D.int) 0=some (.int ((ns++[9,4]).getD 0 0)):=wo (k:=0) (by omega)
 have at1:kr ((ns++[9,4]).map D.int) 1=some (.int ((ns++[9,4]).getD 1 0)):=wo (k:=1) (by omega)
 generalize ns++[9,4]=ms at hns hn2 bR at1
 refine aY ?_
 generalize hG:(fun ρ'=>aN c _ ρ' _ _)=G
 walk_at "ev"
 rw [hns]
 refine o9 bR ?_
 walk_at "ev"
 subst hG
 generalize ms.getD 0 0 / 8=one
 refine aY ?_
 generalize hG:(fun ρ'=>aN c _ ρ' _ _)=G
 walk_at "ev"
 rw [hns]
 refine o9 at1 ?_
 walk_at "ev"
 subst hG
 generalize ms.getD 1 0=oth
 refine aY ?_
 generalize hG:(fun ρ'=>aN c _ ρ' _ _)=G
 walk_at "ev"
 ·exact wu
 ·rw [Ow]; exact gQ (m:=3) (n:=101) (by decide) (by decide) (by decide)
 ·rw [Ow]; decide
 ·exact wu
 ·exact wu
 ·rw [Ow]; decide
 have hA:(one % (2 * 10 ^ SY 30 - 1) - 10 ^ SY 30+1).natAbs<2 ^ 101:=by rw [Ow]; omega
 have hB:(1+oth / 36 % (10 ^ SY 30 - 1)).natAbs<2 ^ 101∧1+oth / 36 % (10 ^ SY 30 - 1)≠0:=by rw [Ow]; omega
 generalize one % (2 * 10 ^ SY 30 - 1) - 10 ^ SY 30+1=A at hA ⊢
 generalize 1+oth / 36 % (10 ^ SY 30 - 1)=B at hB ⊢
 refine aF (Ob hB.2 (IF hB.1)) ?_
 walk_at "ev"
 subst hG
 obtain ⟨hn,hd,hd0⟩:=EB hA hB.1 hB.2
 unfold pA
 generalize nT A B=n at hn ⊢
 generalize nB A B=d at hd hd0 ⊢
 refine aY ?_
 generalize hG:(fun ρ'=>aN c _ ρ' _ _)=G
 walk_at "ev"
 have hA2:(oth / 36 % 19 - 9).natAbs<2 ^ 101:=by omega
 have hB2:(1+one % 12).natAbs<2 ^ 101∧1+one % 12≠0:=by omega
 generalize oth / 36 % 19 - 9=A2 at hA2 ⊢
 generalize 1+one % 12=B2 at hB2 ⊢
 refine aF (Ob hB2.2 (IF hB2.1)) ?_
 walk_at "ev"
 subst hG
 obtain ⟨hm,he,he0⟩:=EB hA2 hB2.1 hB2.2
 unfold pA
 generalize nT A2 B2=m at hm ⊢
 generalize nB A2 B2=e at he he0 ⊢
 obtain ⟨u,hu,eu⟩:∃ u:Nat,u<5∧oth % 5=u:=⟨(oth % 5).toNat,by omega,by omega⟩
 refine aY ?_
 generalize hG:(fun ρ'=>aN c _ ρ' _ _)=G
 walk_at "ev"
 subst hG
 rw [eu]
 obtain ⟨v,hv,ev⟩:∃ v:Nat,v≤5∧(u:Int)+1+oth / 5 % (5 - u)=v:=by
  have p1:0<(5:Int) - u:=by omega
  have p2:=WK (oth / 5) p1
  have p3:=VR (oth / 5) (b:=(5:Int) - u) (by omega)
  exact ⟨((u:Int)+1+oth / 5 % (5 - u)).toNat,by omega,by omega⟩
 obtain ⟨t1,ht1,et1⟩:∃ t:Nat,t≤5∧oth % 6=t:=⟨(oth % 6).toNat,by omega,by omega⟩
 obtain ⟨t2,ht2,et2⟩:∃ t:Nat,t≤5∧oth / 6 % 6=t:=⟨(oth / 6 % 6).toNat,by omega,by omega⟩
 walk_at "ev"
 rw [ev]
 refine aF (Qe hn hd hm he (Int.mul_ne_zero hd0 he0) (by omega) hv) ?_
 walk_at "ev"
 rw [et1]
 refine aF (Ol S1 ht1 hn hd) ?_
 walk_at "ev"
 rw [et2]
 refine aF (Ol S2 ht2 (by decide) (by decide)) ?_
 walk_at "ev"
 all_goals rfl
end
end
section
variable {K:QM}
local macro_rules | `(tactic| walk_at "len1")=> `(tactic| (intro _ _ _ _ _ _ us hl; obtain ⟨a,e⟩:=PR us hl; subst e; rfl))
local macro_rules | `(tactic| walk_at "len2")=> `(tactic| (intro _ _ _ _ _ _ us hl; obtain ⟨a,b,e⟩:=PU us hl; subst e; rfl))
local macro_rules | `(tactic| walk_at "len3")=> `(tactic| (intro _ _ _ _ _ _ us hl; obtain ⟨a,b,c,e⟩:=PV us hl; subst e; rfl))
local macro_rules | `(tactic| walk_at "len4")=> `(tactic| (intro _ _ _ _ _ _ us hl; obtain ⟨a,b,c,d,e⟩:=PX us hl; subst e; rfl))
theorem Ht (Aw:mg "law"=some (.ref fa)) (T:Txt K mg) (xPLACES:∃ tk:Tok,mg "PLACES"=some (.int 6 tk))
 (D2:ay K mg "trimmed" (top 2))
 (D3:ay K mg "greatest_powers" (top 3))
 (D4:ay K mg "key_of" (top 4))
 (D5:ay K mg "powers_of" (top 5))
 (D6:ay K mg "packed" (top 6))
 (D7:ay K mg "unpacked" (top 7))
 (D8:ay K mg "add_products" (top 8))
 (D10:ay K mg "width_of" (top 10))
 (D11:ay K mg "add_part" (top 11))
 (D12:ay K mg "poly_total" (top 12))
 (D13:ay K mg "free_poly" (top 13))
 (D14:ay K mg "told_fraction" (top 14))
 (D16:ay K mg "way_between" (top 16))
 (D18:ay K mg "told_rule" (top 18))
 (D19:ay K mg "part_rule" (top 19))
 (D20:ay K mg "free_point" (top 20))
 (D21:ay K mg "told_point" (top 21))
 (D22:ay K mg "slide_point" (top 22))
 (D23:ay K mg "part_point" (top 23))
 (D25:ay K mg "_law_whole" (top 25))
 (D26:ay K mg "_law_cell" (top 26))
 (D27:ay K mg "_law_thing" (top 27))
 (D28:ay K mg "_law_trimmed" (top 28))
 (D29:ay K mg "_law_sum" (top 29))
 (D30:ay K mg "_law_product" (top 30))
 (D31:ay K mg "_law_same" (top 31))
 (D32:ay K mg "_law_less" (top 32))
 (D33:ay K mg "_law_scaled" (top 33))
 (D34:ay K mg "_law_three" (top 34))
 (D35:ay K mg "_law_small_term" (top 35))
 (D36:ay K mg "_law_same_three" (top 36))
 (D37:ay K mg "_law_copy" (top 37))
 (D38:ay K mg "_law_spoil" (top 38))
 (D39:ay K mg "_law_fraction" (top 39))
 (D40:ay K mg "_law_way" (top 40))
 (D41:ay K mg "_law_slide" (top 41))
 (D42:ay K mg "_law_part" (top 42))
 (D43:ay K mg "_law_pair_good" (top 43))
 (D44:ay K mg "_law_told_good" (top 44))
 (D45:ay K mg "law" (top 45))
 : ∃ fd:FuncData,(∀ (s:Shared) (u:Value),BindsTo s fd ⟨[u],[]⟩ [("_law_script",u)])∧∀ base:Heap,K.In base→base.Ns mainGlobals mg→bf P w K mg base (cO P w) 20 fa fd ["_law_script"] (dU K BO):=by
 obtain ⟨f2,fd2,m2,Fu2⟩:=D2
 obtain ⟨f3,fd3,m3,Fu3⟩:=D3
 obtain ⟨f4,fd4,m4,Fu4⟩:=D4
 obtain ⟨f5,fd5,m5,Fu5⟩:=D5
 obtain ⟨f6,fd6,m6,Fu6⟩:=D6
 obtain ⟨f7,fd7,m7,Fu7⟩:=D7
 obtain ⟨f8,fd8,m8,Fu8⟩:=D8
 obtain ⟨f10,fd10,m10,Fu10⟩:=D10
 obtain ⟨f11,fd11,m11,Fu11⟩:=D11
 obtain ⟨f12,fd12,m12,Fu12⟩:=D12
 obtain ⟨f13,fd13,m13,Fu13⟩:=D13
 obtain ⟨f14,fd14,m14,Fu14⟩:=D14
 obtain ⟨f16,fd16,m16,Fu16⟩:=D16
 obtain ⟨f18,fd18,m18,Fu18⟩:=D18
 obtain ⟨f19,fd19,m19,Fu19⟩:=D19
 obtain ⟨f20,fd20,m20,Fu20⟩:=D20
 obtain ⟨f21,fd21,m21,Fu21⟩:=D21
 obtain ⟨f22,fd22,m22,Fu22⟩:=D22
 obtain ⟨f23,fd23,m23,Fu23⟩:=D23
 obtain ⟨f25,fd25,m25,Fu25⟩:=D25
 obtain ⟨f26,fd26,m26,Fu26⟩:=D26
 obtain ⟨f27,fd27,m27,Fu27⟩:=D27
 obtain ⟨f28,fd28,m28,Fu28⟩:=D28
 obtain ⟨f29,fd29,m29,Fu29⟩:=D29
 obtain ⟨f30,fd30,m30,Fu30⟩:=D30
 obtain ⟨f31,fd31,m31,Fu31⟩:=D31
 obtain ⟨f32,fd32,m32,Fu32⟩:=D32
 obtain ⟨f33,fd33,m33,Fu33⟩:=D33
 obtain ⟨f34,fd34,m34,Fu34⟩:=D34
 obtain ⟨f35,fd35,m35,Fu35⟩:=D35
 obtain ⟨f36,fd36,m36,Fu36⟩:=D36
 obtain ⟨f37,fd37,m37,Fu37⟩:=D37
 obtain ⟨f38,fd38,m38,Fu38⟩:=D38
 obtain ⟨f39,fd39,m39,Fu39⟩:=D39
 obtain ⟨f40,fd40,m40,Fu40⟩:=D40
 obtain ⟨f41,fd41,m41,Fu41⟩:=D41
 obtain ⟨f42,fd42,m42,Fu42⟩:=D42
 obtain ⟨f43,fd43,m43,Fu43⟩:=D43
 obtain ⟨f44,fd44,m44,Fu44⟩:=D44
 obtain ⟨f45,fd45,m45,Fu45⟩:=D45
 have e:=Aw.symm.trans m45
 cases e
 refine ⟨fd45,?_,fun base _ _=>?_⟩
 ·obtain ⟨oc,od,kV,doc,pm,an,cdv,ct,osl,rfl,lk,hcd⟩:=Fu45.ex
  exact fun s u=>.of_eq rfl
 have C2:bJ P w K mg base 1 "trimmed" (jC):=aQ (ps:=["powers"]) m2 Fu2 (GL Fu2 T) (by walk_at "len1")
 have C3:bJ P w K mg base 1 "greatest_powers" (nG):=aQ (ps:=["some"]) m3 Fu3 (DA Fu3 T xPLACES) (by walk_at "len1")
 have C4:bJ P w K mg base 1 "key_of" (DE):=aQ (ps:=["powers","width"]) m4 Fu4 (Lb Fu4 T xPLACES) (by walk_at "len2")
 have C5:bJ P w K mg base 2 "powers_of" (uu):=aQ (ps:=["key","width"]) m5 Fu5 (GX Fu5 T xPLACES C2) (by walk_at "len2")
 have C6:bJ P w K mg base 2 "packed" (uw):=aQ (ps:=["some","width"]) m6 Fu6 (GY Fu6 T C4) (by walk_at "len2")
 have C7:bJ P w K mg base 3 "unpacked" (DG):=aQ (ps:=["total","width"]) m7 Fu7 (Lf Fu7 T C5) (by walk_at "len2")
 have C8:zj P w K mg base 1 "add_products" (GZ):=x9 (ps:=["total","left","right"]) m8 Fu8 (Le Fu8 T) (by walk_at "len3")
 have C10:bJ P w K mg base 2 "width_of" (DT):=aQ (ps:=["parts"]) m10 Fu10 (Lg Fu10 T C3) (by walk_at "len1")
 have C11:zj P w K mg base 3 "add_part" (rA):=x9 (ps:=["whole","part","width"]) m11 Fu11 (DZ Fu11 T C6 C8) (by walk_at "len3")
 have C12:bJ P w K mg base 4 "poly_total" (iz):=aQ (ps:=["parts"]) m12 Fu12 (Lj Fu12 T C10 C11 C7) (by walk_at "len1")
 have C13:bJ P w K mg base 1 "free_poly" (uC):=aQ (ps:=["k"]) m13 Fu13 (Hg Fu13 T) (by walk_at "len1")
 have C14:bJ P w K mg base 5 "told_fraction" (NI P w K mg base):=aQ (ps:=["total","f"]) m14 Fu14 (NO Fu14) (by walk_at "len2")
 have C16:bJ P w K mg base 5 "way_between" (OO P w K mg base):=aQ (ps:=["total","i","j"]) m16 Fu16 (NQ Fu16) (by walk_at "len3")
 have C18:bJ P w K mg base 5 "told_rule" (NJ P w K mg base):=aQ (ps:=["total","f","g"]) m18 Fu18 (NP Fu18) (by walk_at "len3")
 have C19:bJ P w K mg base 6 "part_rule" (NL P w K mg base):=aQ (ps:=["total","i","j","f"]) m19 Fu19 (NR Fu19 C16) (by walk_at "len4")
 have C20:bJ P w K mg base 6 "free_point" (NS):=aQ (ps:=["u","v"]) m20 Fu20 (NT Fu20 C12 C18 C13) (by walk_at "len2")
 have C21:bJ P w K mg base 6 "told_point" (NU):=aQ (ps:=["f","g"]) m21 Fu21 (NV Fu21 C12 C18 C14) (by walk_at "len2")
 have C22:bJ P w K mg base 7 "slide_point" (NW):=aQ (ps:=["i","j","t"]) m22 Fu22 (NX Fu22 C12 C19 C13) (by walk_at "len3")
 have C23:bJ P w K mg base 7 "part_point" (NY):=aQ (ps:=["i","j","f"]) m23 Fu23 (NZ Fu23 C12 C19 C14) (by walk_at "len3")
 have C25:bJ P w K mg base 1 "_law_whole" (nE):=aQ (ps:=["_law_found"]) m25 Fu25 (Dp Fu25 T) (by walk_at "len1")
 have C26:bJ P w K mg base 1 "_law_cell" (p7):=aQ (ps:=["_law_script","_law_k"]) m26 Fu26 (Hs Fu26 T) (by walk_at "len2")
 have C27:bJ P w K mg base 1 "_law_thing" (nF):=aQ (ps:=["_law_cell_here","_law_k","_law_many"]) m27 Fu27 (Ds Fu27 T) (by walk_at "len3")
 have C28:bJ P w K mg base 1 "_law_trimmed" (jC):=aQ (ps:=["_law_powers"]) m28 Fu28 (Du Fu28 T) (by walk_at "len1")
 have C29:bJ P w K mg base 2 "_law_sum" (gq):=aQ (ps:=["_law_terms"]) m29 Fu29 (GO Fu29 T C28) (by walk_at "len1")
 have C30:bJ P w K mg base 3 "_law_product" (gO):=aQ (ps:=["_law_one","_law_other"]) m30 Fu30 (DL Fu30 T C29) (by walk_at "len2")
 have C31:bJ P w K mg base 2 "_law_same" (uq):=aQ (ps:=["_law_found","_law_due"]) m31 Fu31 (GQ Fu31 T C25) (by walk_at "len2")
 have C32:bJ P w K mg base 3 "_law_less" (iX):=aQ (ps:=["_law_one","_law_other"]) m32 Fu32 (Ed Fu32 T C29) (by walk_at "len2")
 have C33:bJ P w K mg base 3 "_law_scaled" (Ar):=aQ (ps:=["_law_some","_law_many"]) m33 Fu33 (Lz Fu33 T C29) (by walk_at "len2")
 have C35:bJ P w K mg base 2 "_law_small_term" (D0):=aQ (ps:=["_law_cell_here"]) m35 Fu35 (Ln Fu35 T C27) (by walk_at "len1")
 have C34:bJ P w K mg base 3 "_law_three" (Eb):=aQ (ps:=["_law_cells","_law_offset"]) m34 Fu34 (Ec Fu34 T C35 C29) (by walk_at "len2")
 have C36:bJ P w K mg base 3 "_law_same_three" (eV):=aQ (ps:=["_law_found","_law_due"]) m36 Fu36 (Ef Fu36 T C31) (by walk_at "len2")
 have C37:bJ P w K mg base 1 "_law_copy" (pY):=aQ (ps:=["_law_some"]) m37 Fu37 (G9 Fu37 T) (by walk_at "len1")
 have C38:CT P w K mg base 1 "_law_spoil" (uB):=GJ (ps:=["_law_found"]) m38 Fu38 (Ej Fu38) (by walk_at "len1")
 have C39:bJ P w K mg base 1 "_law_fraction" (Oa):=aQ (ps:=["_law_top","_law_bottom"]) m39 Fu39 (Oc Fu39 T) (by walk_at "len2")
 have C40:bJ P w K mg base 4 "_law_way" (wm):=aQ (ps:=["_law_i","_law_j"]) m40 Fu40 (LA Fu40 T C30 C32) (by walk_at "len2")
 have C41:bJ P w K mg base 5 "_law_slide" (nJ):=aQ (ps:=["_law_i","_law_j","_law_t"]) m41 Fu41 (Er Fu41 T C30 C40 C29) (by walk_at "len3")
 have C42:bJ P w K mg base 5 "_law_part" (uE):=aQ (ps:=["_law_i","_law_j","_law_f"]) m42 Fu42 (Hl Fu42 T C30 C40 C29 C33) (by walk_at "len3")
 have C43:bJ P w K mg base 8 "_law_pair_good" (Oj):=aQ (ps:=["_law_i","_law_j","_law_t","_law_f"]) m43 Fu43 (Oo Fu43 T C22 C23 C37 C41 C42 C36 C38) (by walk_at "len4")
 have C44:bJ P w K mg base 7 "_law_told_good" (Om):=aQ (ps:=["_law_f","_law_g","_law_u","_law_v"]) m44 Fu44 (Ot Fu44 T C21 C20 C29 C36 C38) (by walk_at "len4")
 exact (LG Fu45 T C26 C34 C39 C44 C43).mono (by decide)
end
end My
open PySem PySem.W PyProof.Rows
set_option maxRecDepth 100000 in
set_option maxHeartbeats 0 in
theorem PySem.Challenge.cw_everydraw_k12_raw_rules_of_points_holds : PySem.Challenge.rw_everydraw_k12_raw_rules_of_points.Holds := by
 w_on; o_law; k_head; (case hw=>w_witness2)
 k_fill
 refine EV.walk (k:=20) (l:=PySem.Challenge.rw_everydraw_k12_raw_rules_of_points) (by decide) rfl rfl (fun w h Y=>PySem.W.kIn_of Y) ?F
 case F =>
  intro w mg fa h KX G hmg
  have D2:EV.ay (L2.bX KX) mg (Str.ofString "trimmed") (My.top 2):=by
   dsimp only [L2.bX]
   refine' EV.aO KX G ?a ?l ?c ?k
   (case a=>k_is); (case l=>k_is); (case c=>k_is); (case k=>k_is)
  have D3:EV.ay (L2.bX KX) mg (Str.ofString "greatest_powers") (My.top 3):=by
   dsimp only [L2.bX]
   refine' EV.aO KX G ?a ?l ?c ?k
   (case a=>k_is); (case l=>k_is); (case c=>k_is); (case k=>k_is)
  have D4:EV.ay (L2.bX KX) mg (Str.ofString "key_of") (My.top 4):=by
   dsimp only [L2.bX]
   refine' EV.aO KX G ?a ?l ?c ?k
   (case a=>k_is); (case l=>k_is); (case c=>k_is); (case k=>k_is)
  have D5:EV.ay (L2.bX KX) mg (Str.ofString "powers_of") (My.top 5):=by
   dsimp only [L2.bX]
   refine' EV.aO KX G ?a ?l ?c ?k
   (case a=>k_is); (case l=>k_is); (case c=>k_is); (case k=>k_is)
  have D6:EV.ay (L2.bX KX) mg (Str.ofString "packed") (My.top 6):=by
   dsimp only [L2.bX]
   refine' EV.aO KX G ?a ?l ?c ?k
   (case a=>k_is); (case l=>k_is); (case c=>k_is); (case k=>k_is)
  have D7:EV.ay (L2.bX KX) mg (Str.ofString "unpacked") (My.top 7):=by
   dsimp only [L2.bX]
   refine' EV.aO KX G ?a ?l ?c ?k
   (case a=>k_is); (case l=>k_is); (case c=>k_is); (case k=>k_is)
  have D8:EV.ay (L2.bX KX) mg (Str.ofString "add_products") (My.top 8):=by
   dsimp only [L2.bX]
   refine' EV.aO KX G ?a ?l ?c ?k
   (case a=>k_is); (case l=>k_is); (case c=>k_is); (case k=>k_is)
  have D10:EV.ay (L2.bX KX) mg (Str.ofString "width_of") (My.top 10):=by
   dsimp only [L2.bX]
   refine' EV.aO KX G ?a ?l ?c ?k
   (case a=>k_is); (case l=>k_is); (case c=>k_is); (case k=>k_is)
  have D11:EV.ay (L2.bX KX) mg (Str.ofString "add_part") (My.top 11):=by
   dsimp only [L2.bX]
   refine' EV.aO KX G ?a ?l ?c ?k
   (case a=>k_is); (case l=>k_is); (case c=>k_is); (case k=>k_is)
  have D12:EV.ay (L2.bX KX) mg (Str.ofString "poly_total") (My.top 12):=by
   dsimp only [L2.bX]
   refine' EV.aO KX G ?a ?l ?c ?k
   (case a=>k_is); (case l=>k_is); (case c=>k_is); (case k=>k_is)
  have D13:EV.ay (L2.bX KX) mg (Str.ofString "free_poly") (My.top 13):=by
   dsimp only [L2.bX]
   refine' EV.aO KX G ?a ?l ?c ?k
   (case a=>k_is); (case l=>k_is); (case c=>k_is); (case k=>k_is)
  have D14:EV.ay (L2.bX KX) mg (Str.ofString "told_fraction") (My.top 14):=by
   dsimp only [L2.bX]
   refine' EV.aO KX G ?a ?l ?c ?k
   (case a=>k_is); (case l=>k_is); (case c=>k_is); (case k=>k_is)
  have D16:EV.ay (L2.bX KX) mg (Str.ofString "way_between") (My.top 16):=by
   dsimp only [L2.bX]
   refine' EV.aO KX G ?a ?l ?c ?k
   (case a=>k_is); (case l=>k_is); (case c=>k_is); (case k=>k_is)
  have D18:EV.ay (L2.bX KX) mg (Str.ofString "told_rule") (My.top 18):=by
   dsimp only [L2.bX]
   refine' EV.aO KX G ?a ?l ?c ?k
   (case a=>k_is); (case l=>k_is); (case c=>k_is); (case k=>k_is)
  have D19:EV.ay (L2.bX KX) mg (Str.ofString "part_rule") (My.top 19):=by
   dsimp only [L2.bX]
   refine' EV.aO KX G ?a ?l ?c ?k
   (case a=>k_is); (case l=>k_is); (case c=>k_is); (case k=>k_is)
  have D20:EV.ay (L2.bX KX) mg (Str.ofString "free_point") (My.top 20):=by
   dsimp only [L2.bX]
   refine' EV.aO KX G ?a ?l ?c ?k
   (case a=>k_is); (case l=>k_is); (case c=>k_is); (case k=>k_is)
  have D21:EV.ay (L2.bX KX) mg (Str.ofString "told_point") (My.top 21):=by
   dsimp only [L2.bX]
   refine' EV.aO KX G ?a ?l ?c ?k
   (case a=>k_is); (case l=>k_is); (case c=>k_is); (case k=>k_is)
  have D22:EV.ay (L2.bX KX) mg (Str.ofString "slide_point") (My.top 22):=by
   dsimp only [L2.bX]
   refine' EV.aO KX G ?a ?l ?c ?k
   (case a=>k_is); (case l=>k_is); (case c=>k_is); (case k=>k_is)
  have D23:EV.ay (L2.bX KX) mg (Str.ofString "part_point") (My.top 23):=by
   dsimp only [L2.bX]
   refine' EV.aO KX G ?a ?l ?c ?k
   (case a=>k_is); (case l=>k_is); (case c=>k_is); (case k=>k_is)
  have D25:EV.ay (L2.bX KX) mg (Str.ofString "_law_whole") (My.top 25):=by
   dsimp only [L2.bX]
   refine' EV.aO KX G ?a ?l ?c ?k
   (case a=>k_is); (case l=>k_is); (case c=>k_is); (case k=>k_is)
  have D26:EV.ay (L2.bX KX) mg (Str.ofString "_law_cell") (My.top 26):=by
   dsimp only [L2.bX]
   refine' EV.aO KX G ?a ?l ?c ?k
   (case a=>k_is); (case l=>k_is); (case c=>k_is); (case k=>k_is)
  have D27:EV.ay (L2.bX KX) mg (Str.ofString "_law_thing") (My.top 27):=by
   dsimp only [L2.bX]
   refine' EV.aO KX G ?a ?l ?c ?k
   (case a=>k_is); (case l=>k_is); (case c=>k_is); (case k=>k_is)
  have D28:EV.ay (L2.bX KX) mg (Str.ofString "_law_trimmed") (My.top 28):=by
   dsimp only [L2.bX]
   refine' EV.aO KX G ?a ?l ?c ?k
   (case a=>k_is); (case l=>k_is); (case c=>k_is); (case k=>k_is)
  have D29:EV.ay (L2.bX KX) mg (Str.ofString "_law_sum") (My.top 29):=by
   dsimp only [L2.bX]
   refine' EV.aO KX G ?a ?l ?c ?k
   (case a=>k_is); (case l=>k_is); (case c=>k_is); (case k=>k_is)
  have D30:EV.ay (L2.bX KX) mg (Str.ofString "_law_product") (My.top 30):=by
   dsimp only [L2.bX]
   refine' EV.aO KX G ?a ?l ?c ?k
   (case a=>k_is); (case l=>k_is); (case c=>k_is); (case k=>k_is)
  have D31:EV.ay (L2.bX KX) mg (Str.ofString "_law_same") (My.top 31):=by
   dsimp only [L2.bX]
   refine' EV.aO KX G ?a ?l ?c ?k
   (case a=>k_is); (case l=>k_is); (case c=>k_is); (case k=>k_is)
  have D32:EV.ay (L2.bX KX) mg (Str.ofString "_law_less") (My.top 32):=by
   dsimp only [L2.bX]
   refine' EV.aO KX G ?a ?l ?c ?k
   (case a=>k_is); (case l=>k_is); (case c=>k_is); (case k=>k_is)
  have D33:EV.ay (L2.bX KX) mg (Str.ofString "_law_scaled") (My.top 33):=by
   dsimp only [L2.bX]
   refine' EV.aO KX G ?a ?l ?c ?k
   (case a=>k_is); (case l=>k_is); (case c=>k_is); (case k=>k_is)
  have D34:EV.ay (L2.bX KX) mg (Str.ofString "_law_three") (My.top 34):=by
   dsimp only [L2.bX]
   refine' EV.aO KX G ?a ?l ?c ?k
   (case a=>k_is); (case l=>k_is); (case c=>k_is); (case k=>k_is)
  have D35:EV.ay (L2.bX KX) mg (Str.ofString "_law_small_term") (My.top 35):=by
   dsimp only [L2.bX]
   refine' EV.aO KX G ?a ?l ?c ?k
   (case a=>k_is); (case l=>k_is); (case c=>k_is); (case k=>k_is)
  have D36:EV.ay (L2.bX KX) mg (Str.ofString "_law_same_three") (My.top 36):=by
   dsimp only [L2.bX]
   refine' EV.aO KX G ?a ?l ?c ?k
   (case a=>k_is); (case l=>k_is); (case c=>k_is); (case k=>k_is)
  have D37:EV.ay (L2.bX KX) mg (Str.ofString "_law_copy") (My.top 37):=by
   dsimp only [L2.bX]
   refine' EV.aO KX G ?a ?l ?c ?k
   (case a=>k_is); (case l=>k_is); (case c=>k_is); (case k=>k_is)
  have D38:EV.ay (L2.bX KX) mg (Str.ofString "_law_spoil") (My.top 38):=by
   dsimp only [L2.bX]
   refine' EV.aO KX G ?a ?l ?c ?k
   (case a=>k_is); (case l=>k_is); (case c=>k_is); (case k=>k_is)
  have D39:EV.ay (L2.bX KX) mg (Str.ofString "_law_fraction") (My.top 39):=by
   dsimp only [L2.bX]
   refine' EV.aO KX G ?a ?l ?c ?k
   (case a=>k_is); (case l=>k_is); (case c=>k_is); (case k=>k_is)
  have D40:EV.ay (L2.bX KX) mg (Str.ofString "_law_way") (My.top 40):=by
   dsimp only [L2.bX]
   refine' EV.aO KX G ?a ?l ?c ?k
   (case a=>k_is); (case l=>k_is); (case c=>k_is); (case k=>k_is)
  have D41:EV.ay (L2.bX KX) mg (Str.ofString "_law_slide") (My.top 41):=by
   dsimp only [L2.bX]
   refine' EV.aO KX G ?a ?l ?c ?k
   (case a=>k_is); (case l=>k_is); (case c=>k_is); (case k=>k_is)
  have D42:EV.ay (L2.bX KX) mg (Str.ofString "_law_part") (My.top 42):=by
   dsimp only [L2.bX]
   refine' EV.aO KX G ?a ?l ?c ?k
   (case a=>k_is); (case l=>k_is); (case c=>k_is); (case k=>k_is)
  have D43:EV.ay (L2.bX KX) mg (Str.ofString "_law_pair_good") (My.top 43):=by
   dsimp only [L2.bX]
   refine' EV.aO KX G ?a ?l ?c ?k
   (case a=>k_is); (case l=>k_is); (case c=>k_is); (case k=>k_is)
  have D44:EV.ay (L2.bX KX) mg (Str.ofString "_law_told_good") (My.top 44):=by
   dsimp only [L2.bX]
   refine' EV.aO KX G ?a ?l ?c ?k
   (case a=>k_is); (case l=>k_is); (case c=>k_is); (case k=>k_is)
  have D45:EV.ay (L2.bX KX) mg (Str.ofString "law") (My.top 45):=by
   dsimp only [L2.bX]
   refine' EV.aO KX G ?a ?l ?c ?k
   (case a=>k_is); (case l=>k_is); (case c=>k_is); (case k=>k_is)
  have T:EV.Txt (L2.bX KX) mg:=by
   dsimp only [L2.bX]
   refine' EV.Kc KX G ?z1 ?z2 ?z3 ?z4 ?z5 ?z6 ?z7 ?z8 ?z9 ?z10 ?z11 ?z12 ?z13 ?z14 ?z15 ?z16 ?z17 ?sib
   (case z1=>k_is)
   (case z2=>k_is)
   (case z3=>k_is)
   (case z4=>k_is)
   (case z5=>k_is)
   (case z6=>k_is)
   (case z7=>k_is)
   (case z8=>k_is)
   (case z9=>k_is)
   (case z10=>k_is)
   (case z11=>k_is)
   (case z12=>k_is)
   (case z13=>k_is)
   (case z14=>k_is)
   (case z15=>k_is)
   (case z16=>k_is)
   (case z17=>k_is)
   (case sib=>k_is)
  have xPLACES:∃ tk:Tok,mg (Str.ofString "PLACES")=some (.int 6 tk):=by
   refine' EV.int_mk KX G ?a
   (case a=>k_is)
  exact My.Ht hmg T xPLACES D2 D3 D4 D5 D6 D7 D8 D10 D11 D12 D13 D14 D16 D18 D19 D20 D21 D22 D23 D25 D26 D27 D28 D29 D30 D31 D32 D33 D34 D35 D36 D37 D38 D39 D40 D41 D42 D43 D44 D45
#print axioms PySem.Challenge.cw_everydraw_k12_raw_rules_of_points_holds
