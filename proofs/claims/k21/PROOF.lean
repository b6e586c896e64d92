import PyProof.Rows.All
import Wide.All
import OpenK.AllK
import Wide.FinOn
import Lean
import PyProof.EqAt
import PyProof.EqKinds
import PyProof.TupleCall
import KE.KTryMore
import PyProof.NeKinds
import PyProof.DictItemsLoops
import PyProof.Rows.SortRunsK
import PyProof.Rows.SortRev
import PyProof.Tail
import PyProof.CollectIter
import PyProof.WalkInts
import PyProof.SumWalkG
import PyProof.SeqI3
import PyProof.EnumFor
import PyProof.EnumMake
import PyProof.Draws
import PyProof.Rows.Range3
import PyProof.EnumIter
import PySem.Challenge.RW_everydraw_k21_circles_mirrored
namespace EV
theorem z2 {α β} {P:α→β→Prop} {G:Prop} (h:∃ a b,P a b) (k:∀ a b,P a b→G):G:=h.elim fun a h=>h.elim (k a)
theorem z3 {α β γ} {P:α→β→ γ →Prop} {G:Prop} (h:∃ a b c,P a b c) (k:∀ a b c,P a b c→G):G:=h.elim fun a h=>z2 h (k a)
theorem z4 {α β γ δ} {P:α→β→ γ → δ →Prop} {G:Prop} (h:∃ a b c d,P a b c d) (k:∀ a b c d,P a b c d→G):G:=h.elim fun a h=>z3 h (k a)
theorem z5 {α β γ δ ε} {P:α→β→ γ → δ → ε →Prop} {G:Prop} (h:∃ a b c d e,P a b c d e) (k:∀ a b c d e,P a b c d e→G):G:=h.elim fun a h=>z4 h (k a)
theorem w2 {a b G:Prop} (h:a∧b) (k:a→b→G):G:=k h.1 h.2
theorem w3 {a b c G:Prop} (h:a∧b∧c) (k:a→b→c→G):G:=w2 h.2 (k h.1)
theorem w4 {a b c d G:Prop} (h:a∧b∧c∧d) (k:a→b→c→d→G):G:=w3 h.2 (k h.1)
theorem w5 {a b c d e G:Prop} (h:a∧b∧c∧d∧e) (k:a→b→c→d→e→G):G:=w4 h.2 (k h.1)
theorem w6 {a b c d e f G:Prop} (h:a∧b∧c∧d∧e∧f) (k:a→b→c→d→e→f→G):G:=w5 h.2 (k h.1)
theorem w7 {a b c d e f g G:Prop} (h:a∧b∧c∧d∧e∧f∧g) (k:a→b→c→d→e→f→g→G):G:=w6 h.2 (k h.1)
theorem w8 {a b c d e f g i G:Prop} (h:a∧b∧c∧d∧e∧f∧g∧i) (k:a→b→c→d→e→f→g→i→G):G:=w7 h.2 (k h.1)
end EV
set_option Elab.async false
set_option linter.all false
set_option maxRecDepth 100000
open PySem renaming wpAny_bind→NX,wpAny_pure→N1,Spec→OC,wpAny_mono→OO,wpAny_newObj_type→O4,wpAny_holding→Pc,wpAny_rule→Pk,wpAny_call_entry→Px,wpAny_Call_Name_kw→PJ,wpAny_field→PZ,Builtin→P7,wpAny_callSpecial?_slot→Qd,wpAny_attempt→Qk,wpAny_typeOf→Ql,wpAny_setField_rec→Qz,wpAny_passesOwn→QD,wpAny_dictEntries→Q4,wpAny_dictEpoch→Q6,codeAny_mono→Q7,wpAny_call→Ra,typeIs_int→Rb,call_meets→Rc,mem_of_lookup→Rn,wpAny_truthy_bool→Rp,codeAny_builtin→Ru,wpAny_setField→Rz,wpAny_newList→RA,wpAny_typeNameOfWhole_itemiter→RT,wpAny_typeNameOfWhole_keyiter→RU,wpAny_typeNameOf_itemiter→RW,wpAny_typeNameOf_keyiter→R0,tupleKind_room_in1→Si,wpAny_isInstance→Sw,wpAny_fieldsOf→SH,concat_meets→SQ,wpAny_letGo→S0,wpAny_isOneOf_itemiter→Tu,wpAny_pyIter_tuple→TR,wpAny_sequenceKey→TY,wpAny_pyIter_slot→TZ,wpAny_pyIter_list→T3,slot_list_getitem→T4,noFill_tuple_add→Ub
open PySem.Str renaming ofString→NY
open PySem.W renaming Frag→NZ,nsIn→OY,mg_none_of→O3,kitOne→Pq,keepIn→PN,fnOf→PY,findIn→Qh,kia_one→QE,clsIn→RB,callWith_K→Sj,codeIn→SK,mroIn→SN,specialIn→T5,methodObj→T6
open Nat renaming le_refl→N2,le_trans→N8,ne_of_lt→OB,zero_le→OH,lt_of_lt_of_le→OU,lt_irrefl→PB,lt_of_le_of_lt→P4,mul_le_mul→Qi,zero_add→Qm,le_of_lt→Qn,lt_succ_self→QC,le_add_right→Q5,ne_of_gt→Q8,pow_le_pow_right→Rl,min_eq_left→Rv,succ_mul→RG,mul_comm→RH,le_of_ble_eq_true→R9,le_sub_one_of_lt→Se,lt_succ_of_lt→So,succ_le_succ→Sx,one_le_iff_ne_zero→Tw,add_sub_cancel'→TM
open PyProof.Rows renaming wpS_bind→N3,wpS_pure→N4,wpS_mono→OJ,wpS_forRange→O6,listUpdate_at→Pu,wpS_get→Pw,wpS_modify→PR,wpS_lift→Qt,slot_tuple_getitem→QM,seqEpoch_at→Q9,callWith_type1→Rh,listItems_at→RE,mirror_perm→RJ,get?_update_seq→SA,callWith_builtin1→Tf,wpAny_call_entry_kw→TL
open List renaming map_cons→N5,length_map→N6,getElem?_map→Oa,getElem?_eq_some_iff→Ob,mem_cons_self→Od,mem_cons_of_mem→Oe,replicate→Of,mem_cons→Oh,mem_singleton→Oi,size_toArray→Oo,getElem?_eq_getElem→Ot,map_map→Ou,append_assoc→Ov,mem_append→Oz,getElem_mem→OD,length_cons→OE,mem_map→OF,length_append→OL,map_append→ON,range→OP,take_length→OW,take_succ_eq_append_getElem→O0,append_nil→O5,getD_eq_getElem?_getD→O7,getElem?_set_self→O8,mem_of_getElem?→O9,getElem?_set_ne→Pa,length_take→Pb,mem_append_right→Pf,filterMap_cons→Pn,nodup_cons→Po,foldl_cons→Pp,find?_cons→Pz,take_append_drop→PD,getElem?_eq_none→PF,cons_append→PK,length_nil→PM,replicate_succ→PU,not_mem_nil→PX,map_congr_left→P1,pairwise_map→P5,sum_cons→P9,getElem?_append_left→Qc,nil_append→Qg,map_nil→Qo,filter_cons_of_pos→Qv,perm_append_comm→Qx,mem_append_left→Qy,flatten_cons→QB,sum_append→QF,length→QI,getElem?_append_right→QS,pairwise_singleton→QW,getElem?_of_mem→QY,getElem?_range→Q0,pairwise_cons→Q2,getElem?_drop→Q3,foldl→Rf,filter_cons_of_neg→Ri,take_of_length_le→Rj,getElem?_append→Rm,flatMap_cons→Rq,mem_filter→Rw,foldr_cons→Rx,Nodup→RL,getElem?_take_of_lt→R1,eq_of_mem_replicate→R3,length_singleton→Sa,mem_of_mem_take→Sf,zip_cons_cons→Sm,take_sublist→Sq,reverse_perm→Ss,nodup_append→Su,ext_getElem?→Sv,mem_flatMap→Sy,ext_getElem→Sz,of_mem_zip→SD,forIn_cons→SE,mem_range→SM,zipWith→SW,Pairwise→Te,pairwise_iff_getElem→Th,drop_eq_getElem_cons→Ti,getElem?_replicate→Tt,reverse_append→TN,length_reverse→TQ,getElem_range→TU,filterMap_map→TV,take_add_one→T7,foldl_append→T8,drop_sublist→T9,lookup_cons→Uc,getElem_map→Ud,flatMap_nil→Ue,drop_append_of_le_length→Ut
open PySem.Heap renaming get?_push_of_some→N7,lt_size→N9,get?_push_size→Oj,SameBut→PV,get?_update_ne→Qf,size_push→Qj,ExtBut→Qp,get?_update_other→R7,size_update→Ug
open Bool renaming false_ne_true→Oc,false_eq_true→OV,and_eq_true→Rt,eq_iff_iff→Ry,not_true→RD
open Option renaming map_eq_some_iff→Og,isSome_map→QA,bind_eq_some_iff→Tr
open PySem.Expr renaming Name→Ol,Call→OR,Subscript→P6,Tuple→RN,BinOp→RO
open Sum renaming inl→Om,inr→Qu
open Ne renaming symm→Oq
open PySem.Value renaming ref→Ow,none→O2,type→Pe,str→RP,int→RQ
open PySem.SeqAt renaming EqAt→Ox,RcAt→QL,RcNeAt→SS
open Array renaming getElem?_eq_getElem→OA,toList_push→OM,getElem?_toList→OS,length_toList→OT,toList_append→Pd,ext'→Qs,perm_iff_toList_perm→QT,getElem?_eq_some_iff→QU,toList_reverse→QZ,getElem?_extract→R8,mem_toList_iff→TJ,getElem_mem→Ua,toList_map→Ui,toList_eraseIdxIfInBounds→Uo
open Int renaming le_trans→OG,toNat_natCast→O1,le_refl→Pj,le_of_lt→Qa,zero_mul→QH,pow_pos→QJ,add_mul→QK,mul_assoc→RC,zero_add→RI,toNat→RS,lt_of_le_of_lt→Sn,add_zero→SX,add_comm→SY,one_mul→S9,mul_le_mul_of_nonneg_right→Uq
open PySem.Obj renaming mapSeq→OI,data_mapFields→Sk
open PySem.Env renaming kindOf→OQ
open ForInStep renaming yield→OX,done→Pr
open False renaming elim→OZ
open PySem.Builtin.Int renaming intBits→Pg
open PySem.Paired renaming length→Ph,snoc→S6
open Option.some renaming inj→Py
open True renaming intro→P0
open PySem.NameKind renaming free→P8
open PySem.Builtin.List renaming listUpdate→Qe,listLengthHint→QO,listItems→Rk,listExtendWith→RV,listTooLong→Tp
open PyProof.Rows.SortSt renaming mk'→Qq
open Lean renaming mkPrivateNameCore→Qw,mkIdent→QG
open PySem.F renaming slot_dict_itemiterator_next→QN,slot_dict_keyiterator_next→Rg,plain_extend_loop→RY,slot_int_rmul→SG,args_tuple_add_2→To,entry_tuple_add→Tq,slot_tuple_add→Tv,slot_tuple_lt→TF,slot_dict_get→TH,slot_tuple_mul→Uh,args_dict_itemiterator_next_1→Um,entry_dict_itemiterator_next→Ur,args_dict_keyiterator_next_1→Us,slot_dict_itemiterator_iter→Uu,entry_dict_keyiterator_next→Uv
open PySem.Builtin.SmallTypes renaming nextOf→QV
open List.Perm renaming append_left→QX
open PySem.Heap.SameBut renaming update→Ro
open List.Pairwise renaming nil→Rr
open PySem.Stmt renaming Return→RK,AugAssign→SI,Assign→S3
open PySem.Builtin.Slice renaming slicePlaces→RZ,sliceAdjust→Tj
open PySem.Builtin.Tuple renaming tupleExact→R4
open PySem.AutoSeq1 renaming wpAny_loadPart'→R5
open PySem.Builtin.Range renaming rangeSize→R6
open PySem.Builtin.Dict renaming showsAll→Sb
open PySem.Around renaming under_plainId→Sg
open Quotient renaming sound→SJ
open Function renaming comp→SO
open PySem.Operator renaming Add→SV
open PySem.Data renaming fields→Tc
open PySem.Builtin.Dict_items renaming pairFromOwner→Td,ownsTuple→Tg,ownedTupleIsFree→Uk,ownedTupleFields→Ul
open PySem.Calls renaming callWith_builtin→Tz,spliced_cons→TX
open PySem.Challenge renaming rw_everydraw_k21_circles_mirrored→Uj
namespace PySem.W.Fast
theorem tw6277983524695268171:True:=⟨⟩
theorem tw6486901829235076000:True:=⟨⟩
theorem tw3539402081082070022:True:=⟨⟩
theorem tw15205987558679013212:True:=⟨⟩
theorem tw16900217780227131321:True:=⟨⟩
theorem tw5060251146747636949:True:=⟨⟩
theorem tw15043560054550706827:True:=⟨⟩
theorem tw6038746121202639458:True:=⟨⟩
theorem tw4720354140106063628:True:=⟨⟩
theorem tw8669339567774718901:True:=⟨⟩
theorem tw17216253969099593840:True:=⟨⟩
theorem tw13046749444662779251:True:=⟨⟩
theorem tw18308113333314263546:True:=⟨⟩
theorem tw9193849911039749080:True:=⟨⟩
theorem tw9345234696431149652:True:=⟨⟩
theorem tw9583302671236663074:True:=⟨⟩
theorem tw5985683123145157696:True:=⟨⟩
theorem tw1851760841115173729:True:=⟨⟩
theorem tw2792325317762009573:True:=⟨⟩
theorem tw10070397035969409944:True:=⟨⟩
theorem tw7850520169089661982:True:=⟨⟩
theorem tw1777697257372652839:True:=⟨⟩
theorem tw11262256556406578000:True:=⟨⟩
theorem tw15307991197838189648:True:=⟨⟩
theorem tw8942525597564668574:True:=⟨⟩
theorem tw14986372134747745042:True:=⟨⟩
theorem tw14949903151110735397:True:=⟨⟩
theorem tw163834781505240273:True:=⟨⟩
theorem tw7703358614203735108:True:=⟨⟩
theorem tw13260963092872737210:True:=⟨⟩
theorem tw2183722458796335845:True:=⟨⟩
theorem tw7001047856544686356:True:=⟨⟩
theorem tw12388570929416690519:True:=⟨⟩
theorem tw13804661427322184589:True:=⟨⟩
theorem tw18167246346116913618:True:=⟨⟩
theorem tw17444595440585200881:True:=⟨⟩
theorem tw18064026256401720578:True:=⟨⟩
theorem tw1553408735970563386:True:=⟨⟩
theorem tw16760410198162407804:True:=⟨⟩
theorem tw2957539479515379266:True:=⟨⟩
theorem tw15869179426056750167:True:=⟨⟩
theorem tw10172524163009564224:True:=⟨⟩
theorem tw5536880194973454223:True:=⟨⟩
theorem tw261155223987910440:True:=⟨⟩
theorem tw547160514401775671:True:=⟨⟩
theorem tw14945871331324184793:True:=⟨⟩
theorem tw17987575716718597859:True:=⟨⟩
theorem tw94402339133366975:True:=⟨⟩
theorem tw17122450908716455210:True:=⟨⟩
theorem tw14243623042455615702:True:=⟨⟩
theorem tw2783957782527556520:True:=⟨⟩
theorem tw14833450943775797430:True:=⟨⟩
theorem tw3365498679428015509:True:=⟨⟩
theorem tw2992826431818731321:True:=⟨⟩
theorem tw3775247307488344161:True:=⟨⟩
theorem tw4160411011899120618:True:=⟨⟩
theorem tw3230296244871693203:True:=⟨⟩
theorem tw11952950278400280546:True:=⟨⟩
theorem tw17439665323598642366:True:=⟨⟩
theorem tw10757439430653198062:True:=⟨⟩
theorem tw12461869887492110590:True:=⟨⟩
theorem tw18307996802712865261:True:=⟨⟩
theorem tw17659516629678082718:True:=⟨⟩
theorem tw15768061254058777673:True:=⟨⟩
theorem tw15527428035147016237:True:=⟨⟩
theorem tw9451805678775102579:True:=⟨⟩
theorem tw2049261903355497571:True:=⟨⟩
theorem tw3570609786173776667:True:=⟨⟩
theorem tw6412513021888933224:True:=⟨⟩
theorem tw14634103607135383557:True:=⟨⟩
theorem tw9406999669813683731:True:=⟨⟩
theorem tw7060785140232368923:True:=⟨⟩
theorem tw4482104064462552056:True:=⟨⟩
theorem tw18216226580578240471:True:=⟨⟩
theorem tw6243821736669987220:True:=⟨⟩
theorem tw7047569747342183461:True:=⟨⟩
theorem tw261095225110777784:True:=⟨⟩
theorem tw673392799702421261:True:=⟨⟩
theorem tw4735058688701047220:True:=⟨⟩
theorem tw4053909512405503254:True:=⟨⟩
theorem tw10729418841999350461:True:=⟨⟩
theorem tw8533884220965006203:True:=⟨⟩
theorem tw14949922201365667579:True:=⟨⟩
theorem tw8258339642360922511:True:=⟨⟩
theorem tw17692869424334033390:True:=⟨⟩
theorem tw14055077599108796747:True:=⟨⟩
theorem tw5978976339267842392:True:=⟨⟩
theorem tw16687315518239973502:True:=⟨⟩
theorem tw332039356389675224:True:=⟨⟩
theorem tw15512300083494848530:True:=⟨⟩
theorem tw12996852046554670972:True:=⟨⟩
theorem tw13169108975915919528:True:=⟨⟩
theorem tw2906344966774004137:True:=⟨⟩
theorem tw2677726874969901273:True:=⟨⟩
theorem tw2983288117733179921:True:=⟨⟩
theorem tw10026232711938876783:True:=⟨⟩
theorem tw261725117252412543:True:=⟨⟩
theorem tw18063288374096916852:True:=⟨⟩
theorem tw7176813123254145167:True:=⟨⟩
theorem tw4384057360933358861:True:=⟨⟩
end PySem.W.Fast
local macro_rules | `(tactic| walk_at "u") => `(tactic| with_unfolding_all rfl)
namespace L2
open PySem PySem.Spec PyProof.Rows
noncomputable abbrev Key:=Sum Int Str
noncomputable def kP:Key→Value→Bool
 | .inl k,v=>Value.isInt k v
 | .inr x,v=>Value.isStrOf x v
noncomputable def Mu (w:World):Key→Int
 | .inl k=>hashInt k
 | .inr x=>hashStr w x
theorem bF:∀ {k:Key} {v:Value},kP k v=true→(∃ i t,k=Om i∧v=RQ i t)∨(∃ x t,k=Qu x∧v=RP x t)
 | .inl i,v,h=>by
  obtain ⟨t,e⟩:=Value.isInt_shape (k:=i) (v:=v) h
  exact .inl ⟨i,t,rfl,e⟩
 | .inr x,v,h=>by
  obtain ⟨t,e⟩:=Value.isStrOf_shape (x:=x) (v:=v) h
  exact .inr ⟨x,t,rfl,e⟩
theorem xq (i) (t:Tok):kP (.inl i) (.int i t)=true:=by simp [kP,Value.isInt]
theorem xr (x) (t:Tok):kP (.inr x) (.str x t)=true:=by simp [kP,Value.isStrOf]
theorem GI (a b):decide ((Om a:Key)=Om b)=(a == b):=by
 by_cases e:a=b
 ·subst e; simp
 ·have h:¬ (Om a:Key)=Om b:=fun q=>e (Om.inj q)
  rw [decide_eq_false h]
  exact (beq_eq_false_iff_ne.mpr e).symm
theorem GJ (a b):decide ((Qu a:Key)=Qu b)=decide (a=b):=by
 by_cases e:a=b
 ·subst e; simp
 ·have h:¬ (Qu a:Key)=Qu b:=fun q=>e (Qu.inj q)
  rw [decide_eq_false h,decide_eq_false e]
theorem GK (a) (b):decide ((Om a:Key)=Qu b)=false:=decide_eq_false (fun q=>nomatch q)
theorem GL (a) (b):decide ((Qu a:Key)=Om b)=false:=decide_eq_false (fun q=>nomatch q)
noncomputable def bU (prog:Program) (w:World):PySem.KeyKind prog w Key where
 is:=kP
 hash:=Mu w
 inj:=fun v a b ha hb=>by
  rcases bF ha with ⟨i,t,rfl,rfl⟩ | ⟨x,t,rfl,rfl⟩
  ·rcases bF hb with ⟨j,u,rfl,e⟩ | ⟨y,u,rfl,e⟩
   ·injection e with e1 _; rw [e1]
   ·exact nomatch e
  ·rcases bF hb with ⟨j,u,rfl,e⟩ | ⟨y,u,rfl,e⟩
   ·exact nomatch e
   ·injection e with e1 _; rw [e1]
 byValue:=fun k v h=>by
  rcases bF h with ⟨i,t,rfl,rfl⟩ | ⟨x,t,rfl,rfl⟩ <;> rfl
 pyHash:=fun hv h=>by
  rcases bF hv with ⟨i,t,rfl,rfl⟩ | ⟨x,t,rfl,rfl⟩
  ·exact wpAny_pyHash_int h
  ·exact wpAny_pyHash_str h
 eqBool:=fun hu hv h=>by
  rcases bF hu with ⟨i,t,rfl,rfl⟩ | ⟨x,t,rfl,rfl⟩
  ·rcases bF hv with ⟨j,u,rfl,rfl⟩ | ⟨y,u,rfl,rfl⟩
   ·rw [GI] at h; exact wpAny_eqBool_int h
   ·rw [GK] at h; exact Ox.int_str i t y u _ _ _ _ h
  ·rcases bF hv with ⟨j,u,rfl,rfl⟩ | ⟨y,u,rfl,rfl⟩
   ·rw [GL] at h; exact Ox.str_int x t j u _ _ _ _ h
   ·rw [GJ] at h; exact wpAny_eqBool_str h
 «strs» :=fun k x t v h=>by
  rcases bF h with ⟨i,u,rfl,e⟩ | ⟨y,u,rfl,e⟩
  ·exact nomatch e
  ·injection e with e1 _
   subst e1
   cases v <;> rfl
theorem qb (prog) (w) (i) (t:Tok):(bU prog w).is (.inl i) (.int i t)=true:=xq i t
theorem qe (prog) (w) (x) (t:Tok):(bU prog w).is (.inr x) (.str x t)=true:=xr x t
inductive V where
 | non | bl (b:Bool) | int (i:Int) | str (x:Str) | byt (b:Array UInt8) | flt (b:UInt64) | ref (a:Addr) | ty (n:String)
 deriving DecidableEq
noncomputable def RelV:V→Value→Prop
 | .non,u=>u=O2
 | .bl b,u=>u=Value.bool b
 | .int i,u=>∃ t,u=RQ i t
 | .str x,u=>∃ t,u=RP x t
 | .byt b,u=>∃ t,u=Value.bytes b t
 | .flt b,u=>∃ t,u=Value.float b t
 | .ref a,u=>u=Ow a
 | .ty n,u=>u=Pe n
noncomputable abbrev Vals:List V→List Value→Prop:=Paired RelV
theorem Vals.length (r:Vals xs us):xs.length=us.length:=Ph r
theorem Vals.get:∀ {xs:List V} {us:List Value} {i:Nat} {x:V},Vals xs us→xs[i]?=some x→∃ u,us[i]?=some u∧RelV x u
 | _,_,_,_,.nil,e=>by simp at e
 | _,_,0,_,.cons r _,e=>by simp at e; subst e; exact ⟨_,rfl,r⟩
 | _,_,i+1,x,.cons _ t,e=>by
  obtain ⟨u,h1,h2⟩:=Vals.get (i:=i) (x:=x) t (by simpa using e)
  exact ⟨u,by simpa using h1,h2⟩
theorem Vals.set (r:RelV x u):∀ {xs:List V} {us:List Value} (i:Nat),Vals xs us→Vals (xs.set i x) (us.set i u)
 | _,_,_,.nil=>.nil
 | _,_,0,.cons _ t=>.cons r t
 | _,_,i+1,.cons q t=>.cons q (Vals.set r i t)
theorem Vals.append:∀ {xs ys:List V} {us ws:List Value},Vals xs us→Vals ys ws→Vals (xs++ys) (us++ws)
 | _,_,_,_,.nil,s=>s
 | _,_,_,_,.cons r t,s=>.cons r (Vals.append t s)
theorem Vals.take:∀ {xs:List V} {us:List Value} (n:Nat),Vals xs us→Vals (xs.take n) (us.take n)
 | _,_,0,_=>.nil
 | _,_,_+1,.nil=>.nil
 | _,_,n+1,.cons r t=>.cons r (Vals.take n t)
theorem Vals.drop:∀ {xs:List V} {us:List Value} (n:Nat),Vals xs us→Vals (xs.drop n) (us.drop n)
 | _,_,0,r=>r
 | _,_,_+1,.nil=>.nil
 | _,_,n+1,.cons _ t=>Vals.drop n t
noncomputable def j5:Option V→Option Value→Prop
 | some v,some u=>RelV v u
 | none,none=>True
 | _,_=>False
noncomputable def KV {κ:Type}:List (κ×V)→List (κ×Value)→Prop:=Paired fun (p:κ×V) (q:κ×Value)=>p.1=q.1∧RelV p.2 q.2
noncomputable def kV:Key→V
 | .inl i=>.int i
 | .inr x=>.str x
inductive HO where
 | lst (xs:List V)
 | tup (xs:List V)
 | dK (kvs:List (Key×V)) | dT (kvs:List (List Key×Addr×V))
 | set (S:Int→Bool) (n:Nat)
 | ins (C dx:Addr) (fs:List (Str×V))
 | own (x:Addr)
 | xd (fs:List (Str×V))
 | met (f x:Addr)
 | rng (lo hi:Int)
 | frz (o:Obj) (u:HO)
 | tbl (ps:Array Value)
 | ext (φ :Heap→Prop)
noncomputable abbrev Hp:=Addr→Option HO
noncomputable def upd (H:Hp) (a:Addr) (o:HO):Hp:=fun b=>if b=a then some o else H b
theorem ai:upd H a o a=some o:=by unfold upd; rw [if_pos rfl]
theorem ak (h:b≠a):upd H a o b=H b:=by unfold upd; rw [if_neg h]
theorem oq:upd (upd H a o) a u=upd H a u:=by
 funext b; unfold upd; split <;> rfl
theorem az {H:Hp} (h:H a=some o) (h':H b=none):a≠b:=by
 intro e; subst e; rw [h] at h'; cases h'
section
variable (P:Program) (w:World)
noncomputable def bg (H:Hp) (h:Heap) (a:Addr):HO→Prop
 | .lst xs=>xs.length≤sizeLine∧∃ (its:List Value) (n:Nat),Vals xs its∧h.get? a=some { cls:=.type "list",data:=.seq its.toArray n }
 | .tup xs=>xs.length≤sizeLine∧∃ its:List Value,Vals xs its∧IsTup h a its.toArray
 | .dK kvs=>kvs.length≤sizeLine∧(a == sysModules)=false∧∃ vs,KV kvs vs∧h.DictOf (bU P w) a vs
 | .dT kvs=>kvs.length≤sizeLine∧(a == sysModules)=false∧∃ xs:List (List Key×Addr×Value),
  Paired (fun (p:List Key×Addr×V) (q:List Key×Addr×Value)=>p.1=q.1∧p.2.1=q.2.1∧RelV p.2.2 q.2.2) kvs xs ∧
  ∃ o es ep,h.get? a=some o∧o.ExactDict∧o.data=.dict es ep∧es.toList=xs.map (entryOfKey (tupleKind (bU P w)))∧(xs.map (·.1)).Nodup
 | .set S n=>h.SetOf (intKind P w) a S n
 | .ins C dx fs=>H dx=some (.own a)∧fs.length≤1000∧dx≠a∧h.get? a=some (PySem.W.instObj C dx) ∧
  ∃ mA,h.Ns1 dx mA∧(∀ f,j5 (fs.lookup f) (mA f))∧PySem.Within mA (fs.map (·.1))
 | .own _=>∃ o,h.get? a=some o
 | .xd fs=>∃ mA,h.Ns1 a mA∧∀ f,j5 (fs.lookup f) (mA f)
 | .rng lo hi=>∃ t u v,h.get? a=some { cls:=.type "range",data:=.fields #[.int lo t,.int hi u,.int 1 v] }
 | .frz o u=>h.get? a=some o∧bg H h a u
 | .tbl ps=>h.get? a=some { cls:=.none,data:=.fields ps }
 | .met f x=>h.get? a=some (T6 (.ref f) (.ref x))
 | .ext φ => φ h∧(∃ o,h.get? a=some o)∧∀ h1 h2:Heap,φ h1→(∀ o,h1.get? a=some o→h2.get? a=some o)→ φ h2
noncomputable def jq (H:Hp) (h:Heap):Prop:=∀ a o,H a=some o→bg P w H h a o
end
section
theorem bg.lt (x:bg P w H h a o):a<h.objs.size:=by
 cases o with
 | lst xs=>obtain ⟨_,_,_,_,e⟩:=x; exact N9 e
 | tup xs=>obtain ⟨_,_,_,p⟩:=x; exact p.lt
 | dK kvs=>obtain ⟨_,_,_,_,o,_,_,e,_⟩:=x; exact N9 e
 | dT kvs=>obtain ⟨_,_,_,_,o,_,_,e,_⟩:=x; exact N9 e
 | set S n=>obtain ⟨o,_,_,_,e,_⟩:=x; exact N9 e
 | ins C dx fs=>obtain ⟨_,_,_,e,_⟩:=x; exact N9 e
 | own y=>obtain ⟨_,e⟩:=x; exact N9 e
 | xd fs=>obtain ⟨_,⟨_,_,_,e,_⟩,_⟩:=x; exact N9 e
 | rng lo hi=>obtain ⟨_,_,_,e⟩:=x; exact N9 e
 | frz ob u=>obtain ⟨e,_⟩:=x; exact N9 e
 | tbl ps=>exact N9 (show h.get? a=some _ from x)
 | met f y=>exact N9 (show h.get? a=some _ from x)
 | ext φ =>obtain ⟨_,⟨_,e⟩,_⟩:=x; exact N9 e
theorem Paired.GN:∀ {l₁:List α} {l₂:List β},Paired F l₁ l₂→(∀ a b,F a b→G a b)→Paired G l₁ l₂
 | _,_,.nil,_=>.nil
 | _,_,.cons r t,f=>.cons (f _ _ r) (Paired.GN t f)
theorem bg.stay (x:bg P w H h a o) (k:∀ b u,(b=a∨H b=some (.own a))→h.get? b=some u→h'.get? b=some u)
 (ho:∀ b,H b=some (.own a)→H' b=some (.own a)) (ht:∀ b xs,H b=some (.tup xs)→H' b=some (.tup xs)):bg P w H' h' a o:=by
 induction o with
 | lst xs=>obtain ⟨z,its,n,r,e⟩:=x; exact ⟨z,its,n,r,k _ _ (.inl rfl) e⟩
 | tup xs=>obtain ⟨z,its,r,ob,e,c⟩:=x; exact ⟨z,its,r,ob,k _ _ (.inl rfl) e,c⟩
 | dK kvs=>obtain ⟨z,y,vs,r,ob,es,ep,e,c⟩:=x; exact ⟨z,y,vs,r,ob,es,ep,k _ _ (.inl rfl) e,c⟩
 | dT kvs =>
  obtain ⟨z,y,xs,r,ob,es,ep,e,c⟩:=x
  exact ⟨z,y,xs,r,ob,es,ep,k _ _ (.inl rfl) e,c⟩
 | set S n=>obtain ⟨ob,es,ep,t,e,c⟩:=x; exact ⟨ob,es,ep,t,k _ _ (.inl rfl) e,c⟩
 | ins C dx fs =>
  obtain ⟨d,z,ne,e,mA,⟨od,es,ep,e2,c⟩,r⟩:=x
  exact ⟨ho _ d,z,ne,k _ _ (.inl rfl) e,mA,⟨od,es,ep,k _ _ (.inr d) e2,c⟩,r⟩
 | own y=>obtain ⟨ob,e⟩:=x; exact ⟨ob,k _ _ (.inl rfl) e⟩
 | xd fs=>obtain ⟨mA,⟨od,es,ep,e,c⟩,r⟩:=x; exact ⟨mA,⟨od,es,ep,k _ _ (.inl rfl) e,c⟩,r⟩
 | rng lo hi=>obtain ⟨t,u,v,e⟩:=x; exact ⟨t,u,v,k _ _ (.inl rfl) e⟩
 | frz ob u ih=>obtain ⟨e,q⟩:=x; exact ⟨k _ _ (.inl rfl) e,ih q⟩
 | tbl ps =>
  have e:h.get? a=some { cls:=.none,data:=.fields ps }:=x
  show h'.get? a=some { cls:=.none,data:=.fields ps }
  exact k a _ (.inl rfl) e
 | met f y =>
  have e:h.get? a=some (T6 (.ref f) (.ref y)):=x
  show h'.get? a=some (T6 (.ref f) (.ref y))
  exact k a _ (.inl rfl) e
 | ext φ =>obtain ⟨p,⟨o,e⟩,st⟩:=x; exact ⟨st _ _ p fun o q=>k _ _ (.inl rfl) q,⟨o,k _ _ (.inl rfl) e⟩,st⟩
theorem jq.lt (x:jq P w H h) (e:H a=some o):a<h.objs.size:=(x a o e).lt
theorem jq.fresh (x:jq P w H h) (e:h.objs.size≤a):H a=none:=by
 cases q:H a with
 | none=>rfl
 | some u=>exact absurd (OU (x.lt q) e) (PB _)
theorem jq.kept (x:jq P w H h) (k:∀ b u,h.get? b=some u→h'.get? b=some u):jq P w H h':=fun a o e =>
 (x a o e).stay (fun b u _ q=>k b u q) (fun _ q=>q) fun _ _ q=>q
theorem jq.laid (x:jq P w H h) (k:∀ b u,h.get? b=some u→h'.get? b=some u) (hp:h.objs.size≤a) (new:bg P w (upd H a o) h' a o):jq P w (upd H a o) h':=fun b u e=>by
 have hn:=x.fresh hp
 by_cases hb:b=a
 ·subst hb; rw [ai] at e; cases e; exact new
 ·rw [ak hb] at e
  exact (x b u e).stay (fun c v _ q=>k c v q) (fun c q=>by rw [ak (az q hn)]; exact q) fun c xs q=>by rw [ak (az q hn)]; exact q
end
noncomputable def Rd (H:Hp) (a:Addr) (u:HO):Prop:=H a=some u∨∃ o,H a=some (.frz o u)
theorem Rd.ok (r:Rd H a u) (x:jq P w H h):bg P w H h a u:=by
 rcases r with r | ⟨o,r⟩
 ·exact x a u r
 ·obtain ⟨_,q⟩:=x a _ r
  exact q
noncomputable def J8:Option HO→Prop
 | some (.lst _)=>True
 | some (.dK _)=>True
 | some (.dT _)=>True
 | some (.set _ _)=>True
 | some (.ins _ _ _)=>True
 | some (.ext _)=>True
 | _=>False
section
theorem jq.write (ok:jq P w H h) (mu:J8 (H x)) (he:e=x∨H e=some (.own x)) (k:∀ b u,b≠e→h.get? b=some u→h'.get? b=some u) (heo:∃ u,h'.get? e=some u)
 (new:bg P w (upd H x o') h' x o'):jq P w (upd H x o') h':=fun b u q=>by
 have nown:∀ c y,H c=some (.own y)→c≠x:=fun c y r z=>by subst z; rw [r] at mu; exact mu
 have ntup:∀ c xs,H c=some (.tup xs)→c≠x:=fun c xs r z=>by subst z; rw [r] at mu; exact mu
 by_cases hb:b=x
 ·subst hb; rw [ai] at q; cases q; exact new
 ·rw [ak hb] at q
  by_cases hbe:b=e
  ·have q':H b=some (.own x):=by
    rcases he with z | z
    ·exact absurd (hbe.trans z) hb
    ·rw [hbe]; exact z
   rw [q] at q'; cases q'
   obtain ⟨v,hv⟩:=heo
   exact ⟨v,by rw [hbe]; exact hv⟩
  ·refine (ok b u q).stay (fun c v hc r=>k c v ?_ r) (fun c r=>by rw [ak (nown c b r)]; exact r) fun c xs r=>by rw [ak (ntup c xs r)]; exact r
   rcases hc with rfl | hc
   ·exact hbe
   ·rintro rfl
    rcases he with z | z
    ·exact nown c b hc z
    ·rw [hc] at z; cases z; exact hb rfl
end
structure Un (fs ex:List Addr) (H H':Hp) (h h':Heap):Prop where
 keep:∀ b o,h.get? b=some o→H b=none→b∉fs→b∉ex→h'.get? b=some o
 slot:∀ b o,h.get? b=some o→H b=none→b∈fs→b∉ex→∃ sl,h'.get? b=some { o with slots:=sl }
 free:∀ b o,h.get? b=some o→H b=none→b∉ex→H' b=none
 there:∀ b o,h.get? b=some o→b∉ex→∃ o',h'.get? b=some o'
 tups:∀ b xs,H b=some (.tup xs)→H' b=some (.tup xs)
 frzs:∀ b o u,H b=some (.frz o u)→H' b=some (.frz o u)
 tbls:∀ b ps,H b=some (.tbl ps)→∃ more,H' b=some (.tbl (ps++more))
section
variable {fs fs' ex ex':List Addr} {H H1 H2:Hp} {h h1 h2 h':Heap} {a x e:Addr} {o:HO}
theorem Un.any (u:Un fs ex H H1 h h1) (q:h.get? b=some ob) (n:H b=none) (hx:b∉ex):∃ sl,h1.get? b=some { ob with slots:=sl }:=by
 by_cases hb:b∈fs
 ·exact u.slot b ob q n hb hx
 ·exact ⟨ob.slots,u.keep b ob q n hb hx⟩
theorem Un.kept (k:∀ b u,h.get? b=some u→h'.get? b=some u):Un fs ex H H h h' :=
 ⟨fun b ob q _ _ _=>k b ob q,fun b ob q _ _ _=>⟨ob.slots,k b ob q⟩,fun _ _ _ n _=>n,fun b ob q _=>⟨ob,k b ob q⟩,fun _ _ q=>q,fun _ _ _ q=>q,fun _ ps q=>⟨#[],by rw [q]; simp⟩⟩
theorem Un.refl:Un fs ex H H h h:=Un.kept fun _ _ q=>q
theorem Un.laid (k:∀ b u,h.get? b=some u→h'.get? b=some u) (hp:h.objs.size≤a) (hn:H a=none):Un fs ex H (upd H a o) h h' where
 keep:=fun b u q _ _ _=>k b u q
 slot:=fun b u q _ _ _=>⟨u.slots,k b u q⟩
 free:=fun b u q n _=>by rw [ak (OB (OU (N9 q) hp))]; exact n
 there:=fun b u q _=>⟨u,k b u q⟩
 tups:=fun b xs q=>by rw [ak (az q hn)]; exact q
 frzs:=fun b u xs q=>by rw [ak (az q hn)]; exact q
 tbls:=fun b ps q=>⟨#[],by rw [ak (az q hn),q]; simp⟩
theorem Un.write (mu:J8 (H x)) (he:e=x∨H e=some (.own x)) (k:∀ b u,b≠e→h.get? b=some u→h'.get? b=some u) (heo:∃ u,h'.get? e=some u):Un fs ex H (upd H x o) h h':=by
 have hx:∀ b,H b=none→b≠x:=fun b n z=>by subst z; rw [n] at mu; exact mu
 have hb:∀ b,H b=none→b≠e:=fun b n z=>by
  subst z
  rcases he with r | r
  ·exact hx b n r
  ·rw [n] at r; cases r
 have hm:∀ b u,H b=some u→¬ J8 (some u)→b≠x:=fun b u q nm z=>by subst z; rw [q] at mu; exact nm mu
 refine ⟨fun b u q n _ _=>k b u (hb b n) q,fun b u q n _ _=>⟨u.slots,k b u (hb b n) q⟩,fun b u q n _=>by rw [ak (hx b n)]; exact n,fun b u q _=>?_,
  fun b xs q=>by rw [ak (hm b _ q fun z=>z)]; exact q,fun b u xs q=>by rw [ak (hm b _ q fun z=>z)]; exact q,fun b ps q=>⟨#[],by rw [ak (hm b _ q fun z=>z),q]; simp⟩⟩
 by_cases hbe:b=e
 ·subst hbe; exact heo
 ·exact ⟨u,k b u hbe q⟩
end
noncomputable def Mi (h:Heap) (H:Hp):List Addr:=(OP h.objs.size).filter fun a=>(H a).isSome
noncomputable def ou (h:Heap) (H:Hp):Heap:=PySem.W.hideAll h (Mi h H)
theorem xu (h) (H):(ou h H).objs.size=h.objs.size:=PySem.W.hideAll_size _ _
theorem zf (e:h.get? b=some o) (n:H b=none):(ou h H).get? b=some o :=
 PySem.W.hideAll_get _ e fun hm=>by
  have q:(H b).isSome=true:=(Rw.mp hm).2
  rw [n] at q; simp at q
theorem Dp (e:(ou h H).get? b=some o):h.get? b=some o∧H b=none:=by
 have e':h.get? b=some o:=PySem.W.of_hideAll (Mi h H) e
 refine ⟨e',?_⟩
 cases q:H b with
 | none=>rfl
 | some x =>
  have hm:b∈Mi h H:=Rw.mpr ⟨SM.mpr (N9 e'),by simp [q]⟩
  have z:(ou h H).get? b=none:=PySem.W.hideAll_none (Mi h H) hm
  rw [z] at e; cases e
structure Mod (K:NZ) (mg:Str→Option Value) (base:Heap):Prop where
 kin:K.In base
 glob:base.Ns mainGlobals mg
 blt:∃ mb,base.Ns builtinsNs mb∧∀ x:Str,x≠"__name__"→mb x=bootBuiltins x
 nolimit:base.NoLimit
structure Cx where
 prog:Program
 w:World
 K:NZ
 mg:Str→Option Value
 base:Heap
 A:Around
 N:List Str
 s₀:Shared
 H₀:Hp
 env:Env
 outer:List Env
 stack:List Env
 ex:List Addr
 fn:Str→Bool
 calm:Bool
 pn:List (Addr×Obj)
 xe:Value→Shared→Prop
noncomputable def frs (l:List Env):List Addr:=l.filterMap (·.frame)
noncomputable abbrev Cx.fs (X:Cx):List Addr:=frs X.outer
noncomputable def Mw (sc:Scope) (x:Str):Prop:=sc.names.lookup x=some .local∨sc.names.lookup x=some .cell∨sc.names.lookup x=some .free
noncomputable def Loc (sc:Scope) (x:Str):Prop:=sc.names.lookup x=some .local∨sc.names.lookup x=some .cell
noncomputable def Look (env:Env) (h:Heap) (m:Str→Option Value) (x:Str) (u:Value):Prop :=
 (env.kindOf x=some .local∧m x=some u)∨((env.kindOf x=some .cell∨env.kindOf x=some .free)∧∃ c,env.cells.lookup x=some c∧h.IsCell c (some u))
structure Cx.Ok (X:Cx):Prop where
 mod:Mod X.K X.mg X.base
 kind:X.env.scope.kind=.function
 glob:X.env.globals=mainGlobals
 blt:X.env.builtins=builtinsNs
 above:X.s₀.heap.objs.size≤X.env.locals
 inj:∀ x y c,X.env.cells.lookup x=some c→X.env.cells.lookup y=some c→x=y
 has:∀ x,(X.env.kindOf x=some .cell∨X.env.kindOf x=some .free)→∃ c,X.env.cells.lookup x=some c
 cab:∀ x c,X.fn x=true→X.env.cells.lookup x=some c→X.s₀.heap.objs.size≤c
 hd:X.calm=true→X.A.handled=none
 frames:X.A.frames=some X.stack
 stk:X.stack=X.outer∨(X.stack=X.env::X.outer∧X.env.frame=some X.env.locals)
 exf:∀ b∈X.ex,b≠X.env.locals∧∀ x c,X.env.cells.lookup x=some c→c≠b
 bs:∀ b o,X.base.get? b=some o→X.s₀.heap.get? b=some o∧X.H₀ b=none
 bsz:X.base.objs.size≤X.s₀.heap.objs.size
 noex:∀ b o,X.base.get? b=some o→b∉X.ex
 exfs:∀ b∈X.ex,b∉X.fs
 ju:X.s₀.heap.FunFrames X.base X.outer
 frf:∀ b∈X.fs,X.H₀ b=none
structure Inv (X:Cx) (aa:List (Addr×Obj)) (σ:List (Option V)) (H:Hp) (s:Shared):Prop where
 ok:X.Ok
 os:s.os=X.s₀.os
 bare:AllBare s.gens
 base:Un X.fs X.ex X.H₀ H X.s₀.heap s.heap
 loc:∃ m,s.heap.Ns X.env.locals m∧∀ (i:Nat) (x:Str) (v:V),X.N[i]?=some x→σ[i]?=some (some v)→Mw X.env.scope x→∃ u,RelV v u∧Look X.env s.heap m x u
 cell:∀ x c,X.env.cells.lookup x=some c→∃ v,s.heap.IsCell c v
 free:H X.env.locals=none
 freeC:∀ x c,X.env.cells.lookup x=some c→H c=none
 pin:∀ p∈X.pn++aa,s.heap.get? p.1=some p.2∧H p.1=none∧p.1≠X.env.locals∧p.1∉X.fs∧∀ v,p.2.data≠.cell v
 hok:jq X.prog X.w H s.heap
 len:σ.length=X.N.length
section
variable {X:Cx}
theorem Cx.Ok.Mx (ok:X.Ok) (e:X.base.get? b=some o):b∉X.fs:=fun hb=>by
 have:=(ok.ju.mem hb).1
 rw [e] at this; cases this
theorem Inv.bs (I:Inv X aa σ H s):∀ b o,X.base.get? b=some o→s.heap.get? b=some o∧H b=none:=fun b o e =>
 ⟨I.base.keep b o (I.ok.bs b o e).1 (I.ok.bs b o e).2 (I.ok.Mx e) (I.ok.noex b o e),I.base.free b o (I.ok.bs b o e).1 (I.ok.bs b o e).2 (I.ok.noex b o e)⟩
theorem Inv.bk (I:Inv X aa σ H s):∀ b o,X.base.get? b=some o→s.heap.get? b=some o:=fun b o e=>(I.bs b o e).1
theorem Inv.mod (I:Inv X aa σ H s):Mod X.K X.mg X.base:=I.ok.mod
theorem Inv.oA (I:Inv X aa σ H s):X.K.In s.heap:=I.ok.mod.kin.keeps I.bk
theorem Inv.lt (I:Inv X aa σ H s):X.env.locals<s.heap.objs.size:=let ⟨_,hn,_⟩:=I.loc; hn.lt
theorem Inv.sz (I:Inv X aa σ H s):X.s₀.heap.objs.size≤s.heap.objs.size:=N8 I.ok.above (Qn I.lt)
theorem Inv.J9 (I:Inv X aa σ H s) (h:s.heap.objs.size≤a):a∉X.fs:=fun hb=>by
 obtain ⟨_,o,ho,_⟩:=I.ok.ju.mem hb
 exact absurd (OU (N9 ho) (N8 I.sz h)) (PB _)
theorem Inv.GO (I:Inv X aa σ H s):∀ x c,X.env.cells.lookup x=some c→c≠X.env.locals:=fun x c e z=>by
 obtain ⟨v,o,ho,hd⟩:=I.cell x c e
 obtain ⟨m,⟨o',es,ep,ho',hd',_⟩,_⟩:=I.loc
 rw [z,ho'] at ho; cases ho; rw [hd'] at hd; cases hd
theorem Inv.ju (I:Inv X aa σ H s):s.heap.FunFrames X.base X.outer:=by
 have all:∀ (l:List Env),(∀ b∈frs l,b∈X.fs)→X.s₀.heap.FunFrames X.base l→s.heap.FunFrames X.base l:=by
  intro l
  induction l with
  | nil=>intro _ _; trivial
  | cons env r ih =>
   intro hs hl
   obtain ⟨hk,⟨L,o,hf,hn,ho,hd⟩,hr⟩:=hl
   have hL:L∈X.fs:=hs L (by unfold frs; rw [Pn,hf]; exact Od)
   obtain ⟨sl,e⟩:=I.base.slot L o ho (I.ok.frf L hL) hL fun z=>I.ok.exfs L z hL
   exact ⟨hk,⟨L,_,hf,hn,e,hd⟩,ih (fun b hb=>hs b (by unfold frs; rw [Pn,hf]; exact Oe _ hb)) hr⟩
 exact all X.outer (fun _ hb=>hb) I.ok.ju
theorem Inv.stack (I:Inv X aa σ H s):s.heap.FunFrames X.base X.stack:=by
 rcases I.ok.stk with e | ⟨e,hf⟩
 ·rw [e]; exact I.ju
 ·rw [e]
  obtain ⟨m,hn,_⟩:=I.loc
  refine .cons (by rw [I.ok.kind]; decide) hf hn ?_ I.ju
  exact Heap.get?_none_of_le (N8 I.ok.bsz I.ok.above)
theorem Inv.sZ (I:Inv X aa σ H s):∀ b∈frs X.stack,b∈X.env.locals::X.fs:=fun b hb=>by
 rcases I.ok.stk with e | ⟨e,hf⟩
 ·rw [e] at hb; exact Oe _ hb
 ·rw [e] at hb
  unfold frs at hb
  rw [Pn,hf] at hb
  exact hb
theorem Inv.u7 (I:Inv X aa σ H s):∀ b∈frs X.stack,H b=none:=fun b hb=>by
 rcases Oh.mp (I.sZ b hb) with e | hb
 ·rw [e]; exact I.free
 ·obtain ⟨_,o,ho,_⟩:=I.ok.ju.mem hb
  exact I.base.free b o ho (I.ok.frf b hb) fun z=>I.ok.exfs b z hb
theorem Inv.step {ch:List Addr} (I:Inv X aa σ H s)
 (hch:∀ b∈ch,(b∈X.ex∨X.s₀.heap.objs.size≤b)∧b≠X.env.locals∧(∀ x c,X.env.cells.lookup x=some c→c≠b)∧∀ p∈X.pn++aa,p.1≠b)
 (keep:∀ b o,b≠X.env.locals→b∉X.fs→b∉ch→s.heap.get? b=some o→H b=none→h'.get? b=some o)
 (slot:∀ b o,b≠X.env.locals→b∈X.fs→b∉ch→s.heap.get? b=some o→H b=none→∃ sl,h'.get? b=some { o with slots:=sl }) (free:∀ b o,b∉ch→s.heap.get? b=some o→H b=none→H' b=none)
 (there:∀ b o,b∉ch→s.heap.get? b=some o→∃ o',h'.get? b=some o')
 (tups:∀ b xs,H b=some (.tup xs)→H' b=some (.tup xs)) (frzs:∀ b o u,H b=some (.frz o u)→H' b=some (.frz o u)) (tbls:∀ b ps,H b=some (.tbl ps)→∃ more,H' b=some (.tbl (ps++more)))
 (ns:∀ m,s.heap.Ns X.env.locals m→h'.Ns X.env.locals m) (hok:jq X.prog X.w H' h') (hg:AllBare g') :
 Inv X aa σ H' { s with heap:=h',gens:=g',drawn:=d',toks:=t' }:=by
 have neL:∀ b o,X.s₀.heap.get? b=some o→b≠X.env.locals:=fun b o e=>OB (OU (N9 e) I.ok.above)
 have neC:∀ b o,X.s₀.heap.get? b=some o→b∉X.ex→b∉ch:=fun b o e hx hb=>by
  rcases (hch b hb).1 with z | z
  ·exact hx z
  ·exact absurd (OU (N9 e) z) (PB _)
 have cellK:∀ x c,X.env.cells.lookup x=some c→∀ v,s.heap.IsCell c v→h'.IsCell c v:=fun x c e v ⟨o,ho,hd⟩=>by
  have nch:c∉ch:=fun z=>(hch c z).2.2.1 x c e rfl
  by_cases hc:c∈X.fs
  ·obtain ⟨sl,q⟩:=slot c o (I.GO x c e) hc nch ho (I.freeC x c e)
   exact ⟨_,q,hd⟩
  ·exact ⟨o,keep c o (I.GO x c e) hc nch ho (I.freeC x c e),hd⟩
 refine ⟨I.ok,I.os,hg,⟨fun b o e n hb hx=>?_,fun b o e n hb hx=>?_,fun b o e n hx=>?_,fun b o e hx=>?_,fun b xs e=>tups b xs (I.base.tups b xs e),fun b o xs e=>frzs b o xs (I.base.frzs b o xs e),fun b ps e=>?_⟩,?_,fun x c e=>?_,?_,fun x c e=>?_,fun p hp=>?_,hok,I.len⟩
 ·exact keep b o (neL b o e) hb (neC b o e hx) (I.base.keep b o e n hb hx) (I.base.free b o e n hx)
 ·obtain ⟨sl,e1⟩:=I.base.slot b o e n hb hx
  obtain ⟨sl',e2⟩:=slot b _ (neL b o e) hb (neC b o e hx) e1 (I.base.free b o e n hx)
  exact ⟨sl',e2⟩
 ·obtain ⟨o',e1⟩:=I.base.there b o e hx
  exact free b o' (neC b o e hx) e1 (I.base.free b o e n hx)
 ·obtain ⟨o',e1⟩:=I.base.there b o e hx
  exact there b o' (neC b o e hx) e1
 ·obtain ⟨m1,e1⟩:=I.base.tbls b ps e
  obtain ⟨m2,e2⟩:=tbls b _ e1
  exact ⟨m1++m2,by rw [e2,Array.append_assoc]⟩
 ·obtain ⟨m,hn,hl⟩:=I.loc
  refine ⟨m,ns m hn,fun i x v e1 e2 e3=>?_⟩
  obtain ⟨u,r,l⟩:=hl i x v e1 e2 e3
  refine ⟨u,r,?_⟩
  rcases l with l | ⟨k,c,e,z⟩
  ·exact .inl l
  ·exact .inr ⟨k,c,e,cellK x c e _ z⟩
 ·obtain ⟨v,z⟩:=I.cell x c e
  exact ⟨v,cellK x c e v z⟩
 ·obtain ⟨m,⟨o,_,_,ho,_⟩,_⟩:=I.loc
  exact free _ o (fun z=>(hch _ z).2.1 rfl) ho I.free
 ·obtain ⟨v,o,ho,hd⟩:=I.cell x c e
  exact free c o (fun z=>(hch c z).2.2.1 x c e rfl) ho (I.freeC x c e)
 ·obtain ⟨e,n,ne,nf,d⟩:=I.pin p hp
  have nch:p.1∉ch:=fun z=>(hch p.1 z).2.2.2 p hp rfl
  exact ⟨keep p.1 p.2 ne nf nch e n,free p.1 p.2 nch e n,ne,nf,d⟩
theorem Inv.un (I:Inv X aa σ H s) (u:Un X.fs [] H H' s.heap h') (hok:jq X.prog X.w H' h'):Inv X aa σ H' { s with heap:=h',toks:=t' }:=by
 obtain ⟨m,⟨o,es,ep,ho,r⟩,_⟩:=id I.loc
 obtain ⟨sl,hL⟩:=u.any ho I.free (by simp)
 exact I.step (g':=s.gens) (d':=s.drawn) (ch:=[]) (fun _ z=>nomatch z) (fun b o _ hb _ e n=>u.keep b o e n hb (by simp)) (fun b o _ hb _ e n=>u.slot b o e n hb (by simp)) (fun b o _ e n=>u.free b o e n (by simp)) (fun b o _ e=>u.there b o e (by simp)) u.tups u.frzs u.tbls (fun m' hm=>by
  obtain ⟨o',es',ep',ho',r'⟩:=hm
  rw [ho] at ho'; cases ho'
  exact ⟨_,es',ep',hL,r'⟩) hok I.bare
theorem Inv.call (I:Inv X aa σ H s) (u:Un (frs X.stack) ch H H' s.heap h') (hok:jq X.prog X.w H' h') (hg:AllBare g')
 (hch:∀ b∈ch,(b∈X.ex∨X.s₀.heap.objs.size≤b)∧b≠X.env.locals∧(∀ x c,X.env.cells.lookup x=some c→c≠b)∧∀ p∈X.pn++aa,p.1≠b) :
 Inv X aa σ H' { s with heap:=h',gens:=g',drawn:=d',toks:=t' }:=by
 obtain ⟨m,⟨o,es,ep,ho,r⟩,_⟩:=id I.loc
 obtain ⟨sl,hL⟩:=u.any ho I.free fun z=>(hch _ z).2.1 rfl
 exact I.step (ch:=ch) hch (fun b o hL hb hc e n=>u.keep b o e n (fun z=>(Oh.mp (I.sZ b z)).elim hL hb) hc) (fun b o _ _ hc e n=>u.any e n hc) (fun b o hc e n=>u.free b o e n hc) (fun b o hc e=>u.there b o e hc) u.tups u.frzs u.tbls (fun m' hm=>by
  obtain ⟨o',es',ep',ho',r'⟩:=hm
  rw [ho] at ho'; cases ho'
  exact ⟨_,es',ep',hL,r'⟩) hok hg
theorem Inv.turned (I:Inv X aa σ H s) (k:∀ b o,b≠it→s.heap.get? b=some o→h'.get? b=some o) (hn:H it=none) (hL:it≠X.env.locals)
 (h1:it∈X.ex∨X.s₀.heap.objs.size≤it) (h2:∀ x c,X.env.cells.lookup x=some c→c≠it) (h3:∀ p∈X.pn++aa,p.1≠it):Inv X aa σ H { s with heap:=h',toks:=t' }:=by
 have nit:∀ b u,H b=some u→b≠it:=fun b u e z=>by rw [z,hn] at e; cases e
 refine I.step (g':=s.gens) (d':=s.drawn) (ch:=[it]) (fun b hb=>?_) (fun b o _ _ hc e _=>k b o (fun z=>hc (by simp [z])) e) (fun b o _ _ hc e _=>⟨o.slots,k b o (fun z=>hc (by simp [z])) e⟩) (fun _ _ _ _ n=>n)
  (fun b o hc e=>⟨o,k b o (fun z=>hc (by simp [z])) e⟩) (fun _ _ e=>e) (fun _ _ _ e=>e) (fun b ps e=>⟨#[],by rw [e]; simp⟩) (fun m hm=>?_) (fun b u e=>?_) I.bare
 ·have e:b=it:=by simpa using hb
  subst e
  exact ⟨h1,hL,h2,h3⟩
 ·obtain ⟨o,es,ep,ho,r⟩:=hm
  exact ⟨o,es,ep,k _ o (Oq hL) ho,r⟩
 ·refine (I.hok b u e).stay (fun c v hc q=>k c v ?_ q) (fun _ q=>q) fun _ _ q=>q
  rcases hc with z | z
  ·rw [z]; exact nit b u e
  ·exact nit c _ z
theorem Inv.tok (I:Inv X aa σ H s) (t):Inv X aa σ H { s with toks:=t }:=I.un (h':=s.heap) (t':=t) Un.refl I.hok
theorem Inv.kept (I:Inv X aa σ H s) (k:∀ b u,s.heap.get? b=some u→h'.get? b=some u):Inv X aa σ H { s with heap:=h',toks:=t' }:=I.un (Un.kept k) (I.hok.kept k)
theorem Inv.laid (I:Inv X aa σ H s) (k:∀ b u,s.heap.get? b=some u→h'.get? b=some u) (hp:s.heap.objs.size≤a) (new:bg X.prog X.w (upd H a o) h' a o) :
 Inv X aa σ (upd H a o) { s with heap:=h',toks:=t' }:=I.un (Un.laid k hp (I.hok.fresh hp)) (I.hok.laid k hp new)
theorem Inv.write (I:Inv X aa σ H s) (mu:J8 (H x)) (he:e=x∨H e=some (.own x)) (k:∀ b u,b≠e→s.heap.get? b=some u→h'.get? b=some u) (heo:∃ u,h'.get? e=some u)
 (new:bg X.prog X.w (upd H x o) h' x o):Inv X aa σ (upd H x o) { s with heap:=h',toks:=t' }:=I.un (Un.write mu he k heo) (I.hok.write mu he k heo new)
theorem Inv.u9 (I:Inv X aa σ H s) (h:∀ p∈pins',s.heap.get? p.1=some p.2∧H p.1=none∧p.1≠X.env.locals∧p.1∉X.fs∧∀ v,p.2.data≠.cell v):Inv X pins' σ H s :=
 ⟨I.ok,I.os,I.bare,I.base,I.loc,I.cell,I.free,I.freeC,fun p hp=>(Oz.mp hp).elim (fun z=>I.pin p (Qy _ z)) (h p),I.hok,I.len⟩
theorem qf {N:List Str} (hN:N.Nodup) {i j:Nat} (a:N[i]?=some x) (b:N[j]?=some x):i=j:=by
 obtain ⟨h1,e1⟩:=Ob.mp a
 obtain ⟨h2,e2⟩:=Ob.mp b
 exact (List.getElem_inj hN).mp (e1.trans e2.symm)
theorem xw (I:Inv X aa σ H s) (hN:X.N.Nodup) (hi:X.N[i]?=some x) (hx:Loc X.env.scope x) (r:RelV v u)
 (h:∀ s',Inv X aa (σ.set i (some v)) H s'→(∃ a,PV a s.heap s'.heap∧(a=X.env.locals∨X.env.cells.lookup x=some a))→Q () s') (hf:X.fn x=true∨X.env.scope.names.lookup x=some .local:=by first | exact .inl rfl | exact .inr rfl | assumption):wpAny M A (storeName X.env x u) Q E s:=by
 obtain ⟨m,hn,hl⟩:=id I.loc
 have hcls:(X.env.scope.kind == .class || (X.env.scope.kind == .module && X.env.locals != X.env.globals))=false:=by rw [I.ok.kind]; rfl
 have hiσ:i<σ.length:=by rw [I.len]; exact (Ob.mp hi).1
 have GO:=I.GO
 have tracked:∀ {a:Addr} {h':Heap},(∃ o,s.heap.get? a=some o∧H a=none)→PV a s.heap h'→jq X.prog X.w H h':=fun {a h'} ha hs b ob e=>by
  obtain ⟨_,_,hfree⟩:=ha
  refine (I.hok b ob e).stay (fun c w' hc q=>(hs.2 c ?_).trans q) (fun _ q=>q) fun _ _ q=>q
  rintro rfl
  rcases hc with rfl | hc
  ·rw [hfree] at e; cases e
  ·rw [hfree] at hc; cases hc
 rcases hx with hk | hk
 ·refine wpAny_storeName_local hk hn (fun h' hn' hs=>?_) hcls
  obtain ⟨oL,_,_,hoL,_⟩:=id hn
  refine h _ ⟨I.ok,I.os,I.bare,⟨fun b o e n hb hx=>?_,fun b o e n hb hx=>?_,I.base.free,fun b o e hx=>?_,I.base.tups,I.base.frzs,I.base.tbls⟩,⟨_,hn',fun j y v' e1 e2 e3=>?_⟩,fun y c e=>?_,I.free,I.freeC,fun p hp=>?_,tracked ⟨oL,hoL,I.free⟩ hs,by simpa using I.len⟩ ⟨_,hs,.inl rfl⟩
  ·exact (hs.2 b (OB (OU (N9 e) I.ok.above))).trans (I.base.keep b o e n hb hx)
  ·obtain ⟨sl,e1⟩:=I.base.slot b o e n hb hx
   exact ⟨sl,(hs.2 b (OB (OU (N9 e) I.ok.above))).trans e1⟩
  ·obtain ⟨o',e1⟩:=I.base.there b o e hx
   exact ⟨o',(hs.2 b (OB (OU (N9 e) I.ok.above))).trans e1⟩
  ·by_cases hj:j=i
   ·subst hj
    rw [hi] at e1; cases e1
    rw [O8 hiσ] at e2
    cases e2
    exact ⟨u,r,.inl ⟨hk,by simp⟩⟩
   ·rw [Pa (Oq hj)] at e2
    obtain ⟨u',r',q⟩:=hl j y v' e1 e2 e3
    refine ⟨u',r',?_⟩
    rcases q with ⟨k,e⟩ | ⟨k,c,e,z⟩
    ·refine .inl ⟨k,?_⟩
     have:y≠x:=fun e=>hj (qf hN e1 (e ▸ hi))
     simp [this,e]
    ·exact .inr ⟨k,c,e,z.sameBut hs (GO y c e)⟩
  ·obtain ⟨w',z⟩:=I.cell y c e
   exact ⟨w',z.sameBut hs (GO y c e)⟩
  ·obtain ⟨e,n,ne,nf,d⟩:=I.pin p hp
   exact ⟨(hs.2 p.1 ne).trans e,n,ne,nf,d⟩
 ·have hfn:X.fn x=true:=by
   rcases hf with z | z
   ·exact z
   ·rw [z] at hk; cases hk
  obtain ⟨c,hc⟩:=I.ok.has x (.inl hk)
  obtain ⟨w',z⟩:=I.cell x c hc
  refine wpAny_storeName_cell I.ok.kind hk hc z (fun h' hc' hs=>?_)
  obtain ⟨oc,hoc,hocd⟩:=id z
  refine h { s with heap:=h' } ⟨I.ok,I.os,I.bare,⟨fun b o e n hb hx=>?_,fun b o e n hb hx=>?_,I.base.free,fun b o e hx=>?_,I.base.tups,I.base.frzs,I.base.tbls⟩,⟨m,hn.sameBut hs (Oq (GO x c hc)),fun j y v' e1 e2 e3=>?_⟩,fun y c' e=>?_,I.free,I.freeC,fun p hp=>?_,tracked ⟨oc,hoc,I.freeC x c hc⟩ hs,by simpa using I.len⟩ ⟨c,hs,.inr hc⟩
  ·exact (hs.2 b (OB (OU (N9 e) (I.ok.cab x c hfn hc)))).trans (I.base.keep b o e n hb hx)
  ·obtain ⟨sl,e1⟩:=I.base.slot b o e n hb hx
   exact ⟨sl,(hs.2 b (OB (OU (N9 e) (I.ok.cab x c hfn hc)))).trans e1⟩
  ·obtain ⟨o',e1⟩:=I.base.there b o e hx
   exact ⟨o',(hs.2 b (OB (OU (N9 e) (I.ok.cab x c hfn hc)))).trans e1⟩
  ·by_cases hj:j=i
   ·subst hj
    rw [hi] at e1; cases e1
    rw [O8 hiσ] at e2
    cases e2
    exact ⟨u,r,.inr ⟨.inl hk,c,hc,hc'⟩⟩
   ·rw [Pa (Oq hj)] at e2
    obtain ⟨u',r',q⟩:=hl j y v' e1 e2 e3
    refine ⟨u',r',?_⟩
    rcases q with q | ⟨k,c',e,z'⟩
    ·exact .inl q
    ·refine .inr ⟨k,c',e,z'.sameBut hs ?_⟩
     rintro rfl
     exact hj (qf hN e1 (I.ok.inj _ _ _ e hc ▸ hi))
  ·by_cases hcc:c'=c
   ·subst hcc; exact ⟨_,hc'⟩
   ·obtain ⟨w2,z2⟩:=I.cell y c' e
    exact ⟨w2,z2.sameBut hs hcc⟩
  ·obtain ⟨e,n,ne,nf,d⟩:=I.pin p hp
   refine ⟨(hs.2 p.1 ?_).trans e,n,ne,nf,d⟩
   intro q
   rw [q,hoc] at e
   have q':oc=p.2:=Py e
   exact d w' (by rw [← q']; exact hocd)
theorem kQ (I:Inv X aa σ H s) (hN:X.N.Nodup) (hi:X.N[i]?=some x) (hx:Loc X.env.scope x) (r:RelV v u)
 (h:∀ s',Inv X aa (σ.set i (some v)) H s'→Q () s') (hf:X.fn x=true∨X.env.scope.names.lookup x=some .local:=by first | exact .inl rfl | exact .inr rfl | assumption):wpAny M A (storeName X.env x u) Q E s :=
 xw I hN hi hx r (fun s' I' _=>h s' I') hf
theorem Inv.Ka (I:Inv X aa σ H s) (ho:s'.os=s.os) (u:Un (frs X.stack) ch H H' s.heap s'.heap) (hok:jq X.prog X.w H' s'.heap) (hg:AllBare s'.gens)
 (hch:∀ b∈ch,(b∈X.ex∨X.s₀.heap.objs.size≤b)∧b≠X.env.locals∧(∀ x c,X.env.cells.lookup x=some c→c≠b)∧∀ p∈X.pn++aa,p.1≠b):Inv X aa σ H' s':=by
 obtain ⟨h',g',d',t',o'⟩:=s'
 have e:o'=s.os:=ho
 subst e
 exact I.call (g':=g') (t':=t') (d':=d') u hok hg hch
end
noncomputable abbrev XK:=Value→Option Addr→Hp→Prop
noncomputable abbrev St:=List (Option V)
noncomputable abbrev VK:=V→Hp→Prop
noncomputable abbrev TE:=St→Hp→VK→Prop
noncomputable abbrev TT:=St→Hp→(Bool→Hp→Prop)→Prop
noncomputable abbrev TA:=St→Hp→(List V→Hp→Prop)→Prop
structure Ends where
 nx:St→Hp→Prop
 rt:VK
 bk:St→Hp→Prop:=fun _ _=>False
 ct:St→Hp→Prop:=fun _ _=>False
noncomputable abbrev TS:=Ends→St→Hp→Prop
noncomputable def EP (X:Cx) (aa:List (Addr×Obj)) (σ:St) (Q:VK) (u:Value) (s':Shared):Prop:=∃ v H',Inv X aa σ H' s'∧RelV v u∧Q v H'
noncomputable def TP (X:Cx) (aa:List (Addr×Obj)) (σ:St) (Q:Bool→Hp→Prop) (b:Bool) (s':Shared):Prop:=∃ H',Inv X aa σ H' s'∧Q b H'
noncomputable def AP (X:Cx) (aa:List (Addr×Obj)) (σ:St) (Q:List V→Hp→Prop) (us:List Value) (s':Shared):Prop:=∃ vs H',Inv X aa σ H' s'∧Vals vs us∧Q vs H'
noncomputable def SP (X:Cx) (aa:List (Addr×Obj)) (D:Ends) (f:Flow) (s':Shared):Prop :=
 match f with
 | .next=>∃ σ' H',Inv X aa σ' H' s'∧D.nx σ' H'
 | .brk=>∃ σ' H',Inv X aa σ' H' s'∧D.bk σ' H'
 | .cont=>∃ σ' H',Inv X aa σ' H' s'∧D.ct σ' H'
 | .ret u=>∃ v σ' H',Inv X aa σ' H' s'∧RelV v u∧D.rt v H'
noncomputable def PE (X:Cx) (e:Expr) (t:TE):Prop :=
 ∀ (aa:List (Addr×Obj)) (s:Shared) (σ:St) (H:Hp) (Q:VK),Inv X aa σ H s→t σ H Q→wpAny (model X.prog X.w) X.A (eval e X.env) (EP X aa σ Q) X.xe s
noncomputable def PT (X:Cx) (e:Expr) (t:TT):Prop :=
 ∀ (aa:List (Addr×Obj)) (s:Shared) (σ:St) (H:Hp) (Q:Bool→Hp→Prop),Inv X aa σ H s→t σ H Q→wpAny (model X.prog X.w) X.A (isTrue e X.env (eval e X.env)) (TP X aa σ Q) X.xe s
noncomputable def PW (X:Cx) (e:Expr) (t:TT):Prop :=
 ∀ (whole:Sem Value) (aa:List (Addr×Obj)) (s:Shared) (σ:St) (H:Hp) (Q:Bool→Hp→Prop),Inv X aa σ H s→t σ H Q→wpAny (model X.prog X.w) X.A (isTrue e X.env whole) (TP X aa σ Q) X.xe s
noncomputable def PA (X:Cx) (es:List Expr) (t:TA):Prop :=
 ∀ (pos:Pos) (aa:List (Addr×Obj)) (s:Shared) (σ:St) (H:Hp) (Q:List V→Hp→Prop),Inv X aa σ H s→t σ H Q→wpAny (model X.prog X.w) X.A (spliced (backTo pos (starEach es X.env))) (AP X aa σ Q) X.xe s
noncomputable def PS (X:Cx) (st:Stmt) (t:TS):Prop :=
 ∀ (aa:List (Addr×Obj)) (s:Shared) (σ:St) (H:Hp) (D:Ends),Inv X aa σ H s→t D σ H→wpAny (model X.prog X.w) X.A (exec st X.env) (SP X aa D) X.xe s
noncomputable def sW (X:Cx) (st:List Stmt) (t:TS):Prop :=
 ∀ (aa:List (Addr×Obj)) (s:Shared) (σ:St) (H:Hp) (D:Ends),Inv X aa σ H s→t D σ H→wpAny (model X.prog X.w) X.A (execs st X.env) (SP X aa D) X.xe s
theorem bC (h:wpAny M A t Q E s) (hQ:∀ a s,Q a s→Q' a s):wpAny M A t Q' E s:=OO h hQ fun _ _ x=>x
section
noncomputable def Kc (i:Nat):TE:=fun σ H Q=>∃ v,σ[i]?=some (some v)∧Q v H
noncomputable def tC (v:V):TE:=fun _ H Q=>Q v H
theorem tu (hN:X.N[i]?=some x) (hv:Mw X.env.scope x) (hd:(x == ("__debug__":Str))=false:=by decide) (hcd:(x == ("__classdict__":Str))=false:=by decide):PE X (.Name x pos) (Kc i):=by
 intro aa s σ H Q I h
 obtain ⟨v,e,h⟩:=h
 obtain ⟨m,hn,hl⟩:=I.loc
 obtain ⟨u,r,l⟩:=hl i x v hN e hv
 have fin:EP X aa σ Q u s:=⟨v,H,I,r,h⟩
 rcases l with ⟨hk,hm⟩ | ⟨hk,c,hc,hcell⟩
 ·exact wpAny_Name (wpAny_loadName_local I.ok.kind hk hn hm fin) hd
 ·rcases hk with hk | hk
  ·exact wpAny_Name (wpAny_loadName_cell I.ok.kind hk hc hcell fin) hd
  ·exact wpAny_Name (wpAny_loadName_free I.ok.kind hk hc hcell fin hcd) hd
theorem zg {i j pos}:PE X (.Constant (.int i) j pos) (tC (.int i)):=fun _ _ _ H _ I h=>wpAny_Constant_int ⟨.int i,H,I.tok _,⟨_,rfl⟩,h⟩
theorem FP {b j pos}:PE X (.Constant (.bool b) j pos) (tC (.bl b)):=fun _ _ _ H _ I h=>Constant_bool ⟨.bl b,H,I,rfl,h⟩
noncomputable def Gl (X:Cx) (x:Str):Prop:=X.env.kindOf x=some .globalImplicit
theorem iR (I:Inv X aa σ H s) (hg:Gl X x) (hm:X.mg x=some u) (h:Q u s)
 (hd:(x == ("__debug__":Str))=false:=by decide):wpAny (model X.prog X.w) X.A (eval (.Name x pos) X.env) Q E s :=
 Calls.Name_function_global I.ok.kind hg (Calls.loadGlobal_global (by rw [I.ok.glob]; exact I.mod.glob.keeps I.bk) hm h) hd
theorem dB (I:Inv X aa σ H s) (hg:Gl X x) (hm:X.mg x=none) (hv:bootBuiltins x=some u) (h:Q u s)
 (hn:x≠"__name__":=by decide) (hd:(x == ("__debug__":Str))=false:=by decide):wpAny (model X.prog X.w) X.A (eval (.Name x pos) X.env) Q E s:=by
 obtain ⟨mb,h1,h2⟩:=I.mod.blt
 exact Calls.Name_function_global I.ok.kind hg (Calls.loadGlobal_builtin (by rw [I.ok.glob]; exact I.mod.glob.keeps I.bk) hm (by rw [I.ok.blt]; exact h1.keeps I.bk) ((h2 x hn).trans hv) h) hd
theorem vc (hg:Gl X x) (hm:X.mg x=some u) (r:RelV v u) (hd:(x == ("__debug__":Str))=false:=by decide):PE X (.Name x pos) (tC v) :=
 fun _ _ _ H _ I h=>iR I hg hm ⟨v,H,I,r,h⟩ hd
noncomputable def PC (X:Cx) (op:CmpOp) (a b:Expr) (t:TE):Prop :=
 ∀ (aa:List (Addr×Obj)) (s:Shared) (σ:St) (H:Hp) (Q:VK),Inv X aa σ H s→t σ H Q →
  wpAny (model X.prog X.w) X.A (eval a X.env) (fun v s₁=>wpAny (model X.prog X.w) X.A (eval b X.env) (fun u s₂=>wpAny (model X.prog X.w) X.A (compareOp op v u) (EP X aa σ Q) X.xe s₂) X.xe s₁) X.xe s
noncomputable def tB (t:TE):TT:=fun σ H Q=>t σ H fun x H1=>∃ c,x=.bl c∧Q c H1
theorem GP (h:PC X op a b t) (h1:behindInMarks op b=false:=by first | exact nobehind _ (by decide) (by decide) | rfl):PT X (.Compare a [op] [b] pos) (tB t):=by
 intro aa s σ H Q I hw
 refine wpAny_isTrue_Compare1 (bC (h aa s σ H _ I hw) fun v s1 h1=>bC h1 fun u s2 h2=>bC h2 fun c s3 ⟨x,H1,I1,r1,q1⟩=>?_) h1
 obtain ⟨d,rfl,q⟩:=q1
 cases r1
 exact Rp ⟨H1,I1,q⟩
theorem GQ (h:PE X e t) (he:∀ whole,isTrue e X.env whole=(do let v ← whole; standAt e.pos; holding [v] (truthy v)):=by intro _; rfl):PT X e (tB t):=by
 intro aa s σ H Q I hw
 refine isTrue_plain (bC (h aa s σ H _ I hw) fun v s1 ⟨x,H1,I1,r1,q1⟩=>?_) (he _)
 obtain ⟨d,rfl,q⟩:=q1
 cases r1
 exact Rp ⟨H1,I1,q⟩
variable {rest:List Expr}
noncomputable def Mz (t u:TT):TT:=fun σ H Q=>t σ H fun c H1=>if c=true then u σ H1 Q else Q false H1
noncomputable def NG (t u:TT):TT:=fun σ H Q=>t σ H fun c H1=>if c=true then Q true H1 else u σ H1 Q
noncomputable def MA (t:TT):TT:=fun σ H Q=>t σ H fun c H1=>Q (!c) H1
theorem pw_and1 (ha:PT X a tA):PW X (.BoolOp .And [a] pos) tA:=by
 intro wh aa s σ H Q I h
 refine isTrue_and (bC (ha aa s σ H Q I h) fun c s1 e=>?_)
 cases c with
 | true=>exact isTrue_and_nil e
 | false=>exact e
theorem pw_or1 (ha:PT X a tA):PW X (.BoolOp .Or [a] pos) tA:=by
 intro wh aa s σ H Q I h
 refine isTrue_or (bC (ha aa s σ H Q I h) fun c s1 e=>?_)
 cases c with
 | false=>exact isTrue_or_nil e
 | true=>exact e
theorem pw_and (ha:PT X a tA) (hb:PW X (.BoolOp .And (b::rest) pos) tB'):PW X (.BoolOp .And (a::b::rest) pos) (Mz tA tB'):=by
 intro wh aa s σ H Q I h
 refine isTrue_and (bC (ha aa s σ H _ I h) fun c s1 ⟨H1,I1,q1⟩=>?_)
 cases c with
 | true=>exact hb wh aa s1 σ H1 Q I1 q1
 | false=>exact ⟨H1,I1,q1⟩
theorem pw_or (ha:PT X a tA) (hb:PW X (.BoolOp .Or (b::rest) pos) tB'):PW X (.BoolOp .Or (a::b::rest) pos) (NG tA tB'):=by
 intro wh aa s σ H Q I h
 refine isTrue_or (bC (ha aa s σ H _ I h) fun c s1 ⟨H1,I1,q1⟩=>?_)
 cases c with
 | true=>exact ⟨H1,I1,q1⟩
 | false=>exact hb wh aa s1 σ H1 Q I1 q1
theorem GR (ha:PT X a tA):PT X (.UnaryOp .Not a pos) (MA tA):=by
 intro aa s σ H Q I h
 exact isTrue_not (ha aa s σ H (fun c H1=>Q (!c) H1) I h)
noncomputable def Kd (ta tb:TE):TE:=fun σ H Q=>ta σ H fun x H1=>∃ c,x=.bl c∧if c=true then tb σ H1 Q else Q (.bl false) H1
theorem GS {op} (h:PE X a t):PE X (.BoolOp op [a] pos) t:=fun aa s σ H Q I hw=>BoolOp_one (h aa s σ H Q I hw)
theorem GU (ha:PE X a ta) (hb:PE X (.BoolOp .And (b::rest) pos) tb):PE X (.BoolOp .And (a::b::rest) pos) (Kd ta tb):=by
 intro aa s σ H Q I h
 refine BoolOp_and (bC (ha aa s σ H _ I h) fun v s1 ⟨x,H1,I1,r1,q1⟩=>?_)
 obtain ⟨c,rfl,q1⟩:=q1
 cases r1
 refine Rp ?_
 cases c with
 | true=>exact hb aa s1 σ H1 Q I1 q1
 | false=>exact ⟨.bl false,H1,I1,rfl,q1⟩
noncomputable def NH (t:TT) (ta tb:TE):TE:=fun σ H Q=>t σ H fun c H1=>if c=true then ta σ H1 Q else tb σ H1 Q
theorem zh (hc:PT X c tA) (ha:PE X a ta) (hb:PE X b tb):PE X (.IfExp c a b pos) (NH tA ta tb):=by
 intro aa s σ H Q I h
 refine wpAny_IfExp (bC (hc aa s σ H _ I h) fun d s1 ⟨H1,I1,q1⟩=>?_)
 cases d with
 | true=>exact ha aa s1 σ H1 Q I1 q1
 | false=>exact hb aa s1 σ H1 Q I1 q1
end
noncomputable def gO (K:NZ) (H:Hp) (a:Addr) (xs:List V):Prop :=
 Rd H a (.lst xs) ∨
  ∃ (o:Obj) (its:Array Value) (n:Nat),K.lookup a=some o∧o.cls=.type "list"∧o.dict=none∧o.data=.seq its n∧its.size≤sizeLine∧Vals xs its.toList
noncomputable def cY (K:NZ) (H:Hp) (a:Addr) (xs:List V):Prop :=
 Rd H a (.tup xs) ∨
  ∃ (o:Obj) (its:Array Value) (n:Nat),K.lookup a=some o∧o.cls=.type "tuple"∧o.data=.seq its n∧its.size≤sizeLine∧Vals xs its.toList
noncomputable def MB:Value→Option V
 | .none=>some .non
 | .bool b=>some (.bl b)
 | .int i _=>some (.int i)
 | .str x _=>some (.str x)
 | .bytes b _=>some (.byt b)
 | .float b _=>some (.flt b)
 | .ref a=>some (.ref a)
 | .type n=>some (.ty n)
 | _=>none
theorem RelV.abs (r:RelV x u):MB u=some x:=by
 cases x with
 | non=>cases r; rfl
 | bl _=>cases r; rfl
 | int _=>obtain ⟨t,rfl⟩:=r; rfl
 | str _=>obtain ⟨t,rfl⟩:=r; rfl
 | byt _=>obtain ⟨t,rfl⟩:=r; rfl
 | flt _=>obtain ⟨t,rfl⟩:=r; rfl
 | ref _=>cases r; rfl
 | ty _=>cases r; rfl
theorem RelV.inj (r:RelV x u) (q:RelV y u):x=y:=Py (r.abs.symm.trans q.abs)
theorem Vals.inj:∀ {xs ys:List V} {us:List Value},Vals xs us→Vals ys us→xs=ys
 | _,_,_,.nil,.nil=>rfl
 | _,_,_,.cons r t,.cons r' t'=>by rw [r.inj r',Vals.inj t t']
section
theorem Inv.list (I:Inv X aa σ H s) (h:gO X.K H a xs):∃ its:List Value,Vals xs its∧PlainL s.heap a its.toArray∧xs.length≤sizeLine:=by
 rcases h with h | ⟨o,its,n,hk,hc,hd,hs,hz,r⟩
 ·obtain ⟨z,its,n,r,e⟩:=h.ok I.hok
  exact ⟨its,r,⟨_,n,e,rfl,rfl,rfl⟩,z⟩
 ·refine ⟨its.toList,r,⟨o,n,I.oA a o hk,hc,hd,by simpa using hs⟩,?_⟩
  have e:=r.length
  simp only [OT] at e
  lia
theorem Inv.tuple (I:Inv X aa σ H s) (h:cY X.K H a xs):∃ its:List Value,Vals xs its∧IsTup s.heap a its.toArray∧xs.length≤sizeLine:=by
 rcases h with h | ⟨o,its,n,hk,hc,hs,hz,r⟩
 ·obtain ⟨z,its,r,p⟩:=h.ok I.hok
  exact ⟨its,r,p,z⟩
 ·refine ⟨its.toList,r,⟨o,I.oA a o hk,hc,n,by simpa using hs⟩,?_⟩
  have e:=r.length
  simp only [OT] at e
  lia
theorem Inv.qg (I:Inv X aa σ H s) (h:gO X.K H a xs) (h':gO X.K H a ys):xs=ys:=by
 obtain ⟨its,r,⟨o,n,e,_,_,d⟩,_⟩:=I.list h
 obtain ⟨its',r',⟨o',n',e',_,_,d'⟩,_⟩:=I.list h'
 rw [e] at e'; cases e'
 rw [d] at d'
 injection d' with d1 _
 have:its=its':=by simpa using congrArg Array.toList d1
 subst this
 exact r.inj r'
theorem Inv.jv (I:Inv X aa σ H s) (h:cY X.K H a xs) (h':cY X.K H a ys):xs=ys:=by
 obtain ⟨its,r,⟨o,e,_,n,d⟩,_⟩:=I.tuple h
 obtain ⟨its',r',⟨o',e',_,n',d'⟩,_⟩:=I.tuple h'
 rw [e] at e'; cases e'
 rw [d] at d'
 injection d' with d1 _
 have:its=its':=by simpa using congrArg Array.toList d1
 subst this
 exact r.inj r'
end
noncomputable abbrev Cx.mH (X:Cx) (E:Value→Shared→Prop):Cx:={ X with xe:=E }
noncomputable abbrev Cx.FQ (X:Cx):Cx:=X.mH fun _ _=>False
theorem Cx.Ok.mH {X:Cx} (ok:X.Ok) (E):(X.mH E).Ok :=
 ⟨ok.mod,ok.kind,ok.glob,ok.blt,ok.above,ok.inj,ok.has,ok.cab,ok.hd,ok.frames,ok.stk,ok.exf,ok.bs,ok.bsz,ok.noex,ok.exfs,ok.ju,ok.frf⟩
theorem Cx.Ok.fX {X:Cx} (ok:(X.mH E).Ok):X.Ok :=
 ⟨ok.mod,ok.kind,ok.glob,ok.blt,ok.above,ok.inj,ok.has,ok.cab,ok.hd,ok.frames,ok.stk,ok.exf,ok.bs,ok.bsz,ok.noex,ok.exfs,ok.ju,ok.frf⟩
section
theorem Inv.mH (I:Inv X aa σ H s) (E):Inv (X.mH E) aa σ H s:=⟨I.ok.mH E,I.os,I.bare,I.base,I.loc,I.cell,I.free,I.freeC,I.pin,I.hok,I.len⟩
theorem Inv.fX (I:Inv (X.mH E) aa σ H s):Inv X aa σ H s:=⟨I.ok.fX,I.os,I.bare,I.base,I.loc,I.cell,I.free,I.freeC,I.pin,I.hok,I.len⟩
theorem SP.fX (h:SP (X.mH E) aa D f s'):SP X aa D f s':=by
 cases f with
 | next=>obtain ⟨σ',H',I,q⟩:=h; exact ⟨σ',H',I.fX,q⟩
 | brk=>obtain ⟨σ',H',I,q⟩:=h; exact ⟨σ',H',I.fX,q⟩
 | cont=>obtain ⟨σ',H',I,q⟩:=h; exact ⟨σ',H',I.fX,q⟩
 | ret u=>obtain ⟨v,σ',H',I,r,q⟩:=h; exact ⟨v,σ',H',I.fX,r,q⟩
theorem sW.FQ {st:List Stmt} (h:sW X.FQ st t):sW X st t:=fun aa s σ H D I hw =>
 OO (h aa s σ H D (I.mH _) hw) (fun _ _ q=>q.fX) fun _ _ z=>OZ z
end
section
variable {st:Stmt} {rest:List Stmt}
noncomputable def Ke:TS:=fun D σ H=>D.nx σ H
noncomputable def MC (t u:TS):TS:=fun D σ H=>t { D with nx:=u D } σ H
theorem Dq:sW X [] Ke:=fun _ _ σ H _ I h=>wpAny_execs_nil ⟨σ,H,I,h⟩
theorem zj (h1:PS X st t) (h2:sW X rest u):sW X (st::rest) (MC t u):=by
 intro aa s σ H D I h
 refine wpAny_execs_cons (bC (h1 aa s σ H { D with nx:=u D } I h) fun f s1 q=>?_)
 cases f with
 | next =>
  obtain ⟨σ',H',I',q⟩:=q
  exact h2 aa s1 σ' H' D I' q
 | ret v=>exact q
 | brk=>exact q
 | cont=>exact q
theorem Inv.quiet (I:Inv X aa σ H s):interactive X.env=false:=by simp [interactive,I.ok.kind]
noncomputable def Kf (te:TE):TS:=fun D σ H=>te σ H fun _ H1=>D.nx σ H1
theorem ku (he:PE X e te) (hs:swapsWith e none pos.line X.env=pure false:=by rfl):PS X (.Expr e pos) (Kf te):=by
 intro aa s σ H D I h
 exact wpAny_Expr_any (bC (he aa s σ H _ I h) fun v s1 ⟨x,H1,I1,r1,q1⟩=>⟨σ,H1,I1,q1⟩) I.quiet hs
noncomputable def MD (te:TE):TS:=fun D σ H=>te σ H D.rt
theorem zk (he:PE X e te):PS X (.Return (some e) pos) (MD te):=by
 intro aa s σ H D I h
 exact wpAny_Return_some (bC (he aa s σ H _ I h) fun v s1 ⟨x,H1,I1,r1,q1⟩=>⟨x,σ,H1,I1,r1,q1⟩)
noncomputable def ME (c:TT) (t u:TS):TS:=fun D σ H=>c σ H fun b H1=>if b=true then t D σ H1 else u D σ H1
theorem Kg (hc:PT X c tc) (ha:sW X a t) (hb:sW X b u):PS X (.If c a b pos) (ME tc t u):=by
 intro aa s σ H D I h
 refine wpAny_If (bC (hc aa s σ H _ I h) fun d s1 ⟨H1,I1,q1⟩=>?_)
 cases d with
 | true=>exact ha aa s1 σ H1 D I1 q1
 | false=>exact hb aa s1 σ H1 D I1 q1
end
noncomputable abbrev TG:=V→St→Hp→(St→Hp→Prop)→Prop
noncomputable abbrev Kh:=List V→St→Hp→(St→Hp→Prop)→Prop
noncomputable def PG (X:Cx) (target:Expr) (t:TG):Prop :=
 ∀ (aa:List (Addr×Obj)) (s:Shared) (σ:St) (H:Hp) (v:V) (u:Value) (Q:St→Hp→Prop),Inv X aa σ H s→RelV v u→t v σ H Q →
  wpAny (model X.prog X.w) X.A (assign target X.env u) (fun _ s'=>∃ σ' H',Inv X aa σ' H' s'∧Q σ' H') X.xe s
noncomputable def JY (X:Cx) (ts:List Expr) (t:Kh):Prop :=
 ∀ (aa:List (Addr×Obj)) (s:Shared) (σ:St) (H:Hp) (vs:List V) (us:List Value) (Q:St→Hp→Prop),Inv X aa σ H s→Vals vs us→t vs σ H Q →
  wpAny (model X.prog X.w) X.A (assignInOrder ((assignEach ts X.env).map (·.2)) us) (fun _ s'=>∃ σ' H',Inv X aa σ' H' s'∧Q σ' H') X.xe s
noncomputable abbrev GV:=V→V→V→Hp→(Hp→Prop)→Prop
noncomputable def Kl (X:Cx) (t:GV):Prop :=
 ∀ (aa:List (Addr×Obj)) (s:Shared) (σ:St) (H:Hp) (o i v:V) (ov iv u:Value) (Q:Hp→Prop),Inv X aa σ H s→RelV o ov→RelV i iv→RelV v u→t o i v H Q →
  wpAny (model X.prog X.w) X.A (setItem ov iv u) (fun _ s'=>∃ H',Inv X aa σ H' s'∧Q H') X.xe s
noncomputable abbrev Nt:=V→V→Hp→VK→Prop
noncomputable def Nu (X:Cx) (op:Operator) (t:Nt):Prop :=
 ∀ (aa:List (Addr×Obj)) (s:Shared) (σ:St) (H:Hp) (x y:V) (v u:Value) (Q:VK),Inv X aa σ H s→RelV x v→RelV y u→t x y H Q →
  wpAny (model X.prog X.w) X.A (inplaceOp op v u) (EP X aa σ Q) X.xe s
section
noncomputable def FT (i:Nat):TG:=fun v σ H Q=>Q (σ.set i (some v)) H
theorem vd (hN:X.N.Nodup) (hi:X.N[i]?=some x) (hx:Loc X.env.scope x) (hf:X.fn x=true∨X.env.scope.names.lookup x=some .local:=by first | exact .inl rfl | exact .inr rfl | assumption):PG X (.Name x pos) (FT i):=by
 intro aa s σ H v u Q I r h
 exact wpAny_assign_Name (kQ I hN hi hx r (fun s' I'=>⟨_,H,I',h⟩) hf)
noncomputable def MF:Kh:=fun vs σ H Q=>vs=[]∧Q σ H
noncomputable def Km (t:TG) (u:Kh):Kh:=fun vs σ H Q=>∃ v r,vs=v::r∧t v σ H fun σ' H'=>u r σ' H' Q
theorem Dr:JY X [] MF:=by
 intro aa s σ H vs us Q I r h
 obtain ⟨e,h⟩:=h
 subst e
 cases r
 exact assignInOrder_nil ⟨σ,H,I,h⟩
theorem zm (h1:PG X e t) (h2:JY X es u)
 (hs:(assignEach (e::es) X.env).map (·.2)=assign e X.env::(assignEach es X.env).map (·.2):=by rfl):JY X (e::es) (Km t u):=by
 intro aa s σ H vs us Q I r h
 obtain ⟨v,vr,e1,h⟩:=h
 subst e1
 cases r with
 | cons r rr =>
  rw [hs]
  refine assignInOrder_cons (bC (h1 aa s σ H _ _ _ I r h) fun _ s1 ⟨σ1,H1,I1,q1⟩=>?_)
  exact h2 aa s1 σ1 H1 _ _ Q I1 rr q1
noncomputable def MG (K:NZ) (n:Nat) (t:Kh):TG:=fun v σ H Q=>∃ a xs,v=.ref a∧cY K H a xs∧xs.length=n∧t xs σ H Q
theorem GW (hc:X.calm=true) (h:JY X es t)
 (hn:(assignEach es X.env).length=n:=by rfl) (hst:(assignEach es X.env).findIdx? (·.1)=none:=by rfl):PG X (.Tuple es k pos) (MG X.K n t):=by
 intro aa s σ H v u Q I r hw
 obtain ⟨a,xs,e1,hq,hl,hw⟩:=hw
 subst e1
 cases r
 obtain ⟨its,rv,ht,hz⟩:=I.tuple hq
 refine assign_Tuple_tuple (I.ok.hd hc) ht (by simp [hn,← hl,rv.length]) hst fun h' hx=>?_
 have I1:Inv X aa σ H { s with heap:=h' }:=I.kept (t':=s.toks) fun b o e=>hx b o (OB (N9 e)) e
 exact h aa _ σ H xs _ Q I1 (by simpa using rv) hw
noncomputable def MH (to ti:TE) (t:GV):TG:=fun v σ H Q=>to σ H fun o H1=>ti σ H1 fun i H2=>t o i v H2 fun H3=>Q σ H3
theorem GX (ho:PE X o to) (hi:PE X i ti) (hs:Kl X t)
 (ha:∀ v,assign (.Subscript o i pos) X.env v=(do
   let ov ← holding [v] (eval o X.env)
   let iv ← holding [v,ov] (eval i X.env)
   standAt pos
   holding [v,ov,iv] (setItem ov iv v)
   release [v,ov,iv] []):=by intro _; rfl):PG X (.Subscript o i pos) (MH to ti t):=by
 intro aa s σ H v u Q I r h
 rw [ha]
 refine NX (Pc (bC (ho aa s σ H _ I h) fun ov s1 ⟨x,H1,I1,r1,q1⟩=>?_))
 refine NX (Pc (bC (hi aa s1 σ H1 _ I1 q1) fun iv s2 ⟨y,H2,I2,r2,q2⟩=>?_))
 refine NX (wpAny_standAt (NX (Pc (bC (hs aa s2 σ H2 x y v ov iv u _ I2 r1 r2 r q2) fun _ s3 ⟨H3,I3,q3⟩=>?_))))
 exact wpAny_release ⟨σ,H3,I3,q3⟩
noncomputable def Kn (te:TE) (g:TG):TS:=fun D σ H=>te σ H fun x H1=>g x σ H1 D.nx
theorem zp (he:PE X e te) (hg:PG X tg g) (hs:swapsWithSole [tg] e pos.line X.env=pure false:=by rfl) (hw:swappedStores [tg] e X.env=pure none:=by rfl)
 (h1:(assignEach [tg] X.env).map (·.2)=[assign tg X.env]:=by rfl):PS X (.Assign [tg] e pos) (Kn te g):=by
 intro aa s σ H D I h
 refine wpAny_Assign_stores (bC (he aa s σ H _ I h) fun v s1 ⟨x,H1,I1,r1,q1⟩=>?_) hs hw
 rw [h1]
 exact bC (hg aa s1 σ H1 x v _ I1 r1 q1) fun _ s2 q=>q
theorem GY (hN:X.N.Nodup) (hi:X.N[i]?=some x) (hx:Loc X.env.scope x) (he:PE X e te) (hs:swapsWith e (some (.Name x pos')) pos.line X.env=pure false:=by rfl) (hf:X.fn x=true∨X.env.scope.names.lookup x=some .local:=by first | exact .inl rfl | exact .inr rfl | assumption) :
 PS X (.Assign [.Name x pos'] e pos) (Kn te (FT i)):=by
 intro aa s σ H D I h
 refine wpAny_Assign_Name (bC (he aa s σ H _ I h) fun v s1 ⟨y,H1,I1,r1,q1⟩=>?_) hs
 exact kQ I1 hN hi hx r1 (fun s2 I2=>⟨_,H1,I2,q1⟩) hf
noncomputable def MI (i:Nat) (te:TE) (ti:Nt):TS:=fun D σ H=>∃ x,σ[i]?=some (some x)∧te σ H fun y H1=>ti x y H1 fun z H2=>D.nx (σ.set i (some z)) H2
theorem GZ (hN:X.N.Nodup) (hi:X.N[i]?=some x) (hx:Loc X.env.scope x) (he:PE X e te) (ho:Nu X op ti) (hf:X.fn x=true∨X.env.scope.names.lookup x=some .local:=by first | exact .inl rfl | exact .inr rfl | assumption) :
 PS X (.AugAssign (.Name x pos') op e pos) (MI i te ti):=by
 intro aa s σ H D I h
 obtain ⟨v,e1,h⟩:=h
 obtain ⟨m,hn,hl⟩:=I.loc
 have vis:Mw X.env.scope x:=by rcases hx with k | k; exact .inl k; exact .inr (.inl k)
 obtain ⟨u,r,l⟩:=hl i x v hi e1 vis
 refine wpAny_AugAssign_Name ?_
 have go:wpAny (model X.prog X.w) X.A (eval e X.env) (fun w s₂=>wpAny (model X.prog X.w) X.A (inplaceOp op u w) (fun r s₃=>wpAny (model X.prog X.w) X.A (storeName X.env x r) (fun _=>SP X aa D .next) X.xe s₃) X.xe s₂) X.xe s:=by
  refine bC (he aa s σ H _ I h) fun w s1 ⟨y,H1,I1,r1,q1⟩=>?_
  refine bC (ho aa s1 σ H1 v y u w _ I1 r r1 q1) fun z s2 ⟨zv,H2,I2,r2,q2⟩=>?_
  exact kQ I2 hN hi hx r2 (fun s3 I3=>⟨_,H2,I3,q2⟩) hf
 rcases l with ⟨hk,hm⟩ | ⟨hk,c,hc,hcell⟩
 ·exact wpAny_loadName_local I.ok.kind hk hn hm go
 ·rcases hk with hk | hk
  ·exact wpAny_loadName_cell I.ok.kind hk hc hcell go
  ·rcases hx with k | k
   ·have:X.env.scope.names.lookup x=some .free:=hk
    rw [k] at this; cases this
   ·have:X.env.scope.names.lookup x=some .free:=hk
    rw [k] at this; cases this
noncomputable def G0 (c:TT) (tb:TS):TS:=fun D σ H=>∃ W:Nat→St→Hp→Prop,(∃ m,W m σ H)∧∀ m σ H,W m σ H →
 c σ H fun b H1=>if b=true then ∃ N:St→Hp→Prop,(∀ σ' H',N σ' H'→∃ m',m'<m∧W m' σ' H')∧tb { D with nx:=N,ct:=N,bk:=D.nx } σ H1 else D.nx σ H1
theorem zq (hp:PassesOwn (model X.prog X.w) X.A X.env X.xe) (hc:PT X c tc) (hb:sW X body tb):PS X (.While c body [] pos) (G0 tc tb):=by
 intro aa s σ H D I h
 obtain ⟨W,⟨m0,w0⟩,turn⟩:=h
 refine wpAny_While (codeAny_whileLoop (fun n s'=>∃ σ' H',Inv X aa σ' H' s'∧W n σ' H') ?_ m0 ⟨σ,H,I,w0⟩)
 rintro n s1 ⟨σ1,H1,I1,w1⟩
 refine QD hp (bC (hc aa s1 σ1 H1 _ I1 (turn n σ1 H1 w1)) fun b s2 ⟨H2,I2,q2⟩=>?_)
 cases b with
 | true =>
  obtain ⟨N,hN,q2⟩:=q2
  rw [if_pos rfl]
  refine QD hp (bC (hb aa s2 σ1 H2 _ I2 q2) fun f s3 q3=>?_)
  cases f with
  | next =>
   obtain ⟨σ3,H3,I3,n3⟩:=q3
   obtain ⟨m',hm,w3⟩:=hN σ3 H3 n3
   exact ⟨m',hm,σ3,H3,I3,w3⟩
  | cont =>
   obtain ⟨σ3,H3,I3,n3⟩:=q3
   obtain ⟨m',hm,w3⟩:=hN σ3 H3 n3
   exact ⟨m',hm,σ3,H3,I3,w3⟩
  | brk=>exact q3
  | ret v=>exact q3
 | false =>
  rw [if_neg Oc]
  exact wpAny_execs_nil ⟨σ1,H2,I2,q2⟩
end
structure It where
 go:Nat→Hp→Prop
 yld:Nat→Hp→V→Hp→Prop
 stop:Nat→Hp→Prop
noncomputable def fY (X:Cx) (aa:List (Addr×Obj)) (H:Hp) (b:Addr):Prop :=
 H b=none∧b≠X.env.locals∧b∉X.fs∧(b∈X.ex∨X.s₀.heap.objs.size≤b)∧(∀ x c,X.env.cells.lookup x=some c→c≠b)∧∀ p∈X.pn++aa,p.1≠b
theorem Inv.mJ (I:Inv X aa σ H s) (hb:s.heap.objs.size≤b) (hn:H' b=none):fY X aa H' b:=by
 refine ⟨hn,Q8 (OU I.lt hb),I.J9 hb,.inr (N8 I.sz hb),fun x c e z=>?_,fun p hp z=>?_⟩
 ·obtain ⟨v,q⟩:=I.cell x c e
  exact absurd (OU q.lt (by rw [z]; exact hb)) (PB _)
 ·exact absurd (OU (N9 (I.pin p hp).1) (by rw [z]; exact hb)) (PB _)
structure Turn (P:Program) (w:World) (K:NZ) (tg:Expr) (J:It) (fp:List Addr) (it:Addr) (tn:Nat→Heap→Prop):Prop where
 mem:it∈fp
 obj:∀ i h,tn i h→∀ b∈fp,∃ o,h.get? b=some o∧∀ v,o.data≠.cell v
 keep:∀ i h h',tn i h→(∀ b∈fp,∀ o,h.get? b=some o→h'.get? b=some o)→tn i h'
 item:∀ (X:Cx),X.prog=P→X.w=w→X.K=K→X.calm=true→∀ (i:Nat) (aa:List (Addr×Obj)) (s:Shared) (σ:St) (H:Hp) (E:Value→Shared→Prop),Inv X aa σ H s→(∀ b∈fp,fY X aa H b)→tn i s.heap→J.go i H →
  wpAny (model P w) X.A (pyNext (.ref it)) (fun r s1=>∃ u,r=some u ∧
   wpAny (model P w) X.A (letOwnedTupleGo tg (.ref it) u) (fun _ s2=>∃ x H',Inv X aa σ H' s2∧RelV x u∧J.yld i H x H'∧tn (i+1) s2.heap∧∀ b∈fp,H' b=none) E s1) E s
 done:∀ (X:Cx),X.prog=P→X.w=w→X.K=K→X.calm=true→∀ (i:Nat) (aa:List (Addr×Obj)) (s:Shared) (σ:St) (H:Hp) (E:Value→Shared→Prop),Inv X aa σ H s→(∀ b∈fp,fY X aa H b)→tn i s.heap→J.stop i H →
  wpAny (model P w) X.A (pyNext (.ref it)) (fun r s1=>r=none∧Inv X aa σ H s1) E s
 self:∀ (A:Around) (i:Nat) (s:Shared) (Q:Value→Shared→Prop) (E:Value→Shared→Prop),tn i s.heap→Q (.ref it) s→wpAny (model P w) A (pyIter (.ref it)) Q E s
noncomputable abbrev TI:=St→Hp→(It→Hp→Prop)→Prop
noncomputable def MJ (X:Cx) (aa:List (Addr×Obj)) (σ:St) (tg:Expr) (R:It→Hp→Prop) (itv:Value) (s2:Shared):Prop :=
 ∃ (it:Addr) (fp:List Addr) (tn:Nat→Heap→Prop) (J:It) (H':Hp),itv=.ref it∧Inv X aa σ H' s2∧Turn X.prog X.w X.K tg J fp it tn∧tn 0 s2.heap∧(∀ b∈fp,fY X aa H' b)∧R J H'
noncomputable def PI (X:Cx) (tg iter:Expr) (wi:TI):Prop :=
 ∀ (aa:List (Addr×Obj)) (s:Shared) (σ:St) (H:Hp) (R:It→Hp→Prop),Inv X aa σ H s→wi σ H R →
  wpAny (model X.prog X.w) X.A (eval iter X.env) (fun v s1=>wpAny (model X.prog X.w) X.A (pyIter v) (MJ X aa σ tg R) X.xe s1) X.xe s
theorem m9 (ho:s.heap.get? it=some o) (hc:o.cls=.type n) (hd:o.data=.fields vs)
 (hn:["enumerate","zip","dict_itemiterator","dict_reverseitemiterator","odict_iterator","itertools.zip_longest","itertools.pairwise"].contains n=false) (hQ:Q () s):wpAny M A (letOwnedTupleGo tg (.ref it) u) Q E s:=by
 unfold letOwnedTupleGo
 cases tg <;> first
  | exact N1 hQ
  | (cases u <;> first
      | exact N1 hQ
      | (refine NX (wpAny_load ho ?_)
         rw [hc,hd]
         show wpAny M A (if (["enumerate","zip","dict_itemiterator","dict_reverseitemiterator","odict_iterator","itertools.zip_longest","itertools.pairwise"].contains n && vs[0]? == some (rawInt _))=true then _ else _) Q E s
         rw [if_neg (by intro h; rw [hn,Bool.false_and] at h; cases h)]
         exact N1 hQ))
noncomputable def MK (K:NZ) (a:Addr):It :=
 ⟨fun i H=>∃ xs x,gO K H a xs∧xs[i]?=some x,fun i H x H'=>H'=H∧∀ xs,gO K H a xs→xs[i]?=some x,fun i H=>∃ xs,gO K H a xs∧xs.length≤i⟩
noncomputable def ML (K:NZ) (a:Addr):It :=
 ⟨fun i H=>∃ xs x,cY K H a xs∧xs[i]?=some x,fun i H x H'=>H'=H∧∀ xs,cY K H a xs→xs[i]?=some x,fun i H=>∃ xs,cY K H a xs∧xs.length≤i⟩
noncomputable def Mj (lo:Int) (n:Nat):It:=⟨fun i _=>i<n,fun i H x H'=>H'=H∧x=.int (lo+i),fun i _=>n≤i⟩
theorem xx {P:Program} {w:World} {K:NZ} {tg:Expr} (a it:Addr):Turn P w K tg (MK K a) [it] it (fun i h=>h.IsListIter it a i) where
 mem:=by simp
 obj:=fun i h st b hb=>by
  have e:b=it:=by simpa using hb
  subst e
  obtain ⟨o,e,c,d⟩:=st
  exact ⟨o,e,fun v z=>by rw [d] at z; cases z⟩
 keep:=fun i h h' st k=>st.at fun o e=>k it (by simp) o e
 item:=by
  intro X hP hw hK hc i aa s σ H E I hf st hg
  subst hP hw hK
  obtain ⟨xs,x,hq,hx⟩:=hg
  obtain ⟨its,rv,p,hz⟩:=I.list hq
  obtain ⟨u,hu,ru⟩:=rv.get hx
  obtain ⟨f0,f1,f2,f3,f4,f5⟩:=hf it (by simp)
  refine wpAny_pyNext_list_item st p.isList (x:=u) (by simpa using hu) fun h' st' sb=>?_
  have I1:Inv X aa σ H { s with heap:=h' }:=I.turned (t':=s.toks) (fun b o hb e=>(sb.2 b hb).trans e) f0 f1 f3 f4 f5
  obtain ⟨o,e,c,d⟩:=id st'
  exact ⟨u,rfl,m9 (s:={ s with heap:=h' }) e c d (by decide) ⟨x,H,I1,ru,⟨rfl,fun ys hy=>by rw [I.qg hy hq]; exact hx⟩,st',fun b hb=>(hf b hb).1⟩⟩
 done:=by
  intro X hP hw hK hc i aa s σ H E I hf st hg
  subst hP hw hK
  obtain ⟨xs,hq,hx⟩:=hg
  obtain ⟨its,rv,p,hz⟩:=I.list hq
  obtain ⟨f0,f1,f2,f3,f4,f5⟩:=hf it (by simp)
  have hl:=rv.length
  exact wpAny_pyNext_list_end (I.ok.hd hc) st p.isList (by simp; lia) fun h' eb=>⟨rfl,I.turned (t':=s.toks) (fun b o hb e=>eb b o hb e) f0 f1 f3 f4 f5⟩
 self:=fun _ _ _ _ _ st h=>wpAny_pyIter_listiter st h
theorem tw {P:Program} {w:World} {K:NZ} {tg:Expr} (a it:Addr):Turn P w K tg (ML K a) [it] it (fun i h=>h.IsTupleIter it a i) where
 mem:=by simp
 obj:=fun i h st b hb=>by
  have e:b=it:=by simpa using hb
  subst e
  obtain ⟨o,e,c,d⟩:=st
  exact ⟨o,e,fun v z=>by rw [d] at z; cases z⟩
 keep:=fun i h h' st k=>st.at fun o e=>k it (by simp) o e
 item:=by
  intro X hP hw hK hc i aa s σ H E I hf st hg
  subst hP hw hK
  obtain ⟨xs,x,hq,hx⟩:=hg
  obtain ⟨its,rv,p,hz⟩:=I.tuple hq
  obtain ⟨u,hu,ru⟩:=rv.get hx
  obtain ⟨f0,f1,f2,f3,f4,f5⟩:=hf it (by simp)
  refine wpAny_pyNext_tuple_item st (show s.heap.IsTuple a its.toArray from p) (x:=u) (by simpa using hu) fun h' st' sb=>?_
  have I1:Inv X aa σ H { s with heap:=h' }:=I.turned (t':=s.toks) (fun b o hb e=>(sb.2 b hb).trans e) f0 f1 f3 f4 f5
  obtain ⟨o,e,c,d⟩:=id st'
  exact ⟨u,rfl,m9 (s:={ s with heap:=h' }) e c d (by decide) ⟨x,H,I1,ru,⟨rfl,fun ys hy=>by rw [I.jv hy hq]; exact hx⟩,st',fun b hb=>(hf b hb).1⟩⟩
 done:=by
  intro X hP hw hK hc i aa s σ H E I hf st hg
  subst hP hw hK
  obtain ⟨xs,hq,hx⟩:=hg
  obtain ⟨its,rv,p,hz⟩:=I.tuple hq
  obtain ⟨f0,f1,f2,f3,f4,f5⟩:=hf it (by simp)
  have hl:=rv.length
  exact wpAny_pyNext_tuple_end (I.ok.hd hc) st (show s.heap.IsTuple a its.toArray from p) (by simp; lia) fun h' eb=>⟨rfl,I.turned (t':=s.toks) (fun b o hb e=>eb b o hb e) f0 f1 f3 f4 f5⟩
 self:=fun _ _ _ _ _ st h=>wpAny_pyIter_tupleiter st h
theorem tD {P:Program} {w:World} {K:NZ} {tg:Expr} (it:Addr) (lo:Int) (n:Nat):Turn P w K tg (Mj lo n) [it] it (fun i h=>IsRangeIter h it (lo+(i:Nat) * 1) ((n:Int) - (i:Nat)) 1) where
 mem:=by simp
 obj:=fun i h st b hb=>by
  have e:b=it:=by simpa using hb
  subst e
  exact ⟨_,st,fun v z=>by
   have z':Tc _=Data.cell v:=z
   cases z'⟩
 keep:=fun i h h' st k=>k it (by simp) _ st
 item:=by
  intro X hP hw hK hc i aa s σ H E I hf st hg
  subst hP hw hK
  obtain ⟨f0,f1,f2,f3,f4,f5⟩:=hf it (by simp)
  have W:=Walks.range (prog:=X.prog) (w:=X.w) (I.ok.hd hc) it lo 1 n
  refine W.item i s _ _ hg st fun v h' tk hv st' kk=>?_
  obtain ⟨t,rfl⟩:=hv
  have I1:Inv X aa σ H { s with heap:=h',toks:=tk }:=I.turned (fun b o hb e=>kk b o (by simpa using hb) e) f0 f1 f3 f4 f5
  refine ⟨_,rfl,m9 (s:={ s with heap:=h',toks:=tk }) (n:="range_iterator") st' rfl rfl (by decide) ⟨.int (lo+i),H,I1,⟨t,?_⟩,⟨rfl,rfl⟩,st',fun b hb=>(hf b hb).1⟩⟩
  rw [Int.mul_one]
 done:=by
  intro X hP hw hK hc i aa s σ H E I hf st hg
  subst hP hw hK
  obtain ⟨f0,f1,f2,f3,f4,f5⟩:=hf it (by simp)
  exact wpAny_pyNext_range_end (I.ok.hd hc) st (by have:n≤i:=hg; lia) fun h' eb=>⟨rfl,I.turned (t':=s.toks) (fun b o hb e=>eb b o hb e) f0 f1 f3 f4 f5⟩
 self:=fun _ _ _ _ _ st h=>wpAny_pyIter_rangeiter st h
section
theorem zu {lo hi:Int} (I:Inv X aa σ H s) (h1: -(2 ^ 62)≤lo) (h2:lo<2 ^ 62) (h3: -(2 ^ 62)≤hi) (h4:hi<2 ^ 62)
 (q:R (Mj lo (hi - lo).toNat) H):wpAny (model X.prog X.w) X.A (pyIter (.ref s.heap.objs.size)) (MJ X aa σ tg R) E { s with heap:=s.heap.push { cls:=.type "range",data:=.fields #[.int lo t,.int hi u,.int 1 v] },toks:=tk }:=by
 refine wpAny_pyIter_range (IsRange.new ..) (small_one h1 h2 h3 h4) ?_
 have I1:Inv X aa σ H { s with heap:=s.heap.push { cls:=.type "range",data:=.fields #[.int lo t,.int hi u,.int 1 v] },toks:=tk }:=I.kept fun b o e=>N7 _ e
 refine ⟨(s.heap.push { cls:=.type "range",data:=.fields #[.int lo t,.int hi u,.int 1 v] }).objs.size,[(s.heap.push { cls:=.type "range",data:=.fields #[.int lo t,.int hi u,.int 1 v] }).objs.size],_,_,H,rfl,
  I1.kept (t':=tk) fun b o e=>N7 _ e,tD _ lo (hi - lo).toNat,?_,fun b hb=>?_,q⟩
 ·have e1:lo+((0:Nat):Int) * 1=lo:=by simp
  have e2:(((hi - lo).toNat:Nat):Int) - ((0:Nat):Int)=R6 lo hi 1:=by rw [rangeSize_one]; split <;> lia
  show IsRangeIter _ _ (lo+((0:Nat):Int) * 1) ((((hi - lo).toNat:Nat):Int) - ((0:Nat):Int)) 1
  rw [e1,e2]
  exact Oj _ rfl
 ·have e:b=(s.heap.push { cls:=.type "range",data:=.fields #[.int lo t,.int hi u,.int 1 v] }).objs.size:=by simpa using hb
  subst e
  exact I1.mJ (N2 _) (I1.hok.fresh (N2 _))
noncomputable def Ko (ta:TA):TI:=fun σ H R=>ta σ H fun vs H1=>∃ j:Int,vs=[.int j]∧ -(2 ^ 62)≤j∧j<2 ^ 62∧R (Mj 0 j.toNat) H1
theorem xy (hg:Gl X "range") (hm:X.mg "range"=none) (ha:PA X [a] ta) (hs:starEach [a] X.env=[(false,eval a X.env)]:=by rfl):PI X tg (.Call (.Name "range" p) [a] [] pos) (Ko ta):=by
 intro aa s σ H R I h
 refine Call_ (dB I hg hm boot_range (Rh (bC (ha pos aa s σ H _ I h) fun us s1 ⟨vs,H1,I1,r1,q1⟩=>?_) hs rfl))
 obtain ⟨j,e,q1,q2,q⟩:=q1
 subst e
 cases r1 with
 | cons r rr =>
  cases rr
  obtain ⟨t,rfl⟩:=r
  exact call_range_1 (zu I1 (by lia) (by lia) q1 q2 (by simpa using q))
noncomputable def MM (wi:TI) (g:TG) (tb:TS):TS:=fun D σ H=>wi σ H fun J H1=>∃ W:Nat→Nat→St→Hp→Prop,(∃ m,W 0 m σ H1)∧∀ i m σ H,W i m σ H →
 (J.stop i H∧D.nx σ H)∨(J.go i H∧∃ N:St→Hp→Prop,(∀ σ' H',N σ' H'→∃ m',m'<m∧W (i+1) m' σ' H')∧∀ x H',J.yld i H x H'→g x σ H' fun σ2 H2=>tb { D with nx:=N,ct:=N,bk:=D.nx } σ2 H2)
noncomputable def kR (fp:List Addr) (h:Heap):List (Addr×Obj):=fp.filterMap fun b=>(h.get? b).map fun o=>(b,o)
theorem fu (hb:b∈fp) (e:h.get? b=some o):(b,o)∈kR fp h:=List.mem_filterMap.mpr ⟨b,hb,by rw [e]; rfl⟩
theorem xA (hp:p∈kR fp h):p.1∈fp∧h.get? p.1=some p.2:=by
 obtain ⟨b,hb,e⟩:=List.mem_filterMap.mp hp
 cases q:h.get? b with
 | none=>rw [q] at e; cases e
 | some o =>
  rw [q] at e
  have e':(b,o)=p:=Py e
  subst e'
  exact ⟨hb,q⟩
theorem Inv.pinned (I:Inv X aa σ H s) (hf:∀ b∈fp,fY X aa H b) (ho:∀ b∈fp,∃ o,s.heap.get? b=some o∧∀ v,o.data≠.cell v):Inv X (aa++kR fp s.heap) σ H s :=
 I.u9 fun p hp=>(Oz.mp hp).elim (fun z=>I.pin p (Pf _ z)) fun z=>by
  obtain ⟨hb,e⟩:=xA z
  obtain ⟨f0,f1,f2,_⟩:=hf p.1 hb
  obtain ⟨o,e',d⟩:=ho p.1 hb
  rw [e] at e'; cases e'
  exact ⟨e,f0,f1,f2,d⟩
theorem Inv.fZ (I:Inv X (aa++pl) σ H s):Inv X aa σ H s:=I.u9 fun p hp=>I.pin p (Pf _ (Qy _ hp))
theorem G1 (hp:PassesOwn (model X.prog X.w) X.A X.env X.xe) (hc:X.calm=true) (hi:PI X tg iter wi) (hg:PG X tg g) (hb:sW X body tb)
 (hs:∀ x,foldedSetIterable iter X.env x=pure x:=by intro _; rfl):PS X (.For tg iter body [] pos) (MM wi g tb):=by
 intro aa s σ H D I h
 refine wpAny_For (bC (hi aa s σ H _ I h) fun v s1 h1=>bC h1 fun itv s2 h2=>?_) hs
 obtain ⟨it,fp,tn,J,H2,e,I2,T,st2,f2,W,⟨m0,w0⟩,turn⟩:=h2
 subst e
 have stat:∀ {H':Hp},(∀ b∈fp,H' b=none)→∀ b∈fp,fY X aa H' b:=fun hn b hb=>⟨hn b hb,(f2 b hb).2⟩
 refine codeAny_forLoop_any (fun n s'=>∃ i σ' H',Inv X aa σ' H' s'∧tn i s'.heap∧(∀ b∈fp,H' b=none)∧W i n σ' H') ?_ m0 ⟨0,σ,H2,I2,st2,fun b hb=>(f2 b hb).1,w0⟩
 rintro n s3 ⟨i,σ3,H3,I3,st3,fr3,w3⟩
 rcases turn i n σ3 H3 w3 with ⟨stop,qn⟩ | ⟨go,N,hN,step⟩
 ·refine QD hp (bC (T.done X rfl rfl rfl hc i aa s3 σ3 H3 X.xe I3 (stat fr3) st3 stop) fun r s4 ⟨hr,I4⟩=>?_)
  subst hr
  exact wpAny_execs_nil ⟨σ3,H3,I4,qn⟩
 ·refine QD hp (bC (T.item X rfl rfl rfl hc i aa s3 σ3 H3 X.xe I3 (stat fr3) st3 go) fun r s4 ⟨u,hr,h4⟩=>?_)
  subst hr
  refine QD hp (bC h4 fun _ s5 ⟨x,H5,I5,r5,y5,st5,fr5⟩=>?_)
  have I5':=I5.pinned (stat fr5) (T.obj _ _ st5)
  refine QD hp (bC (hg _ s5 σ3 H5 x u _ I5' r5 (step x H5 y5)) fun _ s6 ⟨σ6,H6,I6,q6⟩=>?_)
  refine QD hp (bC (hb _ s6 σ6 H6 _ I6 q6) fun f s7 q7=>?_)
  have again:∀ {σ7:St} {H7:Hp},Inv X (aa++kR fp s5.heap) σ7 H7 s7→N σ7 H7→∃ m,m<n∧∃ i σ' H',Inv X aa σ' H' s7∧tn i s7.heap∧(∀ b∈fp,H' b=none)∧W i m σ' H':=fun {σ7 H7} I7 n7=>by
   obtain ⟨m',hm,w7⟩:=hN σ7 H7 n7
   refine ⟨m',hm,i+1,σ7,H7,I7.fZ,T.keep _ _ _ st5 fun b hb o e=>(I7.pin (b,o) (Pf _ (Pf _ (fu hb e)))).1,fun b hb=>?_,w7⟩
   obtain ⟨o,e,d⟩:=T.obj _ _ st5 b hb
   exact (I7.pin (b,o) (Pf _ (Pf _ (fu hb e)))).2.1
  cases f with
  | next=>obtain ⟨σ7,H7,I7,n7⟩:=q7; exact again I7 n7
  | cont=>obtain ⟨σ7,H7,I7,n7⟩:=q7; exact again I7 n7
  | brk=>obtain ⟨σ7,H7,I7,q7⟩:=q7; exact ⟨σ7,H7,I7.fZ,q7⟩
  | ret v=>obtain ⟨x7,σ7,H7,I7,r7,q7⟩:=q7; exact ⟨x7,σ7,H7,I7.fZ,r7,q7⟩
end
noncomputable abbrev R2:=V→V→Hp→VK→Prop
noncomputable def fm (X:Cx) (f:Value→Value→Sem Value) (r:R2):Prop :=
 ∀ (aa:List (Addr×Obj)) (s:Shared) (σ:St) (H:Hp) (x y:V) (v u:Value) (Q:VK),Inv X aa σ H s→RelV x v→RelV y u→r x y H Q →
  wpAny (model X.prog X.w) X.A (f v u) (EP X aa σ Q) X.xe s
noncomputable def MN (X:Cx) (f:Value→Sem Value) (r:V→Hp→VK→Prop):Prop :=
 ∀ (aa:List (Addr×Obj)) (s:Shared) (σ:St) (H:Hp) (x:V) (v:Value) (Q:VK),Inv X aa σ H s→RelV x v→r x H Q →
  wpAny (model X.prog X.w) X.A (f v) (EP X aa σ Q) X.xe s
noncomputable def f9 (X:Cx) (f:Value) (r:List V→Hp→VK→Prop):Prop :=
 ∀ (aa:List (Addr×Obj)) (s:Shared) (σ:St) (H:Hp) (xs:List V) (us:List Value) (Q:VK),Inv X aa σ H s→Vals xs us→r xs H Q →
  wpAny (model X.prog X.w) X.A (call f us) (EP X aa σ Q) X.xe s
noncomputable def Ml (r:R2) (ta tb:TE):TE:=fun σ H Q=>ta σ H fun x H1=>tb σ H1 fun y H2=>r x y H2 Q
noncomputable def NI (r:V→Hp→VK→Prop) (ta:TE):TE:=fun σ H Q=>ta σ H fun x H1=>r x H1 Q
noncomputable def rI (C:Int→Int→Prop) (g:Int→Int→V):R2:=fun x y H Q=>∃ i j,x=.int i∧y=.int j∧C i j∧Q (g i j) H
noncomputable def ve (g:Int→Int→V):R2:=fun x y H Q=>∃ i j,x=.int i∧y=.int j∧Q (g i j) H
noncomputable def rU (g:Int→V):V→Hp→VK→Prop:=fun x H Q=>∃ i,x=.int i∧Q (g i) H
section
theorem G2 (ha:PE X a ta) (hb:PE X b tb) {R:V→V→Hp→Prop} (I:Inv X aa σ H s)
 (h:ta σ H fun x H1=>tb σ H1 fun y H2=>R x y H2) {f:Value→Value→Sem Value}
 (hf:∀ v u s2 x y H2,Inv X aa σ H2 s2→RelV x v→RelV y u→R x y H2→wpAny (model X.prog X.w) X.A (f v u) Q X.xe s2) :
 wpAny (model X.prog X.w) X.A (eval a X.env) (fun v s₁=>wpAny (model X.prog X.w) X.A (eval b X.env) (fun u s₂=>wpAny (model X.prog X.w) X.A (f v u) Q X.xe s₂) X.xe s₁) X.xe s:=by
 refine bC (ha aa s σ H _ I h) fun v s1 ⟨x,H1,I1,r1,q1⟩=>?_
 refine bC (hb aa s1 σ H1 _ I1 q1) fun u s2 ⟨y,H2,I2,r2,q2⟩=>?_
 exact hf v u s2 x y H2 I2 r1 r2 q2
theorem zw (ho:fm X (binaryOp op) r) (ha:PE X a ta) (hb:PE X b tb):PE X (.BinOp a op b pos) (Ml r ta tb):=by
 intro aa s σ H Q I h
 exact wpAny_BinOp (G2 ha hb I h fun v u s2 x y H2 I2 rx ry q=>ho aa s2 σ H2 x y v u Q I2 rx ry q)
theorem Kp (ho:MN X (unaryOp op) r) (ha:PE X a ta):PE X (.UnaryOp op a pos) (NI r ta):=by
 intro aa s σ H Q I h
 exact UnaryOp_ (bC (ha aa s σ H _ I h) fun v s1 ⟨x,H1,I1,r1,q1⟩=>ho aa s1 σ H1 x v Q I1 r1 q1)
theorem JZ {g:Int→Int→Int}
 (rule:∀ (i j:Int) (t u:Tok) (s:Shared) (Q:Value→Shared→Prop) (E:Value→Shared→Prop),C i j→Q (.int (g i j) s.toks) { s with toks:=s.toks+1 }→wpAny (model X.prog X.w) X.A (f (.int i t) (.int j u)) Q E s) :
 fm X f (rI C fun i j=>.int (g i j)):=by
 intro aa s σ H x y v u Q I rx ry h
 obtain ⟨i,j,rfl,rfl,hc,q⟩:=h
 obtain ⟨t,rfl⟩:=rx
 obtain ⟨t',rfl⟩:=ry
 exact rule i j t t' s _ _ hc ⟨.int (g i j),H,I.tok _,⟨_,rfl⟩,q⟩
theorem zz {g:Int→Int→Int}
 (rule:∀ (i j:Int) (t u:Tok) (s:Shared) (Q:Value→Shared→Prop) (E:Value→Shared→Prop),Q (.int (g i j) s.toks) { s with toks:=s.toks+1 }→wpAny (model X.prog X.w) X.A (f (.int i t) (.int j u)) Q E s) :
 fm X f (ve fun i j=>.int (g i j)):=by
 intro aa s σ H x y v u Q I rx ry h
 obtain ⟨i,j,rfl,rfl,q⟩:=h
 obtain ⟨t,rfl⟩:=rx
 obtain ⟨t',rfl⟩:=ry
 exact rule i j t t' s _ _ ⟨.int (g i j),H,I.tok _,⟨_,rfl⟩,q⟩
theorem G3 {g:Int→Int→Bool}
 (rule:∀ (i j:Int) (t u:Tok) (s:Shared) (Q:Value→Shared→Prop) (E:Value→Shared→Prop),Q (.bool (g i j)) s→wpAny (model X.prog X.w) X.A (f (.int i t) (.int j u)) Q E s) :
 fm X f (ve fun i j=>.bl (g i j)):=by
 intro aa s σ H x y v u Q I rx ry h
 obtain ⟨i,j,rfl,rfl,q⟩:=h
 obtain ⟨t,rfl⟩:=rx
 obtain ⟨t',rfl⟩:=ry
 exact rule i j t t' s _ _ ⟨.bl (g i j),H,I,rfl,q⟩
noncomputable def tE (i j:Int):Prop:=0≤j∧j≤1000000∧i.natAbs<2 ^ 64
theorem tF (k):(0:Int)≤2 ^ k:=by
 rw [two_pow_cast]
 exact Int.natCast_nonneg _
theorem G4:fm X (binaryOp .Add) (ve fun i j=>.int (i+j)):=zz fun _ _ _ _ _ _ _ q=>add_int q
theorem G5:fm X (binaryOp .Sub) (ve fun i j=>.int (i - j)):=zz fun _ _ _ _ _ _ _ q=>sub_int q
theorem G6:fm X (binaryOp .Mod) (rI (fun _ j=>0<j) fun i j=>.int (i % j)):=JZ fun i j _ _ _ _ _ hc q=>by
 have h1:(0:Int)<j:=hc
 exact mod_int' (by lia) (by rw [Int.fmod_eq_emod_of_nonneg i (by lia)]; exact q)
theorem G7:fm X (binaryOp .Pow) (rI tE fun i j=>.int (i ^ j.toNat)):=JZ fun _ _ _ _ _ _ _ hc q=>pow_int_small hc.1 hc.2.1 hc.2.2 q
theorem G8:fm X (binaryOp .LShift) (rI tE fun i j=>.int (i * 2 ^ j.toNat)):=JZ fun _ _ _ _ _ _ _ hc q=>lshift_int_small hc.1 hc.2.1 hc.2.2 q
theorem G9:fm X (binaryOp .RShift) (rI (fun _ j=>0≤j) fun i j=>.int (i / 2 ^ j.toNat)):=JZ fun i j _ _ _ _ _ hc q =>
 rshift_int hc (by rw [Int.fdiv_eq_ediv_of_nonneg i (tF _)]; exact q)
theorem Hg:fm X (binaryOp .BitAnd) (ve fun i j=>.int (Builtin.bitAnd i j)):=zz fun _ _ _ _ _ _ _ q=>and_int q
theorem Ds:fm X (inplaceOp .Add) (ve fun i j=>.int (i+j)):=zz fun _ _ _ _ _ _ _ q=>iadd_int q
theorem Dt:fm X (inplaceOp .Sub) (ve fun i j=>.int (i - j)):=zz fun _ _ _ _ _ _ _ q=>isub_int q
theorem NJ {g:Int→Int}
 (rule:∀ (i:Int) (t:Tok) (s:Shared) (Q:Value→Shared→Prop) (E:Value→Shared→Prop),Q (.int (g i) s.toks) { s with toks:=s.toks+1 }→wpAny (model X.prog X.w) X.A (f (.int i t)) Q E s) :
 MN X f (rU fun i=>.int (g i)):=by
 intro aa s σ H x v Q I rx h
 obtain ⟨i,rfl,q⟩:=h
 obtain ⟨t,rfl⟩:=rx
 exact rule i t s _ _ ⟨.int (g i),H,I.tok _,⟨_,rfl⟩,q⟩
theorem Hh:MN X (unaryOp .USub) (rU fun i=>.int (-i)):=NJ fun _ _ _ _ _ q=>neg_int q
end
noncomputable def Du:V→V→Bool
 | .non,.non=>true | .non,.int _=>true | .int _,.non=>true | .non,.bl _=>true | .bl _,.non=>true | .non,.str _=>true | .str _,.non=>true
 | .int _,.int _=>true | .bl _,.bl _=>true | .str _,.str _=>true | .byt _,.byt _=>true
 | .int _,.str _=>true | .str _,.int _=>true | .bl _,.str _=>true | .str _,.bl _=>true
 | _,_=>false
noncomputable def NK:R2:=fun x y H Q=>Du x y=true∧Q (.bl (decide (x=y))) H
noncomputable def NL:R2:=fun x y H Q=>Du x y=true∧Q (.bl (!decide (x=y))) H
theorem vf:decide (V.int i=V.int j)=(i == j):=by
 rw [Ry]
 simp
theorem zA:decide (V.bl i=V.bl j)=(i == j):=by
 rw [Ry]
 simp
theorem vg:decide (V.str i=V.str j)=(i == j):=by
 rw [Ry]
 simp
theorem vh:decide (V.byt i=V.byt j)=(i.toList == j.toList):=by
 rw [Ry]
 cases i
 cases j
 simp
section
theorem aZ (I:Inv X aa σ H s) (q:Q (.bl k) H) (e:k=k'):EP X aa σ Q (.bool k') s:=by
 subst e
 exact ⟨.bl k,H,I,rfl,q⟩
theorem Kq:fm X (compareOp .Eq) NK:=by
 intro aa s σ H x y v u Q I rx ry h
 obtain ⟨hs,q⟩:=h
 cases x with
 | non =>
  cases rx
  cases y with
  | non=>cases ry; exact PySem.EqNone.eq_none_none (aZ I q (by simp))
  | bl j=>cases ry; exact PySem.EqNone.eq_none_bool (aZ I q (by simp))
  | int j=>obtain ⟨t',rfl⟩:=ry; exact PySem.EqNone.eq_none_int (aZ I q (by simp))
  | str j=>obtain ⟨t',rfl⟩:=ry; exact PySem.EqNone.eq_none_str (aZ I q (by simp))
  | _=>exact absurd (show false=true from hs) Oc
 | bl i =>
  cases rx
  cases y with
  | non=>cases ry; exact PySem.EqNone.eq_bool_none (aZ I q (by simp))
  | bl j=>cases ry; exact eq_bool (aZ I q zA)
  | str j=>obtain ⟨t',rfl⟩:=ry; exact PySem.EqMixed.eq_bool_str (aZ I q (by simp))
  | _=>exact absurd (show false=true from hs) Oc
 | int i =>
  obtain ⟨t,rfl⟩:=rx
  cases y with
  | non=>cases ry; exact PySem.EqNone.eq_int_none (aZ I q (by simp))
  | int j=>obtain ⟨t',rfl⟩:=ry; exact eq_int (aZ I q vf)
  | str j=>obtain ⟨t',rfl⟩:=ry; exact PySem.EqMixed.eq_int_str (aZ I q (by simp))
  | _=>exact absurd (show false=true from hs) Oc
 | str i =>
  obtain ⟨t,rfl⟩:=rx
  cases y with
  | non=>cases ry; exact PySem.EqNone.eq_str_none (aZ I q (by simp))
  | bl j=>cases ry; exact PySem.EqMixed.eq_str_bool (aZ I q (by simp))
  | int j=>obtain ⟨t',rfl⟩:=ry; exact PySem.EqMixed.eq_str_int (aZ I q (by simp))
  | str j=>obtain ⟨t',rfl⟩:=ry; exact eq_str (aZ I q vg)
  | _=>exact absurd (show false=true from hs) Oc
 | byt i =>
  obtain ⟨t,rfl⟩:=rx
  cases y with
  | byt j=>obtain ⟨t',rfl⟩:=ry; exact PySem.W.eq_bytes (aZ I q vh)
  | _=>exact absurd (show false=true from hs) Oc
 | _=>cases y <;> exact absurd (show false=true from hs) Oc
theorem Kr:fm X (compareOp .NotEq) NL:=by
 intro aa s σ H x y v u Q I rx ry h
 obtain ⟨hs,q⟩:=h
 cases x with
 | non =>
  cases rx
  cases y with
  | non=>cases ry; exact PySem.EqNone.ne_none_none (aZ I q (by simp))
  | bl j=>cases ry; exact PySem.EqNone.ne_none_bool (aZ I q (by simp))
  | int j=>obtain ⟨t',rfl⟩:=ry; exact PySem.EqNone.ne_none_int (aZ I q (by simp))
  | str j=>obtain ⟨t',rfl⟩:=ry; exact PySem.EqNone.ne_none_str (aZ I q (by simp))
  | _=>exact absurd (show false=true from hs) Oc
 | bl i =>
  cases rx
  cases y with
  | non=>cases ry; exact PySem.EqNone.ne_bool_none (aZ I q (by simp))
  | bl j=>cases ry; exact ne_bool (aZ I q (congrArg not zA))
  | str j=>obtain ⟨t',rfl⟩:=ry; exact PySem.EqMixed.ne_bool_str (aZ I q (by simp))
  | _=>exact absurd (show false=true from hs) Oc
 | int i =>
  obtain ⟨t,rfl⟩:=rx
  cases y with
  | non=>cases ry; exact PySem.EqNone.ne_int_none (aZ I q (by simp))
  | int j=>obtain ⟨t',rfl⟩:=ry; exact ne_int (aZ I q (congrArg not vf))
  | str j=>obtain ⟨t',rfl⟩:=ry; exact PySem.EqMixed.ne_int_str (aZ I q (by simp))
  | _=>exact absurd (show false=true from hs) Oc
 | str i =>
  obtain ⟨t,rfl⟩:=rx
  cases y with
  | non=>cases ry; exact PySem.EqNone.ne_str_none (aZ I q (by simp))
  | bl j=>cases ry; exact PySem.EqMixed.ne_str_bool (aZ I q (by simp))
  | int j=>obtain ⟨t',rfl⟩:=ry; exact PySem.EqMixed.ne_str_int (aZ I q (by simp))
  | str j=>obtain ⟨t',rfl⟩:=ry; exact ne_str (aZ I q (congrArg not vg))
  | _=>exact absurd (show false=true from hs) Oc
 | byt i =>
  obtain ⟨t,rfl⟩:=rx
  cases y with
  | byt j=>obtain ⟨t',rfl⟩:=ry; exact PySem.W.ne_bytes (aZ I q (congrArg not vh))
  | _=>exact absurd (show false=true from hs) Oc
 | _=>cases y <;> exact absurd (show false=true from hs) Oc
theorem Ks:fm X (compareOp .Lt) (ve fun i j=>.bl (decide (i<j))):=G3 fun _ _ _ _ _ _ _ q=>lt_int q
theorem Ku:fm X (compareOp .Gt) (ve fun i j=>.bl (decide (j<i))):=G3 fun _ _ _ _ _ _ _ q=>gt_int q
theorem Kv:fm X (compareOp .GtE) (ve fun i j=>.bl (decide (j≤i))):=G3 fun _ _ _ _ _ _ _ q=>ge_int q
theorem fm.or (h:fm X f r) (h':fm X f r'):fm X f (fun x y H Q=>r x y H Q∨r' x y H Q):=by
 intro aa s σ H x y v u Q I rx ry q
 rcases q with q | q
 ·exact h aa s σ H x y v u Q I rx ry q
 ·exact h' aa s σ H x y v u Q I rx ry q
theorem jw (b) (h:op≠.In:=by decide) (h2:op≠.NotIn:=by decide):behindInMarks op b=false:=by
 have e1:(op == CmpOp.In)=false:=by cases op <;> first | rfl | exact absurd rfl h
 have e2:(op == CmpOp.NotIn)=false:=by cases op <;> first | rfl | exact absurd rfl h2
 cases b <;> simp [behindInMarks,e1,e2]
theorem Dv (ho:fm X (compareOp op) r) (ha:PE X a ta) (hb:PE X b tb) (hm:behindInMarks op b=false):PE X (.Compare a [op] [b] pos) (Ml r ta tb):=by
 intro aa s σ H Q I h
 exact wpAny_Compare1 (G2 ha hb I h fun v u s2 x y H2 I2 rx ry q=>ho aa s2 σ H2 x y v u Q I2 rx ry q) hm
noncomputable def Kw (t:TE):TT:=fun σ H Q=>t σ H fun x H'=>∃ k,x=.bl k∧Q k H'
theorem Dw (ho:fm X (compareOp op) r) (ha:PE X a ta) (hb:PE X b tb) (hm:behindInMarks op b=false):PT X (.Compare a [op] [b] pos) (Kw (Ml r ta tb)):=by
 intro aa s σ H Q I h
 refine wpAny_isTrue_Compare1 (bC (ha aa s σ H _ I h) fun v s1 ⟨x,H1,I1,r1,q1⟩=>bC (hb aa s1 σ H1 _ I1 q1) fun u s2 ⟨y,H2,I2,r2,q2⟩ =>
  bC (ho aa s2 σ H2 x y v u _ I2 r1 r2 q2) fun c s3 ⟨z,H3,I3,r3,k,e,q3⟩=>?_) hm
 subst e
 cases r3
 exact Rp ⟨H3,I3,q3⟩
theorem oB:(sizeLine:Nat)<2 ^ 63:=by rw [sizeLine_eq]; decide
theorem tG:fm X (binaryOp .Add) (fun x y H Q=>∃ i j,x=.str i∧y=.str j∧i.length+j.length≤sizeLine∧Q (.str (i++j)) H):=by
 intro aa s σ H x y v u Q I rx ry h
 obtain ⟨i,j,rfl,rfl,hz,q⟩:=h
 obtain ⟨t,rfl⟩:=rx
 obtain ⟨t',rfl⟩:=ry
 exact add_str (fun t' tk=>⟨.str (i++j),H,I.tok _,⟨_,rfl⟩,q⟩) hz
theorem vals1 (r:Vals [x] us):∃ u,us=[u]∧RelV x u:=by
 cases r with
 | cons r1 r2=>cases r2; exact ⟨_,rfl,r1⟩
theorem vals2 (r:Vals [x,y] us):∃ u w',us=[u,w']∧RelV x u∧RelV y w':=by
 cases r with
 | cons r1 r2 =>
  cases r2 with
  | cons r3 r4=>cases r4; exact ⟨_,_,rfl,r1,r3⟩
theorem xB (hc:X.calm=true):f9 X (.builtin "max") (fun xs H Q=>∃ i j,xs=[.int i,.int j]∧Q (.int (if j>i then j else i)) H):=by
 intro aa s σ H xs us Q I r h
 obtain ⟨i,j,rfl,q⟩:=h
 obtain ⟨u,w',rfl,⟨t,rfl⟩,⟨t',rfl⟩⟩:=vals2 r
 refine max_two_ints (I.ok.hd hc) fun h' tk k=>⟨_,H,I.kept k,?_,q⟩
 by_cases hj:j>i
 ·rw [if_pos hj,if_pos hj]; exact ⟨_,rfl⟩
 ·rw [if_neg hj,if_neg hj]; exact ⟨_,rfl⟩
end
structure NN (h:Heap) (x dx C:Addr) (mA:Str→Option Value):Prop where
 obj:h.get? x=some (PySem.W.instObj C dx)
 ns:h.Ns1 dx mA
 ne:dx≠x
section
end
theorem j5.some_of (r:j5 (some v) o):∃ u,o=some u∧RelV v u:=by
 cases o with
 | none=>exact (show False from r).elim
 | some u=>exact ⟨u,rfl,r⟩
section
end
structure NO (K:NZ) (C:Addr):Prop where
 pg:PySem.W.plainGet K C Str.empty=true
 hd:PySem.W.hasDictIn K C=true
 po:PySem.W.plainOver K C=true
 sa:Qh K (.ref C) "__setattr__"=some (some (.builtin "object.__setattr__"))
structure Con (K:NZ) (C:Addr) (f:Str) (v:V) (u:Value):Prop where
 at_:Qh K (.ref C) f=some (some u)
 rel:RelV v u
 get:T5 K u "__get__"=some none
 cp:PySem.W.copiedNames.contains f=false
structure Meth (K:NZ) (C:Addr) (m:Str) (f:Addr):Prop where
 at_:Qh K (.ref C) m=some (some (.ref f))
 fn:PySem.W.isFn K (.ref f)=true
 kp:PN K (.ref f)=true
section
end
noncomputable def Kx (X:Cx) (op:Operator) (rd:V→V→Hp→VK→Prop):Prop :=
 ∀ (aa:List (Addr×Obj)) (s:Shared) (σ:St) (H:Hp) (x y:V) (u v:Value) (Q:VK),Inv X aa σ H s→RelV x u→RelV y v→rd x y H Q→wpAny (model X.prog X.w) X.A (inplaceOp op u v) (EP X aa σ Q) X.xe s
section
end
section
variable {X:Cx} {aa:List (Addr×Obj)} {σ:St} {H:Hp} {s:Shared} {A:Around} {E:Value→Shared→Prop} {Q:Value→Shared→Prop} {c:Value} {b:Bool}
inductive kT (K:NZ) (H:Hp):V→Value→Prop where
 | non:kT K H .non (.type "NoneType")
 | bl (x:Bool):kT K H (.bl x) (.type "bool")
 | int (i:Int):kT K H (.int i) (.type "int")
 | str (x:Str):kT K H (.str x) (.type "str")
 | flt (x:UInt64):kT K H (.flt x) (.type "float")
 | lst {a:Addr} {xs:List V} (e:H a=some (.lst xs)):kT K H (.ref a) (.type "list")
 | frz {a:Addr} {o:Obj} {xs:List V} (e:H a=some (.frz o (.lst xs))):kT K H (.ref a) (.type "list")
 | tup {a:Addr} {xs:List V} (e:H a=some (.tup xs)):kT K H (.ref a) (.type "tuple")
 | dK {a:Addr} {kvs:List (Key×V)} (e:H a=some (.dK kvs)):kT K H (.ref a) (.type "dict")
 | dT {a:Addr} {kvs:List (List Key×Addr×V)} (e:H a=some (.dT kvs)):kT K H (.ref a) (.type "dict")
 | ins {a C dx:Addr} {fs:List (Str×V)} (e:H a=some (.ins C dx fs)) (cl:NO K C) (ha:Qh K (.ref C) "__class__"=some (some (.builtin "object.__class__")))
  (hn:T5 K (.builtin "object.__class__") "__get__"=some (some (.builtin "getset_descriptor.__get__"))) (htk:PySem.W.takesIn K (.builtin "object.__class__")=some true)
  (hm:SN K C (.type "object")=some true):kT K H (.ref a) (.ref C)
end
structure g6 (k:Nat) (A:Around):Prop where
 hd:A.handled=none
 dp:A.depth+3 * k+5<recursionLimit
 un:A.units+16 * k+200<cLine
theorem g6.mono (r:g6 k A) (h:j≤k):g6 j A:=⟨r.hd,by have:=r.dp; lia,by have:=r.un; lia⟩
theorem g6.deeper (r:g6 (k+1) A) (env:Env):g6 k (A.deeper env) :=
 ⟨r.hd,by have:=r.dp; show A.depth+1+3 * k+5<_; lia,by have:=r.un; show A.units+3+16 * k+200<_; lia⟩
theorem g6.depth (r:g6 k A):A.depth<recursionLimit:=by have:=r.dp; lia
theorem g6.units (r:g6 k A):A.units+64<cLine:=by have:=r.un; lia
noncomputable def MO:TA:=fun _ H Q=>Q [] H
noncomputable def Ky (ta:TE) (tr:TA):TA:=fun σ H Q=>ta σ H fun x H1=>tr σ H1 fun xs H2=>Q (x::xs) H2
section
theorem dD:PA X [] MO:=fun _ _ _ _ H Q I h=>Calls.spliced_nil ⟨[],H,I,.nil,h⟩
theorem bM (ha:PE X e te) (hr:PA X es t) (hs:starEach (e::es) X.env=(false,eval e X.env)::starEach es X.env:=by rfl):PA X (e::es) (Ky te t):=by
 intro pos aa s σ H Q I h
 rw [hs]
 show wpAny _ _ (spliced ((false,eval e X.env)::backTo pos (starEach es X.env))) _ _ s
 refine TX (bC (ha aa s σ H _ I h) fun u s1 ⟨x,H1,I1,r1,q1⟩=>?_)
 exact bC (hr pos aa s1 σ H1 _ I1 q1) fun us s2 ⟨xs,H2,I2,r2,q2⟩=>⟨x::xs,H2,I2,.cons r1 r2,q2⟩
noncomputable def MQ (t:TA):TE:=fun σ H Q=>t σ H fun xs H1=>xs.length≤sizeLine∧∀ p,H1 p=none→Q (.ref p) (upd H1 p (.tup xs))
noncomputable def MR (t:TA):TE:=fun σ H Q=>t σ H fun xs H1=>xs.length≤sizeLine∧∀ p,H1 p=none→Q (.ref p) (upd H1 p (.lst xs))
theorem zB {x1} (h:PA X es t):PE X (.Tuple es x1 pos) (MQ t):=by
 intro aa s σ H Q I hq
 refine wpAny_Tuple_spliced (bC (h pos aa s σ H _ I hq) fun us s1 ⟨xs,H1,I1,r,z,q⟩=>⟨by rw [← r.length]; exact z,?_⟩)
 have hf:H1 s1.heap.objs.size=none:=I1.hok.fresh (N2 _)
 refine ⟨.ref s1.heap.objs.size,upd H1 s1.heap.objs.size (.tup xs),I1.laid (t':=s1.toks) (fun b u e=>N7 _ e) (N2 _) ?_,rfl,q _ hf⟩
 exact ⟨z,us,r,⟨_,Oj _ rfl,rfl,_,rfl⟩⟩
theorem Hi (h:PA X es t):PE X (.List es pos) (MR t):=by
 intro aa s σ H Q I hq
 refine wpAny_List_spliced (bC (h pos aa s σ H _ I hq) fun us s1 ⟨xs,H1,I1,r,z,q⟩=>⟨by rw [← r.length]; exact z,?_⟩)
 have hf:H1 s1.heap.objs.size=none:=I1.hok.fresh (N2 _)
 refine ⟨.ref s1.heap.objs.size,upd H1 s1.heap.objs.size (.lst xs),I1.laid (t':=s1.toks) (fun b u e=>N7 _ e) (N2 _) ?_,rfl,q _ hf⟩
 exact ⟨z,us,0,r,Oj _ rfl⟩
end
noncomputable abbrev Sp:=List V→Hp→VK→XK→Prop
noncomputable abbrev Hj:=List Env→Hp→Shared→XK→Value→Shared→Prop
structure Dy (P:Program) (w:World) (K:NZ) (mg:Str→Option Value) (base:Heap) (A:Around) (outer:List Env) (s:Shared) (H:Hp):Prop where
 frames:A.frames=some outer
 mod:Mod K mg base
 bs:∀ b o,base.get? b=some o→s.heap.get? b=some o∧H b=none
 bsz:base.objs.size≤s.heap.objs.size
 ju:s.heap.FunFrames base outer
 frf:∀ b∈frs outer,H b=none
 hok:jq P w H s.heap
 bare:AllBare s.gens
noncomputable def CE (outer:List Env) (P:Program) (w:World) (H:Hp) (s:Shared) (Q:VK) (u:Value) (s':Shared):Prop :=
 ∃ v H',s'.os=s.os∧AllBare s'.gens∧Un (frs outer) [] H H' s.heap s'.heap∧jq P w H' s'.heap∧RelV v u∧Q v H'
noncomputable def CR (CX:Hj) (outer:List Env) (P:Program) (w:World) (H:Hp) (s:Shared) (Q:VK) (E:XK) (r:Result) (s':Shared):Prop :=
 match r with
 | .ok (.ret u)=>CE outer P w H s Q u s'
 | .ok _=>False
 | .error e=>CX outer H s E e s'
structure bz (P:Program) (w:World) (K:NZ) (mg:Str→Option Value) (base:Heap) (CX:Hj) (k:Nat) (f:Addr) (fd:FuncData) (ps:List Str) (sp:Sp):Prop where
 len:∀ vs H Q E,sp vs H Q E→vs.length=ps.length
 run:∀ (A:Around) (outer:List Env) (s:Shared) (H:Hp) (args:Args) (us:List Value) (vs:List V) (Q:VK) (E:XK),g6 k A→Dy P w K mg base A outer s H→BindsTo s fd args (ps.zip us)→Vals vs us→sp vs H Q E →
  codeAny (model P w) A (.call (.ref f) args) (CR CX outer P w H s Q E) s
theorem bz.mono {K:NZ} (F:bz P w K mg base CX j f fd ps sp) (h:j≤k) :
 bz P w K mg base CX k f fd ps sp:=⟨F.len,fun A outer s H args us vs Q E hr=>F.run A outer s H args us vs Q E (hr.mono h)⟩
section
theorem Inv.Dz (I:Inv X aa σ H s):Dy X.prog X.w X.K X.mg X.base X.A X.stack s H :=
 ⟨I.ok.frames,I.ok.mod,I.bs,N8 I.ok.bsz I.sz,I.stack,I.u7,I.hok,I.bare⟩
theorem Inv.after (I:Inv X aa σ H s) (h:CE X.stack X.prog X.w H s Q u s'):EP X aa σ Q u s':=by
 obtain ⟨v,H',os,bare,un,hok,r,q⟩:=h
 obtain ⟨hh,g,d,t,os'⟩:=s'
 obtain rfl:os'=s.os:=os
 exact ⟨v,H',I.call (h':=hh) (g':=g) (d':=d) (t':=t) (ch:=[]) un hok bare (fun b z=>absurd z (by simp)),r,q⟩
end
noncomputable def Binds (K:NZ) (fd:FuncData) (ps:List Str) (ds:List Value):Prop :=
 ∀ (s:Shared) (us:List Value),K.In s.heap→(us++ds).length=ps.length→BindsTo s fd ⟨us,[]⟩ (ps.zip (us++ds))
theorem Binds.all {K:NZ} (h:∀ us:List Value,us.length=ps.length→bindArgs fd ⟨us,[]⟩=pure (ps.zip us)):Binds K fd ps []:=fun s us _ hl=>by
 rw [O5] at hl ⊢
 exact .of_eq (h us hl)
section
variable {X:Cx} {CX:Hj} {k:Nat} {f C:Addr} {fd:FuncData} {ps:List Str} {sp:Sp} {dvs:List V} {ds:List Value} {E:XK} {x m:Str} {p pos apos:Pos} {e o:Expr} {es:List Expr} {ta:TE} {t:TA}
structure Mk (K:NZ) (C f:Addr):Prop where
 makes:PySem.W.makesIn K C=true
 init:Qh K (.ref C) "__init__"=some (some (.ref f))
 fn:PySem.W.isFn K (.ref f)=true
 kp:PN K (.ref C)=true
end
section
variable {X:Cx} {CX:Hj} {k:Nat} {f C:Addr} {fd:FuncData} {ps ks:List Str} {sp:Sp} {E:XK} {x m:Str} {p pos apos kpos:Pos} {e o:Expr} {es:List Expr} {kws:List Keyword} {te ta:TE} {t tk:TA} {nm:Option Str}
structure MS (K:NZ) (fd:FuncData) (ps ks:List Str) (g:List Value→List Value→List Value) (gV:List V→List V→List V):Prop where
 to:∀ (s:Shared) (us ws:List Value),K.In s.heap→(g us ws).length=ps.length→BindsTo s fd ⟨us,ks.zip ws⟩ (ps.zip (g us ws))
 rel:∀ {vs:List V} {us:List Value} {zs:List V} {ws:List Value},Vals vs us→Vals zs ws→Vals (gV vs zs) (g us ws)
end
structure aI (N P:List Str) (sc:Scope):Prop where
 kind:sc.kind=.function
 co:sc.isCoroutine=false
 gen:sc.isGenerator=false
 nd:N.Nodup
 pre:N.take P.length=P
 par:∀ x∈P,sc.names.lookup x=some .local∨sc.names.lookup x=some .cell
 nofree:∀ y∈sc.names,y.2≠.free
theorem nc {kindOf:Str→Option NameKind}:∀ {binds:List (Str×Value)} {m:Str→Option Value},(∀ v,(x,v)∉binds)→bindL kindOf binds m x=m x
 | [],_,_=>rfl
 | (n,v)::r,m,h=>by
  unfold bindL
  rw [nc fun w hw=>h w (Oe _ hw)]
  split
  ·have:x≠n:=by rintro rfl; exact h v Od
   simp [this]
  ·rfl
theorem ng {kindOf:Str→Option NameKind}:∀ {binds:List (Str×Value)} {m:Str→Option Value},(∀ v,(x,v)∉binds)→bindC kindOf binds m x=m x
 | [],_,_=>rfl
 | (n,v)::r,m,h=>by
  unfold bindC
  rw [ng fun w hw=>h w (Oe _ hw)]
  split
  ·rfl
  ·have:x≠n:=by rintro rfl; exact h v Od
   simp [this]
theorem nh {kindOf:Str→Option NameKind}:∀ {P:List Str} {vs:List Value} {i:Nat} {m:Str→Option Value},P.Nodup→P[i]?=some x→vs[i]?=some v→kindOf x=some .local →
 bindL kindOf (P.zip vs) m x=some v
 | [],_,_,_,_,h,_,_=>by simp at h
 | _::_,[],_,_,_,_,h,_=>by simp at h
 | p::P,w::vs,0,m,nd,h1,h2,hk=>by
  simp at h1 h2; subst h1; subst h2
  show bindL kindOf ((p,w)::P.zip vs) m p=_
  unfold bindL
  rw [nc fun v hv=>(Po.mp nd).1 (SD hv).1,if_pos hk]
  simp
 | p::P,w::vs,i+1,m,nd,h1,h2,hk=>by
  show bindL kindOf ((p,w)::P.zip vs) m x=_
  unfold bindL
  exact nh (i:=i) (Po.mp nd).2 (by simpa using h1) (by simpa using h2) hk
theorem ni {kindOf:Str→Option NameKind}:∀ {P:List Str} {vs:List Value} {i:Nat} {m:Str→Option Value},P.Nodup→P[i]?=some x→vs[i]?=some v→kindOf x≠some .local →
 bindC kindOf (P.zip vs) m x=some v
 | [],_,_,_,_,h,_,_=>by simp at h
 | _::_,[],_,_,_,_,h,_=>by simp at h
 | p::P,w::vs,0,m,nd,h1,h2,hk=>by
  simp at h1 h2; subst h1; subst h2
  show bindC kindOf ((p,w)::P.zip vs) m p=_
  unfold bindC
  rw [ng fun v hv=>(Po.mp nd).1 (SD hv).1,if_neg hk]
  simp
 | p::P,w::vs,i+1,m,nd,h1,h2,hk=>by
  show bindC kindOf ((p,w)::P.zip vs) m x=_
  unfold bindC
  exact ni (i:=i) (Po.mp nd).2 (by simpa using h1) (by simpa using h2) hk
noncomputable def start (N:List Str) (vs:List V):St:=vs.map some++Of (N.length - vs.length) none
noncomputable def qh (CX:Hj) (P:Program) (w:World) (K:NZ) (mg:Str→Option Value) (base:Heap) (N:List Str) (qual:Str) (scope:Scope) (f:Addr) (cd:Value) (A:Around) (outer:List Env) (s:Shared) (H:Hp) (E:XK):Cx where
 prog:=P
 w:=w
 K:=K
 mg:=mg
 base:=base
 A:=A.deeper (envOfC qual scope s.heap.objs.size f cd)
 N:=N
 s₀:=s
 H₀:=H
 env:=envOfC qual scope s.heap.objs.size f cd
 outer:=outer
 stack:=envOfC qual scope s.heap.objs.size f cd::outer
 ex:=[]
 calm:=true
 fn:=fun _=>true
 pn:=[]
 xe:=fun e s'=>wpAny (model P w) (A.deeper (envOfC qual scope s.heap.objs.size f cd)) (leaving (envOfC qual scope s.heap.objs.size f cd) e) (fun _ s''=>CX outer H s E e s'') (fun e' s''=>CX outer H s E e' s'') s'
theorem qi {sc:Scope} (h:sc.names.lookup x=some .cell):∃ c,(cellsFrom n sc.names []).lookup x=some c:=by
 have q:=PySem.W.cellsFrom_some sc.names n [] (.inl h)
 exact Option.isSome_iff_exists.mp q
theorem xC {K:NZ}
 (S:aI N ps scope) (hd:A.handled=none) (e0:Dy P w K mg base A outer s H) (hl:vs.length=ps.length) (r:Vals vs us)
 (x:InCallC s s.heap.objs.size (bindL (envOfC qual scope s.heap.objs.size f cd).kindOf (ps.zip us) fun _=>none) (cellsFrom (s.heap.objs.size+1) scope.names []) (bindC (envOfC qual scope s.heap.objs.size f cd).kindOf (ps.zip us) fun _=>none) s1) :
 Inv (qh CX P w K mg base N qual scope f cd A outer s H E) [] (start N vs) H s1:=by
 have hpl:ps.length≤N.length:=by have:=congrArg QI S.pre; rw [Pb] at this; lia
 obtain ⟨h1,tk,rfl,hk⟩:=x.done
 have noA:∀ b:Addr,b∉(qh CX P w K mg base N qual scope f cd A outer s H E).ex:=fun b z=>absurd (show b∈([]:List Addr) from z) (by simp)
 refine ⟨⟨e0.mod,S.kind,rfl,rfl,N2 _,fun y z c h1 h2=>?_,fun y hy=>?_,fun y c _ h=>?_,fun _=>hd,Around.frames_deeper e0.frames,.inr ⟨rfl,rfl⟩,fun b z=>absurd z (noA b),e0.bs,e0.bsz,fun b _ _=>noA b,fun b z=>absurd z (noA b),e0.ju,e0.frf⟩,
  rfl,e0.bare,Un.kept hk,⟨_,x.toInCall.ns,fun i y v h1 h2 h3=>?_⟩,fun y c h=>⟨_,x.cell y c h⟩,e0.hok.fresh (N2 _),fun y c h=>?_,fun p hp=>absurd (show p∈([]:List (Addr×Obj)) from hp) (by simp),e0.hok.kept hk,?_⟩
 ·exact name_of_addr x.apart (Rn h1) (Rn h2)
 ·have hy:scope.names.lookup y=some .cell∨scope.names.lookup y=some .free:=hy
  rcases hy with hy | hy
  ·exact qi hy
  ·exact absurd rfl (S.nofree _ (Rn hy))
 ·exact Qn (x.above y c (Rn h))
 ·have hi:i<vs.length:=by
   unfold start at h2
   by_cases hi:i<vs.length
   ·exact hi
   ·rw [QS (by simpa using hi)] at h2
    rw [Tt] at h2
    split at h2 <;> cases h2
  have ha:vs[i]?=some v:=by
   unfold start at h2
   rw [Qc (by simpa using hi),Oa] at h2
   cases e:vs[i]? with
   | none=>rw [e] at h2; cases h2
   | some a=>rw [e] at h2; cases h2; rfl
  obtain ⟨u,hu,rv⟩:=r.get ha
  have hp:ps[i]?=some y:=by
   rw [← S.pre,R1 (by lia)]; exact h1
  have ndP:ps.Nodup:=by rw [← S.pre]; exact S.nd.sublist (Sq _ _)
  refine ⟨u,rv,?_⟩
  rcases S.par y (O9 hp) with k | k
  ·exact .inl ⟨k,nh ndP hp hu k⟩
  ·obtain ⟨c,e⟩:=qi (n:=s.heap.objs.size+1) k
   refine .inr ⟨.inl k,c,e,?_⟩
   have q:=x.cell y c e
   rw [ni ndP hp hu (by show scope.names.lookup y≠_; rw [k]; decide)] at q
   exact q
 ·exact e0.hok.fresh (Qn (x.above y c (Rn h)))
 ·unfold start
  show _=N.length
  rw [OL,N6,List.length_replicate]
  lia
theorem zC {K:NZ} {dV kV doc pm cdv ct oc:Value}
 (lk:K.lookup f=some ⟨oc,od,.func (PY name qual params body scope dV kV doc pm an cdv ct),osl⟩) (hcd:SK K cdv qual=true) (S:aI N ps scope)
  (len:∀ vs H Q E,sp vs H Q E→vs.length=ps.length)
  (hbody:∀ (A:Around) (outer:List Env) (s:Shared) (H:Hp) (vs:List V) (Q:VK) (E:XK),g6 k (A.deeper (envOfC qual scope s.heap.objs.size f cdv))→sp vs H Q E →
    ∃ t,sW (qh CX P w K mg base N qual scope f cdv A outer s H E) body t∧t { nx:=fun _ H'=>Q .non H',rt:=Q } (start N vs) H) :
  bz P w K mg base CX (k+1) f (PY name qual params body scope dV kV doc pm an cdv ct) ps sp:=by
  refine ⟨len,fun A outer s H args us vs Q E hr e0 hb r qa=>?_⟩
  have hl:=len _ _ _ _ qa
  have KX:K.In s.heap:=e0.mod.kin.keeps fun b o e=>(e0.bs b o e).1
  have lim:s.heap.NoLimit:=e0.mod.nolimit.keeps fun b o e=>(e0.bs b o e).1
  have hkind:∀ y∈ps.zip us,scope.names.lookup y.1=some .local∨(scope.names.lookup y.1=some .cell∧((cellsFrom (s.heap.objs.size+1) scope.names []).lookup y.1).isSome=true):=fun ⟨n,v⟩ hy=>by
   rcases S.par n (SD hy).1 with q | q
   ·exact .inl q
   ·exact .inr ⟨q,PySem.W.cellsFrom_some _ _ _ (.inl q)⟩
  refine codeAny_call_function hr.depth (KX _ _ lk) rfl S.co S.gen rfl (PySem.W.codeRec_of KX hcd) (hb _ _ _ _ ?_)
  refine wpAny_newFunctionEnv_cells S.kind hkind fun env he s1 x=>?_
  subst he
  refine ⟨lim.keeps x.toInCall.keep,codeAny_func ?_⟩
  obtain ⟨t,ht,hq⟩:=hbody A outer s H vs Q E (hr.deeper _) qa
  have I:Inv (qh CX P w K mg base N qual scope f cdv A outer s H E) [] (start N vs) H s1:=xC S hr.hd e0 hl r x
  refine OO (ht [] s1 (start N vs) H _ I hq) (fun fl s' hs=>?_) fun e s' hs=>hs
  have fin:∀ {σ':St} {H':Hp} {v:V} {u:Value},Inv (qh CX P w K mg base N qual scope f cdv A outer s H E) [] σ' H' s'→RelV v u→Q v H'→CE outer P w H s Q u s' :=
   fun {σ' H' v u} J rv q=>⟨v,H',J.os,J.bare,J.base,J.hok,rv,q⟩
  cases fl with
  | ret u =>
   obtain ⟨v,σ',H',J,rv,q⟩:=hs
   exact fin J rv q
  | next =>
   obtain ⟨σ',H',J,q⟩:=hs
   exact fin (v:=V.non) (u:=O2) J rfl q
  | brk =>
   obtain ⟨_,_,_,q⟩:=hs
   exact OZ q
  | cont =>
   obtain ⟨_,_,_,q⟩:=hs
   exact OZ q
section
variable {id T:String}
noncomputable def Nv (r:List V→Hp→VK→Prop) (t:TA):TE:=fun σ H Q=>t σ H fun vs H1=>r vs H1 Q
theorem zD (hc:f9 X (.builtin id) r) (hg:Gl X x) (hm:X.mg x=none) (hv:bootBuiltins x=some (.builtin id)) (ha:PA X (e::es) t) (hn:x≠"__name__":=by decide) (hdb:(x == ("__debug__":Str))=false:=by decide)
 (he:starEach (e::es) X.env=(false,eval e X.env)::starEach es X.env:=by rfl) (hpl:(backTo pos (starEach es X.env)).any (·.1)=false:=by rfl):PE X (.Call (.Name x p) (e::es) [] pos) (Nv r t):=by
 intro aa s σ H Q I h
 refine PJ (dB I hg hm hv ?_ hn hdb)
 exact Tf (bC (ha pos aa s σ H _ I h) fun us s1 ⟨vs,H1,I1,r1,q1⟩=>hc aa s1 σ H1 vs us Q I1 r1 q1) he hpl
theorem nj (hc:f9 X (.type T) r) (hg:Gl X x) (hm:X.mg x=none) (hv:bootBuiltins x=some (.type T)) (ha:PA X (e::es) t) (hn:x≠"__name__":=by decide) (hdb:(x == ("__debug__":Str))=false:=by decide)
 (he:starEach (e::es) X.env=(false,eval e X.env)::starEach es X.env:=by rfl) (hpl:(backTo pos (starEach es X.env)).any (·.1)=false:=by rfl):PE X (.Call (.Name x p) (e::es) [] pos) (Nv r t):=by
 intro aa s σ H Q I h
 refine PJ (dB I hg hm hv ?_ hn hdb)
 exact Rh (bC (ha pos aa s σ H _ I h) fun us s1 ⟨vs,H1,I1,r1,q1⟩=>hc aa s1 σ H1 vs us Q I1 r1 q1) he hpl
end
end L2
namespace HT
open PySem PyProof.Rows
noncomputable def lexLt:List Int→List Int→Bool
 | [],[]=>false
 | [],_::_=>true
 | _::_,[]=>false
 | x::xs,y::ys=>if x=y then lexLt xs ys else decide (x<y)
theorem cG (x y) (xs ys):lexLt (x::xs) (y::ys)=if x=y then lexLt xs ys else decide (x<y):=rfl
theorem ig:lexLt [] []=false:=rfl
theorem gc (y) (ys):lexLt [] (y::ys)=true:=rfl
theorem gh (x) (xs):lexLt (x::xs) []=false:=rfl
theorem zE (A:Around) (s) (a) (t:Tok) (c) (u:Tok):∃ e,Ox A s (.int a t) (.int c u) e∧(e=true↔a=c) :=
 ⟨(a == c),Ox.int_int a t c u,by simp⟩
theorem zF (A:Around) (s) (a) (t:Tok) (c) (u:Tok) (prog) (w) (E) (Q) (h:Q (.bool (decide (a<c))) s) :
 wpAny (model prog w) A (richCompare .Lt (.int a t) (.int c u)) Q E s :=
 (PyProof.Rows.lt_int h:wpAny (model prog w) A (compareOp .Lt (.int a t) (.int c u)) Q E s)
section
open PySem.SeqAt
open PySem.AutoSeq1 (wpAny_loadPart')
open PySem.MeetsSeq PySem.MeetsSeq2 PySem.MeetsSeq3
theorem ir (l b) (items items2) (n n2) (dd dd2) (sl sl2) (ns ms) (hi:IntsAre items.toList ns) (hj:IntsAre items2.toList ms) :
 Meets (Builtin.«tuple.__lt__» ⟨[.ref l,.ref b],[]⟩)
  (fun _ R s=>s.heap.get? l=some { cls:=.type "tuple",dict:=dd,data:=.seq items n,slots:=sl }∧s.heap.get? b=some { cls:=.type "tuple",dict:=dd2,data:=.seq items2 n2,slots:=sl2 } ∧
    R (.ok (.ret (.bool (lexLt ns ms)))) s) :=
 .of_wp fun prog w A R s h=>by
  obtain ⟨hp,g,d,tk,os⟩:=s; obtain ⟨hl,hb,h⟩:=h
  have f2:=AutoSeq1.sub_tuple_tuple
  have z1:items.size=ns.length:=by rw [← hi.length]; simp
  have z2:items2.size=ms.length:=by rw [← hj.length]; simp
  wp_walk using wpAny_loadPart' hl,wpAny_loadPart' hb,wpAny_forIn_list _ (fun rest b s'=>b.1=none∧s'=⟨hp,g,d,tk,os⟩∧∃ (vs ws:List Value) (ns' ms':List Int),rest=vs.zip ws ∧
   IntsAre vs ns'∧IntsAre ws ms'∧ns'.length+items2.size=ms'.length+items.size∧R (.ok (.ret (.bool (lexLt ns' ms')))) ⟨hp,g,d,tk,os⟩) _
  case turn =>
   rintro ⟨y,x⟩ rest b s' ⟨hb',rfl,vs,ws,ns',ms',hz,hvi,hwi,hlen,hR⟩
   cases hvi with
   | nil=>rw [List.zip_nil_left] at hz; cases hz
   | cons a t hvi' =>
    cases hwi with
    | nil=>rw [List.zip_nil_right] at hz; cases hz
    | cons c u hwi' =>
     rw [Sm] at hz
     injection hz with hyx hrest
     injection hyx with hy hx
     subst hy hx
     rw [cG] at hR
     simp only [OE] at hlen
     obtain ⟨e,he,hiff⟩:=zE A.in1 ⟨hp,g,d,tk,os⟩ a t c u
     refine NX (he prog w _ _ ?_)
     cases e with
     | true =>
      rw [if_pos (hiff.mp rfl)] at hR
      wp_walk
      exact ⟨rfl,rfl,_,_,_,_,hrest,hvi',hwi',by lia,hR⟩
     | false =>
      rw [if_neg (fun q=>absurd (hiff.mpr q) Oc)] at hR
      have hri:=zF A.in1 ⟨hp,g,d,tk,os⟩ a t c u prog w
      wp_walk using hri
      exact ⟨_,rfl,by simpa using hR⟩
  case fin =>
   rintro ⟨b1,b2⟩ s' ⟨hb',rfl,vs,ws,ns',ms',hz,hvi,hwi,hlen,hR⟩
   simp only at hb'
   subst hb'
   have hv:lexLt ns' ms'=decide (items.size<items2.size):=by
    cases hvi with
    | nil =>
     cases hwi with
     | nil =>
      simp only [PM] at hlen
      rw [ig]
      exact (decide_eq_false (by lia)).symm
     | cons c u hw =>
      simp only [PM,OE] at hlen
      rw [gc]
      exact (decide_eq_true (by lia)).symm
    | cons a t hv =>
     cases hwi with
     | nil =>
      simp only [PM,OE] at hlen
      rw [gh]
      exact (decide_eq_false (by lia)).symm
     | cons c u hw =>
      rw [Sm] at hz
      cases hz
   rw [hv] at hR
   wp_walk
   exact ⟨_,rfl,by simpa [Builtin.Tuple.tupleCompareSizes] using hR⟩
  case h =>
   exact ⟨rfl,rfl,items.toList,items2.toList,ns,ms,rfl,hi,hj,by lia,h⟩
end
section
theorem tH (hl:IsTup s.heap l items) (hb:IsTup s.heap b items2) (hi:IntsAre items.toList ns) (hj:IntsAre items2.toList ms)
 (hu:A.units<cLine) (h:Q (.bool (lexLt ns ms)) s):wpAny (model prog w) A (compareOp .Lt (.ref l) (.ref b)) Q E s:=by
 obtain ⟨⟨cls,dd,data,sl⟩,ho,hc,n,hd⟩:=id hl
 obtain ⟨⟨cls2,dd2,data2,sl2⟩,ho2,hc2,n2,hd2⟩:=id hb
 simp only at hc hd hc2 hd2
 subst hc hd hc2 hd2
 exact richCompare_meets_room (op:=.Lt) ⟨_,ho,rfl⟩ ⟨_,ho2,rfl⟩ TF PySem.F.entry_tuple_lt (PySem.F.args_tuple_lt_2 _ _) (ir l b items items2 n n2 dd dd2 sl sl2 ns ms hi hj)
  ⟨ho,ho2,show Value.bool (lexLt ns ms)≠Value.notImplemented∧Q (.bool (lexLt ns ms)) s from ⟨(fun x=>nomatch x),h⟩⟩ hu
noncomputable def cu (n d:Nat):Option Int→Nat
 | none=>d
 | some v=>if v<0 then (v+(n:Int)).toNat else min v.toNat n
theorem Hl (n d) (hd:d≤n) (o):cu n d o≤n:=by
 cases o with
 | none=>exact hd
 | some v =>
  show (if v<0 then (v+(n:Int)).toNat else min v.toNat n)≤n
  by_cases hv:v<0
  ·rw [if_pos hv]; lia
  ·rw [if_neg hv]; exact Nat.min_le_right _ _
theorem vm (v) (n d:Nat):(if v<0 then max (v+(n:Int)) 0 else min v (n:Int))=((cu n d (some v):Nat):Int):=by
 show (if v<0 then max (v+(n:Int)) 0 else min v (n:Int))=(((if v<0 then (v+(n:Int)).toNat else min v.toNat n):Nat):Int)
 by_cases hv:v<0
 ·simp only [if_pos hv]; lia
 ·simp only [if_neg hv]; lia
theorem tK (lo hi) (n:Nat):Tj lo hi 1 (n:Int)=(((cu n 0 lo:Nat):Int),((cu n n hi:Nat):Int)):=by
 have h1:¬ ((1:Int)<0):=by lia
 unfold Tj
 simp only [h1,if_false]
 refine Prod.ext ?_ ?_
 ·cases lo with
  | none=>rfl
  | some v=>exact vm v n 0
 ·cases hi with
  | none=>rfl
  | some v=>exact vm v n n
theorem tL (i j:Nat):RZ (i:Int) (j:Int) 1=j - i:=by
 unfold RZ
 have h1:(1:Int)>0:=by lia
 simp only [h1,if_true,Int.ediv_one]
 split <;> lia
theorem kU (p:IsPart v o) (h:Q o s):wpAny (model prog w) A (Builtin.Slice.slicePartIndex v) Q E s:=by
 cases p with
 | none=>exact slicePart_none h
 | int i t=>exact slicePart_int h
theorem eU {sl:Addr} {vl vu:Value} {lo hi:Option Int} {n:Nat} {Q:Int×Int×Nat→Shared→Prop} (hs:s.heap.IsSliceOf sl vl vu .none) (pl:IsPart vl lo) (pu:IsPart vu hi)
 (h:Q (((cu n 0 lo:Nat):Int),1,cu n n hi - cu n 0 lo) s):wpAny (model prog w) A (Builtin.Slice.sliceApplied (.ref sl) (pure (n:Int))) Q E s:=by
 obtain ⟨os,hos,hcs,hds⟩:=id hs
 unfold Builtin.Slice.sliceApplied Builtin.Slice.sliceFields
 refine NX (NX (PZ hos hds (x:=vl) rfl (NX (PZ hos hds (x:=vu) rfl (NX (PZ hos hds (x:=.none) rfl (N1 ?_)))))))
 refine NX (slicePart_none ?_)
 show wpAny _ _ (if ((1:Int) == 0)=true then _ else _) _ _ s
 rw [if_neg (by decide)]
 refine NX (kU pl (NX (kU pu (NX (N1 ?_)))))
 show wpAny _ _ (match Tj lo hi 1 (n:Int) with | (lo,hi)=>pure (lo,(1:Int),RZ lo hi 1)) _ _ s
 rw [tK lo hi n]
 show wpAny _ _ (pure (((cu n 0 lo:Nat):Int),(1:Int),RZ ((cu n 0 lo:Nat):Int) ((cu n n hi:Nat):Int) 1)) _ _ s
 rw [tL]
 exact N1 h
theorem zG (xs:Array Value) (i k:Nat):((OP k).filterMap fun (m:Nat)=>xs[((i:Int)+(m:Int) * 1).toNat]?).toArray=((xs.toList.drop i).take k).toArray:=by
 have e:(fun (m:Nat)=>xs[((i:Int)+(m:Int) * 1).toNat]?)=fun m=>xs[i+m]?:=by
  funext m
  have:((i:Int)+(m:Int) * 1).toNat=i+m:=by lia
  rw [this]
 rw [e]
 have:=pick_run xs i k
 rw [TV] at this
 have e2:((fun x=>xs[x]?)∘fun x=>i+x)=fun m=>xs[i+m]?:=rfl
 rw [e2] at this
 rw [this]
theorem iS {lo hi:Option Int} (ht:IsTup s.heap t items) (hs:s.heap.IsSliceOf sl vl vu .none) (pl:IsPart vl lo) (pu:IsPart vu hi)
 (hw:¬ (cu items.size 0 lo=0∧cu items.size items.size hi=items.size))
 (h:Q (.ref s.heap.objs.size) { s with heap:=s.heap.push { cls:=.type "tuple",data:=.seq ((items.toList.drop (cu items.size 0 lo)).take (cu items.size items.size hi - cu items.size 0 lo)).toArray } })
 (hsz:items.size≤sizeLine):wpAny (model prog w) A (getItem (.ref t) (.ref sl)) Q E s:=by
 have htake:sizeOk (.seq ((items.toList.drop (cu items.size 0 lo)).take (cu items.size items.size hi - cu items.size 0 lo)).toArray):=by
  show ((items.toList.drop (cu items.size 0 lo)).take (cu items.size items.size hi - cu items.size 0 lo)).toArray.size≤sizeLine
  rw [Oo,Pb,List.length_drop,OT]
  lia
 have hj:cu items.size items.size hi≤items.size:=Hl _ _ (N2 _) hi
 obtain ⟨os,hos,hcs,hds⟩:=id hs
 have hTs:s.TypeIs (.ref sl) "slice":=⟨os,hos,hcs⟩
 unfold getItem
 try with_reducible refine Pc ?_
 first | refine NX (N1 ?_) | skip
 refine NX (TY ht.typeIs (by decide) ?_)
 refine NX (Qd (name:=NY "__getitem__") ht.typeIs QM
  (Px QM ht.typeIs entry_tuple_getitem ?_ (args_tuple_getitem _ _)))
 show wpAny _ _ (Builtin.Tuple.tupleItemsOf (.ref t) >>= _) _ _ s
 refine NX (tupleItemsOf_ ht ?_)
 refine NX (Ql hTs ?_)
 rw [if_pos (by decide)]
 refine NX (eU hs pl pu ?_)
 have hno:¬ ((((cu items.size 0 lo:Nat):Int) == 0 && (1:Int) == 1 && (cu items.size items.size hi - cu items.size 0 lo) == items.size)=true):=by
  intro q
  rw [Rt,Rt] at q
  have q1:((cu items.size 0 lo:Nat):Int)=0:=eq_of_beq q.1.1
  have q2:cu items.size items.size hi - cu items.size 0 lo=items.size:=eq_of_beq q.2
  exact hw ⟨by lia,by lia⟩
 show wpAny _ _ (if (((cu items.size 0 lo:Nat):Int) == 0 && (1:Int) == 1 && (cu items.size items.size hi - cu items.size 0 lo) == items.size)=true then _ else _) _ _ s
 rw [if_neg hno,zG]
 first
  | exact NX (m:=R4 _) (O4 (N1 ⟨_,rfl,N1 h⟩) htake)
  | exact NX (m:=R4 _) (O4 (NX (N1 (N1 ⟨_,rfl,N1 h⟩))) htake)
  | exact NX (NX (m:=R4 _) (O4 (N1 (N1 ⟨_,rfl,N1 h⟩)) htake))
  | exact NX (NX (m:=R4 _) (O4 (N1 ⟨_,rfl,N1 h⟩) htake))
end
end HT
namespace L2
open PySem PySem.Spec PyProof.Rows
noncomputable abbrev TO:=St→Hp→(Option Int→Hp→Prop)→Prop
noncomputable def PO (X:Cx) (e:Option Expr) (t:TO):Prop :=
 ∀ (aa:List (Addr×Obj)) (s:Shared) (σ:St) (H:Hp) (Q:Option Int→Hp→Prop),Inv X aa σ H s→t σ H Q →
  wpAny (model X.prog X.w) X.A (evalPart e X.env) (fun u s'=>∃ o H',Inv X aa σ H' s'∧IsPart u o∧Q o H') X.xe s
noncomputable def DA:TO:=fun _ H Q=>Q none H
noncomputable def Kz (t:TE):TO:=fun σ H Q=>t σ H fun x H1=>∃ i,x=.int i∧Q (some i) H1
theorem intsAre_of:∀ {us:List Value},Vals (ns.map V.int) us→IntsAre us ns:=by
 induction ns with
 | nil=>intro us r; rw [Qo] at r; cases r; exact .nil
 | cons n ns ih =>
  intro us r
  rw [N5] at r
  cases r with
  | cons r1 r2 =>
   obtain ⟨t,e⟩:=r1
   subst e
   exact .cons n t (ih r2)
section
variable {lo hi:Option Expr}
theorem DB:PO X none DA:=by
 intro aa s σ H Q I h
 rw [evalPart_none]
 exact N1 ⟨none,H,I,.none,h⟩
theorem DC (h:PE X e te):PO X (some e) (Kz te):=by
 intro aa s σ H Q I hw
 rw [evalPart_some]
 refine bC (h aa s σ H _ I hw) fun u s1 ⟨x,H1,I1,r1,q1⟩=>?_
 obtain ⟨i,rfl,q⟩:=q1
 obtain ⟨t,rfl⟩:=r1
 exact ⟨some i,H1,I1,.int i t,q⟩
noncomputable def Dh (X:Cx) (r:V→Option Int→Option Int→Hp→VK→Prop):Prop :=
 ∀ (aa:List (Addr×Obj)) (s:Shared) (σ:St) (H:Hp) (x:V) (v vl vu:Value) (lo hi:Option Int) (sl:Addr) (Q:VK),Inv X aa σ H s→RelV x v→s.heap.IsSliceOf sl vl vu .none→IsPart vl lo→IsPart vu hi→r x lo hi H Q →
  ∃ T id,typeLookup (.type T) "__getitem__"=pure (some (.builtin id))∧s.TypeIs v T∧wpAny (model X.prog X.w) X.A (getItem v (.ref sl)) (EP X aa σ Q) X.xe s
theorem Dh.or (h:Dh X r) (h':Dh X r'):Dh X (fun x lo hi H Q=>r x lo hi H Q∨r' x lo hi H Q):=by
 intro aa s σ H x v vl vu lo hi sl Q I rx hs pl pu q
 rcases q with q | q
 ·exact h aa s σ H x v vl vu lo hi sl Q I rx hs pl pu q
 ·exact h' aa s σ H x v vl vu lo hi sl Q I rx hs pl pu q
noncomputable def NP (r:V→Option Int→Option Int→Hp→VK→Prop) (te:TE) (tl th:TO):TE:=fun σ H Q=>te σ H fun x H1=>tl σ H1 fun l H2=>th σ H2 fun u H3=>r x l u H3 Q
theorem zH (hr:Dh X r) (he:PE X e te) (hl:PO X lo tl) (hu:PO X hi th):PE X (.Subscript e (.Slice lo hi none p2) pos) (NP r te tl th):=by
 intro aa s σ H Q I h
 refine Subscript_ (bC (he aa s σ H _ I h) fun v s1 ⟨x,H1,I1,r1,q1⟩=>?_)
 refine wpAny_Slice (bC (hl aa s1 σ H1 _ I1 q1) fun vl s2 ⟨l,H2,I2,pl,q2⟩=>bC (hu aa s2 σ H2 _ I2 q2) fun vu s3 ⟨u,H3,I3,pu,q3⟩=>?_)
 rw [evalPart_none]
 refine N1 ?_
 have I4:Inv X aa σ H3 { s3 with heap:=s3.heap.push { cls:=.type "slice",data:=.fields #[vl,vu,.none] } }:=I3.kept (t':=s3.toks) fun b ob q=>N7 _ q
 obtain ⟨T,id,hT,ht,hg⟩:=hr aa { s3 with heap:=s3.heap.push { cls:=.type "slice",data:=.fields #[vl,vu,.none] } } σ H3 x v vl vu l u s3.heap.objs.size Q I4 r1 (Heap.IsSliceOf.new ..) pl pu q3
 show wpAny (model X.prog X.w) X.A (subscriptTail e (.Slice lo hi none p2) v (.ref s3.heap.objs.size)) (EP X aa σ Q) X.xe { s3 with heap:=s3.heap.push { cls:=.type "slice",data:=.fields #[vl,vu,.none] } }
 exact tail_any (ops:=[.ref s3.heap.objs.size,v]) ht hT hg (by walk_at "u")
noncomputable def oE (xs:List V) (lo hi:Option Int):List V:=(xs.drop (HT.cu xs.length 0 lo)).take (HT.cu xs.length xs.length hi - HT.cu xs.length 0 lo)
theorem jU (xs) (lo hi):(oE xs lo hi).length≤xs.length:=by
 unfold oE
 rw [Pb,List.length_drop]
 lia
noncomputable def MT (K:NZ):V→Option Int→Option Int→Hp→VK→Prop:=fun x lo hi H Q=>∃ a xs,x=.ref a∧cY K H a xs ∧
 ¬ (HT.cu xs.length 0 lo=0∧HT.cu xs.length xs.length hi=xs.length)∧∀ p,H p=none→Q (.ref p) (upd H p (.tup (oE xs lo hi)))
theorem Ho:Dh X (MT X.K):=by
 intro aa s σ H x v vl vu lo hi sl Q I rx hs pl pu h
 obtain ⟨a,xs,rfl,hx,hw,q⟩:=h
 cases rx
 obtain ⟨its,r,ht,hz⟩:=I.tuple hx
 have hlen:its.toArray.size=xs.length:=by rw [Oo]; exact r.length.symm
 refine ⟨"tuple",_,QM.lookup,ht.typeIs,?_⟩
 refine HT.iS ht hs pl pu (by rw [hlen]; exact hw) ?_ (by rw [hlen]; exact hz)
 rw [hlen]
 refine ⟨.ref s.heap.objs.size,_,I.laid (t':=s.toks) (o:=.tup (oE xs lo hi)) (fun b ob q=>N7 _ q) (N2 _) ?_,rfl,q _ (I.hok.fresh (N2 _))⟩
 exact ⟨N8 (jU xs lo hi) hz,_,(r.drop (HT.cu xs.length 0 lo)).take (HT.cu xs.length xs.length hi - HT.cu xs.length 0 lo),IsTup.new _ _⟩
theorem Vals.vn (r:Vals xs us):us=[]↔xs=[]:=by
 cases r with
 | nil=>simp
 | cons _ _=>simp
end
noncomputable def J0 (n:Nat) (i:Int):Option Nat:=if 0≤i then (if i<n then some i.toNat else none) else if -(n:Int)≤i then some (i+n).toNat else none
noncomputable def jr {α:Type} (xs:List α) (i:Int):Option α:=(J0 xs.length i).bind fun j=>xs[j]?
theorem DE (h:J0 n i=some j):seqIndex? i n=some j∧j<n∧ -(n:Int)≤i∧i<n:=by
 unfold J0 at h
 by_cases h0:0≤i
 ·rw [if_pos h0] at h
  by_cases h1:i<n
  ·rw [if_pos h1] at h
   have e:i.toNat=j:=Py h
   exact ⟨by rw [seqIndex_of h0 h1,e],by lia,by lia,h1⟩
  ·rw [if_neg h1] at h; cases h
 ·rw [if_neg h0] at h
  by_cases h1: -(n:Int)≤i
  ·rw [if_pos h1] at h
   have e:(i+n).toNat=j:=Py h
   exact ⟨by rw [seqIndex_neg (by lia) h1,e],by lia,h1,by lia⟩
  ·rw [if_neg h1] at h; cases h
theorem vo (h:jr xs i=some v):∃ j,seqIndex? i xs.length=some j∧xs[j]?=some v∧j<xs.length∧ -(xs.length:Int)≤i∧i<xs.length:=by
 unfold jr at h
 cases e:J0 xs.length i with
 | none=>rw [e] at h; cases h
 | some j =>
  rw [e] at h
  obtain ⟨h1,h2,h3,h4⟩:=DE e
  exact ⟨j,h1,h,h2,h3,h4⟩
noncomputable def kB (b:Expr):Prop:=∀ o i,subscripted b false o i=operate [o,i] (getItem o i)
noncomputable def FU (X:Cx) (r:R2):Prop :=
 ∀ (value slice:Expr) (aa:List (Addr×Obj)) (s:Shared) (σ:St) (H:Hp) (x y:V) (v u:Value) (Q:VK),Inv X aa σ H s→RelV x v→RelV y u→r x y H Q →
  subscripted slice false v u=operate [v,u] (getItem v u)→wpAny (model X.prog X.w) X.A (subscriptTail value slice v u) (EP X aa σ Q) X.xe s
noncomputable def MU (X:Cx) (id:String) (r:V→List V→Hp→VK→Prop):Prop :=
 ∀ (aa:List (Addr×Obj)) (s:Shared) (σ:St) (H:Hp) (x:V) (xs:List V) (v:Value) (us:List Value) (Q:VK),Inv X aa σ H s→RelV x v→Vals xs us→r x xs H Q →
  wpAny (model X.prog X.w) X.A (call (.builtin id) (v::us)) (EP X aa σ Q) X.xe s
section
theorem FU.or (h:FU X r) (h':FU X r'):FU X (fun x y H Q=>r x y H Q∨r' x y H Q):=by
 intro value slice aa s σ H x y v u Q I rx ry q hs
 rcases q with q | q
 ·exact h value slice aa s σ H x y v u Q I rx ry q hs
 ·exact h' value slice aa s σ H x y v u Q I rx ry q hs
theorem KA (hr:FU X r) (ha:PE X a ta) (hb:PE X b tb) (hs:kB b):PE X (.Subscript a b pos) (Ml r ta tb):=by
 intro aa s σ H Q I h
 exact Subscript_ (G2 ha hb I h fun v u s2 x y H2 I2 rx ry q=>hr a b aa s2 σ H2 x y v u Q I2 rx ry q (hs _ _))
noncomputable def MV (K:NZ):R2:=fun x y H Q=>∃ p xs i v,x=.ref p∧y=.int i∧gO K H p xs∧jr xs i=some v∧Q v H
noncomputable def MW (K:NZ):R2:=fun x y H Q=>∃ p xs i v,x=.ref p∧y=.int i∧cY K H p xs∧jr xs i=some v∧Q v H
theorem DF:FU X (MV X.K):=by
 intro value slice aa s σ H x y v u Q I rx ry h hs
 obtain ⟨p,xs,i,z,rfl,rfl,hq,he,q⟩:=h
 cases rx
 obtain ⟨t,rfl⟩:=ry
 obtain ⟨its,r,pl,hz⟩:=I.list hq
 obtain ⟨j,h1,h2,h3,h4,h5⟩:=vo he
 obtain ⟨w,ew,rw'⟩:=r.get h2
 have hl:=r.length
 have hn:=oB
 have fin:EP X aa σ Q w s:=⟨z,H,I,rw',q⟩
 by_cases h0:0≤i
 ·have hj:i.toNat=j:=by
   rw [seqIndex_of h0 h5] at h1
   exact Py h1
  exact item_listR pl.isList h0 (by lia) (by rw [hj]; simpa using ew) fin hs
 ·have hj:(i+(its.toArray.size:Int)).toNat=j:=by
   rw [seqIndex_neg (by lia) h4] at h1
   rw [Oo,← hl]
   exact Py h1
  exact subscriptTail_builtinR (x:=w) pl.isList.typeIs T4.lookup
   (wpAny_getItem_list_neg (Q:=fun r s'=>r=w∧EP X aa σ Q r s') pl.isList (by lia) (by rw [Oo] <;> lia) (by lia) (by rw [hj]; simpa using ew) ⟨rfl,fin⟩) hs
theorem Hq:FU X (MW X.K):=by
 intro value slice aa s σ H x y v u Q I rx ry h hs
 obtain ⟨p,xs,i,z,rfl,rfl,hq,he,q⟩:=h
 cases rx
 obtain ⟨t,rfl⟩:=ry
 obtain ⟨its,r,pl,hz⟩:=I.tuple hq
 obtain ⟨j,h1,h2,h3,h4,h5⟩:=vo he
 obtain ⟨w,ew,rw'⟩:=r.get h2
 have hl:=r.length
 have hn:=oB
 have fin:EP X aa σ Q w s:=⟨z,H,I,rw',q⟩
 exact subscriptTail_builtinR (x:=w) pl.typeIs slot_tuple_getitem.lookup
  (getItem_tuple (j:=j) (Q:=fun r s'=>r=w∧EP X aa σ Q r s') pl (by lia) (by lia) (by rw [Oo,← hl]; exact h1) (by simpa using ew) ⟨rfl,fin⟩) hs
theorem oF (lo hi) (n):(sliceBounds lo hi none n).1=((HT.cu n 0 lo:Nat):Int)∧(sliceBounds lo hi none n).2.1=((HT.cu n n hi:Nat):Int)∧(sliceBounds lo hi none n).2.2=1:=by
 refine ⟨?_,?_,rfl⟩
 ·cases lo with
  | none=>simp [sliceBounds,HT.cu]
  | some i =>
   simp only [sliceBounds,HT.cu,Option.getD_none,show (1:Int)>0 by decide,if_true]
   by_cases h:i<0
   ·simp only [h,if_true] <;> lia
   ·simp only [h,if_false] <;> lia
 ·cases hi with
  | none=>simp [sliceBounds,HT.cu]
  | some i =>
   simp only [sliceBounds,HT.cu,Option.getD_none,show (1:Int)>0 by decide,if_true]
   by_cases h:i<0
   ·simp only [h,if_true] <;> lia
   ·simp only [h,if_false] <;> lia
theorem mK (its:List Value) (lo hi):slicePick its.toArray lo hi none=((its.drop (HT.cu its.length 0 lo)).take (HT.cu its.length its.length hi - HT.cu its.length 0 lo)).toArray:=by
 obtain ⟨h1,h2,h3⟩:=oF lo hi its.toArray.size
 unfold slicePick
 rw [h1,h2,h3]
 simp only [sliceRange_one,pick_run,Oo] <;> rfl
noncomputable def MX (K:NZ):V→Option Int→Option Int→Hp→VK→Prop:=fun x lo hi H Q=>∃ a xs,x=.ref a∧gO K H a xs∧∀ p,H p=none→Q (.ref p) (upd H p (.lst (oE xs lo hi)))
theorem DG:Dh X (MX X.K):=by
 intro aa s σ H x v vl vu lo hi sl Q I rx hs pl pu h
 obtain ⟨a,xs,rfl,hx,q⟩:=h
 cases rx
 obtain ⟨its,r,ht,hz⟩:=I.list hx
 have hlen:=r.length
 refine ⟨"list",_,T4.lookup,ht.isList.typeIs,?_⟩
 refine wpAny_getItem_list_slice ht.isList hs pl pu .none (by simp) ?_ (by rw [Oo] <;> lia)
 rw [mK,← hlen]
 refine ⟨.ref s.heap.objs.size,_,I.laid (t':=s.toks) (o:=.lst (oE xs lo hi)) (fun b ob q=>N7 _ q) (N2 _) ?_,rfl,q _ (I.hok.fresh (N2 _))⟩
 exact ⟨N8 (jU xs lo hi) hz,_,0,(r.drop (HT.cu xs.length 0 lo)).take (HT.cu xs.length xs.length hi - HT.cu xs.length 0 lo),Oj _ rfl⟩
theorem oG:f9 X (.builtin "len") (fun xs H Q=>∃ p ys,xs=[.ref p]∧(gO X.K H p ys∨cY X.K H p ys)∧Q (.int ys.length) H):=by
 intro aa s σ H xs us Q I r h
 obtain ⟨p,ys,rfl,hq,q⟩:=h
 obtain ⟨u,rfl,rx⟩:=vals1 r
 cases rx
 have hn:=oB
 rcases hq with hq | hq
 ·obtain ⟨its,r',pl,hz⟩:=I.list hq
  have hlen:=r'.length
  exact Calls.call_len_list pl.isList (by simp only [Oo] <;> lia) ⟨.int ys.length,H,I.tok _,⟨s.toks+1,by rw [Oo,hlen]⟩,q⟩
 ·obtain ⟨its,r',pl,hz⟩:=I.tuple hq
  have hlen:=r'.length
  exact len_tuple pl (by simp only [Oo] <;> lia) ⟨.int ys.length,H,I.tok _,⟨s.toks+1,by rw [Oo,hlen]⟩,q⟩
theorem oH:f9 X (.type "list") (fun xs H Q=>∃ p ys,xs=[.ref p]∧(gO X.K H p ys∨cY X.K H p ys)∧∀ l,H l=none→Q (.ref l) (upd H l (.lst ys))):=by
 intro aa s σ H xs us Q I r h
 obtain ⟨p,ys,rfl,hq,q⟩:=h
 obtain ⟨u,rfl,rx⟩:=vals1 r
 cases rx
 have fin:∀ (its:List Value),Vals ys its→ys.length≤sizeLine→∀ (h':Heap) (c':Nat),(∀ b o',s.heap.get? b=some o'→h'.get? b=some o') →
  h'.get? s.heap.objs.size=some { cls:=.type "list",dict:=none,data:=.seq its.toArray c',slots:= #[] }→EP X aa σ Q (.ref s.heap.objs.size) { s with heap:=h' }:=fun its r' hz h' c' kp e =>
  ⟨.ref s.heap.objs.size,_,I.laid (t':=s.toks) kp (N2 _) (show bg X.prog X.w _ h' _ (.lst ys) from ⟨hz,its,c',r',e⟩),rfl,q _ (I.hok.fresh (N2 _))⟩
 rcases hq with hq | hq
 ·obtain ⟨its,r',pl,hz⟩:=I.list hq
  have hlen:=r'.length
  obtain ⟨o,ho,hc,n,hd⟩:=pl.isList
  exact call_list_seq p (.inl rfl) ho hc hd (fun h' c' kp e=>fin its r' hz h' c' kp e) (by simp only [Oo] <;> lia)
 ·obtain ⟨its,r',pl,hz⟩:=I.tuple hq
  have hlen:=r'.length
  obtain ⟨o,ho,hc,n,hd⟩:=pl
  exact call_list_seq p (.inr rfl) ho hc hd (fun h' c' kp e=>fin its r' hz h' c' kp e) (by simp only [Oo] <;> lia)
theorem mO:f9 X (.type "tuple") (fun xs H Q=>∃ p ys,xs=[.ref p]∧((gO X.K H p ys∧∀ l,H l=none→Q (.ref l) (upd H l (.tup ys)))∨(cY X.K H p ys∧Q (.ref p) H))):=by
 intro aa s σ H xs us Q I r h
 obtain ⟨p,ys,rfl,h⟩:=h
 obtain ⟨u,rfl,rx⟩:=vals1 r
 cases rx
 rcases h with ⟨hq,q⟩ | ⟨hq,q⟩
 ·obtain ⟨its,r',pl,hz⟩:=I.list hq
  have hlen:=r'.length
  refine call_tuple_list pl.isList (fun h' kp=>?_) (by simp only [Oo] <;> lia)
  have I1:Inv X aa σ H { s with heap:=h' }:=I.kept (t':=s.toks) kp
  have I2:Inv X aa σ (upd H h'.objs.size (.tup ys)) { s with heap:=h'.push { cls:=.type "tuple",data:=.seq its.toArray } } :=
   I1.laid (t':=s.toks) (fun b o e=>N7 _ e) (N2 _) (show bg X.prog X.w _ _ _ (.tup ys) from ⟨hz,its,r',IsTup.new _ _⟩)
  exact ⟨.ref h'.objs.size,_,I2,rfl,q _ (I1.hok.fresh (N2 _))⟩
 ·obtain ⟨its,r',pl,hz⟩:=I.tuple hq
  exact call_tuple_same pl ⟨.ref p,H,I,rfl,q⟩
noncomputable def MY (K:NZ) (T:String) (x:V) (H:Hp):Prop:=match x with
 | .str _=>T="str"
 | .int _=>T="int"
 | .ref p=>(T="list"∧∃ xs,gO K H p xs)∨(T="tuple"∧∃ o,K.lookup p=some o∧o.cls=.type "tuple"∧o.dict=none) ∨
  (T="dict"∧((∃ kvs,H p=some (.dK kvs))∨∃ kvs,H p=some (.dT kvs)))∨(T="set"∧∃ S n,H p=some (.set S n))
 | _=>False
theorem zI (I:Inv X aa σ H s) (r:RelV x v) (ty:MY X.K T x H) :
 s.TypeIs v T∧∀ a,v=.ref a→∃ ob,s.heap.get? a=some ob∧ob.dict=none:=by
 cases x with
 | str z =>
  obtain ⟨t,rfl⟩:=r
  cases (show T="str" from ty)
  exact ⟨typeIs_str s z t,fun _ e=>nomatch e⟩
 | int i =>
  obtain ⟨t,rfl⟩:=r
  cases (show T="int" from ty)
  exact ⟨Rb s i t,fun _ e=>nomatch e⟩
 | ref p =>
  cases r
  rcases ty with ⟨rfl,xs,hq⟩ | ⟨rfl,o,hk,hc,hd⟩ | ⟨rfl,hk⟩ | ⟨rfl,S,n,hk⟩
  ·obtain ⟨its,_,pl,_⟩:=I.list hq
   refine ⟨pl.isList.typeIs,fun a e=>?_⟩
   cases e
   obtain ⟨o,n,e,c,hd,_⟩:=pl
   exact ⟨o,e,hd⟩
  ·refine ⟨⟨o,I.oA p o hk,hc⟩,fun a e=>?_⟩
   cases e
   exact ⟨o,I.oA _ o hk,hd⟩
  ·have z:∃ o,s.heap.get? p=some o∧o.ExactDict:=by
    rcases hk with ⟨kvs,hk⟩ | ⟨kvs,hk⟩
    ·obtain ⟨_,_,_,_,o,_,_,e,ex,_⟩:=I.hok p _ hk
     exact ⟨o,e,ex⟩
    ·obtain ⟨_,_,_,_,o,_,_,e,ex,_⟩:=I.hok p _ hk
     exact ⟨o,e,ex⟩
   obtain ⟨o,e,ex⟩:=z
   refine ⟨⟨o,e,ex.1⟩,fun a e2=>?_⟩
   cases e2
   exact ⟨o,e,ex.2.1⟩
  ·obtain ⟨o,_,_,_,e,ex,_⟩:=I.hok p _ hk
   refine ⟨⟨o,e,ex.1⟩,fun a e2=>?_⟩
   cases e2
   exact ⟨o,e,ex.2.1⟩
 | _=>exact OZ ty
noncomputable def MZ (K:NZ) (T:String) (r:V→List V→Hp→VK→Prop) (to:TE):TE:=fun σ H Q=>to σ H fun x H1=>MY K T x H1∧r x [] H1 Q
noncomputable def NQ (K:NZ) (T:String) (r:V→List V→Hp→VK→Prop) (to:TE) (t:TA):TE:=fun σ H Q=>to σ H fun x H1=>MY K T x H1∧t σ H1 fun xs H2=>r x xs H2 Q
variable {T id:String}
theorem Hr (pa:PlainAttrs T) (slot:Slot T name id) (hty:typeOf (.builtin id)=pure (.type "method_descriptor")) (hm:MU X id r) (ho:PE X o to)
 (hbase:attributeBase o name X.env (eval o X.env)=eval o X.env:=by rfl) (hline:(apos.endLine == cpos.line)=true:=by rfl):PE X (.Call (.Attribute o name apos) [] [] cpos) (MZ X.K T r to):=by
 intro aa s σ H Q I h
 refine wpAny_Call_method0_late hbase hline (bC (ho aa s σ H _ I h) fun v s1 ⟨x,H1,I1,r1,ty,q1⟩=>?_)
 obtain ⟨h1,h2⟩:=zI I1 r1 ty
 exact ⟨T,id,pa,slot,hty,h1,h2,Tz rfl (PySem.evalArgs_none (hm aa s1 σ H1 x [] v [] Q I1 r1 .nil q1))⟩
theorem FW (pa:PlainAttrs T) (slot:Slot T name id) (hty:typeOf (.builtin id)=pure (.type "method_descriptor")) (hm:MU X id r) (ho:PE X o to) (ha:PA X (e::es) t)
 (hbase:attributeBase o name X.env (eval o X.env)=eval o X.env:=by rfl)
 (hfew:((backTo cpos (starEach (e::es) X.env)).all (fun x=> !x.1) && (backToKw cpos (keywordEach [] X.env)).all (fun x=>x.1.isSome)
   && decide ((e::es).length+([]:List Keyword).length+(if ([]:List Keyword).isEmpty then 0 else 1)<30))=true:=by rfl)
 (hline:(apos.endLine == cpos.line)=true:=by rfl) (hs:starEach (e::es) X.env=(false,eval e X.env)::starEach es X.env:=by rfl) (hplain:(backTo cpos (starEach es X.env)).any (·.1)=false:=by rfl) :
 PE X (.Call (.Attribute o name apos) (e::es) [] cpos) (NQ X.K T r to t):=by
 intro aa s σ H Q I h
 refine wpAny_Call_method_late hbase hfew hline rfl (bC (ho aa s σ H _ I h) fun v s1 ⟨x,H1,I1,r1,ty,q1⟩=>?_)
 obtain ⟨h1,h2⟩:=zI I1 r1 ty
 refine ⟨T,id,pa,slot,hty,h1,h2,?_⟩
 have hA:=ha cpos aa s1 σ H1 _ I1 q1
 rw [hs] at hA ⊢
 refine Tz (by show (false || (backTo cpos (starEach es X.env)).any (·.1))=false; rw [hplain] <;> rfl) (Calls.evalArgs_plain ?_)
 exact bC hA fun us s2 ⟨vs,H2,I2,r2,q2⟩=>hm aa s2 σ H2 x vs v us Q I2 r1 r2 q2
end
noncomputable def Ny (X:Cx) (id:String) (r:V→List V→Hp→VK→Prop):Prop :=
 ∀ (aa:List (Addr×Obj)) (s:Shared) (σ:St) (H:Hp) (x:V) (xs:List V) (v:Value) (us:List Value) (Q:VK),Inv X aa σ H s→RelV x v→Vals xs us→r x xs H Q →
  wpAny (model X.prog X.w) X.A (call (.builtin id) (v::us)) (EP X aa σ Q) X.xe s
theorem Vals.one:∀ {x:V} {us:List Value},Vals [x] us→∃ u,us=[u]∧RelV x u
 | _,_,.cons r .nil=>⟨_,rfl,r⟩
theorem Vals.rep (h:Vals xs us):∀ k:Nat,Vals (Of k xs).flatten (Of k us).flatten
 | 0=>.nil
 | k+1=>by
  rw [PU,PU,QB,QB]
  exact Vals.append h (Vals.rep h k)
theorem foldl_rep (its):∀ (k:Nat) (acc:List Value),
 Rf (fun x1 x2=>x1++x2) acc.toArray (Of k its.toArray)=(acc++(Of k its).flatten).toArray
 | 0,acc=>by simp
 | k+1,acc=>by
  have e:acc.toArray++its.toArray=(acc++its).toArray:=by simp
  have e2:(acc++its)++(Of k its).flatten=acc++(Of (k+1) its).flatten:=by
   rw [PU,QB,Ov]
  rw [← e2,← foldl_rep its k (acc++its),← e,PU,Pp]
section
theorem Inv.tM {its its':List Value} (I:Inv X aa σ H s) (hH:H l=some (.lst xs))
 (e:s.heap.get? l=some { cls:=.type "list",data:=.seq its.toArray n }) (hf:f its.toArray=its'.toArray) (hv:Vals ys its') (hz:ys.length≤sizeLine) :
 Inv X aa σ (upd H l (.lst ys)) { s with heap:=s.heap.update l (OI f),toks:=t' }:=by
 have q:=PySem.IsL.update e f
 rw [hf] at q
 refine I.write (x:=l) (e:=l) (by rw [hH]; exact trivial) (.inl rfl) (fun b' u hb hu=>(R7 s.heap (OI f) (Oq hb)).trans hu) ⟨_,q⟩ ?_
 exact ⟨hz,its',_,hv,q⟩
theorem Inv.DH (I:Inv X aa σ H s) (hv:Vals ys its) (hz:ys.length≤sizeLine) :
 Inv X aa σ (upd H s.heap.objs.size (.lst ys)) { s with heap:=s.heap.push { cls:=.type "list",data:=.seq its.toArray },toks:=t' } :=
 I.laid (fun _ _ q=>N7 _ q) (N2 _) ⟨hz,its,0,hv,Oj _ rfl⟩
theorem Inv.fresh (I:Inv X aa σ H s):H s.heap.objs.size=none:=I.hok.fresh (N2 _)
theorem Inv.qj (I:Inv X aa σ H s) (hH:H l=some (.lst xs)):xs.length≤sizeLine∧∃ (its:List Value) (n:Nat),Vals xs its∧xs.length=its.length∧s.heap.get? l=some { cls:=.type "list",data:=.seq its.toArray n }:=by
 obtain ⟨z,its,n,r,e⟩:=I.hok l _ hH
 exact ⟨z,its,n,r,r.length,e⟩
theorem zJ (h:n≤sizeLine):Tp n=false:=by
 unfold Tp
 exact decide_eq_false (by lia)
end
section
noncomputable def DI:V→List V→Hp→VK→Prop:=fun x vs H Q=>∃ l xs y,x=.ref l∧vs=[y]∧H l=some (.lst xs)∧xs.length<sizeLine∧Q .non (upd H l (.lst (xs++[y])))
theorem nk:Ny X "list.append" DI:=by
 intro aa s σ H x vs v us Q I rx rv h
 obtain ⟨l,xs,y,rfl,rfl,hH,hz,q⟩:=h
 cases rx
 obtain ⟨u,rfl,ru⟩:=rv.one
 obtain ⟨z,its,n,r,hl,e⟩:=I.qj hH
 refine Rc F.slot_list_append ⟨_,e,rfl⟩ F.entry_list_append (F.args_list_append_2 _ _) (PySem.list_append l its.toArray n u (by rw [Oo]; lia)) ⟨e,?_⟩
 refine ⟨.non,_,I.tM (its':=its++[u]) hH e (by simp) (r.append (.cons ru .nil)) ?_,rfl,q⟩
 rw [OL,Sa]
 lia
noncomputable def M0:R2:=fun x y H Q=>∃ l k xs,x=.ref l∧y=.int k∧H l=some (.lst xs)∧ -(2 ^ 63)≤k∧k<2 ^ 63∧xs.length * k.toNat≤sizeLine ∧
 ∀ p,H p=none→Q (.ref p) (upd H p (.lst (Of k.toNat xs).flatten))
theorem len_rep {α:Type} (xs:List α) (k):(Of k xs).flatten.length=k * xs.length:=by
 induction k with
 | zero=>simp
 | succ k ih=>rw [PU,QB,OL,ih,RG,Nat.add_comm]
theorem Hs:fm X (binaryOp .Mult) M0:=by
 intro aa s σ H x y v u Q I rx ry h
 obtain ⟨l,k,xs,rfl,rfl,hH,h1,h2,hz,q⟩:=h
 cases rx
 obtain ⟨t,rfl⟩:=ry
 obtain ⟨z,its,n,r,hl,e⟩:=I.qj hH
 have hlen:its.toArray.size * k.toNat≤sizeLine:=by rw [Oo,← hl]; exact hz
 have hcap:¬ its.toArray.size * k.toNat>(2 ^ 63 - 1) / 8:=by
  have:(sizeLine:Nat)≤(2 ^ 63 - 1) / 8:=by decide
  lia
 have hfit:¬ (!Builtin.List.listFitsIndex k)=true:=by
  rw [fitsIndex_both h1 h2]
  exact Oc
 have hlong:¬ Tp (its.toArray.size * k.toNat)=true:=by
  rw [zJ hlen]
  exact Oc
 have hnew:Rf (fun x1 x2=>x1++x2) #[] (Of (if its.toArray.isEmpty=true then 0 else k.toNat) its.toArray)=(Of k.toNat its).flatten.toArray:=by
  have f0:∀ m:Nat,Rf (fun x1 x2=>x1++x2) #[] (Of m its.toArray)=(Of m its).flatten.toArray:=fun m=>by
   have:=foldl_rep its m []
   rw [Qg] at this
   exact this
  rw [f0]
  cases its with
  | nil=>simp
  | cons a r'=>rw [if_neg (by simp)]
 refine wpAny_binaryOp_repeat_ref (T:="list") (U:="int") (by decide) ⟨_,e,rfl⟩ (fun s'=>Rb s' k t) noFill_list_mul F.fills_int_mul SG repeat_list F.slot_int_index.lookup
  (Rc SG (Rb s k t) F.entry_int_rmul (F.args_int_rmul_2 _ _) (int___rmul___int_list k t l its.toArray n)
    ⟨e,rfl,⟨_,e,rfl⟩,Rc F.slot_list_mul ⟨_,e,rfl⟩ F.entry_list_mul (F.args_list_mul_2 _ _) (AutoListH.list___mul___list_int_3 l its.toArray n k t hfit hcap hlong) ⟨e,?_⟩⟩)
 rw [hnew]
 exact ⟨.ref _,_,I.DH (t':=s.toks) (r.rep k.toNat) (by rw [len_rep,RH]; exact hz),rfl,q _ I.fresh⟩
end
section
end
section
end
section
variable {κ:Type} [DecidableEq κ]
noncomputable def kW (kvs:List (κ×V)) (k:κ):Option V:=(kvs.find? fun kv=>decide (kv.1=k)).map (·.2)
noncomputable def putK (kvs:List (κ×V)) (k:κ) (v:V):List (κ×V) :=
 if (kvs.any fun kv=>decide (kv.1=k))=true then kvs.map (fun kv=>if kv.1=k then (kv.1,v) else kv) else kvs++[(k,v)]
theorem kX {p:κ×V} {r:List (κ×V)} {k:κ} (e:p.1=k):kW (p::r) k=some p.2:=by simp [kW,Pz,e]
theorem kY {p:κ×V} {r:List (κ×V)} {k:κ} (e:¬ p.1=k):kW (p::r) k=kW r k:=by simp [kW,Pz,e]
theorem qk (k:κ):∀ kvs:List (κ×V),(kvs.any fun kv=>decide (kv.1=k))=(kW kvs k).isSome
 | []=>rfl
 | p::r=>by
  rw [List.any_cons]
  by_cases e:p.1=k
  ·simp only [kX e,decide_eq_true e,Bool.true_or,Option.isSome_some]
  ·rw [kY e,decide_eq_false e,Bool.false_or]; exact qk k r
theorem ql (kvs) (k:κ) (v):(putK kvs k v).length≤kvs.length+1:=by
 unfold putK
 split
 ·rw [N6]; lia
 ·rw [OL,OE,PM]; lia
theorem j5.jx (r:j5 o u):o.isSome=u.isSome:=by
 cases o with
 | none=>cases u with
  | none=>rfl
  | some _=>exact (show False from r).elim
 | some _=>cases u with
  | none=>exact (show False from r).elim
  | some _=>rfl
theorem j5.getD (r:j5 o u) (rd:RelV d d'):RelV (o.getD d) (u.getD d'):=by
 cases o with
 | none=>cases u with
  | none=>exact rd
  | some _=>exact (show False from r).elim
 | some _=>cases u with
  | none=>exact (show False from r).elim
  | some _=>exact r
theorem KV.val (r:KV kvs vs) (k:κ):j5 (kW kvs k) (valueAt vs k):=by
 unfold KV at r
 induction r with
 | nil=>exact P0
 | @cons p q ps qs h t ih =>
  obtain ⟨h1,h2⟩:=h
  by_cases e:p.1=k
  ·have e':q.1=k:=h1.symm.trans e
   have b:valueAt (q::qs) k=some q.2:=by simp [valueAt,Pz,e']
   rw [kX e,b]; exact h2
  ·have e':¬ q.1=k:=fun z=>e (h1.trans z)
   have b:valueAt (q::qs) k=valueAt qs k:=by simp [valueAt,Pz,e']
   rw [kY e,b]; exact ih
theorem KV.any (r:KV kvs vs) (k:κ):(kvs.any fun kv=>decide (kv.1=k))=vs.any fun kv=>decide (kv.1=k):=by
 unfold KV at r
 induction r with
 | nil=>rfl
 | cons h t ih=>rw [List.any_cons,List.any_cons,ih,h.1]
theorem KV.repl (r:KV kvs vs) (k:κ) (ry:RelV y u) :
 KV (kvs.map fun kv=>if kv.1=k then (kv.1,y) else kv) (vs.map fun kv=>if kv.1=k then (kv.1,u) else kv):=by
 unfold KV at r ⊢
 induction r with
 | nil=>exact .nil
 | @cons p q ps qs h t ih =>
  rw [N5,N5]
  refine .cons ?_ ih
  obtain ⟨h1,h2⟩:=h
  by_cases e:p.1=k
  ·rw [if_pos e,if_pos (h1.symm.trans e)]; exact ⟨h1,ry⟩
  ·rw [if_neg e,if_neg (fun z=>e (h1.trans z))]; exact ⟨h1,h2⟩
theorem KV.put (r:KV kvs vs) (k:κ) (ry:RelV y u):KV (putK kvs k y) (stored vs k u):=by
 unfold putK stored
 rw [r.any k]
 by_cases e:(vs.any fun kv=>decide (kv.1=k))=true
 ·rw [if_pos e,if_pos e]; exact r.repl k ry
 ·rw [if_neg e,if_neg e]; exact S6 r ⟨rfl,ry⟩
theorem KV.length {kvs:List (κ×V)} {vs:List (κ×Value)} (r:KV kvs vs):kvs.length=vs.length:=Ph r
end
theorem qm (r:RelV (kV k) u):(bU P w).is k u=true:=by
 cases k with
 | inl i=>obtain ⟨t,e⟩:=(show ∃ t,u=RQ i t from r); subst e; exact qb P w i t
 | inr x=>obtain ⟨t,e⟩:=(show ∃ t,u=RP x t from r); subst e; exact qe P w x t
theorem nv:∀ {ks:List Key} {us:List Value},Vals (ks.map kV) us→ItemsAre (bU P w) ks us
 | [],_,r=>by rw [Qo] at r; cases r; exact .nil
 | k::ks,_,r=>by
  rw [N5] at r
  cases r with
  | cons h t=>exact .cons (qm h) (nv t)
noncomputable abbrev KT:List (List Key×Addr×V)→List (List Key×Addr×Value)→Prop:=Paired fun p q=>p.1=q.1∧p.2.1=q.2.1∧RelV p.2.2 q.2.2
noncomputable def atT (kvs:List (List Key×Addr×V)) (k:List Key):Option V:=(kvs.find? fun kv=>decide (kv.1=k)).map (·.2.2)
noncomputable def oJ (k:List Key) (v:V) (x:List Key×Addr×V):List Key×Addr×V:=if x.1=k then (x.1,x.2.1,v) else x
noncomputable def qo (kvs:List (List Key×Addr×V)) (k:List Key) (b:Addr) (v:V):List (List Key×Addr×V) :=
 if (atT kvs k).isSome=true then kvs.map (oJ k v) else kvs++[(k,b,v)]
theorem qp (kvs) (k) (b) (v):(qo kvs k b v).length≤kvs.length+1:=by
 unfold qo
 split
 ·rw [N6]; lia
 ·rw [OL,OE,PM]; lia
theorem KT.val (r:KT kvs xs) (k):j5 (atT kvs k) ((atKey xs k).map (·.2)):=by
 induction r with
 | nil=>exact P0
 | @cons p q ps qs h t ih =>
  obtain ⟨h1,_,h2⟩:=h
  by_cases e:p.1=k
  ·have e':q.1=k:=h1.symm.trans e
   have b:atKey (q::qs) k=some q.2:=by simp [atKey,Pz,e']
   have b2:atT (p::ps) k=some p.2.2:=by simp [atT,Pz,e]
   rw [b2,b]; exact h2
  ·have e':¬ q.1=k:=fun z=>e (h1.trans z)
   have b:atKey (q::qs) k=atKey qs k:=by simp [atKey,Pz,e']
   have b2:atT (p::ps) k=atT ps k:=by simp [atT,Pz,e]
   rw [b2,b]; exact ih
theorem KT.repl (r:KT kvs xs) (k) (ry:RelV y u) :
 KT (kvs.map (oJ k y)) (xs.map (putAt k u)):=by
 induction r with
 | nil=>exact .nil
 | @cons p q ps qs h t ih =>
  rw [N5,N5]
  refine .cons ?_ ih
  obtain ⟨h1,h2,h3⟩:=h
  unfold putAt oJ
  by_cases e:p.1=k
  ·rw [if_pos e,if_pos (h1.symm.trans e)]; exact ⟨h1,h2,ry⟩
  ·rw [if_neg e,if_neg (fun z=>e (h1.trans z))]; exact ⟨h1,h2,h3⟩
theorem KT.put (r:KT kvs xs) (k) (ry:RelV y u) :
 KT (qo kvs k b y) (storedH xs k b u):=by
 have e:(atT kvs k).isSome=(atKey xs k).isSome:=by
  rw [(r.val k).jx,QA]
 unfold qo storedH
 rw [e]
 by_cases q:(atKey xs k).isSome=true
 ·rw [if_pos q,if_pos q]; exact r.repl k ry
 ·rw [if_neg q,if_neg q]; exact S6 r ⟨rfl,rfl,ry⟩
section
theorem zK (ok:jq P w H h) (e:Rd H a u):bg P w H h a u:=e.ok ok
theorem ny (ok:jq P w H h) (e:Rd H a (.dK kvs)):kvs.length≤sizeLine∧(a == sysModules)=false∧∃ vs,KV kvs vs∧h.DictOf (bU P w) a vs :=
 show bg P w H h a (.dK kvs) from zK ok e
theorem KC (ok:jq P w H h) (e:H a=some (.dK kvs)):kvs.length≤sizeLine∧(a == sysModules)=false∧∃ vs,KV kvs vs∧h.DictOf (bU P w) a vs:=ny ok (.inl e)
end
section
theorem kZ (I:Inv X aa σ H s) (e:cY X.K H a (ks.map kV)):(tupleKind (bU X.prog X.w)).is s.heap ks a:=by
 obtain ⟨its,r,⟨o,h1,h2,n,h3⟩,_⟩:=I.tuple e
 exact ⟨o,its.toArray,n,h1,h2,h3,by simpa using nv r⟩
theorem qt (I:Inv X aa σ H s) (e:Rd H a (.dT kvs)) (hk:∀ x∈kvs,cY X.K H x.2.1 (x.1.map kV)):kvs.length≤sizeLine∧(a == sysModules)=false ∧
 ∃ xs,KT kvs xs∧s.heap.DictOfH (tupleKind (bU X.prog X.w)) a xs:=by
 obtain ⟨z,y,xs,r,o,es,ep,h1,h2,h3,h4,h5⟩:=(show bg X.prog X.w H s.heap a (.dT kvs) from zK I.hok e)
 refine ⟨z,y,xs,r,o,es,ep,h1,h2,h3,h4,?_,h5⟩
 have all:∀ {l:List (List Key×Addr×V)} {m:List (List Key×Addr×Value)},KT l m→(∀ x∈l,cY X.K H x.2.1 (x.1.map kV))→∀ x∈m,(tupleKind (bU X.prog X.w)).is s.heap x.1 x.2.1:=by
  intro l m q
  induction q with
  | nil=>intro _ x hx; exact nomatch hx
  | @cons p q ps qs hq t ih =>
   intro hl x hx
   rcases Oh.mp hx with e | hx
   ·subst e
    rw [← hq.1,← hq.2.1]
    exact kZ I (hl p Od)
   ·exact ih (fun y hy=>hl y (Oe _ hy)) x hx
 exact all r hk
end
noncomputable def oM (K:NZ) (H:Hp) (a:Addr) (y:V) (r:Option V):Prop :=
 (∃ kvs k,Rd H a (.dK kvs)∧y=kV k∧r=kW kvs k)∨∃ kvs k b,Rd H a (.dT kvs)∧(∀ x∈kvs,cY K H x.2.1 (x.1.map kV))∧y=.ref b∧cY K H b (k.map kV)∧r=atT kvs k
noncomputable def DJ (K:NZ) (H:Hp) (a:Addr) (y v:V) (H':Hp):Prop :=
 (∃ kvs k,H a=some (.dK kvs)∧y=kV k∧kvs.length<sizeLine∧H'=upd H a (.dK (putK kvs k v))) ∨
 ∃ kvs k b,H a=some (.dT kvs)∧(∀ x∈kvs,cY K H x.2.1 (x.1.map kV))∧y=.ref b∧cY K H b (k.map kV)∧kvs.length<sizeLine∧H'=upd H a (.dT (qo kvs k b v))
section
theorem Inv.big (I:Inv X aa σ H s):sysModules<s.heap.objs.size:=by
 have h:mainGlobals<s.heap.objs.size:=(I.mod.glob.keeps I.bk).lt
 exact Nat.lt_trans (by decide) h
theorem nC (hu:A.units+1<cLine) (I:Inv X aa σ H s) (g:oM X.K H a y (some v)) (ry:RelV y u) (h:∀ w' s',Inv X aa σ H s'→RelV v w'→Q w' s') :
 wpAny (model X.prog X.w) A (getItem (.ref a) u) Q E s:=by
 rcases g with ⟨kvs,k,e,ey,l⟩ | ⟨kvs,k,b,e,hk,ey,eb,l⟩
 ·subst ey
  obtain ⟨z,hd,vs,rel,dd⟩:=ny I.hok e
  obtain ⟨w',hw,rw'⟩:=j5.some_of (v:=v) (o:=valueAt vs k) (by rw [l]; exact rel.val k)
  exact wpAny_getItem_of (qm ry) dd.mapOf hw (h w' _ (I.tok _) rw')
 ·subst ey
  cases (show u=Ow b from ry)
  obtain ⟨z,hd,xs,rel,dd⟩:=qt I e hk
  obtain ⟨w',hw,rw'⟩:=j5.some_of (v:=v) (o:=(atKey xs k).map (·.2)) (by rw [l]; exact rel.val k)
  obtain ⟨p,hp,hp2⟩:=Og.mp hw
  refine wpAny_getItem_heap (Si hu) (kZ I eb) dd hp ?_
  rw [hp2]
  exact h w' _ (I.tok _) rw'
theorem M3 (hu:A.units+1<cLine) (I:Inv X aa σ H s) (g:oM X.K H a y o) (ry:RelV y u) (h:∀ s',Inv X aa σ H s'→Q (.bool o.isSome) s') :
 wpAny (model X.prog X.w) A (compareOp .In u (.ref a)) Q E s:=by
 rcases g with ⟨kvs,k,e,ey,l⟩ | ⟨kvs,k,b,e,hk,ey,eb,l⟩
 ·subst ey
  obtain ⟨z,hd,vs,rel,dd⟩:=ny I.hok e
  refine wpAny_in_of (qm ry) hd dd.mapOf ?_
  rw [← (rel.val k).jx,← l]
  exact h _ (I.tok _)
 ·subst ey
  cases (show u=Ow b from ry)
  obtain ⟨z,hd,xs,rel,dd⟩:=qt I e hk
  refine wpAny_in_heap (Si hu) (kZ I eb) hd dd ?_
  have q:=(rel.val k).jx
  rw [QA] at q
  rw [← q,← l]
  exact h _ (I.tok _)
theorem vp (I:Inv X aa σ H s) (mu:J8 (H a)) (hs:PV a s.heap h') (he:∃ q,h'.get? a=some q) (new:bg X.prog X.w (upd H a ob) h' a ob) :
 Inv X aa σ (upd H a ob) { s with heap:=h',toks:=t' } :=
 I.write (x:=a) (e:=a) mu (.inl rfl) (fun b q hb z=>(hs.2 b hb).trans z) he new
theorem Ht (z:kvs.length≤sizeLine) (hd:(a == sysModules)=false) (rel:KV kvs vs) (dd:h'.DictOf (bU P w) a vs) :
 bg P w H' h' a (.dK kvs):=⟨z,hd,vs,rel,dd⟩
theorem nD (hu:A.units+1<cLine) (I:Inv X aa σ H s) (g:DJ X.K H a y v H') (ry:RelV y u) (rv:RelV v r) (h:∀ s',Inv X aa σ H' s'→Q () s') :
 wpAny (model X.prog X.w) A (setItem (.ref a) u r) Q E s:=by
 rcases g with ⟨kvs,k,e,ey,l,eH⟩ | ⟨kvs,k,b,e,hk,ey,eb,l,eH⟩
 ·subst ey eH
  obtain ⟨z,hd,vs,rel,dd⟩:=KC I.hok e
  have hz:vs.length≤sizeLine:=by rw [← rel.length]; exact z
  have hl:(putK kvs k v).length≤sizeLine:=by have:=ql kvs k v; lia
  refine wpAny_setItem_pairs (hsz:=hz) (qm ry) dd fun h' dd' hs=>h _ ?_
  have he:∃ q,h'.get? a=some q:=let ⟨q,_,_,hq,_⟩:=dd'; ⟨q,hq⟩
  exact vp I (by rw [e]; exact P0) hs he (Ht hl hd (rel.put k rv) dd')
 ·subst ey eH
  cases (show u=Ow b from ry)
  obtain ⟨z,hd,xs,rel,dd⟩:=qt I (.inl e) hk
  have hz:xs.length≤sizeLine:=by rw [← Ph rel]; exact z
  have hl:(qo kvs k b v).length≤sizeLine:=by have:=qp kvs k b v; lia
  refine wpAny_setItem_heap (hsz:=hz) (Si hu) (kZ I eb) dd fun h' dd' hs=>h _ ?_
  obtain ⟨q,es,ep,hq,h2,h3,h4,_,h5⟩:=dd'
  exact vp I (by rw [e]; exact P0) hs ⟨q,hq⟩ ⟨hl,hd,_,rel.put k rv,q,es,ep,hq,h2,h3,h4,h5⟩
end
section
end
noncomputable def DK (i:Expr):Prop:=∀ ov iv,subscripted i false ov iv=operate [ov,iv] (getItem ov iv)
theorem DL {T id:String}
 (hl:typeLookup (.type T) "__getitem__"=pure (some (.builtin id))) (hs:DK slice)
 (h:wpAny (model prog w) A (eval value env) (fun o s₁=>wpAny (model prog w) A (eval slice env) (fun i s₂=>s₂.TypeIs o T∧wpAny (model prog w) A (getItem o i) Q E s₂) E s₁) E s) :
 wpAny (model prog w) A (eval (.Subscript value slice pos) env) Q E s:=by
 refine Subscript_ (OO h (fun o s₁ h₁=>OO h₁ (fun i s₂ h₂=>?_) fun _ _ x=>x) fun _ _ x=>x)
 obtain ⟨hT,h₂⟩:=h₂
 unfold subscriptTail
 refine NX ?_
 rw [getitemInPython_of_ne hT.not_modules]
 refine NX (wpAny_specialOf hT hl ?_)
 have fin:wpAny (model prog w) A (subscripted slice false o i) (fun r s₃=>wpAny (model prog w) A (letTemporaryGo value o r >>= fun _=>pure r) Q E s₃) E s₂:=by
  rw [hs o i]
  exact wpAny_operating (OO h₂ (fun r s₃ h₃=>NX (wpAny_letTemporaryGo (N1 h₃))) fun _ _ x=>x)
 first
  | exact N1 (NX fin)
  | exact NX (N1 (NX fin))
  | exact NX fin
theorem qu (I:Inv X aa σ H s) (g:oM X.K H a y o):s.TypeIs (.ref a) "dict":=by
 rcases g with ⟨kvs,k,e,_,_⟩ | ⟨kvs,k,b,e,hk,_,_,_⟩
 ·obtain ⟨_,_,vs,_,dd⟩:=ny I.hok e
  exact dd.typeIs
 ·obtain ⟨_,_,xs,_,dd⟩:=qt I e hk
  exact dd.typeIs
noncomputable def KD (X:Cx) (td ty:TE):TE:=fun σ H Q=>td σ H fun x H1=>ty σ H1 fun y H2=>∃ a v,x=.ref a∧oM X.K H2 a y (some v)∧Q v H2
noncomputable def M4 (X:Cx) (ty td:TE):TE:=fun σ H Q=>ty σ H fun y H1=>td σ H1 fun x H2=>∃ a o,x=.ref a∧oM X.K H2 a y o∧Q (.bl o.isSome) H2
noncomputable def KG (X:Cx) (td ty tv:TE):TS:=fun D σ H=>tv σ H fun v H1=>td σ H1 fun x H2=>ty σ H2 fun y H3=>∃ a H4,x=.ref a∧DJ X.K H3 a y v H4∧D.nx σ H4
noncomputable def KH (X:Cx) (td ty tv:TE) (rd:V→V→Hp→VK→Prop):TS:=fun D σ H=>td σ H fun x H1=>ty σ H1 fun y H2=>∃ a v,x=.ref a∧oM X.K H2 a y (some v) ∧
 tv σ H2 fun y2 H3=>rd v y2 H3 fun z H4=>∃ H5,DJ X.K H4 a y z H5∧D.nx σ H5
section
theorem vq (hu:X.A.units+1<cLine) (ho:PE X o td) (hi:PE X i ty) (hs:DK i):PE X (.Subscript o i pos) (KD X td ty):=by
 intro aa s σ H Q I h
 refine DL PySem.F.slot_dict_getitem.lookup hs (bC (ho aa s σ H _ I h) fun u s1 ⟨x,H1,I1,rx,q1⟩=>bC (hi aa s1 σ H1 _ I1 q1) fun iv s2 ⟨y,H2,I2,ry,a,v,ex,g,q2⟩=>?_)
 subst ex
 obtain rfl:u=Ow a:=rx
 exact ⟨qu I2 g,nC hu I2 g ry fun w' s3 I3 rw'=>⟨v,H2,I3,rw',q2⟩⟩
theorem Hu (hu:X.A.units+1<cLine) (hi:PE X i ty) (ho:PE X o td):PC X .In i o (M4 X ty td):=by
 intro aa s σ H Q I h
 refine bC (hi aa s σ H _ I h) fun iv s1 ⟨y,H1,I1,ry,q1⟩=>bC (ho aa s1 σ H1 _ I1 q1) fun u s2 ⟨x,H2,I2,rx,a,ov,ex,g,q2⟩=>?_
 subst ex
 obtain rfl:u=Ow a:=rx
 exact M3 hu I2 g ry fun s3 I3=>⟨.bl ov.isSome,H2,I3,rfl,q2⟩
theorem DM (hu:X.A.units+1<cLine) (ho:PE X o td) (hi:PE X i ty) (hv:PE X value tv) (hs:swapsWith value (some (.Subscript o i pos')) pos.line X.env=pure false) :
 PS X (.Assign [.Subscript o i pos'] value pos) (KG X td ty tv):=by
 intro aa s σ H D I h
 refine wpAny_Assign_Subscript (bC (hv aa s σ H _ I h) fun r s1 ⟨v,H1,I1,rv,q1⟩=>bC (ho aa s1 σ H1 _ I1 q1) fun u s2 ⟨x,H2,I2,rx,q2⟩=>bC (hi aa s2 σ H2 _ I2 q2) fun iv s3 ⟨y,H3,I3,ry,a,H4,ex,g,q3⟩=>?_) hs
 subst ex
 obtain rfl:u=Ow a:=rx
 exact nD hu I3 g ry rv fun s4 I4=>⟨σ,H4,I4,q3⟩
theorem DN (hu:X.A.units+1<cLine) (ho:PE X o td) (hi:PE X i ty) (hv:PE X value tv) (hop:Kx X op rd)
 (ha:∀ ov iv new,augStore i ov iv new=(do holding [new,ov,iv] (setItem ov iv new); release [new,ov,iv] []; pure .next)):PS X (.AugAssign (.Subscript o i tpos) op value pos) (KH X td ty tv rd):=by
 intro aa s σ H D I h
 refine wpAny_AugAssign_SubscriptAny (bC (ho aa s σ H _ I h) fun u s1 ⟨x,H1,I1,rx,q1⟩=>bC (hi aa s1 σ H1 _ I1 q1) fun iv s2 ⟨y,H2,I2,ry,a,v,ex,g,q2⟩=>?_) ha
 subst ex
 obtain rfl:u=Ow a:=rx
 refine nC hu I2 g ry fun w' s3 I3 rw'=>bC (hv aa s3 σ H2 _ I3 q2) fun w2 s4 ⟨y2,H3,I4,ry2,q3⟩=>bC (hop aa s4 σ H3 v y2 w' w2 _ I4 rw' ry2 q3) fun w3 s5 ⟨z,H4,I5,rz,H5,g5,q4⟩=>?_
 exact nD hu I5 g5 ry rz fun s6 I6=>⟨σ,H5,I6,q4⟩
end
theorem zL (h:Heap) (hb:sysModules<h.objs.size):bg P w H (h.push { cls:=.type "dict",data:=.dict #[] }) h.objs.size (.dK []) :=
 ⟨OH _,beq_eq_false_iff_ne.mpr (Oq (OB hb)),[],.nil,Heap.DictOf.new h⟩
theorem zM (h:Heap) (hb:sysModules<h.objs.size):bg P w H (h.push { cls:=.type "dict",data:=.dict #[] }) h.objs.size (.dT []) :=
 ⟨OH _,beq_eq_false_iff_ne.mpr (Oq (OB hb)),[],.nil,_,#[],0,Oj _ rfl,⟨rfl,rfl,rfl⟩,rfl,rfl,List.nodup_nil⟩
noncomputable def Hw:TE:=fun _ H Q=>∀ p,H p=none→Q (.ref p) (upd H p (.dK []))
noncomputable def Hx:TE:=fun _ H Q=>∀ p,H p=none→Q (.ref p) (upd H p (.dT []))
section
theorem zN:PE X (.Dict [] [] pos) Hw:=fun aa s σ H Q I h =>
 wpAny_Dict_empty ⟨.ref s.heap.objs.size,_,I.laid (a:=s.heap.objs.size) (o:=.dK []) (t':=s.toks) (fun _ _ q=>N7 _ q) (N2 _) (zL s.heap I.big),rfl,h _ (I.hok.fresh (N2 _))⟩
theorem zO:PE X (.Dict [] [] pos) Hx:=fun aa s σ H Q I h =>
 wpAny_Dict_empty ⟨.ref s.heap.objs.size,_,I.laid (a:=s.heap.objs.size) (o:=.dT []) (t':=s.toks) (fun _ _ q=>N7 _ q) (N2 _) (zM s.heap I.big),rfl,h _ (I.hok.fresh (N2 _))⟩
end
structure M1 (X:Cx) (o:Expr) (m:Str) (apos:Pos) (e:Expr) (cpos:Pos):Prop where
 base:attributeBase o m X.env (eval o X.env)=eval o X.env
 few:((backTo cpos (starEach [e] X.env)).all (fun x=> !x.1) && (backToKw cpos (keywordEach [] X.env)).all (fun x=>x.1.isSome)
  && decide (([e]:List Expr).length+([]:List Keyword).length+(if ([]:List Keyword).isEmpty then 0 else 1)<30))=true
 line:(apos.endLine == cpos.line)=true
 trees:backTo cpos (starEach [e] X.env)=[(false,eval e X.env)]
structure M2 (X:Cx) (o:Expr) (m:Str) (apos:Pos) (e f:Expr) (cpos:Pos):Prop where
 base:attributeBase o m X.env (eval o X.env)=eval o X.env
 few:((backTo cpos (starEach [e,f] X.env)).all (fun x=> !x.1) && (backToKw cpos (keywordEach [] X.env)).all (fun x=>x.1.isSome)
  && decide (([e,f]:List Expr).length+([]:List Keyword).length+(if ([]:List Keyword).isEmpty then 0 else 1)<30))=true
 line:(apos.endLine == cpos.line)=true
 trees:backTo cpos (starEach [e,f] X.env)=[(false,eval e X.env),(false,eval f X.env)]
noncomputable def M5 (H:Hp) (a:Addr):Prop:=(∃ kvs,Rd H a (.dK kvs))∨∃ kvs,Rd H a (.dT kvs)
theorem Hy (I:Inv X aa σ H s) (d:M5 H a) :
 s.TypeIs (.ref a) "dict"∧(∀ b,Ow a=.ref b→∃ ob,s.heap.get? b=some ob∧ob.dict=none)∧(a == sysModules)=false:=by
 rcases d with ⟨kvs,e⟩ | ⟨kvs,e⟩
 ·obtain ⟨_,hd,vs,_,dd⟩:=ny I.hok e
  refine ⟨dd.typeIs,fun b q=>?_,hd⟩
  cases q
  obtain ⟨ob,_,_,h1,h2,_⟩:=dd
  exact ⟨ob,h1,h2.2.1⟩
 ·obtain ⟨_,hd,xs,_,ob,es,ep,h1,h2,_⟩:=(show bg X.prog X.w H s.heap a (.dT kvs) from zK I.hok e)
  refine ⟨⟨ob,h1,h2.1⟩,fun b q=>?_,hd⟩
  cases q
  exact ⟨ob,h1,h2.2.1⟩
section
theorem Hz (hu:A.units+1<cLine) (I:Inv X aa σ H s) (g:oM X.K H a y o) (ry:RelV y u) (rd:RelV d r) (h:∀ w' s',Inv X aa σ H s'→RelV (o.getD d) w'→Q w' s') :
 wpAny (model X.prog X.w) A (call (.builtin "dict.get") [.ref a,u,r]) Q E s:=by
 rcases g with ⟨kvs,k,e,ey,l⟩ | ⟨kvs,k,b,e,hk,ey,eb,l⟩
 ·subst ey
  obtain ⟨z,hd,vs,rel,dd⟩:=ny I.hok e
  refine call_meetsIn TH dd.typeIs PySem.F.entry_dict_get (PySem.F.args_dict_get_3 _ _ _) (meets_dict_get_default (bU X.prog X.w) a (qm ry) hd r) ⟨_,dd.mapOf,h _ _ (I.tok _) ?_⟩
  rw [l]
  exact (rel.val k).getD rd
 ·subst ey
  cases (show u=Ow b from ry)
  obtain ⟨z,hd,xs,rel,dd⟩:=qt I e hk
  refine call_meetsIn TH dd.typeIs PySem.F.entry_dict_get (PySem.F.args_dict_get_3 _ _ _) (meetsH_dict_get_default (tupleKind (bU X.prog X.w)) a b hd r) ⟨Si hu,k,xs,kZ I eb,dd,h _ _ (I.tok _) ?_⟩
  rw [l]
  exact (rel.val k).getD rd
end
noncomputable def HA (X:Cx) (td ty tx:TE):TE:=fun σ H Q=>td σ H fun x H1=>∃ a,x=.ref a∧M5 H1 a∧ty σ H1 fun y H2=>tx σ H2 fun z H3=>∃ o,oM X.K H3 a y o∧Q (o.getD z) H3
section
theorem zP (hu:X.A.units+1<cLine) (ho:PE X o td) (he:PE X e ty) (hf:PE X f tx) (m:M2 X o "get" apos e f cpos):PE X (.Call (.Attribute o "get" apos) [e,f] [] cpos) (HA X td ty tx):=by
 intro aa s σ H Q I h
 refine wpAny_Call_method m.base m.few m.line PySem.F.plainAttrs_dict TH PySem.F.type_dict_get (bC (ho aa s σ H _ I h) fun u s1 ⟨x,H1,I1,rx,a,ex,d,q1⟩=>?_)
 subst ex
 obtain rfl:u=Ow a:=rx
 obtain ⟨t1,t2,_⟩:=Hy I1 d
 refine ⟨t1,t2,?_⟩
 rw [m.trees]
 refine Tz rfl (Calls.evalArgs_plain (TX (bC (he aa s1 σ H1 _ I1 q1) fun iv s2 ⟨y,H2,I2,ry,q2⟩ =>
  TX (bC (hf aa s2 σ H2 _ I2 q2) fun fv s3 ⟨z,H3,I3,rz,ov,g,q3⟩=>Calls.spliced_nil ?_))))
 exact Hz hu I3 g ry rz fun w' s4 I4 rw'=>⟨_,H3,I4,rw',q3⟩
end
section
end
section
end
end L2
namespace Att
open PySem PySem.W PySem.Calls PyProof.Rows
theorem j6:∀ (ns:List Int) (vs:List Value),WellAll P h vs (ns.map WData.int)→IntsAre vs ns:=by
 intro ns
 induction ns with
 | nil =>
  intro vs w
  rw [Qo] at w
  cases w
  exact .nil
 | cons n ns ih =>
  intro vs w
  rw [N5] at w
  cases w with
  | cons a b =>
   cases a
   exact .cons _ _ (ih _ b)
theorem xD {l:OpenLaw} (hn:l.most=some n)
 (hpre:l.row.toRowW.claim.pre args=true) (hwl:WellAll P h vals args) :
 ∃ a vs ns,vals=[Ow a]∧args=[WData.list (ns.map WData.int)]∧h.get? a=some { cls:=.type "list",data:=.seq vs.toArray }∧IntsAre vs ns∧ns.length≤n:=by
 have hsh:WShape.hasAll [] args [.list .int]=true:=(pre_splitW hpre).1
 have hc:l.pre.holds [] { args:=args }=true:=(pre_splitW hpre).2
 obtain ⟨d,r,rfl,h1,h2⟩:=hasAllW_cons hsh
 obtain rfl:=hasAllW_nil h2
 obtain ⟨xs,rfl,h3⟩:=hasW_list h1
 obtain ⟨ns,rfl⟩:=items_int h3
 have hlen:ns.length≤n:=by
  unfold OpenLaw.pre at hc
  have h4:(WTm.not (.lt (.lit (.int (n:Int))) (.len (.arg 0)))).holds [] { args:=[.list (ns.map .int)] }=true:=by
   have h4:=(holds_andW hc).1
   rw [hn] at h4
   exact h4
  have h5:=condW_of h4 (w_not (w_lt w_lit (w_len_list (w_arg rfl))))
  rw [N6] at h5
  refine Nat.le_of_not_lt fun q=>?_
  have q':(n:Int)<((ns.length:Nat):Int):=by lia
  first
   | (rw [decide_eq_true q'] at h5; exact absurd h5 (by decide))
   | (simp at h5; lia)
 cases hwl with
 | cons w1 w2 =>
  cases w2
  cases w1 with
  | list ho hall=>exact ⟨_,_,ns,rfl,rfl,ho,j6 ns _ hall,hlen⟩
theorem xE (l:OpenLaw) (args):l.row.toRowW.claim.post args (.bool true) args=true :=
 postW_of (r:=l.row.toRowW) (X:=(true == true))
  (show WShape.has [] (.bool true) .bool=true by first | rfl | decide | simp [WShape.has,WShape.arms,WShape.armsAll])
  (show (WTm.eq .res (.lit (.bool true))).value [] { args:=args,res:=some (.bool true),after:=args }=some (.bool (true == true)) from w_eq_bool (w_res rfl) w_lit) rfl
theorem qv {l:OpenLaw}
 (hn:l.most=some n) (hdf:d.params.defaults=[])
 (call:∀ (w:World) (s₀ s₁:Shared) (mg mb:Str→Option Value) (fa:Addr) (o:Obj) (pm cd doc:Value) (a:Addr) (vs:List Value) (ns:List Int),
   Ground q loose [] XP w s₀ mg mb s₁.heap→YP w s₁.heap →
   s₁.heap.get? fa=some o→o.data=.func (docDef d.name d.params d.body d.scope pm cd doc)→s₁.heap.CodeRec cd d.name→mg d.name=some (.ref fa) →
   s₁.heap.get? a=some { cls:=.type "list",data:=.seq vs.toArray }→IntsAre vs ns→ns.length≤n→s₁.gens= #[] →
   codeAny (model l.prog w) callerA (.call (.ref fa) ⟨[.ref a],[]⟩) (fun r s'=>r=.ok (.ret (.bool true))∧OldK s₁.heap s'.heap∧s'.os=s₁.os∧AllBare s'.gens) s₁) :
 WalkO q loose XP YP l.row.toRowW d [] (fun f vs=>PySem.call f vs):=by
 intro w s₀ s₁ mg mb G Y fa o pm cd doc dV kV ho hd hcd hD hmg hg args vals as hpre hlay hrd hwl hlo
 obtain rfl:dV=.none:=Dflts.none hD hdf
 obtain rfl:kV=.none:=Dflts.noKw hD
 obtain ⟨a,vs,ns,rfl,rfl,hobj,hints,hlen⟩:=xD hn hpre hwl
 refine enter_call (Q7 (call w s₀ s₁ mg mb fa o pm cd doc a vs ns G Y ho (fd_plain hd) hcd hmg hobj hints hlen hg) fun r s' hq=>?_)
 obtain ⟨rfl,h2,h3,h4⟩:=hq
 exact ⟨.inl ⟨.bool true,.bool true,[],rfl,fun _=>rfl,.bool true,xE l _,fun _=>⟨Rr,fun _ hm=>(nomatch hm)⟩⟩,h2,h3,h4⟩
section
end
end Att
namespace L2
open PySem PySem.Spec PyProof.Rows
theorem nE:∀ {vs:List Value} {ns:List Int},IntsAre vs ns→Vals (ns.map V.int) vs
 | _,_,.nil=>.nil
 | _,_,.cons n t h=>.cons ⟨t,rfl⟩ (nE h)
noncomputable def HB (H:Hp):Prop:=∀ b,H b=none∨∃ o xs,H b=some (.frz o (.lst xs))
theorem zQ {K:NZ}
 (KX:K.In s₁.heap) (hns:s₁.heap.Ns mainGlobals mg) (hb:s₁.heap.Ns builtinsNs mb) (hbb:∀ x:Str,x≠"__name__"→mb x=bootBuiltins x) (hlim:s₁.heap.NoLimit) (hg:s₁.gens= #[])
 (ha:s₁.heap.get? a=some { cls:=.type "list",data:=.seq vs.toArray }) (hi:IntsAre vs ns) (hl:ns.length≤sizeLine) (hr:g6 k callerA)
 (F:∀ base:Heap,K.In base→base.Ns mainGlobals mg→bz P w K mg base CX k fa fd [x] sp) (hbind:∀ (s:Shared) (u:Value),BindsTo s fd ⟨[u],[]⟩ [(x,u)])
 (qa:∀ H:Hp,HB H→gO K H a (ns.map V.int)→sp [.ref a] H (fun v _=>v=.bl true) fun _ _ _=>False)
 (hCX:∀ H e s',CX [] H s₁ (fun _ _ _=>False) e s'→False) :
 codeAny (model P w) callerA (.call (.ref fa) ⟨[.ref a],[]⟩) (fun r s'=>r=.ok (.ret (.bool true))∧OldK s₁.heap s'.heap∧s'.os=s₁.os∧AllBare s'.gens) s₁:=by
 have rv:=nE hi
 have lenV:=hi.length
 have core:∀ H:Hp,HB H→gO K H a (ns.map V.int)→jq P w H s₁.heap→(∀ b,H b≠none→b=a)→(H a≠none→K.lookup a=none) →
  codeAny (model P w) callerA (.call (.ref fa) ⟨[.ref a],[]⟩) (fun r s'=>r=.ok (.ret (.bool true))∧OldK s₁.heap s'.heap∧s'.os=s₁.os∧AllBare s'.gens) s₁:=by
  intro H hO hS hok hA hK
  have base_of:∀ {b:Addr} {o:Obj},s₁.heap.get? b=some o→H b=none→(ou s₁.heap H).get? b=some o:=fun e n=>zf e n
  have noA:∀ {b:Addr} {o:Obj} {es:Array DictEntry} {ep:Nat},s₁.heap.get? b=some o→o.data=.dict es ep→H b=none:=fun {b o es ep} e d=>by
   cases q:H b with
   | none=>rfl
   | some u =>
    have e':b=a:=hA b (by rw [q]; simp)
    subst e'
    rw [ha] at e; cases e
    have d':Data.seq vs.toArray _=Data.dict es ep:=d
    cases d'
  have nsK:∀ {b:Addr} {m:Str→Option Value},s₁.heap.Ns b m→(ou s₁.heap H).Ns b m:=fun {b m} ⟨o,es,ep,e,d,r⟩=>⟨o,es,ep,base_of e (noA e d),d,r⟩
  have hKb:K.In (ou s₁.heap H):=fun b o e=>base_of (KX b o e) (by
   cases q:H b with
   | none=>rfl
   | some u =>
    have e':b=a:=hA b (by rw [q]; simp)
    subst e'
    rw [hK (by rw [q]; simp)] at e; cases e)
  have hM:Mod K mg (ou s₁.heap H):=⟨hKb,nsK hns,⟨mb,nsK hb,hbb⟩,let ⟨mc,h1,h2⟩:=hlim; ⟨mc,nsK h1,h2⟩⟩
  have e0:Dy P w K mg (ou s₁.heap H) callerA [] s₁ H:=⟨rfl,hM,fun b o e=>Dp e,Nat.le_of_eq (xu _ _),trivial,fun b hb=>absurd (show b∈([]:List Addr) from hb) (by simp),hok,.of_eq hg⟩
  refine Q7 ((F _ hKb (nsK hns)).run callerA [] s₁ H ⟨[.ref a],[]⟩ [.ref a] [.ref a] _ _ hr e0 (hbind s₁ (.ref a)) (.cons rfl .nil) (qa H hO hS)) fun r s' h=>?_
  cases r with
  | error e=>exact (hCX H e s' h).elim
  | ok fl =>
   cases fl with
   | next=>exact OZ h
   | brk=>exact OZ h
   | cont=>exact OZ h
   | ret u =>
    obtain ⟨v,H',os,bare,un,hok',r',q⟩:=h
    have q':v=.bl true:=q
    subst q'
    obtain rfl:u=Value.bool true:=r'
    refine ⟨rfl,OldK.of_keep fun b o e=>?_,os,bare⟩
    cases q:H b with
    | none=>exact un.keep b o e q (by intro z; exact absurd (show b∈([]:List Addr) from z) (by simp)) (by simp)
    | some u =>
     rcases hO b with z | ⟨ob,xs,z⟩
     ·rw [q] at z; cases z
     ·have z2:=un.frzs b ob _ z
      obtain ⟨e1,_⟩:=hok b _ z
      obtain ⟨e2,_⟩:=hok' b _ z2
      rw [e] at e1; cases e1
      exact e2
 cases hk:K.lookup a with
 | some o =>
  have e:=KX a o hk
  rw [ha] at e
  cases e
  refine core (fun _=>none) (fun _=>.inl rfl) (.inr ⟨_,vs.toArray,_,hk,rfl,rfl,rfl,by rw [Oo,lenV]; exact hl,by simpa using rv⟩) (fun b u z=>by have z':(none:Option HO)=some u:=z; cases z') (fun b z=>absurd rfl z) fun z=>absurd rfl z
 | none =>
  refine core (fun b=>if b=a then some (.frz { cls:=.type "list",data:=.seq vs.toArray } (.lst (ns.map V.int))) else none) (fun b=>?_) (.inl (.inr ⟨{ cls:=.type "list",data:=.seq vs.toArray },if_pos rfl⟩)) (fun b u z=>?_) (fun b z=>?_) fun _=>hk
  ·by_cases hb:b=a
   ·exact .inr ⟨_,_,if_pos hb⟩
   ·exact .inl (if_neg hb)
  ·by_cases hb:b=a
   ·have z':=(if_pos hb).symm.trans z
    cases z'
    subst hb
    exact ⟨ha,by rw [N6]; exact hl,vs,_,rv,ha⟩
   ·have z':=(if_neg hb).symm.trans z
    cases z'
  ·by_cases hb:b=a
   ·exact hb
   ·exact absurd (if_neg hb) z
noncomputable abbrev cU {K:NZ} {h:Heap} (_:K.In h):NZ:=K
theorem DO {l:PySem.W.OpenLaw} {K:Params→NZ} {CX:World→Hj} {sp:World→Sp}
 (hn:l.most=some n) (hn2:n≤sizeLine) (hdf:d.params.defaults=[]) (hr:g6 k callerA)
 (hY:∀ (w:World) (h:Heap),YP w h→(K w.params).In h)
 (F:∀ (w:World) (mg:Str→Option Value) (fa:Addr) (h:Heap),(K w.params).In h→h.Ns mainGlobals mg→mg d.name=some (.ref fa) →
   ∃ fd:FuncData,(∀ (s:Shared) (u:Value),BindsTo s fd ⟨[u],[]⟩ [(x,u)]) ∧
    ∀ base:Heap,(K w.params).In base→base.Ns mainGlobals mg→bz l.prog w (K w.params) mg base (CX w) k fa fd [x] (sp w))
 (qa:∀ (w:World) (H:Hp) (a:Addr) (ns:List Int),ns.length≤n→HB H→gO (K w.params) H a (ns.map V.int)→sp w [.ref a] H (fun v _=>v=.bl true) fun _ _ _=>False)
 (hCX:∀ (w:World) (H:Hp) (s:Shared) (e:Value) (s':Shared),CX w [] H s (fun _ _ _=>False) e s'→False) :
 PySem.W.WalkO q loose XP YP l.row.toRowW d [] (fun f vs=>PySem.call f vs):=by
 refine Att.qv hn hdf fun w s₀ s₁ mg mb fa o pm cd doc a vs ns G Y ho hd hcd hmg hobj hints hlen hg=>?_
 have KX:=hY w _ Y
 obtain ⟨fd,hb,hF⟩:=F w mg fa _ KX G.T.g hmg
 exact zQ KX G.T.g G.T.b G.T.builtins G.T.nolimit hg hobj hints (N8 hlen hn2) hr hF hb (fun H hO hS=>qa w H a ns hlen hO hS) fun H e s'=>hCX w H s₁ e s'
end L2
namespace L2
open PySem PySem.Spec PyProof.Rows
noncomputable def d9 (s:Stmt):Arguments:=match s with
 | .FunctionDef _ a _ _ _ _ _ _ _ _=>a
 | _=>{ posonlyargs:=[],args:=[],vararg:=none,kwonlyargs:=[],kw_defaults:=[],kwarg:=none,defaults:=[] }
noncomputable def aA (s:Stmt):List Stmt:=match s with
 | .FunctionDef _ _ b _ _ _ _ _ _ _=>b
 | _=>[]
noncomputable def ah (s:Stmt):Scope:=match s with
 | .FunctionDef _ _ _ _ _ _ sc _ _ _=>sc
 | _=>{ kind:=.function,names:=[],isGenerator:=false,isCoroutine:=false }
structure fS (K:NZ) (x qual:Str) (st:Stmt) (f:Addr) (fd:FuncData):Prop where
 ex:∃ (oc:Value) (od:Option Addr) (kV doc pm:Value) (an:Option Addr) (cdv ct:Value) (osl:Array (Option Value)),
  fd=PY x qual (d9 st) (aA st) (ah st) .none kV doc pm an cdv ct∧K.lookup f=some ⟨oc,od,.func fd,osl⟩∧SK K cdv qual=true
 kp:PN K (.ref f)=true
section
variable {K:NZ}
theorem fS.binds {st:Stmt} (F:fS K x qual st f fd)
 (h:∀ (kV doc pm:Value) (an:Option Addr) (cdv ct:Value) (us:List Value),us.length=ps.length→bindArgs (PY x qual (d9 st) (aA st) (ah st) .none kV doc pm an cdv ct) ⟨us,[]⟩=pure (ps.zip us)):Binds K fd ps []:=by
 obtain ⟨oc,od,kV,doc,pm,an,cdv,ct,osl,rfl,lk,hcd⟩:=F.ex
 exact .all (h kV doc pm an cdv ct)
theorem HC {st:Stmt} {kV doc pm cdv ct:Value} (l:K.lookup f=some ⟨oc,od,.func (PY x qual (d9 st) (aA st) (ah st) .none kV doc pm an cdv ct),osl⟩)
 (c:SK K cdv qual=true) (k:PN K (.ref f)=true):fS K x qual st f (PY x qual (d9 st) (aA st) (ah st) .none kV doc pm an cdv ct):=⟨⟨oc,od,kV,doc,pm,an,cdv,ct,osl,rfl,l,c⟩,k⟩
end
theorem KI (hr:g6 k A):A.units+1<cLine:=P4 (Nat.add_le_add_left (by decide:1≤64) _) hr.units
theorem xF (h:n≤1000):n<sizeLine:=P4 h (by decide)
section
end
noncomputable def aD (H H':Hp):Prop:=∀ b o,H b=some o→H' b=some o
theorem aD.refl (H):aD H H:=fun _ _ h=>h
theorem aD.trans (a:aD H H1) (b:aD H1 H2):aD H H2:=fun c o h=>b c o (a c o h)
theorem aD.free (e:aD H H') (h:H' l=Option.none):H l=Option.none:=by
 cases q:H l with
 | none=>rfl
 | some o =>
  rw [e l o q] at h
  cases h
theorem aD.seq {K:NZ} (e:aD H H') (h:gO K H a xs):gO K H' a xs:=by
 rcases h with (h | ⟨o,h⟩) | h
 ·exact .inl (.inl (e _ _ h))
 ·exact .inl (.inr ⟨o,e _ _ h⟩)
 ·exact .inr h
section
end
section
variable {κ:Type} [DecidableEq κ]
end
end L2
namespace EV
open PySem PySem.Spec PyProof.Rows L2
inductive D where
 | non | bl (b:Bool) | int (i:Int) | str (x:Str) | tup (ds:List D) | lst (ds:List D) | exc (C:Addr)
 | fdK (ks:List Key) (ds:List D) | fdT (ks:List (List Key)) (ds:List D) | adr (a:Addr)
noncomputable def tN (a C:Addr):Heap→Prop:=fun h=>∃ o,h.get? a=some o∧o.cls=.ref C∧∃ vs,o.data=.fields vs
mutual
def Rep (K:NZ) (H:Hp):D→V→Prop
 | .non,v=>v=.non
 | .bl b,v=>v=.bl b
 | .int i,v=>v=.int i
 | .str x,v=>v=.str x
 | .tup ds,v=>∃ a xs,v=.ref a∧cY K H a xs∧aq K H ds xs
 | .lst ds,v=>∃ a xs,v=.ref a∧gO K H a xs∧aq K H ds xs
 | .exc C,v=>∃ a,v=.ref a∧H a=some (.ext (tN a C))
 | .fdK ks ds,v=>∃ a ys o,v=.ref a∧H a=some (.frz o (.dK ys))∧ys.map (·.1)=ks∧aq K H ds (ys.map (·.2))
 | .fdT ks ds,v=>∃ a ys o,v=.ref a∧H a=some (.frz o (.dT ys))∧ys.map (·.1)=ks∧(∀ y∈ys,cY K H y.2.1 (y.1.map kV))∧aq K H ds (ys.map (·.2.2))
 | .adr a,v=>v=.ref a
def aq (K:NZ) (H:Hp):List D→List V→Prop
 | [],xs=>xs=[]
 | d::ds,xs=>∃ x r,xs=x::r∧Rep K H d x∧aq K H ds r
end
theorem au {K:NZ} (e:aD H H') (h:cY K H a xs):cY K H' a xs:=by
 rcases h with (h | ⟨o,h⟩) | h
 ·exact .inl (.inl (e _ _ h))
 ·exact .inl (.inr ⟨o,e _ _ h⟩)
 ·exact .inr h
mutual
theorem Rep.mono {K:NZ} {H H':Hp} (e:aD H H'):∀ (d:D) {v:V},Rep K H d v→Rep K H' d v
 | .non,_,h=>by simpa [Rep] using h
 | .bl b,_,h=>by simpa [Rep] using h
 | .int i,_,h=>by simpa [Rep] using h
 | .str x,_,h=>by simpa [Rep] using h
 | .tup ds,_,h=>by
  simp only [Rep] at h ⊢
  obtain ⟨a,xs,e1,h1,h2⟩:=h
  exact ⟨a,xs,e1,au e h1,aq.mono e ds h2⟩
 | .lst ds,_,h=>by
  simp only [Rep] at h ⊢
  obtain ⟨a,xs,e1,h1,h2⟩:=h
  exact ⟨a,xs,e1,e.seq h1,aq.mono e ds h2⟩
 | .exc C,_,h=>by
  simp only [Rep] at h ⊢
  obtain ⟨a,e1,h1⟩:=h
  exact ⟨a,e1,e _ _ h1⟩
 | .fdK ks ds,_,h=>by
  simp only [Rep] at h ⊢
  obtain ⟨a,ys,o,e1,h1,h2,h3⟩:=h
  exact ⟨a,ys,o,e1,e _ _ h1,h2,aq.mono e ds h3⟩
 | .fdT ks ds,_,h=>by
  simp only [Rep] at h ⊢
  obtain ⟨a,ys,o,e1,h1,h2,h3,h4⟩:=h
  exact ⟨a,ys,o,e1,e _ _ h1,h2,fun y hy=>au e (h3 y hy),aq.mono e ds h4⟩
 | .adr a,_,h=>by simpa [Rep] using h
theorem aq.mono {K:NZ} {H H':Hp} (e:aD H H'):∀ (ds:List D) {xs:List V},aq K H ds xs→aq K H' ds xs
 | [],_,h=>by simpa [aq] using h
 | d::ds,_,h=>by
  simp only [aq] at h ⊢
  obtain ⟨x,r,e1,h1,h2⟩:=h
  exact ⟨x,r,e1,Rep.mono e d h1,aq.mono e ds h2⟩
end
section
variable {K:NZ}
theorem av:Rep K H (.int i) v↔v=.int i:=by simp only [Rep]
theorem eG:Rep K H (.bl i) v↔v=.bl i:=by simp only [Rep]
theorem bN:Rep K H .non v↔v=.non:=by simp only [Rep]
theorem fC:Rep K H (.str i) v↔v=.str i:=by simp only [Rep]
theorem aE:Rep K H (.tup ds) v↔∃ a xs,v=.ref a∧cY K H a xs∧aq K H ds xs:=by simp only [Rep]
theorem aV:Rep K H (.lst ds) v↔∃ a xs,v=.ref a∧gO K H a xs∧aq K H ds xs:=by simp only [Rep]
theorem iT:Rep K H (.fdK ks ds) v↔∃ a ys o,v=.ref a∧H a=some (.frz o (.dK ys))∧ys.map (·.1)=ks∧aq K H ds (ys.map (·.2)):=by simp only [Rep]
theorem iU:Rep K H (.fdT ks ds) v↔∃ a ys o,v=.ref a∧H a=some (.frz o (.dT ys))∧ys.map (·.1)=ks∧(∀ y∈ys,cY K H y.2.1 (y.1.map kV))∧aq K H ds (ys.map (·.2.2)):=by simp only [Rep]
theorem eV:Rep K H (.adr a) v↔v=.ref a:=by simp only [Rep]
theorem DP:Rep K H (.exc C) v↔∃ a,v=.ref a∧H a=some (.ext (tN a C)):=by simp only [Rep]
theorem ay:aq K H [] xs↔xs=[]:=by simp only [aq]
theorem aC:aq K H (d::ds) xs↔∃ x r,xs=x::r∧Rep K H d x∧aq K H ds r:=by simp only [aq]
theorem aq.length:∀ {ds:List D} {xs:List V},aq K H ds xs→ds.length=xs.length
 | [],_,h=>by rw [ay] at h; subst h; rfl
 | d::ds,_,h=>by
  rw [aC] at h
  obtain ⟨x,r,rfl,_,h2⟩:=h
  simp [aq.length h2]
theorem aq.get:∀ {ds:List D} {xs:List V} {i:Nat} {d:D},aq K H ds xs→ds[i]?=some d→∃ x,xs[i]?=some x∧Rep K H d x
 | [],_,_,_,_,e=>by simp at e
 | d::ds,_,i,d',h,e=>by
  rw [aC] at h
  obtain ⟨x,r,rfl,h1,h2⟩:=h
  cases i with
  | zero=>simp at e; subst e; exact ⟨x,by simp,h1⟩
  | succ i =>
   obtain ⟨y,e2,h3⟩:=aq.get (i:=i) (d:=d') h2 (by simpa using e)
   exact ⟨y,by simpa using e2,h3⟩
theorem aq.get':∀ {ds:List D} {xs:List V} {i:Nat} {x:V},aq K H ds xs→xs[i]?=some x→∃ d,ds[i]?=some d∧Rep K H d x:=fun {ds xs i x} h e=>by
 have hl:=h.length
 have hi:i<xs.length:=(Ob.mp e).1
 obtain ⟨y,e2,h2⟩:=h.get (i:=i) (d:=ds[i]'(by lia)) (by simp)
 rw [e] at e2; cases e2
 exact ⟨_,by simp,h2⟩
theorem aq.append:∀ {ds es:List D} {xs ys:List V},aq K H ds xs→aq K H es ys→aq K H (ds++es) (xs++ys)
 | [],_,_,_,h,g=>by rw [ay] at h; subst h; exact g
 | d::ds,_,_,_,h,g=>by
  rw [aC] at h
  obtain ⟨x,r,rfl,h1,h2⟩:=h
  exact aC.mpr ⟨x,r++_,rfl,h1,aq.append h2 g⟩
theorem aq.drop:∀ (n:Nat) {ds:List D} {xs:List V},aq K H ds xs→aq K H (ds.drop n) (xs.drop n)
 | 0,_,_,h=>h
 | n+1,[],_,h=>by rw [ay] at h; subst h; exact ay.mpr rfl
 | n+1,d::ds,_,h=>by
  rw [aC] at h
  obtain ⟨x,r,rfl,h1,h2⟩:=h
  exact aq.drop n h2
theorem aq.take:∀ (n:Nat) {ds:List D} {xs:List V},aq K H ds xs→aq K H (ds.take n) (xs.take n)
 | 0,_,_,h=>ay.mpr rfl
 | n+1,[],_,h=>by rw [ay] at h; subst h; exact ay.mpr rfl
 | n+1,d::ds,_,h=>by
  rw [aC] at h
  obtain ⟨x,r,rfl,h1,h2⟩:=h
  exact aC.mpr ⟨x,r.take n,rfl,h1,aq.take n h2⟩
theorem aq.one (h:Rep K H d v):aq K H [d] [v]:=aC.mpr ⟨v,[],rfl,h,ay.mpr rfl⟩
theorem aq.cons (h:Rep K H d v) (t:aq K H ds xs):aq K H (d::ds) (v::xs):=aC.mpr ⟨v,xs,rfl,h,t⟩
theorem jy:∀ (ns:List Int),aq K H (ns.map D.int) (ns.map V.int)
 | []=>ay.mpr rfl
 | n::ns=>.cons (av.mpr rfl) (jy ns)
end
inductive Sh where
 | v (d:D) | l (ds:List D) | la (a:Addr) (ds:List D) | t (ss:List Sh) | ls (ss:List Sh)
noncomputable def pl (p:Addr) (xs:List V):HO:=.ext fun h=>xs.length≤sizeLine∧∃ (its:List Value) (n:Nat),Vals xs its∧h.get? p=some { cls:=.type "list",data:=.seq its.toArray n }
mutual
def bf (K:NZ) (H Hf:Hp):Sh→V→List (Addr×List V)→Prop
 | .v d,v,fp=>Rep K Hf d v∧fp=[]
 | .l ds,v,fp=>∃ p xs,v=.ref p∧H p=some (pl p xs)∧Hf p=none∧aq K Hf ds xs∧fp=[(p,xs)]
 | .la p ds,v,fp=>∃ xs,v=.ref p∧H p=some (pl p xs)∧Hf p=none∧aq K Hf ds xs∧fp=[(p,xs)]
 | .t ss,v,fp=>∃ a xs,v=.ref a∧cY K Hf a xs∧aB K H Hf ss xs fp
 | .ls ss,v,fp=>∃ p xs fq,v=.ref p∧H p=some (pl p xs)∧Hf p=none∧aB K H Hf ss xs fq∧fp=(p,xs)::fq
def aB (K:NZ) (H Hf:Hp):List Sh→List V→List (Addr×List V)→Prop
 | [],xs,fp=>xs=[]∧fp=[]
 | s::ss,xs,fp=>∃ x r f1 f2,xs=x::r∧bf K H Hf s x f1∧aB K H Hf ss r f2∧fp=f1++f2
end
noncomputable def zR (H:Hp) (q:Addr):Prop:=∃ xs,H q=some (pl q xs)
mutual
theorem bf.mv {K:NZ} {H Hf H' aj:Hp} (sf:aD Hf aj):∀ (s:Sh) {v:V} {fp:List (Addr×List V)},(∀ q∈fp,H q.1=some (pl q.1 q.2)→Hf q.1=none→H' q.1=some (pl q.1 q.2)∧aj q.1=none)→bf K H Hf s v fp→bf K H' aj s v fp
 | .v d,_,_,_,h=>by simp only [bf] at h ⊢; exact ⟨h.1.mono sf d,h.2⟩
 | .l ds,_,_,hk,h=>by
  simp only [bf] at h ⊢
  obtain ⟨p,xs,e,h1,h2,h3,rfl⟩:=h
  obtain ⟨q1,q2⟩:=hk _ Od h1 h2
  exact ⟨p,xs,e,q1,q2,h3.mono sf ds,rfl⟩
 | .la p ds,_,_,hk,h=>by
  simp only [bf] at h ⊢
  obtain ⟨xs,e,h1,h2,h3,rfl⟩:=h
  obtain ⟨q1,q2⟩:=hk _ Od h1 h2
  exact ⟨xs,e,q1,q2,h3.mono sf ds,rfl⟩
 | .t ss,_,_,hk,h=>by
  simp only [bf] at h ⊢
  obtain ⟨a,xs,e,h1,h2⟩:=h
  exact ⟨a,xs,e,au sf h1,aB.mv sf ss hk h2⟩
 | .ls ss,_,_,hk,h=>by
  simp only [bf] at h ⊢
  obtain ⟨p,xs,fq,e,h1,h2,h3,rfl⟩:=h
  obtain ⟨q1,q2⟩:=hk _ Od h1 h2
  exact ⟨p,xs,fq,e,q1,q2,aB.mv sf ss (fun q hq=>hk q (Oe _ hq)) h3,rfl⟩
theorem aB.mv {K:NZ} {H Hf H' aj:Hp} (sf:aD Hf aj):∀ (ss:List Sh) {xs:List V} {fp:List (Addr×List V)},(∀ q∈fp,H q.1=some (pl q.1 q.2)→Hf q.1=none→H' q.1=some (pl q.1 q.2)∧aj q.1=none)→aB K H Hf ss xs fp→aB K H' aj ss xs fp
 | [],_,_,_,h=>by simpa only [aB] using h
 | s::ss,_,_,hk,h=>by
  simp only [aB] at h ⊢
  obtain ⟨x,r,f1,f2,e,h1,h2,rfl⟩:=h
  exact ⟨x,r,f1,f2,e,bf.mv sf s (fun q hq=>hk q (Qy _ hq)) h1,aB.mv sf ss (fun q hq=>hk q (Pf _ hq)) h2,rfl⟩
end
inductive Sl where
 | un
 | va (d:D)
 | ow (ds:List D)
 | oT (kvs:List (List Key×D))
 | oK (kvs:List (Key×D))
 | aw (a:Addr) (ds:List D)
 | aT (a:Addr) (kvs:List (List Key×D))
 | aK (a:Addr) (kvs:List (Key×D))
 | fo (s:Sh)
noncomputable def mF (K:NZ) (H:Hp) {κ:Type}:List (κ×D)→List (κ×V)→Prop:=Paired fun a b=>a.1=b.1∧Rep K H a.2 b.2
theorem mF.mono {K:NZ} (e:aD H H') (h:mF K H ks xs):mF K H' ks xs :=
 Paired.GN h fun a b z=>⟨z.1,Rep.mono e _ z.2⟩
noncomputable def k6 (K:NZ) (H:Hp):List (List Key×D)→List (List Key×Addr×V)→Prop:=Paired fun a b=>a.1=b.1∧cY K H b.2.1 (a.1.map kV)∧Rep K H a.2 b.2.2
theorem k6.mono {K:NZ} (e:aD H H') (h:k6 K H ks xs):k6 K H' ks xs :=
 Paired.GN h fun a b z=>⟨z.1,au e z.2.1,Rep.mono e _ z.2.2⟩
noncomputable def aX (K:NZ) (fr:Addr→Prop) (H Hf:Hp):Sl→V→Prop
 | .un,_=>False
 | .va d,v=>Rep K Hf d v
 | .ow ds,v=>∃ p xs,v=.ref p∧fr p∧H p=some (.lst xs)∧Hf p=none∧aq K Hf ds xs
 | .oT kvs,v=>∃ p xs,v=.ref p∧fr p∧H p=some (.dT xs)∧Hf p=none∧k6 K Hf kvs xs
 | .oK kvs,v=>∃ p xs,v=.ref p∧fr p∧H p=some (.dK xs)∧Hf p=none∧mF K Hf kvs xs
 | .aw a ds,v=>∃ p xs,v=.ref p∧(fr p∧p=a)∧H p=some (.lst xs)∧Hf p=none∧aq K Hf ds xs
 | .aT a kvs,v=>∃ p xs,v=.ref p∧(fr p∧p=a)∧H p=some (.dT xs)∧Hf p=none∧k6 K Hf kvs xs
 | .aK a kvs,v=>∃ p xs,v=.ref p∧(fr p∧p=a)∧H p=some (.dK xs)∧Hf p=none∧mF K Hf kvs xs
 | .fo s,v=>∃ fp,bf K H Hf s v fp∧(fp.map (·.1)).Nodup∧∀ a∈fp,fr a.1
noncomputable def Sl.owned:Sl→Bool
 | .ow _=>true | .oT _=>true | .oK _=>true | .aw _ _=>true | .aT _ _=>true | .aK _ _=>true | _=>false
structure bq (H Hf H' aj:Hp):Prop where
 s:aD H H'
 f:aD Hf aj
 b:aD aj H'
 n:∀ b,Hf b=none→H b≠none→(∀ xs,H b≠some (.tup xs))→aj b=none
theorem bq.refl (b:aD Hf H):bq H Hf H Hf:=⟨.refl _,.refl _,b,fun _ h _ _=>h⟩
theorem bq.trans (a:bq H Hf H1 aN) (b:bq H1 aN H2 cJ):bq H Hf H2 cJ :=
 ⟨a.s.trans b.s,a.f.trans b.f,b.b,fun c h1 h2 h3=>by
   cases q:H c with
   | none=>exact absurd q h2
   | some o =>
    have e:=a.s c o q
    exact b.n c (a.n c h1 h2 h3) (by rw [e]; simp) (by intro xs; rw [e,← q]; exact h3 xs)⟩
theorem bq.new (b:aD Hf H) (hp:H p=none):bq H Hf (upd H p o) (upd Hf p o):=by
 have hf:Hf p=none:=b.free hp
 refine ⟨fun c u h=>?_,fun c u h=>?_,fun c u h=>?_,fun c h1 h2 _=>?_⟩
 ·rw [ak (az h hp)]; exact h
 ·rw [ak (az h hf)]; exact h
 ·by_cases e:c=p
  ·subst e; rw [ai] at h ⊢; exact h
  ·rw [ak e] at h ⊢; exact b c u h
 ·by_cases e:c=p
  ·subst e; exact absurd hp h2
  ·rw [ak e]; exact h1
theorem bq.gi (b:aD Hf H) (hp:H p=none):bq H Hf (upd H p o) Hf :=
 ⟨(bq.new b hp (o:=o)).s,.refl _,fun c u h=>(bq.new b hp (o:=o)).s c u (b c u h),fun _ h _ _=>h⟩
inductive At {α:Type}:List α→Nat→α→Prop where
 | z {x:α} {l:List α}:At (x::l) 0 x
 | s {x y:α} {l:List α} {i:Nat}:At l i x→At (y::l) (i+1) x
theorem At.get (h:At l i x):l[i]?=some x:=by
 induction h with
 | z=>rfl
 | s _ ih=>simpa using ih
theorem At.mem (h:At l i x):x∈l:=O9 h.get
inductive SSet {α:Type}:List α→Nat→α→List α→Prop where
 | z {x r:α} {l:List α}:SSet (x::l) 0 r (r::l)
 | s {r y:α} {l l':List α} {i:Nat}:SSet l i r l'→SSet (y::l) (i+1) r (y::l')
theorem SSet.eq (h:SSet l i r l'):l'=l.set i r:=by
 induction h with
 | z=>rfl
 | s _ ih=>simp [ih]
structure cZ (K:NZ) (H₀ dN:Hp) (σ:L2.St) (H Hf:Hp) (ρ:List Sl):Prop where
 bas:bq H₀ dN H Hf
 len:σ.length=ρ.length
 at_:∀ (i:Nat) (r:Sl),ρ[i]?=some r→r≠.un→∃ v,σ[i]?=some (some v)∧aX K (fun p=>H₀ p=none) H Hf r v
 sep:∀ (i j:Nat) (r r':Sl) (p:Addr),i≠j→ρ[i]?=some r→ρ[j]?=some r'→r.owned=true→r'.owned=true→σ[i]?=some (some (.ref p))→σ[j]?≠some (some (.ref p))
structure KJ (P:Program) (w:World) (outer:List Env) (H:Hp) (s:Shared) (a C:Addr) (H':Hp) (s':Shared):Prop where
 os:s'.os=s.os
 bare:AllBare s'.gens
 un:Un (frs outer) [] H H' s.heap s'.heap
 hok:jq P w H' s'.heap
 new:s.heap.get? a=none
 free:H' a=none
 fly:∃ (t:Addr) (B:Heap),Heap.FlyingW B outer a (.ref C) (.ref t) s'.heap∧(∀ b o,s.heap.get? b=some o→b∉frs outer→∃ o',s'.heap.get? b=some o'∧B.get? b=some o') ∧
  ∀ b o,H' b≠none→s'.heap.get? b=some o→B.get? b=some o
noncomputable def dR (P:Program) (w:World):Hj:=fun outer H s E e s'=>∃ a C H',e=.ref a∧KJ P w outer H s a C H' s'∧E (.ref C) (some a) H'
set_option genInjectivity false in
structure Ctx (P:Program) (w:World) (K:NZ) (mg:Str→Option Value) (base:Heap) (k:Nat) (N:List Str) (sc:Scope) (bk:Bool) where
 X:Cx
 eP:X.prog=P
 ew:X.w=w
 eK:X.K=K
 emg:X.mg=mg
 eb:X.base=base
 eN:X.N=N
 esc:X.env.scope=sc
 calm:X.calm=true
 top:bk=false→X.stack=X.env::X.outer∧X.env.frame=some X.env.locals∧X.ex=[]
 cb:bk=false→∀ (aa:List (Addr×Obj)) (σ:L2.St) (H:Hp) (s:Shared),Inv X aa σ H s→∀ (x:Str) (c:Addr),X.env.cells.lookup x=some c→X.s₀.heap.objs.size≤c
 fn:∀ x,bk=false∨sc.names.lookup x=some .local→X.fn x=true∨X.env.scope.names.lookup x=some .local
 room:g6 k X.A
 nd:N.Nodup
 vis:∀ x∈N,Loc sc x
 Hf:Hp
 B:Hp
 RX:Addr→List Sl→Prop
 exc:∀ (C a:Addr) (aa:List (Addr×Obj)) (σ:L2.St) (H aj:Hp) (ρ:List Sl) (s:Shared) (H':Hp) (s':Shared),Inv X aa σ H s→cZ X.K B Hf σ H aj ρ→RX C ρ→KJ X.prog X.w X.stack H s a C H' s'→aD H H'→X.xe (.ref a) s'
 RM:Addr→List Sl→Prop
 mde:∀ (C a:Addr) (aa:List (Addr×Obj)) (σ:L2.St) (H aj:Hp) (ρ:List Sl) (s:Shared) (h':Heap) (us:List Value),Inv X aa σ H s→cZ X.K B Hf σ H aj ρ→RM C ρ→Heap.MadeExcOf s.heap h' a (.ref C) us→X.xe (.ref a) { s with heap:=h' }
noncomputable def Sl.KL:Sl→Bool | .fo _=>true | _=>false
noncomputable abbrev p5 {α:Type} (fr:Addr→Prop) (H Hf:Hp) (o:α→HO) (R:α→Prop) (v:V):Prop:=∃ (p:Addr) (xs:α),v=.ref p∧fr p∧H p=some (o xs)∧Hf p=none∧R xs
theorem p5.J1 (h:p5 fr H Hf o R v) (hk:∀ p,v=.ref p→∀ u,(∀ ys,u≠.tup ys)→H p=some u→Hf p=none→H' p=some u∧aj p=none) (ho:∀ xs ys,o xs≠.tup ys) (hR:∀ xs,R xs→R' xs):p5 fr H' aj o R' v:=by
 obtain ⟨p,xs,e,f,h1,h2,h3⟩:=h
 exact ⟨p,xs,e,f,(hk p e _ (ho xs) h1 h2).1,(hk p e _ (ho xs) h1 h2).2,hR xs h3⟩
theorem p5.J2 (h:p5 fr H Hf o R v) (hf:∀ p,fr p→fr' p):p5 fr' H Hf o R v :=
 let ⟨p,xs,e,f,h⟩:=h; ⟨p,xs,e,hf p f,h⟩
theorem aX.mv {K:NZ} {B:Addr→Prop} (sf:aD Hf aj) (hk:∀ q o,¬ B q→H q=some o→(∀ xs,o≠.tup xs)→Hf q=none→H' q=some o∧aj q=none):∀ {r:Sl} {v:V},
 (r.KL=true→∀ q,B q→¬ zR H q)→(r.owned=true→∀ q,v=.ref q→¬ B q)→aX K fr H Hf r v→aX K fr H' aj r v
 | .un,_,_,_,h=>h
 | .va d,_,_,_,h=>Rep.mono sf d h
 | .ow ds,_,_,hv,h=>p5.J1 h (fun p e o z ho hf=>hk p o (hv rfl p e) ho z hf) (fun _ _ z=>by cases z) fun _ h=>h.mono sf
 | .oT kvs,_,_,hv,h=>p5.J1 h (fun p e o z ho hf=>hk p o (hv rfl p e) ho z hf) (fun _ _ z=>by cases z) fun _ h=>h.mono sf
 | .oK kvs,_,_,hv,h=>p5.J1 h (fun p e o z ho hf=>hk p o (hv rfl p e) ho z hf) (fun _ _ z=>by cases z) fun _ h=>h.mono sf
 | .aw a ds,_,_,hv,h=>p5.J1 h (fun p e o z ho hf=>hk p o (hv rfl p e) ho z hf) (fun _ _ z=>by cases z) fun _ h=>h.mono sf
 | .aT a kvs,_,_,hv,h=>p5.J1 h (fun p e o z ho hf=>hk p o (hv rfl p e) ho z hf) (fun _ _ z=>by cases z) fun _ h=>h.mono sf
 | .aK a kvs,_,_,hv,h=>p5.J1 h (fun p e o z ho hf=>hk p o (hv rfl p e) ho z hf) (fun _ _ z=>by cases z) fun _ h=>h.mono sf
 | .fo s,_,hB,_,⟨fp,h1,h2,h3⟩=>⟨fp,bf.mv sf s (fun q _ e1 e2=>hk q.1 _ (fun b=>hB rfl q.1 b ⟨q.2,e1⟩) e1 (by intro ys z; cases z) e2) h1,h2,h3⟩
theorem aX.cB {K:NZ} (g:bq H Hf H' aj) (h:aX K fr H Hf r v):aX K fr H' aj r v :=
 aX.mv (B:=fun _=>False) g.f (fun q o _ e1 e2 e3=>⟨g.s _ _ e1,g.n q e3 (by rw [e1]; simp) fun xs z=>e2 xs (by rw [e1] at z; exact Py z)⟩) (fun _ _ z=>z.elim) (fun _ _ _ z=>z) h
theorem aX.weak {K:NZ} (hf:∀ p,fr p→fr' p):∀ {r:Sl} {v:V},aX K fr H Hf r v→aX K fr' H Hf r v
 | .un,_,h=>h
 | .va d,_,h=>h
 | .ow ds,_,h=>p5.J2 h hf
 | .oT ds,_,h=>p5.J2 h hf
 | .oK ds,_,h=>p5.J2 h hf
 | .aw a ds,_,h=>p5.J2 h fun p f=>⟨hf p f.1,f.2⟩
 | .aT a ds,_,h=>p5.J2 h fun p f=>⟨hf p f.1,f.2⟩
 | .aK a ds,_,h=>p5.J2 h fun p f=>⟨hf p f.1,f.2⟩
 | .fo s,_,⟨fp,h1,h2,h3⟩=>⟨fp,h1,h2,fun a ha=>hf _ (h3 a ha)⟩
section
variable {K:NZ}
noncomputable def Ctx.fr (c:Ctx P w K mg base k N sc bk) (p:Addr):Prop:=c.B p=none
noncomputable abbrev bw (c:Ctx P w K mg base k N sc bk) (σ:L2.St) (H Hf:Hp) (ρ:List Sl):Prop:=cZ c.X.K c.B c.Hf σ H Hf ρ
theorem cZ.cB (S:cZ K H₀ dN σ H Hf ρ) (g:bq H Hf H' aj):cZ K H₀ dN σ H' aj ρ :=
 ⟨S.bas.trans g,S.len,fun i r h hr=>let ⟨v,e,q⟩:=S.at_ i r h hr; ⟨v,e,q.cB g⟩,S.sep⟩
theorem cZ.sb (S:cZ K H₀ dN σ H Hf ρ):aD Hf H:=S.bas.b
theorem cZ.va (S:cZ K H₀ dN σ H Hf ρ) {i:Nat} (h:ρ[i]?=some (.va d)):∃ v,σ[i]?=some (some v)∧Rep K Hf d v:=S.at_ i _ h (by simp)
theorem cZ.set (S:cZ K H₀ dN σ H Hf ρ) (g:bq H Hf H1 aN) (hr:aX K (fun p=>H p=none) H1 aN r v) :
 cZ K H₀ dN (σ.set i (some v)) H1 aN (ρ.set i r):=by
 have S1:=S.cB g
 have fr0:∀ p,H p=none→H₀ p=none:=fun p h=>S.bas.s.free h
 have fresh:∀ p,r.owned=true→v=.ref p→H p=none:=fun p ho e=>by
  subst e
  cases r with
  | un=>cases ho
  | va d=>cases ho
  | ow ds=>obtain ⟨p',xs,e,h,_⟩:=hr; cases e; exact h
  | oT ds=>obtain ⟨p',xs,e,h,_⟩:=hr; cases e; exact h
  | oK ds=>obtain ⟨p',xs,e,h,_⟩:=hr; cases e; exact h
  | aw a ds=>obtain ⟨p',xs,e,h,_⟩:=hr; cases e; exact h.1
  | aT a ds=>obtain ⟨p',xs,e,h,_⟩:=hr; cases e; exact h.1
  | aK a ds=>obtain ⟨p',xs,e,h,_⟩:=hr; cases e; exact h.1
  | fo s=>cases ho
 have old:∀ (j:Nat) (r':Sl) (p:Addr),ρ[j]?=some r'→r'.owned=true→σ[j]?=some (some (.ref p))→H p≠none:=fun j r' p h ho hs=>by
  obtain ⟨v',e,q⟩:=S.at_ j r' h (by rintro rfl; cases ho)
  rw [hs] at e; cases e
  cases r' with
  | un=>cases ho
  | va d=>cases ho
  | ow ds=>obtain ⟨p',xs,e,_,h,_⟩:=q; cases e; rw [h]; simp
  | oT ds=>obtain ⟨p',xs,e,_,h,_⟩:=q; cases e; rw [h]; simp
  | oK ds=>obtain ⟨p',xs,e,_,h,_⟩:=q; cases e; rw [h]; simp
  | aw a ds=>obtain ⟨p',xs,e,_,h,_⟩:=q; cases e; rw [h]; simp
  | aT a ds=>obtain ⟨p',xs,e,_,h,_⟩:=q; cases e; rw [h]; simp
  | aK a ds=>obtain ⟨p',xs,e,_,h,_⟩:=q; cases e; rw [h]; simp
  | fo s=>cases ho
 refine ⟨S1.bas,by simp [S.len],fun j r' hj hu=>?_,fun j j' r1 r2 p hne h1 h2 o1 o2 e1 e2=>?_⟩
 ·by_cases q:j=i
  ·subst q
   have hi:j<ρ.length:=by
    have:=(Ob.mp hj).1
    simpa using this
   rw [O8 hi] at hj; cases hj
   exact ⟨v,O8 (by rw [S.len]; exact hi),hr.weak fr0⟩
  ·rw [Pa (Oq q)] at hj ⊢
   exact S1.at_ j r' hj hu
 ·have hlt:∀ {j:Nat} {r:Sl},(ρ.set i r)[j]?=some r→j<ρ.length:=fun {j r} h=>by
   have:=(Ob.mp h).1
   simpa using this
  by_cases q1:j=i
  ·subst q1
   have hi:j<ρ.length:=by have:=(Ob.mp h1).1; simpa using this
   rw [O8 hi] at h1; cases h1
   rw [O8 (by rw [S.len]; exact hi)] at e1
   rw [Pa hne] at h2 e2
   exact old j' r2 p h2 o2 e2 (fresh p o1 (by simpa using e1))
  ·by_cases q2:j'=i
   ·subst q2
    have hi:j'<ρ.length:=by have:=(Ob.mp h2).1; simpa using this
    rw [O8 hi] at h2; cases h2
    rw [O8 (by rw [S.len]; exact hi)] at e2
    rw [Pa (Oq hne)] at h1 e1
    exact old j r1 p h1 o1 e1 (fresh p o2 (by simpa using e2))
   ·rw [Pa (Oq q1)] at h1 e1
    rw [Pa (Oq q2)] at h2 e2
    exact S.sep j j' r1 r2 p hne h1 h2 o1 o2 e1 e2
theorem cZ.weak (S:cZ K H₀ dN σ H Hf ρ) (hl:ρ'.length=ρ.length) (h:∀ (i:Nat) (r:Sl),ρ'[i]?=some r→r≠.un→ρ[i]?=some r):cZ K H₀ dN σ H Hf ρ' :=
 ⟨S.bas,by rw [S.len,hl],fun i r e hu=>S.at_ i r (h i r e hu) hu,fun i j r r' p hne h1 h2 o1 o2=>S.sep i j r r' p hne (h i r h1 (by rintro rfl; cases o1)) (h j r' h2 (by rintro rfl; cases o2)) o1 o2⟩
end
section
variable {P:Program} {w:World} {K:NZ} {mg:Str→Option Value} {base:Heap} {k:Nat} {N:List Str} {sc:Scope} {bk:Bool}
noncomputable def bE (X:Cx) (e:Expr):TE:=fun σ H Q=>∀ aa s,Inv X aa σ H s→wpAny (model X.prog X.w) X.A (eval e X.env) (EP X aa σ Q) X.xe s
theorem cW:PE X e (bE X e):=fun aa s σ H Q I h=>h aa s I
theorem bH (h:PE X e t) (q:t σ H Q):bE X e σ H Q:=fun aa s I=>h aa s σ H Q I q
noncomputable def bT (X:Cx) (e:Expr):TT:=fun σ H Q=>∀ aa s,Inv X aa σ H s→wpAny (model X.prog X.w) X.A (isTrue e X.env (eval e X.env)) (TP X aa σ Q) X.xe s
theorem FY:PT X e (bT X e):=fun aa s σ H Q I h=>h aa s I
theorem vv (h:PT X e t) (q:t σ H Q):bT X e σ H Q:=fun aa s I=>h aa s σ H Q I q
noncomputable def bA (X:Cx) (es:List Expr):TA:=fun σ H Q=>∀ pos aa s,Inv X aa σ H s→wpAny (model X.prog X.w) X.A (spliced (backTo pos (starEach es X.env))) (AP X aa σ Q) X.xe s
theorem DQ:PA X es (bA X es):=fun pos aa s σ H Q I h=>h pos aa s I
theorem nF (h:PA X es t) (q:t σ H Q):bA X es σ H Q:=fun pos aa s I=>h pos aa s σ H Q I q
noncomputable def bS (X:Cx) (st:Stmt):TS:=fun D σ H=>∀ aa s,Inv X aa σ H s→wpAny (model X.prog X.w) X.A (exec st X.env) (SP X aa D) X.xe s
theorem NR {st:Stmt}:PS X st (bS X st):=fun aa s σ H D I h=>h aa s I
theorem dS {st:Stmt} (h:PS X st t) {D:Ends} (q:t D σ H):bS X st D σ H:=fun aa s I=>h aa s σ H D I q
noncomputable def HD (X:Cx) (st:List Stmt):TS:=fun D σ H=>∀ aa s,Inv X aa σ H s→wpAny (model X.prog X.w) X.A (execs st X.env) (SP X aa D) X.xe s
theorem qw {st:List Stmt}:sW X st (HD X st):=fun aa s σ H D I h=>h aa s I
theorem zS {st:List Stmt} (h:sW X st t) {D:Ends} (q:t D σ H):HD X st D σ H:=fun aa s I=>h aa s σ H D I q
noncomputable def bG (X:Cx) (tg:Expr):TG:=fun v σ H Q=>∀ aa s u,Inv X aa σ H s→RelV v u→wpAny (model X.prog X.w) X.A (assign tg X.env u) (fun _ s'=>∃ σ' H',Inv X aa σ' H' s'∧Q σ' H') X.xe s
theorem Nz:PG X tg (bG X tg):=fun aa s σ H v u Q I r h=>h aa s u I r
theorem FZ (h:PG X tg t) (q:t v σ H Q):bG X tg v σ H Q:=fun aa s u I r=>h aa s σ H v u Q I r q
variable (c:Ctx P w K mg base k N sc bk)
noncomputable def dz (e:Expr) (ρ:List Sl) (R:Sl→Prop):Prop :=
 ∀ (σ:L2.St) (H Hf:Hp) (Q:VK),bw c σ H Hf ρ→(∀ r v H' aj,R r→aX c.X.K (fun p=>H p=none) H' aj r v→bq H Hf H' aj→Q v H')→bE c.X e σ H Q
noncomputable def aF (e:Expr) (ρ:List Sl) (R:D→Prop):Prop :=
 ∀ (σ:L2.St) (H Hf:Hp) (Q:VK),bw c σ H Hf ρ→(∀ d v H' aj,R d→Rep c.X.K aj d v→bq H Hf H' aj→Q v H')→bE c.X e σ H Q
noncomputable def jz (e:Expr) (ρ:List Sl) (R:Bool→Prop):Prop :=
 ∀ (σ:L2.St) (H Hf:Hp) (Q:Bool→Hp→Prop),bw c σ H Hf ρ→(∀ b H' aj,R b→bq H Hf H' aj→Q b H')→bT c.X e σ H Q
noncomputable def qx (es:List Expr) (ρ:List Sl) (R:List D→Prop):Prop :=
 ∀ (σ:L2.St) (H Hf:Hp) (Q:List V→Hp→Prop),bw c σ H Hf ρ→(∀ ds vs H' aj,R ds→aq c.X.K aj ds vs→bq H Hf H' aj→Q vs H')→bA c.X es σ H Q
structure Pt where
 rt:Sl→Prop
 bk:List Sl→Prop:=fun _=>False
 ct:List Sl→Prop:=fun _=>False
structure zT (nx:List Sl→Prop) (p:Pt) (D:Ends):Prop where
 nx:∀ σ H Hf ρ,bw c σ H Hf ρ→nx ρ→D.nx σ H
 rt:∀ r v H Hf,bq c.B c.Hf H Hf→aX c.X.K c.fr H Hf r v→p.rt r→D.rt v H
 bk:∀ σ H Hf ρ,bw c σ H Hf ρ→p.bk ρ→D.bk σ H
 ct:∀ σ H Hf ρ,bw c σ H Hf ρ→p.ct ρ→D.ct σ H
noncomputable def eS (st:Stmt) (ρ:List Sl) (nx:List Sl→Prop) (p:Pt):Prop :=
 ∀ (σ:L2.St) (H Hf:Hp) (D:Ends),bw c σ H Hf ρ→zT c nx p D→bS c.X st D σ H
noncomputable def aS (st:List Stmt) (ρ:List Sl) (nx:List Sl→Prop) (p:Pt):Prop :=
 ∀ (σ:L2.St) (H Hf:Hp) (D:Ends),bw c σ H Hf ρ→zT c nx p D→HD c.X st D σ H
noncomputable def nG (tg:Expr) (d:D) (ρ:List Sl) (R:List Sl→Prop):Prop :=
 ∀ (σ:L2.St) (H Hf:Hp) (v:V) (Q:L2.St→Hp→Prop),bw c σ H Hf ρ→Rep c.X.K Hf d v→(∀ σ' H' aj ρ',bw c σ' H' aj ρ'→bq H Hf H' aj→R ρ'→Q σ' H')→bG c.X tg v σ H Q
variable {c}
noncomputable def Sl.fz:Sl→Option D
 | .va d=>some d
 | .ow ds=>some (.lst ds)
 | _=>none
noncomputable def F0 (R:D→Prop) (r:Sl):Prop:=∃ d,r.fz=some d∧R d
theorem HE (e:r.fz=some d) (h:aX K (fun p=>H p=none) H' aj r v) (g:bq H Hf H' aj) :
 ∃ cJ,Rep K cJ d v∧bq H Hf H' cJ:=by
 cases r with
 | un=>cases e
 | va d'=>cases e; exact ⟨aj,h,g⟩
 | oT _=>cases e
 | oK _=>cases e
 | aw _ _=>cases e
 | aT _ _=>cases e
 | aK _ _=>cases e
 | fo _=>cases e
 | ow ds =>
  cases e
  obtain ⟨p,xs,rfl,hp,h1,h2,h3⟩:=h
  have sf:aD aj (upd aj p (.lst xs)):=fun b o e=>by rw [ak (az e h2)]; exact e
  have sb:aD (upd aj p (.lst xs)) H':=fun b o e=>by
   by_cases q:b=p
   ·subst q; rw [ai] at e; rw [h1]; exact e
   ·rw [ak q] at e; exact g.b b o e
  refine ⟨upd aj p (.lst xs),aV.mpr ⟨p,xs,rfl,.inl (.inl ai),h3.mono sf⟩,g.s,g.f.trans sf,sb,fun b q1 q2 q3=>?_⟩
  have e:=g.n b q1 q2 q3
  by_cases q:b=p
  ·subst q; exact absurd hp q2
  ·rw [ak q]; exact e
theorem e_x (h:dz c e ρ (F0 R)):aF c e ρ R:=fun σ H Hf Q S q =>
 h σ H Hf Q S fun r v H' aj ⟨d,e1,rd⟩ rs g=>let ⟨cJ,h1,g2⟩:=HE e1 rs g; q d v H' cJ rd h1 g2
theorem J3 (h:aF c e ρ fun d=>R (.va d)):dz c e ρ R:=fun σ H Hf Q S q =>
 h σ H Hf Q S fun d v H' aj rd h1 g=>q (.va d) v H' aj rd h1 g
theorem aF.imp (h:aF c e ρ R) (hi:∀ d,R d→R' d):aF c e ρ R':=fun σ H Hf Q S q=>h σ H Hf Q S fun d v H' aj rd=>q d v H' aj (hi d rd)
theorem dz.imp (h:dz c e ρ R) (hi:∀ d,R d→R' d):dz c e ρ R':=fun σ H Hf Q S q=>h σ H Hf Q S fun d v H' aj rd=>q d v H' aj (hi d rd)
theorem jz.imp (h:jz c e ρ R) (hi:∀ d,R d→R' d):jz c e ρ R':=fun σ H Hf Q S q=>h σ H Hf Q S fun d H' aj rd=>q d H' aj (hi d rd)
theorem qy (hN:At N i x) (hs:At ρ i (.va d)) (hR:R d)
 (hd:(x == ("__debug__":Str))=false:=by decide) (hcd:(x == ("__classdict__":Str))=false:=by decide) :
 aF c (.Name x pos) ρ R:=fun σ H Hf Q S q=>by
 obtain ⟨v,e,r⟩:=S.va hs.get
 exact bH (tu (X:=c.X) (i:=i) (by rw [c.eN]; exact hN.get) (by rw [c.esc]; rcases c.vis x hN.mem with h | h; exact .inl h; exact .inr (.inl h)) hd hcd) ⟨v,e,q d v H Hf hR r (.refl S.sb)⟩
theorem KN (hR:R (.int i)):aF c (.Constant (.int i) j pos) ρ R:=fun σ H Hf Q S q =>
 bH zg (q _ _ H Hf hR (av.mpr rfl) (.refl S.sb))
theorem M6 (hR:R (.bl i)):aF c (.Constant (.bool i) j pos) ρ R:=fun σ H Hf Q S q =>
 bH FP (q _ _ H Hf hR (eG.mpr rfl) (.refl S.sb))
theorem tO (hm:mg x=some (.int i t)) (hR:R (.int i)) (hg:sc.names.lookup x=some .globalImplicit:=by walk_at "u") (hd:(x == ("__debug__":Str))=false:=by decide) :
 aF c (.Name x pos) ρ R:=fun σ H Hf Q S q =>
 bH (vc (X:=c.X) (v:=.int i) (u:=.int i t) (by unfold Gl OQ; rw [c.esc]; exact hg) (by rw [c.emg]; exact hm) ⟨t,rfl⟩ hd) (q _ _ H Hf hR (av.mpr rfl) (.refl S.sb))
noncomputable def Mm (K:NZ) (r:R2) (p:D→D→(Sl→Prop)→Prop):Prop :=
 ∀ (x y:D) (v u:V) (H Hf:Hp) (Q:VK) (R:Sl→Prop),aD Hf H→Rep K Hf x v→Rep K Hf y u→p x y R →
  (∀ z v' H' aj,R z→aX K (fun p=>H p=none) H' aj z v'→bq H Hf H' aj→Q v' H')→r v u H Q
theorem oN (ho:fm c.X (binaryOp op) r) (hd:Mm c.X.K r p)
 (h:aF c a ρ fun x=>aF c b ρ fun y=>p x y R):dz c (.BinOp a op b pos) ρ R:=fun σ H Hf Q S q =>
 bH (zw ho cW cW) (h σ H Hf _ S fun x v1 H1 aN h1 r1 g1=>h1 σ H1 aN _ (S.cB g1) fun y v2 H2 cJ h2 r2 g2 =>
  hd x y v1 v2 H2 cJ Q R g2.b (Rep.mono g2.f x r1) r2 h2 fun z v' H' aj hz rz g3 =>
   q z v' H' aj hz (rz.weak fun p hp=>(g1.trans g2).s.free hp) ((g1.trans g2).trans g3))
theorem nH {f:Int→Int→Int}:Mm K (rI C fun i j=>.int (f i j)) fun x y R=>∃ i j,x=.int i∧y=.int j∧C i j∧R (.va (.int (f i j))):=by
 rintro x y v u H Hf Q R s rx ry ⟨i,j,rfl,rfl,hC,hR⟩ q
 rw [av] at rx ry
 exact ⟨i,j,rx,ry,hC,q (.va (.int (f i j))) _ H Hf hR (show Rep K Hf (.int (f i j)) _ from av.mpr rfl) (.refl s)⟩
theorem zU {f:Int→Int→Int}:Mm K (ve fun i j=>.int (f i j)) fun x y R=>∃ i j,x=.int i∧y=.int j∧R (.va (.int (f i j))):=by
 rintro x y v u H Hf Q R s rx ry ⟨i,j,rfl,rfl,hR⟩ q
 rw [av] at rx ry
 exact ⟨i,j,rx,ry,q (.va (.int (f i j))) _ H Hf hR (show Rep K Hf (.int (f i j)) _ from av.mpr rfl) (.refl s)⟩
theorem iV (h:dz c e ρ fun r=>∃ d,r=.va d∧R d):aF c e ρ R:=e_x (h.imp fun r ⟨d,e,hr⟩=>⟨d,by subst e; rfl,hr⟩)
noncomputable def jV:D→D→Bool
 | .non,.non=>true | .non,.int _=>true | .int _,.non=>true | .non,.bl _=>true | .bl _,.non=>true | .non,.str _=>true | .str _,.non=>true
 | .int _,.int _=>true | .bl _,.bl _=>true | .str _,.str _=>true | .int _,.str _=>true | .str _,.int _=>true | .bl _,.str _=>true | .str _,.bl _=>true
 | _,_=>false
noncomputable instance:DecidableEq D:=fun _ _=>Classical.propDecidable _
inductive k7:Nat→D→D→Prop where
 | sc {n:Nat} {x y:D} (h:jV x y=true):k7 n x y
 | tup {n:Nat} {ds es:List D} (h:∀ (i:Nat) (d e:D),ds[i]?=some d→es[i]?=some e→k7 n d e):k7 (n+1) (.tup ds) (.tup es)
 | lst {n:Nat} {ds es:List D} (h:∀ (i:Nat) (d e:D),ds[i]?=some d→es[i]?=some e→k7 n d e):k7 (n+1) (.lst ds) (.lst es)
 | ln {n:Nat} {ds:List D}:k7 n (.lst ds) .non
 | nl {n:Nat} {ds:List D}:k7 n .non (.lst ds)
 | tn {n:Nat} {ds:List D}:k7 n (.tup ds) .non
 | nt {n:Nat} {ds:List D}:k7 n .non (.tup ds)
noncomputable def oO (ds es:List D):Prop:=∀ (i:Nat) (d e:D),ds[i]?=some d→es[i]?=some e→k7 40 d e
noncomputable def KO (x y:D):Prop:=jV x y=true∨∃ ds es,((x=.tup ds∧y=.tup es)∨(x=.lst ds∧y=.lst es))∧oO ds es
section
variable {a b:Expr} {pos:Pos} {ρ:List Sl} {R:D→Prop}
structure Sd (A B:Prop):Prop where
 s:A
 r:B
structure nI (A B:Prop) (x:Bool):Prop where
 t:x=true→A
 f:x=false→B
theorem KP (h1:A):nI A B true:=⟨fun _=>h1,fun h=>by cases h⟩
theorem KQ (h1:B):nI A B false:=⟨fun h=>(by cases h),fun _=>h1⟩
theorem DR (h1:p→A) (h2:¬ p→B):nI A B (@decide p i):=⟨fun h=>h1 (of_decide_eq_true h),fun h=>h2 (of_decide_eq_false h)⟩
theorem DS (h:nI B A x):nI A B (!x):=⟨fun e=>h.f (by simpa using e),fun e=>h.t (by simpa using e)⟩
noncomputable def DT (x y:D) (T:Bool→Prop):Prop:=KO x y∧T (decide (x=y))
theorem DU (h:T (decide (i=j))):DT (.int i) (.int j) T:=⟨.inl rfl,by
 have e:decide (D.int i=D.int j)=decide (i=j):=by simp
 rw [e]; exact h⟩
theorem DV (h:Sd (oO ds es) (T (decide (ds=es)))):DT (.lst ds) (.lst es) T:=⟨.inr ⟨ds,es,.inr ⟨rfl,rfl⟩,h.s⟩,by
 have e:decide (D.lst ds=D.lst es)=decide (ds=es):=by simp
 rw [e]; exact h.r⟩
noncomputable def I2 (k:Int→Int→Prop):D→D→Prop:=fun x y=>∃ i j,x=.int i∧y=.int j∧k i j
theorem i2 {k:Int→Int→Prop} (h:k i j):I2 k (.int i) (.int j):=⟨i,j,rfl,rfl,h⟩
noncomputable def I1 (k:Int→Prop):D→Prop:=fun x=>∃ i,x=.int i∧k i
theorem i1 {k:Int→Prop} (h:k i):I1 k (.int i):=⟨i,rfl,h⟩
noncomputable def B1 (k:Bool→Prop):D→Prop:=fun x=>∃ i,x=.bl i∧k i
theorem b1 {k:Bool→Prop} (h:k i):B1 k (.bl i):=⟨i,rfl,h⟩
theorem KR (h:aF c a ρ fun x=>aF c b ρ fun y=>I2 (fun i j=>R (.int (i - j))) x y):aF c (.BinOp a .Sub b pos) ρ R :=
 iV (oN G5 zU (h.imp fun x hx=>hx.imp fun y ⟨i,j,e1,e2,r⟩=>⟨i,j,e1,e2,_,rfl,r⟩))
noncomputable def MulOk (i j:Int):Prop:=IntMulOk i j
noncomputable def zV (j:Int):Prop:=0<j∧j.natAbs.log2<9000
theorem DW:fm c.X (binaryOp .Mult) (rI MulOk fun i j=>.int (i * j)):=JZ fun _ _ _ _ _ _ _ hc q=>mul_int q hc
theorem zW:fm c.X (binaryOp .FloorDiv) (rI (fun _ j=>zV j) fun i j=>.int (i / j)):=JZ fun i j _ _ _ _ _ hc q=>by
 have h1:(0:Int)<j:=hc.1
 exact floordiv_int (by lia) (by rw [Int.fdiv_eq_ediv_of_nonneg i (by lia)]; exact q) (.inl (PyProof.noPylong_of_log2 hc.2))
theorem KS (h:aF c a ρ fun x=>aF c b ρ fun y=>I2 (fun i j=>Sd (MulOk i j) (R (.int (i * j)))) x y):aF c (.BinOp a .Mult b pos) ρ R :=
 iV (oN DW nH (h.imp fun x hx=>hx.imp fun y ⟨i,j,e1,e2,⟨hc,r⟩⟩=>⟨i,j,e1,e2,hc,_,rfl,r⟩))
theorem HF (h:aF c a ρ fun x=>aF c b ρ fun y=>I2 (fun i j=>Sd (zV j) (R (.int (i / j)))) x y):aF c (.BinOp a .FloorDiv b pos) ρ R :=
 iV (oN zW nH (h.imp fun x hx=>hx.imp fun y ⟨i,j,e1,e2,⟨hc,r⟩⟩=>⟨i,j,e1,e2,hc,_,rfl,r⟩))
theorem KU (h:aF c a ρ fun x=>aF c b ρ fun y=>I2 (fun i j=>Sd (0<j) (R (.int (i % j)))) x y):aF c (.BinOp a .Mod b pos) ρ R :=
 iV (oN G6 nH (h.imp fun x hx=>hx.imp fun y ⟨i,j,e1,e2,⟨hc,r⟩⟩=>⟨i,j,e1,e2,hc,_,rfl,r⟩))
theorem KW (h:aF c a ρ fun x=>aF c b ρ fun y=>I2 (fun i j=>Sd (tE i j) (R (.int (i ^ j.toNat)))) x y):aF c (.BinOp a .Pow b pos) ρ R :=
 iV (oN G7 nH (h.imp fun x hx=>hx.imp fun y ⟨i,j,e1,e2,⟨hc,r⟩⟩=>⟨i,j,e1,e2,hc,_,rfl,r⟩))
theorem KY (h:aF c a ρ (I1 fun i=>R (.int (-i)))):aF c (.UnaryOp .USub a pos) ρ R:=fun σ H Hf Q S q =>
 bH (Kp Hh cW) (h σ H Hf _ S fun x v H' aj hx r g=>by
  obtain ⟨i,rfl,hR⟩:=hx
  rw [av] at r
  exact ⟨i,r,q _ _ H' aj hR (av.mpr rfl) g⟩)
noncomputable def zX (K:NZ) (r:R2) (p:D→D→(Bool→Prop)→Prop):Prop :=
 ∀ (x y:D) (v u:V) (H Hf:Hp) (Q:VK) (R:Bool→Prop),aD Hf H→Rep K Hf x v→Rep K Hf y u→p x y R→(∀ b,R b→Q (.bl b) H)→r v u H Q
theorem KZ (ho:fm c.X (compareOp op) r) (hd:zX c.X.K r p) (h:aF c a ρ fun x=>aF c b ρ fun y=>p x y fun z=>R (.bl z))
 (hm:behindInMarks op b=false):aF c (.Compare a [op] [b] pos) ρ R:=fun σ H Hf Q S q =>
 bH (Dv ho cW cW hm) (h σ H Hf _ S fun x v1 H1 aN h1 r1 g1=>h1 σ H1 aN _ (S.cB g1) fun y v2 H2 cJ h2 r2 g2 =>
  hd x y v1 v2 H2 cJ Q _ g2.b (Rep.mono g2.f x r1) r2 h2 fun z hz=>q _ _ H2 cJ hz (eG.mpr rfl) (g1.trans g2))
theorem qz (ho:fm c.X (compareOp op) r) (hd:zX c.X.K r p) (h:aF c a ρ fun x=>aF c b ρ fun y=>p x y T)
 (hm:behindInMarks op b=false):jz c (.Compare a [op] [b] pos) ρ T:=fun σ H Hf Q S q =>
 vv (Dw ho cW cW hm) (h σ H Hf _ S fun x v1 H1 aN h1 r1 g1=>h1 σ H1 aN _ (S.cB g1) fun y v2 H2 cJ h2 r2 g2 =>
  hd x y v1 v2 H2 cJ _ T g2.b (Rep.mono g2.f x r1) r2 h2 fun z hz=>⟨z,rfl,q _ H2 cJ hz (g1.trans g2)⟩)
theorem zY {f:Int→Int→Bool}:zX K (ve fun i j=>.bl (f i j)) fun x y R=>I2 (fun i j=>R (f i j)) x y:=by
 rintro x y v u H Hf Q R s rx ry ⟨i,j,rfl,rfl,hR⟩ q
 rw [av] at rx ry
 exact ⟨i,j,rx,ry,q _ hR⟩
theorem vz (h:jV x y=true) (rx:Rep K H x v) (ry:Rep K H y u):Du v u=true∧decide (v=u)=decide (x=y):=by
 cases x <;> cases y <;> simp [jV] at h <;> simp only [av,eG,bN,fC] at rx ry <;> subst rx <;> subst ry <;> simp [Du]
theorem M7 (h:aF c a ρ fun x=>aF c b ρ fun y=>I2 (fun i j=>T (decide (i<j))) x y):jz c (.Compare a [.Lt] [b] pos) ρ T:=qz Ks zY h (jw b)
theorem M8 (h:aF c a ρ fun x=>aF c b ρ fun y=>I2 (fun i j=>T (decide (j<i))) x y):jz c (.Compare a [.Gt] [b] pos) ρ T:=qz Ku zY h (jw b)
theorem M9 (h:aF c a ρ fun x=>aF c b ρ fun y=>I2 (fun i j=>T (decide (j≤i))) x y):jz c (.Compare a [.GtE] [b] pos) ρ T:=qz Kv zY h (jw b)
end
end
section
variable {K:NZ} {c:Ctx P w K mg base k N sc bk}
variable {es rest:List Expr}
noncomputable def bW (X:Cx) (e:Expr):TT:=fun σ H Q=>∀ whole aa s,Inv X aa σ H s→wpAny (model X.prog X.w) X.A (isTrue e X.env whole) (TP X aa σ Q) X.xe s
theorem NB:PW X e (bW X e):=fun whole aa s σ H Q I h=>h whole aa s I
theorem vA (h:PW X e t) (q:t σ H Q):bW X e σ H Q:=fun whole aa s I=>h whole aa s σ H Q I q
noncomputable def F1 (c:Ctx P w K mg base k N sc bk) (e:Expr) (ρ:List Sl) (R:Bool→Prop):Prop :=
 ∀ (σ:L2.St) (H Hf:Hp) (Q:Bool→Hp→Prop),bw c σ H Hf ρ→(∀ b H' aj,R b→bq H Hf H' aj→Q b H')→bW c.X e σ H Q
theorem NC (h:F1 c e ρ T):jz c e ρ T:=fun σ H Hf Q S q aa s I=>h σ H Hf Q S q _ aa s I
theorem HG (h:jz c a ρ T):F1 c (.BoolOp .And [a] pos) ρ T:=fun σ H Hf Q S q=>vA (pw_and1 FY) (h σ H Hf Q S q)
theorem K0 (h:jz c a ρ T):F1 c (.BoolOp .Or [a] pos) ρ T:=fun σ H Hf Q S q=>vA (pw_or1 FY) (h σ H Hf Q S q)
theorem w_and (h:jz c a ρ (nI (F1 c (.BoolOp .And (b::rest) pos) ρ T) (T false))):F1 c (.BoolOp .And (a::b::rest) pos) ρ T:=fun σ H Hf Q S q =>
 vA (pw_and FY NB) (h σ H Hf _ S fun x H' aj hx g=>by
  cases x with
  | true=>exact hx.t rfl σ H' aj Q (S.cB g) fun y H2 cJ hy g2=>q y H2 cJ hy (g.trans g2)
  | false=>exact q false H' aj (hx.f rfl) g)
theorem w_or (h:jz c a ρ (nI (T true) (F1 c (.BoolOp .Or (b::rest) pos) ρ T))):F1 c (.BoolOp .Or (a::b::rest) pos) ρ T:=fun σ H Hf Q S q =>
 vA (pw_or FY NB) (h σ H Hf _ S fun x H' aj hx g=>by
  cases x with
  | false=>exact hx.f rfl σ H' aj Q (S.cB g) fun y H2 cJ hy g2=>q y H2 cJ hy (g.trans g2)
  | true=>exact q true H' aj (hx.t rfl) g)
theorem K1 (h:jz c a ρ fun x=>T (!x)):jz c (.UnaryOp .Not a pos) ρ T:=fun σ H Hf Q S q =>
 vv (GR FY) (h σ H Hf _ S fun x H' aj hx g=>q _ H' aj hx g)
theorem K2 (h:aF c a ρ R):aF c (.BoolOp op [a] pos) ρ R:=fun σ H Hf Q S q=>bH (GS cW) (h σ H Hf Q S q)
theorem K3 (h:aF c a ρ (B1 (nI (aF c (.BoolOp .And (b::rest) pos) ρ R) (R (.bl false))))):aF c (.BoolOp .And (a::b::rest) pos) ρ R:=fun σ H Hf Q S q =>
 bH (GU cW cW) (h σ H Hf _ S fun x v H' aj ⟨k,e,h1⟩ r g=>by
  subst e
  rw [eG] at r
  refine ⟨k,r,?_⟩
  cases k with
  | true=>rw [if_pos rfl]; exact h1.t rfl σ H' aj Q (S.cB g) fun y v2 H2 cJ hy r2 g2=>q y v2 H2 cJ hy r2 (g.trans g2)
  | false=>rw [if_neg Oc]; exact q _ _ H' aj (h1.f rfl) (eG.mpr rfl) g)
theorem DX {R:Sl→Prop} (h:jz c t ρ (nI (dz c a ρ R) (dz c b ρ R))):dz c (.IfExp t a b pos) ρ R:=fun σ H Hf Q S q =>
 bH (zh FY cW cW) (h σ H Hf _ S fun x H' aj hx g=>by
  cases x with
  | true=>rw [if_pos rfl]; exact hx.t rfl σ H' aj Q (S.cB g) fun y v2 H2 cJ hy r2 g2=>q y v2 H2 cJ hy (r2.weak fun p hp=>g.s.free hp) (g.trans g2)
  | false=>rw [if_neg Oc]; exact hx.f rfl σ H' aj Q (S.cB g) fun y v2 H2 cJ hy r2 g2=>q y v2 H2 cJ hy (r2.weak fun p hp=>g.s.free hp) (g.trans g2))
theorem DY (h:jz c t ρ (nI (aF c a ρ R) (aF c b ρ R))):aF c (.IfExp t a b pos) ρ R :=
 iV (DX (h.imp fun x hx=>⟨fun e=>J3 ((hx.t e).imp fun d h=>⟨d,rfl,h⟩),fun e=>J3 ((hx.f e).imp fun d h=>⟨d,rfl,h⟩)⟩))
theorem K4 (h:aF c e ρ (B1 T)) (he:∀ (env:Env) whole,isTrue e env whole=(do let v ← whole; standAt e.pos; holding [v] (truthy v)):=by intro _ _; walk_at "u"):jz c e ρ T:=fun σ H Hf Q S q =>
 vv (GQ cW (he _)) (h σ H Hf _ S fun x v H' aj ⟨k,e,h1⟩ r g=>by
  subst e; rw [eG] at r
  exact ⟨k,r,q k H' aj h1 g⟩)
theorem k8 {R:List D→Prop} (h:R []):qx c [] ρ R:=fun σ H Hf Q S q=>nF dD (q [] [] H Hf h (ay.mpr rfl) (.refl S.sb))
theorem dU {R:List D→Prop} (h:aF c e ρ fun d=>qx c es ρ fun ds=>R (d::ds)) (hs:∀ env,starEach (e::es) env=(false,eval e env)::starEach es env:=by intro _; walk_at "u"):qx c (e::es) ρ R:=fun σ H Hf Q S q =>
 nF (bM cW DQ (hs _)) (h σ H Hf _ S fun d v H1 aN h1 r1 g1=>h1 σ H1 aN _ (S.cB g1) fun ds vs H2 cJ h2 r2 g2=>q _ _ H2 cJ h2 (.cons (Rep.mono g2.f d r1) r2) (g1.trans g2))
theorem F2 (h:qx c es ρ fun ds=>Sd (ds.length≤sizeLine) (R (.tup ds))):aF c (.Tuple es j pos) ρ R:=fun σ H Hf Q S q =>
 bH (zB DQ) (h σ H Hf _ S fun ds vs H' aj ⟨hl,hR⟩ r g=>⟨by rw [← r.length]; exact hl,fun p hp=>by
  have g2:=bq.new g.b hp (o:=.tup vs)
  exact q _ _ _ _ hR (aE.mpr ⟨p,vs,rfl,.inl (.inl ai),r.mono g2.f⟩) (g.trans g2)⟩)
theorem F3 {R:Sl→Prop} (h:qx c es ρ fun ds=>Sd (ds.length≤sizeLine) (R (.ow ds))):dz c (.List es pos) ρ R:=fun σ H Hf Q S q =>
 bH (Hi DQ) (h σ H Hf _ S fun ds vs H' aj ⟨hl,hR⟩ r g=>⟨by rw [← r.length]; exact hl,fun p hp=>by
  have g2:=bq.gi g.b hp (o:=.lst vs)
  exact q _ _ _ _ hR ⟨p,vs,rfl,g.s.free hp,ai,g.b.free hp,r⟩ (g.trans g2)⟩)
variable {st:Stmt}
theorem tP (h:nx ρ):aS c [] ρ nx p:=fun σ H Hf D S o=>zS Dq (o.nx σ H Hf ρ S h)
theorem aQ (h:eS c st ρ (fun ρ'=>aS c sts ρ' nx p) p):aS c (st::sts) ρ nx p:=fun σ H Hf D S o =>
 zS (zj NR qw) (h σ H Hf { D with nx:=HD c.X sts D } S ⟨fun σ' H' aj ρ' S' q=>q σ' H' aj D S' o,o.rt,o.bk,o.ct⟩)
theorem fT (h:dz c e ρ p.rt):eS c (.Return (some e) pos) ρ nx p:=fun σ H Hf D S o =>
 dS (zk cW) (h σ H Hf _ S fun r v H' aj hr rs g=>o.rt r v H' aj (S.bas.trans g) (rs.weak fun p hp=>S.bas.s.free hp) hr)
theorem zZ (hN:At N i x) (hi:At ρ i r) (hu:r.owned=true) (h:p.rt r)
 (hd:(x == ("__debug__":Str))=false:=by decide) (hcd:(x == ("__classdict__":Str))=false:=by decide) :
 eS c (.Return (some (.Name x pos2)) pos) ρ nx p:=fun σ H Hf D S o=>by
 obtain ⟨v,e,rs⟩:=S.at_ i r hi.get (by rintro rfl; cases hu)
 exact dS (zk (tu (X:=c.X) (i:=i) (by rw [c.eN]; exact hN.get) (by rw [c.esc]; rcases c.vis x hN.mem with h | h; exact .inl h; exact .inr (.inl h)) hd hcd)) ⟨v,e,o.rt r v H Hf S.bas rs h⟩
theorem K5 (h:jz c t ρ (nI (aS c A ρ nx p) (aS c B ρ nx p))):eS c (.If t A B pos) ρ nx p:=fun σ H Hf D S o =>
 dS (Kg FY qw qw) (h σ H Hf _ S fun x H' aj hx g=>by
  cases x with
  | true=>rw [if_pos rfl]; exact hx.t rfl σ H' aj D (S.cB g) o
  | false=>rw [if_neg Oc]; exact hx.f rfl σ H' aj D (S.cB g) o)
noncomputable def Nx (ρ:List Sl) (i:Nat) (R:List Sl→Prop) (r:Sl):Prop:=∃ ρ',SSet ρ i r ρ'∧R ρ'
theorem xG {R:List Sl→Prop} (h:SSet ρ i r ρ') (hr:R ρ'):Nx ρ i R r:=⟨ρ',h,hr⟩
theorem vB (hN:At N i x) (h:dz c e ρ (Nx ρ i nx))
 (hs:∀ env,swapsWith e (some (.Name x pos2)) pos.line env=pure false:=by intro _; walk_at "u") (hf:bk=false∨sc.names.lookup x=some .local:=by first | exact .inl rfl | exact .inr (by walk_at "u")):eS c (.Assign [.Name x pos2] e pos) ρ nx p:=fun σ H Hf D S o =>
 dS (GY (X:=c.X) (i:=i) (by rw [c.eN]; exact c.nd) (by rw [c.eN]; exact hN.get) (by rw [c.esc]; exact c.vis x hN.mem) cW (hs _) (c.fn x hf)) (h σ H Hf _ S fun r v H' aj ⟨ρ',hs,hx⟩ rs g=>o.nx _ H' aj _ (hs.eq ▸ S.set g rs) hx)
theorem dF {R:List Sl→Prop} (hN:At N i x) (h:Nx ρ i R (.va d)) (hf:bk=false∨sc.names.lookup x=some .local:=by first | exact .inl rfl | exact .inr (by walk_at "u")):nG c (.Name x pos) d ρ R:=fun σ H Hf v Q S r q=>by
 obtain ⟨ρ',hs,h⟩:=h
 exact FZ (vd (X:=c.X) (i:=i) (by rw [c.eN]; exact c.nd) (by rw [c.eN]; exact hN.get) (by rw [c.esc]; exact c.vis x hN.mem) (c.fn x hf)) (q _ H Hf _ (hs.eq ▸ S.set (.refl S.sb) (r:=.va d) r) (.refl S.sb) h)
noncomputable def xH (c:Ctx P w K mg base k N sc bk) (ts:List Expr) (ds:List D) (ρ:List Sl) (R:List Sl→Prop):Prop :=
 ∀ (σ:L2.St) (H Hf:Hp) (vs:List V) (Q:L2.St→Hp→Prop),bw c σ H Hf ρ→aq c.X.K Hf ds vs→(∀ σ' H' aj ρ',bw c σ' H' aj ρ'→bq H Hf H' aj→R ρ'→Q σ' H') →
  ∀ aa s us,Inv c.X aa σ H s→Vals vs us→wpAny (model c.X.prog c.X.w) c.X.A (assignInOrder ((assignEach ts c.X.env).map (·.2)) us) (fun _ s'=>∃ σ' H',Inv c.X aa σ' H' s'∧Q σ' H') c.X.xe s
theorem HH {R:List Sl→Prop} (h:R ρ):xH c [] [] ρ R:=fun σ H Hf vs Q S r q aa s us I rv=>by
 rw [ay] at r; subst r
 exact Dr aa s σ H [] us Q I rv ⟨rfl,q σ H Hf ρ S (.refl S.sb) h⟩
theorem DZ {R:List Sl→Prop} (hN:At N i x) (h:Nx ρ i (fun ρ'=>xH c ts ds ρ' R) (.va d))
 (hs:∀ env,(assignEach (.Name x pos::ts) env).map (·.2)=assign (.Name x pos) env::(assignEach ts env).map (·.2):=by intro _; walk_at "u") (hf:bk=false∨sc.names.lookup x=some .local:=by first | exact .inl rfl | exact .inr (by walk_at "u")):xH c (.Name x pos::ts) (d::ds) ρ R:=fun σ H Hf vs Q S r q aa s us I rv=>by
 obtain ⟨ρ',hs',h⟩:=h
 rw [aC] at r
 obtain ⟨v,vr,rfl,r1,r2⟩:=r
 have hp:JY c.X ts (fun vs' σ' H' Q'=>∀ aa s us,Inv c.X aa σ' H' s→Vals vs' us→wpAny (model c.X.prog c.X.w) c.X.A (assignInOrder ((assignEach ts c.X.env).map (·.2)) us) (fun _ s'=>∃ σ'' H'',Inv c.X aa σ'' H'' s'∧Q' σ'' H'') c.X.xe s) :=
  fun aa s σ H vs us Q I r h=>h aa s us I r
 refine zm (vd (X:=c.X) (i:=i) (by rw [c.eN]; exact c.nd) (by rw [c.eN]; exact hN.get) (by rw [c.esc]; exact c.vis x hN.mem) (c.fn x hf)) hp (hs _) aa s σ H _ us Q I rv ⟨v,vr,rfl,?_⟩
 have S1:=S.set (i:=i) (.refl S.sb) (r:=.va d) (v:=v) r1
 rw [← hs'.eq] at S1
 exact h _ H Hf vr Q S1 r2 q
theorem K6 {R:List Sl→Prop} (he:d=.tup ds) (hl:ds.length=ts.length) (h:xH c ts ds ρ R)
 (hn:∀ env,(assignEach ts env).length=ts.length:=by intro _; walk_at "u") (hst:∀ env,(assignEach ts env).findIdx? (·.1)=none:=by intro _; walk_at "u"):nG c (.Tuple ts j pos) d ρ R:=fun σ H Hf v Q S r q=>by
 subst he
 rw [aE] at r
 obtain ⟨a,xs,rfl,h1,h2⟩:=r
 have hp:JY c.X ts (fun vs' σ' H' Q'=>∀ aa s us,Inv c.X aa σ' H' s→Vals vs' us→wpAny (model c.X.prog c.X.w) c.X.A (assignInOrder ((assignEach ts c.X.env).map (·.2)) us) (fun _ s'=>∃ σ'' H'',Inv c.X aa σ'' H'' s'∧Q' σ'' H'') c.X.xe s) :=
  fun aa s σ H vs us Q I r h=>h aa s us I r
 refine FZ (GW (X:=c.X) (k:=j) (n:=ts.length) c.calm hp (hn _) (hst _)) ⟨a,xs,rfl,au S.sb h1,by rw [← h2.length,hl],?_⟩
 exact h σ H Hf xs Q S h2 fun σ' H' aj ρ' S' g' hR=>q σ' H' aj ρ' S' g' hR
theorem K7 (h:aF c e ρ fun d=>nG c tg d ρ nx) (hs:∀ env,swapsWithSole [tg] e pos.line env=pure false:=by intro _; walk_at "u") (hw:∀ env,swappedStores [tg] e env=pure none:=by intro _; walk_at "u") (h1:∀ env,(assignEach [tg] env).map (·.2)=[assign tg env]:=by intro _; walk_at "u"):eS c (.Assign [tg] e pos) ρ nx p:=fun σ H Hf D S o =>
 dS (zp cW Nz (hs _) (hw _) (h1 _)) (h σ H Hf _ S fun d v H' aj hx r g=>hx σ H' aj v _ (S.cB g) r fun σ' H2 cJ ρ' S' _ hR=>o.nx σ' H2 cJ ρ' S' hR)
theorem K8 {f:Int→Int→Int} (ho:fm c.X (inplaceOp op) (rI C fun i j=>.int (f i j))) (hN:At N i x) (hi:At ρ i (.va (.int m)))
 (h:aF c e ρ (I1 fun j=>Sd (C m j) (Nx ρ i nx (.va (.int (f m j)))))) (hf:bk=false∨sc.names.lookup x=some .local:=by first | exact .inl rfl | exact .inr (by walk_at "u")):eS c (.AugAssign (.Name x pos2) op e pos) ρ nx p:=fun σ H Hf D S o=>by
 obtain ⟨v,e1,r1⟩:=S.va hi.get
 rw [av] at r1; subst r1
 have hip:Nu c.X op (rI C fun i j=>.int (f i j)):=fun aa s σ H x y v u Q I rx ry h=>ho aa s σ H x y v u Q I rx ry h
 refine dS (GZ (X:=c.X) (i:=i) (by rw [c.eN]; exact c.nd) (by rw [c.eN]; exact hN.get) (by rw [c.esc]; exact c.vis x hN.mem) cW hip (c.fn x hf)) ⟨_,e1,h σ H Hf _ S fun d v H' aj ⟨j,ed,⟨hC,ρ',hs,hn⟩⟩ r g=>?_⟩
 subst ed; rw [av] at r
 have S2:=S.set g (i:=i) (r:=.va (.int (f m j))) (show Rep c.X.K aj (.int (f m j)) (.int (f m j)) from av.mpr rfl)
 rw [← hs.eq] at S2
 exact ⟨m,j,rfl,r,hC,o.nx _ H' aj _ S2 hn⟩
theorem HJ (hN:At N i x) (hi:At ρ i (.va (.int m))) (h:aF c e ρ (I1 fun j=>Nx ρ i nx (.va (.int (m - j))))) (hf:bk=false∨sc.names.lookup x=some .local:=by first | exact .inl rfl | exact .inr (by walk_at "u")) :
 eS c (.AugAssign (.Name x pos2) .Sub e pos) ρ nx p :=
 K8 (C:=fun _ _=>True) (f:=fun i j=>i - j) (fun aa s σ H x y v u Q I rx ry ⟨i,j,e1,e2,_,q⟩=>Dt aa s σ H x y v u Q I rx ry ⟨i,j,e1,e2,q⟩) hN hi (h.imp fun d ⟨j,e,q⟩=>⟨j,e,trivial,q⟩) hf
theorem vC (hq:c.X.xe=fun _ _=>False) (I:Nat→List Sl→Prop) (h0:I m₀ ρ)
 (h:∀ m ρ',I m ρ'→jz c t ρ' (nI (aS c body ρ' (fun r=>∃ m',m'<m∧I m' r) { ct:=fun r=>∃ m',m'<m∧I m' r,bk:=nx,rt:=p.rt }) (nx ρ'))) :
 eS c (.While t body [] pos) ρ nx p:=fun σ H Hf D S o =>
 dS (zq (by rw [hq]; exact PassesOwn.never) FY qw) ⟨fun m σ H=>∃ Hf ρ',bw c σ H Hf ρ'∧I m ρ',⟨m₀,Hf,ρ,S,h0⟩,fun m σ H ⟨Hf,ρ',S,hI⟩=>h m ρ' hI σ H Hf _ S fun x H' aj hx g=>by
  cases x with
  | false=>rw [if_neg Oc]; exact o.nx σ H' aj ρ' (S.cB g) (hx.f rfl)
  | true =>
   rw [if_pos rfl]
   refine ⟨fun σ' H'=>∃ m',m'<m∧∃ Hf ρ',bw c σ' H' Hf ρ'∧I m' ρ',fun σ' H' ⟨m',hl,hh⟩=>⟨m',hl,hh⟩,?_⟩
   exact hx.t rfl σ H' aj _ (S.cB g) ⟨fun σ H Hf ρ S ⟨m',hl,hi⟩=>⟨m',hl,Hf,ρ,S,hi⟩,o.rt,fun σ H Hf ρ S q=>o.nx σ H Hf ρ S q,fun σ H Hf ρ S ⟨m',hl,hi⟩=>⟨m',hl,Hf,ρ,S,hi⟩⟩⟩
end
theorem k9 (h:n≤1000):n≤sizeLine:=Qn (xF h)
theorem z0 (h:0<j) (h2:j.natAbs.log2<9000):zV j:=⟨h,h2⟩
inductive Res where
 | ok (r:Sl)
 | ex (C:Addr)
noncomputable abbrev Fn:=List D→Res→Prop
noncomputable def fU (K:NZ) (F:Fn):Sp:=fun vs H Q E=>∃ Hf ds r,aD Hf H∧aq K Hf ds vs∧F ds r∧match r with
 | .ok sl=>∀ v H' aj,bq H Hf H' aj→aX K (fun p=>H p=none) H' aj sl v→Q v H'
 | .ex C=>∀ a H',aD H H'→E (.ref C) (some a) H'
structure cV (P:Program) (w:World) (K:NZ) (mg:Str→Option Value) (base:Heap) (k:Nat) (x:Str) (F:Fn):Prop where
 ex:∃ f fd ps,mg x=some (.ref f)∧PN K (.ref f)=true∧Binds K fd ps []∧bz P w K mg base (dR P w) k f fd ps (fU K F)
section
variable {K:NZ} {c:Ctx P w K mg base k N sc bk}
noncomputable def HK (c:Ctx P w K mg base k N sc bk) (ρ:List Sl) (R:Sl→Prop):Res→Prop
 | .ok sl=>R sl
 | .ex C=>c.RX C ρ
theorem D0 (h:cV P w K mg base j x F) (hj:j≤k):∃ f,mg x=some (.ref f)∧PN K (.ref f)=true ∧
 ∀ (aa:List (Addr×Obj)) (σ:L2.St) (H Hf:Hp) (s:Shared) (us:List Value) (vs:List V) (ds:List D) (r:Res) (Q:VK),Inv c.X aa σ H s→bw c σ H Hf ρ→Vals vs us→aq c.X.K Hf ds vs→F ds r →
  (∀ sl v H' aj,r=.ok sl→aX c.X.K (fun p=>H p=none) H' aj sl v→bq H Hf H' aj→Q v H')→(∀ C,r=.ex C→c.RX C ρ)→wpAny (model c.X.prog c.X.w) c.X.A (call (.ref f) us) (EP c.X aa σ Q) c.X.xe s:=by
 obtain ⟨f,fd,ps,hm,hk,hb,hF⟩:=h.ex
 refine ⟨f,hm,hk,fun aa σ H Hf s us vs ds r Q I S rv rs hr q hx=>?_⟩
 have hF':bz c.X.prog c.X.w c.X.K c.X.mg c.X.base (dR c.X.prog c.X.w) k f fd ps (fU c.X.K F):=by rw [c.eP,c.ew,c.eK,c.emg,c.eb]; exact hF.mono hj
 have qa:fU c.X.K F vs H Q (fun cv ao H'=>∃ C,r=.ex C∧cv=.ref C∧aD H H'):=by
  refine ⟨Hf,ds,r,S.bas.b,rs,hr,?_⟩
  cases r with
  | ok sl=>exact fun v H' aj g rs2=>q sl v H' aj rfl rs2 g
  | ex C=>exact fun a H' s2=>⟨C,rfl,rfl,s2⟩
 have hl:us.length=ps.length:=by rw [← rv.length]; exact hF'.len _ _ _ _ qa
 have hb':Binds c.X.K fd ps []:=by rw [c.eK]; exact hb
 have hb2:=hb' s us I.oA (by simpa using hl)
 rw [O5] at hb2
 refine Ra (Q7 (hF'.run c.X.A c.X.stack s H ⟨us,[]⟩ us vs Q _ c.room I.Dz hb2 rv qa) fun r' s' hq=>?_)
 cases r' with
 | error e =>
  obtain ⟨a,C,H',rfl,hE,C',e1,e2,sm⟩:=hq
  cases e2
  exact c.exc C a aa σ H Hf ρ s H' s' I S (hx C e1) hE sm
 | ok fl =>
  cases fl with
  | ret u=>exact I.after hq
  | next=>exact OZ hq
  | brk=>exact OZ hq
  | cont=>exact OZ hq
theorem x_call {R:Sl→Prop} (h:cV P w K mg base j x F) (hj:j≤k)
 (ha:qx c (e::es) ρ fun ds=>∃ r,F ds r∧HK c ρ R r)
 (hg:sc.names.lookup x=some .globalImplicit:=by walk_at "u") (hdb:(x == ("__debug__":Str))=false:=by decide) (he:∀ env,starEach (e::es) env=(false,eval e env)::starEach es env:=by intro _; walk_at "u")
 (hpl:∀ env,(backTo pos (starEach es env)).any (·.1)=false:=by intro _; walk_at "u"):dz c (.Call (.Name x p) (e::es) [] pos) ρ R:=fun σ H Hf Q S q aa s I=>by
 obtain ⟨f,hm,hk,run⟩:=D0 (c:=c) (ρ:=ρ) h hj
 refine PJ (iR I (by unfold Gl OQ; rw [c.esc]; exact hg) (by rw [c.emg]; exact hm) ?_ hdb)
 refine Sj (h₀:=c.X.base) I.ok.mod.kin (by rw [c.eK]; exact hk) (bC (ha σ H Hf (fun vs H1=>∃ aN ds,(∃ r,F ds r∧HK c ρ R r)∧aq c.X.K aN ds vs∧bq H Hf H1 aN) S (fun ds vs H1 aN hr rs g=>⟨aN,ds,hr,rs,g⟩) pos aa s I) fun us s1 hh=>z2 hh fun vs H1 hh=>w3 hh fun I1 rv hh=>z2 hh fun aN ds hh=>w3 hh fun hh rs g=>hh.elim fun r hh=>w2 hh fun hF hR=>⟨I1.oA,?_⟩) (he _) (hpl _)
 refine run aa σ H1 aN s1 us vs ds r Q I1 (S.cB g) rv rs hF (fun sl v H' aj e1 rs2 g2=>?_) fun C e1=>?_
 ·subst e1
  exact q sl v H' aj hR (rs2.weak fun p hp=>g.s.free hp) (g.trans g2)
 ·subst e1
  exact hR
theorem b9 (h:cV P w K mg base j x F) (hj:j≤k)
 (ha:qx c (e::es) ρ fun ds=>∃ r,F ds r∧HK c ρ (F0 R) r)
 (hg:sc.names.lookup x=some .globalImplicit:=by walk_at "u") (hdb:(x == ("__debug__":Str))=false:=by decide) (he:∀ env,starEach (e::es) env=(false,eval e env)::starEach es env:=by intro _; walk_at "u")
 (hpl:∀ env,(backTo pos (starEach es env)).any (·.1)=false:=by intro _; walk_at "u"):aF c (.Call (.Name x p) (e::es) [] pos) ρ R:=e_x (x_call h hj ha hg hdb he hpl)
noncomputable def iw (N:List Str) (ds:List D):List Sl:=ds.map .va++Of (N.length - ds.length) .un
theorem Aa (r:aq K dN ds vs) (sb:aD dN H₀):cZ K H₀ dN (L2.start N vs) H₀ dN (iw N ds):=by
 have hl:=r.length
 refine ⟨.refl sb,by simp [L2.start,iw,hl],fun i r' h hu=>?_,fun i j r1 r2 p hne h1 h2 o1 o2=>?_⟩
 ·by_cases q:i<ds.length
  ·have e:(iw N ds)[i]?=some (.va ds[i]):=by
    unfold iw
    rw [Qc (by simpa using q)]; simp [q]
   rw [e] at h; cases h
   obtain ⟨x,e2,rx⟩:=r.get (i:=i) (d:=ds[i]) (by simp)
   refine ⟨x,?_,rx⟩
   unfold L2.start
   rw [Qc (by simp; lia)]
   simp [e2]
  ·unfold iw at h
   rw [QS (by simp; lia)] at h
   have:=O9 h
   exact absurd (R3 this) hu
 ·exfalso
  unfold iw at h1
  by_cases q:i<(ds.map Sl.va).length
  ·rw [Qc q] at h1
   rw [Oa] at h1
   cases z:ds[i]? with
   | none=>rw [z] at h1; cases h1
   | some d=>rw [z] at h1; cases h1; cases o1
  ·rw [QS (by lia)] at h1
   have e3:=R3 (O9 h1)
   subst e3; cases o1
theorem dG {st:Stmt} (Fu:fS K x qual st f fd) (Sc:aI N ps (ah st)) (Vi:∀ x∈N,Loc (ah st) x) (ar:∀ ds r,F ds r→ds.length=ps.length)
 (hok:∀ ds r,F ds r→∃ sl,r=.ok sl)
 (body:∀ (c:Ctx P w K mg base k N (ah st) false),c.X.xe=(fun _ _=>False)→∀ ds sl,F ds (.ok sl)→aS c (aA st) (iw N ds) (fun _=>sl=.va .non) { rt:=fun r=>r=sl }) :
 bz P w K mg base (dR P w) (k+1) f fd ps (fU K F):=by
 obtain ⟨oc,od,kV,doc,pm,an,cdv,ct,osl,rfl,lk,hcd⟩:=Fu.ex
 refine zC lk hcd Sc (fun vs H Q E ⟨Hf,ds,r,_,rs,hF,_⟩=>by rw [← rs.length]; exact ar _ _ hF) fun A outer s H vs Q E hr ⟨Hf,ds,r,sb,rs,hF,hq⟩=>?_
 obtain ⟨sl,rfl⟩:=hok _ _ hF
 let X:Cx:=(qh (dR P w) P w K mg base N qual (ah st) f cdv A outer s H E).FQ
 let c:Ctx P w K mg base k N (ah st) false :=
  { X:=X,eP:=rfl,ew:=rfl,eK:=rfl,emg:=rfl,eb:=rfl,eN:=rfl,esc:=rfl,calm:=rfl,top:=fun _=>⟨rfl,rfl,rfl⟩,cb:=fun _ _ _ _ _ I x c h=>I.ok.cab x c rfl h,fn:=fun _ _=>.inl rfl,B:=H,room:=hr,nd:=Sc.nd,vis:=Vi,Hf:=Hf,RX:=fun _ _=>False,
    exc:=fun _ _ _ _ _ _ _ _ _ _ _ _ h _ _=>h.elim,RM:=fun _ _=>False,mde:=fun _ _ _ _ _ _ _ _ _ _ _ _ h _=>h.elim }
 refine ⟨_,sW.FQ (t:=HD X (aA st)) (qw (X:=X)),?_⟩
 refine body c rfl ds sl hF (L2.start N vs) H Hf _ (Aa rs sb) ⟨fun σ H' aj ρ S e=>?_,fun r v H' aj g rv e=>?_,fun _ _ _ _ _ h=>h.elim,fun _ _ _ _ _ h=>h.elim⟩
 ·subst e
  exact hq .non H' aj S.bas (show Rep K aj .non .non from bN.mpr rfl)
 ·have e:r=sl:=e
  subst e
  exact hq v H' aj g rv
noncomputable def Na (K:NZ) (r:List V→Hp→VK→Prop) (p:List D→(Sl→Prop)→Prop):Prop :=
 ∀ (ds:List D) (vs:List V) (H Hf:Hp) (Q:VK) (R:Sl→Prop),aD Hf H→aq K Hf ds vs→p ds R→(∀ z v' H' aj,R z→aX K (fun p=>H p=none) H' aj z v'→bq H Hf H' aj→Q v' H')→r vs H Q
theorem K9 {id:String} {R:Sl→Prop} (hc:f9 c.X (.type id) r) (hd:Na c.X.K r q) (hm:mg x=none) (hv:bootBuiltins x=some (.type id))
 (ha:qx c (e::es) ρ fun ds=>q ds R) (hg:sc.names.lookup x=some .globalImplicit:=by walk_at "u") (hn:x≠"__name__":=by decide) (hdb:(x == ("__debug__":Str))=false:=by decide)
 (he:∀ env,starEach (e::es) env=(false,eval e env)::starEach es env:=by intro _; walk_at "u") (hpl:∀ env,(backTo pos (starEach es env)).any (·.1)=false:=by intro _; walk_at "u"):dz c (.Call (.Name x p) (e::es) [] pos) ρ R:=fun σ H Hf Q S qq =>
 bH (nj hc (by unfold Gl OQ; rw [c.esc]; exact hg) (by rw [c.emg]; exact hm) hv DQ hn hdb (he _) (hpl _))
  (ha σ H Hf _ S fun ds vs H1 aN h1 rs g=>hd ds vs H1 aN Q R g.b rs h1 fun z v' H' aj hz rz g2=>qq z v' H' aj hz (rz.weak fun p hp=>g.s.free hp) (g.trans g2))
theorem qA (h:aq K H [d] vs):∃ v,vs=[v]∧Rep K H d v:=by
 rw [aC] at h
 obtain ⟨x,r,rfl,h1,h2⟩:=h
 rw [ay] at h2; subst h2
 exact ⟨x,rfl,h1⟩
noncomputable def Ab (K:NZ) (r:List V→Hp→VK→Prop) (p:List D→(D→Prop)→Prop):Prop :=
 ∀ (ds:List D) (vs:List V) (H Hf:Hp) (Q:VK) (R:D→Prop),aD Hf H→aq K Hf ds vs→p ds R→(∀ d v H' aj,R d→Rep K aj d v→bq H Hf H' aj→Q v H')→r vs H Q
theorem vD {id:String} (hc:f9 c.X (.builtin id) r) (hd:Ab c.X.K r q) (hm:mg x=none) (hv:bootBuiltins x=some (.builtin id))
 (ha:qx c (e::es) ρ fun ds=>q ds R) (hg:sc.names.lookup x=some .globalImplicit) (hn:x≠"__name__") (hdb:(x == ("__debug__":Str))=false)
 (he:∀ env,starEach (e::es) env=(false,eval e env)::starEach es env) (hpl:∀ env,(backTo pos (starEach es env)).any (·.1)=false):aF c (.Call (.Name x p) (e::es) [] pos) ρ R:=fun σ H Hf Q S qq =>
 bH (zD hc (by unfold Gl OQ; rw [c.esc]; exact hg) (by rw [c.emg]; exact hm) hv DQ hn hdb (he _) (hpl _))
  (ha σ H Hf _ S fun ds vs H1 aN h1 rs g=>hd ds vs H1 aN Q R g.b rs h1 fun z v' H' aj hz rz g2=>qq z v' H' aj hz rz (g.trans g2))
theorem La {id:String} (hc:f9 c.X (.type id) r) (hd:Ab c.X.K r q) (hm:mg x=none) (hv:bootBuiltins x=some (.type id))
 (ha:qx c (e::es) ρ fun ds=>q ds R) (hg:sc.names.lookup x=some .globalImplicit) (hn:x≠"__name__") (hdb:(x == ("__debug__":Str))=false)
 (he:∀ env,starEach (e::es) env=(false,eval e env)::starEach es env) (hpl:∀ env,(backTo pos (starEach es env)).any (·.1)=false):aF c (.Call (.Name x p) (e::es) [] pos) ρ R:=fun σ H Hf Q S qq =>
 bH (nj hc (by unfold Gl OQ; rw [c.esc]; exact hg) (by rw [c.emg]; exact hm) hv DQ hn hdb (he _) (hpl _))
  (ha σ H Hf _ S fun ds vs H1 aN h1 rs g=>hd ds vs H1 aN Q R g.b rs h1 fun z v' H' aj hz rz g2=>qq z v' H' aj hz rz (g.trans g2))
section
end
end
end EV
namespace EV
open PySem PySem.Spec PySem.Calls PyProof.Rows L2
theorem HL (x:bg P w H h a o):∃ u,h.get? a=some u:=by
 cases o with
 | lst xs=>obtain ⟨_,_,_,_,e⟩:=x; exact ⟨_,e⟩
 | tup xs=>obtain ⟨_,_,_,ob,e,_⟩:=x; exact ⟨_,e⟩
 | dK kvs=>obtain ⟨_,_,_,_,o,_,_,e,_⟩:=x; exact ⟨_,e⟩
 | dT kvs=>obtain ⟨_,_,_,_,o,_,_,e,_⟩:=x; exact ⟨_,e⟩
 | set S n=>obtain ⟨o,_,_,_,e,_⟩:=x; exact ⟨_,e⟩
 | ins C dx fs=>obtain ⟨_,_,_,e,_⟩:=x; exact ⟨_,e⟩
 | own y=>exact x
 | xd fs=>obtain ⟨_,⟨_,_,_,e,_⟩,_⟩:=x; exact ⟨_,e⟩
 | rng lo hi=>obtain ⟨_,_,_,e⟩:=x; exact ⟨_,e⟩
 | frz ob u=>obtain ⟨e,_⟩:=x; exact ⟨_,e⟩
 | tbl ps=>exact ⟨_,x⟩
 | met f y=>exact ⟨_,x⟩
 | ext φ =>exact x.2.1
section
end
section
variable {K:NZ}
end
open PySem.W Builtin Builtin.ObjectAttr Builtin.Getset_descriptor
structure Mn (K:NZ) (C:Addr):Prop where
 ga:Qh K (.ref C) "__getattribute__"=some (some (.builtin "BaseException.__getattribute__"))
 hk:Qh K (.ref C) "__getattr__"=some none
 ca:Qh K (.ref C) "__class__"=some (some (.builtin "object.__class__"))
 gt:T5 K (.builtin "object.__class__") "__get__"=some (some (.builtin "getset_descriptor.__get__"))
 tk:PySem.W.takesIn K (.builtin "object.__class__")=some true
 mo:SN K C (.type "object")=some true
 mb:SN K C (.type "BaseException")=some true
section
variable {prog:Program} {w:World} {A:Around} {E:Value→Shared→Prop} {s:Shared} {K:NZ} {x C:Addr} {R:Result→Shared→Prop}
theorem vE (p:tN x C h):Looks M h (typeOf (.ref x)) (.ref C):=by
 obtain ⟨o,ho,hc,_⟩:=p
 rw [← hc]
 exact (Looks.ld ho).andThen .now
theorem mP (X:K.In s.heap) (L:Looks (model prog w) s.heap (typeOf (.ref x)) (.ref C)) (hm:SN K C (.type "object")=some true)
 (h:R (.ok (.ret (.ref C))) s):codeAny (model prog w) A (.call (.builtin "getset_descriptor.__get__") ⟨[.builtin "object.__class__",.ref x,tp],[]⟩) R s:=by
 obtain ⟨hh,g,dr,t,os⟩:=s
 have L0:=L
 have L1:=looks_mroIn (M:=model prog w) X hm
 refine codeAny_call_builtin KF.slot_gs.plain KF.entry_gs (KF.slot_gs.check _ _ _ _ _ _ _ _ KF.type_class (KF.args_gs _ _ _) ?_)
 unfold Builtin.«getset_descriptor.__get__» descrGet
 rw [dga_obj]
 refine NX (N1 ?_)
 unfold descrGetter descrCheckInstance descrNameAndClass isInstance
 simp only [KF.owner_class]
 repeat lk
 refine ⟨Code.quiet_builtin _ (by decide +kernel),Ru KF.entry_class ?_⟩
 unfold Builtin.«object.__class__» shownTypeOf
 repeat lk
 exact h
theorem Ac (X:K.In h) (k:Mn K C):Looks M h (find (.ref x) (.ref C) "__class__") (.bind (.builtin "getset_descriptor.__get__") (.builtin "object.__class__")):=by
 have L1:=looks_findIn (M:=M) X k.ca
 have L2:Looks M h (getOf (some (.builtin "object.__class__"))) (some (.builtin "getset_descriptor.__get__")):=looks_specialIn X k.gt
 have L3:=looks_takesIn (M:=M) X k.tk
 unfold find
 refine L1.andThen (L2.andThen ?_)
 refine Looks.andThen (a:=some (.builtin "getset_descriptor.__get__",.builtin "object.__class__")) ?_ (Looks.tag .now)
 unfold dataDescriptor?
 exact L3.andThen .now
theorem xJ (X:K.In s.heap) (p:tN x C s.heap) (k:Mn K C) (h:Q (some (.ref C)) { s with toks:=s.toks+1 }):wpAny (model prog w) A (getAttr? (.ref x) "__class__") Q E s:=by
 obtain ⟨hh,g,d,t,os⟩:=s
 have L0:Looks (model prog w) hh (typeOf (.ref x)) (.ref C):=vE p
 have L1:=looks_findIn (M:=model prog w) X k.ga
 have L2:=looks_findIn (M:=model prog w) X k.hk
 have L3:=looks_mroIn (M:=model prog w) X k.mb
 have L4:=Ac (M:=model prog w) (x:=x) X k
 unfold getAttr? getAttrBy? getAttrBy
 refine NX (wpAny_mkText (NX (Qk (Pc (NX (L0.at (NX (L1.at ?_))))))))
 dsimp only
 have hx2:(Value.builtin "BaseException.__getattribute__" == Value.builtin "object.__getattribute__")=false:=by decide +kernel
 rw [hx2,Bool.and_false,if_neg Oc]
 unfold getAttrByItsOwn hookBefore
 rw [if_pos (by rfl)]
 refine NX (L2.at ?_)
 refine NX (Qk (Pc ?_))
 unfold callGetattribute
 rw [if_neg (by simp)]
 unfold boundAndCalled
 have f3:=PySem.F.attrBase_ValueError.ga.bind (.ref x)
 rw [f3]
 refine NX (N1 ?_)
 refine Ra (codeAny_call_builtin PySem.F.attrBase_ValueError.ga.plain PySem.F.entry_bexc_ga ?_)
 have hk:builtinKind "BaseException.__getattribute__"=some .slot:=by decide +kernel
 have hsplit:splitId "BaseException.__getattribute__"=some ("BaseException","__getattribute__"):=by decide +kernel
 have ha:=PySem.F.args_bexc_ga (.ref x) (RP "__class__" t)
 simp only [checkBuiltinCall,hk,hsplit]
 dsimp only [PK,Qg]
 have LI:Looks (model prog w) hh (isInstance (.ref x) (.type "BaseException")) true:=L0.andThen L3
 refine NX (LI.at ?_)
 rw [if_neg (by decide)]
 refine OO (Q:=fun _ s1=>s1=⟨hh,g,d,t+1,os⟩) (E:=fun _ _=>False) ?_ (fun _ s1 e1=>?_) (fun _ _ z=>z.elim)
 ·repeat (any_goals (first | assumption | rfl | wp_step))
 subst e1
 unfold «object.__getattribute__»
 repeat (first | with_reducible refine Ra ?_ | lk)
 refine mP X L0 k.mo ?_
 repeat lk
 exact h
theorem Ad (k:Mn K C):PySem.W.KitX K (.ref x) (.ref C) (tN x C) where
 ty:=fun _ _ _ p=>vE p
 it:=fun _ _ X _=>by
  have hdct:∃ cd,RB K C=some cd:=by
   obtain ⟨cd,h1,_⟩:=Tr.mp (show (RB K C).bind _=some true from k.mo)
   exact ⟨cd,h1⟩
  obtain ⟨cdD,hcD⟩:=hdct
  unfold RB at hcD
  split at hcD
  ·rename_i c' d' cd' sl' ho
   intro A' Q' E' s' k q
   unfold isType loadHead
   exact NX (wpAny_loadPart (k _ _ (X _ _ ho)) (N1 q))
  ·cases hcD
 ne:=fun h tp dd its n sl X htp=>by
  obtain ⟨cdD,hcD,_⟩:=Tr.mp (show (RB K C).bind _=some true from k.mo)
  refine Bool.eq_false_iff.mpr fun q=>?_
  have e:C=tp:=Ow.inj (beq_iff_eq.mp q)
  subst e
  unfold RB at hcD
  split at hcD
  ·rename_i c' d' cd' sl' ho
   have z:=(X _ _ ho).symm.trans htp
   cases z
  ·cases hcD
 ca:=fun X p h=>xJ X p k h
end
inductive xK (K:NZ):D→Value→Prop where
 | non:xK K .non (.type "NoneType")
 | bl {x:Bool}:xK K (.bl x) (.type "bool")
 | int {i:Int}:xK K (.int i) (.type "int")
 | str {x:Str}:xK K (.str x) (.type "str")
 | lst {ds:List EV.D}:xK K (.lst ds) (.type "list")
 | tup {ds:List EV.D}:xK K (.tup ds) (.type "tuple")
 | exc {C:Addr} (k:Mn K C):xK K (.exc C) (.ref C)
section
theorem D9 (I:Inv X aa σ H s) (sb:aD Hf H) (rx:RelV v u) (rd:Rep X.K Hf d v) (ty:xK X.K d t) (e:Pq X.K t cv=some b) (h:∀ tk,Q (.bool b) { s with toks:=tk }) :
 wpAny (model X.prog X.w) A (call (.builtin "isinstance") [u,cv]) Q E s:=by
 cases ty with
 | non=>rw [bN] at rd; subst rd; cases (show u=O2 from rx); exact QE PySem.W.kitx_none I.oA P0 e (fun z=>nomatch z) h
 | bl=>rw [eG] at rd; subst rd; cases (show u=Value.bool _ from rx); exact QE PySem.W.kitx_bool I.oA P0 e (fun z=>nomatch z) h
 | int=>rw [av] at rd; subst rd; obtain ⟨t,q⟩:=(show ∃ t,u=RQ _ t from rx); cases q; exact QE PySem.W.kitx_int I.oA P0 e (fun z=>nomatch z) h
 | str=>rw [fC] at rd; subst rd; obtain ⟨t,q⟩:=(show ∃ t,u=RP _ t from rx); cases q; exact QE PySem.W.kitx_str I.oA P0 e (fun z=>nomatch z) h
 | lst =>
  rw [aV] at rd
  obtain ⟨a,xs,rfl,h1,_⟩:=rd
  cases (show u=Ow a from rx)
  obtain ⟨its,_,p,_⟩:=I.list (sb.seq h1)
  obtain ⟨o,n1,p1,p2,_⟩:=p
  exact QE PySem.W.kitx_list I.oA ⟨o,p1,p2⟩ e (fun z=>nomatch z) h
 | tup =>
  rw [aE] at rd
  obtain ⟨a,xs,rfl,h1,_⟩:=rd
  cases (show u=Ow a from rx)
  obtain ⟨its,_,p,_⟩:=I.tuple (au sb h1)
  obtain ⟨o,p1,p2,_⟩:=p
  exact QE PySem.W.kitx_tuple I.oA ⟨o,p1,p2⟩ e (fun z=>nomatch z) h
 | @exc C k =>
  rw [DP] at rd
  obtain ⟨a,rfl,h1⟩:=rd
  cases (show u=Ow a from rx)
  have p:tN a C s.heap:=(show bg X.prog X.w H s.heap a (.ext (tN a C)) from I.hok a _ (sb _ _ h1)).1
  exact QE (Ad k) I.oA p e (fun z=>nomatch z) h
end
section
variable {K:NZ} {c:Ctx P w K mg base k N sc bk}
noncomputable def iW (mg:Str→Option Value) (x:Str) (cv:Value):Prop:=(∃ C,cv=.ref C∧mg x=some (.ref C))∨(∃ T,cv=.type T∧mg x=none∧bootBuiltins x=some (.type T)∧x≠"__name__")
theorem xM:bootBuiltins "isinstance"=some (.builtin "isinstance"):=by decide +kernel
theorem oQ (hm:mg "isinstance"=none) (hc:iW mg x cv) (h:aF c e ρ fun d=>∃ t b,xK K d t∧Pq K t cv=some b∧R (.bl b))
 (hgi:sc.names.lookup (NY "isinstance")=some .globalImplicit:=by walk_at "u") (hgx:sc.names.lookup x=some .globalImplicit:=by walk_at "u") (hdx:(x == ("__debug__":Str))=false:=by decide)
 (he:∀ env,starEach [e,.Name x cp] env=(false,eval e env)::starEach [.Name x cp] env:=by intro _; walk_at "u") (he2:∀ env,starEach [.Name x cp] env=[(false,eval (.Name x cp) env)]:=by intro _; walk_at "u")
 (hpl:∀ env,(backTo pos (starEach [.Name x cp] env)).any (·.1)=false:=by intro _; walk_at "u"):aF c (.Call (.Name "isinstance" np) [e,.Name x cp] [] pos) ρ R:=fun σ H Hf Q S q aa s I=>by
 refine PJ (dB I (by unfold Gl OQ; rw [c.esc]; exact hgi) (by rw [c.emg]; exact hm) xM ?_ (by decide) (by decide))
 have hx:∀ (s1:Shared) (H1:Hp) (Q':Value→Shared→Prop),Inv c.X aa σ H1 s1→Q' cv s1→wpAny (model c.X.prog c.X.w) c.X.A (eval (.Name x cp) c.X.env) Q' c.X.xe s1:=fun s1 H1 Q' I1 q'=>by
  rcases hc with ⟨C,rfl,hm'⟩ | ⟨T,rfl,hm',hb,hn⟩
  ·exact iR I1 (by unfold Gl OQ; rw [c.esc]; exact hgx) (by rw [c.emg]; exact hm') q' hdx
  ·exact dB I1 (by unfold Gl OQ; rw [c.esc]; exact hgx) (by rw [c.emg]; exact hm') hb q' hn hdx
 refine Tf (spliced_more (h σ H Hf (fun v H1=>∃ d aN,(∃ t b,xK K d t∧Pq K t cv=some b∧R (.bl b))∧Rep c.X.K aN d v∧bq H Hf H1 aN) S (fun d v H' aj hR r g=>⟨d,aj,hR,r,g⟩) aa s I |> (bC · fun u s1 hh=>z2 hh fun v H1 hh=>w3 hh fun I1 rv hh=>z2 hh fun d aN hh=>w3 hh fun hh rd g=>z2 hh fun t b hh=>w3 hh fun ty ek hR=>?_)) (he _)) (he _) (hpl _)
 refine spliced_more (hx s1 H1 _ I1 (spliced_none ?_)) (he2 _)
 refine D9 I1 g.b rv rd (by rw [c.eK]; exact ty) (by rw [c.eK]; exact ek) fun tk=>?_
 exact ⟨.bl b,H1,I1.tok tk,rfl,q _ _ H1 aN hR (eG.mpr rfl) g⟩
end
section
variable {X:Cx}
theorem oR (I:Inv X aa σ H s) (sb:aD Hf H):∀ (n:Nat) (d e:D) (v:V),k7 n d e→Rep X.K Hf d v→Rep X.K Hf e v→d=e:=by
 intro n
 induction n with
 | zero =>
  intro d e v h r1 r2
  cases h with
  | sc h=>cases d <;> cases e <;> simp [jV] at h <;> simp_all [Rep]
  | ln=>rw [bN] at r2; subst r2; rw [aV] at r1; obtain ⟨_,_,e,_⟩:=r1; cases e
  | nl=>rw [bN] at r1; subst r1; rw [aV] at r2; obtain ⟨_,_,e,_⟩:=r2; cases e
  | tn=>rw [bN] at r2; subst r2; rw [aE] at r1; obtain ⟨_,_,e,_⟩:=r1; cases e
  | nt=>rw [bN] at r1; subst r1; rw [aE] at r2; obtain ⟨_,_,e,_⟩:=r2; cases e
 | succ n ih =>
  have els:∀ (ds es:List D) (xs:List V),(∀ (i:Nat) (d e:D),ds[i]?=some d→es[i]?=some e→k7 n d e)→aq X.K Hf ds xs→aq X.K Hf es xs→ds=es:=fun ds es xs h q1 q2=>by
   apply Sv
   intro i
   cases a:ds[i]? with
   | none =>
    have:ds.length≤i:=by simpa using a
    symm
    rw [List.getElem?_eq_none_iff,q2.length,← q1.length]; exact this
   | some d =>
    obtain ⟨x,ex,rx⟩:=q1.get a
    obtain ⟨e,ee,re⟩:=q2.get' ex
    rw [ee,ih d e x (h i d e a ee) rx re]
  intro d e v h r1 r2
  cases h with
  | sc h=>cases d <;> cases e <;> simp [jV] at h <;> simp_all [Rep]
  | ln=>rw [bN] at r2; subst r2; rw [aV] at r1; obtain ⟨_,_,e,_⟩:=r1; cases e
  | nl=>rw [bN] at r1; subst r1; rw [aV] at r2; obtain ⟨_,_,e,_⟩:=r2; cases e
  | tn=>rw [bN] at r2; subst r2; rw [aE] at r1; obtain ⟨_,_,e,_⟩:=r1; cases e
  | nt=>rw [bN] at r1; subst r1; rw [aE] at r2; obtain ⟨_,_,e,_⟩:=r2; cases e
  | tup h =>
   rw [aE] at r1 r2
   obtain ⟨a,xs,rfl,p1,q1⟩:=r1
   obtain ⟨a',ys,e',p2,q2⟩:=r2
   cases e'
   have:=I.jv (au sb p1) (au sb p2)
   subst this
   rw [els _ _ _ h q1 q2]
  | lst h =>
   rw [aV] at r1 r2
   obtain ⟨a,xs,rfl,p1,q1⟩:=r1
   obtain ⟨a',ys,e',p2,q2⟩:=r2
   cases e'
   have:=I.qg (sb.seq p1) (sb.seq p2)
   subst this
   rw [els _ _ _ h q1 q2]
theorem oS {α:Type} [BEq α] [LawfulBEq α] {a b:α} {i:Decidable (a=b)}:(a == b)=@decide (a=b) i:=by
 by_cases h:a=b
 ·subst h; simp
 ·simp [h]
theorem all_range {ds es:List D} (hn:ds.length=n) (hm:es.length=m) (h:n=m):((OP n).all fun j=>decide (ds[j]?=es[j]?))=decide (ds=es):=by
 rw [Ry,List.all_eq_true]
 simp only [SM,decide_eq_true_eq]
 constructor
 ·intro q
  apply Sv
  intro i
  by_cases hi:i<n
  ·exact q i hi
  ·rw [PF (by lia),PF (by lia)]
 ·rintro rfl; intro _ _; rfl
theorem vF (h:jV x y=true) (r1:Rep X.K Hf x v) (r2:Rep X.K Hf y v') (e1:RelV v u) (e2:RelV v' u'):Ox A s u u' (decide (x=y)):=by
 cases x <;> cases y <;> simp [jV] at h <;> simp only [av,eG,bN,fC] at r1 r2 <;> subst r1 <;> subst r2
 case non.non=>cases e1; cases e2; simpa using Ox.same _
 case non.bl b=>cases e1; cases e2; simpa using Ox.none_bool (A:=A) (s:=s) b
 case non.int i=>cases e1; obtain ⟨t,rfl⟩:=e2; simpa using Ox.none_int (A:=A) (s:=s) i t
 case non.str i=>cases e1; obtain ⟨t,rfl⟩:=e2; simpa using Ox.none_str (A:=A) (s:=s) i t
 case bl.non b=>cases e1; cases e2; simpa using Ox.bool_none (A:=A) (s:=s) b
 case bl.bl a b=>cases e1; cases e2; have q:=Ox.bool_bool (A:=A) (s:=s) a b; rw [oS (i:=inferInstance)] at q; simpa using q
 case bl.str a b=>cases e1; obtain ⟨t,rfl⟩:=e2; simpa using Ox.bool_str (A:=A) (s:=s) a b t
 case int.non a=>obtain ⟨t,rfl⟩:=e1; cases e2; simpa using Ox.int_none (A:=A) (s:=s) a t
 case int.int a b=>obtain ⟨t,rfl⟩:=e1; obtain ⟨t',rfl⟩:=e2; have q:=Ox.int_int (A:=A) (s:=s) a t b t'; rw [oS (i:=inferInstance)] at q; simpa using q
 case int.str a b=>obtain ⟨t,rfl⟩:=e1; obtain ⟨t',rfl⟩:=e2; simpa using Ox.int_str (A:=A) (s:=s) a t b t'
 case str.non a=>obtain ⟨t,rfl⟩:=e1; cases e2; simpa using Ox.str_none (A:=A) (s:=s) a t
 case str.bl a b=>obtain ⟨t,rfl⟩:=e1; cases e2; simpa using Ox.str_bool (A:=A) (s:=s) a t b
 case str.int a b=>obtain ⟨t,rfl⟩:=e1; obtain ⟨t',rfl⟩:=e2; simpa using Ox.str_int (A:=A) (s:=s) a t b t'
 case str.str a b=>obtain ⟨t,rfl⟩:=e1; obtain ⟨t',rfl⟩:=e2; have q:=Ox.str_str (A:=A) (s:=s) a t b t'; rw [oS (i:=inferInstance)] at q; simpa using q
theorem in1_units (A:Around):A.in1.units=A.units+1:=rfl
theorem vG:decide (D.tup ds=D.tup es)=decide (ds=es):=by simp
theorem kC:decide (D.lst ds=D.lst es)=decide (ds=es):=by simp
theorem oU (I:Inv X aa σ H s) {A:Around} (h:∀ (i:Nat) (d e:D),ds[i]?=some d→es[i]?=some e→k7 n d e)
 (ih:∀ (d e:D) (v v':V) (u u':Value) (A:Around),k7 n d e→Rep X.K Hf d v→Rep X.K Hf e v'→RelV v u→RelV v' u'→A.units+n<cLine→Ox A s u u' (decide (d=e)))
 (q1:aq X.K Hf ds xs) (q2:aq X.K Hf es ys) (r1:Vals xs us) (r2:Vals ys ws) (hu:A.in1.units+n<cLine) :
 ∀ j (h1:j<us.toArray.size) (h2:j<ws.toArray.size),Ox A.in1 s us.toArray[j] ws.toArray[j] (decide (ds[j]?=es[j]?)):=fun j h1 h2=>by
 have l1:=q1.length
 have l2:=q2.length
 have m1:=r1.length
 have m2:=r2.length
 simp only [Oo] at h1 h2
 have hd:ds[j]?=some ds[j]:=Ot (by lia)
 have he:es[j]?=some es[j]:=Ot (by lia)
 obtain ⟨x,ex,rx⟩:=q1.get hd
 obtain ⟨y,ey,ry⟩:=q2.get he
 obtain ⟨u,eu,ru⟩:=r1.get ex
 obtain ⟨u',eu',ru'⟩:=r2.get ey
 have z1:us.toArray[j]=u:=by
  have:=Ot h1
  rw [this] at eu
  simpa using eu
 have z2:ws.toArray[j]=u':=by
  have:=Ot h2
  rw [this] at eu'
  simpa using eu'
 rw [z1,z2,hd,he]
 have q:=ih _ _ x y u u' A.in1 (h j _ _ hd he) rx ry ru ru' hu
 simpa using q
theorem xN (I:Inv X aa σ H s) (sb:aD Hf H):∀ (n:Nat) (d e:D) (v v':V) (u u':Value) (A:Around),k7 n d e→Rep X.K Hf d v→Rep X.K Hf e v'→RelV v u→RelV v' u'→A.units+n<cLine→Ox A s u u' (decide (d=e)):=by
 have non:∀ (n:Nat) (d e:D) (v v':V) (u u':Value) (A:Around),A.units<cLine→Rep X.K Hf d v→Rep X.K Hf e v'→RelV v u→RelV v' u' →
  ((∃ ds,d=.lst ds∧e=.non)∨(∃ ds,d=.non∧e=.lst ds)∨(∃ ds,d=.tup ds∧e=.non)∨(∃ ds,d=.non∧e=.tup ds))→Ox A s u u' (decide (d=e)):=by
  intro n d e v v' u u' A hu r1 r2 e1 e2 h
  rcases h with ⟨ds,rfl,rfl⟩ | ⟨ds,rfl,rfl⟩ | ⟨ds,rfl,rfl⟩ | ⟨ds,rfl,rfl⟩
  ·rw [bN] at r2; subst r2; rw [aV] at r1; obtain ⟨a,xs,rfl,p,_⟩:=r1; cases e1; cases e2
   obtain ⟨its,_,q,_⟩:=I.list (sb.seq p)
   simpa using Ox.list_none (A:=A) q.isList hu
  ·rw [bN] at r1; subst r1; rw [aV] at r2; obtain ⟨a,xs,rfl,p,_⟩:=r2; cases e1; cases e2
   obtain ⟨its,_,q,_⟩:=I.list (sb.seq p)
   simpa using Ox.none_list (A:=A) q.isList hu
  ·rw [bN] at r2; subst r2; rw [aE] at r1; obtain ⟨a,xs,rfl,p,_⟩:=r1; cases e1; cases e2
   obtain ⟨its,_,q,_⟩:=I.tuple (au sb p)
   simpa using Ox.tuple_none (A:=A) (show s.heap.IsTuple a its.toArray from q) hu
  ·rw [bN] at r1; subst r1; rw [aE] at r2; obtain ⟨a,xs,rfl,p,_⟩:=r2; cases e1; cases e2
   obtain ⟨its,_,q,_⟩:=I.tuple (au sb p)
   simpa using Ox.none_tuple (A:=A) (show s.heap.IsTuple a its.toArray from q) hu
 intro n
 induction n with
 | zero =>
  intro d e v v' u u' A h r1 r2 e1 e2 hu
  cases h with
  | sc h=>exact vF h r1 r2 e1 e2
  | ln=>exact non 0 _ _ _ _ _ _ A (by lia) r1 r2 e1 e2 (.inl ⟨_,rfl,rfl⟩)
  | nl=>exact non 0 _ _ _ _ _ _ A (by lia) r1 r2 e1 e2 (.inr (.inl ⟨_,rfl,rfl⟩))
  | tn=>exact non 0 _ _ _ _ _ _ A (by lia) r1 r2 e1 e2 (.inr (.inr (.inl ⟨_,rfl,rfl⟩)))
  | nt=>exact non 0 _ _ _ _ _ _ A (by lia) r1 r2 e1 e2 (.inr (.inr (.inr ⟨_,rfl,rfl⟩)))
 | succ n ih =>
  intro d e v v' u u' A h r1 r2 e1 e2 hu
  cases h with
  | sc h=>exact vF h r1 r2 e1 e2
  | ln=>exact non 0 _ _ _ _ _ _ A (by lia) r1 r2 e1 e2 (.inl ⟨_,rfl,rfl⟩)
  | nl=>exact non 0 _ _ _ _ _ _ A (by lia) r1 r2 e1 e2 (.inr (.inl ⟨_,rfl,rfl⟩))
  | tn=>exact non 0 _ _ _ _ _ _ A (by lia) r1 r2 e1 e2 (.inr (.inr (.inl ⟨_,rfl,rfl⟩)))
  | nt=>exact non 0 _ _ _ _ _ _ A (by lia) r1 r2 e1 e2 (.inr (.inr (.inr ⟨_,rfl,rfl⟩)))
  | @tup _ ds es h =>
   have hh:=k7.tup h
   have r1':=r1; have r2':=r2
   rw [aE] at r1 r2
   obtain ⟨a,xs,rfl,p1,q1⟩:=r1
   obtain ⟨b,ys,rfl,p2,q2⟩:=r2
   cases e1; cases e2
   by_cases hab:a=b
   ·subst hab
    have:=oR I sb _ _ _ _ hh r1' r2'
    rw [this]
    simpa using Ox.same _
   ·obtain ⟨us,v1,t1,_⟩:=I.tuple (au sb p1)
    obtain ⟨ws,v2,t2,_⟩:=I.tuple (au sb p2)
    have key:=QL.tuples (A:=A) (s:=s) (show s.heap.IsTuple a us.toArray from t1) (show s.heap.IsTuple b ws.toArray from t2) (by lia) (oU I h ih q1 q2 v1 v2 (by rw [in1_units]; lia))
    have hl1:us.toArray.size=ds.length:=by simp [← v1.length,q1.length]
    have hl2:ws.toArray.size=es.length:=by simp [← v2.length,q2.length]
    have e:((OP (min us.toArray.size ws.toArray.size)).all (fun j=>decide (ds[j]?=es[j]?)) && us.toArray.size == ws.toArray.size)=decide (D.tup ds=D.tup es):=by
     rw [vG,hl1,hl2]
     by_cases hl:ds.length=es.length
     ·rw [hl,Nat.min_self]
      simp only [beq_self_eq_true,Bool.and_true]
      exact all_range hl rfl rfl
     ·have:¬ ds=es:=fun z=>hl (by rw [z])
      simp [hl,this]
    rw [e] at key
    exact .of_refs hab key
  | @lst _ ds es h =>
   have hh:=k7.lst h
   have r1':=r1; have r2':=r2
   rw [aV] at r1 r2
   obtain ⟨a,xs,rfl,p1,q1⟩:=r1
   obtain ⟨b,ys,rfl,p2,q2⟩:=r2
   cases e1; cases e2
   by_cases hab:a=b
   ·subst hab
    have:=oR I sb _ _ _ _ hh r1' r2'
    rw [this]
    simpa using Ox.same _
   ·obtain ⟨us,v1,t1,_⟩:=I.list (sb.seq p1)
    obtain ⟨ws,v2,t2,_⟩:=I.list (sb.seq p2)
    have hl1:us.toArray.size=ds.length:=by simp [← v1.length,q1.length]
    have hl2:ws.toArray.size=es.length:=by simp [← v2.length,q2.length]
    by_cases hl:ds.length=es.length
    ·have key:=QL.lists (A:=A) (s:=s) t1.isList t2.isList (by rw [hl1,hl2,hl]) (by lia) (oU I h ih q1 q2 v1 v2 (by rw [in1_units]; lia))
     rw [hl1,all_range rfl hl.symm rfl,← kC] at key
     exact .of_refs hab key
    ·have key:=QL.lists_lengths (A:=A) (s:=s) t1.isList t2.isList (by rw [hl1,hl2]; simpa using hl) (by lia)
     have e:decide (D.lst ds=D.lst es)=false:=by
      rw [kC]; exact decide_eq_false fun z=>hl (by rw [z])
     rw [e]
     exact .of_refs hab key
theorem qB (I:Inv X aa σ H s) (sb:aD Hf H) (hu:A.units+50<cLine) (hk:(d=.tup ds∧e=.tup es)∨(d=.lst ds∧e=.lst es)) (h:oO ds es)
 (r1:Rep X.K Hf d v) (r2:Rep X.K Hf e v') (e1:RelV v u) (e2:RelV v' u'):QL A s u u' (decide (d=e))∧SS A s u u' (!decide (d=e)):=by
 have ih:=xN I sb 40
 rcases hk with ⟨rfl,rfl⟩ | ⟨rfl,rfl⟩
 ·rw [aE] at r1 r2
  obtain ⟨a,xs,rfl,p1,q1⟩:=r1
  obtain ⟨b,ys,rfl,p2,q2⟩:=r2
  cases e1; cases e2
  obtain ⟨us,v1,t1,_⟩:=I.tuple (au sb p1)
  obtain ⟨ws,v2,t2,_⟩:=I.tuple (au sb p2)
  have els:=oU (A:=A) I h ih q1 q2 v1 v2 (by rw [in1_units]; lia)
  have key:=QL.tuples (A:=A) (s:=s) (show s.heap.IsTuple a us.toArray from t1) (show s.heap.IsTuple b ws.toArray from t2) (by lia) els
  have key2:=SS.tuples (A:=A) (s:=s) (show s.heap.IsTuple a us.toArray from t1) (show s.heap.IsTuple b ws.toArray from t2) (by lia) els
  have hl1:us.toArray.size=ds.length:=by simp [← v1.length,q1.length]
  have hl2:ws.toArray.size=es.length:=by simp [← v2.length,q2.length]
  have e:((OP (min us.toArray.size ws.toArray.size)).all (fun j=>decide (ds[j]?=es[j]?)) && us.toArray.size == ws.toArray.size)=decide (D.tup ds=D.tup es):=by
   rw [vG,hl1,hl2]
   by_cases hl:ds.length=es.length
   ·rw [hl,Nat.min_self]
    simp only [beq_self_eq_true,Bool.and_true]
    exact all_range hl rfl rfl
   ·have:¬ ds=es:=fun z=>hl (by rw [z])
    simp [hl,this]
  rw [e] at key key2
  exact ⟨key,key2⟩
 ·rw [aV] at r1 r2
  obtain ⟨a,xs,rfl,p1,q1⟩:=r1
  obtain ⟨b,ys,rfl,p2,q2⟩:=r2
  cases e1; cases e2
  obtain ⟨us,v1,t1,_⟩:=I.list (sb.seq p1)
  obtain ⟨ws,v2,t2,_⟩:=I.list (sb.seq p2)
  have hl1:us.toArray.size=ds.length:=by simp [← v1.length,q1.length]
  have hl2:ws.toArray.size=es.length:=by simp [← v2.length,q2.length]
  by_cases hl:ds.length=es.length
  ·have els:=oU (A:=A) I h ih q1 q2 v1 v2 (by rw [in1_units]; lia)
   have key:=QL.lists (A:=A) (s:=s) t1.isList t2.isList (by rw [hl1,hl2,hl]) (by lia) els
   have key2:=SS.lists (A:=A) (s:=s) t1.isList t2.isList (by rw [hl1,hl2,hl]) (by lia) els
   rw [hl1,all_range rfl hl.symm rfl,← kC] at key key2
   exact ⟨key,key2⟩
  ·have key:=QL.lists_lengths (A:=A) (s:=s) t1.isList t2.isList (by rw [hl1,hl2]; simpa using hl) (by lia)
   have key2:=SS.lists_lengths (A:=A) (s:=s) t1.isList t2.isList (by rw [hl1,hl2]; simpa using hl) (by lia)
   have e:decide (D.lst ds=D.lst es)=false:=by
    rw [kC]; exact decide_eq_false fun z=>hl (by rw [z])
   rw [e]
   exact ⟨key,key2⟩
end
section
variable {K:NZ} {c:Ctx P w K mg base k N sc bk}
noncomputable def Ea (K:NZ) (neg:Bool):R2:=fun v u H Q=>∃ x y Hf,aD Hf H∧Rep K Hf x v∧Rep K Hf y u∧KO x y∧Q (.bl (if neg then !decide (x=y) else decide (x=y))) H
theorem Ae:fm c.X (compareOp .Eq) (Ea c.X.K false):=fun aa s σ H v u v' u' Q I rv ru ⟨x,y,Hf,sb,rx,ry,ok,q⟩=>by
 rcases ok with h | ⟨ds,es,hk,hi⟩
 ·obtain ⟨z1,z2⟩:=vz h rx ry
  exact Kq aa s σ H v u v' u' Q I rv ru ⟨z1,by rw [z2]; exact q⟩
 ·exact (qB I sb (by have:=c.room.un; lia) hk hi rx ry rv ru).1 _ _ _ _ ⟨.bl (decide (x=y)),H,I,rfl,q⟩
theorem HM:fm c.X (compareOp .NotEq) (Ea c.X.K true):=fun aa s σ H v u v' u' Q I rv ru ⟨x,y,Hf,sb,rx,ry,ok,q⟩=>by
 rcases ok with h | ⟨ds,es,hk,hi⟩
 ·obtain ⟨z1,z2⟩:=vz h rx ry
  exact Kr aa s σ H v u v' u' Q I rv ru ⟨z1,by rw [z2]; exact q⟩
 ·exact (qB I sb (by have:=c.room.un; lia) hk hi rx ry rv ru).2 _ _ _ _ ⟨.bl (!decide (x=y)),H,I,rfl,q⟩
theorem Af:zX K (Ea K false) fun x y R=>DT x y R:=fun x y v u H Hf Q R s rx ry ⟨h1,h2⟩ q=>⟨x,y,Hf,s,rx,ry,h1,q _ h2⟩
theorem HN:zX K (Ea K true) fun x y R=>DT x y fun b=>R (!b):=fun x y v u H Hf Q R s rx ry ⟨h1,h2⟩ q=>⟨x,y,Hf,s,rx,ry,h1,q _ h2⟩
theorem Nb (h:aF c a ρ fun x=>aF c b ρ fun y=>DT x y T):jz c (.Compare a [.Eq] [b] pos) ρ T:=qz Ae Af h (jw b)
theorem Nc (h:aF c a ρ fun x=>aF c b ρ fun y=>DT x y fun b=>T (!b)):jz c (.Compare a [.NotEq] [b] pos) ρ T:=qz HM HN h (jw b)
theorem Nd (h:aF c a ρ fun x=>aF c b ρ fun y=>DT x y fun b=>R (.bl b)):aF c (.Compare a [.Eq] [b] pos) ρ R:=KZ Ae Af h (jw b)
end
section
variable {P:Program} {w:World} {K:NZ} {mg:Str→Option Value} {base:Heap} {k:Nat} {N:List Str} {sc:Scope} {bk:Bool} {c:Ctx P w K mg base k N sc bk} {ρ:List Sl} {pos:Pos} {a b e:Expr} {es:List Expr} {R:D→Prop} {T:Bool→Prop}
noncomputable def D.row:D→Option (List D)
 | .lst ds=>some ds
 | .tup ds=>some ds
 | _=>none
theorem iX (e:d.row=some ds) (h:Rep K H d v):∃ p xs,v=.ref p∧aq K H ds xs∧((d=.lst ds∧gO K H p xs)∨(d=.tup ds∧cY K H p xs)):=by
 cases d with
 | lst _=>cases e; rw [aV] at h; obtain ⟨p,xs,rfl,h1,h2⟩:=h; exact ⟨p,xs,rfl,h2,.inl ⟨rfl,h1⟩⟩
 | tup _=>cases e; rw [aE] at h; obtain ⟨p,xs,rfl,h1,h2⟩:=h; exact ⟨p,xs,rfl,h2,.inr ⟨rfl,h1⟩⟩
 | _=>cases e
noncomputable def J4 (x y:D) (R:D→Prop):Prop:=∃ ds i d,x.row=some ds∧y=.int i∧jr ds i=some d∧R d
theorem qC (h:jr ds i=some d) (hR:R d):J4 (.lst ds) (.int i) R:=⟨ds,i,d,rfl,rfl,h,hR⟩
theorem iY (h:jr ds i=some d) (hR:R d):J4 (.tup ds) (.int i) R:=⟨ds,i,d,rfl,rfl,h,hR⟩
theorem Ag (h:aq K H ds xs) (e:jr ds i=some d):∃ x,jr xs i=some x∧Rep K H d x:=by
 unfold jr at e ⊢
 rw [← h.length]
 obtain ⟨j,e1,e2⟩:=Tr.mp e
 obtain ⟨x,e3,rx⟩:=h.get e2
 exact ⟨x,by rw [e1]; exact e3,rx⟩
theorem Lb (h:aF c a ρ fun x=>aF c b ρ fun y=>J4 x y R) (hs:kB b:=by intro _ _; walk_at "u"):aF c (.Subscript a b pos) ρ R:=fun σ H Hf Q S q =>
 bH (KA (FU.or DF Hq) cW cW hs) (h σ H Hf _ S fun x v H1 aN h1 r1 g1=>h1 σ H1 aN _ (S.cB g1) fun y u H2 cJ ⟨ds,i,d,e1,e2,e3,hR⟩ r2 g2=>by
  subst e2
  rw [av] at r2; subst r2
  obtain ⟨p,xs,rfl,hr,hk⟩:=iX e1 (Rep.mono g2.f x r1)
  obtain ⟨z,ez,rz⟩:=Ag hr e3
  have fin:=q d z H2 cJ hR rz (g1.trans g2)
  rcases hk with ⟨_,hk⟩ | ⟨_,hk⟩
  ·exact .inl ⟨p,xs,i,z,rfl,rfl,g2.b.seq hk,ez,fin⟩
  ·exact .inr ⟨p,xs,i,z,rfl,rfl,au g2.b hk,ez,fin⟩)
theorem vH (sb:aD Hf H) {d:D} (h:(d=.lst ds∧gO K Hf p xs)∨(d=.tup ds∧cY K Hf p xs)):gO K H p xs∨cY K H p xs:=h.elim (fun z=>.inl (sb.seq z.2)) fun z=>.inr (au sb z.2)
theorem Ah:Ab K (fun xs H Q=>∃ p ys,xs=[.ref p]∧(gO K H p ys∨cY K H p ys)∧Q (.int ys.length) H) (fun ds R=>∃ x,ds=[x]∧∃ ys,x.row=some ys∧R (.int ys.length)):=by
 rintro ds vs H Hf Q R s rs ⟨x,rfl,ys,e,hR⟩ q
 obtain ⟨v,rfl,rv⟩:=qA rs
 obtain ⟨p,xs,rfl,hr,hk⟩:=iX e rv
 exact ⟨p,xs,rfl,vH s hk,q _ _ H Hf hR (by rw [hr.length]; exact av.mpr rfl) (.refl s)⟩
theorem e_len (hm:mg "len"=none) (h:aF c e ρ fun x=>∃ ys,x.row=some ys∧R (.int ys.length)) (hg:sc.names.lookup (NY "len")=some .globalImplicit:=by walk_at "u")
 (he:∀ env,starEach [e] env=(false,eval e env)::starEach [] env:=by intro _; walk_at "u"):aF c (.Call (.Name "len" p) [e] [] pos) ρ R :=
 vD oG Ah hm PySem.boot_len (dU (h.imp fun d hd=>k8 ⟨d,rfl,hd⟩) he) hg (by decide) (by decide) he (by intro _; walk_at "u")
theorem Ai {R:Sl→Prop} (hm:mg "list"=none) (h:aF c e ρ fun x=>∃ ys,x.row=some ys∧R (.ow ys)) (hg:sc.names.lookup (NY "list")=some .globalImplicit:=by walk_at "u")
 (he:∀ env,starEach [e] env=(false,eval e env)::starEach [] env:=by intro _; walk_at "u"):dz c (.Call (.Name "list" p) [e] [] pos) ρ R :=
 K9 oH (q:=fun ds R=>∃ x ys,ds=[x]∧x.row=some ys∧R (.ow ys)) (fun ds vs H Hf Q R s rs ⟨x,ys,e1,e2,hR⟩ q=>by
  subst e1
  obtain ⟨v,rfl,rv⟩:=qA rs
  obtain ⟨p,xs,rfl,hr,hk⟩:=iX e2 rv
  exact ⟨p,xs,rfl,vH s hk,fun l hl=>by
   have g2:=bq.gi s hl (o:=.lst xs)
   exact q _ _ _ _ hR ⟨l,xs,rfl,hl,ai,s.free hl,hr⟩ g2⟩) hm PyProof.Rows.boot_list (dU (h.imp fun d ⟨ys,h1,h2⟩=>k8 ⟨d,ys,rfl,h1,h2⟩) he) hg (by decide) (by decide) he (by intro _; walk_at "u")
theorem kD (hm:mg "tuple"=none) (h:aF c e ρ fun x=>∃ ys,x.row=some ys∧R (.tup ys)) (hg:sc.names.lookup (NY "tuple")=some .globalImplicit:=by walk_at "u")
 (he:∀ env,starEach [e] env=(false,eval e env)::starEach [] env:=by intro _; walk_at "u"):aF c (.Call (.Name "tuple" p) [e] [] pos) ρ R :=
 La mO (q:=fun ds R=>∃ x ys,ds=[x]∧x.row=some ys∧R (.tup ys)) (fun ds vs H Hf Q R s rs ⟨x,ys,e1,e2,hR⟩ q=>by
  subst e1
  obtain ⟨v,rfl,rv⟩:=qA rs
  obtain ⟨p,xs,rfl,hr,hk⟩:=iX e2 rv
  rcases hk with ⟨_,hk⟩ | ⟨_,hk⟩
  ·exact ⟨p,xs,rfl,.inl ⟨s.seq hk,fun l hl=>by
    have g2:=bq.new s hl (o:=.tup xs)
    exact q _ _ _ _ hR (aE.mpr ⟨l,xs,rfl,.inl (.inl ai),hr.mono g2.f⟩) g2⟩⟩
  ·exact ⟨p,xs,rfl,.inr ⟨au s hk,q _ _ H Hf hR (aE.mpr ⟨p,xs,rfl,hk,hr⟩) (.refl s)⟩⟩) hm PyProof.Rows.boot_tuple (dU (h.imp fun d ⟨ys,h1,h2⟩=>k8 ⟨d,ys,rfl,h1,h2⟩) he) hg (by decide) (by decide) he (by intro _; walk_at "u")
noncomputable def F4 (K:NZ):R2:=fun x y H Q=>∃ l b xs zs,x=.ref l∧y=.ref b∧gO K H l xs∧gO K H b zs∧xs.length+zs.length≤sizeLine∧∀ p,H p=none→Q (.ref p) (upd H p (.lst (xs++zs)))
theorem Eb:fm X (binaryOp .Add) (F4 X.K):=by
 intro aa s σ H x y v u Q I rx ry h
 obtain ⟨l,b,xs,zs,rfl,rfl,hH,hB,hz,q⟩:=h
 cases rx
 cases ry
 obtain ⟨its,r,hl,z⟩:=I.list hH
 obtain ⟨its2,r2,hl2,z2⟩:=I.list hB
 have e1:=r.length
 have e2:=r2.length
 obtain ⟨⟨cls,dd,data,sl⟩,n,p1,p2,p3,p4⟩:=hl
 obtain ⟨⟨cls2,dd2,data2,sl2⟩,n',q1,q2,q3,q4⟩:=hl2
 simp only at p2 p3 p4 q2 q3 q4
 subst p2 p3 p4 q2 q3 q4
 have ea:its.toArray++its2.toArray=(its++its2).toArray:=by simp
 refine SQ ⟨_,p1,rfl⟩ ⟨_,q1,rfl⟩ noFill_list_add seq_list_add PySem.F.slot_list_add PySem.F.entry_list_add (PySem.F.args_list_add_2 _ _) (list_addW l b its.toArray its2.toArray n n' none none sl sl2 (by simp; lia)) ⟨p1,q1,?_⟩
 rw [ea]
 exact ⟨.ref _,_,I.DH (t':=s.toks) (r.append r2) (by rw [OL]; lia),rfl,q _ I.fresh⟩
noncomputable def Aj (K:NZ):R2:=fun x y H Q=>∃ a b xs ys,x=.ref a∧y=.ref b∧cY K H a xs∧cY K H b ys∧xs.length+ys.length≤sizeLine ∧
 (xs=[]→Q (.ref b) H)∧(ys=[]→Q (.ref a) H)∧∀ p,H p=none→Q (.ref p) (upd H p (.tup (xs++ys)))
theorem Ak:fm X (binaryOp .Add) (Aj X.K):=by
 intro aa s σ H x y v u Q I rx ry h
 obtain ⟨t,b,xs,ys,rfl,rfl,hH,hB,hz,c1,c2,q⟩:=h
 cases rx
 cases ry
 obtain ⟨vs,r,ht,z⟩:=I.tuple hH
 obtain ⟨ws,r2,hb,z2⟩:=I.tuple hB
 obtain ⟨⟨cls,dd,data,sl⟩,ho,hc,n,hd⟩:=id ht
 obtain ⟨⟨cls2,dd2,data2,sl2⟩,ho2,hc2,n2,hd2⟩:=id hb
 simp only at hc hd hc2 hd2
 subst hc hd hc2 hd2
 have e:vs.toArray++ws.toArray=(vs++ws).toArray:=by simp
 have e1:=r.length
 have e2:=r2.length
 by_cases hv:vs=[]
 ·exact SQ ⟨_,ho,rfl⟩ ⟨_,ho2,rfl⟩ Ub seq_tuple_add Tv Tq (To _ _)
   (tuple_addW0 t b vs.toArray ws.toArray n n2 dd dd2 sl sl2 (by simp [hv])) ⟨ho,ho2,⟨.ref b,H,I,rfl,c1 (by rw [Vals.vn r] at hv; exact hv)⟩⟩
 ·by_cases hw:ws=[]
  ·exact SQ ⟨_,ho,rfl⟩ ⟨_,ho2,rfl⟩ Ub seq_tuple_add Tv Tq (To _ _)
    (tuple_addW1 t b vs.toArray ws.toArray n n2 dd dd2 sl sl2 (by simpa using hv) (by simp [hw])) ⟨ho,ho2,⟨.ref t,H,I,rfl,c2 (by rw [Vals.vn r2] at hw; exact hw)⟩⟩
  ·refine SQ ⟨_,ho,rfl⟩ ⟨_,ho2,rfl⟩ Ub seq_tuple_add Tv Tq (To _ _)
    (tuple_addW2 t b vs.toArray ws.toArray n n2 dd dd2 sl sl2 (by simpa using hv) (by simpa using hw) (by rw [Oo,Oo]; lia)) ⟨ho,ho2,?_⟩
   rw [e]
   refine ⟨.ref s.heap.objs.size,_,I.laid (t':=s.toks) (o:=.tup (xs++ys)) (fun b ob q=>N7 _ q) (N2 _) ?_,rfl,q _ (I.hok.fresh (N2 _))⟩
   exact ⟨by rw [OL]; exact hz,_,r.append r2,IsTup.new _ _⟩
inductive lg:D→D→(Sl→Prop)→Prop where
 | int {i j:Int} {R:Sl→Prop} (h:R (.va (.int (i+j)))):lg (.int i) (.int j) R
 | lst {ds es:List D} {R:Sl→Prop} (h:Sd (ds.length+es.length≤sizeLine) (R (.ow (ds++es)))):lg (.lst ds) (.lst es) R
 | tup {ds es:List D} {R:Sl→Prop} (h:Sd (ds.length+es.length≤sizeLine) (R (.va (.tup (ds++es))))):lg (.tup ds) (.tup es) R
 | str {x y:Str} {R:Sl→Prop} (h:Sd (x.length+y.length≤sizeLine) (R (.va (.str (x++y))))):lg (.str x) (.str y) R
theorem jW (h:aq K H ds []):ds=[]:=by
 have:=h.length; cases ds with
 | nil=>rfl
 | cons _ _=>simp at this
theorem Ec:Mm K (fun x y H Q=>(((ve fun i j=>V.int (i+j)) x y H Q∨F4 K x y H Q)∨Aj K x y H Q)∨∃ i j,x=.str i∧y=.str j∧i.length+j.length≤sizeLine∧Q (.str (i++j)) H) lg:=by
 rintro x y v u H Hf Q R s rx ry h q
 cases h with
 | @int i j _ h =>
  rw [av] at rx ry
  exact .inl (.inl (.inl ⟨i,j,rx,ry,q (.va (.int (i+j))) _ H Hf h (show Rep K Hf (.int (i+j)) _ from av.mpr rfl) (.refl s)⟩))
 | @lst ds es _ h =>
  rw [aV] at rx ry
  obtain ⟨a,xs,rfl,h1,h2⟩:=rx
  obtain ⟨b,ys,rfl,h3,h4⟩:=ry
  refine .inl (.inl (.inr ⟨a,b,xs,ys,rfl,rfl,s.seq h1,s.seq h3,by rw [← h2.length,← h4.length]; exact h.s,fun p hp=>?_⟩))
  exact q (.ow (ds++es)) _ _ _ h.r ⟨p,xs++ys,rfl,hp,ai,s.free hp,h2.append h4⟩ (bq.gi s hp)
 | @tup ds es _ h =>
  rw [aE] at rx ry
  obtain ⟨a,xs,rfl,h1,h2⟩:=rx
  obtain ⟨b,ys,rfl,h3,h4⟩:=ry
  refine .inl (.inr ⟨a,b,xs,ys,rfl,rfl,au s h1,au s h3,by rw [← h2.length,← h4.length]; exact h.s,fun e=>?_,fun e=>?_,fun p hp=>?_⟩)
  ·subst e
   have:=jW h2
   subst this
   exact q (.va (.tup ([]++es))) _ H Hf h.r (show Rep K Hf (.tup ([]++es)) _ from aE.mpr ⟨b,ys,rfl,h3,h4⟩) (.refl s)
  ·subst e
   have:=jW h4
   subst this
   exact q (.va (.tup (ds++[]))) _ H Hf h.r (show Rep K Hf (.tup (ds++[])) _ from aE.mpr ⟨a,xs,rfl,h1,by rw [O5]; exact h2⟩) (.refl s)
  ·have g:=bq.new s hp (o:=.tup (xs++ys))
   exact q (.va (.tup (ds++es))) _ _ _ h.r (show Rep K _ (.tup (ds++es)) _ from aE.mpr ⟨p,xs++ys,rfl,.inl (.inl ai),(h2.append h4).mono g.f⟩) g
 | @str x y _ h =>
  rw [fC] at rx ry
  exact .inr ⟨x,y,rx,ry,h.s,q (.va (.str (x++y))) _ H Hf h.r (show Rep K Hf (.str (x++y)) _ from fC.mpr rfl) (.refl s)⟩
theorem Al {R:Sl→Prop} (h:aF c a ρ fun x=>aF c b ρ fun y=>lg x y R):dz c (.BinOp a .Add b pos) ρ R :=
 oN (fm.or (fm.or (fm.or G4 Eb) Ak) tG) Ec h
noncomputable def cutD {α:Type} (xs:List α) (lo hi:Option Int):List α:=(xs.drop (HT.cu xs.length 0 lo)).take (HT.cu xs.length xs.length hi - HT.cu xs.length 0 lo)
theorem qD (h:aq K H ds xs) (lo hi):aq K H (cutD ds lo hi) (oE xs lo hi):=by
 unfold cutD oE
 rw [h.length]
 exact (h.drop _).take _
noncomputable def bP (X:Cx) (e:Option Expr):TO:=fun σ H Q=>∀ aa s,Inv X aa σ H s→wpAny (model X.prog X.w) X.A (evalPart e X.env) (fun u s'=>∃ o H',Inv X aa σ H' s'∧IsPart u o∧Q o H') X.xe s
theorem Lc {X:Cx} {e:Option Expr}:PO X e (bP X e):=fun aa s σ H Q I h=>h aa s I
noncomputable def Di (c:Ctx P w K mg base k N sc bk) (e:Option Expr) (ρ:List Sl) (R:Option Int→Prop):Prop :=
 ∀ (σ:L2.St) (H Hf:Hp) (Q:Option Int→Hp→Prop),bw c σ H Hf ρ→(∀ o H' aj,R o→bq H Hf H' aj→Q o H')→bP c.X e σ H Q
theorem HP {R:Option Int→Prop} (h:R none):Di c none ρ R:=fun σ H Hf Q S q aa s I=>DB aa s σ H Q I (q none H Hf h (.refl S.sb))
theorem HQ {R:Option Int→Prop} (h:aF c e ρ (I1 fun i=>R (some i))):Di c (some e) ρ R:=fun σ H Hf Q S q aa s I =>
 DC cW aa s σ H Q I (h σ H Hf _ S fun d v H' aj ⟨i,e,hR⟩ r g=>by subst e; rw [av] at r; exact ⟨i,r,q _ H' aj hR g⟩)
noncomputable def Ld (K:NZ):V→Option Int→Option Int→Hp→VK→Prop:=fun x lo hi H Q=>∃ a xs,x=.ref a∧cY K H a xs ∧
 (HT.cu xs.length 0 lo=0∧HT.cu xs.length xs.length hi=xs.length)∧Q (.ref a) H
theorem ic {lo hi:Option Int} (ht:IsTup s.heap t items) (hs:s.heap.IsSliceOf sl vl vu .none) (pl:IsPart vl lo) (pu:IsPart vu hi)
 (hw:HT.cu items.size 0 lo=0∧HT.cu items.size items.size hi=items.size) (h:Q (.ref t) s):wpAny (model prog w) A (getItem (.ref t) (.ref sl)) Q E s:=by
 obtain ⟨os,hos,hcs,hds⟩:=id hs
 have hTs:s.TypeIs (.ref sl) "slice":=⟨os,hos,hcs⟩
 unfold getItem
 try with_reducible refine Pc ?_
 first | refine NX (N1 ?_) | skip
 refine NX (TY ht.typeIs (by decide) ?_)
 refine NX (Qd (name:=NY "__getitem__") ht.typeIs QM
  (Px QM ht.typeIs entry_tuple_getitem ?_ (args_tuple_getitem _ _)))
 show wpAny _ _ (Builtin.Tuple.tupleItemsOf (.ref t) >>= _) _ _ s
 refine NX (tupleItemsOf_ ht ?_)
 refine NX (Ql hTs ?_)
 rw [if_pos (by decide)]
 refine NX (HT.eU hs pl pu ?_)
 have hyes:((((HT.cu items.size 0 lo:Nat):Int) == 0 && (1:Int) == 1 && (HT.cu items.size items.size hi - HT.cu items.size 0 lo) == items.size)=true):=by
  rw [hw.1,hw.2]; simp
 show wpAny _ _ (if (((HT.cu items.size 0 lo:Nat):Int) == 0 && (1:Int) == 1 && (HT.cu items.size items.size hi - HT.cu items.size 0 lo) == items.size)=true then _ else _) _ _ s
 rw [if_pos hyes]
 obtain ⟨⟨cls,dd,data,sl'⟩,ho,hc,n,hd⟩:=id ht
 simp only at hc hd
 subst hc hd
 unfold Builtin.Tuple.tupleIsExact
 wp_walk using R5 ho
 exact ⟨_,rfl,N1 h⟩
theorem Am:Dh X (Ld X.K):=by
 intro aa s σ H x v vl vu lo hi sl Q I rx hs pl pu h
 obtain ⟨a,xs,rfl,hx,hw,q⟩:=h
 cases rx
 obtain ⟨its,r,ht,hz⟩:=I.tuple hx
 have hlen:its.toArray.size=xs.length:=by rw [Oo]; exact r.length.symm
 refine ⟨"tuple",_,QM.lookup,ht.typeIs,?_⟩
 exact ic ht hs pl pu (by rw [hlen]; exact hw) ⟨.ref a,H,I,rfl,q⟩
inductive HR:D→Option Int→Option Int→(Sl→Prop)→Prop where
 | lst {ds:List D} {lo hi:Option Int} {R:Sl→Prop} (h:R (.ow (cutD ds lo hi))):HR (.lst ds) lo hi R
 | tup {ds:List D} {lo hi:Option Int} {R:Sl→Prop} (h:R (.va (.tup (cutD ds lo hi)))):HR (.tup ds) lo hi R
theorem xO {lo hi:Option Int} (h:HT.cu xs.length 0 lo=0∧HT.cu xs.length xs.length hi=xs.length):cutD xs lo hi=xs:=by
 unfold cutD; rw [h.1,h.2]; simp
theorem vI {lo hi:Option Expr} {R:Sl→Prop} (h:aF c e ρ fun x=>Di c lo ρ fun l=>Di c hi ρ fun u=>HR x l u R):dz c (.Subscript e (.Slice lo hi none p2) pos) ρ R:=fun σ H Hf Q S q =>
 bH (zH (Dh.or (Dh.or DG Ho) Am) cW Lc Lc) (h σ H Hf _ S fun x v H1 aN h1 r1 g1=>h1 σ H1 aN _ (S.cB g1) fun l H2 cJ h2 g2=>h2 σ H2 cJ _ (S.cB (g1.trans g2)) fun u H3 Hf3 h3 g3=>by
  have r3:=Rep.mono g3.f x (Rep.mono g2.f x r1)
  have g:=(g1.trans g2).trans g3
  cases h3 with
  | lst h =>
   rw [aV] at r3
   obtain ⟨a,xs,rfl,k1,k2⟩:=r3
   refine .inl (.inl ⟨a,xs,rfl,g3.b.seq k1,fun p hp=>?_⟩)
   exact q _ _ _ _ h ⟨p,_,rfl,g.s.free hp,ai,g3.b.free hp,qD k2 l u⟩ (g.trans (bq.gi g3.b hp))
  | tup h =>
   rw [aE] at r3
   obtain ⟨a,xs,rfl,k1,k2⟩:=r3
   by_cases hw:HT.cu xs.length 0 l=0∧HT.cu xs.length xs.length u=xs.length
   ·refine .inr ⟨a,xs,rfl,au g3.b k1,hw,?_⟩
    refine q _ _ _ _ h (show Rep c.X.K Hf3 _ _ from aE.mpr ⟨a,xs,rfl,k1,?_⟩) g
    rw [xO (by rw [k2.length]; exact hw)]; exact k2
   ·refine .inl (.inr ⟨a,xs,rfl,au g3.b k1,hw,fun p hp=>?_⟩)
    have g4:=bq.new g3.b hp (o:=.tup (oE xs l u))
    exact q _ _ _ _ h (show Rep c.X.K _ _ _ from aE.mpr ⟨p,_,rfl,.inl (.inl ai),(qD k2 l u).mono g4.f⟩) (g.trans g4))
theorem An (a:bq H₀ dN H1 aN) (b:bq H₀ aN H Hf):bq H₀ dN H Hf :=
 ⟨b.s,a.f.trans b.f,b.b,fun c h1 h2 h3=>b.n c (a.n c h1 h2 h3) h2 h3⟩
theorem cZ.re (a:bq H₀ dN H1 aN) (S:cZ K H₀ aN σ H Hf ρ):cZ K H₀ dN σ H Hf ρ:=⟨An a S.bas,S.len,S.at_,S.sep⟩
theorem cZ.anew (S:cZ K H₀ dN σ H Hf ρ):cZ K H₀ Hf σ H Hf ρ:=⟨⟨S.bas.s,.refl _,S.bas.b,fun _ h _ _=>h⟩,S.len,S.at_,S.sep⟩
noncomputable def Ctx.at_ (c:Ctx P w K mg base k N sc bk) {H1 aN:Hp} (a:bq c.B c.Hf H1 aN):Ctx P w K mg base k N sc bk :=
 { X:=c.X,eP:=c.eP,ew:=c.ew,eK:=c.eK,emg:=c.emg,eb:=c.eb,eN:=c.eN,esc:=c.esc,calm:=c.calm,top:=c.top,cb:=c.cb,fn:=c.fn,room:=c.room,nd:=c.nd,vis:=c.vis,B:=c.B,Hf:=aN,RX:=c.RX,RM:=c.RM,
   exc:=fun C x aa σ H aj ρ s H' s' I S h X sm=>c.exc C x aa σ H aj ρ s H' s' I (S.re a) h X sm,mde:=fun C x aa σ H aj ρ s h' us I S h hx=>c.mde C x aa σ H aj ρ s h' us I (S.re a) h hx }
theorem zT.at_ {nx:List Sl→Prop} {p:Pt} {D:Ends} {H1 aN:Hp} (a:bq c.B c.Hf H1 aN) (o:zT c nx p D):zT (c.at_ a) nx p D :=
 ⟨fun σ H Hf ρ S q=>o.nx σ H Hf ρ (cZ.re a S) q,fun r v H Hf g rv q=>o.rt r v H Hf (An a g) rv q,fun σ H Hf ρ S q=>o.bk σ H Hf ρ (cZ.re a S) q,fun σ H Hf ρ S q=>o.ct σ H Hf ρ (cZ.re a S) q⟩
noncomputable def bI (X:Cx) (tg iter:Expr):TI:=fun σ H R=>∀ aa s,Inv X aa σ H s→wpAny (model X.prog X.w) X.A (eval iter X.env) (fun v s1=>wpAny (model X.prog X.w) X.A (pyIter v) (MJ X aa σ tg R) X.xe s1) X.xe s
theorem NS {X:Cx} {tg iter:Expr}:PI X tg iter (bI X tg iter):=fun aa s σ H R I h=>h aa s I
structure jA (K:NZ) (J:It) (ds:List D) (dN:Hp):Prop where
 go:∀ i d H Hf,aD dN Hf→aD Hf H→ds[i]?=some d→J.go i H∧∀ x H',J.yld i H x H'→∃ aj,bq H Hf H' aj∧Rep K aj d x
 stop:∀ i H Hf,aD dN Hf→aD Hf H→ds.length≤i→J.stop i H
noncomputable def HU (c:Ctx P w K mg base k N sc bk) (tg iter:Expr) (ρ:List Sl) (R:List D→Prop):Prop :=
 ∀ (σ:L2.St) (H Hf:Hp) (Q:It→Hp→Prop),bw c σ H Hf ρ→(∀ ds J H' aj,R ds→bq H Hf H' aj→jA c.X.K J ds aj→Q J H')→bI c.X tg iter σ H Q
theorem xP {K:NZ} {ds:List D} {xs:List V} {p:Addr} {dN:Hp} (h:gO K dN p xs) (r:aq K dN ds xs):jA K (MK K p) ds dN where
 go:=fun i d H Hf s1 s2 e=>by
  obtain ⟨x,ex,rx⟩:=r.get e
  refine ⟨⟨xs,x,(s1.trans s2).seq h,ex⟩,fun y H' ⟨e1,e2⟩=>?_⟩
  subst e1
  have:=e2 xs ((s1.trans s2).seq h)
  rw [ex] at this; cases this
  exact ⟨Hf,.refl s2,Rep.mono s1 d rx⟩
 stop:=fun i H Hf s1 s2 e=>⟨xs,(s1.trans s2).seq h,by rw [← r.length]; exact e⟩
theorem Ao {K:NZ} {ds:List D} {xs:List V} {p:Addr} {dN:Hp} (h:cY K dN p xs) (r:aq K dN ds xs):jA K (ML K p) ds dN where
 go:=fun i d H Hf s1 s2 e=>by
  obtain ⟨x,ex,rx⟩:=r.get e
  refine ⟨⟨xs,x,au (s1.trans s2) h,ex⟩,fun y H' ⟨e1,e2⟩=>?_⟩
  subst e1
  have:=e2 xs (au (s1.trans s2) h)
  rw [ex] at this; cases this
  exact ⟨Hf,.refl s2,Rep.mono s1 d rx⟩
 stop:=fun i H Hf s1 s2 e=>⟨xs,au (s1.trans s2) h,by rw [← r.length]; exact e⟩
noncomputable def Nf (K:NZ) (tl:TE):TI:=fun σ H R=>tl σ H fun x H1=>∃ a,x=.ref a∧(((∃ xs,gO K H1 a xs)∧R (MK K a) H1)∨((∃ xs,cY K H1 a xs)∧R (ML K a) H1))
theorem HV (hl:PE X l tl):PI X tg l (Nf X.K tl):=by
 intro aa s σ H R I h
 refine bC (hl aa s σ H _ I h) fun v s1 ⟨x,H1,I1,r1,q1⟩=>?_
 obtain ⟨a,e,h⟩:=q1
 subst e
 cases r1
 rcases h with ⟨⟨xs,hq⟩,q⟩ | ⟨⟨xs,hq⟩,q⟩
 ·obtain ⟨its,rv,p,hz⟩:=I1.list hq
  refine T3 p.isList ?_
  refine ⟨s1.heap.objs.size,[s1.heap.objs.size],_,_,H1,rfl,I1.kept (t':=s1.toks) fun b o e=>N7 _ e,xx a _,⟨_,Oj _ rfl,rfl,rfl⟩,fun b hb=>?_,q⟩
  have e:b=s1.heap.objs.size:=by simpa using hb
  subst e
  exact I1.mJ (N2 _) (I1.hok.fresh (N2 _))
 ·obtain ⟨its,rv,p,hz⟩:=I1.tuple hq
  refine TR (show s1.heap.IsTuple a its.toArray from p) ?_
  refine ⟨s1.heap.objs.size,[s1.heap.objs.size],_,_,H1,rfl,I1.kept (t':=s1.toks) fun b o e=>N7 _ e,tw a _,⟨_,Oj _ rfl,rfl,rfl⟩,fun b hb=>?_,q⟩
  have e:b=s1.heap.objs.size:=by simpa using hb
  subst e
  exact I1.mJ (N2 _) (I1.hok.fresh (N2 _))
theorem cy {R:List D→Prop} (h:aF c e ρ fun d=>∃ ds,d.row=some ds∧R ds):HU c tg e ρ R:=fun σ H Hf Q S q aa s I =>
 HV cW aa s σ H Q I (h σ H Hf _ S fun d v H' aj ⟨ds,er,hR⟩ r g=>by
  obtain ⟨p,xs,rfl,hr,hk⟩:=iX er r
  refine ⟨p,rfl,?_⟩
  rcases hk with ⟨_,hk⟩ | ⟨_,hk⟩
  ·exact .inl ⟨⟨xs,g.b.seq hk⟩,q ds _ H' aj hR g (xP hk hr)⟩
  ·exact .inr ⟨⟨xs,au g.b hk⟩,q ds _ H' aj hR g (Ao hk hr)⟩)
noncomputable def qE (lo:Int) (n:Nat):List D:=(OP n).map fun (i:Nat)=>D.int (lo+(i:Int))
theorem Aq {K:NZ} {lo:Int} {n:Nat} {dN:Hp}:jA K (Mj lo n) (qE lo n) dN where
 go:=fun i d H Hf s1 s2 e=>by
  unfold qE at e
  rw [Oa] at e
  obtain ⟨j,e1,e2⟩:=Og.mp e
  have hi:i<n:=by
   have:=(Ob.mp e1).1
   simpa using this
  have:j=i:=by
   rw [Q0 hi] at e1; cases e1; rfl
  subst this
  refine ⟨hi,fun x H' ⟨e3,e4⟩=>?_⟩
  subst e3 e4 e2
  exact ⟨Hf,.refl s2,av.mpr rfl⟩
 stop:=fun i H Hf s1 s2 e=>by
  show n≤i
  simpa [qE] using e
noncomputable def Ar (i:Int):Prop:= -(2 ^ 62)≤i∧i<2 ^ 62
theorem iZ {R:List D→Prop} (hm:mg "range"=none) (h:aF c e ρ (I1 fun j=>Sd (Ar j) (R (qE 0 j.toNat)))) (hg:sc.names.lookup (NY "range")=some .globalImplicit:=by walk_at "u")
 (hs:∀ env,starEach [e] env=(false,eval e env)::starEach [] env:=by intro _; walk_at "u"):HU c tg (.Call (.Name "range" p) [e] [] pos) ρ R:=fun σ H Hf Q S q aa s I =>
 xy (by unfold Gl OQ; rw [c.esc]; exact hg) (by rw [c.emg]; exact hm) (bM cW dD (hs _)) (hs _) aa s σ H Q I (h σ H Hf _ S fun d v H' aj ⟨j,ed,⟨hj,hR⟩⟩ r g=>by
  subst ed; rw [av] at r; subst r
  exact ⟨j,rfl,hj.1,hj.2,q _ _ H' aj hR g Aq⟩)
theorem cX {tg iter:Expr} {body:List Stmt} {nx:List Sl→Prop} {p:Pt} (hq:c.X.xe=fun _ _=>False)
 (h:HU c tg iter ρ fun ds=>∃ I:Nat→List Sl→Prop,I 0 ρ ∧
   (∀ c':Ctx P w K mg base k N sc bk,c'.X=c.X→c'.RX=c.RX→c'.RM=c.RM→∀ i d ρ',ds[i]?=some d→I i ρ'→nG c' tg d ρ' fun ρ''=>aS c' body ρ'' (I (i+1)) { rt:=p.rt,bk:=nx,ct:=I (i+1) })∧∀ ρ',I ds.length ρ'→nx ρ')
 (hs:∀ env x,foldedSetIterable iter env x=pure x:=by intro _ _; walk_at "u"):eS c (.For tg iter body [] pos) ρ nx p:=fun σ H Hf D S o =>
 dS (G1 (by rw [hq]; exact PassesOwn.never) c.calm NS Nz qw (hs _)) (h σ H Hf _ S fun ds J H1 aN ⟨I,h0,hb,he⟩ g io=>by
  have S1:=S.cB g
  have gb:bq c.B c.Hf H1 aN:=S1.bas
  refine ⟨fun i m σ H=>m=ds.length - i∧i≤ds.length∧∃ Hf ρ',bw (c.at_ gb) σ H Hf ρ'∧I i ρ',⟨_,rfl,OH _,aN,ρ,S1.anew,h0⟩,?_⟩
  rintro i m σ H ⟨rfl,hi,Hf,ρ',S',hI⟩
  by_cases hlt:i<ds.length
  ·have ed:ds[i]?=some ds[i]:=Ot hlt
   obtain ⟨hgo,hy⟩:=io.go i _ H Hf S'.bas.f S'.bas.b ed
   refine .inr ⟨hgo,fun σ' H'=>∃ aj ρ'',bw (c.at_ gb) σ' H' aj ρ''∧I (i+1) ρ'',fun σ' H' ⟨aj,ρ'',S'',hI'⟩=>⟨_,by omega,rfl,hlt,aj,ρ'',S'',hI'⟩,fun x H' hx=>?_⟩
   obtain ⟨aj,g',rx⟩:=hy x H' hx
   refine hb (c.at_ gb) rfl rfl rfl i _ ρ' ed hI σ H' aj x _ (S'.cB g') rx fun σ2 H2 cJ ρ2 S2 _ hbody=>?_
   exact hbody σ2 H2 cJ _ S2 ⟨fun σ H Hf ρ S q=>⟨Hf,ρ,S,q⟩,(o.at_ gb).rt,fun σ H Hf ρ S q=>(o.at_ gb).nx σ H Hf ρ S q,fun σ H Hf ρ S q=>⟨Hf,ρ,S,q⟩⟩
  ·have e:i=ds.length:=by omega
   subst e
   exact .inl ⟨io.stop _ H Hf S'.bas.f S'.bas.b (N2 _),(o.at_ gb).nx σ H Hf ρ' S' (he ρ' hI)⟩)
end
section
end
section
end
section
variable {K:NZ}
end
section
variable {K:NZ} {R:D→Prop}
theorem F5 (h:R d):F0 R (.va d):=⟨d,rfl,h⟩
theorem eX (h:R (.lst ds)):F0 R (.ow ds):=⟨.lst ds,rfl,h⟩
theorem HW (h:aF c a ρ fun x=>aF c b ρ fun y=>lg x y (F0 R)):aF c (.BinOp a .Add b pos) ρ R:=e_x (Al h)
theorem qx.imp {R R':List D→Prop} (h:qx c es ρ R) (hi:∀ d,R d→R' d):qx c es ρ R':=fun σ H Hf Q S q=>h σ H Hf Q S fun d v H' aj rd=>q d v H' aj (hi d rd)
theorem HX (h:qx c es ρ fun ds=>Sd (ds.length≤sizeLine) (R (.lst ds))):aF c (.List es pos) ρ R:=e_x (F3 (h.imp fun ds hd=>⟨hd.s,eX hd.r⟩))
theorem Au {lo hi:Option Expr} (h:aF c e ρ fun x=>Di c lo ρ fun l=>Di c hi ρ fun u=>HR x l u (F0 R)):aF c (.Subscript e (.Slice lo hi none p2) pos) ρ R:=e_x (vI h)
theorem Av {R:Sl→Prop} (h:R (.va (.int (i+j)))):lg (.int i) (.int j) R:=.int h
theorem Aw {ds es:List D} {R:Sl→Prop} (h:Sd (ds.length+es.length≤sizeLine) (R (.ow (ds++es)))):lg (.lst ds) (.lst es) R:=.lst h
theorem Ax {ds es:List D} {R:Sl→Prop} (h:Sd (ds.length+es.length≤sizeLine) (R (.va (.tup (ds++es))))):lg (.tup ds) (.tup es) R:=.tup h
theorem HY {b:Bool} (ty:xK K d t) (e:Pq K t cv=some b) (h:R (.bl b)):∃ t b,xK K d t∧Pq K t cv=some b∧R (.bl b):=⟨t,b,ty,e,h⟩
theorem Le (h:aF c a ρ fun x=>aF c b ρ fun y=>J4 x y R) (hs:kB b:=by with_unfolding_all exact fun _ _=>rfl):aF c (.Subscript a b pos) ρ R:=Lb h hs
theorem xQ {x:D} {Q:List D→Prop} (e:x.row=some ds) (h:Q ds):∃ ys,x.row=some ys∧Q ys:=⟨ds,e,h⟩
theorem aW {F:Fn} {R:Sl→Prop} (h:F ds (.ok sl)) (r:R sl):∃ r,F ds r∧HK c ρ R r:=⟨_,h,r⟩
end
section
variable {K:NZ}
end
noncomputable def del (H:Hp) (p:Addr):Hp:=fun b=>if b=p then none else H b
theorem i6:del H p p=none:=if_pos rfl
theorem cz (h:b≠p):del H p b=H b:=if_neg h
theorem Ay (h:H₀ p=none) (s:aD H₀ H):aD H₀ (del H p):=fun b o e=>by
 rw [cz (az e h)]; exact s b o e
theorem i7 (h:del H p b=some o):b≠p∧H b=some o:=by
 by_cases e:b=p
 ·subst e; rw [i6] at h; cases h
 ·rw [cz e] at h; exact ⟨e,h⟩
theorem gP (sb:aD Hf H) (hp:Hf p=none):bq (del H p) Hf (upd H p o) Hf :=
 ⟨fun b u e=>by obtain ⟨h1,h2⟩:=i7 e; rw [ak h1]; exact h2,.refl _,fun b u e=>by rw [ak (az e hp)]; exact sb b u e,fun _ h _ _=>h⟩
section
variable {K:NZ}
theorem aX.qF (ho:r.owned=true) (h:aX K fr H Hf r v):∃ p o,v=.ref p∧fr p∧H p=some o∧Hf p=none∧¬ zR H p:=by
 have nf:∀ {p:Addr} {u:HO},H p=some u→(∀ φ,u≠.ext φ)→¬ zR H p:=fun e k ⟨z,e2⟩=>by rw [e] at e2; exact k _ (Py e2)
 cases r with
 | un=>cases ho
 | va d=>cases ho
 | fo s=>cases ho
 | ow ds=>obtain ⟨p,xs,rfl,f,h1,h2,_⟩:=h; exact ⟨p,_,rfl,f,h1,h2,nf h1 (by intro _ z; cases z)⟩
 | oT ds=>obtain ⟨p,xs,rfl,f,h1,h2,_⟩:=h; exact ⟨p,_,rfl,f,h1,h2,nf h1 (by intro _ z; cases z)⟩
 | oK ds=>obtain ⟨p,xs,rfl,f,h1,h2,_⟩:=h; exact ⟨p,_,rfl,f,h1,h2,nf h1 (by intro _ z; cases z)⟩
 | aw a ds=>obtain ⟨p,xs,rfl,f,h1,h2,_⟩:=h; exact ⟨p,_,rfl,f.1,h1,h2,nf h1 (by intro _ z; cases z)⟩
 | aT a ds=>obtain ⟨p,xs,rfl,f,h1,h2,_⟩:=h; exact ⟨p,_,rfl,f.1,h1,h2,nf h1 (by intro _ z; cases z)⟩
 | aK a ds=>obtain ⟨p,xs,rfl,f,h1,h2,_⟩:=h; exact ⟨p,_,rfl,f.1,h1,h2,nf h1 (by intro _ z; cases z)⟩
theorem aX.qG (ho:r.owned=true) (h:aX K fr H Hf r v):∃ p o,v=.ref p∧fr p∧H p=some o∧Hf p=none :=
 let ⟨p,o,a,b,c,d,_⟩:=h.qF ho; ⟨p,o,a,b,c,d⟩
theorem aX.Lf (nf:¬ zR H p) (hv:r.owned=true→v≠.ref p) (h:aX K fr H Hf r v):aX K fr (del H p) Hf r v :=
 aX.mv (B:=fun q=>q=p) (.refl _) (fun q o hq e1 _ e3=>⟨by rw [cz hq]; exact e1,e3⟩) (fun _ q e=>by subst e; exact nf) (fun ho q z e=>by subst e; exact hv ho z) h
theorem cZ.own (S:cZ K H₀ dN σ H Hf ρ) {i:Nat} (hi:ρ[i]?=some r) (ho:r.owned=true):∃ p,σ[i]?=some (some (.ref p))∧aX K (fun p=>H₀ p=none) H Hf r (.ref p):=by
 obtain ⟨v,e,q⟩:=S.at_ i r hi (by rintro rfl; cases ho)
 obtain ⟨p,o,rfl,_⟩:=q.qG ho
 exact ⟨p,e,q⟩
theorem cZ.upd (S:cZ K H₀ dN σ H Hf ρ) (hi:ρ[i]?=some r) (ho:r.owned=true) (hp:σ[i]?=some (some (.ref p))) (g:bq (del H p) Hf H1 aN)
 (hr:aX K (fun q=>q=p) H1 aN r' (.ref p)) (ho':r'.owned=true):cZ K H₀ dN σ H1 aN (ρ.set i r'):=by
 obtain ⟨p',ep,q⟩:=S.own hi ho
 rw [hp] at ep; cases ep
 obtain ⟨_,o,e,fp,hHp,hfp,nfz⟩:=q.qF ho
 cases e
 have hlt:i<ρ.length:=(Ob.mp hi).1
 refine ⟨⟨(Ay fp S.bas.s).trans g.s,S.bas.f.trans g.f,g.b,fun b h1 h2 h3=>?_⟩,by simp [S.len],fun j r1 hj hu=>?_,fun j j' r1 r2 q' hne h1 h2 o1 o2=>?_⟩
 ·have hb:b≠p:=fun z=>by subst z; exact h2 fp
  cases z:H₀ b with
  | none=>exact absurd z h2
  | some o1 =>
   have e1:=S.bas.s b o1 z
   refine g.n b (S.bas.n b h1 h2 h3) (by rw [cz hb,e1]; simp) fun xs=>?_
   rw [cz hb,e1,← z]; exact h3 xs
 ·by_cases e:j=i
  ·subst e
   rw [O8 hlt] at hj; cases hj
   exact ⟨_,hp,hr.weak fun q' z=>by subst z; exact fp⟩
  ·rw [Pa (Oq e)] at hj
   obtain ⟨v,e1,e2⟩:=S.at_ j r1 hj hu
   exact ⟨v,e1,(e2.Lf (p:=p) nfz fun ow z=>by subst z; exact S.sep i j _ _ p (Oq e) hi hj ho ow hp e1).cB g⟩
 ·have out:∀ {j:Nat} {r1:Sl},(ρ.set i r')[j]?=some r1→r1.owned=true→∃ r2,ρ[j]?=some r2∧r2.owned=true:=fun {j r1} hj how=>by
   by_cases e:j=i
   ·subst e; exact ⟨r,hi,ho⟩
   ·rw [Pa (Oq e)] at hj; exact ⟨r1,hj,how⟩
  obtain ⟨r3,a1,a2⟩:=out h1 o1
  obtain ⟨r4,b1,b2⟩:=out h2 o2
  exact S.sep j j' r3 r4 q' hne a1 b1 a2 b2
end
section
variable {K:NZ} {c:Ctx P w K mg base k N sc bk}
theorem Ctx.lu (c:Ctx P w K mg base k N sc bk) (hN:At N i x) (hd:(x == ("__debug__":Str))=false) (hcd:(x == ("__classdict__":Str))=false):PE c.X (.Name x px) (Kc i) :=
 tu (X:=c.X) (i:=i) (by rw [c.eN]; exact hN.get) (by rw [c.esc]; rcases c.vis x hN.mem with h | h; exact .inl h; exact .inr (.inl h)) hd hcd
noncomputable def Sl.getL:Sl→Option (List D) | .ow ds=>some ds | .aw _ ds=>some ds | _=>none
noncomputable def Sl.putL:Sl→List D→Sl | .ow _,es=>.ow es | .aw a _,es=>.aw a es | s,_=>s
theorem c6 {r:Sl} (h:r.getL=some ds):r.owned=true:=by cases r <;> first | rfl | cases h
theorem iy {r:Sl} {ds es:List D} (h:r.getL=some ds):(r.putL es).owned=true:=by cases r <;> first | rfl | cases h
theorem HZ {p:Addr} (h:r.getL=some ds) (q:aX K fr H Hf r (.ref p)):∃ xs,H p=some (.lst xs)∧Hf p=none∧aq K Hf ds xs:=by
 cases r with
 | ow es=>cases h; obtain ⟨_,xs,e,_,h1,h2,h3⟩:=q; cases e; exact ⟨xs,h1,h2,h3⟩
 | aw a es=>cases h; obtain ⟨_,xs,e,_,h1,h2,h3⟩:=q; cases e; exact ⟨xs,h1,h2,h3⟩
 | _=>cases h
theorem ly {ds es:List D} {p:Addr} (h:r.getL=some ds) (q:aX K fr H Hf r (.ref p)) (h1:H1 p=some (.lst ys)) (h2:aN p=none) (h3:aq K aN es ys) :
 aX K (fun q=>q=p) H1 aN (r.putL es) (.ref p):=by
 cases r with
 | ow _=>exact ⟨p,ys,rfl,rfl,h1,h2,h3⟩
 | aw a _=>obtain ⟨_,xs,e,f,_⟩:=q; cases e; exact ⟨p,ys,rfl,⟨rfl,f.2⟩,h1,h2,h3⟩
 | _=>cases h
theorem tQ (hN:At N i x) (hi:At ρ i r) (hr:r.getL=some ds) (h:aF c e ρ fun d=>Sd (ds.length<sizeLine) (Nx ρ i nx (r.putL (ds++[d]))))
 (hs:∀ env,swapsWith (.Call (.Attribute (.Name x px) "append" ap) [e] [] cp) none pos.line env=pure false:=by intro _; walk_at "u") (hd:(x == ("__debug__":Str))=false:=by decide) (hcd:(x == ("__classdict__":Str))=false:=by decide)
 (hbase:∀ env,attributeBase (.Name x px) "append" env (eval (.Name x px) env)=eval (.Name x px) env:=by intro _; walk_at "u")
 (hfew:∀ env,((backTo cp (starEach [e] env)).all (fun x=> !x.1) && (backToKw cp (keywordEach [] env)).all (fun x=>x.1.isSome)
   && decide (([e]:List Expr).length+([]:List Keyword).length+(if ([]:List Keyword).isEmpty then 0 else 1)<30))=true:=by intro _; walk_at "u")
 (hline:(ap.endLine == cp.line)=true:=by walk_at "u") (he:∀ env,starEach [e] env=(false,eval e env)::starEach [] env:=by intro _; walk_at "u") (hpl:∀ env,(backTo cp (starEach [] env)).any (·.1)=false:=by intro _; walk_at "u") :
 eS c (.Expr (.Call (.Attribute (.Name x px) "append" ap) [e] [] cp) pos) ρ nx p:=fun σ H Hf D S o=>by
 obtain ⟨q,eq,rq⟩:=S.own hi.get (c6 hr)
 obtain ⟨xs,h1,h2,h3⟩:=HZ hr rq
 refine dS (ku (FW PySem.F.plainAttrs_list PySem.F.slot_list_append PySem.F.type_list_append nk (c.lu hN hd hcd) (bM cW dD (he _)) (hbase _) (hfew _) hline (he _) (hpl _)) (hs _)) ⟨_,eq,.inl ⟨rfl,xs,.inl (.inl h1)⟩,?_⟩
 refine h σ H Hf _ S fun d v H' aj ⟨hz,ρ',hs',hn⟩ rd g=>?_
 have S':=S.cB g
 have e1:H' q=some (.lst xs):=g.s _ _ h1
 have e2:aj q=none:=g.n q h2 (by rw [h1]; simp) (by intro ys; rw [h1]; simp)
 refine ⟨q,xs,v,rfl,rfl,e1,by rw [← h3.length]; exact hz,?_⟩
 refine o.nx _ _ aj ρ' ?_ hn
 rw [hs'.eq]
 have rq':=rq.cB g
 exact S'.upd hi.get (c6 hr) eq (gP g.b e2) (ly hr rq' ai e2 ((h3.mono g.f).append (.one rd))) (iy hr)
end
section
variable {κ β:Type} [DecidableEq κ]
noncomputable def bx (kvs:List (κ×β)) (k:κ):Option β:=(kvs.find? fun kv=>decide (kv.1=k)).map (·.2)
noncomputable def putD (kvs:List (κ×β)) (k:κ) (v:β):List (κ×β) :=
 if (bx kvs k).isSome=true then kvs.map (fun kv=>if kv.1=k then (kv.1,v) else kv) else kvs++[(k,v)]
theorem bh {q:κ×β} {r:List (κ×β)} {k:κ} (e:q.1=k):bx (q::r) k=some q.2:=by simp [bx,Pz,e]
theorem aR {q:κ×β} {r:List (κ×β)} {k:κ} (e:¬ q.1=k):bx (q::r) k=bx r k:=by simp [bx,Pz,e]
end
noncomputable def D.xR:D→Option Key | .int i=>some (.inl i) | .str x=>some (.inr x) | _=>none
noncomputable def D.keys:List D→Option (List Key)
 | []=>some []
 | d::r=>match d.xR,D.keys r with | some k,some ks=>some (k::ks) | _,_=>none
theorem i8 {K:NZ} (h:d.xR=some k) (r:Rep K H d v):v=kV k:=by
 cases d with
 | int i=>cases h; exact av.mp r
 | str x=>cases h; exact fC.mp r
 | _=>cases h
theorem gQ {K:NZ}:∀ {ds:List D} {ks:List Key} {xs:List V},D.keys ds=some ks→aq K H ds xs→xs=ks.map kV
 | [],ks,xs,h,r=>by cases h; rw [ay.mp r]; rfl
 | d::ds,ks,xs,h,r=>by
  obtain ⟨x,t,rfl,r1,r2⟩:=aC.mp r
  unfold D.keys at h
  cases e1:d.xR with
  | none=>rw [e1] at h; cases h
  | some k =>
   cases e2:D.keys ds with
   | none=>rw [e1,e2] at h; cases h
   | some ks' =>
    rw [e1,e2] at h; cases h
    rw [i8 e1 r1,gQ e2 r2]; rfl
noncomputable def Sl.F6:Sl→Bool | .oK _=>true | .aK _ _=>true | .oT _=>true | .aT _ _=>true | _=>false
theorem qH {r:Sl} (h:r.F6=true):r.owned=true:=by cases r <;> first | rfl | cases h
noncomputable def Sl.tR:Sl→Option (List (Key×D)) | .oK kvs=>some kvs | .aK _ kvs=>some kvs | _=>none
noncomputable def Sl.qI:Sl→List (Key×D)→Sl | .oK _,es=>.oK es | .aK a _,es=>.aK a es | s,_=>s
noncomputable def Sl.xS:Sl→Option (List (List Key×D)) | .oT kvs=>some kvs | .aT _ kvs=>some kvs | _=>none
noncomputable def Sl.Az:Sl→List (List Key×D)→Sl | .oT _,es=>.oT es | .aT a _,es=>.aT a es | s,_=>s
theorem lz {r:Sl} (h:r.tR=some kvs):r.owned=true:=by cases r <;> first | rfl | cases h
theorem lB {r:Sl} (h:r.tR=some kvs):(r.qI es).owned=true:=by cases r <;> first | rfl | cases h
theorem tS {r:Sl} (h:r.xS=some kvs):(r.Az es).owned=true:=by cases r <;> first | rfl | cases h
section
variable {K:NZ} {fr:Addr→Prop} {H Hf H1 aN:Hp} {r:Sl} {p:Addr}
theorem xT (h:r.tR=some kvs) (q:aX K fr H Hf r (.ref p)):∃ xs,H p=some (.dK xs)∧Hf p=none∧mF K Hf kvs xs:=by
 cases r with
 | oK es=>cases h; obtain ⟨_,xs,e,_,h1,h2,h3⟩:=q; cases e; exact ⟨xs,h1,h2,h3⟩
 | aK a es=>cases h; obtain ⟨_,xs,e,_,h1,h2,h3⟩:=q; cases e; exact ⟨xs,h1,h2,h3⟩
 | _=>cases h
theorem Ed (h:r.xS=some kvs) (q:aX K fr H Hf r (.ref p)):∃ xs,H p=some (.dT xs)∧Hf p=none∧k6 K Hf kvs xs:=by
 cases r with
 | oT es=>cases h; obtain ⟨_,xs,e,_,h1,h2,h3⟩:=q; cases e; exact ⟨xs,h1,h2,h3⟩
 | aT a es=>cases h; obtain ⟨_,xs,e,_,h1,h2,h3⟩:=q; cases e; exact ⟨xs,h1,h2,h3⟩
 | _=>cases h
theorem qJ (h:r.tR=some kvs) (q:aX K fr H Hf r (.ref p)) (h1:H1 p=some (.dK ys)) (h2:aN p=none) (h3:mF K aN es ys):aX K (fun q=>q=p) H1 aN (r.qI es) (.ref p):=by
 cases r with
 | oK _=>exact ⟨p,ys,rfl,rfl,h1,h2,h3⟩
 | aK a _=>obtain ⟨_,xs,e,f,_⟩:=q; cases e; exact ⟨p,ys,rfl,⟨rfl,f.2⟩,h1,h2,h3⟩
 | _=>cases h
theorem AA (h:r.xS=some kvs) (q:aX K fr H Hf r (.ref p)) (h1:H1 p=some (.dT ys)) (h2:aN p=none) (h3:k6 K aN es ys):aX K (fun q=>q=p) H1 aN (r.Az es) (.ref p):=by
 cases r with
 | oT _=>exact ⟨p,ys,rfl,rfl,h1,h2,h3⟩
 | aT a _=>obtain ⟨_,xs,e,f,_⟩:=q; cases e; exact ⟨p,ys,rfl,⟨rfl,f.2⟩,h1,h2,h3⟩
 | _=>cases h
noncomputable def AB (K:NZ) (Hf:Hp):Option D→Option V→Prop
 | none,none=>True
 | some d,some v=>Rep K Hf d v
 | _,_=>False
theorem mF.val (h:mF K Hf kvs xs) (k:Key):AB K Hf (bx kvs k) (kW xs k):=by
 unfold mF at h
 induction h with
 | nil=>exact P0
 | @cons a b as bs h t ih =>
  by_cases e:a.1=k
  ·rw [bh e,kX (h.1.symm.trans e)]; exact h.2
  ·rw [aR e,kY (fun z=>e (h.1.trans z))]; exact ih
theorem AB.isSome (h:AB K Hf o u):o.isSome=u.isSome:=by
 cases o <;> cases u <;> first | rfl | exact h.elim
theorem mF.put (h:mF K Hf kvs xs) (k:Key) (rd:Rep K Hf d v):mF K Hf (putD kvs k d) (putK xs k v):=by
 have e:=(h.val k).isSome
 unfold putD putK
 rw [e,qk]
 by_cases q:(kW xs k).isSome=true
 ·rw [if_pos q,if_pos q]
  unfold mF at h ⊢
  clear e q
  induction h with
  | nil=>exact .nil
  | @cons a b as bs h t ih =>
   rw [N5,N5]
   refine .cons ?_ ih
   by_cases e:a.1=k
   ·rw [if_pos e,if_pos (h.1.symm.trans e)]; exact ⟨h.1,rd⟩
   ·rw [if_neg e,if_neg (fun z=>e (h.1.trans z))]; exact h
 ·rw [if_neg q,if_neg q]; exact S6 h ⟨rfl,rd⟩
theorem k6.val (h:k6 K Hf kvs xs) (k):AB K Hf (bx kvs k) (atT xs k):=by
 unfold k6 at h
 induction h with
 | nil=>exact P0
 | @cons a b as bs h t ih =>
  by_cases e:a.1=k
  ·have z:L2.atT (b::bs) k=some b.2.2:=by simp [L2.atT,Pz,h.1.symm.trans e]
   rw [bh e,z]; exact h.2.2
  ·have z:L2.atT (b::bs) k=L2.atT bs k:=by
    have:¬ b.1=k:=fun z=>e (h.1.trans z)
    simp [L2.atT,Pz,this]
   rw [aR e,z]; exact ih
theorem k6.put (h:k6 K Hf kvs xs) (k) (hb:cY K Hf b (k.map kV)) (rd:Rep K Hf d v):k6 K Hf (putD kvs k d) (qo xs k b v):=by
 have e:=(h.val k).isSome
 unfold putD qo
 rw [e]
 by_cases q:(atT xs k).isSome=true
 ·rw [if_pos q,if_pos q]
  unfold k6 at h ⊢
  clear e q
  induction h with
  | nil=>exact .nil
  | @cons a b' as bs h t ih =>
   rw [N5,N5]
   refine .cons ?_ ih
   unfold oJ
   by_cases e:a.1=k
   ·rw [if_pos e,if_pos (h.1.symm.trans e)]; exact ⟨h.1,h.2.1,rd⟩
   ·rw [if_neg e,if_neg (fun z=>e (h.1.trans z))]; exact h
 ·rw [if_neg q,if_neg q]; exact S6 h ⟨rfl,hb,rd⟩
theorem k6.AD (h:k6 K Hf kvs xs):∀ x∈xs,cY K Hf x.2.1 (x.1.map kV):=by
 unfold k6 at h
 induction h with
 | nil=>intro x hx; cases hx
 | @cons a b as bs h t ih =>
  intro x hx
  rcases Oh.mp hx with e | hx
  ·subst e; rw [← h.1]; exact h.2.1
  ·exact ih x hx
inductive F7:Sl→D→Option D→Prop
 | k {r:Sl} {kvs:List (Key×D)} {d:D} {k:Key} (h:r.tR=some kvs) (hk:d.xR=some k):F7 r d (bx kvs k)
 | t {r:Sl} {kvs:List (List Key×D)} {ds:List D} {k:List Key} (h:r.xS=some kvs) (hk:D.keys ds=some k):F7 r (.tup ds) (bx kvs k)
inductive Ef:Sl→D→D→Sl→Prop
 | k {r:Sl} {kvs:List (Key×D)} {d e:D} {k:Key} (h:r.tR=some kvs) (hk:d.xR=some k) (hz:kvs.length<sizeLine):Ef r d e (r.qI (putD kvs k e))
 | t {r:Sl} {kvs:List (List Key×D)} {ds:List D} {e:D} {k:List Key} (h:r.xS=some kvs) (hk:D.keys ds=some k) (hz:kvs.length<sizeLine):Ef r (.tup ds) e (r.Az (putD kvs k e))
theorem Ef.owned' (h:Ef r d e r'):r'.owned=true:=by cases h with | k h _ _=>exact lB h | t h _ _=>exact tS h
theorem F7.get (h:F7 r d o) (q:aX K fr H Hf r (.ref p)) (rv:Rep K Hf d v) (sb:aD Hf H):∃ u,oM K H p v u∧AB K Hf o u:=by
 cases h with
 | k h hk =>
  obtain ⟨xs,h1,_,h3⟩:=xT h q
  rw [i8 hk rv]
  exact ⟨_,.inl ⟨xs,_,.inl h1,rfl,rfl⟩,h3.val _⟩
 | t h hk =>
  obtain ⟨xs,h1,_,h3⟩:=Ed h q
  obtain ⟨a,ys,rfl,h4,h5⟩:=aE.mp rv
  have:=gQ hk h5
  subst this
  exact ⟨_,.inr ⟨xs,_,a,.inl h1,fun x hx=>au sb (h3.AD x hx),rfl,au sb h4,rfl⟩,h3.val _⟩
theorem mF.length (h:mF K Hf kvs xs):kvs.length=xs.length:=Ph h
theorem k6.length (h:k6 K Hf kvs xs):kvs.length=xs.length:=Ph h
theorem Ef.put (h:Ef r d e r') (q:aX K fr H Hf r (.ref p)) (rv:Rep K Hf d v) (ry:Rep K Hf e y) (sb:aD Hf H) :
 ∃ o,DJ K H p v y (upd H p o)∧aX K (fun q=>q=p) (upd H p o) Hf r' (.ref p):=by
 cases h with
 | k h hk hz =>
  obtain ⟨xs,h1,h2,h3⟩:=xT h q
  rw [i8 hk rv]
  exact ⟨_,.inl ⟨xs,_,h1,rfl,by rw [← h3.length]; exact hz,rfl⟩,qJ h q ai h2 (h3.put _ ry)⟩
 | t h hk hz =>
  obtain ⟨xs,h1,h2,h3⟩:=Ed h q
  obtain ⟨a,ys,rfl,h4,h5⟩:=aE.mp rv
  have:=gQ hk h5
  subst this
  exact ⟨_,.inr ⟨xs,_,a,h1,fun x hx=>au sb (h3.AD x hx),rfl,au sb h4,by rw [← h3.length]; exact hz,rfl⟩,AA h q ai h2 (h3.put _ h4 ry)⟩
end
section
variable {K:NZ} {c:Ctx P w K mg base k N sc bk}
theorem Ctx.hu (c:Ctx P w K mg base k N sc bk):c.X.A.units+1<cLine:=KI c.room
theorem vJ {R:Sl→Prop} (h:R (.oK [])):dz c (.Dict [] [] pos) ρ R:=fun σ H Hf Q S q =>
 bH zN fun p hp=>q (.oK []) (.ref p) _ Hf h ⟨p,[],rfl,hp,ai,S.sb.free hp,.nil⟩ (bq.gi S.sb hp)
theorem Eg {R:Sl→Prop} (h:R (.oT [])):dz c (.Dict [] [] pos) ρ R:=fun σ H Hf Q S q =>
 bH zO fun p hp=>q (.oT []) (.ref p) _ Hf h ⟨p,[],rfl,hp,ai,S.sb.free hp,.nil⟩ (bq.gi S.sb hp)
theorem Ia (hN:At N i x) (hi:At ρ i r) (h:aF c e ρ fun dk=>aF c f ρ fun df=>∃ o,F7 r dk o∧R (o.getD df)) (hd:(x == ("__debug__":Str))=false:=by decide) (hcd:(x == ("__classdict__":Str))=false:=by decide) (ho:r.F6=true:=by rfl)
 (m1:∀ env,attributeBase (.Name x px) "get" env (eval (.Name x px) env)=eval (.Name x px) env:=by intro _; walk_at "u")
 (m2:∀ env,((backTo cp (starEach [e,f] env)).all (fun x=> !x.1) && (backToKw cp (keywordEach [] env)).all (fun x=>x.1.isSome)
   && decide (([e,f]:List Expr).length+([]:List Keyword).length+(if ([]:List Keyword).isEmpty then 0 else 1)<30))=true:=by intro _; walk_at "u")
 (m3:(ap.endLine == cp.line)=true:=by walk_at "u") (m4:∀ env,backTo cp (starEach [e,f] env)=[(false,eval e env),(false,eval f env)]:=by intro _; walk_at "u") :
 aF c (.Call (.Attribute (.Name x px) "get" ap) [e,f] [] cp) ρ R:=fun σ H Hf Q S q=>by
 obtain ⟨p,ep,rp⟩:=S.own hi.get (qH ho)
 have HY:M5 H p:=by
  cases r with
  | oK kvs=>obtain ⟨xs,h1,_⟩:=xT (r:=.oK kvs) rfl rp; exact .inl ⟨xs,.inl h1⟩
  | aK a kvs=>obtain ⟨xs,h1,_⟩:=xT (r:=.aK a kvs) rfl rp; exact .inl ⟨xs,.inl h1⟩
  | oT kvs=>obtain ⟨xs,h1,_⟩:=Ed (r:=.oT kvs) rfl rp; exact .inr ⟨xs,.inl h1⟩
  | aT a kvs=>obtain ⟨xs,h1,_⟩:=Ed (r:=.aT a kvs) rfl rp; exact .inr ⟨xs,.inl h1⟩
  | _=>cases ho
 refine bH (zP c.hu (c.lu hN hd hcd) cW cW ⟨m1 _,m2 _,m3,m4 _⟩) ⟨_,ep,p,rfl,HY,h σ H Hf _ S fun dk v H1 aN h1 rv g1=>h1 σ H1 aN _ (S.cB g1) fun df y H2 cJ ⟨o,lk,hR⟩ ry g2=>?_⟩
 obtain ⟨u,dg,rel⟩:=lk.get (rp.cB (g1.trans g2)) (Rep.mono g2.f _ rv) g2.b
 refine ⟨u,dg,?_⟩
 cases o with
 | none=>cases u with
  | none=>exact q df y H2 cJ hR ry (g1.trans g2)
  | some _=>exact rel.elim
 | some d=>cases u with
  | none=>exact rel.elim
  | some v'=>exact q d v' H2 cJ hR rel (g1.trans g2)
theorem Ib (hN:At N i x) (hi:At ρ i r) (h:aF c e ρ fun dv=>aF c b ρ fun dk=>∃ r',Ef r dk dv r'∧Nx ρ i nx r') (ho:r.owned=true:=by rfl)
 (hs:∀ env,swapsWith e (some (.Subscript (.Name x px) b tp)) pos.line env=pure false:=by intro _; walk_at "u") (hd:(x == ("__debug__":Str))=false:=by decide) (hcd:(x == ("__classdict__":Str))=false:=by decide) :
 eS c (.Assign [.Subscript (.Name x px) b tp] e pos) ρ nx p:=fun σ H Hf D S o=>by
 obtain ⟨p,ep,rp⟩:=S.own hi.get ho
 refine dS (DM c.hu (c.lu hN hd hcd) cW cW (hs _)) (h σ H Hf _ S fun dv v H1 aN h1 rv g1=>⟨_,ep,h1 σ H1 aN _ (S.cB g1) fun dk y H2 cJ ⟨r',pt,ρ',hs',hn⟩ ry g2=>?_⟩)
 have g:=g1.trans g2
 obtain ⟨ob,dp,rp'⟩:=pt.put (rp.cB g) ry (Rep.mono g2.f _ rv) g.b
 refine ⟨p,_,rfl,dp,o.nx _ _ cJ ρ' ?_ hn⟩
 rw [hs'.eq]
 obtain ⟨_,_,e0,_,_,hf⟩:=(rp.cB g).qG ho
 cases e0
 exact (S.cB g).upd hi.get ho ep (gP g.b hf) rp' pt.owned'
theorem vK (hN:At N i x) (hi:At ρ i r) (h:aF c b ρ fun dk=>∃ m:Int,F7 r dk (some (.int m))∧aF c e ρ (I1 fun j=>∃ r',Ef r dk (.int (m+j)) r'∧Nx ρ i nx r')) (ho:r.owned=true:=by rfl)
 (ha:∀ ov iv new,augStore b ov iv new=(do holding [new,ov,iv] (setItem ov iv new); release [new,ov,iv] []; pure .next):=by intro _ _ _; walk_at "u") (hd:(x == ("__debug__":Str))=false:=by decide) (hcd:(x == ("__classdict__":Str))=false:=by decide) :
 eS c (.AugAssign (.Subscript (.Name x px) b tp) .Add e pos) ρ nx p:=fun σ H Hf D S o=>by
 obtain ⟨p,ep,rp⟩:=S.own hi.get ho
 have hop:Kx c.X .Add (ve fun i j=>.int (i+j)):=Ds
 refine dS (DN c.hu (c.lu hN hd hcd) cW cW hop ha) ⟨_,ep,h σ H Hf _ S fun dk y H1 aN ⟨m,lk,h1⟩ ry g1=>?_⟩
 obtain ⟨u,dg,rel⟩:=lk.get (rp.cB g1) ry g1.b
 cases u with
 | none=>exact rel.elim
 | some u =>
  have eu:u=V.int m:=(av (K:=c.X.K) (H:=aN)).mp rel
  subst eu
  refine ⟨p,_,rfl,dg,h1 σ H1 aN _ (S.cB g1) fun dj y2 H2 cJ ⟨j,ej,r',pt,ρ',hs',hn⟩ ry2 g2=>?_⟩
  subst ej
  rw [av.mp ry2]
  have g:=g1.trans g2
  obtain ⟨ob,dp,rp'⟩:=pt.put (rp.cB g) (Rep.mono g2.f _ ry) (v:=y) (y:=.int (m+j)) (av.mpr rfl) g.b
  refine ⟨m,j,rfl,rfl,_,dp,o.nx _ _ cJ ρ' ?_ hn⟩
  rw [hs'.eq]
  obtain ⟨_,_,e0,_,_,hf⟩:=(rp.cB g).qG ho
  cases e0
  exact (S.cB g).upd hi.get ho ep (gP g.b hf) rp' pt.owned'
theorem F8 (hN:At N i x) (hi:At ρ i r) (h:aF c e ρ fun dk=>∃ o,F7 r dk o∧T o.isSome) (ho:r.owned=true:=by rfl) (hm:behindInMarks CmpOp.In (.Name x px)=false:=by walk_at "u")
 (hd:(x == ("__debug__":Str))=false:=by decide) (hcd:(x == ("__classdict__":Str))=false:=by decide):jz c (.Compare e [.In] [.Name x px] pos) ρ T:=fun σ H Hf Q S q=>by
 obtain ⟨p,ep,rp⟩:=S.own hi.get ho
 refine vv (GP (Hu c.hu cW (c.lu hN hd hcd)) hm) (h σ H Hf _ S fun dk y H1 aN ⟨o,lk,hT⟩ ry g=>⟨_,ep,?_⟩)
 obtain ⟨u,dg,rel⟩:=lk.get (rp.cB g) ry g.b
 refine ⟨p,u,rfl,dg,u.isSome,rfl,q _ H1 aN ?_ g⟩
 rw [← rel.isSome]; exact hT
end
noncomputable abbrev kE:Value→Shared→Prop:=fun _ _=>False
section
variable {prog:Program} {w:World} {A:Around} {R:Result→Shared→Prop} {s:Shared}
theorem oV {elt target iter:Expr} {ifs:List Expr} {scope:Scope} {pos:Pos} {it acc:Value} {env:Env} (I:Nat→Shared→Prop)
 (turn:∀ n s,I n s→wpAny (model prog w) A (pyNext it) (fun r s₁=>match r with
   | none=>R (.ok .next) s₁
   | some v=>wpAny (model prog w) A (letOwnedTupleGo target it v) (fun _ s₁'=>wpAny (model prog w) A (assign target env v) (fun _ s₂ =>
    wpAny (model prog w) A (forIn ifs true fun c r=>if r=true then do let ok ← isTrue c env (eval c env); pure (OX ok) else pure (OX r)) (fun ok s₃ =>
     if ok=true then wpAny (model prog w) A (eval elt env) (fun x s₄ =>
      wpAny (model prog w) A (call (.builtin "list.append") [acc,x]) (fun _ s₅=>∃ m,m<n∧I m s₅) kE s₄) kE s₃
     else ∃ m,m<n∧I m s₃) kE s₂) kE s₁') kE s₁) kE s)
 (n:Nat) (h:I n s) :
 codeAny (model prog w) A (.compLoop (.ListComp elt [⟨target,iter,ifs,0⟩] scope pos) 0 it acc env) R s:=by
 refine codeAny_loop rfl I (fun n s hI=>?_) n h
 show wpAny _ A ((compTurn (.ListComp elt [⟨target,iter,ifs,0⟩] scope pos) 0 it acc env).onRaise (fun x=>do noteFrame x env; theTreesLotGoes x)) _ _ s
 refine wpAny_noted ?_
 rw [compTurn_list]
 refine NX (wpAny_standAt (NX (OO (turn n s hI) (fun r s₁ h₁=>?_) fun _ _ f=>f.elim)))
 cases r with
 | none=>exact N1 h₁
 | some v =>
  refine NX (OO h₁ (fun _ s₁' h₁'=>?_) fun _ _ f=>f.elim)
  refine NX (OO h₁' (fun _ s₂ h₂=>NX (OO h₂ (fun ok s₃ h₃=>?_) fun _ _ f=>f.elim)) fun _ _ f=>f.elim)
  cases ok with
  | false=>exact N1 ⟨rfl,h₃⟩
  | true =>
   exact NX (NX (OO h₃ (fun x s₄ h₄=>NX (OO h₄ (fun _ s₅ h₅=>N1 (N1 ⟨rfl,h₅⟩)) fun _ _ f=>f.elim)) fun _ _ f=>f.elim))
theorem jX:∀ (ifs:List Expr),Q false s →
 wpAny (model prog w) A (forIn ifs false fun c r=>if r=true then do let ok ← isTrue c env (eval c env); pure (OX ok) else pure (OX r)) Q E s
 | [],h=>N1 h
 | t::ts,h=>by
  simp only [SE,OV,if_false]
  exact NX (N1 (jX ts h))
theorem tT
 (h:wpAny (model prog w) A (isTrue t env (eval t env)) (fun b s'=>if b=true then wpAny (model prog w) A (forIn ts true fun c r=>if r=true then do let ok ← isTrue c env (eval c env); pure (OX ok) else pure (OX r)) Q E s' else Q false s') E s) :
 wpAny (model prog w) A (forIn (t::ts) true fun c r=>if r=true then do let ok ← isTrue c env (eval c env); pure (OX ok) else pure (OX r)) Q E s:=by
 simp only [SE,if_true]
 refine NX (NX (OO h (fun b s' hb=>N1 ?_) fun _ _ x=>x))
 cases b with
 | true=>exact hb
 | false=>exact jX ts hb
end
noncomputable def bX (scope sc:Scope):Scope:={ scope with names:=scope.names.map fun (n,k)=>if (k == .free && sc.kind == .function && sc.names.lookup n == some .cell) then (n,.cell) else (n,k) }
theorem qK (h:env.scope=sc):relabel scope env=bX scope sc:=by
 subst h; rfl
noncomputable def Sl.tag (a:Addr):Sl→Sl
 | .ow ds=>.aw a ds | .oT ds=>.aT a ds | .oK ds=>.aK a ds
 | .aw b ds=>.aw b ds | .aT b ds=>.aT b ds | .aK b ds=>.aK b ds | .fo s=>.fo s
 | .un=>.un | .va d=>.va d
inductive AE (t:Str→Addr) (nm:List (Str×NameKind)) (N:List Str) (ρ:List Sl):List Str→List Sl→Prop
 | nil:AE t nm N ρ [] []
 | un {y:Str} {M:List Str} {r:List Sl}:AE t nm N ρ M r→AE t nm N ρ (y::M) (.un::r)
 | fr {y:Str} {i:Nat} {s s':Sl} {M:List Str} {r:List Sl} (hN:At N i y) (hs:At ρ i s) (hy:(y,P8)∈nm) (ht:s.tag (t y)=s'):AE t nm N ρ M r→AE t nm N ρ (y::M) (s'::r)
theorem AE.len (h:AE t nm N ρ M r):M.length=r.length:=by
 induction h with
 | nil=>rfl
 | un t ih=>simp [ih]
 | fr hN hs hy ht t ih=>simp [ih]
inductive Eh:List Sl→List Sl→Prop
 | nil:Eh [] []
 | un {r:Sl} {a b:List Sl}:Eh a b→Eh (.un::a) (r::b)
 | same {r:Sl} {a b:List Sl}:Eh a b→Eh (r::a) (r::b)
theorem Eh.weak (h:Eh a b):a.length=b.length∧∀ (i:Nat) (r:Sl),a[i]?=some r→r≠.un→b[i]?=some r:=by
 induction h with
 | nil=>exact ⟨rfl,fun i r e=>by simp at e⟩
 | un t ih=>exact ⟨by simp [ih.1],fun i r e hu=>by cases i with | zero=>simp at e; exact absurd e.symm hu | succ i=>simpa using ih.2 i r (by simpa using e) hu⟩
 | same t ih=>exact ⟨by simp [ih.1],fun i r e hu=>by cases i with | zero=>simpa using e | succ i=>simpa using ih.2 i r (by simpa using e) hu⟩
section
variable {K:NZ}
noncomputable def sX (c:Ctx P w K mg base k N sc bk):List Expr→List Sl→(Bool→Prop)→Prop
 | [],_,T=>T true
 | t::ts,ρ,T=>jz c t ρ (nI (sX c ts ρ T) (T false))
theorem nJ (hq:c.X.xe=kE):∀ (ifs:List Expr) {H Hf:Hp} {s:Shared},bw c σ H Hf ρ→sX c ifs ρ T→(∀ b H' aj,T b→bq H Hf H' aj→Q b H')→Inv c.X aa σ H s →
 wpAny (model c.X.prog c.X.w) c.X.A (forIn ifs true fun t r=>if r=true then do let ok ← isTrue t c.X.env (eval t c.X.env); pure (OX ok) else pure (OX r)) (TP c.X aa σ Q) kE s
 | [],H,Hf,s,S,h,q,I=>wpAny_tests_nil ⟨H,I,q true H Hf h (.refl S.sb)⟩
 | t::ts,H,Hf,s,S,h,q,I=>by
  have h0:=h σ H Hf (fun b H'=>∃ aj,nI (sX c ts ρ T) (T false) b∧bq H Hf H' aj) S (fun b H' aj hb g=>⟨aj,hb,g⟩) aa s I
  rw [hq] at h0
  refine tT (bC h0 fun b s' ⟨H',I',aj,hb,g⟩=>?_)
  cases b with
  | true=>exact nJ hq ts (S.cB g) (hb.t rfl) (fun b H2 cJ hT g2=>q b H2 cJ hT (g.trans g2)) I'
  | false=>exact ⟨H',I',q false H' aj (hb.f rfl) g⟩
end
theorem lC:∀ (names:List (Str×NameKind)) (cs:List (Str×Addr)),(∀ x∈names,x.2=.free→∃ a,env.cells.lookup x.1=some a) →
 ∃ cl,(forIn names cs (fun (x:Str×NameKind) (r:List (Str×Addr))=>(if (x.2 == P8)=true then do let a ← cellOf env x.1; pure (OX ((x.1,a)::r)) else pure (OX r):Sem (ForInStep (List (Str×Addr))))))=(pure cl:Sem (List (Str×Addr))) ∧
  (∀ y a,cl.lookup y=some a→cs.lookup y=some a∨env.cells.lookup y=some a∧(y,P8)∈names)∧(∀ y a,(y,P8)∈names∨(∃ b,cs.lookup y=some b∧env.cells.lookup y=some b)→env.cells.lookup y=some a→cl.lookup y=some a)
 | [],cs,_=>⟨cs,rfl,fun y a e=>.inl e,fun y a h e=>by
  rcases h with h | ⟨b,h1,h2⟩
  ·cases h
  ·rw [e] at h2; cases h2; exact h1⟩
 | (n,kd)::r,cs,h=>by
  by_cases hk:kd=.free
  ·subst hk
   obtain ⟨a,ea⟩:=h (n,.free) Od rfl
   obtain ⟨cl,e1,e2,e3⟩:=lC r ((n,a)::cs) fun x hx=>h x (Oe _ hx)
   refine ⟨cl,?_,fun y b e=>?_,fun y b hy e=>?_⟩
   ·rw [SE]
    simp only [beq_self_eq_true,if_true,cellOf,ea,pure_bind]
    exact e1
   ·rcases e2 y b e with z | ⟨z1,z2⟩
    ·rw [Uc] at z
     cases q:(y == n) with
     | true =>
      rw [q] at z; cases z
      have:y=n:=by simpa using q
      subst this
      exact .inr ⟨ea,Od⟩
     | false=>rw [q] at z; exact .inl z
    ·exact .inr ⟨z1,Oe _ z2⟩
   ·refine e3 y b ?_ e
    rcases hy with hy | ⟨b',h1,h2⟩
    ·rcases Oh.mp hy with z | z
     ·cases z; exact .inr ⟨a,by simp,ea⟩
     ·exact .inl z
    ·refine .inr ⟨b',?_,h2⟩
     rw [Uc]
     cases q:(y == n) with
     | true =>
      have:y=n:=by simpa using q
      subst this
      rw [ea] at h2; exact h2
     | false=>exact h1
  ·have hb:(kd == P8)=false:=by simpa using hk
   obtain ⟨cl,e1,e2,e3⟩:=lC r cs fun x hx=>h x (Oe _ hx)
   refine ⟨cl,?_,fun y b e=>?_,fun y b hy e=>?_⟩
   ·rw [SE]
    simp only [hb,OV,if_false,pure_bind]
    exact e1
   ·rcases e2 y b e with z | ⟨z1,z2⟩
    ·exact .inl z
    ·exact .inr ⟨z1,Oe _ z2⟩
   ·refine e3 y b ?_ e
    rcases hy with hy | hy
    ·rcases Oh.mp hy with z | z
     ·cases z; exact absurd rfl hk
     ·exact .inl z
    ·exact .inr hy
theorem Ei (h:∀ x∈scope.names,x.2=.free→∃ a,env.cells.lookup x.1=some a) :
 ∃ cl,closureFor scope env=pure cl∧(∀ y a,cl.lookup y=some a→env.cells.lookup y=some a∧(y,P8)∈scope.names)∧(∀ y a,(y,P8)∈scope.names→env.cells.lookup y=some a→cl.lookup y=some a):=by
 obtain ⟨cl,e1,e2,e3⟩:=lC scope.names [] h
 refine ⟨cl,?_,fun y a e=>?_,fun y a hy e=>e3 y a (.inl hy) e⟩
 ·unfold closureFor
  have e1':=congrArg (· >>= fun cs=>(pure cs:Sem _)) e1
  simp only [pure_bind] at e1'
  exact e1'
 ·rcases e2 y a e with z | z
  ·simp at z
  ·exact z
section
variable {P:Program} {w:World} {K:NZ} {mg:Str→Option Value} {base:Heap} {k:Nat} {N:List Str} {sc:Scope} {bk:Bool} {c:Ctx P w K mg base k N sc bk} {ρ:List Sl} {pos:Pos}
noncomputable def AF (c:Ctx P w K mg base k N sc bk) (tg:Expr) (ifs:List Expr) (elt:Expr) (ρ0:List Sl) (d:D) (o:Option D):Prop :=
 nG c tg d ρ0 fun ρ1=>Eh ρ0 ρ1∧sX c ifs ρ1 (nI (aF c elt ρ1 fun e=>o=some e) (o=none))
theorem i9 {nm:List (Str×NameKind)}:∀ {y:Str} {kd:NameKind},(nm.map fun (x:Str×NameKind)=>match x with | (n,k)=>(if (k == .free && sc.kind == .function && sc.names.lookup n == some .cell)=true then (n,NameKind.cell) else (n,k))).lookup y=some kd→∃ k0,(y,k0)∈nm∧(kd=k0∨kd=.cell∧k0=.free):=by
 induction nm with
 | nil=>intro y kd h; simp at h
 | cons x r ih =>
  obtain ⟨n,k0⟩:=x
  intro y kd h
  rw [N5,Uc] at h
  by_cases e:(k0 == .free && sc.kind == .function && sc.names.lookup n == some .cell)=true
  ·simp only [e,if_true] at h
   cases q:(y == n) with
   | true =>
    rw [q] at h; cases h
    have:y=n:=by simpa using q
    subst this
    have hf:k0=.free:=by simp only [Rt,beq_iff_eq] at e; exact e.1.1
    exact ⟨k0,Od,.inr ⟨rfl,hf⟩⟩
   | false=>rw [q] at h; obtain ⟨k1,h1,h2⟩:=ih h; exact ⟨k1,Oe _ h1,h2⟩
  ·simp only [e,OV,if_false] at h
   cases q:(y == n) with
   | true =>
    rw [q] at h; cases h
    have:y=n:=by simpa using q
    subst this
    exact ⟨k0,Od,.inl rfl⟩
   | false=>rw [q] at h; obtain ⟨k1,h1,h2⟩:=ih h; exact ⟨k1,Oe _ h1,h2⟩
theorem AE.start {σ:L2.St} (h:AE t nm N ρ M r) (hσ:∀ (i:Nat) (s:Sl),ρ[i]?=some s→s≠.un→∃ v,σ[i]?=some (some v)) :
 ∃ σ0:L2.St,σ0.length=r.length∧∀ (j:Nat) (s:Sl),r[j]?=some s→(s=.un∧σ0[j]?=some none)∨∃ (i:Nat) (y:Str) (v:V) (s0:Sl),M[j]?=some y∧(y,P8)∈nm∧N[i]?=some y∧ρ[i]?=some s0∧s=s0.tag (t y)∧s0≠.un∧σ[i]?=some (some v)∧σ0[j]?=some (some v):=by
 induction h with
 | nil=>exact ⟨[],rfl,fun j s e=>by simp at e⟩
 | un t ih =>
  obtain ⟨σ0,hl,h0⟩:=ih
  refine ⟨none::σ0,by simp [hl],fun j s e=>?_⟩
  cases j with
  | zero=>simp at e; exact .inl ⟨e.symm,by simp⟩
  | succ j =>
   rcases h0 j s (by simpa using e) with ⟨h1,h2⟩ | ⟨i,y,v,s0,h1,h2,h3,h4,h5,h6,h7,h8⟩
   ·exact .inl ⟨h1,by simpa using h2⟩
   ·exact .inr ⟨i,y,v,s0,by simpa using h1,h2,h3,h4,h5,h6,h7,by simpa using h8⟩
 | @fr y i s' s'' M r hN hs hy ht t ih =>
  obtain ⟨σ0,hl,h0⟩:=ih
  by_cases hu:s'=.un
  ·refine ⟨none::σ0,by simp [hl],fun j s e=>?_⟩
   cases j with
   | zero=>simp at e; subst hu; exact .inl ⟨e.symm.trans ht.symm,by simp⟩
   | succ j =>
    rcases h0 j s (by simpa using e) with ⟨h1,h2⟩ | ⟨i,y,v,s0,h1,h2,h3,h4,h5,h6,h7,h8⟩
    ·exact .inl ⟨h1,by simpa using h2⟩
    ·exact .inr ⟨i,y,v,s0,by simpa using h1,h2,h3,h4,h5,h6,h7,by simpa using h8⟩
  ·obtain ⟨v,ev⟩:=hσ i s' hs.get hu
   refine ⟨some v::σ0,by simp [hl],fun j s e=>?_⟩
   cases j with
   | zero=>simp at e; subst e; exact .inr ⟨i,y,v,s',by simp,hy,hN.get,hs.get,ht.symm,hu,ev,by simp⟩
   | succ j =>
    rcases h0 j s (by simpa using e) with ⟨h1,h2⟩ | ⟨i,y,v,s0,h1,h2,h3,h4,h5,h6,h7,h8⟩
    ·exact .inl ⟨h1,by simpa using h2⟩
    ·exact .inr ⟨i,y,v,s0,by simpa using h1,h2,h3,h4,h5,h6,h7,by simpa using h8⟩
noncomputable def Sl.adr:Sl→Option Addr | .aw a _=>some a | .aT a _=>some a | .aK a _=>some a | _=>none
theorem nK {s:Sl}:(s.tag a).owned=s.owned:=by cases s <;> rfl
theorem Ej {s:Sl} (h:s.owned=true):∃ b,(s.tag a).adr=some b:=by cases s <;> first | exact ⟨_,rfl⟩ | cases h
theorem vL (hv:s.owned=true→v=.ref a) (h:aX K fr H Hf s v):aX K fr H Hf (s.tag a) v:=by
 cases s with
 | ow ds=>obtain ⟨p,xs,e,f,r⟩:=h; exact ⟨p,xs,e,⟨f,by have:=hv rfl; rw [e] at this; cases this; rfl⟩,r⟩
 | oT ds=>obtain ⟨p,xs,e,f,r⟩:=h; exact ⟨p,xs,e,⟨f,by have:=hv rfl; rw [e] at this; cases this; rfl⟩,r⟩
 | oK ds=>obtain ⟨p,xs,e,f,r⟩:=h; exact ⟨p,xs,e,⟨f,by have:=hv rfl; rw [e] at this; cases this; rfl⟩,r⟩
 | _=>exact h
theorem vM (hb:s.adr=some b) (h:aX K fr H Hf s (.ref p)):p=b:=by
 cases s with
 | aw a ds=>cases hb; obtain ⟨q,xs,e,f,r⟩:=h; cases e; exact f.2
 | aT a ds=>cases hb; obtain ⟨q,xs,e,f,r⟩:=h; cases e; exact f.2
 | aK a ds=>cases hb; obtain ⟨q,xs,e,f,r⟩:=h; cases e; exact f.2
 | _=>cases hb
theorem cZ.apart (S:cZ K H₀ dN σ H Hf ρ) (h0:H₀ a=none) (hf:Hf a=none) (nf:¬ zR H a) (ha:∀ (i:Nat) (r:Sl),ρ[i]?=some r→r.owned=true→σ[i]?≠some (some (.ref a))):cZ K H₀ dN σ (L2.upd H a o) Hf ρ :=
 ⟨⟨fun b u e=>by rw [L2.ak (az e h0)]; exact S.bas.s b u e,S.bas.f,fun b u e=>by rw [L2.ak (az e hf)]; exact S.bas.b b u e,S.bas.n⟩,S.len,fun i r hi hu=>by
   obtain ⟨v,e,q⟩:=S.at_ i r hi hu
   refine ⟨v,e,?_⟩
   have hg:bq (del H a) Hf (L2.upd H a o) Hf:=gP S.bas.b hf
   exact (q.Lf (p:=a) nf fun ow z=>by subst z; exact ha i r hi ow e).cB hg,S.sep⟩
theorem oW (g:bq H1 aN H' aj) (h1:H1 a=none) (hf:aj a=none):bq H1 aN (upd H' a o) aj :=
 ⟨fun b u e=>by rw [ak (az e h1)]; exact g.s b u e,g.f,fun b u e=>by rw [ak (az e hf)]; exact g.b b u e,g.n⟩
theorem Ek {elt tg iter:Expr} {ifs:List Expr} {scope:Scope} {N':List Str} {ρ0:(Str→Addr)→List Sl} {R:Sl→Prop} (hq:c.X.xe=kE) (hfr:∀ t,AE t scope.names N ρ N' (ρ0 t))
 (h:HU c tg iter ρ fun ds=>Sd (ds.length≤sizeLine) (∃ os:List (Option D),os.length=ds.length ∧
   (∀ c':Ctx P w K mg base k N' (bX scope sc) true,c'.X.xe=kE→∀ (t:Str→Addr) (i:Nat) (d:D) (o:Option D),ds[i]?=some d→os[i]?=some o→AF c' tg ifs elt (ρ0 t) d o)∧R (.ow (os.filterMap id))))
 (hk:scope.kind=.function:=by walk_at "u") (hnc:∀ x∈scope.names,x.2≠.cell:=by decide +kernel) (hnl:∀ x∈scope.names,x.2=.local→scope.names.lookup x.1=some .local:=by decide +kernel)
 (hfree:∀ x∈scope.names,x.2=.free→sc.names.lookup x.1=some .cell:=by decide +kernel) (hnd:N'.Nodup:=by decide +kernel) (hv:∀ x∈N',Loc (bX scope sc) x:=by unfold L2.Loc; decide +kernel)
 (hvf:∀ x∈scope.names,x.2=.free→(bX scope sc).names.lookup x.1=some .cell:=by decide +kernel)
 (hs:∀ env v,foldedSetIterable iter env v=pure v:=by intro _ _; walk_at "u")
 {σ:L2.St} {H Hf:Hp} (S:bw c σ H Hf ρ) {aa:List (Addr×Obj)} {s:Shared} (I:Inv c.X aa σ H s) {use:Option (Value→Sem Unit)} {QQ:Value→Shared→Prop}
 (kont:∀ (s':Shared) (H' aj:Hp) (a C:Addr) (r:Sl),R r→(∃ m,s'.heap.Ns C m)→C∉c.X.fs→fY c.X aa H' C→aX c.X.K (fun p=>H p=none) H' aj r (.ref a)→bq H Hf H' aj→(∀ h5,PV C s'.heap h5→Inv c.X aa σ H' { s' with heap:=h5 })→compPost (model c.X.prog c.X.w) c.X.A kE use QQ (.ref a) C (.ok .next) s') :
 wpAny (model c.X.prog c.X.w) c.X.A (comprehension (.ListComp elt [⟨tg,iter,ifs,0⟩] scope pos) scope c.X.env (firstIterPos [⟨tg,iter,ifs,0⟩] pos) (newList []) (firstAsync [⟨tg,iter,ifs,0⟩]) (firstIter [⟨tg,iter,ifs,0⟩] c.X.env) use) QQ kE s:=by
 have hI:=h σ H Hf (fun J H1=>∃ ds aN,Sd (ds.length≤sizeLine) (∃ os:List (Option D),os.length=ds.length ∧
  (∀ c':Ctx P w K mg base k N' (bX scope sc) true,c'.X.xe=kE→∀ (t:Str→Addr) (i:Nat) (d:D) (o:Option D),ds[i]?=some d→os[i]?=some o→AF c' tg ifs elt (ρ0 t) d o)∧R (.ow (os.filterMap id)))∧bq H Hf H1 aN∧jA c.X.K J ds aN) S (fun ds J H' aj hR g io=>⟨ds,aj,hR,g,io⟩) aa s I
 rw [hq] at hI
 have hcells:∀ x∈scope.names,x.2=.free→∃ a,c.X.env.cells.lookup x.1=some a:=fun x hx hf=>I.ok.has x.1 (.inl (by unfold OQ; rw [c.esc]; exact hfree x hx hf))
 obtain ⟨cl,hclos,y9,hcl2⟩:=Ei hcells
 refine wpAny_comprehension_free (cl:=cl) (use:=use) rfl (hs _) hclos hk hnl ?_
 refine bC (show wpAny _ _ (eval iter c.X.env) _ _ _ from hI) fun v s1 h1=>bC h1 fun itv s2 hh=>z5 hh fun it fp tn J H1 hh=>w6 hh fun e0 I1 Tn t0 hfp hh=>z2 hh fun ds aN hh=>w3 hh fun hz g io=>?_
 obtain ⟨hz,os,hh⟩:=hz
 refine w3 hh fun hol hb hR=>?_
 subst e0
 have hcell':∀ y∈scope.names,y.2≠.cell:=hnc
 refine O4 (wpAny_newFunctionEnv hcell' (by intro y hy; simp at hy) (fun h4 hns hsb=>?_) hk)
 dsimp only at hns hsb ⊢
 generalize hDe:s2.heap.objs.size=Da at *
 have k3:∀ b u,s2.heap.get? b=some u→(s2.heap.push { cls:=.type "list",dict:=none,data:=.seq ([]:List Value).toArray }).get? b=some u:=fun b u e=>N7 _ e
 generalize hH3:s2.heap.push { cls:=.type "list",dict:=none,data:=.seq ([]:List Value).toArray }=h3 at *
 have hCe:h3.objs.size=Da+1:=by rw [← hH3,Qj,hDe]
 have hgD:h3.get? Da=some { cls:=.type "list",dict:=none,data:=.seq ([]:List Value).toArray }:=by rw [← hH3,← hDe]; exact Oj _ rfl
 have u6:H1 Da=none:=by rw [← hDe]; exact I1.hok.fresh (N2 _)
 have I3:Inv c.X aa σ (upd H1 Da (.lst [])) { s2 with heap:=h3,toks:=s2.toks }:=I1.laid (a:=Da) (o:=.lst []) (t':=s2.toks) k3 (by rw [hDe]; exact N2 _) ⟨OH _,[],0,.nil,hgD⟩
 have fpne:∀ b∈fp,b≠Da:=fun b hb z=>by
  obtain ⟨o,e,_⟩:=Tn.obj _ _ t0 b hb
  subst z
  exact absurd (N9 e) (by rw [hDe]; exact PB _)
 have fplt:∀ b∈fp,b<h3.objs.size:=fun b hb=>by
  obtain ⟨o,e,_⟩:=Tn.obj _ _ t0 b hb
  exact N9 (k3 b o e)
 let s3:Shared:={ s2 with heap:=h3,toks:=s2.toks }
 let H2:Hp:=upd H1 Da (.lst [])
 let X':Cx:={ prog:=c.X.prog,w:=c.X.w,K:=c.X.K,mg:=c.X.mg,base:=c.X.base,A:=c.X.A,N:=N',s₀:=s3,H₀:=H2,env:=compEnvC scope cl h3.objs.size c.X.env,outer:=c.X.stack,stack:=c.X.stack,ex:=fp,fn:=fun _=>false,calm:=true,pn:=[],xe:=kE }
 have S1:=S.cB g
 have S2:bw c σ H2 aN ρ:=S1.cB (bq.gi g.b u6)
 obtain ⟨t,ht⟩:∃ t:Str→Addr,∀ (i:Nat) (y:Str) (p:Addr),N[i]?=some y→σ[i]?=some (some (.ref p))→t y=p:=by
  classical
  refine ⟨fun y=>if h:∃ (i:Nat) (p:Addr),N[i]?=some y∧σ[i]?=some (some (.ref p)) then h.choose_spec.choose else 0,fun i y p e1 e2=>?_⟩
  have h:∃ (i:Nat) (p:Addr),N[i]?=some y∧σ[i]?=some (some (.ref p)):=⟨i,p,e1,e2⟩
  show (if h:_ then _ else _)=p
  rw [dif_pos h]
  obtain ⟨e3,e4⟩:=h.choose_spec.choose_spec
  have hi:h.choose<N.length:=(Ob.mp e3).1
  have e5:h.choose=i:=(List.getElem?_inj hi c.nd).mp (e3.trans e1.symm)
  have e6:=(congrArg (fun z=>σ[z]?) e5).symm.trans e4
  rw [show σ[i]?=some (some (.ref p)) from e2] at e6
  have e4:=e6
  exact (V.ref.inj (Py (Py e4))).symm
 have hfr:=hfr t
 generalize hρ:ρ0 t=ρt at hfr
 obtain ⟨σ0,hσl,hσ0⟩:=hfr.start (σ:=σ) fun i s e hu=>let ⟨v,e2,_⟩:=S2.at_ i s e hu; ⟨v,e2⟩
 have k4:∀ b u,h3.get? b=some u→h4.get? b=some u:=fun b u e=>hsb.extBut b u (OB (N9 e)) (N7 _ e)
 have hsc:X'.env.scope=bX scope sc:=qK c.esc
 have okX:X'.Ok:={
  mod:=I3.ok.mod
  kind:=hk
  glob:=I3.ok.glob
  blt:=I3.ok.blt
  above:=N2 _
  inj:=fun x y a e1 e2=>I3.ok.inj x y a (y9 x a e1).1 (y9 y a e2).1
  has:=fun x hx=>by
   have key:(x,P8)∈scope.names:=by
    have hx':(bX scope sc).names.lookup x=some .cell∨(bX scope sc).names.lookup x=some .free:=by
     unfold OQ at hx; rw [hsc] at hx; exact hx
    rcases hx' with hx' | hx'
    ·obtain ⟨k0,h1,h2⟩:=i9 hx'
     rcases h2 with h2 | ⟨_,h2⟩
     ·subst h2; exact absurd rfl (hnc _ h1)
     ·subst h2; exact h1
    ·obtain ⟨k0,h1,h2⟩:=i9 hx'
     rcases h2 with h2 | ⟨h2,_⟩
     ·subst h2; exact h1
     ·cases h2
   obtain ⟨a,ea⟩:=hcells _ key rfl
   exact ⟨a,hcl2 x a key ea⟩
  cab:=fun x a hf=>by cases hf
  hd:=fun _=>I3.ok.hd c.calm
  frames:=I3.ok.frames
  stk:=.inl rfl
  exf:=fun b hb=>⟨OB (fplt b hb),fun x a ea=>(hfp b hb).2.2.2.2.1 x a (y9 x a ea).1⟩
  bs:=I3.bs
  bsz:=N8 I3.ok.bsz I3.sz
  noex:=fun b o e hb=>by
   rcases (hfp b hb).2.2.2.1 with z | z
   ·exact I3.ok.noex b o e z
   ·exact absurd (OU (N9 e) (N8 I3.ok.bsz z)) (PB _)
  exfs:=fun b hb m=>by
   rcases Oh.mp (I3.sZ b m) with z | z
   ·exact (hfp b hb).2.1 z
   ·exact (hfp b hb).2.2.1 z
  ju:=I3.stack
  frf:=I3.u7 }
 have I4:Inv X' [] σ0 H2 { s2 with heap:=h4,toks:=s2.toks+([]:List (Str×Value)).length }:={
  ok:=okX
  os:=rfl
  bare:=I3.bare
  base:=Un.kept k4
  loc:=⟨_,hns,fun j y v hy hv' _=>by
   have hj:j<ρt.length:=by
    have:=(Ob.mp hv').1
    rw [hσl] at this; exact this
   rcases hσ0 j ρt[j] (Ot hj) with ⟨_,z⟩ | hh
   ·rw [z] at hv'; cases hv'
   ·refine z4 hh fun i y' v' s0 hh=>w8 hh fun h1 h2 h3' h4' hs5 hs6 h5 h6=>?_
    rw [h6] at hv'; cases hv'
    have hy':N'[j]?=some y:=hy
    rw [h1] at hy'; cases hy'
    obtain ⟨m0,hm0,hl⟩:=I3.loc
    have hkc:c.X.env.kindOf y=some .cell:=by unfold OQ; rw [c.esc]; exact hfree _ h2 rfl
    obtain ⟨u,r,lk⟩:=hl i y v (by rw [c.eN]; exact h3') h5 (.inr (.inl hkc))
    refine ⟨u,r,?_⟩
    rcases lk with ⟨q1,_⟩ | ⟨_,a,e1,e2⟩
    ·rw [hkc] at q1; cases q1
    ·refine .inr ⟨.inl ?_,a,hcl2 _ a h2 e1,?_⟩
     ·show List.lookup y X'.env.scope.names=_
      rw [hsc]; exact hvf _ h2 rfl
     ·obtain ⟨oc,e3,e4⟩:=e2
      exact ⟨oc,k4 _ _ e3,e4⟩⟩
  cell:=fun x a ea=>by
   obtain ⟨v',oc,e3,e4⟩:=I3.cell x a (y9 x a ea).1
   exact ⟨v',oc,k4 _ _ e3,e4⟩
  free:=I3.hok.fresh (N2 _)
  freeC:=fun x a ea=>I3.freeC x a (y9 x a ea).1
  pin:=fun q hq'=>by simp at hq'; cases hq'
  hok:=I3.hok.kept k4
  len:=by rw [hσl]; exact hfr.len.symm }
 let c':Ctx P w K mg base k N' (bX scope sc) true :=
  { X:=X',eP:=c.eP,ew:=c.ew,eK:=c.eK,emg:=c.emg,eb:=c.eb,eN:=rfl,esc:=hsc,calm:=rfl,top:=fun z=>(by cases z),cb:=fun z=>(by cases z),fn:=fun x hx=>.inr (by rw [hsc]; exact hx.resolve_left (fun z=>by cases z)),room:=c.room,nd:=hnd,vis:=hv,
    Hf:=c.Hf,B:=c.B,RX:=fun _ _=>False,exc:=fun _ _ _ _ _ _ _ _ _ _ _ _ h _ _=>h.elim,RM:=fun _ _=>False,mde:=fun _ _ _ _ _ _ _ _ _ _ _ _ h _=>h.elim }
 have hN0:N'.length=ρt.length:=hfr.len
 have S4:bw c' σ0 H2 aN ρt:=by
  refine ⟨S2.bas,hσl,fun j r hj hu=>?_,fun j j' r r' p hne e1 e2 o1 o2 f1 f2=>?_⟩
  ·rcases hσ0 j r hj with ⟨z,_⟩ | hh
   ·exact absurd z hu
   ·refine z4 hh fun i y v s0 hh=>w8 hh fun h1 h2 h3' h4' hs5 hs6 h5 h6=>?_
    obtain ⟨v',e3,q3⟩:=S2.at_ i s0 h4' hs6
    rw [h5] at e3; cases e3
    subst hs5
    exact ⟨v,h6,vL (fun ow=>by
     obtain ⟨p,_,rfl,_⟩:=q3.qG ow
     rw [ht i y p h3' h5]) q3⟩
  ·have u1:r≠.un:=by rintro rfl; cases o1
   have u2:r'≠.un:=by rintro rfl; cases o2
   rcases hσ0 j r e1 with ⟨z,_⟩ | hh
   ·exact u1 z
   rcases hσ0 j' r' e2 with ⟨z,_⟩ | hh'
   ·exact u2 z
   refine z4 hh fun i y v s0 hh=>w8 hh fun h1 h2 h3' h4' hs5 hs6 h5 h6=>z4 hh' fun i' y' v' s0' hh'=>w8 hh' fun h1' h2' h3'' h4'' hs5' hs6' h5' h6'=>?_
   rw [f1] at h6; cases h6
   rw [f2] at h6'; cases h6'
   have hii:i≠i':=fun z=>by
    subst z
    rw [h3'] at h3''; cases h3''
    have a1:j<N'.length:=(Ob.mp h1).1
    exact hne ((List.getElem?_inj a1 hnd).mp (h1.trans h1'.symm))
   subst hs5; subst hs5'
   rw [nK] at o1 o2
   exact S2.sep i i' s0 s0' p hii h4' h4'' o1 o2 h5 h5'
 have howA:∀ (j:Nat) (r:Sl),ρt[j]?=some r→r.owned=true→∃ b,r.adr=some b∧b≠Da:=fun j r hj ho=>by
  rcases hσ0 j r hj with ⟨z,_⟩ | hh
  ·subst z; cases ho
  ·refine z4 hh fun i y v s0 hh=>w8 hh fun h1 h2 h3' h4' hs5 hs6 h5 h6=>?_
   subst hs5
   rw [nK] at ho
   obtain ⟨b,eb⟩:=Ej (a:=t y) ho
   refine ⟨b,eb,fun z=>?_⟩
   obtain ⟨v',e3,q3⟩:=S1.at_ i s0 h4' hs6
   obtain ⟨p,o,e4,_,e5,_⟩:=q3.qG ho
   subst e4
   have q4:=vL (a:=t y) (fun _=>by rw [ht i y p h3' e3]) q3
   have:=vM eb q4
   rw [this,z,u6] at e5; cases e5
 have hB0:c.B Da=none:=S1.bas.s.free u6
 have fps:∀ {H':Hp},(∀ b∈fp,H' b=none)→∀ b∈fp,fY X' [] H' b:=fun hn b hb =>
  ⟨hn b hb,OB (fplt b hb),okX.exfs b hb,.inl hb,fun x a ea=>(hfp b hb).2.2.2.2.1 x a (y9 x a ea).1,fun p hp=>by cases hp⟩
 have fin:∀ (s':Shared) (σ':L2.St) (H' aj:Hp) (vs:List V),Inv X' [] σ' H' s'→bq H1 aN H' aj→H' Da=some (.lst vs)→aj Da=none→aq c.X.K aj (os.filterMap id) vs →
  compPost (model c.X.prog c.X.w) c.X.A kE use QQ (.ref Da) h3.objs.size (.ok .next) s':=fun s' σ' H' aj vs I' g' hD hfD hr=>by
  obtain ⟨m,hm,_⟩:=I'.loc
  have hCX:h3.objs.size∉c.X.fs:=I3.J9 (N2 _)
  have hCf:fY c.X aa H' h3.objs.size:=by
   refine ⟨I'.free,fun z=>?_,hCX,.inr I3.sz,fun x a ea z=>?_,fun p hp z=>?_⟩
   ·obtain ⟨m0,hm0,_⟩:=I3.loc
    obtain ⟨o,_,_,e,_⟩:=hm0
    exact absurd (N9 e) (by rw [← z]; exact PB _)
   ·obtain ⟨v',oc,e,_⟩:=I3.cell x a ea
    exact absurd (N9 e) (by rw [z]; exact PB _)
   ·exact absurd (N9 (I3.pin p hp).1) (by rw [z]; exact PB _)
  refine kont s' H' aj Da h3.objs.size (.ow (os.filterMap id)) hR ⟨m,hm⟩ hCX hCf ⟨Da,vs,rfl,g.s.free u6,hD,hfD,hr⟩ (g.trans g') fun h5 za=>?_
  have ub:Un (frs c.X.stack) fp H2 H' s3.heap h5:=by
   have u:=I'.base
   have ne:∀ b o,s3.heap.get? b=some o→b≠h3.objs.size:=fun b o e=>OB (N9 e)
   refine ⟨fun b o e n hf hx=>(za.2 b (ne b o e)).trans (u.keep b o e n hf hx),fun b o e n hf hx=>?_,u.free,fun b o e hx=>?_,u.tups,u.frzs,u.tbls⟩
   ·obtain ⟨sl,e2⟩:=u.slot b o e n hf hx
    exact ⟨sl,(za.2 b (ne b o e)).trans e2⟩
   ·obtain ⟨o',e2⟩:=u.there b o e hx
    exact ⟨o',(za.2 b (ne b o e)).trans e2⟩
  have hokf:jq c.X.prog c.X.w H' h5:=fun b u e=>(I'.hok b u e).stay (fun a o ha e2=>by
   refine (za.2 a ?_).trans e2
   intro z; subst z
   have hfree':H' h3.objs.size=none:=I'.free
   rcases ha with z | z
   ·subst z; rw [hfree'] at e; cases e
   ·rw [hfree'] at z; cases z) (fun _ z=>z) fun _ _ z=>z
  exact I3.Ka (ch:=fp) I'.os ub hokf I'.bare fun b hb=>⟨(hfp b hb).2.2.2.1,(hfp b hb).2.1,(hfp b hb).2.2.2.2.1,(hfp b hb).2.2.2.2.2⟩
 have loop:codeAny (model c.X.prog c.X.w) c.X.A (.compLoop (.ListComp elt [⟨tg,iter,ifs,0⟩] scope pos) 0 (.ref it) (.ref Da) X'.env) (compPost (model c.X.prog c.X.w) c.X.A kE use QQ (.ref Da) h3.objs.size) { s2 with heap:=h4,toks:=s2.toks+([]:List (Str×Value)).length }:=by
  refine oV (fun n s'=>∃ (i:Nat) (σ':L2.St) (H' aj:Hp) (vs:List V),n=ds.length - i∧i≤ds.length∧Inv X' [] σ' H' s'∧tn i s'.heap∧bw c' σ' H' aj ρt∧bq H1 aN H' aj∧H' Da=some (.lst vs)∧aj Da=none∧aq c.X.K aj ((os.take i).filterMap id) vs∧vs.length≤i∧∀ b∈fp,H' b=none) ?_ ds.length
   ⟨0,σ0,H2,aN,[],by simp,OH _,I4,Tn.keep _ _ _ t0 fun b hb o e=>k4 b o (k3 b o e),S4,bq.gi g.b u6,ai,g.b.free u6,by simpa using ay.mpr rfl,N2 _,fun b hb=>by show upd H1 Da _ b=none; rw [ak (fpne b hb)]; exact (hfp b hb).1⟩
  refine fun n s5 hh=>z5 hh fun i σ5 H5 Hf5 vs hh=>w6 hh fun en hi I5 t5 S5 hh=>w6 hh fun g5 hD5 hfD5 hr5 hlv fr5=>?_
  subst en
  by_cases hlt:i<ds.length
  ·have ed:ds[i]?=some ds[i]:=Ot hlt
   have eo:os[i]?=some (os[i]'(by rw [hol]; exact hlt)):=Ot _
   generalize ds[i]=d at ed
   generalize os[i]'(by rw [hol]; exact hlt)=o at eo
   obtain ⟨hgo,hy⟩:=io.go i d H5 Hf5 g5.f g5.b ed
   refine bC (Tn.item X' rfl rfl rfl rfl i [] s5 σ5 H5 kE I5 (fps fr5) t5 hgo) fun r s6 hh=>hh.elim fun u hh=>w2 hh fun hr h6=>?_
   subst hr
   refine bC h6 fun _ s7 hh=>z2 hh fun x H7 hh=>w5 hh fun I7 rx y7 t7 fr7=>?_
   obtain ⟨Hf7,g7,rx7⟩:=hy x H7 y7
   have I7':=I7.pinned (fps fr7) (Tn.obj _ _ t7)
   have S7:bw c' σ5 H7 Hf7 ρt:=S5.cB g7
   have hasg0:=hb c' rfl t i d o ed eo
   rw [hρ] at hasg0
   have hasg:=hasg0 σ5 H7 Hf7 x (fun σ2 H2'=>∃ cJ ρ1,bw c' σ2 H2' cJ ρ1∧bq H7 Hf7 H2' cJ∧Eh ρt ρ1∧sX c' ifs ρ1 (nI (aF c' elt ρ1 fun e=>o=some e) (o=none))) S7 rx7 (fun σ2 H2' cJ ρ1 S' g' hw=>⟨cJ,ρ1,S',g',hw⟩) _ s7 u I7' rx
   refine bC (show wpAny _ _ _ _ kE _ from hasg) fun _ s8 hh=>z2 hh fun σ8 H8 hh=>w2 hh fun I8 hh=>z2 hh fun Hf8 ρ8 hh=>w4 hh fun S8 g8 w8 hC8=>?_
   refine bC (nJ (c:=c') rfl ifs S8 hC8 (Q:=fun b H'=>∃ aj,nI (aF c' elt ρ8 fun e=>o=some e) (o=none) b∧bq H8 Hf8 H' aj) (fun b H' aj hb' g'=>⟨aj,hb',g'⟩) I8) fun b s9 hh=>hh.elim fun H9 hh=>w2 hh fun I9 hh=>hh.elim fun Hf9 hh=>w2 hh fun hb9 g9=>?_
   have g79:=(g7.trans g8).trans g9
   have hD9:H9 Da=some (.lst vs):=g79.s _ _ hD5
   have hfD9:Hf9 Da=none:=g79.n Da hfD5 (by rw [hD5]; simp) (by intro ys; rw [hD5]; simp)
   have keepT:∀ {σ':L2.St} {H':Hp} {s':Shared},Inv X' ([]++kR fp s7.heap) σ' H' s'→tn (i+1) s'.heap∧∀ b∈fp,H' b=none:=fun {σ' H' s'} I' =>
    ⟨Tn.keep _ _ _ t7 fun b hb' ob e=>(I'.pin (b,ob) (Pf _ (Pf _ (fu hb' e)))).1,fun b hb'=>by
      obtain ⟨ob,e,_⟩:=Tn.obj _ _ t7 b hb'
      exact (I'.pin (b,ob) (Pf _ (Pf _ (fu hb' e)))).2.1⟩
   have wk:∀ {σ':L2.St} {H' aj:Hp},bw c' σ' H' aj ρ8→bw c' σ' H' aj ρt:=fun S'=>cZ.weak S' w8.weak.1 w8.weak.2
   have tk:(os.take (i+1)).filterMap id=(os.take i).filterMap id++o.toList:=by
    rw [T7,eo,List.filterMap_append]
    cases o <;> rfl
   cases b with
   | false =>
    have eo':=hb9.f rfl
    subst eo'
    rw [if_neg Oc]
    obtain ⟨t9,fr9⟩:=keepT I9
    exact ⟨_,Nat.sub_lt_sub_left hlt (QC i),i+1,σ8,H9,Hf9,vs,rfl,hlt,I9.fZ,t9,wk (S8.cB g9),g5.trans g79,hD9,hfD9,by rw [tk]; simpa using hr5.mono g79.f,Nat.le_succ_of_le hlv,fr9⟩
   | true =>
    rw [if_pos rfl]
    have hev:=hb9.t rfl σ8 H9 Hf9 (fun v H'=>∃ aj e,o=some e∧Rep c.X.K aj e v∧bq H9 Hf9 H' aj) (S8.cB g9) (fun e v H' aj he r g'=>⟨aj,e,he,r,g'⟩) _ s9 I9
    refine bC (show wpAny _ _ _ _ kE _ from hev) fun u2 s10 hh=>z2 hh fun v2 H10 hh=>w3 hh fun I10 r10 hh=>z2 hh fun Hf10 e hh=>w3 hh fun eo' re g10=>?_
    subst eo'
    have hD10:H10 Da=some (.lst vs):=g10.s _ _ hD9
    have hfD10:Hf10 Da=none:=g10.n Da hfD9 (by rw [hD9]; simp) (by intro ys; rw [hD9]; simp)
    have app:=nk (X:=X') _ s10 σ8 H10 (.ref Da) [v2] (.ref Da) [u2] (fun _ H'=>H'=upd H10 Da (.lst (vs++[v2]))) I10 rfl (.cons r10 .nil) ⟨Da,vs,v2,rfl,rfl,hD10,OU (P4 hlv hlt) hz,rfl⟩
    refine bC (show wpAny _ _ _ _ kE _ from app) fun _ s11 ⟨_,H11,I11,_,e11⟩=>?_
    subst e11
    obtain ⟨t11,fr11⟩:=keepT I11
    have S10:bw c' σ8 H10 Hf10 ρ8:=(S8.cB g9).cB g10
    have gA:bq H1 aN (upd H10 Da (.lst (vs++[v2]))) Hf10:=oW ((g5.trans g79).trans g10) u6 hfD10
    refine ⟨_,Nat.sub_lt_sub_left hlt (QC i),i+1,σ8,_,Hf10,vs++[v2],rfl,hlt,I11.fZ,t11,?_,gA,ai,hfD10,?_,by rw [OL]; exact Sx hlv,fr11⟩
    ·refine (wk S10).apart hB0 hfD10 (fun ⟨_,z⟩=>by rw [hD10] at z; cases z) fun j r hj ho=>fun z=>?_
     obtain ⟨b,eb,nb⟩:=howA j r hj ho
     obtain ⟨v',e3,q3⟩:=(wk S10).at_ j r hj (by rintro rfl; cases ho)
     rw [z] at e3; cases e3
     exact nb (vM eb q3).symm
    ·rw [tk]
     exact (hr5.mono (g79.f.trans g10.f)).append (by simpa using aq.one re)
  ·have e:i=ds.length:=Nat.le_antisymm hi (Nat.le_of_not_lt hlt)
   subst e
   refine bC (Tn.done X' rfl rfl rfl rfl ds.length [] s5 σ5 H5 kE I5 (fps fr5) t5 (io.stop _ H5 Hf5 g5.f g5.b (N2 _))) fun r s6 ⟨hr,I6⟩=>?_
   subst hr
   refine fin s6 σ5 H5 Hf5 vs I6 g5 hD5 hfD5 ?_
   rw [Rj (by rw [hol]; exact N2 _)] at hr5
   exact hr5
 exact codeAny_compStart_list loop (Tn.self _ 0 _ _ _ (Tn.keep _ _ _ t0 fun b hb o e=>k4 b o (k3 b o e)) loop)
theorem dW {elt tg iter:Expr} {ifs:List Expr} {scope:Scope} {N':List Str} {ρ0:(Str→Addr)→List Sl} {R:Sl→Prop} (hq:c.X.xe=kE) (hfr:∀ t,AE t scope.names N ρ N' (ρ0 t))
 (h:HU c tg iter ρ fun ds=>Sd (ds.length≤sizeLine) (∃ os:List (Option D),os.length=ds.length ∧
   (∀ c':Ctx P w K mg base k N' (bX scope sc) true,c'.X.xe=kE→∀ (t:Str→Addr) (i:Nat) (d:D) (o:Option D),ds[i]?=some d→os[i]?=some o→AF c' tg ifs elt (ρ0 t) d o)∧R (.ow (os.filterMap id))))
 (hk:scope.kind=.function:=by walk_at "u") (hnc:∀ x∈scope.names,x.2≠.cell:=by decide +kernel) (hnl:∀ x∈scope.names,x.2=.local→scope.names.lookup x.1=some .local:=by decide +kernel)
 (hfree:∀ x∈scope.names,x.2=.free→sc.names.lookup x.1=some .cell:=by decide +kernel) (hnd:N'.Nodup:=by decide +kernel) (hv:∀ x∈N',Loc (bX scope sc) x:=by unfold L2.Loc; decide +kernel)
 (hvf:∀ x∈scope.names,x.2=.free→(bX scope sc).names.lookup x.1=some .cell:=by decide +kernel)
 (hs:∀ env v,foldedSetIterable iter env v=pure v:=by intro _ _; walk_at "u"):dz c (.ListComp elt [⟨tg,iter,ifs,0⟩] scope pos) ρ R:=fun σ H Hf Q S q aa s I=>by
 rw [hq]
 rw [show (eval (.ListComp elt [⟨tg,iter,ifs,0⟩] scope pos) c.X.env)=comprehension (.ListComp elt [⟨tg,iter,ifs,0⟩] scope pos) scope c.X.env (firstIterPos [⟨tg,iter,ifs,0⟩] pos) (newList []) (firstAsync [⟨tg,iter,ifs,0⟩]) (firstIter [⟨tg,iter,ifs,0⟩] c.X.env) from rfl]
 exact Ek hq hfr h hk hnc hnl hfree hnd hv hvf hs S I fun s' H' aj a C r hr ⟨m,hm⟩ _ _ hrep g hJ=>⟨m,hm,fun h5 za=>⟨.ref a,H',hJ h5 za,rfl,q r _ H' aj hr hrep g⟩⟩
end
mutual
def D.nl:D→Prop
 | .lst _=>False
 | .fdK _ _=>False
 | .fdT _ _=>False
 | .tup ds=>D.p6 ds
 | _=>True
def D.p6:List D→Prop
 | []=>True
 | d::ds=>d.nl∧D.p6 ds
end
theorem vN:∀ {ds:List D},D.p6 ds↔∀ d∈ds,d.nl
 | []=>by simp [D.p6]
 | d::ds=>by simp [D.p6,vN (ds:=ds)]
theorem dO {α:Type} {f:α→D} {l:List α} (h:∀ x∈l,(f x).nl):D.p6 (l.map f):=vN.mpr fun d hd=>by
 obtain ⟨x,hx,rfl⟩:=OF.mp hd
 exact h x hx
theorem lD:(D.int i).nl:=by simp [D.nl]
theorem El (l:List Int):D.p6 (l.map D.int):=dO fun x _=>lD
theorem tU (h:D.p6 ds):(D.tup ds).nl:=by simpa [D.nl] using h
noncomputable def HO.mt:HO→Prop | .lst _=>True | .dK _=>True | .dT _=>True | _=>False
theorem xU {K:NZ} (hp:Hf p=some o) (hm:HO.mt o) (h:cY K Hf a xs):cY K (del Hf p) a xs:=by
 rcases h with (h | ⟨o',h⟩) | h
 ·exact .inl (.inl (by rw [cz (by rintro rfl; rw [hp] at h; cases h; exact hm)]; exact h))
 ·exact .inl (.inr ⟨o',by rw [cz (by rintro rfl; rw [hp] at h; cases h; exact hm)]; exact h⟩)
 ·exact .inr h
mutual
theorem tV {K:NZ} {Hf:Hp} {p:Addr} {o:HO} (hp:Hf p=some o) (hm:HO.mt o):∀ (d:D) {v:V},d.nl→Rep K Hf d v→Rep K (del Hf p) d v
 | .non,_,_,h=>by simpa [Rep] using h
 | .bl _,_,_,h=>by simpa [Rep] using h
 | .int _,_,_,h=>by simpa [Rep] using h
 | .str _,_,_,h=>by simpa [Rep] using h
 | .adr _,_,_,h=>by simpa [Rep] using h
 | .tup ds,v,f,h=>by
  simp only [Rep] at h ⊢
  obtain ⟨a,xs,e,h1,h2⟩:=h
  exact ⟨a,xs,e,xU hp hm h1,oX hp hm ds (by simpa [D.nl] using f) h2⟩
 | .lst _,_,f,_=>by simp [D.nl] at f
 | .fdK _ _,_,f,_=>by simp [D.nl] at f
 | .fdT _ _,_,f,_=>by simp [D.nl] at f
 | .exc C,_,_,h=>by
  simp only [Rep] at h ⊢
  obtain ⟨a,e,h⟩:=h
  exact ⟨a,e,by rw [cz (by rintro rfl; rw [hp] at h; cases h; exact hm)]; exact h⟩
theorem oX {K:NZ} {Hf:Hp} {p:Addr} {o:HO} (hp:Hf p=some o) (hm:HO.mt o):∀ (ds:List D) {xs:List V},D.p6 ds→aq K Hf ds xs→aq K (del Hf p) ds xs
 | [],_,_,h=>by simpa [aq] using h
 | d::ds,xs,f,h=>by
  simp only [aq] at h ⊢
  simp only [D.p6] at f
  obtain ⟨x,r,e,h1,h2⟩:=h
  exact ⟨x,r,e,tV hp hm d f.1 h1,oX hp hm ds f.2 h2⟩
end
noncomputable def Sl.nl:Sl→Prop
 | .va d=>d.nl
 | .ow ds=>D.p6 ds
 | _=>False
theorem aX.Ng {K:NZ} {H H' aj:Hp} (hp:aj p=some oz) (hm:HO.mt oz) (h0:H p=some o) (f:r.nl) (h:aX K (fun p=>H p=none) H' aj r v):aX K (fun p=>H p=none) H' (del aj p) r v:=by
 cases r with
 | va d=>exact tV hp hm d f h
 | ow ds =>
  obtain ⟨q,xs,rfl,fq,h1,h2,h3⟩:=h
  refine ⟨q,xs,rfl,fq,h1,?_,oX hp hm ds f h3⟩
  rw [cz (by rintro rfl; rw [h0] at fq; cases fq)]; exact h2
 | _=>exact f.elim
section
variable {P:Program} {w:World} {K:NZ} {mg:Str→Option Value} {base:Heap} {k:Nat} {N:List Str} {sc:Scope} {bk:Bool} {c:Ctx P w K mg base k N sc bk} {ρ ρ':List Sl} {pos ap cp px tp:Pos} {a b e f:Expr} {es:List Expr} {R:D→Prop} {T:Bool→Prop} {nx:List Sl→Prop} {p:Pt} {x:Str} {i:Nat} {r:Sl} {ds:List D}
noncomputable def Sl.mQ:Sl→Option D
 | .ow ds=>some (.lst ds) | .aw _ ds=>some (.lst ds)
 | _=>none
theorem lE (h:r.mQ=some d):r.owned=true:=by cases r <;> first | rfl | cases h
theorem ja {κ:Type} {Hf:Hp} {kvs:List (κ×D)} {xs:List (κ×V)} (h:mF K Hf kvs xs):xs.map (·.1)=kvs.map (·.1)∧aq K Hf (kvs.map (·.2)) (xs.map (·.2)):=by
 unfold mF at h
 induction h with
 | nil=>exact ⟨rfl,ay.mpr rfl⟩
 | cons h t ih=>exact ⟨by rw [N5,N5,ih.1,h.1],.cons h.2 ih.2⟩
theorem eY (h:k6 K Hf kvs xs):xs.map (·.1)=kvs.map (·.1)∧(∀ y∈xs,cY K Hf y.2.1 (y.1.map kV))∧aq K Hf (kvs.map (·.2)) (xs.map (·.2.2)):=by
 refine ⟨?_,h.AD,?_⟩
 ·unfold k6 at h
  induction h with
  | nil=>rfl
  | cons h t ih=>rw [N5,N5,ih,h.1]
 ·unfold k6 at h
  induction h with
  | nil=>exact ay.mpr rfl
  | cons h t ih=>exact .cons h.2.2 ih
theorem aX.mQ (h:r.mQ=some d) (q:aX K fr H Hf r v):∃ p o,v=.ref p∧fr p∧H p=some o∧Hf p=none∧HO.mt o∧Rep K (upd Hf p o) d v:=by
 have sf:∀ {p:Addr} {o:HO},Hf p=none→aD Hf (upd Hf p o):=fun hp b u e=>by rw [ak (az e hp)]; exact e
 cases r with
 | ow ds=>cases h; obtain ⟨p,xs,rfl,f,h1,h2,h3⟩:=q; exact ⟨p,_,rfl,f,h1,h2,trivial,aV.mpr ⟨p,xs,rfl,.inl (.inl ai),h3.mono (sf h2)⟩⟩
 | aw a ds=>cases h; obtain ⟨p,xs,rfl,f,h1,h2,h3⟩:=q; exact ⟨p,_,rfl,f.1,h1,h2,trivial,aV.mpr ⟨p,xs,rfl,.inl (.inl ai),h3.mono (sf h2)⟩⟩
 | _=>cases h
theorem cZ.kF (S:cZ K H₀ dN σ H Hf ρ) (h:ρ[i]?=some r) (hr:r.mQ=some d) :
 ∃ q o,H q=some o∧Hf q=none∧HO.mt o∧cZ K H₀ dN σ H (L2.upd Hf q o) (ρ.set i (.va d)):=by
 obtain ⟨q,ev,rq⟩:=S.own h (lE hr)
 obtain ⟨_,o,e0,fq,hq,sY,hm,rd⟩:=rq.mQ hr
 cases e0
 have hi:i<ρ.length:=(Ob.mp h).1
 have hown:=lE hr
 have sf:aD Hf (L2.upd Hf q o):=fun b u e=>by rw [L2.ak (az e sY)]; exact e
 have sb:aD (L2.upd Hf q o) H:=fun b u e=>by
  by_cases z:b=q
  ·subst z; rw [L2.ai] at e; rw [hq]; exact e
  ·rw [L2.ak z] at e; exact S.sb b u e
 refine ⟨q,o,hq,sY,hm,⟨S.bas.s,S.bas.f.trans sf,sb,fun b h1 h2 h3=>?_⟩,by simp [S.len],fun j r' hj hu=>?_,fun j j' r1 r2 q' hne h1 h2 o1 o2=>?_⟩
 ·have e:=S.bas.n b h1 h2 h3
  by_cases z:b=q
  ·subst z; exact absurd fq h2
  ·rw [L2.ak z]; exact e
 ·by_cases z:j=i
  ·subst z
   rw [O8 hi] at hj
   cases hj
   exact ⟨_,ev,rd⟩
  ·rw [Pa (Oq z)] at hj
   obtain ⟨v,e1,e2⟩:=S.at_ j r' hj hu
   refine ⟨v,e1,?_⟩
   have key:r'.owned=true→v≠.ref q:=fun ho z=>by
    subst z
    exact S.sep i j _ _ q (Oq ‹_›) h hj hown ho ev e1
   exact aX.mv (B:=fun z=>z=q) sf (fun z u hz e1 _ e3=>⟨e1,by rw [L2.ak hz]; exact e3⟩) (by rintro _ z rfl ⟨ys,e9⟩; rw [hq] at e9; cases e9; exact hm) (fun ho z e=>by rintro rfl; exact key ho e) e2
 ·have out:∀ {j:Nat} {r:Sl},(ρ.set i (.va d))[j]?=some r→r.owned=true→ρ[j]?=some r:=fun {j r} hj ho=>by
   by_cases z:j=i
   ·subst z; rw [O8 hi] at hj; cases hj; cases ho
   ·rw [Pa (Oq z)] at hj; exact hj
  exact S.sep j j' r1 r2 q' hne (out h1 o1) (out h2 o2) o1 o2
theorem qL (sb:aD Hf H) (hq:H q=some o) (sY:Hf q=none) (g:bq H (upd Hf q o) H' aj):bq H Hf H' (del aj q) :=
 ⟨g.s,fun b o e=>by rw [cz (az e sY)]; exact g.f b o (by rw [ak (az e sY)]; exact e),fun b o e=>by obtain ⟨_,e2⟩:=i7 e; exact g.b b o e2,fun b h1 h2 h3=>by
   by_cases z:b=q
   ·subst z; exact i6
   ·rw [cz z]; exact g.n b (by rw [ak z]; exact h1) h2 h3⟩
section
theorem Lg (i) (hi:At ρ i r) (hr:r.mQ=some d0) (hs:SSet ρ i (.va d0) ρ') (h:aF c e ρ' fun d=>Sd d.nl (R d)):aF c e ρ R:=fun σ H Hf Q S q=>by
 obtain ⟨a,o,ha,zb,hm,S1⟩:=S.kF hi.get hr
 rw [← hs.eq] at S1
 exact h σ H _ Q S1 fun d v H' aj ⟨fl,rd⟩ rv g=>q d v H' _ rd (tV (g.f a _ ai) hm d fl rv) (qL S.sb ha zb g)
theorem vO (i) {R:Sl→Prop} (hi:At ρ i r) (hr:r.mQ=some d0) (hs:SSet ρ i (.va d0) ρ') (h:dz c e ρ' fun d=>Sd d.nl (R d)):dz c e ρ R:=fun σ H Hf Q S q=>by
 obtain ⟨a,o,ha,zb,hm,S1⟩:=S.kF hi.get hr
 rw [← hs.eq] at S1
 exact h σ H _ Q S1 fun d v H' aj ⟨fl,rd⟩ rv g=>q d v H' _ rd (rv.Ng (g.f a _ ai) hm ha fl) (qL S.sb ha zb g)
theorem lF {st:List Stmt} (i) (hi:At ρ i r) (hr:r.mQ=some d0) (hs:SSet ρ i (.va d0) ρ') (h:aS c st ρ' nx p):aS c st ρ nx p:=fun σ H Hf D S o=>by
 obtain ⟨a,ob,ha,zb,hm,S1⟩:=S.kF hi.get hr
 rw [← hs.eq] at S1
 exact h σ H _ D S1 o
theorem Lh {st:Stmt} (i) (hi:At ρ i r) (hr:r.mQ=some d0) (hs:SSet ρ i (.va d0) ρ') (h:eS c st ρ' nx p):eS c st ρ nx p:=fun σ H Hf D S o=>by
 obtain ⟨a,ob,ha,zb,hm,S1⟩:=S.kF hi.get hr
 rw [← hs.eq] at S1
 exact h σ H _ D S1 o
end
theorem Li (hN:At N i x) (hi:At ρ i r) (hr:r.mQ=some (.lst ds)) (hs:SSet ρ i (.va (.lst ds)) ρ') (h:aF c b ρ' fun y=>Sd y.nl (∃ j d,y=.int j∧jr ds j=some d∧Sd d.nl (R d))) (hx:At ρ' i (.va (.lst ds)))
 (hd:(x == ("__debug__":Str))=false:=by decide) (hcd:(x == ("__classdict__":Str))=false:=by decide) (hp:kB b:=by with_unfolding_all exact fun _ _=>rfl):aF c (.Subscript (.Name x p2) b pos) ρ R :=
 Lg i hi hr hs (Lb (qy hN hx (h.imp fun y ⟨_,j,d,e1,e2,e3⟩=>⟨ds,j,d,rfl,e1,e2,e3⟩) hd hcd) hp)
end
end EV
set_option maxHeartbeats 0
namespace EV
open PySem PySem.Spec PyProof.Rows L2
section
variable {P:Program} {w:World} {K:NZ} {mg:Str→Option Value} {base h:Heap}
noncomputable def aH (K:NZ) (mg:Str→Option Value) (x:Str) (st:Stmt):Prop:=∃ f fd,mg x=some (.ref f)∧fS K x x st f fd
theorem br {st:Stmt} {kV doc pm cdv ct:Value} (KX:K.In h) (G:h.Ns mainGlobals mg) (a:OY K mainGlobals x=some (some (.ref f)))
 (l:K.lookup f=some ⟨oc,od,.func (PY x x (d9 st) (aA st) (ah st) .none kV doc pm an cdv ct),osl⟩) (c:SK K cdv x=true) (k:PN K (.ref f)=true):aH K mg x st :=
 ⟨f,_,PySem.W.mg_of KX G a,HC l c k⟩
theorem Ic (e:(t == Pe T)=false) (m:PySem.W.kitMeta T=true) (s:PySem.W.subIn K t (.type T)=some b):Pq K t (.type T)=some b:=by
 unfold Pq PySem.W.kitCls
 simp [e,m,s]
theorem lG (e:(t == t)=true):Pq K t t=some true:=by
 unfold Pq
 simp [e]
structure Txt (K:NZ) (mg:Str→Option Value):Prop where
 abs:mg "abs"=none
 len:mg "len"=none
 isin:mg "isinstance"=none
 range:mg "range"=none
 int:mg "int"=none
 bool:mg "bool"=none
 tuple:mg "tuple"=none
 list:mg "list"=none
 max:mg "max"=none
 min:mg "min"=none
 sum:mg "sum"=none
 sorted:mg "sorted"=none
 zip:mg "zip"=none
 enum:mg "enumerate"=none
 all:mg "all"=none
 any:mg "any"=none
 dict:mg "dict"=none
 ib:Pq K (.type "int") (.type "bool")=some false
theorem Txt.Lj (T:Txt K mg):iW mg "int" (.type "int"):=.inr ⟨_,rfl,T.int,by decide +kernel,by decide +kernel⟩
theorem Txt.Ie (T:Txt K mg):iW mg "bool" (.type "bool"):=.inr ⟨_,rfl,T.bool,by decide +kernel,by decide +kernel⟩
theorem Txt.Em (T:Txt K mg):iW mg "tuple" (.type "tuple"):=.inr ⟨_,rfl,T.tuple,by decide +kernel,by decide +kernel⟩
theorem Txt.Ig (T:Txt K mg):iW mg "list" (.type "list"):=.inr ⟨_,rfl,T.list,by decide +kernel,by decide +kernel⟩
theorem Ih:Pq K (.type "int") (.type "int")=some true:=lG (by decide)
theorem Ii:Pq K (.type "tuple") (.type "tuple")=some true:=lG (by decide)
theorem Ij:Pq K (.type "list") (.type "list")=some true:=lG (by decide)
theorem Ik (KX:K.In h) (G:h.Ns mainGlobals mg)
 (z1:OY K mainGlobals "abs"=some none)
 (z2:OY K mainGlobals "len"=some none)
 (z3:OY K mainGlobals "isinstance"=some none)
 (z4:OY K mainGlobals "range"=some none)
 (z5:OY K mainGlobals "int"=some none)
 (z6:OY K mainGlobals "bool"=some none)
 (z7:OY K mainGlobals "tuple"=some none)
 (z8:OY K mainGlobals "list"=some none)
 (z9:OY K mainGlobals "max"=some none)
 (z10:OY K mainGlobals "min"=some none)
 (z11:OY K mainGlobals "sum"=some none)
 (z12:OY K mainGlobals "sorted"=some none)
 (z13:OY K mainGlobals "zip"=some none)
 (z14:OY K mainGlobals "enumerate"=some none)
 (z15:OY K mainGlobals "all"=some none)
 (z16:OY K mainGlobals "any"=some none)
 (z17:OY K mainGlobals "dict"=some none)
 (sib:PySem.W.subIn K (.type "int") (.type "bool")=some false):Txt K mg :=
 ⟨O3 KX G z1,O3 KX G z2,O3 KX G z3,O3 KX G z4,O3 KX G z5,O3 KX G z6,O3 KX G z7,O3 KX G z8,
  O3 KX G z9,O3 KX G z10,O3 KX G z11,O3 KX G z12,O3 KX G z13,O3 KX G z14,O3 KX G z15,O3 KX G z16,O3 KX G z17,
  Ic (by decide) (by decide) sib⟩
theorem bD {st:Stmt} (m:mg x=some (.ref f)) (Fu:fS K x x st f fd) (ok:bz P w K mg base (dR P w) k f fd ps (fU K F))
 (hb:∀ (kV doc pm:Value) (an:Option Addr) (cdv ct:Value) (us:List Value),us.length=ps.length→bindArgs (PY x x (d9 st) (aA st) (ah st) .none kV doc pm an cdv ct) ⟨us,[]⟩=pure (ps.zip us)):cV P w K mg base k x F :=
 ⟨f,fd,ps,m,Fu.kp,Fu.binds hb,ok⟩
theorem lH {α:Type} (us:List α) (h:us.length=1):∃ a,us=[a]:=by match us,h with | [a],_=>exact ⟨a,rfl⟩
theorem mR {α:Type} (us:List α) (h:us.length=2):∃ a b,us=[a,b]:=by match us,h with | [a,b],_=>exact ⟨a,b,rfl⟩
theorem AG {α:Type} (us:List α) (h:us.length=3):∃ a b c,us=[a,b,c]:=by match us,h with | [a,b,c],_=>exact ⟨a,b,c,rfl⟩
theorem Nh {α:Type} (us:List α) (h:us.length=5):∃ a b c d e,us=[a,b,c,d,e]:=by match us,h with | [a,b,c,d,e],_=>exact ⟨a,b,c,d,e,rfl⟩
noncomputable def AH:Fn:=fun ds r=>∃ ns:List Int,ns.length≤63∧ds=[.lst (ns.map D.int)]∧r=.ok (.va (.bl true))
theorem Il (H) (a) (ns:List Int) (hl:ns.length≤63) (hS:gO K H a (ns.map V.int)):fU K AH [.ref a] H (fun v _=>v=.bl true) fun _ _ _=>False :=
 ⟨H,[.lst (ns.map D.int)],.ok (.va (.bl true)),.refl H,.cons (aV.mpr ⟨a,_,rfl,hS,jy ns⟩) (ay.mpr rfl),⟨ns,hl,rfl,rfl⟩,fun v H' aj _ r=>(eG (K:=K) (H:=aj)).mp r⟩
theorem walk {l:PySem.W.OpenLaw} {K:Params→NZ} (hk:k≤20) (hn:l.most=some 63) (hdf:d.params.defaults=[])
 (hY:∀ (w:World) (h:Heap),YP w h→(K w.params).In h)
 (F:∀ (w:World) (mg:Str→Option Value) (fa:Addr) (h:Heap),(K w.params).In h→h.Ns mainGlobals mg→mg d.name=some (.ref fa) →
   ∃ fd:FuncData,(∀ (s:Shared) (u:Value),BindsTo s fd ⟨[u],[]⟩ [("_law_script",u)])∧∀ base:Heap,(K w.params).In base→base.Ns mainGlobals mg→bz l.prog w (K w.params) mg base (dR l.prog w) 20 fa fd ["_law_script"] (fU (K w.params) AH)) :
 PySem.W.WalkO q loose XP YP l.row.toRowW d [] (fun f vs=>PySem.call f vs) :=
 L2.DO (n:=63) (k:=20) (x:="_law_script") (CX:=fun w=>dR l.prog w) (sp:=fun w=>fU (K w.params) AH) hn (by decide) hdf ⟨rfl,by decide,by decide⟩ hY F (fun _ H a ns hl _ hS=>Il H a ns hl hS) fun _ _ _ _ _ ⟨_,_,_,_,_,q⟩=>q
end
section
end
theorem qM (f:α→β) (xs) (lo hi):EV.cutD (xs.map f) lo hi=(EV.cutD xs lo hi).map f:=by
 unfold EV.cutD; simp only [N6,List.map_take,List.map_drop]
theorem gR (h0:0≤j) (h1:j<xs.length):jr xs j=xs[j.toNat]?:=by
 unfold jr J0
 rw [if_pos h0,if_pos h1]; rfl
theorem vP {j:Int} (h0:j<0) (h1:0≤j+xs.length):jr xs j=xs[(j+xs.length).toNat]?:=by
 unfold jr J0
 rw [if_neg (by lia)]
 rw [if_pos (by lia)]; rfl
theorem qN (h:a.natAbs<2 ^ 63):Pg a≤64:=by
 unfold Pg
 by_cases z:a=0
 ·subst z; decide
 ·have e:(a == 0)=false:=by simpa using z
  rw [e,if_neg Oc]
  have:=(Nat.log2_lt (n:=a.natAbs) (k:=63) (by lia)).mpr h
  lia
theorem qO (h:a.natAbs<2 ^ 63):EV.MulOk a b:=IntMulOk.of_left (qN h)
theorem kG (h:(qE 0 n)[i]?=some d):i<n∧d=.int (i:Int):=by
 unfold qE at h
 simp only [Oa,Og] at h
 obtain ⟨j,h1,rfl⟩:=h
 obtain ⟨hj,rfl⟩:=Ob.mp h1
 simp at hj
 exact ⟨hj,by simp⟩
section
variable {K:NZ}
end
end EV
namespace EV
open PySem PySem.Spec PySem.Calls PyProof.Rows L2
noncomputable def HO.dct:HO→Prop | .dK _=>True | .dT _=>True | _=>False
theorem oY (I:Inv X aa σ H s) (hu:H a=some u) (nu:∀ xs,u≠.tup xs) (nw:∀ y,u≠.own y) (nt:∀ ps,u≠.tbl ps) (nf:∀ o z,X.H₀ a≠some (.frz o z))
 (hv:bg X.prog X.w H s.heap a v):Inv X aa σ (upd H a v) s:=by
 have hne:∀ {b:Addr} {z:HO},H b=some z→z≠u→b≠a:=fun e d q=>by subst q; rw [hu] at e; cases e; exact d rfl
 have hno:∀ {b:Addr},H b=none→b≠a:=fun e q=>by subst q; rw [hu] at e; cases e
 have hst:∀ {b:Addr} {z:HO},bg X.prog X.w H s.heap b z→bg X.prog X.w (upd H a v) s.heap b z:=fun q =>
  q.stay (fun _ _ _ e=>e) (fun b e=>by rw [ak (hne e (Oq (nw _)))]; exact e) fun b xs e=>by rw [ak (hne e (Oq (nu xs)))]; exact e
 have fr:=I.free
 exact {
  ok:=I.ok,os:=I.os,bare:=I.bare,loc:=I.loc,cell:=I.cell,len:=I.len
  base:=⟨I.base.keep,I.base.slot,fun b o h1 h2 h3=>by have e:=I.base.free b o h1 h2 h3; rw [ak (hno e)]; exact e,I.base.there,
   fun b xs e=>by have q:=I.base.tups b xs e; rw [ak (hne q (Oq (nu xs)))]; exact q,
   fun b o z e=>by
    have q:=I.base.frzs b o z e
    by_cases w:b=a
    ·subst w; exact absurd e (nf o z)
    ·rw [ak w]; exact q,
   fun b ps e=>by obtain ⟨m,q⟩:=I.base.tbls b ps e; exact ⟨m,by rw [ak (hne q (Oq (nt _)))]; exact q⟩⟩
  free:=by rw [ak (hno I.free)]; exact I.free
  freeC:=fun x c e=>by have q:=I.freeC x c e; rw [ak (hno q)]; exact q
  pin:=fun q hq=>by obtain ⟨h1,h2,h3⟩:=I.pin q hq; exact ⟨h1,by rw [ak (hno h2)]; exact h2,h3⟩
  hok:=fun b z e=>by
   by_cases w:b=a
   ·subst w; rw [ai] at e; cases e; exact hst hv
   ·rw [ak w] at e; exact hst (I.hok b z e) }
theorem En (I:Inv X aa σ H s) (hu:H a=some u) (hd:HO.dct u) :
 ∃ o,Inv X aa σ (upd H a (.frz o u)) s∧∀ o z,X.H₀ a≠some (.frz o z):=by
 obtain ⟨o,ho⟩:=HL (I.hok a u hu)
 have nf:∀ o z,X.H₀ a≠some (.frz o z):=fun o z e=>by
  have q:=I.base.frzs a o z e
  rw [hu] at q; cases q; exact hd
 exact ⟨o,oY I hu (by rintro xs rfl; exact hd) (by rintro y rfl; exact hd) (by rintro ps rfl; exact hd) nf ⟨ho,I.hok a u hu⟩,nf⟩
theorem AI (I:Inv X aa σ H s) (hu:H a=some (.frz o u)) (nf:∀ o z,X.H₀ a≠some (.frz o z)):Inv X aa σ (upd H a u) s :=
 oY I hu (by intro xs z; cases z) (by intro y z; cases z) (by intro ps z; cases z) nf (I.hok a _ hu).2
noncomputable def Sl.qP:Sl→Option D
 | .oK kvs=>some (.fdK (kvs.map (·.1)) (kvs.map (·.2))) | .aK _ kvs=>some (.fdK (kvs.map (·.1)) (kvs.map (·.2)))
 | .oT kvs=>some (.fdT (kvs.map (·.1)) (kvs.map (·.2))) | .aT _ kvs=>some (.fdT (kvs.map (·.1)) (kvs.map (·.2)))
 | _=>none
theorem lI {r:Sl} (h:r.qP=some d):r.owned=true:=by cases r <;> first | rfl | cases h
section
variable {K:NZ}
theorem aX.qP (h:r.qP=some d) (q:aX K fr H Hf r v):∃ p u,v=.ref p∧fr p∧H p=some u∧Hf p=none∧HO.dct u∧∀ o,Rep K (L2.upd Hf p (.frz o u)) d v:=by
 have sf:∀ {p:Addr} {o:HO},Hf p=none→aD Hf (L2.upd Hf p o):=fun hp b u e=>by rw [ak (az e hp)]; exact e
 cases r with
 | oK ds=>cases h; obtain ⟨p,xs,rfl,f,h1,h2,h3⟩:=q; exact ⟨p,_,rfl,f,h1,h2,trivial,fun o=>iT.mpr ⟨p,xs,o,rfl,ai,(ja h3).1,(ja h3).2.mono (sf h2)⟩⟩
 | aK a ds=>cases h; obtain ⟨p,xs,rfl,f,h1,h2,h3⟩:=q; exact ⟨p,_,rfl,f.1,h1,h2,trivial,fun o=>iT.mpr ⟨p,xs,o,rfl,ai,(ja h3).1,(ja h3).2.mono (sf h2)⟩⟩
 | oT ds=>cases h; obtain ⟨p,xs,rfl,f,h1,h2,h3⟩:=q; exact ⟨p,_,rfl,f,h1,h2,trivial,fun o=>iU.mpr ⟨p,xs,o,rfl,ai,(eY h3).1,fun y hy=>au (sf h2) ((eY h3).2.1 y hy),(eY h3).2.2.mono (sf h2)⟩⟩
 | aT a ds=>cases h; obtain ⟨p,xs,rfl,f,h1,h2,h3⟩:=q; exact ⟨p,_,rfl,f.1,h1,h2,trivial,fun o=>iU.mpr ⟨p,xs,o,rfl,ai,(eY h3).1,fun y hy=>au (sf h2) ((eY h3).2.1 y hy),(eY h3).2.2.mono (sf h2)⟩⟩
 | _=>cases h
theorem cZ.Eo (S:cZ K H₀ dN σ H Hf ρ) (h:ρ[i]?=some r) (hr:r.qP=some d) :
 ∃ q u,H q=some u∧Hf q=none∧HO.dct u∧∀ o,cZ K H₀ dN σ (L2.upd H q (.frz o u)) (L2.upd Hf q (.frz o u)) (ρ.set i (.va d)):=by
 obtain ⟨q,ev,rq⟩:=S.own h (lI hr)
 obtain ⟨_,u,e0,fq,hq,sY,hd,rd⟩:=rq.qP hr
 cases e0
 have hi:i<ρ.length:=(Ob.mp h).1
 have hown:=lI hr
 refine ⟨q,u,hq,sY,hd,fun o=>⟨⟨fun b z e=>?_,fun b z e=>?_,fun b z e=>?_,fun b h1 h2 h3=>?_⟩,by simp [S.len],fun j r' hj hu=>?_,fun j j' r1 r2 q' hne h1 h2 o1 o2=>?_⟩⟩
 ·rw [L2.ak (az e fq)]; exact S.bas.s b z e
 ·have e2:=S.bas.f b z e
  rw [L2.ak (az e2 sY)]; exact e2
 ·by_cases w:b=q
  ·subst w; rw [L2.ai] at e ⊢; exact e
  ·rw [L2.ak w] at e ⊢; exact S.sb b z e
 ·have e:=S.bas.n b h1 h2 h3
  by_cases z:b=q
  ·subst z; exact absurd fq h2
  ·rw [L2.ak z]; exact e
 ·have sf:aD Hf (L2.upd Hf q (.frz o u)):=fun b z e=>by rw [L2.ak (az e sY)]; exact e
  by_cases z:j=i
  ·subst z
   rw [O8 hi] at hj
   cases hj
   exact ⟨_,ev,rd o⟩
  ·rw [Pa (Oq z)] at hj
   obtain ⟨v,e1,e2⟩:=S.at_ j r' hj hu
   refine ⟨v,e1,?_⟩
   have key:r'.owned=true→v≠.ref q:=fun ho z=>by
    subst z
    exact S.sep i j _ _ q (Oq ‹_›) h hj hown ho ev e1
   exact aX.mv (B:=fun z=>z=q) sf (fun z w hz e1 _ e3=>⟨by rw [L2.ak hz]; exact e1,by rw [L2.ak hz]; exact e3⟩) (by rintro _ z rfl ⟨ys,e9⟩; rw [hq] at e9; cases e9; exact hd) (fun ho z e=>by rintro rfl; exact key ho e) e2
 ·have out:∀ {j:Nat} {r:Sl},(ρ.set i (.va d))[j]?=some r→r.owned=true→ρ[j]?=some r:=fun {j r} hj ho=>by
   by_cases z:j=i
   ·subst z; rw [O8 hi] at hj; cases hj; cases ho
   ·rw [Pa (Oq z)] at hj; exact hj
  exact S.sep j j' r1 r2 q' hne (out h1 o1) (out h2 o2) o1 o2
end
theorem xV (sb:aD Hf H) (hq:H q=some u) (sY:Hf q=none) (g:bq (upd H q (.frz o u)) (upd Hf q (.frz o u)) H' aj):bq H Hf (upd H' q u) (del aj q) :=
 ⟨fun b z e=>by
   by_cases w:b=q
   ·subst w; rw [ai]; rw [hq] at e; exact e
   ·rw [ak w]; exact g.s b z (by rw [ak w]; exact e),
   fun b z e=>by rw [cz (az e sY)]; exact g.f b z (by rw [ak (az e sY)]; exact e),
   fun b z e=>by obtain ⟨w,e2⟩:=i7 e; rw [ak w]; exact g.b b z e2,fun b h1 h2 h3=>by
   by_cases w:b=q
   ·subst w; exact i6
   ·rw [cz w]; exact g.n b (by rw [ak w]; exact h1) (by rw [ak w]; exact h2) fun xs=>by rw [ak w]; exact h3 xs⟩
theorem Ep {K:NZ} (hp:Hf p=some (.frz o u)) (hd:HO.dct u) (h:cY K Hf a xs):cY K (del Hf p) a xs:=by
 rcases h with (h | ⟨o',h⟩) | h
 ·exact .inl (.inl (by rw [cz (by rintro rfl; rw [hp] at h; cases h)]; exact h))
 ·exact .inl (.inr ⟨o',by rw [cz (by rintro rfl; rw [hp] at h; cases h; exact hd)]; exact h⟩)
 ·exact .inr h
mutual
theorem AJ {K:NZ} {Hf:Hp} {p:Addr} {o:Obj} {u:HO} (hp:Hf p=some (.frz o u)) (hd:HO.dct u):∀ (d:D) {v:V},d.nl→Rep K Hf d v→Rep K (del Hf p) d v
 | .non,_,_,h=>by simpa [Rep] using h
 | .bl _,_,_,h=>by simpa [Rep] using h
 | .int _,_,_,h=>by simpa [Rep] using h
 | .str _,_,_,h=>by simpa [Rep] using h
 | .adr _,_,_,h=>by simpa [Rep] using h
 | .tup ds,v,f,h=>by
  simp only [Rep] at h ⊢
  obtain ⟨a,xs,e,h1,h2⟩:=h
  exact ⟨a,xs,e,Ep hp hd h1,oZ hp hd ds (by simpa [D.nl] using f) h2⟩
 | .lst _,_,f,_=>by simp [D.nl] at f
 | .fdK _ _,_,f,_=>by simp [D.nl] at f
 | .fdT _ _,_,f,_=>by simp [D.nl] at f
 | .exc C,_,_,h=>by
  simp only [Rep] at h ⊢
  obtain ⟨a,e,h⟩:=h
  exact ⟨a,e,by rw [cz (by rintro rfl; rw [hp] at h; cases h)]; exact h⟩
theorem oZ {K:NZ} {Hf:Hp} {p:Addr} {o:Obj} {u:HO} (hp:Hf p=some (.frz o u)) (hd:HO.dct u):∀ (ds:List D) {xs:List V},D.p6 ds→aq K Hf ds xs→aq K (del Hf p) ds xs
 | [],_,_,h=>by simpa [aq] using h
 | d::ds,xs,f,h=>by
  simp only [aq] at h ⊢
  simp only [D.p6] at f
  obtain ⟨x,r,e,h1,h2⟩:=h
  exact ⟨x,r,e,AJ hp hd d f.1 h1,oZ hp hd ds f.2 h2⟩
end
section
variable {K:NZ}
theorem AK (S:bw c σ H Hf ρ) (hi:At ρ i r) (hr:r.qP=some d0) (hs:SSet ρ i (.va d0) ρ')
 (h:∀ q u o,H q=some u→Hf q=none→HO.dct u→bw c σ (upd H q (.frz o u)) (upd Hf q (.frz o u)) ρ'→bE c.X e σ (upd H q (.frz o u)) fun v H'=>∃ aj,bq (upd H q (.frz o u)) (upd Hf q (.frz o u)) H' aj∧Q v (upd H' q u)):bE c.X e σ H Q:=by
 obtain ⟨q,u,hq,sY,hd,S1⟩:=S.Eo hi.get hr
 intro aa s I
 obtain ⟨o,I1,nf⟩:=En I hq hd
 have S2:=S1 o
 rw [← hs.eq] at S2
 refine bC (h q u o hq sY hd S2 aa s I1) fun v s' ⟨x,H',I',rv,aj,g,hQ⟩=>⟨x,_,AI I' (g.s q _ ai) nf,rv,hQ⟩
theorem tW (i) {R:Sl→Prop} (hi:At ρ i r) (hr:r.qP=some d0) (hs:SSet ρ i (.va d0) ρ') (h:dz c e ρ' fun d=>Sd d.nl (R d)):dz c e ρ R:=fun σ H Hf Q S q=>by
 refine AK S hi hr hs fun a u o ha zb hd S1=>h σ _ _ _ S1 fun r1 v H' aj ⟨fl,rd⟩ rv g=>⟨aj,g,?_⟩
 have hp:=g.f a _ ai
 refine q r1 v _ (del aj a) rd ?_ (xV S.sb ha zb g)
 have hH:H' a=some (.frz o u):=g.s a _ ai
 cases r1 with
 | va d=>exact AJ hp hd d fl rv
 | ow ds =>
  obtain ⟨b,xs,rfl,fb,h1,h2,h3⟩:=rv
  have nb:b≠a:=by rintro rfl; rw [show (upd H b (.frz o u)) b=_ from ai] at fb; cases fb
  exact ⟨b,xs,rfl,by rw [ak nb] at fb; exact fb,by rw [ak nb]; exact h1,by rw [cz nb]; exact h2,oZ hp hd ds fl h3⟩
 | _=>exact fl.elim
end
noncomputable def AL (h:Heap) (it d:Addr) (i n ep:Nat):Prop :=
 ∃ (x:Value) (f:Bool) (k v:Value),h.get? it=some { cls:=.type "dict_itemiterator",dict:=none,data:=.fields #[x,.bool f,.ref d,.int i 0,.int n 0,.int ep 0,k,v],slots:= #[] }∧(x=.none∨∃ a:Addr,x=rawInt a)
section
variable {s:Shared} {i n ep:Nat}
theorem o4:Tg "dict_itemiterator"=true:=by decide
theorem qQ (h:Q (s.heap.get? a) s):wpAny M A (loadIfAlive a) Q E s:=fun Γ p z=>by
 show Sem.wp M Γ (Sem.loadIfAlive a Sem.pure) _ _ p s
 rw [Sem.wp_loadIfAlive,Sem.wp]
 exact h
theorem AM (hs:s.heap=h) (hit:h.get? it=some { cls:=.type "dict_itemiterator",dict:=none,data:=.fields #[x,.bool f,.ref d,.int i 0,.int n 0,.int ep 0,k,v],slots:= #[] }) (hx:x=.none∨∃ a:Addr,x=rawInt a)
 (hQ:∀ h',AL h' it d i n ep→h'.get? h.objs.size=some { cls:=.type "tuple",data:=.seq #[a,b] }→h'.objs.size=h.objs.size+1→(∀ c o,c≠it→h.get? c=some o→h'.get? c=some o)→Q (.ref h.objs.size) { s with heap:=h' }) :
 wpAny (model prog w) A (Td (.ref it) 6 a b) Q E s:=by
 subst hs
 have lt:it<s.heap.objs.size:=N9 hit
 have ne:s.heap.objs.size≠it:=Q8 lt
 unfold Td
 refine NX (wpAny_newTuple ?_)
 have sV:=N7 ({ cls:=.type "tuple",data:=.seq [a,b].toArray }:Obj) hit
 have htu:(s.heap.push { cls:=.type "tuple",data:=.seq [a,b].toArray }).get? s.heap.objs.size=some { cls:=.type "tuple",data:=.seq #[a,b] }:=Oj _ rfl
 have hsz:(s.heap.push { cls:=.type "tuple",data:=.seq [a,b].toArray }).objs.size=s.heap.objs.size+1:=Qj ..
 have hold:∀ c o,s.heap.get? c=some o→(s.heap.push { cls:=.type "tuple",data:=.seq [a,b].toArray }).get? c=some o:=fun c o e=>N7 _ e
 generalize (s.heap.push { cls:=.type "tuple",data:=.seq [a,b].toArray })=h2 at sV htu hsz hold ⊢
 have free:wpAny (model prog w) A (do
  let old:=[← field (.ref it) 6,← field (.ref it) (6+1)]
  setField (.ref it) 6 a; setField (.ref it) (6+1) b
  setField (.ref it) 0 (rawInt s.heap.objs.size); setField (.ref it) 1 (.bool false)
  letGo old [.ref s.heap.objs.size]
  pure (Ow s.heap.objs.size)) Q E { s with heap:=h2 }:=by
  refine NX (PZ sV rfl (x:=k) rfl (NX (PZ sV rfl (x:=v) rfl ?_)))
  refine NX (Qz sV (by simp) fun h3 e3 s3=>?_)
  refine NX (Qz e3 (by simp) fun h4 e4 s4=>?_)
  refine NX (Qz e4 (by simp) fun h5 e5 s5=>?_)
  refine NX (Qz e5 (by simp) fun h6 e6 s6=>?_)
  have keep:∀ c o,c≠it→h2.get? c=some o→h6.get? c=some o:=fun c o hc e=>s6.extBut c o hc (s5.extBut c o hc (s4.extBut c o hc (s3.extBut c o hc e)))
  refine NX (S0 (N1 (hQ h6 ⟨_,_,_,_,e6,.inr ⟨_,rfl⟩⟩ (keep _ _ ne htu) ?_ fun c o hc e=>keep c o hc (hold c o e))))
  rw [s6.1,s5.1,s4.1,s3.1,hsz]
 have told:∀ (h3:Heap) (x:Value) (f:Bool),h3.get? it=some { cls:=.type "dict_itemiterator",dict:=none,data:=.fields #[x,.bool f,.ref d,.int i 0,.int n 0,.int ep 0,k,v],slots:= #[] }→(x=.none∨∃ a:Addr,x=rawInt a) →
  PV it h2 h3→Q (.ref s.heap.objs.size) { s with heap:=h3 }:=fun h3 x f e hx' s3 =>
  hQ h3 ⟨x,f,k,v,e,hx'⟩ (s3.extBut _ _ ne htu) (by rw [s3.1,hsz]) fun c o hc e=>s3.extBut c o hc (hold c o e)
 show wpAny _ _ (Uk (.ref it) >>= _) _ _ _
 unfold Uk
 refine NX (NX (PZ sV rfl (x:=x) rfl ?_))
 rcases hx with rfl | ⟨a0,rfl⟩
 ·exact N1 free
 ·show wpAny _ _ (loadIfAlive (a0:Int).toNat >>= _) _ _ _
  refine NX (qQ ?_)
  split
  ·exact N1 free
  ·refine NX ?_
   refine PZ sV rfl (x:=.bool f) rfl ?_
   cases f with
   | true =>
    dsimp only
    rw [if_neg (by decide)]
    exact N1 (N1 (told h2 _ _ sV (.inr ⟨a0,rfl⟩) (.refl ..)))
   | false =>
    dsimp only
    rw [if_pos (by decide)]
    refine NX (Qz sV (by simp) fun h3 e3 s3=>?_)
    exact N1 (N1 (told h3 _ true e3 (.inr ⟨a0,rfl⟩) s3))
theorem AL.Im (h:AL s.heap it d i n ep):s.TypeIs (.ref it) "dict_itemiterator":=let ⟨_,_,_,_,e,_⟩:=h; ⟨_,e,rfl⟩
theorem next_item (hit:AL s.heap it d i es.size ep) (hod:s.heap.get? d=some od) (hdd:od.data=.dict es ep) (hx:es[i]?=some e)
 (hQ:∀ h',AL h' it d (i+1) es.size ep→h'.get? s.heap.objs.size=some { cls:=.type "tuple",data:=.seq #[e.key,e.val] }→h'.objs.size=s.heap.objs.size+1→(∀ c o,c≠it→s.heap.get? c=some o→h'.get? c=some o)→Q (some (.ref s.heap.objs.size)) { s with heap:=h' }) :
 wpAny (model prog w) A (pyNext (.ref it)) Q E s:=by
 have hT:=hit.Im
 obtain ⟨x,f,k,v,hat,hxx⟩:=hit
 have hlt:i<es.size:=(QU.mp hx).1
 unfold pyNext
 refine NX (Qk (Qd (name:=NY "__next__") hT QN (Px QN hT Ur ?_ (Um _))))
 refine NX (N1 (NX (NX ?_)))
 first | refine NX (RT hT (N1 ?_)) | refine NX (RW hT (N1 ?_))
 refine NX (SH hat rfl ?_)
 simp only [o4,if_true]
 show wpAny _ _ (if (Ow d == O2)=true then _ else _) _ _ _
 rw [if_neg (show ¬ (Ow d == O2)=true from Oc)]
 refine NX (N1 (NX (Q4 hod hdd ?_)))
 rw [if_neg (by simp)]
 refine NX (N1 (NX (Q6 hod hdd ?_)))
 rw [if_neg (by simp)]
 refine N1 ?_
 simp only [show ¬ ((i:Int)<0) from by lia,if_false,O1,hx]
 refine NX ?_
 first | refine NX (RT hT (N1 ?_)) | refine NX (RW hT (N1 ?_))
 refine NX (Tu hT ?_)
 show wpAny _ _ (setField (.ref it) 3 (rawInt ((i:Int)+1)) >>= _) _ _ s
 refine NX (Qz hat (by simp) fun h1 e1 s1=>?_)
 have e1':h1.get? it=some { cls:=.type "dict_itemiterator",dict:=none,data:=.fields #[x,.bool f,.ref d,.int ((i+1:Nat):Int) 0,.int es.size 0,.int ep 0,k,v],slots:= #[] }:=by
  have q:((i+1:Nat):Int)=(i:Int)+1:=by lia
  rw [q]; simpa [rawInt] using e1
 have hT1:Shared.TypeIs { s with heap:=h1 } (.ref it) "dict_itemiterator":=⟨_,e1',rfl⟩
 refine NX (Pc ?_)
 refine NX (Tu hT1 (NX (Tu hT1 ?_)))
 show wpAny _ _ (Td (.ref it) 6 e.key e.val) _ _ { s with heap:=h1 }
 have z1:h1.objs.size=s.heap.objs.size:=s1.1
 refine AM (s:={ s with heap:=h1 }) rfl e1' hxx fun h2 g2 t2 z2 k2=>?_
 rw [z1] at t2 z2 ⊢
 exact N1 ⟨_,rfl,N1 (hQ h2 g2 t2 z2 fun c o hc q=>k2 c o hc (s1.extBut c o hc q))⟩
theorem next_end (hh:A.handled=none) (hit:AL s.heap it d i es.size ep) (hod:s.heap.get? d=some od) (hdd:od.data=.dict es ep) (hx:es.size≤i)
 (hQ:∀ h',Qp it s.heap h'→Q none { s with heap:=h' }):wpAny (model prog w) A (pyNext (.ref it)) Q E s:=by
 have hT:=hit.Im
 obtain ⟨x,f,k,v,hat,hxx⟩:=hit
 unfold pyNext
 refine NX (Qk (Qd (name:=NY "__next__") hT QN (Px QN hT Ur ?_ (Um _))))
 refine NX (N1 (NX (NX ?_)))
 first | refine NX (RT hT (N1 ?_)) | refine NX (RW hT (N1 ?_))
 refine NX (SH hat rfl ?_)
 simp only [o4,if_true]
 show wpAny _ _ (if (Ow d == O2)=true then _ else _) _ _ _
 rw [if_neg (show ¬ (Ow d == O2)=true from Oc)]
 refine NX (N1 (NX (Q4 hod hdd ?_)))
 rw [if_neg (by simp)]
 refine NX (N1 (NX (Q6 hod hdd ?_)))
 rw [if_neg (by simp)]
 refine N1 ?_
 simp only [show ¬ ((i:Int)<0) from by lia,if_false,O1,Array.getElem?_eq_none hx]
 refine NX ?_
 first | refine NX (RT hT (N1 ?_)) | refine NX (RW hT (N1 ?_))
 show wpAny _ _ (setField (.ref it) 2 .none >>= _) _ _ s
 refine NX (Rz hat rfl (by simp) (NX ?_))
 simp only [newExc,newTuple]
 refine NX (O4 ?_ (by size_fits))
 refine NX (m:=firstArgMember _ _) (wpAny_of_eq (a:=O2) (by first | rfl | (simp only [firstArgMember]; rfl)) ?_)
 refine O4 ?_ (by size_fits)
 simp only [raiseNew]
 refine NX (wpAny_handled ?_)
 rw [show A.in1.handled=none from hh]
 refine NX (N1 (wpAny_throw ?_))
 refine NX (Sw (T:="StopIteration") (b:=true) ⟨_,Oj _ rfl,rfl⟩ isSubtype_stop ?_)
 exact N1 (hQ _ (((Ro ..).extBut.push _).push _))
theorem Er (hit:AL s.heap it d i n ep) (h:∀ h',AL h' it d i n ep→PV it s.heap h'→Q () { s with heap:=h' }):wpAny (model prog w) A (letOwnedTupleGo tg (.ref it) (.ref a)) Q E s:=by
 have stay:Q () s:=h s.heap hit (.refl ..)
 obtain ⟨x,f,k,v,hat,hxx⟩:=hit
 have part:wpAny (model prog w) A (do
  let o ← load it
  match o.cls,o.data with
  | .type n,.fields vs =>
   if (["enumerate","zip","dict_itemiterator","dict_reverseitemiterator","odict_iterator","itertools.zip_longest","itertools.pairwise"].contains n && vs[0]? == some (rawInt a))=true then do
    rule "for.unpacks-the-owned-tuple"
    updateField it 0 .none
   else pure ()
  | _,_=>pure ()) Q E s:=by
  refine NX (wpAny_load hat ?_)
  dsimp only
  split
  ·refine NX (Pk ?_)
   show wpAny _ _ (setField (.ref it) 0 .none) Q E s
   exact Qz hat (by simp) fun h' e' s'=>h h' ⟨_,_,_,_,e',.inl rfl⟩ s'
  ·exact N1 stay
 unfold letOwnedTupleGo
 cases tg <;> first
  | exact N1 stay
  | exact part
end
noncomputable def bJ:HO→List (V×V)
 | .dK ys=>ys.map fun y=>(kV y.1,y.2)
 | .dT ys=>ys.map fun y=>(.ref y.2.1,y.2.2)
 | _=>[]
theorem vQ (h:kP k v=true):RelV (kV k) v:=by
 rcases bF h with ⟨i,t,rfl,rfl⟩ | ⟨x,t,rfl,rfl⟩
 ·exact ⟨t,rfl⟩
 ·exact ⟨t,rfl⟩
theorem cK (ok:bg P w H h d u) (hd:HO.dct u) (ho:h.get? d=some o) :
 o.ExactDict∧∃ es ep,o.data=.dict es ep∧Paired (fun (a:V×V) (e:DictEntry)=>RelV a.1 e.key∧RelV a.2 e.val) (bJ u) es.toList∧(d == sysModules)=false∧(bJ u).length≤sizeLine:=by
 cases u with
 | dK ys =>
  obtain ⟨z,y,vs,kv,o',es,ep,h1,h2,h3,h4,h5,h6⟩:=ok
  rw [ho] at h1; cases h1
  refine ⟨h2,es,ep,h3,?_,y,by simpa [bJ] using z⟩
  show Paired _ (ys.map _) _
  clear h3 h4 h6 z
  generalize es.toList=l at h5 ⊢
  unfold KV at kv
  induction kv generalizing l with
  | nil=>cases h5; exact .nil
  | @cons a b as bs q t ih =>
   cases h5 with
   | cons r t' t''=>exact .cons ⟨by show L2.RelV (kV a.1) _; rw [q.1]; exact vQ r,by rw [t']; exact q.2⟩ (ih hd _ t'')
 | dT ys =>
  obtain ⟨z,y,xs,kv,o',es,ep,h1,h2,h3,h4,h5⟩:=ok
  rw [ho] at h1; cases h1
  refine ⟨h2,es,ep,h3,?_,y,by simpa [bJ] using z⟩
  rw [h4]
  show Paired _ (ys.map _) _
  clear h3 h4 h5 z
  induction kv with
  | nil=>exact .nil
  | @cons a b as bs q t ih =>
   rw [N5,N5]
   refine .cons ⟨?_,q.2.2⟩ (ih hd)
   show Ow b.2.1=Ow a.2.1
   rw [q.2.1]
 | _=>exact hd.elim
theorem c7:∀ {l:List α} {m:List β} {i:Nat} {a:α},Paired F l m→l[i]?=some a→∃ b,m[i]?=some b∧F a b
 | _,_,_,_,.nil,e=>by simp at e
 | _,_,0,_,.cons r _,e=>by simp at e; subst e; exact ⟨_,rfl,r⟩
 | _,_,i+1,a,.cons _ t,e=>by
  obtain ⟨b,h1,h2⟩:=c7 (i:=i) t (by simpa using e)
  exact ⟨b,by simpa using h1,h2⟩
noncomputable def Ni (d:Addr) (o:Obj) (u:HO):It :=
 ⟨fun i H=>H d=some (.frz o u)∧i<(bJ u).length,fun i H x H'=>∃ p kv,(bJ u)[i]?=some kv∧x=.ref p∧H p=none∧H'=upd H p (.tup [kv.1,kv.2]),fun i H=>H d=some (.frz o u)∧(bJ u).length≤i⟩
theorem xW:entryFor table "dict_itemiterator.__iter__"=some Builtin.«dict_keyiterator.__iter__» :=entryFor_alias (id':="dict_keyiterator.__iter__") (by kernel_rfl) rfl (by decide +kernel) (by kernel_rfl)
theorem tX {P:Program} {w:World} {K:NZ} {tg:Expr} {d it:Addr} {o:Obj} {u:HO} {es:Array DictEntry} {ep:Nat} (hd:HO.dct u) (hod:o.data=.dict es ep) (hne:it≠d) (hes:es.size=(bJ u).length) :
 Turn P w K tg (Ni d o u) [it] it (fun i h=>AL h it d i es.size ep) where
 mem:=by simp
 obj:=fun i h st b hb=>by
  have e:b=it:=by simpa using hb
  subst e
  obtain ⟨x,f,k,v,e,_⟩:=st
  exact ⟨_,e,fun v z=>by
   have z':Tc _=Data.cell v:=z
   cases z'⟩
 keep:=fun i h h' st k=>by
  obtain ⟨x,f,kk,v,e,hx⟩:=st
  exact ⟨x,f,kk,v,k it (by simp) _ e,hx⟩
 item:=by
  intro X hP hw hK hc i aa s σ H E I hf st hg
  subst hP hw hK
  obtain ⟨hH,hi⟩:=hg
  obtain ⟨f0,f1,f2,f3,f4,f5⟩:=hf it (by simp)
  obtain ⟨ho,ok⟩:=(show bg X.prog X.w H s.heap d (.frz o u) from I.hok d _ hH)
  obtain ⟨_,es',ep',e1,e2,_⟩:=cK ok hd ho
  rw [hod] at e1; cases e1
  obtain ⟨e,he,re⟩:=c7 e2 (Ot hi)
  have he':es[i]?=some e:=by simpa using he
  refine next_item st ho hod he' fun h1 g1 t1 z1 k1=>?_
  have hil:it<s.heap.objs.size:=by
   obtain ⟨_,_,_,_,q,_⟩:=st
   exact N9 q
  have Hp:H s.heap.objs.size=none:=I.hok.fresh (N2 _)
  have hit0:it≠s.heap.objs.size:=OB hil
  generalize hkv:(bJ u)[i]=kv at re
  have IA:Inv X aa σ (upd H s.heap.objs.size (.tup [kv.1,kv.2])) { s with heap:=s.heap.push { cls:=.type "tuple",data:=.seq #[e.key,e.val] },toks:=s.toks } :=
   I.laid (a:=s.heap.objs.size) (o:=.tup [kv.1,kv.2]) (fun _ _ q=>N7 _ q) (N2 _) ⟨by show 2≤sizeLine; decide,[e.key,e.val],.cons re.1 (.cons re.2 .nil),_,Oj _ rfl,rfl,0,rfl⟩
  have g0:upd H s.heap.objs.size (.tup [kv.1,kv.2]) it=none:=by rw [ak hit0]; exact f0
  have I1:Inv X aa σ (upd H s.heap.objs.size (.tup [kv.1,kv.2])) { s with heap:=h1,toks:=s.toks }:=IA.turned (fun b o hb q=>by
   by_cases z:b=s.heap.objs.size
   ·subst z
    rw [Oj _ rfl] at q; cases q; exact t1
   ·have lt:b<s.heap.objs.size:=by
     have:=N9 q
     rw [Qj] at this
     exact Nat.lt_of_le_of_ne (Nat.le_of_lt_succ this) z
    refine k1 b o hb ?_
    rw [Heap.get?_push_ne _ _ _ z] at q; exact q) g0 f1 f3 f4 f5
  refine ⟨_,rfl,Er (s:={ s with heap:=h1 }) g1 fun h2 g2 s2=>?_⟩
  refine ⟨.ref s.heap.objs.size,_,I1.turned (t':=s.toks) (fun b o hb q=>(s2.2 b hb).trans q) g0 f1 f3 f4 f5,rfl,⟨_,kv,by rw [Ot hi,hkv],rfl,Hp,rfl⟩,g2,fun b hb=>?_⟩
  have e:b=it:=by simpa using hb
  rw [e]; exact g0
 done:=by
  intro X hP hw hK hc i aa s σ H E I hf st hg
  subst hP hw hK
  obtain ⟨hH,hi⟩:=hg
  obtain ⟨f0,f1,f2,f3,f4,f5⟩:=hf it (by simp)
  obtain ⟨ho,ok⟩:=(show bg X.prog X.w H s.heap d (.frz o u) from I.hok d _ hH)
  exact next_end (I.ok.hd hc) st ho hod (by lia) fun h' eb=>⟨rfl,I.turned (t':=s.toks) (fun b o hb e=>eb b o hb e) f0 f1 f3 f4 f5⟩
 self:=by
  intro A i s Q E st h
  have hT:=st.Im
  refine TZ hT Uu (Px Uu hT xW ?_ (F.args_dict_itemiterator_iter_1 _))
  show wpAny _ _ (ret (.ref it)) _ _ s
  exact N1 ⟨_,rfl,"dict_itemiterator",_,hT,QN.lookup,h⟩
section
theorem qR (d) (hd:(d == sysModules)=false) :
 MeetsIn prog w (Builtin.«dict.items» ⟨[.ref d],[]⟩) (fun _ R s=>s.TypeIs (.ref d) "dict"∧R (.ok (.ret (.ref s.heap.objs.size))) { s with heap:=s.heap.push { cls:=.type "dict_items",data:=.fields #[.ref d] } }) :=
 .of_wp fun A R s ⟨hT,h⟩=>by
  unfold Builtin.«dict.items»
  refine NX ?_
  unfold Builtin.Dict.noArgs
  refine NX (wpAny_notOrdered_dict hT (show wpAny _ _ (pure d) _ _ s from N1 ?_))
  show wpAny _ _ (Sb d >>= _) _ _ s
  unfold Sb
  rw [if_neg (by rw [hd]; exact Oc)]
  exact NX (N1 (NX (O4 (N1 ⟨_,rfl,h⟩))))
theorem xX (hv:s.heap.IsItemsView v d) (hod:s.heap.get? d=some od) (hdd:od.data=.dict es ep)
 (hQ:Q (.ref s.heap.objs.size) { s with heap:=s.heap.push { cls:=.type "dict_itemiterator",data:=.fields #[.none,.bool false,.ref d,.int 0 0,.int es.size 0,.int ep 0,.none,.none] } }) :
 wpAny (model prog w) A (pyIter (.ref v)) Q E s:=by
 obtain ⟨ov,hov,hcv,hdv⟩:=id hv
 refine TZ hv.typeIs F.slot_dict_items_iter (Px F.slot_dict_items_iter hv.typeIs F.entry_dict_items_iter ?_ (F.args_dict_items_iter_1 _))
 unfold Builtin.«dict_items.__iter__»
 refine NX (N1 (NX ?_))
 unfold Builtin.Dict_items.dictOf
 refine NX (PZ hov hdv (x:=.ref d) rfl (N1 (NX ?_)))
 unfold Builtin.Dict_items.newIterator
 refine NX (Q4 hod hdd (NX (Q6 hod hdd ?_)))
 simp only [o4,if_true]
 refine O4 (N1 ⟨_,rfl,"dict_itemiterator",_,⟨_,Oj _ rfl,rfl⟩,QN.lookup,?_⟩)
  (by simp only [sizeOk,Ul,Oo,OL,OE,PM,sizeLine_eq]; lia)
 simpa [rawInt,Ul] using hQ
end
noncomputable def xY:Key→D | .inl i=>.int i | .inr x=>.str x
noncomputable def D.pairs:D→Option (List D)
 | .fdK ks ds=>some (SW (fun k d=>D.tup [xY k,d]) ks ds)
 | .fdT ks ds=>some (SW (fun k d=>D.tup [.tup (k.map xY),d]) ks ds)
 | _=>none
section
variable {K:NZ} {Hf:Hp}
theorem qS:Rep K Hf (xY k) (kV k):=by
 cases k with
 | inl i=>exact av.mpr rfl
 | inr x=>exact fC.mpr rfl
theorem nL:∀ {ks:List Key},aq K Hf (ks.map xY) (ks.map kV)
 | []=>ay.mpr rfl
 | k::ks=>.cons qS nL
noncomputable def nM (K:NZ) (Hf:Hp) (d:D) (kv:V×V):Prop:=∃ k e,d=.tup [k,e]∧Rep K Hf k kv.1∧Rep K Hf e kv.2
theorem vR:∀ {ys:List (Key×V)} {vs:List D},aq K Hf vs (ys.map (·.2))→Paired (nM K Hf) (SW (fun k d=>D.tup [xY k,d]) (ys.map (·.1)) vs) (ys.map fun y=>(kV y.1,y.2))
 | [],vs,h=>by
  cases vs with
  | nil=>exact .nil
  | cons d ds=>obtain ⟨x,r,e,_⟩:=aC.mp h; cases e
 | y::ys,vs,h=>by
  cases vs with
  | nil=>rw [ay] at h; cases h
  | cons d ds =>
   obtain ⟨x,r,e,h1,h2⟩:=aC.mp h
   cases e
   exact .cons ⟨_,_,rfl,qS,h1⟩ (vR h2)
theorem vS:∀ {ys:List (List Key×Addr×V)} {vs:List D},(∀ y∈ys,cY K Hf y.2.1 (y.1.map kV))→aq K Hf vs (ys.map (·.2.2))→Paired (nM K Hf) (SW (fun k d=>D.tup [.tup (k.map xY),d]) (ys.map (·.1)) vs) (ys.map fun y=>(.ref y.2.1,y.2.2))
 | [],vs,_,h=>by
  cases vs with
  | nil=>exact .nil
  | cons d ds=>obtain ⟨x,r,e,_⟩:=aC.mp h; cases e
 | y::ys,vs,hk,h=>by
  cases vs with
  | nil=>rw [ay] at h; cases h
  | cons d ds =>
   obtain ⟨x,r,e,h1,h2⟩:=aC.mp h
   cases e
   exact .cons ⟨_,_,rfl,aE.mpr ⟨_,_,rfl,hk y Od,nL⟩,h1⟩ (vS (fun z hz=>hk z (Oe _ hz)) h2)
theorem xZ (hp:d.pairs=some ds) (h:Rep K Hf d v):∃ a o u,v=.ref a∧Hf a=some (.frz o u)∧HO.dct u∧Paired (nM K Hf) ds (bJ u):=by
 cases d with
 | fdK ks vs =>
  cases hp
  obtain ⟨a,ys,o,rfl,h1,h2,h3⟩:=iT.mp h
  subst h2
  exact ⟨a,o,_,rfl,h1,trivial,vR h3⟩
 | fdT ks vs =>
  cases hp
  obtain ⟨a,ys,o,rfl,h1,h2,h3,h4⟩:=iU.mp h
  subst h2
  exact ⟨a,o,_,rfl,h1,trivial,vS h3 h4⟩
 | _=>cases hp
theorem tY {ds:List D} {a:Addr} {o:Obj} {u:HO} (h:Hf a=some (.frz o u)) (hp:Paired (nM K Hf) ds (bJ u)):jA K (Ni a o u) ds Hf where
 go:=fun i d H aN s1 s2 e=>by
  obtain ⟨kv,ekv,k,dd,rfl,r1,r2⟩:=c7 hp e
  refine ⟨⟨s2 _ _ (s1 _ _ h),(Ob.mp ekv).1⟩,fun x H' ⟨p,kv',e1,e2,e3,e4⟩=>?_⟩
  rw [ekv] at e1; cases e1
  subst e2 e4
  have g:=bq.new s2 e3 (o:=.tup [kv.1,kv.2])
  exact ⟨upd aN p (.tup [kv.1,kv.2]),g,aE.mpr ⟨p,_,rfl,.inl (.inl ai),.cons (Rep.mono (s1.trans g.f) _ r1) (.cons (Rep.mono (s1.trans g.f) _ r2) (ay.mpr rfl))⟩⟩
 stop:=fun i H aN s1 s2 e=>⟨s2 _ _ (s1 _ _ h),by rw [← Ph hp]; exact e⟩
end
section
variable {K:NZ}
end
end EV
namespace SR
open PySem PyProof.Rows
noncomputable def cM:Bool→Keyed→Array Keyed→Nat→Nat→Nat→StateT SortSt Sem (Option Nat):=sortPriv% PySem.Builtin.gallop
noncomputable def cE:Nat→StateT SortSt Sem Unit:=sortPriv% PySem.Builtin.setMinGallop
noncomputable def dP (left:Bool) (key:Keyed) (arr:Array Keyed) (base i:Nat):StateT SortSt Sem (Option Bool):=do
 let x ← elem' arr (base+i)
 if left then lt' x key else return (← lt' key x).map (!·)
noncomputable abbrev qT:=Option (Option Nat)×Nat×Nat
noncomputable def lJ (bey:Nat→StateT SortSt Sem (Option Bool)) (n lo hi:Nat):StateT SortSt Sem (Option Nat):=do
 let __s ← forIn [0:n] ((none,lo,hi):qT) fun _ __s =>
  if __s.snd.fst≥__s.snd.snd then pure (Pr (none,__s.snd.fst,__s.snd.snd))
  else do
   let __x ← bey (__s.snd.fst+(__s.snd.snd - __s.snd.fst) / 2)
   match __x with
   | some more=>if more=true then pure (OX (none,__s.snd.fst+(__s.snd.snd - __s.snd.fst) / 2+1,__s.snd.snd)) else pure (OX (none,__s.snd.fst,__s.snd.fst+(__s.snd.snd - __s.snd.fst) / 2))
   | _=>pure (Pr (some none,__s.snd.fst,__s.snd.snd))
 match __s.fst with
 | some r=>pure r
 | none=>pure (some __s.snd.snd)
noncomputable def AN (bey:Nat→StateT SortSt Sem (Option Bool)) (n hint maxofs:Nat):StateT SortSt Sem qT :=
 forIn [0:n] ((none,0,1):qT) fun _ __s =>
  if __s.snd.snd≥maxofs then pure (Pr (none,__s.snd.fst,__s.snd.snd))
  else do
   let __x ← bey (hint+__s.snd.snd)
   match __x with
   | some more=>if (!more)=true then pure (Pr (none,__s.snd.fst,__s.snd.snd)) else pure (OX (none,__s.snd.snd,2 * __s.snd.snd+1))
   | _=>pure (Pr (some none,__s.snd.fst,__s.snd.snd))
noncomputable def AO (bey:Nat→StateT SortSt Sem (Option Bool)) (n hint maxofs:Nat):StateT SortSt Sem qT :=
 forIn [0:n] ((none,0,1):qT) fun _ __s =>
  if __s.snd.snd≥maxofs then pure (Pr (none,__s.snd.fst,__s.snd.snd))
  else do
   let __x ← bey (hint - __s.snd.snd)
   match __x with
   | some found=>if found=true then pure (Pr (none,__s.snd.fst,__s.snd.snd)) else pure (OX (none,__s.snd.snd,2 * __s.snd.snd+1))
   | _=>pure (Pr (some none,__s.snd.fst,__s.snd.snd))
local macro_rules | `(tactic| walk_at "dl gallop")=>do
 let i:=QG (Qw `PySem.Builtin.List.W1All `PySem.Builtin.gallop)
 `(tactic| delta $i)
theorem tZ (left) (key) (arr) (base n hint):cM left key arr base n hint=(do
 let __x ← dP left key arr base hint
 match __x with
 | some right =>
  if right=true then do
   let __s ← AN (dP left key arr base) n hint (n - hint)
   match __s.fst with
   | some r=>pure r
   | none=>lJ (dP left key arr base) n (hint+__s.snd.fst+1) (hint+min __s.snd.snd (n - hint))
  else do
   let __s ← AO (dP left key arr base) n hint (hint+1)
   match __s.fst with
   | some r=>pure r
   | none=>lJ (dP left key arr base) n (hint+1 - min __s.snd.snd (hint+1)) (hint - __s.snd.fst)
 | _=>pure none):=by
 unfold cM
 walk_at "dl gallop"
 unfold AN AO lJ dP
 dsimp only
 congr 1
 funext x
 cases x with
 | none=>rfl
 | some right =>
  dsimp only
  cases right with
  | true =>
   rw [if_pos rfl,if_pos rfl]
   congr 1
   funext c
   obtain ⟨r,l,o⟩:=c
   cases r with
   | some r=>rfl
   | none =>
    dsimp only
    congr 1
    funext c
    obtain ⟨r,l,o⟩:=c
    cases r <;> rfl
  | false =>
   rw [if_neg Oc,if_neg Oc]
   congr 1
   funext c
   obtain ⟨r,l,o⟩:=c
   cases r with
   | some r=>rfl
   | none =>
    dsimp only
    congr 1
    funext c
    obtain ⟨r,l,o⟩:=c
    cases r <;> rfl
section
noncomputable def iQ (prog:Program) (w:World) (A:Around) (s:Shared) (κ:SortKind) (rk:Keyed→Int) (L:List Keyed):Prop :=
 ∀ x∈L,∀ y∈L,∀ (E:Value→Shared→Prop) (Q:Bool→Shared→Prop),Q (decide (rk x<rk y)) s→wpAny (model prog w) A (keyLt' κ x.1 y.1) Q E s
noncomputable def R (rk:Keyed→Int) (xs:Array Keyed) (i:Nat):Int:=match xs[i]? with | some p=>rk p | none=>0
theorem dQ (h:xs[i]?=some p):R rk xs i=rk p:=by unfold R; rw [h]
theorem ck (h:xs[i]?=ys[j]?):R rk xs i=R rk ys j:=by unfold R; rw [h]
theorem lK {st:SortSt} (hC:iQ prog w A s κ rk L) (hk:kindOf st=κ) (hx:x∈L) (hy:y∈L) (h:Q (some (decide (rk x<rk y))) st):wpS (model prog w) A E s (lt' x y) Q st:=by
 rw [lt'_eq]
 refine N3 (Pw ?_)
 rw [hk]
 refine N3 (Qt (Qk (hC x hx y hy _ _ ⟨rfl,?_⟩)))
 exact N4 h
theorem aO {st:SortSt} (hi:arr[i]?=some p) (h:Q p st):wpS (model prog w) A E s (elem' arr i) Q st:=by
 rw [elem'_eq,hi]; exact N4 h
theorem x6 {st:SortSt} (hC:iQ prog w A s κ rk L) (hk:kindOf st=κ) (hi:(arrOf st)[i]?=some p) (hj:(arrOf st)[j]?=some q) (hp:p∈L) (hq:q∈L)
 (h:Q (some (decide (R rk (arrOf st) i<R rk (arrOf st) j))) st):wpS (model prog w) A E s (ltAt' i j) Q st:=by
 rw [ltAt'_eq]
 refine N3 (Pw ?_)
 show wpS _ _ _ _ (do let x ← elem' (arrOf st) i; let y ← elem' (arrOf st) j; lt' x y) Q st
 refine N3 (aO hi (N3 (aO hj (lK hC hk hp hq ?_))))
 rw [dQ hi,dQ hj] at h
 exact h
theorem t6 {st:SortSt} (hC:iQ prog w A s κ rk L) (hk:kindOf st=κ) (hkey:key∈L) (hi:arr[base+i]?=some p) (hp:p∈L)
 (hb:(if left=true then rk p<rk key else rk p≤rk key)↔i<k) (h:Q (some (decide (i<k))) st):wpS (model prog w) A E s (dP left key arr base i) Q st:=by
 unfold dP
 refine N3 (aO hi ?_)
 cases left with
 | true =>
  simp only [if_true] at hb ⊢
  refine lK hC hk hp hkey ?_
  rw [decide_eq_decide.mpr hb]; exact h
 | false =>
  simp only [OV,if_false] at hb ⊢
  refine N3 (lK hC hk hkey hp (N4 ?_))
  have e:(!decide (rk key<rk p))=decide (i<k):=by
   rw [← decide_not]; exact decide_eq_decide.mpr (by rw [← hb]; omega)
  rw [Option.map_some,e]; exact h
theorem lM {st:SortSt} {n lo hi k:Nat} (hb:∀ i,i<n→∀ (Q:Option Bool→SortSt→Prop),Q (some (decide (i<k))) st→wpS (model prog w) A E s (bey i) Q st)
 (h1:lo≤k) (h2:k≤hi) (h3:hi≤n) (h:Q (some k) st):wpS (model prog w) A E s (lJ bey n lo hi) Q st:=by
 unfold lJ
 refine N3 (OJ (O6 (I:=fun x c st'=>st'=st∧∃ l r,c=(none,l,r)∧l≤k∧k≤r∧r≤n∧r - l≤n - x) (Q:=fun c st'=>st'=st∧∃ l,c=(none,l,k)) ?step ?fin ⟨rfl,lo,hi,rfl,h1,h2,h3,by omega⟩) ?post)
 case fin =>
  rintro c st' ⟨rfl,l,r,rfl,a1,a2,a3,a4⟩
  have:r=k:=by omega
  subst this
  exact ⟨rfl,l,rfl⟩
 case step =>
  rintro x c st' _ hx ⟨rfl,l,r,rfl,a1,a2,a3,a4⟩
  dsimp only
  by_cases hge:l≥r
  ·rw [if_pos hge]
   have:r=k:=by omega
   subst this
   exact N4 ⟨rfl,l,rfl⟩
  ·rw [if_neg hge]
   refine N3 (hb _ (by omega) _ ?_)
   dsimp only
   by_cases hm:l+(r - l) / 2<k
   ·rw [decide_eq_true hm,if_pos rfl]
    exact N4 ⟨rfl,_,_,rfl,by omega,by omega,by omega,by omega⟩
   ·rw [decide_eq_false hm,if_neg Oc]
    exact N4 ⟨rfl,_,_,rfl,by omega,by omega,by omega,by omega⟩
 case post =>
  rintro c st' ⟨rfl,l,rfl⟩
  exact N4 h
theorem fD {st:SortSt} (hC:iQ prog w A s κ rk L) (hk:kindOf st=κ) (hkey:key∈L) (harr:∀ i,i<n→∃ p,arr[base+i]?=some p∧p∈L)
 (hb:∀ i,i<n→((if left=true then R rk arr (base+i)<rk key else R rk arr (base+i)≤rk key)↔i<k)) (hkn:k≤n) (hh:hint<n) (h:Q (some k) st):wpS (model prog w) A E s (cM left key arr base n hint) Q st:=by
 have bey:∀ i,i<n→∀ (Q:Option Bool→SortSt→Prop),Q (some (decide (i<k))) st→wpS (model prog w) A E s (dP left key arr base i) Q st:=fun i hi Q hQ=>by
  obtain ⟨p,e,hp⟩:=harr i hi
  refine t6 hC hk hkey e hp ?_ hQ
  have:=hb i hi
  rw [dQ e] at this
  exact this
 rw [tZ]
 refine N3 (bey hint hh _ ?_)
 dsimp only
 by_cases hr:hint<k
 ·rw [decide_eq_true hr,if_pos rfl]
  unfold AN
  refine N3 (OJ (O6 (I:=fun x c st'=>st'=st∧∃ l o,c=(none,l,o)∧hint+l<k∧x<o) (Q:=fun c st'=>st'=st∧∃ l o,c=(none,l,o)∧hint+l<k∧(k≤hint+o∨n - hint≤o)) ?step ?fin ⟨rfl,0,1,rfl,hr,by omega⟩) ?post)
  case fin =>
   rintro c st' ⟨rfl,l,o,rfl,a1,a2⟩
   exact ⟨rfl,l,o,rfl,a1,.inr (by omega)⟩
  case step =>
   rintro x c st' _ hx ⟨rfl,l,o,rfl,a1,a2⟩
   dsimp only
   by_cases hge:o≥n - hint
   ·rw [if_pos hge]; exact N4 ⟨rfl,l,o,rfl,a1,.inr hge⟩
   ·rw [if_neg hge]
    refine N3 (bey _ (by omega) _ ?_)
    dsimp only
    by_cases hm:hint+o<k
    ·rw [decide_eq_true hm]; simp only [RD,OV,if_false]
     exact N4 ⟨rfl,o,2 * o+1,rfl,hm,by omega⟩
    ·rw [decide_eq_false hm]; simp only [Bool.not_false,if_true]
     exact N4 ⟨rfl,l,o,rfl,a1,.inl (by omega)⟩
  case post =>
   rintro c st' ⟨rfl,l,o,rfl,a1,a2⟩
   dsimp only
   exact lM bey (by omega) (by omega) (by omega) h
 ·rw [decide_eq_false hr,if_neg Oc]
  unfold AO
  refine N3 (OJ (O6 (I:=fun x c st'=>st'=st∧∃ l o,c=(none,l,o)∧l≤hint∧k≤hint - l∧x<o) (Q:=fun c st'=>st'=st∧∃ l o,c=(none,l,o)∧l≤hint∧k≤hint - l∧(hint+1≤k+o∨hint+1≤o)) ?step ?fin ⟨rfl,0,1,rfl,by omega,by omega,by omega⟩) ?post)
  case fin =>
   rintro c st' ⟨rfl,l,o,rfl,a1,a2,a3⟩
   exact ⟨rfl,l,o,rfl,a1,a2,.inr (by omega)⟩
  case step =>
   rintro x c st' _ hx ⟨rfl,l,o,rfl,a1,a2,a3⟩
   dsimp only
   by_cases hge:o≥hint+1
   ·rw [if_pos hge]; exact N4 ⟨rfl,l,o,rfl,a1,a2,.inr hge⟩
   ·rw [if_neg hge]
    refine N3 (bey _ (by omega) _ ?_)
    dsimp only
    by_cases hm:hint - o<k
    ·rw [decide_eq_true hm,if_pos rfl]
     exact N4 ⟨rfl,l,o,rfl,a1,a2,.inl (by omega)⟩
    ·rw [decide_eq_false hm,if_neg Oc]
     exact N4 ⟨rfl,o,2 * o+1,rfl,by omega,by omega,by omega⟩
  case post =>
   rintro c st' ⟨rfl,l,o,rfl,a1,a2,a3⟩
   dsimp only
   exact lM bey (by omega) (by omega) (by omega) h
end
noncomputable def lN:Array Keyed→Array Keyed→StateT SortSt Sem (Array Keyed):=sortPriv% PySem.Builtin.mergeLo
theorem fE {st:SortSt} (h:Q () (Qq (kindOf st) (arrOf st) (pendingOf st) g (failedOf st))):wpS M A E s (cE g) Q st :=
 PR (f:=fun st=>Qq (kindOf st) (arrOf st) (pendingOf st) g (failedOf st)) h
section
variable {rk:Keyed→Int} {a b:Array Keyed}
noncomputable def AQ (rk:Keyed→Int) (xs:List Keyed):Prop:=xs.Pairwise fun p q=>rk p≤rk q
theorem vU (h:xs.length≤1):AQ rk xs:=by
 cases xs with
 | nil=>exact Rr
 | cons x xs =>
  cases xs with
  | nil=>exact QW _ _
  | cons y ys=>simp at h
noncomputable def Res (rk:Keyed→Int) (a b r:Array Keyed):Prop:=r.toList.Perm (a.toList++b.toList)∧AQ rk r.toList
structure WL (rk:Keyed→Int) (a b:Array Keyed) (out:Array Keyed) (ia ib:Nat):Prop where
 pa:ia≤a.size
 pb:ib≤b.size
 pm:out.toList.Perm (a.toList.take ia++b.toList.take ib)
 sr:AQ rk out.toList
 ha:∀ p∈out.toList,∀ (j:Nat) (q:Keyed),ia≤j→a[j]?=some q→rk p≤rk q
 hb:∀ p∈out.toList,∀ (j:Nat) (q:Keyed),ib≤j→b[j]?=some q→rk p≤rk q
noncomputable def Up (rk:Keyed→Int) (a:Array Keyed):Prop:=∀ (i j:Nat) (p q:Keyed),i≤j→a[i]?=some p→a[j]?=some q→rk p≤rk q
theorem jB (h:Up rk a):AQ rk a.toList:=by
 unfold AQ
 rw [Th]
 intro i j hi hj hij
 exact h i j _ _ (Qn hij) (by simp at hi ⊢) (by simp at hj ⊢)
theorem Io (h:AQ rk a.toList):Up rk a:=fun i j p q hij e1 e2=>by
 rw [← OS] at e1 e2
 obtain ⟨h1,r1⟩:=Ob.mp e1
 obtain ⟨h2,r2⟩:=Ob.mp e2
 subst r1 r2
 rcases Nat.lt_or_eq_of_le hij with z | z
 ·exact (Th.mp h) i j h1 h2 z
 ·subst z; exact Pj _
theorem bK (h1:AQ rk xs) (h2:AQ rk ys) (h3:∀ p∈xs,∀ q∈ys,rk p≤rk q):AQ rk (xs++ys):=List.pairwise_append.mpr ⟨h1,h2,h3⟩
theorem dX (xs:Array Keyed) (i j):(xs.extract i j).toList=(xs.toList.take j).drop i:=by
 rw [List.drop_take]; simp [List.extract_eq_take_drop]
theorem gS (xs:Array Keyed) (i):(xs.extract i xs.size).toList=xs.toList.drop i:=by
 rw [dX,Rj (by simp)]
theorem jb (xs:Array Keyed) (i):(xs.extract i i).toList=[]:=by
 rw [dX,List.drop_take]; simp
theorem vV {xs:Array Keyed} (h:q∈(xs.extract i j).toList):∃ k,i≤k∧k<j∧xs[k]?=some q:=by
 obtain ⟨n,hn⟩:=QY h
 rw [OS,R8] at hn
 split at hn
 ·rename_i z
  exact ⟨i+n,by lia,by lia,hn⟩
 ·cases hn
theorem WL.jC (h:WL rk a b out ia ib) (ua:Up rk a) (e:ib=b.size):Res rk a b (out++a.extract ia a.size++b.extract ib b.size):=by
 subst e
 have e0:(out++a.extract ia a.size++b.extract b.size b.size).toList=out.toList++a.toList.drop ia:=by
  rw [Pd,Pd,gS,gS,List.drop_of_length_le (show b.toList.length≤b.size by simp),O5]
 refine ⟨?_,?_⟩
 ·rw [e0]
  have hp:=h.pm
  rw [Rj (show b.toList.length≤b.size by simp)] at hp
  refine (hp.append_right _).trans ?_
  have:(a.toList.take ia++b.toList++a.toList.drop ia).Perm (a.toList.take ia++a.toList.drop ia++b.toList):=by
   rw [Ov,Ov]
   exact QX _ Qx
  rw [PD] at this
  exact this
 ·rw [e0]
  refine bK h.sr ((jB ua).sublist (T9 _ _)) fun p hp q hq=>?_
  obtain ⟨n,hn⟩:=QY hq
  rw [Q3] at hn
  exact h.ha p hp (ia+n) q (by lia) (by rw [← OS]; exact hn)
theorem WL.jD (h:WL rk a b out ia ib) (ub:Up rk b) (e:ia=a.size):Res rk a b (out++a.extract ia a.size++b.extract ib b.size):=by
 subst e
 have e0:(out++a.extract a.size a.size++b.extract ib b.size).toList=out.toList++b.toList.drop ib:=by
  rw [Pd,Pd,gS,gS,List.drop_of_length_le (show a.toList.length≤a.size by simp),O5]
 refine ⟨?_,?_⟩
 ·rw [e0]
  have hp:=h.pm
  rw [Rj (show a.toList.length≤a.size by simp)] at hp
  refine (hp.append_right _).trans ?_
  rw [Ov,PD]
 ·rw [e0]
  refine bK h.sr ((jB ub).sublist (T9 _ _)) fun p hp q hq=>?_
  obtain ⟨n,hn⟩:=QY hq
  rw [Q3] at hn
  exact h.hb p hp (ib+n) q (by lia) (by rw [← OS]; exact hn)
theorem WL.last (h:WL rk a b out ia ib) (ub:Up rk b) (e:ia+1=a.size) (hl:∀ (j:Nat) (p q:Keyed),a[ia]?=some p→b[j]?=some q→rk q≤rk p) :
 Res rk a b (out++b.extract ib b.size++a.extract ia a.size):=by
 have e0:(out++b.extract ib b.size++a.extract ia a.size).toList=out.toList++(b.toList.drop ib++a.toList.drop ia):=by
  rw [Pd,Pd,gS,gS,Ov]
 refine ⟨?_,?_⟩
 ·rw [e0]
  refine (h.pm.append_right _).trans ?_
  have:(a.toList.take ia++b.toList.take ib++(b.toList.drop ib++a.toList.drop ia)).Perm (a.toList.take ia++a.toList.drop ia++(b.toList.take ib++b.toList.drop ib)):=by
   rw [Ov,Ov]
   refine QX _ ?_
   rw [← Ov]
   exact Qx
  rw [PD,PD] at this
  exact this
 ·rw [e0]
  have ml:∀ q∈b.toList.drop ib,∃ j,ib≤j∧b[j]?=some q:=fun q hq=>by
   obtain ⟨n,hn⟩:=QY hq
   rw [Q3] at hn
   exact ⟨ib+n,by lia,by rw [← OS]; exact hn⟩
  have ml2:∀ q∈a.toList.drop ia,a[ia]?=some q:=fun q hq=>by
   obtain ⟨n,hn⟩:=QY hq
   rw [Q3] at hn
   have:=(Ob.mp hn).1
   have hn0:n=0:=by simp at this; lia
   subst hn0
   rw [← OS]; exact hn
  refine bK h.sr (bK ((jB ub).sublist (T9 _ _)) ?_ fun p hp q hq=>?_) fun p hp q hq=>?_
  ·exact vU (by simp; lia)
  ·obtain ⟨j,_,e1⟩:=ml p hp
   exact hl j q p (ml2 q hq) e1
  ·rcases Oz.mp hq with z | z
   ·obtain ⟨j,h1,e1⟩:=ml q z
    exact h.hb p hp j q h1 e1
   ·exact h.ha p hp ia q (N2 _) (ml2 q z)
theorem cN {xs:Array Keyed} (h:xs[i]?=some p):xs.toList.take (i+1)=xs.toList.take i++[p]:=by
 rw [T7,OS,h]; rfl
theorem WL.gj {out:Array Keyed} {ia ib:Nat} {p:Keyed} (h:WL rk a b out ia ib) (ub:Up rk b) (e:b[ib]?=some p) (hl:∀ (j:Nat) (q:Keyed),ia≤j→a[j]?=some q→rk p≤rk q):WL rk a b (out.push p) ia (ib+1) where
 pa:=h.pa
 pb:=(QU.mp e).1
 pm:=by
  rw [OM,cN e,← Ov]
  exact h.pm.append_right _
 sr:=by
  rw [OM]
  exact bK h.sr (QW _ _) fun q hq r hr=>by
   rw [Oi.mp hr]; exact h.hb q hq ib p (N2 _) e
 ha:=fun q hq j r hj er=>by
  rw [OM] at hq
  rcases Oz.mp hq with z | z
  ·exact h.ha q z j r hj er
  ·rw [Oi.mp z]; exact hl j r hj er
 hb:=fun q hq j r hj er=>by
  rw [OM] at hq
  rcases Oz.mp hq with z | z
  ·exact h.hb q z j r (by lia) er
  ·rw [Oi.mp z]; exact ub ib j p r (by lia) e er
theorem WL.gm {out:Array Keyed} {ia ib:Nat} {p:Keyed} (h:WL rk a b out ia ib) (ua:Up rk a) (e:a[ia]?=some p) (hl:∀ (j:Nat) (q:Keyed),ib≤j→b[j]?=some q→rk p≤rk q):WL rk a b (out.push p) (ia+1) ib where
 pa:=(QU.mp e).1
 pb:=h.pb
 pm:=by
  rw [OM,cN e]
  refine (h.pm.append_right _).trans ?_
  rw [Ov,Ov]
  exact QX _ Qx
 sr:=by
  rw [OM]
  exact bK h.sr (QW _ _) fun q hq r hr=>by
   rw [Oi.mp hr]; exact h.ha q hq ia p (N2 _) e
 hb:=fun q hq j r hj er=>by
  rw [OM] at hq
  rcases Oz.mp hq with z | z
  ·exact h.hb q z j r hj er
  ·rw [Oi.mp z]; exact hl j r hj er
 ha:=fun q hq j r hj er=>by
  rw [OM] at hq
  rcases Oz.mp hq with z | z
  ·exact h.ha q z j r (by lia) er
  ·rw [Oi.mp z]; exact ua ia j p r (by lia) e er
theorem WL.qU (h:WL rk a b out ia ib) (ua:Up rk a):∀ (k:Nat),ia+k≤a.size→(∀ (i j:Nat) (p q:Keyed),ia≤i→i<ia+k→ib≤j→a[i]?=some p→b[j]?=some q→rk p≤rk q)→WL rk a b (out++a.extract ia (ia+k)) (ia+k) ib
 | 0,_,_=>by
  have:out++a.extract ia (ia+0)=out:=by
   apply Qs
   rw [Pd,Nat.add_zero,jb,O5]
  rw [this]; exact h
 | k+1,hk,hl=>by
  have ih:=h.qU ua k (by lia) fun i j p q h1 h2=>hl i j p q h1 (by lia)
  have e:a[ia+k]?=some (a[ia+k]'(by lia)):=OA _
  have z:=ih.gm ua e fun j q hj eq=>hl _ j _ q (by lia) (by lia) hj e eq
  have:out++a.extract ia (ia+(k+1))=(out++a.extract ia (ia+k)).push (a[ia+k]'(by lia)):=by
   apply Qs
   simp only [Pd,OM,dX]
   rw [show ia+(k+1)=(ia+k)+1 by lia,cN e,Ut (by simp; lia),Ov]
  rw [this]; exact z
theorem WL.qV (h:WL rk a b out ia ib) (ub:Up rk b):∀ (k:Nat),ib+k≤b.size→(∀ (i j:Nat) (p q:Keyed),ib≤i→i<ib+k→ia≤j→b[i]?=some p→a[j]?=some q→rk p≤rk q)→WL rk a b (out++b.extract ib (ib+k)) ia (ib+k)
 | 0,_,_=>by
  have:out++b.extract ib (ib+0)=out:=by
   apply Qs
   rw [Pd,Nat.add_zero,jb,O5]
  rw [this]; exact h
 | k+1,hk,hl=>by
  have ih:=h.qV ub k (by lia) fun i j p q h1 h2=>hl i j p q h1 (by lia)
  have e:b[ib+k]?=some (b[ib+k]'(by lia)):=OA _
  have z:=ih.gj ub e fun j q hj eq=>hl _ j _ q (by lia) (by lia) hj e eq
  have:out++b.extract ib (ib+(k+1))=(out++b.extract ib (ib+k)).push (b[ib+k]'(by lia)):=by
   apply Qs
   simp only [Pd,OM,dX]
   rw [show ib+(k+1)=(ib+k)+1 by lia,cN e,Ut (by simp; lia),Ov]
  rw [this]; exact z
end
section
variable {prog:Program} {w:World} {A:Around} {E:Value→Shared→Prop} {s:Shared} {L:List Keyed} {κ:SortKind} {rk:Keyed→Int} {a b:Array Keyed}
theorem lO (f:Nat→Int) (c):∀ n,(∀ i j,i≤j→j<n→f i≤f j)→∃ k,k≤n∧∀ i,i<n→(f i≤c↔i<k)
 | 0,_=>⟨0,N2 _,fun i hi=>by lia⟩
 | n+1,hm=>by
  obtain ⟨k,h1,h2⟩:=lO f c n fun i j hij hj=>hm i j hij (by lia)
  by_cases hc:f n≤c
  ·refine ⟨n+1,N2 _,fun i hi=>⟨fun _=>hi,fun _=>?_⟩⟩
   exact OG (hm i n (by lia) (by lia)) hc
  ·refine ⟨k,by lia,fun i hi=>?_⟩
   by_cases hin:i<n
   ·exact h2 i hin
   ·have:i=n:=by lia
    subst this
    exact ⟨fun z=>absurd z hc,fun z=>by lia⟩
theorem lP (f:Nat→Int) (c):∀ n,(∀ i j,i≤j→j<n→f i≤f j)→∃ k,k≤n∧∀ i,i<n→(f i<c↔i<k)
 | 0,_=>⟨0,N2 _,fun i hi=>by lia⟩
 | n+1,hm=>by
  obtain ⟨k,h1,h2⟩:=lP f c n fun i j hij hj=>hm i j hij (by lia)
  by_cases hc:f n<c
  ·refine ⟨n+1,N2 _,fun i hi=>⟨fun _=>hi,fun _=>?_⟩⟩
   exact Sn (hm i n (by lia) (by lia)) hc
  ·refine ⟨k,by lia,fun i hi=>?_⟩
   by_cases hin:i<n
   ·exact h2 i hin
   ·have:i=n:=by lia
    subst this
    exact ⟨fun z=>absurd z hc,fun z=>by lia⟩
theorem Lk (h:Up rk a) (hij:i≤j) (hj:j<a.size):R rk a i≤R rk a j:=by
 have e1:a[i]?=some (a[i]'(by lia)):=OA _
 have e2:a[j]?=some a[j]:=OA _
 rw [dQ e1,dQ e2]
 exact h i j _ _ hij e1 e2
structure cO (st st':SortSt):Prop where
 k:kindOf st'=kindOf st
 a:arrOf st'=arrOf st
 p:pendingOf st'=pendingOf st
 f:failedOf st'=failedOf st
theorem cO.refl (st:SortSt):cO st st:=⟨rfl,rfl,rfl,rfl⟩
theorem cO.min {st st':SortSt} (h:cO st st') (g):cO st (Qq (kindOf st') (arrOf st') (pendingOf st') g (failedOf st')):=⟨h.k,h.a,h.p,h.f⟩
theorem cO.trans (h:cO s1 s2) (g:cO s2 s3):cO s1 s3:=⟨g.k.trans h.k,g.a.trans h.a,g.p.trans h.p,g.f.trans h.f⟩
theorem qW {st:SortSt} (hC:iQ prog w A s κ rk L) (hk:kindOf st=κ) (hkey:key∈L) (mx:∀ (i:Nat) (p:Keyed),xs[i]?=some p→p∈L) (ux:Up rk xs) (n) (hn:base+n≤xs.size) (hh:hint<n)
 (h:∀ k,k≤n→(∀ (i:Nat) (p:Keyed),i<k→xs[base+i]?=some p→rk p≤rk key)→(∀ (i:Nat) (p:Keyed),k≤i→base+i<base+n→xs[base+i]?=some p→rk key<rk p)→Q (some k) st) :
 wpS (model prog w) A E s (cM false key xs base n hint) Q st:=by
 obtain ⟨k,h1,h2⟩:=lO (fun i=>R rk xs (base+i)) (rk key) n fun i j hij hj=>Lk ux (by lia) (by lia)
 refine fD hC hk hkey (fun i hi=>⟨xs[base+i]'(by lia),OA _,mx _ _ (OA _)⟩) (fun i hi=>by simp only [OV,if_false]; exact h2 i hi) h1 hh (h k h1 (fun i p hi e=>?_) fun i p hi hb e=>?_)
 ·have:=(h2 i (by lia)).mpr hi
  rw [dQ e] at this; exact this
 ·have:=mt (h2 i (by lia)).mp (by lia)
  rw [dQ e] at this; lia
theorem qX {st:SortSt} (hC:iQ prog w A s κ rk L) (hk:kindOf st=κ) (hkey:key∈L) (mx:∀ (i:Nat) (p:Keyed),xs[i]?=some p→p∈L) (ux:Up rk xs) (n) (hn:base+n≤xs.size) (hh:hint<n)
 (h:∀ k,k≤n→(∀ (i:Nat) (p:Keyed),i<k→xs[base+i]?=some p→rk p<rk key)→(∀ (i:Nat) (p:Keyed),k≤i→base+i<base+n→xs[base+i]?=some p→rk key≤rk p)→Q (some k) st) :
 wpS (model prog w) A E s (cM true key xs base n hint) Q st:=by
 obtain ⟨k,h1,h2⟩:=lP (fun i=>R rk xs (base+i)) (rk key) n fun i j hij hj=>Lk ux (by lia) (by lia)
 refine fD hC hk hkey (fun i hi=>⟨xs[base+i]'(by lia),OA _,mx _ _ (OA _)⟩) (fun i hi=>by simp only [if_true]; exact h2 i hi) h1 hh (h k h1 (fun i p hi e=>?_) fun i p hi hb e=>?_)
 ·have:=(h2 i (by lia)).mpr hi
  rw [dQ e] at this; exact this
 ·have:=mt (h2 i (by lia)).mp (by lia)
  rw [dQ e] at this; lia
structure mS (rk:Keyed→Int) (a b out:Array Keyed) (ia ib:Nat):Prop where
 w:WL rk a b out ia ib
 la:ia+1<a.size
 lb:ib<b.size
end
section
local macro_rules | `(tactic| walk_at "dl mergeLo")=>do
 let i:=QG (Qw `PySem.Builtin.List.W1All `PySem.Builtin.mergeLo)
 `(tactic| delta $i)
noncomputable abbrev AR:=Option (Array Keyed)×Array Keyed×Nat×Nat×Nat×Nat×Nat
noncomputable def F9 (a b out:Array Keyed) (ia ib:Nat):Array Keyed:=out++a.extract ia a.size++b.extract ib b.size
noncomputable def Dj (a b out:Array Keyed) (ia ib:Nat):Array Keyed:=out++b.extract ib b.size++a.extract ia a.size
noncomputable def vW (a b:Array Keyed) (mg ac bc ia ib:Nat) (out:Array Keyed):StateT SortSt Sem (ForInStep AR):=do
 let p ← elem' a ia
 if (ia+1+1 == a.size)=true then pure (.done (some (Dj a b (out.push p) (ia+1) ib),out.push p,ia+1,ib,mg,ac,bc))
 else if (decide (ac<7) && decide (bc<7))=true then pure (.done (none,out.push p,ia+1,ib,mg,ac,bc))
 else pure (.yield (none,out.push p,ia+1,ib,mg,ac,bc))
noncomputable def vX (a b:Array Keyed) (mg ac bc ia ib:Nat) (out:Array Keyed):StateT SortSt Sem (ForInStep AR):=do
 let q ← elem' b ib
 if (ib+1 == b.size)=true then pure (.done (some (F9 a b (out.push q) ia (ib+1)),out.push q,ia,ib+1,mg,ac,bc))
 else do
  let p ← elem' a ia
  let x ← cM true p b (ib+1) (b.size - (ib+1)) 0
  match x with
  | some k=>(if k>0 then
   (if (ib+1+k == b.size)=true then pure (.done (some (F9 a b (out.push q++b.extract (ib+1) (ib+1+k)) ia (ib+1+k)),out.push q++b.extract (ib+1) (ib+1+k),ia,ib+1+k,mg,ac,k))
    else vW a b mg ac k ia (ib+1+k) (out.push q++b.extract (ib+1) (ib+1+k)))
   else vW a b mg ac k ia (ib+1) (out.push q))
  | _=>pure (.done (some (F9 a b (out.push q) ia (ib+1)),out.push q,ia,ib+1,mg,ac,bc))
noncomputable def vY (a b:Array Keyed) (mg ac bc ia ib:Nat) (out:Array Keyed):StateT SortSt Sem (ForInStep AR):=do
 cE mg
 let q ← elem' b ib
 let x ← cM false q a ia (a.size - ia) 0
 match x with
 | some k=>(if k>0 then
  (if (ia+k+1 == a.size)=true then pure (.done (some (Dj a b (out++a.extract ia (ia+k)) (ia+k) ib),out++a.extract ia (ia+k),ia+k,ib,mg,k,bc))
   else if (ia+k == a.size)=true then pure (.done (some (F9 a b (out++a.extract ia (ia+k)) (ia+k) ib),out++a.extract ia (ia+k),ia+k,ib,mg,k,bc))
   else vX a b mg k bc (ia+k) ib (out++a.extract ia (ia+k)))
  else vX a b mg k bc ia ib out)
 | _=>pure (.done (some (F9 a b out ia ib),out,ia,ib,mg,ac,bc))
noncomputable def AS (a b:Array Keyed) (c:AR):StateT SortSt Sem (ForInStep AR) :=
 if c.2.2.2.2.1>1 then vY a b (c.2.2.2.2.1 - 1) c.2.2.2.2.2.1 c.2.2.2.2.2.2 c.2.2.1 c.2.2.2.1 c.2.1 else vY a b c.2.2.2.2.1 c.2.2.2.2.2.1 c.2.2.2.2.2.2 c.2.2.1 c.2.2.2.1 c.2.1
noncomputable abbrev Ip:=Option (Array Keyed)×Array Keyed×Nat×Nat×Nat×Nat
noncomputable def AU (a b:Array Keyed) (mg:Nat) (c:Ip):StateT SortSt Sem (ForInStep Ip):=do
 let q ← elem' b c.2.2.2.1
 let p ← elem' a c.2.2.1
 let x ← lt' q p
 match x with
 | some y=>(if y=true then (do
  let q ← elem' b c.2.2.2.1
  if (c.2.2.2.1+1 == b.size)=true then pure (.done (some (F9 a b (c.2.1.push q) c.2.2.1 (c.2.2.2.1+1)),c.2.1.push q,c.2.2.1,c.2.2.2.1+1,0,c.2.2.2.2.2+1))
  else if c.2.2.2.2.2+1≥mg then pure (.done (none,c.2.1.push q,c.2.2.1,c.2.2.2.1+1,0,c.2.2.2.2.2+1))
  else pure (.yield (none,c.2.1.push q,c.2.2.1,c.2.2.2.1+1,0,c.2.2.2.2.2+1)))
  else (do
   let p ← elem' a c.2.2.1
   if (c.2.2.1+1+1 == a.size)=true then pure (.done (some (Dj a b (c.2.1.push p) (c.2.2.1+1) c.2.2.2.1),c.2.1.push p,c.2.2.1+1,c.2.2.2.1,c.2.2.2.2.1+1,0))
   else if c.2.2.2.2.1+1≥mg then pure (.done (none,c.2.1.push p,c.2.2.1+1,c.2.2.2.1,c.2.2.2.2.1+1,0))
   else pure (.yield (none,c.2.1.push p,c.2.2.1+1,c.2.2.2.1,c.2.2.2.2.1+1,0))))
 | _=>pure (.done (some (F9 a b c.2.1 c.2.2.1 c.2.2.2.1),c.2.1,c.2.2.1,c.2.2.2.1,c.2.2.2.2.1,c.2.2.2.2.2))
noncomputable abbrev Es:=Option (Array Keyed)×Array Keyed×Nat×Nat×Nat
noncomputable def o5 (a b:Array Keyed) (c:Es):StateT SortSt Sem (ForInStep Es):=do
 let s ← forIn [:a.size+b.size] ((none,c.2.1,c.2.2.1,c.2.2.2.1,0,0):Ip) fun _ s=>AU a b c.2.2.2.2 s
 match s.1 with
 | some r=>pure (.done (some r,s.2.1,s.2.2.1,s.2.2.2.1,c.2.2.2.2))
 | none=>do
  liftM (rule "list.sort.gallop")
  let t ← forIn [:a.size+b.size] ((none,s.2.1,s.2.2.1,s.2.2.2.1,c.2.2.2.2+1,s.2.2.2.2.1,s.2.2.2.2.2):AR) fun _ t=>AS a b t
  match t.1 with
  | some r=>pure (.done (some r,t.2.1,t.2.2.1,t.2.2.2.1,t.2.2.2.2.1))
  | none=>do
   cE (t.2.2.2.2.1+1)
   pure (.yield (none,t.2.1,t.2.2.1,t.2.2.2.1,t.2.2.2.2.1+1))
theorem qY (a b):lN a b=(do
 liftM (rule "list.sort.merge-lo")
 let p ← elem' b 0
 if (1 == b.size)=true then pure (F9 a b #[p] 0 1)
 else if (0+1 == a.size)=true then pure (Dj a b #[p] 0 1)
 else do
  let st ← get
  let s ← forIn [:a.size+b.size] ((none,#[p],0,1,gallopOf st):Es) fun _ c=>o5 a b c
  match s.1 with
  | some r=>pure r
  | none=>liftM (unsupported (α:=Array Keyed) "internal:list.sort.merge-bound")):=by
 unfold lN
 walk_at "dl mergeLo"
 dsimp only
 refine congrArg _ (funext fun _=>?_)
 refine congrArg _ (funext fun p=>?_)
 refine congrArg _ (congrArg _ ?_)
 refine congrArg _ (funext fun st=>?_)
 have e:∀ (f g:Nat→Es→StateT SortSt Sem (ForInStep Es)) (c:Es) (k:Es→StateT SortSt Sem (Array Keyed)),f=g→(forIn [:a.size+b.size] c f >>= k)=(forIn [:a.size+b.size] c g >>= k):=fun _ _ _ _ h=>by rw [h]
 refine (e _ _ _ _ (funext fun _=>funext fun c=>?_)).trans (congrArg _ (funext fun s=>?_))
 ·obtain ⟨o,out,ia,ib,mg⟩:=c
  unfold o5
  dsimp only
  have e2:∀ (f g:Nat→Ip→StateT SortSt Sem (ForInStep Ip)) (c:Ip) (k l:Ip→StateT SortSt Sem (ForInStep Es)),f=g→k=l→(forIn [:a.size+b.size] c f >>= k)=(forIn [:a.size+b.size] c g >>= l):=fun _ _ _ _ _ h h2=>by rw [h,h2]
  refine e2 _ _ _ _ _ (funext fun _=>funext fun c=>?_) (funext fun s=>?_)
  ·rfl
  ·obtain ⟨o,out,ia,ib,ac,bc⟩:=s
   cases o with
   | some r=>rfl
   | none =>
    dsimp only
    refine congrArg _ (funext fun _=>?_)
    have e3:∀ (f g:Nat→AR→StateT SortSt Sem (ForInStep AR)) (c:AR) (k l:AR→StateT SortSt Sem (ForInStep Es)),f=g→k=l→(forIn [:a.size+b.size] c f >>= k)=(forIn [:a.size+b.size] c g >>= l):=fun _ _ _ _ _ h h2=>by rw [h,h2]
    refine e3 _ _ _ _ _ (funext fun _=>funext fun c=>?_) (funext fun s=>?_)
    ·rfl
    ·obtain ⟨o,s⟩:=s
     cases o <;> rfl
 ·obtain ⟨o,s⟩:=s
  cases o <;> rfl
end
theorem some_at {xs:Array Keyed} (h:i<xs.size):∃ p,xs[i]?=some p:=⟨xs[i],OA h⟩
section
noncomputable def Et (rk:Keyed→Int) (a b:Array Keyed) (n:Nat) (o:Option (Array Keyed)) (ia ib:Nat) (out:Array Keyed):Prop:=(∃ r,o=some r∧Res rk a b r)∨(o=none∧mS rk a b out ia ib∧n≤ia+ib)
noncomputable def Eu (rk:Keyed→Int) (a b:Array Keyed) (n:Nat):ForInStep AR→Prop
 | .done c=>Et rk a b n c.1 c.2.2.1 c.2.2.2.1 c.2.1
 | .yield c=>c.1=none∧mS rk a b c.2.1 c.2.2.1 c.2.2.2.1∧n≤c.2.2.1+c.2.2.2.1
theorem nN {st:SortSt} (lA:∀ {out:Array Keyed} {ia ib:Nat},WL rk a b out ia ib→ia+1=a.size→Res rk a b (Dj a b out ia ib)) (W:WL rk a b out ia ib) (ua:Up rk a) (la:ia+1<a.size) (lb:ib<b.size) (ep:a[ia]?=some p)
 (hl:∀ (j:Nat) (r:Keyed),ib≤j→b[j]?=some r→rk p≤rk r) (hn:n≤ia+1+ib) (hQ:∀ x,Eu rk a b n x→Q x st):wpS (model prog w) A E s (vW a b mg ac bc ia ib out) Q st:=by
 unfold vW
 have W4:=W.gm ua ep hl
 refine N3 (aO ep ?_)
 by_cases e9:ia+1+1=a.size
 ·rw [if_pos (by simpa using e9)]
  exact N4 (hQ _ (.inl ⟨_,rfl,lA W4 e9⟩))
 rw [if_neg (by simpa using e9)]
 have hL:mS rk a b (out.push p) (ia+1) ib:=⟨W4,Nat.lt_of_le_of_ne la e9,lb⟩
 split
 ·exact N4 (hQ _ (.inr ⟨rfl,hL,hn⟩))
 ·exact N4 (hQ _ ⟨rfl,hL,hn⟩)
theorem o6 {xs:Array Keyed} {i j:Nat} (h:i≤j) (e:xs[j]?=some p):xs[i+(j - i)]?=some p:=by rw [TM h]; exact e
theorem nO {st:SortSt} (hC:iQ prog w A s κ rk L) (hk:kindOf st=κ) (ma:∀ (i:Nat) (p:Keyed),a[i]?=some p→p∈L) (mb:∀ (i:Nat) (p:Keyed),b[i]?=some p→p∈L)
 (lA:∀ {out:Array Keyed} {ia ib:Nat},WL rk a b out ia ib→ia+1=a.size→Res rk a b (Dj a b out ia ib)) (W:WL rk a b out ia ib) (ua:Up rk a) (ub:Up rk b) (la:ia+1<a.size) (lb:ib<b.size) (eq:b[ib]?=some q)
 (hl:∀ (j:Nat) (r:Keyed),ia≤j→a[j]?=some r→rk q≤rk r) (hn:n≤ia+ib+2) (hQ:∀ x,Eu rk a b n x→Q x st):wpS (model prog w) A E s (vX a b mg ac bc ia ib out) Q st:=by
 unfold vX
 have W2:=W.gj ub eq hl
 refine N3 (aO eq ?_)
 by_cases e5:ib+1=b.size
 ·rw [if_pos (by simpa using e5)]
  exact N4 (hQ _ (.inl ⟨_,rfl,W2.jC ua e5⟩))
 rw [if_neg (by simpa using e5)]
 obtain ⟨p,ep⟩:=some_at (xs:=a) (i:=ia) (by lia)
 refine N3 (aO ep ?_)
 refine N3 (qX hC hk (ma _ _ ep) mb ub _ (by lia) (by lia) fun k hj1 hj2 hj3=>?_)
 dsimp only
 have W3:=W2.qV ub k (by lia) fun i j r p' z1 z2 z3 e6 e7=>OG (Qa (hj2 (i - (ib+1)) r (by lia) (o6 z1 e6))) (ua ia j p p' z3 ep e7)
 have bwd:∀ (j:Nat) (r:Keyed),ib+1+k≤j→b[j]?=some r→rk p≤rk r:=fun j r hj e6=>hj3 (j - (ib+1)) r (by lia) (by have:=(QU.mp e6).1; lia) (o6 (N8 (Q5 _ _) hj) e6)
 by_cases hj0:k>0
 ·rw [if_pos hj0]
  by_cases e8:ib+1+k=b.size
  ·rw [if_pos (by simpa using e8)]
   exact N4 (hQ _ (.inl ⟨_,rfl,W3.jC ua e8⟩))
  rw [if_neg (by simpa using e8)]
  exact nN lA W3 ua la (by lia) ep bwd (by lia) hQ
 ·rw [if_neg hj0]
  exact nN lA W2 ua la (by lia) ep (fun j r hj e6=>bwd j r (by lia) e6) (by lia) hQ
theorem nP {st:SortSt} (hC:iQ prog w A s κ rk L) (hk:kindOf st=κ) (ma:∀ (i:Nat) (p:Keyed),a[i]?=some p→p∈L) (mb:∀ (i:Nat) (p:Keyed),b[i]?=some p→p∈L)
 (lA:∀ {out:Array Keyed} {ia ib:Nat},WL rk a b out ia ib→ia+1=a.size→Res rk a b (Dj a b out ia ib)) (ua:Up rk a) (ub:Up rk b) (hL:mS rk a b out ia ib) (hn:n≤ia+ib) (hQ:∀ x st',cO st st'→Eu rk a b n x→Q x st') :
 wpS (model prog w) A E s (vY a b mg ac bc ia ib out) Q st:=by
 unfold vY
 have W:=hL.w
 have la:=hL.la
 have lb:=hL.lb
 obtain ⟨q,eq⟩:=some_at (xs:=b) lb
 refine N3 (fE ?_)
 have GH:=fun x=>hQ x _ ((cO.refl st).min mg)
 refine N3 (aO eq ?_)
 refine N3 (qW hC (by exact hk) (mb _ _ eq) ma ua _ (by lia) (by lia) fun k hk1 hk2 hk3=>?_)
 dsimp only
 have Wk:=W.qU ua k (by lia) fun i j p r z1 z2 z3 e3 e4=>OG (hk2 (i - ia) p (by lia) (o6 z1 e3)) (ub ib j q r z3 eq e4)
 have fwd:∀ (j:Nat) (r:Keyed),ia+k≤j→a[j]?=some r→rk q≤rk r:=fun j r hj e3=>Qa (hk3 (j - ia) r (by lia) (by have:=(QU.mp e3).1; lia) (o6 (N8 (Q5 _ _) hj) e3))
 by_cases hk0:k>0
 ·rw [if_pos hk0]
  by_cases e3:ia+k+1=a.size
  ·rw [if_pos (by simpa using e3)]
   exact N4 (GH _ (.inl ⟨_,rfl,lA Wk e3⟩))
  rw [if_neg (by simpa using e3)]
  by_cases e4:ia+k=a.size
  ·rw [if_pos (by simpa using e4)]
   exact N4 (GH _ (.inl ⟨_,rfl,Wk.jD ub e4⟩))
  rw [if_neg (by simpa using e4)]
  exact nO hC (by exact hk) ma mb lA Wk ua ub (by lia) lb eq fwd (by lia) GH
 ·rw [if_neg hk0]
  exact nO hC (by exact hk) ma mb lA W ua ub la lb eq (fun j r hj e3=>fwd j r (by lia) e3) (by lia) GH
theorem x8 {st:SortSt} (hC:iQ prog w A s κ rk L) (hk:kindOf st=κ) (ma:∀ (i:Nat) (p:Keyed),a[i]?=some p→p∈L) (mb:∀ (i:Nat) (p:Keyed),b[i]?=some p→p∈L)
 (lA:∀ {out:Array Keyed} {ia ib:Nat},WL rk a b out ia ib→ia+1=a.size→Res rk a b (Dj a b out ia ib)) (ua:Up rk a) (ub:Up rk b) (hL:mS rk a b c.2.1 c.2.2.1 c.2.2.2.1) (hn:n≤c.2.2.1+c.2.2.2.1+1)
 (hQ:∀ o ia ib out z y,Et rk a b n o ia ib out→Q (.done (o,out,ia,ib,z)) st∧(o=none→Q (.yield (none,out,ia,ib,y)) st)):wpS (model prog w) A E s (AU a b mg c) Q st:=by
 obtain ⟨_,out,ia,ib,ac,bc⟩:=c
 unfold AU
 dsimp only at hL hn ⊢
 have W:=hL.w
 have la:=hL.la
 have lb:=hL.lb
 obtain ⟨q,eq⟩:=some_at (xs:=b) lb
 obtain ⟨p,ep⟩:=some_at (xs:=a) (Nat.lt_of_succ_lt la)
 refine N3 (aO eq (N3 (aO ep (N3 (lK hC hk (mb _ _ eq) (ma _ _ ep) ?_)))))
 dsimp only
 by_cases hw:rk q<rk p
 ·rw [decide_eq_true hw,if_pos rfl]
  have W1:=W.gj ub eq fun j r hj e=>OG (Qa hw) (ua ia j p r hj ep e)
  refine N3 (aO eq ?_)
  by_cases e3:ib+1=b.size
  ·rw [if_pos (by simpa using e3)]
   exact N4 (hQ _ _ _ _ _ (0,0) (.inl ⟨_,rfl,W1.jC ua e3⟩)).1
  rw [if_neg (by simpa using e3)]
  have z:=hQ none ia (ib+1) (out.push q) (0,bc+1) (0,bc+1) (.inr ⟨rfl,⟨W1,la,by lia⟩,by lia⟩)
  split
  ·exact N4 z.1
  ·exact N4 (z.2 rfl)
 ·rw [decide_eq_false hw,if_neg Oc]
  have W1:=W.gm ua ep fun j r hj e=>OG (Int.not_lt.mp hw) (ub ib j q r hj eq e)
  refine N3 (aO ep ?_)
  by_cases e3:ia+1+1=a.size
  ·rw [if_pos (by simpa using e3)]
   exact N4 (hQ _ _ _ _ _ (0,0) (.inl ⟨_,rfl,lA W1 e3⟩)).1
  rw [if_neg (by simpa using e3)]
  have z:=hQ none (ia+1) ib (out.push p) (ac+1,0) (ac+1,0) (.inr ⟨rfl,⟨W1,by lia,lb⟩,by lia⟩)
  split
  ·exact N4 z.1
  ·exact N4 (z.2 rfl)
theorem t8 {st:SortSt} (hC:iQ prog w A s κ rk L) (hk:kindOf st=κ) (ma:∀ (i:Nat) (p:Keyed),a[i]?=some p→p∈L) (mb:∀ (i:Nat) (p:Keyed),b[i]?=some p→p∈L)
 (lA:∀ {out:Array Keyed} {ia ib:Nat},WL rk a b out ia ib→ia+1=a.size→Res rk a b (Dj a b out ia ib)) (ua:Up rk a) (ub:Up rk b) (hL:mS rk a b c.2.1 c.2.2.1 c.2.2.2.1) (hn:n≤c.2.2.1+c.2.2.2.1+1)
 (h1:∀ r z st',cO st st'→Res rk a b r→Q (.done (some r,z)) st') (h2:∀ ia ib out g st',cO st st'→mS rk a b out ia ib→n≤ia+ib→Q (.yield (none,out,ia,ib,g)) st'):wpS (model prog w) A E s (o5 a b c) Q st:=by
 unfold o5
 refine N3 (OJ (O6 (I:=fun y c st'=>st'=st∧c.1=none∧mS rk a b c.2.1 c.2.2.1 c.2.2.2.1∧n+y≤c.2.2.1+c.2.2.2.1+1) (Q:=fun c st'=>st'=st∧Et rk a b n c.1 c.2.2.1 c.2.2.2.1 c.2.1) ?step ?fin ⟨rfl,rfl,hL,hn⟩) ?post)
 case fin =>
  rintro c st' ⟨rfl,hc,hL',hx⟩
  exact ⟨rfl,.inr ⟨hc,hL',by have:=hL'.la; have:=hL'.lb; lia⟩⟩
 case step =>
  rintro y c st' _ hy ⟨rfl,_,hL',hx⟩
  refine x8 (n:=n+y) hC hk ma mb lA ua ub hL' hx fun o ia ib out z y hR=>⟨?_,?_⟩
  ·refine ⟨rfl,?_⟩
   rcases hR with hR | ⟨q1,q2,q3⟩
   ·exact .inl hR
   ·exact .inr ⟨q1,q2,N8 (Q5 _ _) q3⟩
  ·rintro rfl
   rcases hR with ⟨_,q,_⟩ | ⟨q1,q2,q3⟩
   ·cases q
   ·exact ⟨rfl,rfl,q2,Sx q3⟩
 case post =>
  rintro ⟨o,out,ia,ib,ac,bc⟩ st' ⟨rfl,hR⟩
  dsimp only at hR ⊢
  rcases hR with ⟨r,rfl,hr⟩ | ⟨rfl,hL2,hn2⟩
  ·exact N4 (h1 r _ _ (.refl _) hr)
  refine N3 (Qt (Pk ⟨rfl,?_⟩))
  refine N3 (OJ (O6 (I:=fun y c st''=>cO st' st''∧c.1=none∧mS rk a b c.2.1 c.2.2.1 c.2.2.2.1∧n≤c.2.2.1+c.2.2.2.1) (Q:=fun c st''=>cO st' st''∧Et rk a b n c.1 c.2.2.1 c.2.2.2.1 c.2.1) ?gstep ?gfin ⟨.refl _,rfl,hL2,hn2⟩) ?gpost)
  case gfin=>exact fun c st'' ⟨q1,q2,q3,q4⟩=>⟨q1,.inr ⟨q2,q3,q4⟩⟩
  case gstep =>
   rintro y c st'' _ _ ⟨q1,q2,q3,q4⟩
   have key:wpS (model prog w) A E s (AS a b c) (fun x st3=>cO st'' st3∧Eu rk a b n x) st'':=by
    unfold AS
    split
    ·exact nP hC (q1.k.trans hk) ma mb lA ua ub q3 q4 fun x st3 k h=>⟨k,h⟩
    ·exact nP hC (q1.k.trans hk) ma mb lA ua ub q3 q4 fun x st3 k h=>⟨k,h⟩
   refine OJ key fun x st3 ⟨k,h⟩=>?_
   cases x with
   | done c=>exact ⟨q1.trans k,h⟩
   | yield c=>exact ⟨q1.trans k,h⟩
  case gpost =>
   rintro ⟨o,out,ia,ib,g,ac,bc⟩ st'' ⟨q1,hR⟩
   dsimp only at hR ⊢
   rcases hR with ⟨r,rfl,hr⟩ | ⟨rfl,hL3,hn3⟩
   ·exact N4 (h1 r _ _ q1 hr)
   ·exact N3 (fE (N4 (h2 _ _ _ _ _ (q1.min _) hL3 hn3)))
theorem qZ {st:SortSt} (hC:iQ prog w A s κ rk L) (hk:kindOf st=κ) (ma:∀ (i:Nat) (p:Keyed),a[i]?=some p→p∈L) (mb:∀ (i:Nat) (p:Keyed),b[i]?=some p→p∈L) (ua:Up rk a) (ub:Up rk b) (na:1≤a.size) (nb:1≤b.size)
 (h0:∀ p q,a[0]?=some p→b[0]?=some q→rk q≤rk p) (hl:∀ (j:Nat) (p q:Keyed),a[a.size - 1]?=some p→b[j]?=some q→rk q≤rk p) (h:∀ r st',Res rk a b r→cO st st'→Q r st'):wpS (model prog w) A E s (lN a b) Q st:=by
 have lastA:∀ {out:Array Keyed} {ia ib:Nat},WL rk a b out ia ib→ia+1=a.size→Res rk a b (Dj a b out ia ib):=fun hw e=>hw.last ub e fun j p q e1 e2=>hl j p q (by rw [← e]; exact e1) e2
 obtain ⟨q0,eq0⟩:=some_at (xs:=b) (i:=0) nb
 obtain ⟨p0,ep0⟩:=some_at (xs:=a) (i:=0) na
 have W0:WL rk a b #[q0] 0 1:=by
  have z:WL rk a b #[] 0 0:=⟨OH _,OH _,by simp,Rr,by simp,by simp⟩
  exact z.gj ub eq0 fun j q _ e=>OG (h0 p0 q0 ep0 eq0) (ua 0 j p0 q (OH _) ep0 e)
 rw [qY]
 refine N3 (Qt (Pk ⟨rfl,?_⟩))
 refine N3 (aO eq0 ?_)
 by_cases e1:1=b.size
 ·rw [if_pos (by simpa using e1)]
  exact N4 (h _ _ (W0.jC ua e1) (.refl _))
 rw [if_neg (by simpa using e1)]
 by_cases e2:0+1=a.size
 ·rw [if_pos (by simpa using e2)]
  exact N4 (h _ _ (lastA W0 e2) (.refl _))
 rw [if_neg (by simpa using e2)]
 refine N3 (Pw ?_)
 refine N3 (OJ (O6 (I:=fun x c st'=>cO st st'∧c.1=none∧mS rk a b c.2.1 c.2.2.1 c.2.2.2.1∧x+1≤c.2.2.1+c.2.2.2.1) (Q:=fun c st'=>cO st st'∧∃ r,c.1=some r∧Res rk a b r) ?step ?fin ⟨.refl _,rfl,⟨W0,by dsimp only; lia,by dsimp only; lia⟩,by dsimp only; lia⟩) ?post)
 case fin =>
  rintro c st' ⟨hK,hc,hL,hx⟩
  have h1:=hL.la
  have h2:=hL.lb
  lia
 case post =>
  rintro c st' ⟨hK,r,hc,hr⟩
  rw [hc]
  exact N4 (h r st' hr hK)
 case step =>
  rintro x c st1 _ hx ⟨hK,_,hL,hn⟩
  exact t8 (n:=x+2) hC (hK.k.trans hk) ma mb lastA ua ub hL (Sx hn) (fun r z st' k hr=>⟨hK.trans k,r,rfl,hr⟩) fun ia ib out g st' k q1 q2=>⟨hK.trans k,rfl,q1,q2⟩
end
noncomputable def lQ:Array Keyed→Array Keyed→StateT SortSt Sem (Array Keyed):=sortPriv% PySem.Builtin.mergeHi
local macro_rules | `(tactic| walk_at "dl mergeHi")=>do
 let i:=QG (Qw `PySem.Builtin.List.W1All `PySem.Builtin.mergeHi)
 `(tactic| delta $i)
section
variable {rk:Keyed→Int} {a b:Array Keyed}
structure WH (rk:Keyed→Int) (a b:Array Keyed) (out:Array Keyed) (na nb:Nat):Prop where
 pa:na≤a.size
 pb:nb≤b.size
 pm:out.toList.Perm (a.toList.drop na++b.toList.drop nb)
 sr:AQ rk out.toList.reverse
 ha:∀ p∈out.toList,∀ (j:Nat) (q:Keyed),j<na→a[j]?=some q→rk q≤rk p
 hb:∀ p∈out.toList,∀ (j:Nat) (q:Keyed),j<nb→b[j]?=some q→rk q≤rk p
theorem di (xs:Array Keyed) (i):(xs.extract 0 i).toList=xs.toList.take i:=by rw [dX,List.drop_zero]
theorem jc {xs:Array Keyed} (h:q∈xs.toList.take i):∃ j,j<i∧xs[j]?=some q:=by
 obtain ⟨n,hn⟩:=QY h
 have hl:=(Ob.mp hn).1
 rw [Pb] at hl
 rw [R1 (by lia)] at hn
 exact ⟨n,by lia,by rw [← OS]; exact hn⟩
theorem WH.res (h:WH rk a b out na nb) (x) (hx:x.toList.Perm (a.toList.take na++b.toList.take nb)) (hs:AQ rk x.toList):Res rk a b (x++out.reverse):=by
 have e0:(x++out.reverse).toList=x.toList++out.toList.reverse:=by simp
 refine ⟨?_,?_⟩
 ·rw [e0]
  refine (hx.append ((Ss _).trans h.pm)).trans ?_
  have:(a.toList.take na++b.toList.take nb++(a.toList.drop na++b.toList.drop nb)).Perm (a.toList.take na++a.toList.drop na++(b.toList.take nb++b.toList.drop nb)):=by
   rw [Ov,Ov]
   refine QX _ ?_
   rw [← Ov,← Ov]
   exact List.Perm.append_right _ Qx
  rw [PD,PD] at this
  exact this
 ·rw [e0]
  refine bK hs h.sr fun p hp q hq=>?_
  have hq':q∈out.toList:=by simpa using hq
  rcases Oz.mp (hx.mem_iff.mp hp) with z | z
  ·obtain ⟨j,h1,e⟩:=jc z
   exact h.ha q hq' j p h1 e
  ·obtain ⟨j,h1,e⟩:=jc z
   exact h.hb q hq' j p h1 e
theorem WH.jD (h:WH rk a b out na nb) (ub:Up rk b) (e:na=0):Res rk a b (a.extract 0 na++b.extract 0 nb++out.reverse):=by
 subst e
 refine h.res _ ?_ ?_
 ·simp [di]
 ·have:(a.extract 0 0++b.extract 0 nb).toList=b.toList.take nb:=by rw [Pd,di,di]; simp
  rw [this]; exact (jB ub).sublist (Sq _ _)
theorem WH.jC (h:WH rk a b out na nb) (ua:Up rk a) (e:nb=0):Res rk a b (a.extract 0 na++b.extract 0 nb++out.reverse):=by
 subst e
 refine h.res _ ?_ ?_
 ·simp [di]
 ·have:(a.extract 0 na++b.extract 0 0).toList=a.toList.take na:=by rw [Pd,di,di]; simp
  rw [this]; exact (jB ua).sublist (Sq _ _)
theorem WH.first (h:WH rk a b out na nb) (ua:Up rk a) (e:nb=1) (hf:∀ (j:Nat) (p q:Keyed),a[j]?=some p→b[0]?=some q→rk q≤rk p) :
 Res rk a b (b.extract 0 nb++a.extract 0 na++out.reverse):=by
 subst e
 have e1:(b.extract 0 1++a.extract 0 na).toList=b.toList.take 1++a.toList.take na:=by rw [Pd,di,di]
 refine h.res _ ?_ ?_
 ·rw [e1]; exact Qx
 ·rw [e1]
  refine bK ?_ ((jB ua).sublist (Sq _ _)) fun p hp q hq=>?_
  ·exact vU (by simp; lia)
  ·obtain ⟨j,h1,e2⟩:=jc hp
   obtain ⟨j2,h2,e3⟩:=jc hq
   have:j=0:=by lia
   subst this
   exact hf j2 q p e3 e2
theorem nQ {xs:Array Keyed} (hi:1≤i) (h:xs[i - 1]?=some p):xs.toList.drop (i - 1)=p::xs.toList.drop i:=by
 rw [← OS] at h
 obtain ⟨h1,h2⟩:=Ob.mp h
 rw [Ti h1,h2,show i - 1+1=i by lia]
theorem WH.gm {out:Array Keyed} {na nb:Nat} {p:Keyed} (h:WH rk a b out na nb) (ua:Up rk a) (hn:1≤na) (e:a[na - 1]?=some p) (hl:∀ (j:Nat) (q:Keyed),j<nb→b[j]?=some q→rk q≤rk p):WH rk a b (out.push p) (na - 1) nb where
 pa:=by have:=h.pa; lia
 pb:=h.pb
 pm:=by
  rw [OM,nQ hn e]
  refine (h.pm.append_right _).trans ?_
  rw [PK]
  exact Qx
 sr:=by
  rw [OM,TN]
  exact bK (QW _ _) h.sr fun r hr q hq=>by
   have hr':r=p:=by simpa using hr
   rw [hr']
   exact h.ha q (by simpa using hq) (na - 1) p (by lia) e
 ha:=fun q hq j r hj er=>by
  rw [OM] at hq
  rcases Oz.mp hq with z | z
  ·exact h.ha q z j r (by lia) er
  ·rw [Oi.mp z]; exact ua j (na - 1) r p (by lia) er e
 hb:=fun q hq j r hj er=>by
  rw [OM] at hq
  rcases Oz.mp hq with z | z
  ·exact h.hb q z j r hj er
  ·rw [Oi.mp z]; exact hl j r hj er
theorem WH.gj {out:Array Keyed} {na nb:Nat} {p:Keyed} (h:WH rk a b out na nb) (ub:Up rk b) (hn:1≤nb) (e:b[nb - 1]?=some p) (hl:∀ (j:Nat) (q:Keyed),j<na→a[j]?=some q→rk q≤rk p):WH rk a b (out.push p) na (nb - 1) where
 pa:=h.pa
 pb:=by have:=h.pb; lia
 pm:=by
  rw [OM,nQ hn e]
  refine (h.pm.append_right _).trans ?_
  rw [Ov]
  exact QX _ Qx
 sr:=by
  rw [OM,TN]
  exact bK (QW _ _) h.sr fun r hr q hq=>by
   have hr':r=p:=by simpa using hr
   rw [hr']
   exact h.hb q (by simpa using hq) (nb - 1) p (by lia) e
 hb:=fun q hq j r hj er=>by
  rw [OM] at hq
  rcases Oz.mp hq with z | z
  ·exact h.hb q z j r (by lia) er
  ·rw [Oi.mp z]; exact ub j (nb - 1) r p (by lia) er e
 ha:=fun q hq j r hj er=>by
  rw [OM] at hq
  rcases Oz.mp hq with z | z
  ·exact h.ha q z j r hj er
  ·rw [Oi.mp z]; exact hl j r hj er
theorem vZ {xs:Array Keyed} (h:m<n) (e:xs[m]?=some p):(xs.extract m n).reverse=(xs.extract (m+1) n).reverse.push p:=by
 apply Qs
 rw [OM,QZ,QZ,dX,dX]
 rw [← OS] at e
 obtain ⟨h1,h2⟩:=Ob.mp e
 have h3:m<(xs.toList.take n).length:=by rw [Pb]; lia
 rw [Ti h3,List.reverse_cons,List.getElem_take,h2]
theorem q8 (xs ys:Array Keyed) (p):xs++ys.push p=(xs++ys).push p:=by
 apply Qs; simp
theorem WH.qU (h:WH rk a b out na nb) (ua:Up rk a):∀ (k m:Nat),m+k=na→(∀ (i j:Nat) (p q:Keyed),m≤i→i<na→j<nb→a[i]?=some p→b[j]?=some q→rk q≤rk p)→WH rk a b (out++(a.extract m na).reverse) m nb
 | 0,m,hm,_=>by
  have e:m=na:=by lia
  subst e
  have:out++(a.extract m m).reverse=out:=by
   apply Qs
   rw [Pd,QZ,jb,List.reverse_nil,O5]
  rw [this]; exact h
 | k+1,m,hm,hl=>by
  have hp:=h.pa
  have ih:=h.qU ua k (m+1) (by lia) fun i j p q h1 h2=>hl i j p q (by lia) h2
  have e:a[m+1 - 1]?=some (a[m]'(by lia)):=OA (show m<a.size by lia)
  have z:=ih.gm ua (by lia) e fun j q hj eq=>hl m j _ q (N2 _) (by lia) hj (OA (show m<a.size by lia)) eq
  rw [vZ (show m<na by lia) (OA (show m<a.size by lia)),q8]
  exact z
theorem WH.qV (h:WH rk a b out na nb) (ub:Up rk b):∀ (k m:Nat),m+k=nb→(∀ (i j:Nat) (p q:Keyed),m≤i→i<nb→j<na→b[i]?=some p→a[j]?=some q→rk q≤rk p)→WH rk a b (out++(b.extract m nb).reverse) na m
 | 0,m,hm,_=>by
  have e:m=nb:=by lia
  subst e
  have:out++(b.extract m m).reverse=out:=by
   apply Qs
   rw [Pd,QZ,jb,List.reverse_nil,O5]
  rw [this]; exact h
 | k+1,m,hm,hl=>by
  have hp:=h.pb
  have ih:=h.qV ub k (m+1) (by lia) fun i j p q h1 h2=>hl i j p q (by lia) h2
  have e:b[m+1 - 1]?=some (b[m]'(by lia)):=OA (show m<b.size by lia)
  have z:=ih.gj ub (by lia) e fun j q hj eq=>hl m j _ q (N2 _) (by lia) hj (OA (show m<b.size by lia)) eq
  rw [vZ (show m<nb by lia) (OA (show m<b.size by lia)),q8]
  exact z
structure iu (rk:Keyed→Int) (a b out:Array Keyed) (na nb:Nat):Prop where
 w:WH rk a b out na nb
 la:1≤na
 lb:2≤nb
end
noncomputable abbrev AV:=Option (Array Keyed)×Nat×Nat×Array Keyed×Nat×Nat×Nat
noncomputable def Ga (a b out:Array Keyed) (na nb:Nat):Array Keyed:=a.extract 0 na++b.extract 0 nb++out.reverse
noncomputable def Ew (a b out:Array Keyed) (na nb:Nat):Array Keyed:=b.extract 0 nb++a.extract 0 na++out.reverse
noncomputable def v5 (a b:Array Keyed) (mg ac bc na nb:Nat) (out:Array Keyed):StateT SortSt Sem (ForInStep AV):=do
 let p ← elem' a (na - 1)
 if (na - 1 == 0)=true then pure (.done (some (Ga a b (out.push p) (na - 1) nb),na - 1,nb,out.push p,mg,ac,bc))
 else if (decide (ac<7) && decide (bc<7))=true then pure (.done (none,na - 1,nb,out.push p,mg,ac,bc))
 else pure (.yield (none,na - 1,nb,out.push p,mg,ac,bc))
noncomputable def v7 (a b:Array Keyed) (mg ac bc na nb:Nat) (out:Array Keyed):StateT SortSt Sem (ForInStep AV):=do
 let q ← elem' b (nb - 1)
 if (nb - 1 == 1)=true then pure (.done (some (Ew a b (out.push q) na (nb - 1)),na,nb - 1,out.push q,mg,ac,bc))
 else do
  let p ← elem' a (na - 1)
  let x ← cM true p b 0 (nb - 1) (nb - 1 - 1)
  match x with
  | some k=>(if nb - 1 - k>0 then
   (if (k == 1)=true then pure (.done (some (Ew a b (out.push q++(b.extract k (nb - 1)).reverse) na k),na,k,out.push q++(b.extract k (nb - 1)).reverse,mg,ac,nb - 1 - k))
    else if (k == 0)=true then pure (.done (some (Ga a b (out.push q++(b.extract k (nb - 1)).reverse) na k),na,k,out.push q++(b.extract k (nb - 1)).reverse,mg,ac,nb - 1 - k))
    else v5 a b mg ac (nb - 1 - k) na k (out.push q++(b.extract k (nb - 1)).reverse))
   else v5 a b mg ac (nb - 1 - k) na (nb - 1) (out.push q))
  | _=>pure (.done (some (Ga a b (out.push q) na (nb - 1)),na,nb - 1,out.push q,mg,ac,bc))
noncomputable def v8 (a b:Array Keyed) (mg ac bc na nb:Nat) (out:Array Keyed):StateT SortSt Sem (ForInStep AV):=do
 cE mg
 let q ← elem' b (nb - 1)
 let x ← cM false q a 0 na (na - 1)
 match x with
 | some k=>(if na - k>0 then
  (if (k == 0)=true then pure (.done (some (Ga a b (out++(a.extract k na).reverse) k nb),k,nb,out++(a.extract k na).reverse,mg,na - k,bc))
   else v7 a b mg (na - k) bc k nb (out++(a.extract k na).reverse))
  else v7 a b mg (na - k) bc na nb out)
 | _=>pure (.done (some (Ga a b out na nb),na,nb,out,mg,ac,bc))
noncomputable def AW (a b:Array Keyed) (c:AV):StateT SortSt Sem (ForInStep AV) :=
 if c.2.2.2.2.1>1 then v8 a b (c.2.2.2.2.1 - 1) c.2.2.2.2.2.1 c.2.2.2.2.2.2 c.2.1 c.2.2.1 c.2.2.2.1 else v8 a b c.2.2.2.2.1 c.2.2.2.2.2.1 c.2.2.2.2.2.2 c.2.1 c.2.2.1 c.2.2.2.1
noncomputable abbrev Iq:=Option (Array Keyed)×Nat×Nat×Array Keyed×Nat×Nat
noncomputable def AX (a b:Array Keyed) (mg:Nat) (c:Iq):StateT SortSt Sem (ForInStep Iq):=do
 let q ← elem' b (c.2.2.1 - 1)
 let p ← elem' a (c.2.1 - 1)
 let x ← lt' q p
 match x with
 | some y=>(if y=true then (do
  let p ← elem' a (c.2.1 - 1)
  if (c.2.1 - 1 == 0)=true then pure (.done (some (Ga a b (c.2.2.2.1.push p) (c.2.1 - 1) c.2.2.1),c.2.1 - 1,c.2.2.1,c.2.2.2.1.push p,c.2.2.2.2.1+1,0))
  else if c.2.2.2.2.1+1≥mg then pure (.done (none,c.2.1 - 1,c.2.2.1,c.2.2.2.1.push p,c.2.2.2.2.1+1,0))
  else pure (.yield (none,c.2.1 - 1,c.2.2.1,c.2.2.2.1.push p,c.2.2.2.2.1+1,0)))
  else (do
   let q ← elem' b (c.2.2.1 - 1)
   if (c.2.2.1 - 1 == 1)=true then pure (.done (some (Ew a b (c.2.2.2.1.push q) c.2.1 (c.2.2.1 - 1)),c.2.1,c.2.2.1 - 1,c.2.2.2.1.push q,0,c.2.2.2.2.2+1))
   else if c.2.2.2.2.2+1≥mg then pure (.done (none,c.2.1,c.2.2.1 - 1,c.2.2.2.1.push q,0,c.2.2.2.2.2+1))
   else pure (.yield (none,c.2.1,c.2.2.1 - 1,c.2.2.2.1.push q,0,c.2.2.2.2.2+1))))
 | _=>pure (.done (some (Ga a b c.2.2.2.1 c.2.1 c.2.2.1),c.2.1,c.2.2.1,c.2.2.2.1,c.2.2.2.2.1,c.2.2.2.2.2))
noncomputable abbrev Dk:=Option (Array Keyed)×Nat×Nat×Array Keyed×Nat
noncomputable def jE (a b:Array Keyed) (c:Dk):StateT SortSt Sem (ForInStep Dk):=do
 let s ← forIn [:a.size+b.size] ((none,c.2.1,c.2.2.1,c.2.2.2.1,0,0):Iq) fun _ s=>AX a b c.2.2.2.2 s
 match s.1 with
 | some r=>pure (.done (some r,s.2.1,s.2.2.1,s.2.2.2.1,c.2.2.2.2))
 | none=>do
  liftM (rule "list.sort.gallop")
  let t ← forIn [:a.size+b.size] ((none,s.2.1,s.2.2.1,s.2.2.2.1,c.2.2.2.2+1,s.2.2.2.2.1,s.2.2.2.2.2):AV) fun _ t=>AW a b t
  match t.1 with
  | some r=>pure (.done (some r,t.2.1,t.2.2.1,t.2.2.2.1,t.2.2.2.2.1))
  | none=>do
   cE (t.2.2.2.2.1+1)
   pure (.yield (none,t.2.1,t.2.2.1,t.2.2.2.1,t.2.2.2.2.1+1))
theorem q9 (a b):lQ a b=(do
 liftM (rule "list.sort.merge-hi")
 let p ← elem' a (a.size - 1)
 if (a.size - 1 == 0)=true then pure (Ga a b #[p] (a.size - 1) b.size)
 else if (b.size == 1)=true then pure (Ew a b #[p] (a.size - 1) b.size)
 else do
  let st ← get
  let s ← forIn [:a.size+b.size] ((none,a.size - 1,b.size,#[p],gallopOf st):Dk) fun _ c=>jE a b c
  match s.1 with
  | some r=>pure r
  | none=>liftM (unsupported (α:=Array Keyed) "internal:list.sort.merge-bound")):=by
 unfold lQ
 walk_at "dl mergeHi"
 dsimp only
 refine congrArg _ (funext fun _=>?_)
 refine congrArg _ (funext fun p=>?_)
 refine congrArg _ (congrArg _ ?_)
 refine congrArg _ (funext fun st=>?_)
 have h1:∀ (c:Dk),jE a b c=jE a b c:=fun _=>rfl
 have e:∀ (f g:Nat→Dk→StateT SortSt Sem (ForInStep Dk)) (c:Dk) (k:Dk→StateT SortSt Sem (Array Keyed)),f=g→(forIn [:a.size+b.size] c f >>= k)=(forIn [:a.size+b.size] c g >>= k):=fun _ _ _ _ h=>by rw [h]
 refine (e _ _ _ _ (funext fun _=>funext fun c=>?_)).trans (congrArg _ (funext fun s=>?_))
 ·obtain ⟨o,na,nb,out,mg⟩:=c
  unfold jE
  dsimp only
  have e2:∀ (f g:Nat→Iq→StateT SortSt Sem (ForInStep Iq)) (c:Iq) (k l:Iq→StateT SortSt Sem (ForInStep Dk)),f=g→k=l→(forIn [:a.size+b.size] c f >>= k)=(forIn [:a.size+b.size] c g >>= l):=fun _ _ _ _ _ h h2=>by rw [h,h2]
  refine e2 _ _ _ _ _ (funext fun _=>funext fun c=>?_) (funext fun s=>?_)
  ·rfl
  ·obtain ⟨o,na,nb,out,ac,bc⟩:=s
   cases o with
   | some r=>rfl
   | none =>
    dsimp only
    refine congrArg _ (funext fun _=>?_)
    have e3:∀ (f g:Nat→AV→StateT SortSt Sem (ForInStep AV)) (c:AV) (k l:AV→StateT SortSt Sem (ForInStep Dk)),f=g→k=l→(forIn [:a.size+b.size] c f >>= k)=(forIn [:a.size+b.size] c g >>= l):=fun _ _ _ _ _ h h2=>by rw [h,h2]
    refine e3 _ _ _ _ _ (funext fun _=>funext fun c=>?_) (funext fun s=>?_)
    ·rfl
    ·obtain ⟨o,s⟩:=s
     cases o <;> rfl
 ·obtain ⟨o,s⟩:=s
  cases o <;> rfl
section
noncomputable def Ey (rk:Keyed→Int) (a b:Array Keyed) (n:Nat) (o:Option (Array Keyed)) (na nb:Nat) (out:Array Keyed):Prop:=(∃ r,o=some r∧Res rk a b r)∨(o=none∧iu rk a b out na nb∧na+nb≤n)
noncomputable def Ez (rk:Keyed→Int) (a b:Array Keyed) (n:Nat):ForInStep AV→Prop
 | .done c=>Ey rk a b n c.1 c.2.1 c.2.2.1 c.2.2.2.1
 | .yield c=>c.1=none∧iu rk a b c.2.2.2.1 c.2.1 c.2.2.1∧c.2.1+c.2.2.1≤n
theorem nR {st:SortSt} (W:WH rk a b out na nb) (ua:Up rk a) (ub:Up rk b) (la:1≤na) (lb:2≤nb) (ep:a[na - 1]?=some p)
 (hl:∀ (j:Nat) (r:Keyed),j<nb→b[j]?=some r→rk r≤rk p) (hn:na - 1+nb≤n) (hQ:∀ x,Ez rk a b n x→Q x st):wpS (model prog w) A E s (v5 a b mg ac bc na nb out) Q st:=by
 unfold v5
 have W4:=W.gm ua la ep hl
 refine N3 (aO ep ?_)
 by_cases e9:na - 1=0
 ·rw [if_pos (by simpa using e9)]
  exact N4 (hQ _ (.inl ⟨_,rfl,W4.jD ub e9⟩))
 rw [if_neg (by simpa using e9)]
 have hL:iu rk a b (out.push p) (na - 1) nb:=⟨W4,Tw.mpr e9,lb⟩
 split
 ·exact N4 (hQ _ (.inr ⟨rfl,hL,hn⟩))
 ·exact N4 (hQ _ ⟨rfl,hL,hn⟩)
theorem nS {st:SortSt} (hC:iQ prog w A s κ rk L) (hk:kindOf st=κ) (ma:∀ (i:Nat) (p:Keyed),a[i]?=some p→p∈L) (mb:∀ (i:Nat) (p:Keyed),b[i]?=some p→p∈L)
 (fB:∀ {out:Array Keyed} {na nb:Nat},WH rk a b out na nb→nb=1→Res rk a b (Ew a b out na nb)) (W:WH rk a b out na nb) (ua:Up rk a) (ub:Up rk b) (la:1≤na) (lb:2≤nb) (eq:b[nb - 1]?=some q)
 (hl:∀ (j:Nat) (r:Keyed),j<na→a[j]?=some r→rk r≤rk q) (hn:na+nb≤n+2) (hQ:∀ x,Ez rk a b n x→Q x st):wpS (model prog w) A E s (v7 a b mg ac bc na nb out) Q st:=by
 unfold v7
 have W2:=W.gj ub (Nat.le_of_succ_le lb) eq hl
 have hpa:=W.pa
 have hpb:=W.pb
 refine N3 (aO eq ?_)
 by_cases e5:nb - 1=1
 ·rw [if_pos (by simpa using e5)]
  exact N4 (hQ _ (.inl ⟨_,rfl,fB W2 e5⟩))
 rw [if_neg (by simpa using e5)]
 have lb1:2≤nb - 1:=by lia
 obtain ⟨p,ep⟩:=some_at (xs:=a) (i:=na - 1) (by lia)
 refine N3 (aO ep ?_)
 refine N3 (qX hC hk (ma _ _ ep) mb ub _ (by lia) (by lia) fun k hj1 hj2 hj3=>?_)
 dsimp only
 have dn2:∀ (i:Nat) (r:Keyed),i<k→b[i]?=some r→rk r<rk p:=fun i r z1 e6=>hj2 i r z1 (by rw [Qm]; exact e6)
 by_cases hj0:nb - 1 - k>0
 ·rw [if_pos hj0]
  have W3:=W2.qV ub (nb - 1 - k) k (TM hj1) fun i j r p' z1 z2 z3 e6 e7=>OG (ua j (na - 1) p' p (Se z3) e7 ep) (hj3 i r z1 (Nat.add_lt_add_left z2 0) (by rw [Qm]; exact e6))
  by_cases e8:k=1
  ·rw [if_pos (by simpa using e8)]
   exact N4 (hQ _ (.inl ⟨_,rfl,fB W3 e8⟩))
  rw [if_neg (by simpa using e8)]
  by_cases e10:k=0
  ·rw [if_pos (by simpa using e10)]
   exact N4 (hQ _ (.inl ⟨_,rfl,W3.jC ua e10⟩))
  rw [if_neg (by simpa using e10)]
  exact nR W3 ua ub la (by lia) ep (fun j r hj e6=>Qa (dn2 j r hj e6)) (by lia) hQ
 ·rw [if_neg hj0]
  exact nR W2 ua ub la lb1 ep (fun j r hj e6=>Qa (dn2 j r (by lia) e6)) (by lia) hQ
theorem nT {st:SortSt} (hC:iQ prog w A s κ rk L) (hk:kindOf st=κ) (ma:∀ (i:Nat) (p:Keyed),a[i]?=some p→p∈L) (mb:∀ (i:Nat) (p:Keyed),b[i]?=some p→p∈L)
 (fB:∀ {out:Array Keyed} {na nb:Nat},WH rk a b out na nb→nb=1→Res rk a b (Ew a b out na nb)) (ua:Up rk a) (ub:Up rk b) (hL:iu rk a b out na nb) (hn:na+nb≤n) (hQ:∀ x st',cO st st'→Ez rk a b n x→Q x st') :
 wpS (model prog w) A E s (v8 a b mg ac bc na nb out) Q st:=by
 unfold v8
 have W:=hL.w
 have la:=hL.la
 have lb:=hL.lb
 have hpa:=W.pa
 have hpb:=W.pb
 obtain ⟨q,eq⟩:=some_at (xs:=b) (i:=nb - 1) (by lia)
 refine N3 (fE ?_)
 have GH:=fun x=>hQ x _ ((cO.refl st).min mg)
 refine N3 (aO eq ?_)
 refine N3 (qW hC (by exact hk) (mb _ _ eq) ma ua _ (by lia) (by lia) fun k hk1 hk2 hk3=>?_)
 dsimp only
 have dn1:∀ (i:Nat) (p:Keyed),i<k→a[i]?=some p→rk p≤rk q:=fun i p z1 e3=>hk2 i p z1 (by rw [Qm]; exact e3)
 by_cases hk0:na - k>0
 ·rw [if_pos hk0]
  have Wk:=W.qU ua (na - k) k (TM hk1) fun i j p r z1 z2 z3 e3 e4=>OG (ub j (nb - 1) r q (Se z3) e4 eq) (Qa (hk3 i p z1 (Nat.add_lt_add_left z2 0) (by rw [Qm]; exact e3)))
  by_cases e4:k=0
  ·rw [if_pos (by simpa using e4)]
   exact N4 (GH _ (.inl ⟨_,rfl,Wk.jD ub e4⟩))
  rw [if_neg (by simpa using e4)]
  exact nS hC (by exact hk) ma mb fB Wk ua ub (Tw.mpr e4) lb eq dn1 (by lia) GH
 ·rw [if_neg hk0]
  exact nS hC (by exact hk) ma mb fB W ua ub la lb eq (fun j r hj e3=>dn1 j r (by lia) e3) (by lia) GH
theorem x9 {st:SortSt} (hC:iQ prog w A s κ rk L) (hk:kindOf st=κ) (ma:∀ (i:Nat) (p:Keyed),a[i]?=some p→p∈L) (mb:∀ (i:Nat) (p:Keyed),b[i]?=some p→p∈L)
 (fB:∀ {out:Array Keyed} {na nb:Nat},WH rk a b out na nb→nb=1→Res rk a b (Ew a b out na nb)) (ua:Up rk a) (ub:Up rk b) (hL:iu rk a b c.2.2.2.1 c.2.1 c.2.2.1) (hn:c.2.1+c.2.2.1≤n+1)
 (hQ:∀ o na nb out z y,Ey rk a b n o na nb out→Q (.done (o,na,nb,out,z)) st∧(o=none→Q (.yield (none,na,nb,out,y)) st)):wpS (model prog w) A E s (AX a b mg c) Q st:=by
 obtain ⟨_,na,nb,out,ac,bc⟩:=c
 unfold AX
 dsimp only at hL hn ⊢
 have W:=hL.w
 have la:=hL.la
 have lb:=hL.lb
 have hpa:=W.pa
 have hpb:=W.pb
 obtain ⟨q,eq⟩:=some_at (xs:=b) (i:=nb - 1) (by lia)
 obtain ⟨p,ep⟩:=some_at (xs:=a) (i:=na - 1) (by lia)
 refine N3 (aO eq (N3 (aO ep (N3 (lK hC hk (mb _ _ eq) (ma _ _ ep) ?_)))))
 dsimp only
 by_cases hw:rk q<rk p
 ·rw [decide_eq_true hw,if_pos rfl]
  have W1:=W.gm ua la ep fun j r hj e=>OG (ub j (nb - 1) r q (Se hj) e eq) (Qa hw)
  refine N3 (aO ep ?_)
  by_cases e3:na - 1=0
  ·rw [if_pos (by simpa using e3)]
   exact N4 (hQ _ _ _ _ _ (0,0) (.inl ⟨_,rfl,W1.jD ub e3⟩)).1
  rw [if_neg (by simpa using e3)]
  have z:=hQ none (na - 1) nb (out.push p) (ac+1,0) (ac+1,0) (.inr ⟨rfl,⟨W1,Tw.mpr e3,lb⟩,by lia⟩)
  split
  ·exact N4 z.1
  ·exact N4 (z.2 rfl)
 ·rw [decide_eq_false hw,if_neg Oc]
  have W1:=W.gj ub (Nat.le_of_succ_le lb) eq fun j r hj e=>OG (ua j (na - 1) r p (Se hj) e ep) (Int.not_lt.mp hw)
  refine N3 (aO eq ?_)
  by_cases e3:nb - 1=1
  ·rw [if_pos (by simpa using e3)]
   exact N4 (hQ _ _ _ _ _ (0,0) (.inl ⟨_,rfl,fB W1 e3⟩)).1
  rw [if_neg (by simpa using e3)]
  have z:=hQ none na (nb - 1) (out.push q) (0,bc+1) (0,bc+1) (.inr ⟨rfl,⟨W1,la,by lia⟩,by lia⟩)
  split
  ·exact N4 z.1
  ·exact N4 (z.2 rfl)
theorem uc {st:SortSt} (hC:iQ prog w A s κ rk L) (hk:kindOf st=κ) (ma:∀ (i:Nat) (p:Keyed),a[i]?=some p→p∈L) (mb:∀ (i:Nat) (p:Keyed),b[i]?=some p→p∈L)
 (fB:∀ {out:Array Keyed} {na nb:Nat},WH rk a b out na nb→nb=1→Res rk a b (Ew a b out na nb)) (ua:Up rk a) (ub:Up rk b) (hL:iu rk a b c.2.2.2.1 c.2.1 c.2.2.1) (hn:c.2.1+c.2.2.1≤n+1) (hm:n+1≤a.size+b.size)
 (h1:∀ r z st',cO st st'→Res rk a b r→Q (.done (some r,z)) st') (h2:∀ na nb out g st',cO st st'→iu rk a b out na nb→na+nb≤n→Q (.yield (none,na,nb,out,g)) st'):wpS (model prog w) A E s (jE a b c) Q st:=by
 unfold jE
 refine N3 (OJ (O6 (I:=fun y c st'=>st'=st∧c.1=none∧iu rk a b c.2.2.2.1 c.2.1 c.2.2.1∧y+c.2.1+c.2.2.1≤n+1) (Q:=fun c st'=>st'=st∧Ey rk a b n c.1 c.2.1 c.2.2.1 c.2.2.2.1) ?step ?fin ⟨rfl,rfl,hL,by dsimp only; lia⟩) ?post)
 case fin =>
  rintro c st' ⟨rfl,hc,hL',hx⟩
  exact ⟨rfl,.inr ⟨hc,hL',by lia⟩⟩
 case step =>
  rintro y c st' _ hy ⟨rfl,_,hL',hx⟩
  refine x9 (n:=n - y) hC hk ma mb fB ua ub hL' (by have:=hL'.la; have:=hL'.lb; lia) fun o na nb out z y hR=>⟨?_,?_⟩
  ·refine ⟨rfl,?_⟩
   rcases hR with hR | ⟨q1,q2,q3⟩
   ·exact .inl hR
   ·exact .inr ⟨q1,q2,by dsimp only; lia⟩
  ·rintro rfl
   rcases hR with ⟨_,q,_⟩ | ⟨q1,q2,q3⟩
   ·cases q
   ·exact ⟨rfl,rfl,q2,by have:=q2.la; have:=q2.lb; dsimp only; lia⟩
 case post =>
  rintro ⟨o,na,nb,out,ac,bc⟩ st' ⟨rfl,hR⟩
  dsimp only at hR ⊢
  rcases hR with ⟨r,rfl,hr⟩ | ⟨rfl,hL2,hn2⟩
  ·exact N4 (h1 r _ _ (.refl _) hr)
  refine N3 (Qt (Pk ⟨rfl,?_⟩))
  refine N3 (OJ (O6 (I:=fun y c st''=>cO st' st''∧c.1=none∧iu rk a b c.2.2.2.1 c.2.1 c.2.2.1∧c.2.1+c.2.2.1≤n) (Q:=fun c st''=>cO st' st''∧Ey rk a b n c.1 c.2.1 c.2.2.1 c.2.2.2.1) ?gstep ?gfin ⟨.refl _,rfl,hL2,hn2⟩) ?gpost)
  case gfin=>exact fun c st'' ⟨q1,q2,q3,q4⟩=>⟨q1,.inr ⟨q2,q3,q4⟩⟩
  case gstep =>
   rintro y c st'' _ _ ⟨q1,q2,q3,q4⟩
   have key:wpS (model prog w) A E s (AW a b c) (fun x st3=>cO st'' st3∧Ez rk a b n x) st'':=by
    unfold AW
    split
    ·exact nT hC (q1.k.trans hk) ma mb fB ua ub q3 q4 fun x st3 k h=>⟨k,h⟩
    ·exact nT hC (q1.k.trans hk) ma mb fB ua ub q3 q4 fun x st3 k h=>⟨k,h⟩
   refine OJ key fun x st3 ⟨k,h⟩=>?_
   cases x with
   | done c=>exact ⟨q1.trans k,h⟩
   | yield c=>exact ⟨q1.trans k,h⟩
  case gpost =>
   rintro ⟨o,na,nb,out,g,ac,bc⟩ st'' ⟨q1,hR⟩
   dsimp only at hR ⊢
   rcases hR with ⟨r,rfl,hr⟩ | ⟨rfl,hL3,hn3⟩
   ·exact N4 (h1 r _ _ q1 hr)
   ·exact N3 (fE (N4 (h2 _ _ _ _ _ (q1.min _) hL3 hn3)))
theorem rg {st:SortSt} (hC:iQ prog w A s κ rk L) (hk:kindOf st=κ) (ma:∀ (i:Nat) (p:Keyed),a[i]?=some p→p∈L) (mb:∀ (i:Nat) (p:Keyed),b[i]?=some p→p∈L) (ua:Up rk a) (ub:Up rk b) (na1:1≤a.size) (nb1:1≤b.size)
 (h0:∀ p q,a[0]?=some p→b[0]?=some q→rk q≤rk p) (hl:∀ (j:Nat) (p q:Keyed),a[a.size - 1]?=some p→b[j]?=some q→rk q≤rk p) (h:∀ r st',Res rk a b r→cO st st'→Q r st'):wpS (model prog w) A E s (lQ a b) Q st:=by
 obtain ⟨p0,ep0⟩:=some_at (xs:=a) (i:=0) na1
 have firstB:∀ {out:Array Keyed} {na nb:Nat},WH rk a b out na nb→nb=1→Res rk a b (Ew a b out na nb):=fun hw e=>hw.first ua e fun j p q e1 e2=>OG (h0 p0 q ep0 e2) (ua 0 j p0 p (OH _) ep0 e1)
 obtain ⟨pl,epl⟩:=some_at (xs:=a) (i:=a.size - 1) (by lia)
 have W0:WH rk a b #[pl] (a.size - 1) b.size:=by
  have z:WH rk a b #[] a.size b.size:=⟨N2 _,N2 _,by simp,Rr,by simp,by simp⟩
  exact z.gm ua na1 epl fun j q _ e=>hl j pl q epl e
 rw [q9]
 refine N3 (Qt (Pk ⟨rfl,?_⟩))
 refine N3 (aO epl ?_)
 by_cases e1:a.size - 1=0
 ·rw [if_pos (by simpa using e1)]
  exact N4 (h _ _ (W0.jD ub e1) (.refl _))
 rw [if_neg (by simpa using e1)]
 by_cases e2:b.size=1
 ·rw [if_pos (by simpa using e2)]
  exact N4 (h _ _ (firstB W0 e2) (.refl _))
 rw [if_neg (by simpa using e2)]
 refine N3 (Pw ?_)
 refine N3 (OJ (O6 (I:=fun x c st'=>cO st st'∧c.1=none∧iu rk a b c.2.2.2.1 c.2.1 c.2.2.1∧x+c.2.1+c.2.2.1<a.size+b.size) (Q:=fun c st'=>cO st st'∧∃ r,c.1=some r∧Res rk a b r) ?step ?fin ⟨.refl _,rfl,⟨W0,by dsimp only; lia,by dsimp only; lia⟩,by dsimp only; lia⟩) ?post)
 case fin =>
  rintro c st' ⟨hK,hc,hL,hx⟩
  have h1:=hL.la
  lia
 case post =>
  rintro c st' ⟨hK,r,hc,hr⟩
  rw [hc]
  exact N4 (h r st' hr hK)
 case step =>
  rintro x c st1 _ hx ⟨hK,_,hL,hn⟩
  have l1:=hL.la
  have l2:=hL.lb
  exact uc (n:=a.size+b.size - x - 2) hC (hK.k.trans hk) ma mb firstB ua ub hL (by lia) (by lia) (fun r z st' k hr=>⟨hK.trans k,r,rfl,hr⟩) fun na nb out g st' k q1 q2=>⟨hK.trans k,rfl,q1,by have:=q1.la; dsimp only; lia⟩
end
noncomputable def Seg (rk:Keyed→Int) (xs:Array Keyed) (lo hi:Nat):Prop:=∀ i j,lo≤i→i≤j→j<hi→R rk xs i≤R rk xs j
noncomputable def Gb (rk:Keyed→Int) (xs:Array Keyed) (lo hi:Nat):Prop:=∀ i j,lo≤i→i≤j→j<hi→R rk xs j≤R rk xs i
structure Bs (κ:SortKind) (L:List Keyed) (st:SortSt):Prop where
 perm:(arrOf st).toList.Perm L
 kind:kindOf st=κ
 failed:failedOf st=none
structure Mv (st st':SortSt) (lo hi:Nat):Prop where
 out:∀ i,i<lo∨hi≤i→(arrOf st')[i]?=(arrOf st)[i]?
 pend:pendingOf st'=pendingOf st
section
variable {st st' st'':SortSt} {lo hi:Nat}
theorem Bs.size (h:Bs κ L st):(arrOf st).size=L.length:=by simpa using h.perm.length_eq
theorem Bs.at (h:Bs κ L st) (hi:i<L.length):∃ p,(arrOf st)[i]?=some p∧p∈L:=by
 have hs:=h.size
 refine ⟨(arrOf st)[i]'(by lia),OA _,h.perm.mem_iff.mp ?_⟩
 rw [TJ]; exact Ua _
theorem Bs.arr (h:Bs κ L st) (hp:xs.toList.Perm (arrOf st).toList):Bs κ L (setArr st xs):=⟨hp.trans h.perm,h.kind,h.failed⟩
theorem Mv.refl:Mv st st lo hi:=⟨fun _ _=>rfl,rfl⟩
theorem Mv.trans (a:Mv st st' lo hi) (b:Mv st' st'' lo hi):Mv st st'' lo hi:=⟨fun i h=>(b.out i h).trans (a.out i h),b.pend.trans a.pend⟩
theorem AY (hj:j≤xs.size) (k):R rk (mirror xs i j ((j - i) / 2)) k=if i≤k∧k<j then R rk xs (i+j - 1 - k) else R rk xs k:=by
 have e:=getElem?_mirror_all (i:=i) hj k
 by_cases h:i≤k∧k<j
 ·rw [if_pos h] at e ⊢; exact ck e
 ·rw [if_neg h] at e ⊢; exact ck e
theorem lR (hj:j≤(arrOf st).size) (h1:lo≤i) (h2:j≤hi):Mv st (setArr st (mirror (arrOf st) i j ((j - i) / 2))) lo hi :=
 ⟨fun k hk=>by
   have e:=getElem?_mirror_all (i:=i) hj k
   rw [if_neg (by lia)] at e; exact e,rfl⟩
theorem EA (i) (xs):Seg rk xs i (i+1):=fun a b h1 h2 h3=>by
 have:a=b:=by lia
 subst this; exact Pj _
theorem AZ (h:Seg rk xs lo (lo+n)) (hn:1≤n) (hl:¬ R rk xs (lo+n)<R rk xs (lo+n - 1)):Seg rk xs lo (lo+(n+1)):=fun a b h1 h2 h3=>by
 by_cases hb:b<lo+n
 ·exact h a b h1 h2 hb
 ·have e:b=lo+n:=by lia
  subst e
  by_cases ha:a=lo+n
  ·subst ha; exact Pj _
  ·exact OG (h a (lo+n - 1) h1 (by lia) (by lia)) (Int.not_lt.mp hl)
theorem gn (h:Gb rk xs lo (lo+n)) (hn:1≤n) (hl:R rk xs (lo+n)≤R rk xs (lo+n - 1)):Gb rk xs lo (lo+(n+1)):=fun a b h1 h2 h3=>by
 by_cases hb:b<lo+n
 ·exact h a b h1 h2 hb
 ·have e:b=lo+n:=by lia
  subst e
  by_cases ha:a=lo+n
  ·subst ha; exact Pj _
  ·exact OG hl (h a (lo+n - 1) h1 (by lia) (by lia))
end
section
variable {st:SortSt} {lo nrem:Nat}
theorem lT (hC:iQ prog w A s κ rk L) (hB:Bs κ L st) (hi:i<L.length) (hj:j<L.length) (h:Q (some (decide (R rk (arrOf st) i<R rk (arrOf st) j))) st):wpS (model prog w) A E s (ltAt' i j) Q st:=by
 obtain ⟨p,ep,hp⟩:=hB.at hi
 obtain ⟨q,eq,hq⟩:=hB.at hj
 exact x6 hC hB.kind ep eq hp hq h
theorem eB (h:Q () (setArr st (mirror (arrOf st) i j ((j - i) / 2)))):wpS (model prog w) A E s (reverseSlice' i j) Q st :=
 PR (f:=fun s=>setArr s (mirror (arrOf s) i j ((j - i) / 2))) h
noncomputable abbrev Ll:=Option (Option Nat)×Nat
noncomputable def asc (lo a nrem:Nat):StateT SortSt Sem Ll :=
 forIn [a:nrem] ((none,a):Ll) fun _ c=>ltAt' (lo+c.2) (lo+c.2 - 1) >>= fun x=>match x with
  | some smaller=>if smaller=true then pure (Pr (none,c.2)) else pure (OX (none,c.2+1))
  | _=>pure (Pr (some none,c.2))
theorem v9 (hC:iQ prog w A s κ rk L) (hB:Bs κ L st) (hn:lo+nrem≤L.length) (h1:1≤a) (h2:a≤nrem) (hs:Seg rk (arrOf st) lo (lo+a))
 (h:∀ n,a≤n→n≤nrem→Seg rk (arrOf st) lo (lo+n)→(n=nrem∨R rk (arrOf st) (lo+n)<R rk (arrOf st) (lo+n - 1))→Q (none,n) st):wpS (model prog w) A E s (asc lo a nrem) Q st:=by
 unfold asc
 refine O6 (I:=fun x c st'=>st'=st∧c=(none,x)∧Seg rk (arrOf st) lo (lo+x)) ?step ?fin ⟨rfl,rfl,hs⟩
 case fin =>
  rintro c st' ⟨rfl,rfl,hs'⟩
  rw [show max a nrem=nrem by lia] at hs' ⊢
  exact h nrem h2 (N2 _) hs' (.inl rfl)
 case step =>
  rintro x c st' hax hxn ⟨rfl,rfl,hs'⟩
  refine N3 (lT hC hB (by dsimp only; lia) (by dsimp only; lia) ?_)
  dsimp only
  by_cases hl:R rk (arrOf st') (lo+x)<R rk (arrOf st') (lo+x - 1)
  ·rw [decide_eq_true hl,if_pos rfl]
   exact N4 (h x hax (by lia) hs' (.inr hl))
  ·rw [decide_eq_false hl,if_neg Oc]
   exact N4 ⟨rfl,rfl,AZ hs' (by lia) hl⟩
noncomputable abbrev Ln:=Option (Option Nat)×Nat×Nat
noncomputable def Lo (lo n nrem:Nat):StateT SortSt Sem Ln :=
 forIn [n:nrem] ((none,n,0):Ln) fun _ c=>ltAt' (lo+c.2.1) (lo+c.2.1 - 1) >>= fun x=>match x with
  | some smaller=>if smaller=true then
   (if c.2.2>0 then reverseSlice' (lo+c.2.1 - (c.2.2+1)) (lo+c.2.1) >>= fun _=>pure (OX (none,c.2.1+1,0)) else pure (OX (none,c.2.1+1,0)))
   else ltAt' (lo+c.2.1 - 1) (lo+c.2.1) >>= fun y=>match y with
    | some larger=>if larger=true then pure (Pr (none,c.2.1,c.2.2)) else pure (OX (none,c.2.1+1,c.2.2+1))
    | _=>pure (Pr (some none,c.2.1,c.2.2))
  | _=>pure (Pr (some none,c.2.1,c.2.2))
theorem jd (hj:j≤xs.size) (he:∀ k,i≤k→k<j→R rk xs k=R rk xs (j - 1)) (k):R rk (mirror xs i j ((j - i) / 2)) k=R rk xs k:=by
 rw [AY hj]
 split
 ·rw [he _ (by lia) (by lia),he k (by lia) (by lia)]
 ·rfl
theorem EB (hC:iQ prog w A s κ rk L) (hB:Bs κ L st) (hn:lo+nrem≤L.length) (h1:1≤n) (h2:n≤nrem) (hs:Gb rk (arrOf st) lo (lo+n))
 (h:∀ m neq st',Bs κ L st'→Mv st st' lo (lo+nrem)→n≤m→m≤nrem→Gb rk (arrOf st') lo (lo+m)→neq+1≤m→(∀ i,lo+m - (neq+1)≤i→i<lo+m→R rk (arrOf st') i=R rk (arrOf st') (lo+m - 1))→Q (none,m,neq) st') :
 wpS (model prog w) A E s (Lo lo n nrem) Q st:=by
 unfold Lo
 refine O6 (I:=fun x c st'=>∃ neq,c=(none,x,neq)∧Bs κ L st'∧Mv st st' lo (lo+nrem)∧Gb rk (arrOf st') lo (lo+x)∧neq+1≤x∧(∀ i,lo+x - (neq+1)≤i→i<lo+x→R rk (arrOf st') i=R rk (arrOf st') (lo+x - 1))) ?step ?fin
  ⟨0,rfl,hB,.refl,hs,h1,fun i a1 a2=>by congr 1; lia⟩
 case fin =>
  rintro c st' ⟨neq,rfl,jT,hM',hs',hq,he⟩
  rw [show max n nrem=nrem by lia] at hs' hq he ⊢
  exact h nrem neq st' jT hM' h2 (N2 _) hs' hq he
 case step =>
  rintro x c st' hax hxn ⟨neq,rfl,jT,hM',hs',hq,he⟩
  have hsz:=jT.size
  refine N3 (lT hC jT (by dsimp only; lia) (by dsimp only; lia) ?_)
  dsimp only
  by_cases hl:R rk (arrOf st') (lo+x)<R rk (arrOf st') (lo+x - 1)
  ·rw [decide_eq_true hl,if_pos rfl]
   by_cases hq0:neq>0
   ·rw [if_pos hq0]
    have key:=jd (rk:=rk) (xs:=arrOf st') (i:=lo+x - (neq+1)) (j:=lo+x) (by lia) he
    refine N3 (eB (N4 ⟨0,rfl,jT.arr (QT.mp (RJ _ _ _ _)),hM'.trans (lR (by lia) (by lia) (by lia)),?_,by lia,fun i a1 a2=>by congr 1; lia⟩))
    refine gn (fun a b z1 z2 z3=>?_) (by lia) ?_
    ·show R rk (mirror _ _ _ _) b≤R rk (mirror _ _ _ _) a
     rw [key,key]; exact hs' a b z1 z2 z3
    ·show R rk (mirror _ _ _ _) _≤R rk (mirror _ _ _ _) _
     rw [key,key]; lia
   ·rw [if_neg hq0]
    exact N4 ⟨0,rfl,jT,hM',gn hs' (by lia) (by lia),by lia,fun i a1 a2=>by congr 1; lia⟩
  ·rw [decide_eq_false hl,if_neg Oc]
   refine N3 (lT hC jT (by lia) (by lia) ?_)
   dsimp only
   by_cases hg:R rk (arrOf st') (lo+x - 1)<R rk (arrOf st') (lo+x)
   ·rw [decide_eq_true hg,if_pos rfl]
    exact N4 (h x neq st' jT hM' hax (by lia) hs' hq he)
   ·rw [decide_eq_false hg,if_neg Oc]
    have heq:R rk (arrOf st') (lo+x)=R rk (arrOf st') (lo+x - 1):=by lia
    refine N4 ⟨neq+1,rfl,jT,hM',gn hs' (by lia) (by lia),by lia,fun i a1 a2=>?_⟩
    rw [show lo+(x+1) - 1=lo+x by lia]
    by_cases hi:i=lo+x
    ·rw [hi]
    ·rw [heq]; exact he i (by lia) (by lia)
noncomputable def countRun':Nat→Nat→StateT SortSt Sem (Option Nat):=sortPriv% PySem.Builtin.countRun
theorem je {Q:Option Nat→SortSt→Prop} (hC:iQ prog w A s κ rk L) (hB:Bs κ L st) (hn:lo+nrem≤L.length) (h1:1≤n) (h2:n≤nrem) (hs:Gb rk (arrOf st) lo (lo+n))
 (h:∀ m st',Bs κ L st'→Mv st st' lo (lo+nrem)→1≤m→m≤nrem→Seg rk (arrOf st') lo (lo+m)→Q (some m) st') :
 wpS (model prog w) A E s (asc lo n nrem) (fun c st'=>c.1=none∧Q (some c.2) st') (setArr st (mirror (arrOf st) lo (lo+n) ((lo+n - lo) / 2))):=by
 have hsz:=hB.size
 have jT:=hB.arr (QT.mp (RJ (arrOf st) lo (lo+n) ((lo+n - lo) / 2)))
 refine v9 hC jT hn h1 h2 (fun a b z1 z2 z3=>?_) fun m m1 m2 ms _=>⟨rfl,h m _ jT (lR (by lia) (N2 _) (by lia)) (by lia) m2 ms⟩
 show R rk (mirror _ _ _ _) a≤R rk (mirror _ _ _ _) b
 rw [AY (by lia),AY (by lia),if_pos (by lia),if_pos (by lia)]
 exact hs _ _ (by lia) (by lia) (by lia)
local macro_rules | `(tactic| walk_at "dl countRun")=>do
 let i:=QG (Qw `PySem.Builtin.List.W1All `PySem.Builtin.countRun)
 `(tactic| delta $i)
theorem wpS_countRun (hC:iQ prog w A s κ rk L) (hB:Bs κ L st) (hn:lo+nrem≤L.length) (h1:1≤nrem)
 (h:∀ m st',Bs κ L st'→Mv st st' lo (lo+nrem)→1≤m→m≤nrem→Seg rk (arrOf st') lo (lo+m)→Q (some m) st'):wpS (model prog w) A E s (countRun' lo nrem) Q st:=by
 unfold countRun'
 walk_at "dl countRun"
 dsimp only
 have hsz:=hB.size
 refine N3 (show wpS _ _ _ _ (asc lo 1 nrem) _ _ from v9 hC hB hn (N2 _) h1 (EA lo _) fun n n1 n2 ns nor=>?_)
 dsimp only
 by_cases hnn:n=nrem
 ·rw [if_pos (by simpa using hnn)]
  exact N4 (h n st hB .refl n1 n2 ns)
 rw [if_neg (by simpa using hnn)]
 have hlt:=nor.resolve_left hnn
 have rest:∀ (st1:SortSt),Bs κ L st1→Mv st st1 lo (lo+nrem)→Gb rk (arrOf st1) lo (lo+(n+1))→wpS (model prog w) A E s (Lo lo (n+1) nrem) (fun c st2=>Bs κ L st2∧Mv st st2 lo (lo+nrem)∧c.1=none∧n+1≤c.2.1∧c.2.1≤nrem∧Gb rk (arrOf st2) lo (lo+c.2.1)∧c.2.2+1≤c.2.1∧(∀ i,lo+c.2.1 - (c.2.2+1)≤i→i<lo+c.2.1→R rk (arrOf st2) i=R rk (arrOf st2) (lo+c.2.1 - 1))) st1 :=
  fun st1 hB1 hM1 hs1=>EB hC hB1 hn (by lia) (by lia) hs1 fun m neq st2 a1 a2 a3 a4 a5 a6 a7=>⟨a1,hM1.trans a2,rfl,a3,a4,a5,a6,a7⟩
 by_cases hgt:n>1
 ·rw [if_pos hgt]
  refine N3 (lT hC hB (by lia) (by lia) ?_)
  dsimp only
  by_cases hrose:R rk (arrOf st) lo<R rk (arrOf st) (lo+n - 1)
  ·rw [decide_eq_true hrose,if_pos rfl]
   exact N4 (h n st hB .refl n1 n2 ns)
  ·rw [decide_eq_false hrose,if_neg Oc]
   have hall:∀ k,lo≤k→k<lo+n→R rk (arrOf st) k=R rk (arrOf st) (lo+n - 1):=fun k z1 z2=>by
    have a1:=ns lo k (N2 _) z1 z2
    have a2:=ns k (lo+n - 1) z1 (by lia) (by lia)
    lia
   have key:=jd (rk:=rk) (xs:=arrOf st) (i:=lo) (j:=lo+n) (by lia) hall
   refine N3 (eB ?_)
   refine N3 (Qt (Pk ⟨rfl,?_⟩))
   refine N3 (OJ (show wpS _ _ _ _ (Lo lo (n+1) nrem) _ _ from rest _ (hB.arr (QT.mp (RJ _ _ _ _))) (lR (by lia) (N2 _) (by lia)) (gn (fun a b z1 z2 z3=>?_) (by lia) ?_)) fun c st2 hc=>?_)
   ·show R rk (mirror _ _ _ _) b≤R rk (mirror _ _ _ _) a
    rw [key,key,hall b (by lia) z3,hall a z1 (by lia)]; exact Pj _
   ·show R rk (mirror _ _ _ _) _≤R rk (mirror _ _ _ _) _
    rw [key,key]; lia
   ·obtain ⟨r,m,neq⟩:=c
    obtain ⟨b1,b2,b3,b4,b5,b6,b7,b8⟩:=hc
    dsimp only at b3 b4 b5 b6 b7 b8 ⊢
    rw [b3]
    dsimp only
    by_cases hq0:neq>0
    ·rw [if_pos hq0]
     have hsz2:=b1.size
     have key2:=jd (rk:=rk) (xs:=arrOf st2) (i:=lo+m - (neq+1)) (j:=lo+m) (by lia) b8
     refine N3 (eB (N3 (eB (N3 (OJ (show wpS _ _ _ _ (asc lo m nrem) _ _ from je (Q:=Q) hC (b1.arr (QT.mp (RJ _ _ _ _))) hn (by lia) b5 (fun a b z1 z2 z3=>?_) fun k st3 c1 c2 c3 c4 c5=>h k st3 c1 ((b2.trans (lR (by lia) (by lia) (by lia))).trans c2) c3 c4 c5) fun c st4 hc=>?_)))))
     ·show R rk (mirror _ _ _ _) b≤R rk (mirror _ _ _ _) a
      rw [key2,key2]; exact b6 a b z1 z2 z3
     ·obtain ⟨r,k⟩:=c
      obtain ⟨e,hQ⟩:=hc
      dsimp only at e hQ ⊢
      rw [e]
      exact N4 hQ
    ·rw [if_neg hq0]
     refine N3 (eB (N3 (OJ (show wpS _ _ _ _ (asc lo m nrem) _ _ from je (Q:=Q) hC b1 hn (by lia) b5 b6 fun k st3 c1 c2 c3 c4 c5=>h k st3 c1 (b2.trans c2) c3 c4 c5) fun c st4 hc=>?_)))
     obtain ⟨r,k⟩:=c
     obtain ⟨e,hQ⟩:=hc
     dsimp only at e hQ ⊢
     rw [e]
     exact N4 hQ
 ·rw [if_neg hgt]
  have e1:n=1:=by lia
  subst e1
  refine N3 (Qt (Pk ⟨rfl,?_⟩))
  refine N3 (OJ (show wpS _ _ _ _ (Lo lo (1+1) nrem) _ _ from rest st hB .refl (gn (fun a b z1 z2 z3=>?_) (N2 _) (Qa hlt))) fun c st2 hc=>?_)
  ·have:a=b:=by lia
   subst this; exact Pj _
  ·obtain ⟨r,m,neq⟩:=c
   obtain ⟨b1,b2,b3,b4,b5,b6,b7,b8⟩:=hc
   dsimp only at b3 b4 b5 b6 b7 b8 ⊢
   rw [b3]
   dsimp only
   by_cases hq0:neq>0
   ·rw [if_pos hq0]
    have hsz2:=b1.size
    have key2:=jd (rk:=rk) (xs:=arrOf st2) (i:=lo+m - (neq+1)) (j:=lo+m) (by lia) b8
    refine N3 (eB (N3 (eB (N3 (OJ (show wpS _ _ _ _ (asc lo m nrem) _ _ from je (Q:=Q) hC (b1.arr (QT.mp (RJ _ _ _ _))) hn (by lia) b5 (fun a b z1 z2 z3=>?_) fun k st3 c1 c2 c3 c4 c5=>h k st3 c1 ((b2.trans (lR (by lia) (by lia) (by lia))).trans c2) c3 c4 c5) fun c st4 hc=>?_)))))
    ·show R rk (mirror _ _ _ _) b≤R rk (mirror _ _ _ _) a
     rw [key2,key2]; exact b6 a b z1 z2 z3
    ·obtain ⟨r,k⟩:=c
     obtain ⟨e,hQ⟩:=hc
     dsimp only at e hQ ⊢
     rw [e]
     exact N4 hQ
   ·rw [if_neg hq0]
    refine N3 (eB (N3 (OJ (show wpS _ _ _ _ (asc lo m nrem) _ _ from je (Q:=Q) hC b1 hn (by lia) b5 b6 fun k st3 c1 c2 c3 c4 c5=>h k st3 c1 (b2.trans c2) c3 c4 c5) fun c st4 hc=>?_)))
    obtain ⟨r,k⟩:=c
    obtain ⟨e,hQ⟩:=hc
    dsimp only at e hQ ⊢
    rw [e]
    exact N4 hQ
end
section
variable {st:SortSt} {lo:Nat}
theorem Ge (hs:src<xs.size) (hd:d≤src) (k):R rk (bubble xs src d) k=if k=src - d then R rk xs src else if src - d<k∧k≤src then R rk xs (k - 1) else R rk xs k:=by
 have e:=getElem?_bubble hs d hd k
 by_cases h1:k=src - d
 ·rw [if_pos h1] at e ⊢; exact ck e
 ·rw [if_neg h1] at e ⊢
  by_cases h2:src - d<k∧k≤src
  ·rw [if_pos h2] at e ⊢; exact ck e
  ·rw [if_neg h2] at e ⊢; exact ck e
theorem A0 (h:Q () (setArr st (bubble (arrOf st) i (i - j)))):wpS (model prog w) A E s (moveDown' i j) Q st :=
 PR (f:=fun s=>setArr s (bubble (arrOf s) i (i - j))) h
noncomputable def binarySort':Nat→Nat→Nat→StateT SortSt Sem Bool:=sortPriv% PySem.Builtin.binarySort
local macro_rules | `(tactic| walk_at "dl binarySort")=>do
 let i:=QG (Qw `PySem.Builtin.List.W1All `PySem.Builtin.binarySort)
 `(tactic| delta $i)
theorem wpS_binarySort (hC:iQ prog w A s κ rk L) (hB:Bs κ L st) (hn:lo+n≤L.length) (hok:ok≤n) (hs:Seg rk (arrOf st) lo (lo+ok))
 (h:∀ st',Bs κ L st'→Mv st st' lo (lo+n)→Seg rk (arrOf st') lo (lo+n)→Q true st'):wpS (model prog w) A E s (binarySort' lo n ok) Q st:=by
 unfold binarySort'
 walk_at "dl binarySort"
 dsimp only
 refine N3 (OJ (O6 (I:=fun k c st'=>c.1=none∧Bs κ L st'∧Mv st st' lo (lo+n)∧Seg rk (arrOf st') lo (lo+min k n)) (Q:=fun c st'=>c.1=none∧Bs κ L st'∧Mv st st' lo (lo+n)∧Seg rk (arrOf st') lo (lo+n)) ?step ?fin ?init) ?post)
 case post =>
  rintro ⟨c,u⟩ st' ⟨hc,jT,hM',hs'⟩
  dsimp only at hc ⊢
  rw [hc]
  exact N4 (h st' jT hM' hs')
 case init =>
  refine ⟨rfl,hB,.refl,fun a b z1 z2 z3=>?_⟩
  by_cases h1:ok=0
  ·have:a=b:=by lia
   subst this; exact Pj _
  ·exact hs a b z1 z2 (by lia)
 case fin =>
  rintro c st' ⟨hc,jT,hM',hs'⟩
  rw [show min (max (max ok 1) n) n=n by lia] at hs'
  exact ⟨hc,jT,hM',hs'⟩
 case step =>
  rintro k ⟨c,u⟩ st' hak hkn ⟨rfl,jT,hM',hs'⟩
  rw [show min k n=k by lia] at hs'
  have hsz:=jT.size
  refine N3 (OJ (O6 (I:=fun x c st2=>st2=st'∧∃ l r,c=(none,l,r)∧l≤r∧r≤k∧r - l≤k - x∧(∀ i,i<l→R rk (arrOf st') (lo+i)≤R rk (arrOf st') (lo+k))∧(∀ i,r≤i→i<k→R rk (arrOf st') (lo+k)<R rk (arrOf st') (lo+i)))
   (Q:=fun c st2=>st2=st'∧∃ l r,c=(none,l,r)∧l≤k∧(∀ i,i<l→R rk (arrOf st') (lo+i)≤R rk (arrOf st') (lo+k))∧(∀ i,l≤i→i<k→R rk (arrOf st') (lo+k)<R rk (arrOf st') (lo+i))) ?istep ?ifin ⟨rfl,0,k,rfl,by lia,by lia,by lia,fun i hi=>by lia,fun i h1 h2=>by lia⟩) ?ipost)
  case ifin =>
   rintro c st2 ⟨rfl,l,r,rfl,a1,a2,a3,a4,a5⟩
   have:l=r:=by lia
   subst this
   exact ⟨rfl,l,l,rfl,a2,a4,a5⟩
  case istep =>
   rintro x c st2 _ hx ⟨rfl,l,r,rfl,a1,a2,a3,a4,a5⟩
   dsimp only
   by_cases hge:l≥r
   ·rw [if_pos hge]
    have:l=r:=by lia
    subst this
    exact N4 ⟨rfl,l,l,rfl,a2,a4,a5⟩
   ·rw [if_neg hge]
    refine N3 (lT hC jT (by lia) (by lia) ?_)
    dsimp only
    by_cases hl:R rk (arrOf st2) (lo+k)<R rk (arrOf st2) (lo+(l+r) / 2)
    ·rw [decide_eq_true hl,if_pos rfl]
     refine N4 ⟨rfl,l,(l+r) / 2,rfl,by lia,by lia,by lia,a4,fun i h1 h2=>?_⟩
     exact Int.lt_of_lt_of_le hl (hs' _ _ (by lia) (by lia) (by lia))
    ·rw [decide_eq_false hl,if_neg Oc]
     refine N4 ⟨rfl,(l+r) / 2+1,r,rfl,by lia,by lia,by lia,fun i h1=>?_,a5⟩
     exact OG (hs' (lo+i) (lo+(l+r) / 2) (by lia) (by lia) (by lia)) (Int.not_lt.mp hl)
  case ipost =>
   rintro c st2 ⟨rfl,l,r,rfl,hlk,a4,a5⟩
   dsimp only
   have e1:lo+k - (lo+l)=k - l:=by lia
   refine N3 (A0 (N4 ⟨rfl,jT.arr (QT.mp (bubble_perm _ _ _)),?_,?_⟩))
   ·refine hM'.trans ⟨fun i hi=>?_,rfl⟩
    have e:=getElem?_bubble (xs:=arrOf st2) (src:=lo+k) (by lia) (lo+k - (lo+l)) (by lia) i
    rw [if_neg (by lia),if_neg (by lia)] at e
    exact e
   ·rw [show min (k+1) n=k+1 by lia]
    intro i j hi hij hj
    show R rk (bubble (arrOf st2) (lo+k) (lo+k - (lo+l))) i≤R rk (bubble (arrOf st2) (lo+k) (lo+k - (lo+l))) j
    rw [Ge (by lia) (by lia),Ge (by lia) (by lia),e1]
    have sub:∀ i,lo≤i→lo+(i - lo)=i:=fun i hi=>by lia
    have f4:∀ i,lo≤i→i<lo+l→R rk (arrOf st2) i≤R rk (arrOf st2) (lo+k):=fun i h1 h2=>by have:=a4 (i - lo) (by lia); rwa [sub i h1] at this
    have f5:∀ i,lo+l≤i→i<lo+k→R rk (arrOf st2) (lo+k)<R rk (arrOf st2) i:=fun i h1 h2=>by have:=a5 (i - lo) (by lia) (by lia); rwa [sub i (by lia)] at this
    repeat' split
    all_goals first
     | (exfalso; lia)
     | exact Pj _
     | exact f4 _ (by lia) (by lia)
     | exact Qa (f5 _ (by lia) (by lia))
     | exact hs' _ _ (by lia) (by lia) (by lia)
theorem nU:∀ (l:List Keyed) (k sa:Nat) (A:Array Keyed),sa+k+l.length≤A.size→((l.zipIdx k).foldl (fun a (x:Keyed×Nat)=>a.setIfInBounds (sa+x.2) x.1) A).size=A.size ∧
 ∀ i:Nat,((l.zipIdx k).foldl (fun a (x:Keyed×Nat)=>a.setIfInBounds (sa+x.2) x.1) A)[i]?=if sa+k≤i∧i<sa+k+l.length then l[i - (sa+k)]? else A[i]?
 | [],k,sa,A,h=>⟨rfl,fun i=>by rw [if_neg (by simp only [PM]; lia)]; rfl⟩
 | x::l,k,sa,A,h=>by
  rw [OE] at h
  obtain ⟨h1,h2⟩:=nU l (k+1) sa (A.setIfInBounds (sa+k) x) (by rw [Array.size_setIfInBounds]; lia)
  rw [List.zipIdx_cons,Pp]
  refine ⟨by rw [h1,Array.size_setIfInBounds],fun i=>?_⟩
  rw [h2 i,OE]
  by_cases c1:sa+(k+1)≤i∧i<sa+(k+1)+l.length
  ·rw [if_pos c1,if_pos (by lia),show i - (sa+k)=i - (sa+(k+1))+1 by lia,List.getElem?_cons_succ]
  ·rw [if_neg c1]
   by_cases c2:i=sa+k
   ·subst c2
    rw [if_pos (by lia),Nat.sub_self,List.getElem?_cons_zero,Array.getElem?_setIfInBounds_self_of_lt (by lia)]
   ·rw [if_neg (by lia),Array.getElem?_setIfInBounds_ne (by lia)]
end
noncomputable def iz:Nat→StateT SortSt Sem Bool:=sortPriv% PySem.Builtin.mergeAt
local macro_rules | `(tactic| walk_at "dl mergeAt")=>do
 let i:=QG (Qw `PySem.Builtin.List.W1All `PySem.Builtin.mergeAt)
 `(tactic| delta $i)
section
variable {st:SortSt}
theorem EC (h:Q ⟨⟩ st1):wpS M A E s (set st1:StateT SortSt Sem PUnit) Q st:=by
 unfold wpS; rw [StateT.run_set]; exact N1 ⟨rfl,h⟩
theorem ya (hC:iQ prog w A s κ rk L) (hk:kindOf st=κ) (hkey:key∈L) (mx:∀ (i:Nat) (p:Keyed),xs[i]?=some p→p∈L) (hn:base+n≤xs.size) (us:Seg rk xs base (base+n)) (hh:hint<n)
 (h:∀ k,k≤n→(∀ i,base≤i→i<base+k→R rk xs i≤rk key)→(∀ i,base+k≤i→i<base+n→rk key<R rk xs i)→Q (some k) st):wpS (model prog w) A E s (cM false key xs base n hint) Q st:=by
 obtain ⟨k,h1,h2⟩:=lO (fun i=>R rk xs (base+i)) (rk key) n fun i j hij hj=>us _ _ (by lia) (by lia) (by lia)
 refine fD hC hk hkey (fun i hi=>⟨xs[base+i]'(by lia),OA _,mx _ _ (OA _)⟩) (fun i hi=>by simp only [OV,if_false]; exact h2 i hi) h1 hh (h k h1 (fun i hi hk=>?_) fun i hi hk=>?_)
 ·have:=(h2 (i - base) (by lia)).mpr (by lia)
  rwa [show base+(i - base)=i by lia] at this
 ·have:=mt (h2 (i - base) (by lia)).mp (by lia)
  rw [show base+(i - base)=i by lia] at this
  lia
theorem yb (hC:iQ prog w A s κ rk L) (hk:kindOf st=κ) (hkey:key∈L) (mx:∀ (i:Nat) (p:Keyed),xs[i]?=some p→p∈L) (hn:base+n≤xs.size) (us:Seg rk xs base (base+n)) (hh:hint<n)
 (h:∀ k,k≤n→(∀ i,base≤i→i<base+k→R rk xs i<rk key)→(∀ i,base+k≤i→i<base+n→rk key≤R rk xs i)→Q (some k) st):wpS (model prog w) A E s (cM true key xs base n hint) Q st:=by
 obtain ⟨k,h1,h2⟩:=lP (fun i=>R rk xs (base+i)) (rk key) n fun i j hij hj=>us _ _ (by lia) (by lia) (by lia)
 refine fD hC hk hkey (fun i hi=>⟨xs[base+i]'(by lia),OA _,mx _ _ (OA _)⟩) (fun i hi=>by simp only [if_true]; exact h2 i hi) h1 hh (h k h1 (fun i hi hk=>?_) fun i hi hk=>?_)
 ·have:=(h2 (i - base) (by lia)).mpr (by lia)
  rwa [show base+(i - base)=i by lia] at this
 ·have:=mt (h2 (i - base) (by lia)).mp (by lia)
  rw [show base+(i - base)=i by lia] at this
  lia
theorem eE {xs:Array Keyed} (h:(xs.extract i j)[m]?=some p):xs[i+m]?=some p∧i+m<j:=by
 rw [R8] at h
 split at h
 ·exact ⟨h,by lia⟩
 ·cases h
theorem wc {lo hi i j:Nat} (h:Seg rk xs lo hi) (h1:lo≤i) (h2:j≤hi):Up rk (xs.extract i j):=fun a b p q hab e1 e2=>by
 obtain ⟨f1,g1⟩:=eE e1
 obtain ⟨f2,g2⟩:=eE e2
 have:=h (i+a) (i+b) (by lia) (by lia) (by lia)
 rwa [dQ f1,dQ f2] at this
theorem ri (hC:iQ prog w A s κ rk L) (hB:Bs κ L st) (p1:(pendingOf st)[i]?=some (sa,na,pw)) (p2:(pendingOf st)[i+1]?=some (sa+na,nb,pw2)) (h1:1≤na) (h2:1≤nb) (hz:sa+na+nb≤L.length)
 (s1:Seg rk (arrOf st) sa (sa+na)) (s2:Seg rk (arrOf st) (sa+na) (sa+na+nb))
 (h:∀ st',Bs κ L st'→(∀ j,j<sa∨sa+na+nb≤j→(arrOf st')[j]?=(arrOf st)[j]?)→pendingOf st'=((pendingOf st).setIfInBounds i (sa,na+nb,pw)).eraseIdxIfInBounds (i+1)→Seg rk (arrOf st') sa (sa+na+nb)→Q true st') :
 wpS (model prog w) A E s (iz i) Q st:=by
 unfold iz
 walk_at "dl mergeAt"
 dsimp only
 refine N3 (Pw ?_)
 rw [p1,p2]
 dsimp only
 have hsz:=hB.size
 have mL:∀ (i:Nat) (p:Keyed),(arrOf st)[i]?=some p→p∈L:=fun i p e=>hB.perm.mem_iff.mp (by
  obtain ⟨h1,h2⟩:=QU.mp e
  rw [← h2,TJ]; exact Ua _)
 refine N3 (EC ?_)
 obtain ⟨key,ek,hkL⟩:=hB.at (i:=sa+na) (by lia)
 refine N3 (aO ek ?_)
 have rkey:R rk (arrOf st) (sa+na)=rk key:=dQ ek
 refine N3 (ya hC hB.kind hkL mL (by show _≤(arrOf st).size; lia) s1 (by lia) fun k k1 k2 k3=>?_)
 dsimp only
 by_cases e0:na - k=0
 ·rw [if_pos (by simpa using e0)]
  refine N4 (h _ ⟨hB.perm,hB.kind,hB.failed⟩ (fun _ _=>rfl) rfl fun a b z1 z2 z3=>?_)
  by_cases hb:b<sa+na
  ·exact s1 a b z1 z2 hb
  ·by_cases ha:sa+na≤a
   ·exact s2 a b ha z2 z3
   ·refine OG (k2 a z1 (by lia)) ?_
    rw [← rkey]; exact s2 (sa+na) b (N2 _) (by lia) z3
 rw [if_neg (by simpa using e0)]
 obtain ⟨key2,ek2,hk2L⟩:=hB.at (i:=sa+k+(na - k) - 1) (by lia)
 have rkey2:R rk (arrOf st) (sa+na - 1)=rk key2:=by rw [← dQ (rk:=rk) ek2]; congr 1; lia
 refine N3 (aO ek2 ?_)
 refine N3 (yb hC (by exact hB.kind) hk2L mL (by show _≤(arrOf st).size; lia) s2 (by lia) fun m m1 m2 m3=>?_)
 dsimp only
 by_cases e1:m=0
 ·exfalso
  have a1:=m3 (sa+na) (by lia) (by lia)
  have a2:=k3 (sa+na - 1) (by lia) (by lia)
  rw [rkey2] at a2; rw [rkey] at a1; lia
 rw [if_neg (by simpa using e1)]
 have mx:∀ (i:Nat) (p:Keyed),((arrOf st).extract (sa+k) (sa+na))[i]?=some p→p∈L:=fun i p e=>mL _ p (eE e).1
 have my:∀ (i:Nat) (p:Keyed),((arrOf st).extract (sa+na) (sa+na+m))[i]?=some p→p∈L:=fun i p e=>mL _ p (eE e).1
 have ux:Up rk ((arrOf st).extract (sa+k) (sa+na)):=wc s1 (by lia) (N2 _)
 have uy:Up rk ((arrOf st).extract (sa+na) (sa+na+m)):=wc s2 (N2 _) (by lia)
 have zx:((arrOf st).extract (sa+k) (sa+na)).size=na - k:=by rw [Array.size_extract]; lia
 have zy:((arrOf st).extract (sa+na) (sa+na+m)).size=m:=by rw [Array.size_extract]; lia
 have h0:∀ p q,((arrOf st).extract (sa+k) (sa+na))[0]?=some p→((arrOf st).extract (sa+na) (sa+na+m))[0]?=some q→rk q≤rk p:=fun p q e2 e3=>by
  obtain ⟨f1,g1⟩:=eE e2
  obtain ⟨f2,g2⟩:=eE e3
  have a1:=k3 (sa+k+0) (by lia) (by lia)
  rw [dQ f1] at a1
  have a2:rk q=rk key:=by rw [← rkey,← dQ (rk:=rk) f2]; rfl
  lia
 have hl:∀ (j:Nat) (p q:Keyed),((arrOf st).extract (sa+k) (sa+na))[((arrOf st).extract (sa+k) (sa+na)).size - 1]?=some p→((arrOf st).extract (sa+na) (sa+na+m))[j]?=some q→rk q≤rk p:=fun j p q e2 e3=>by
  rw [zx] at e2
  obtain ⟨f1,g1⟩:=eE e2
  obtain ⟨f2,g2⟩:=eE e3
  have a1:=m2 (sa+na+j) (by lia) (by lia)
  rw [dQ f2] at a1
  have a2:rk p=rk key2:=by rw [← rkey2,← dQ (rk:=rk) f1]; congr 1; lia
  lia
 have fin:∀ (r:Array Keyed) (st2:SortSt),Res rk ((arrOf st).extract (sa+k) (sa+na)) ((arrOf st).extract (sa+na) (sa+na+m)) r→kindOf st2=kindOf st→arrOf st2=arrOf st→pendingOf st2=((pendingOf st).setIfInBounds i (sa,na+nb,pw)).eraseIdxIfInBounds (i+1)→failedOf st2=failedOf st →
  Q true (setArr st2 (Rf (fun a (x:Keyed×Nat)=>a.setIfInBounds (sa+k+x.2) x.1) (arrOf st2) r.toList.zipIdx)):=fun r st2 hr e2 e3 e4 e5=>by
  have hlen:r.toList.length=na - k+m:=by
   have:=hr.1.length_eq
   simp only [OL,OT,zx,zy] at this ⊢
   exact this
  obtain ⟨w1,w2⟩:=nU r.toList 0 (sa+k) (arrOf st) (by lia)
  generalize hW:Rf (fun a (x:Keyed×Nat)=>a.setIfInBounds (sa+k+x.2) x.1) (arrOf st) r.toList.zipIdx=W at w1 w2
  rw [e3,hW]
  have rW:∀ i,sa+k≤i→i<sa+na+m→R rk W i=R rk r (i - (sa+k)):=fun i z1 z2=>by
   refine ck ?_
   rw [w2,if_pos (by lia),OS]; rfl
  have rO:∀ i,(i<sa+k∨sa+na+m≤i)→R rk W i=R rk (arrOf st) i:=fun i z=>by
   refine ck ?_
   rw [w2,if_neg (by lia)]
  have elt:∀ i,sa+k≤i→i<sa+na+m→∃ t,sa+k≤t∧t<sa+na+m∧R rk W i=R rk (arrOf st) t:=fun i z1 z2=>by
   have hi:i - (sa+k)<r.size:=by rw [← OT]; lia
   have e6:r[i - (sa+k)]?=some r[i - (sa+k)]:=OA hi
   have hm:r[i - (sa+k)]∈r.toList:=by rw [TJ]; exact Ua _
   rw [rW i z1 z2,dQ e6]
   rcases Oz.mp (hr.1.mem_iff.mp hm) with z | z
   ·obtain ⟨t,t1,t2,t3⟩:=vV z
    exact ⟨t,t1,by lia,(dQ t3).symm⟩
   ·obtain ⟨t,t1,t2,t3⟩:=vV z
    exact ⟨t,by lia,by lia,(dQ t3).symm⟩
  have ur:=Io hr.2
  refine h _ ⟨?_,e2.trans hB.kind,e5.trans hB.failed⟩ (fun j hj=>?_) e4 fun a b z1 z2 z3=>?_
  ·
   refine List.Perm.trans ?_ hB.perm
   have eW:W.toList=(arrOf st).toList.take (sa+k)++r.toList++(arrOf st).toList.drop (sa+na+m):=by
    apply Sv
    intro j
    rw [OS,w2,Ov,Rm,Rm,Pb,Q3,Rv (by rw [OT]; lia)]
    by_cases c1:j<sa+k
    ·rw [if_neg (by lia),if_pos c1,R1 c1,OS]
    ·rw [if_neg c1]
     by_cases c2:j - (sa+k)<r.toList.length
     ·rw [if_pos (by lia),if_pos c2]; rfl
     ·rw [if_neg (by lia),if_neg c2,OS]; congr 1; lia
   have eA:(arrOf st).toList=(arrOf st).toList.take (sa+k)++(((arrOf st).extract (sa+k) (sa+na)).toList++((arrOf st).extract (sa+na) (sa+na+m)).toList)++(arrOf st).toList.drop (sa+na+m):=by
    apply Sv
    intro j
    rw [Ov,Ov,Rm,Rm,Rm,Pb,OT,OT,OT,zx,zy,Q3,Rv (by lia)]
    by_cases c1:j<sa+k
    ·rw [if_pos c1,R1 c1]
    ·rw [if_neg c1]
     by_cases c2:j - (sa+k)<na - k
     ·rw [if_pos c2,OS,OS,R8,if_pos (by lia)]; congr 1; lia
     ·rw [if_neg c2]
      by_cases c3:j - (sa+k) - (na - k)<m
      ·rw [if_pos c3,OS,OS,R8,if_pos (by lia)]; congr 1; lia
      ·rw [if_neg c3]; congr 1; lia
   show W.toList.Perm _
   rw [eW]
   conv=>rhs; rw [eA]
   exact (QX _ hr.1).append_right _
  ·show W[j]?=_
   rw [w2,if_neg (by lia)]
  ·show R rk W a≤R rk W b
   have kk:∀ t,sa+na≤t→t<sa+na+nb→rk key≤R rk (arrOf st) t:=fun t t1 t2=>by rw [← rkey]; exact s2 _ t (N2 _) t1 t2
   have kk2:∀ t,sa≤t→t<sa+na→R rk (arrOf st) t≤rk key2:=fun t t1 t2=>by rw [← rkey2]; exact s1 t _ t1 (by lia) (by lia)
   by_cases c1:a<sa+k
   ·rw [rO a (.inl c1)]
    have la:=k2 a z1 c1
    by_cases d1:b<sa+k
    ·rw [rO b (.inl d1)]; exact s1 a b z1 z2 (by lia)
    ·by_cases d2:b<sa+na+m
     ·obtain ⟨t,t1,t2,t3⟩:=elt b (by lia) d2
      rw [t3]
      by_cases d3:t<sa+na
      ·exact s1 a t z1 (by lia) d3
      ·exact OG la (kk t (by lia) (by lia))
     ·rw [rO b (.inr (by lia))]
      exact OG la (kk b (by lia) z3)
   ·by_cases c2:a<sa+na+m
    ·by_cases d2:b<sa+na+m
     ·rw [rW a (by lia) c2,rW b (by lia) d2]
      have f1:r[a - (sa+k)]?=some (r[a - (sa+k)]'(by rw [← OT]; lia)):=OA _
      have f2:r[b - (sa+k)]?=some (r[b - (sa+k)]'(by rw [← OT]; lia)):=OA _
      rw [dQ f1,dQ f2]
      exact ur _ _ _ _ (by lia) f1 f2
     ·obtain ⟨t,t1,t2,t3⟩:=elt a (by lia) c2
      rw [t3,rO b (.inr (by lia))]
      by_cases d3:t<sa+na
      ·exact OG (kk2 t (by lia) d3) (m3 b (by lia) z3)
      ·exact s2 t b (by lia) (by lia) z3
    ·rw [rO a (.inr (by lia)),rO b (.inr (by lia))]
     exact s2 a b (by lia) z2 z3
 have post:∀ (r:Array Keyed) (st2:SortSt),failedOf st2=failedOf st→(failedOf st2).isNone=true:=fun r st2 e=>by rw [e,hB.failed]; rfl
 by_cases hle:na - k≤m
 ·rw [if_pos hle]
  refine N3 (qZ hC (by exact hB.kind) mx my ux uy (by show 1≤((arrOf st).extract (sa+k) (sa+na)).size; lia) (by show 1≤((arrOf st).extract (sa+na) (sa+na+m)).size; lia) h0 hl fun r st2 hr hK=>?_)
  refine N3 (PR (N3 (Pw ?_)))
  have e9:failedOf st2=none:=hK.f.trans hB.failed
  have z:=fin r st2 hr hK.k hK.a hK.p hK.f
  refine N4 ?_
  show Q (failedOf st2).isNone _
  rw [e9]; exact z
 ·rw [if_neg hle]
  refine N3 (rg hC (by exact hB.kind) mx my ux uy (by show 1≤((arrOf st).extract (sa+k) (sa+na)).size; lia) (by show 1≤((arrOf st).extract (sa+na) (sa+na+m)).size; lia) h0 hl fun r st2 hr hK=>?_)
  refine N3 (PR (N3 (Pw ?_)))
  have e9:failedOf st2=none:=hK.f.trans hB.failed
  have z:=fin r st2 hr hK.k hK.a hK.p hK.f
  refine N4 ?_
  show Q (failedOf st2).isNone _
  rw [e9]; exact z
end
noncomputable abbrev Lp:Nat→Nat→Nat→Nat:=sortPriv% PySem.Builtin.minRun
noncomputable def rm:StateT SortSt Sem Unit:=sortPriv% PySem.Builtin.sortRuns
local macro_rules | `(tactic| walk_at "dl sortRuns")=>do
 let i:=QG (Qw `PySem.Builtin.List.W1All `PySem.Builtin.sortRuns)
 `(tactic| delta $i)
noncomputable def eZ (rk:Keyed→Int) (xs:Array Keyed):Nat→List (Nat×Nat×Nat)→Nat→Prop
 | a,[],b=>a=b
 | a,p::r,b=>p.1=a∧1≤p.2.1∧Seg rk xs a (a+p.2.1)∧eZ rk xs (a+p.2.1) r b
section
theorem eZ.le:∀ {ps:List (Nat×Nat×Nat)} {a b:Nat},eZ rk xs a ps b→a+ps.length≤b
 | [],a,b,h=>by have:a=b:=h; simp; lia
 | p::r,a,b,h=>by
  obtain ⟨_,h1,_,h2⟩:=h
  have:=h2.le
  rw [OE]; lia
theorem eZ.app:∀ {ps qs:List (Nat×Nat×Nat)} {a b:Nat},eZ rk xs a (ps++qs) b↔∃ m,eZ rk xs a ps m∧eZ rk xs m qs b
 | [],qs,a,b=>⟨fun h=>⟨a,rfl,h⟩,fun ⟨m,h1,h2⟩=>by have:a=m:=h1; subst this; exact h2⟩
 | p::r,qs,a,b=>by
  constructor
  ·rintro ⟨h1,h2,h3,h4⟩
   obtain ⟨m,h5,h6⟩:=eZ.app.mp h4
   exact ⟨m,⟨h1,h2,h3,h5⟩,h6⟩
  ·rintro ⟨m,⟨h1,h2,h3,h5⟩,h6⟩
   exact ⟨h1,h2,h3,eZ.app.mpr ⟨m,h5,h6⟩⟩
theorem eZ.congr:∀ {ps:List (Nat×Nat×Nat)} {a b:Nat},eZ rk xs a ps b→(∀ i,a≤i→i<b→R rk ys i=R rk xs i)→eZ rk ys a ps b
 | [],a,b,h,_=>h
 | p::r,a,b,h,e=>by
  obtain ⟨h1,h2,h3,h4⟩:=h
  have hl:=h4.le
  refine ⟨h1,h2,fun i j z1 z2 z3=>?_,h4.congr fun i z1 z2=>e i (by lia) z2⟩
  rw [e i z1 (by lia),e j (by lia) (by lia)]
  exact h3 i j z1 z2 z3
theorem eZ.mod (f) (hf:∀ p,(f p).1=p.1∧(f p).2.1=p.2.1):∀ {ps:List (Nat×Nat×Nat)} {a b:Nat} (i:Nat),eZ rk xs a ps b→eZ rk xs a (ps.modify i f) b
 | [],a,b,i,h=>by simpa using h
 | p::r,a,b,0,h=>by
  obtain ⟨h1,h2,h3,h4⟩:=h
  rw [List.modify_zero_cons]
  refine ⟨(hf p).1.trans h1,by rw [(hf p).2]; exact h2,by rw [(hf p).2]; exact h3,by rw [(hf p).2]; exact h4⟩
 | p::r,a,b,i+1,h=>by
  obtain ⟨h1,h2,h3,h4⟩:=h
  rw [List.modify_succ_cons]
  exact ⟨h1,h2,h3,h4.mod f hf i⟩
theorem eZ.two:∀ {ps:List (Nat×Nat×Nat)} {a b:Nat} (i:Nat),eZ rk xs a ps b→i+1<ps.length→∃ s n pw m pw2,ps[i]?=some (s,n,pw)∧ps[i+1]?=some (s+n,m,pw2)∧1≤n∧1≤m∧a≤s∧s+n+m≤b∧Seg rk xs s (s+n)∧Seg rk xs (s+n) (s+n+m) ∧
 ∀ ys:Array Keyed,(∀ j,j<s∨s+n+m≤j→R rk ys j=R rk xs j)→Seg rk ys s (s+n+m)→eZ rk ys a ((ps.set i (s,n+m,pw)).eraseIdx (i+1)) b
 | [],a,b,i,h,hi=>by simp at hi
 | [p],a,b,i,h,hi=>by simp at hi
 | p::q::r,a,b,0,h,hi=>by
  obtain ⟨h1,h2,h3,h4,h5,h6,h7⟩:=h
  obtain ⟨s,n,pw⟩:=p
  obtain ⟨s',m,pw2⟩:=q
  dsimp only at h1 h2 h3 h4 h5 h6 h7
  subst h1; subst h4
  have hl:=h7.le
  refine ⟨s,n,pw,m,pw2,rfl,rfl,h2,h5,N2 _,by lia,h3,h6,fun ys e hs=>?_⟩
  refine ⟨rfl,by dsimp only; lia,by dsimp only; rw [← Nat.add_assoc]; exact hs,?_⟩
  dsimp only
  rw [← Nat.add_assoc]
  exact h7.congr fun i z1 z2=>e i (.inr z1)
 | p::q::r,a,b,i+1,h,hi=>by
  obtain ⟨h1,h2,h3,h4⟩:=h
  obtain ⟨s,n,pw,m,pw2,e1,e2,a1,a2,a3,a4,a5,a6,a7⟩:=h4.two i (by simpa using hi)
  refine ⟨s,n,pw,m,pw2,by simpa using e1,by simpa using e2,a1,a2,by lia,a4,a5,a6,fun ys e hs=>?_⟩
  rw [List.set_cons_succ,List.eraseIdx_cons_succ]
  refine ⟨h1,h2,fun j j' z1 z2 z3=>?_,a7 ys e hs⟩
  rw [e j (.inl (by lia)),e j' (.inl (by lia))]
  exact h3 j j' z1 z2 z3
end
section
variable {st:SortSt}
theorem iA (hC:iQ prog w A s κ rk L) (hB:Bs κ L st) (hc:eZ rk (arrOf st) 0 (pendingOf st).toList b) (hb:b≤L.length) (hi:i+1<(pendingOf st).size)
 (h:∀ st',Bs κ L st'→eZ rk (arrOf st') 0 (pendingOf st').toList b→(∀ j,b≤j→(arrOf st')[j]?=(arrOf st)[j]?)→(pendingOf st').size+1=(pendingOf st).size→Q true st'):wpS (model prog w) A E s (iz i) Q st:=by
 obtain ⟨sa,n,pw,m,pw2,e1,e2,a1,a2,a3,a4,a5,a6,a7⟩:=hc.two i (by rw [OT]; exact hi)
 rw [OS] at e1 e2
 refine ri hC hB e1 e2 a1 a2 (by lia) a5 a6 fun st' b1 b2 b3 b4=>h st' b1 ?_ (fun j hj=>b2 j (.inr (by lia))) ?_
 ·rw [b3,Uo,Array.toList_setIfInBounds]
  exact a7 _ (fun j hj=>ck (b2 j hj)) b4
 ·rw [b3,← OT,Uo,Array.toList_setIfInBounds,List.length_eraseIdx,List.length_set,OT,if_pos hi]; lia
theorem wpS_sortRuns (hC:iQ prog w A s κ rk L) (hB:Bs κ L st) (hp:pendingOf st= #[]) (h:∀ st',Bs κ L st'→Seg rk (arrOf st') 0 L.length→Q () st'):wpS (model prog w) A E s rm Q st:=by
 unfold rm
 walk_at "dl sortRuns"
 dsimp only
 refine N3 (Pw ?_)
 have hsz:=hB.size
 rw [hsz]
 obtain ⟨mr,hmr⟩:∃ mr,Lp L.length L.length 0=mr:=⟨_,rfl⟩
 delta Lp at hmr
 rw [hmr]
 refine N3 (OJ (O6 (I:=fun x c st'=>c.1=none∧Bs κ L st'∧eZ rk (arrOf st') 0 (pendingOf st').toList c.2∧c.2≤L.length∧(x≤c.2∨L.length≤c.2)) (Q:=fun c st'=>c.1=none∧Bs κ L st'∧eZ rk (arrOf st') 0 (pendingOf st').toList L.length) ?step ?fin ?init) ?post)
 case init=>exact ⟨rfl,hB,by rw [hp]; rfl,OH _,.inl (N2 _)⟩
 case fin =>
  rintro ⟨c,lo⟩ st' ⟨rfl,jT,hC',h1,h2⟩
  dsimp only at hC' h1 h2 ⊢
  have e:lo=L.length:=by
   rcases h2 with z | z
   ·lia
   ·lia
  subst e
  exact ⟨rfl,jT,hC'⟩
 case step =>
  rintro x ⟨c,lo⟩ st' _ hx ⟨rfl,jT,hC',h1,h2⟩
  dsimp only at hC' h1 h2 ⊢
  by_cases hge:lo≥L.length
  ·rw [if_pos hge]
   have e:lo=L.length:=by lia
   subst e
   exact N4 ⟨rfl,jT,hC'⟩
  rw [if_neg hge]
  refine N3 (show wpS _ _ _ _ (countRun' lo (L.length - lo)) _ _ from wpS_countRun hC jT (by lia) (by lia) fun m st1 hB1 hM1 m1 m2 ms=>?_)
  have hC1:eZ rk (arrOf st1) 0 (pendingOf st1).toList lo:=by
   rw [hM1.pend]; exact hC'.congr fun i _ z=>ck (hM1.out i (.inl z))
  dsimp only
  by_cases hmin:m<mr
  ·rw [if_pos (show m<_ from hmin)]
   refine N3 (Qt (Pk ⟨rfl,?_⟩))
   have hf1:m≤min (L.length - lo) mr:=by lia
   have hf2:lo+min (L.length - lo) mr≤L.length:=by lia
   refine N3 (show wpS _ _ _ _ (binarySort' lo (min (L.length - lo) mr) m) _ _ from wpS_binarySort hC hB1 hf2 hf1 ms fun st2 hB2 hM2 hS2=>?_)
   have hC2:eZ rk (arrOf st2) 0 (pendingOf st2).toList lo:=by
    rw [hM2.pend]; exact hC1.congr fun i _ z=>ck (hM2.out i (.inl z))
   simp only [RD,OV,if_false]
   generalize hF:min (L.length - lo) mr=F at hf1 hf2 hS2
   have hF':=hF
   clear hM2 hM1
   refine N3 (Pw ?_)
   rcases hbk:(pendingOf st2).back? with _ | ⟨q1,q2,q3⟩
   ·dsimp only
    refine N3 (PR (N4 ⟨rfl,⟨hB2.perm,hB2.kind,hB2.failed⟩,?_,by dsimp only; lia,by dsimp only; lia⟩))
    show eZ rk (arrOf st2) 0 ((pendingOf st2).push (lo,F,0)).toList (lo+(F))
    rw [OM]
    exact eZ.app.mpr ⟨lo,hC2,rfl,by dsimp only; lia,hS2,rfl⟩
   ·dsimp only
    refine N3 (OJ (O6 (I:=fun y c st'=>c.1=none∧Bs κ L st'∧eZ rk (arrOf st') 0 (pendingOf st').toList lo∧Seg rk (arrOf st') lo (lo+(F))) (Q:=fun c st'=>c.1=none∧Bs κ L st'∧eZ rk (arrOf st') 0 (pendingOf st').toList lo∧Seg rk (arrOf st') lo (lo+(F))) ?_ (fun _ _ z=>z) ⟨rfl,hB2,hC2,hS2⟩) ?_)
    ·rintro y ⟨c,u⟩ st3 _ hy ⟨rfl,u5,Dg,Df⟩
     refine N3 (Pw ?_)
     by_cases hs1:(pendingOf st3).size>1
     ·rw [if_pos hs1]
      obtain ⟨⟨r1,r2,r3⟩,er⟩:∃ t,(pendingOf st3)[(pendingOf st3).size - 2]?=some t:=⟨_,OA (show (pendingOf st3).size - 2<(pendingOf st3).size by lia)⟩
      rw [er]
      dsimp only
      split
      ·exact N4 ⟨rfl,u5,Dg,Df⟩
      ·refine N3 (show wpS _ _ _ _ (iz ((pendingOf st3).size - 2)) _ _ from iA hC u5 Dg (by lia) (by lia) fun st4 hB4 hC4 ho4 hz4=>?_)
       simp only [RD,OV,if_false]
       exact N4 ⟨rfl,hB4,hC4,fun a b z1 z2 z3=>by rw [ck (ho4 a z1),ck (ho4 b (by lia))]; exact Df a b z1 z2 z3⟩
     ·rw [if_neg hs1]
      exact N4 ⟨rfl,u5,Dg,Df⟩
    ·rintro ⟨c,u⟩ st3 ⟨hc,u5,Dg,Df⟩
     dsimp only at hc ⊢
     rw [hc]
     dsimp only
     refine N3 (PR (N3 (PR (N4 ⟨rfl,⟨u5.perm,u5.kind,u5.failed⟩,?_,by dsimp only; lia,by dsimp only; lia⟩))))
     show eZ rk (arrOf st3) 0 (((pendingOf st3).modify ((pendingOf st3).size - 1) _).push (lo,F,0)).toList (lo+(F))
     rw [OM,Array.toList_modify]
     refine eZ.app.mpr ⟨lo,?_,rfl,by dsimp only; lia,Df,rfl⟩
     refine eZ.mod _ (fun p=>?_) _ Dg
     exact ⟨rfl,rfl⟩
  ·rw [if_neg (show ¬ m<_ from hmin)]
   refine N3 (Pw ?_)
   rcases hbk:(pendingOf st1).back? with _ | ⟨q1,q2,q3⟩
   ·dsimp only
    refine N3 (PR (N4 ⟨rfl,⟨hB1.perm,hB1.kind,hB1.failed⟩,?_,by dsimp only; lia,by dsimp only; lia⟩))
    show eZ rk (arrOf st1) 0 ((pendingOf st1).push (lo,m,0)).toList (lo+(m))
    rw [OM]
    exact eZ.app.mpr ⟨lo,hC1,rfl,by dsimp only; lia,ms,rfl⟩
   ·dsimp only
    refine N3 (OJ (O6 (I:=fun y c st'=>c.1=none∧Bs κ L st'∧eZ rk (arrOf st') 0 (pendingOf st').toList lo∧Seg rk (arrOf st') lo (lo+(m))) (Q:=fun c st'=>c.1=none∧Bs κ L st'∧eZ rk (arrOf st') 0 (pendingOf st').toList lo∧Seg rk (arrOf st') lo (lo+(m))) ?_ (fun _ _ z=>z) ⟨rfl,hB1,hC1,ms⟩) ?_)
    ·rintro y ⟨c,u⟩ st3 _ hy ⟨rfl,u5,Dg,Df⟩
     refine N3 (Pw ?_)
     by_cases hs1:(pendingOf st3).size>1
     ·rw [if_pos hs1]
      obtain ⟨⟨r1,r2,r3⟩,er⟩:∃ t,(pendingOf st3)[(pendingOf st3).size - 2]?=some t:=⟨_,OA (show (pendingOf st3).size - 2<(pendingOf st3).size by lia)⟩
      rw [er]
      dsimp only
      split
      ·exact N4 ⟨rfl,u5,Dg,Df⟩
      ·refine N3 (show wpS _ _ _ _ (iz ((pendingOf st3).size - 2)) _ _ from iA hC u5 Dg (by lia) (by lia) fun st4 hB4 hC4 ho4 hz4=>?_)
       simp only [RD,OV,if_false]
       exact N4 ⟨rfl,hB4,hC4,fun a b z1 z2 z3=>by rw [ck (ho4 a z1),ck (ho4 b (by lia))]; exact Df a b z1 z2 z3⟩
     ·rw [if_neg hs1]
      exact N4 ⟨rfl,u5,Dg,Df⟩
    ·rintro ⟨c,u⟩ st3 ⟨hc,u5,Dg,Df⟩
     dsimp only at hc ⊢
     rw [hc]
     dsimp only
     refine N3 (PR (N3 (PR (N4 ⟨rfl,⟨u5.perm,u5.kind,u5.failed⟩,?_,by dsimp only; lia,by dsimp only; lia⟩))))
     show eZ rk (arrOf st3) 0 (((pendingOf st3).modify ((pendingOf st3).size - 1) _).push (lo,m,0)).toList (lo+(m))
     rw [OM,Array.toList_modify]
     refine eZ.app.mpr ⟨lo,?_,rfl,by dsimp only; lia,Df,rfl⟩
     refine eZ.mod _ (fun p=>?_) _ Dg
     exact ⟨rfl,rfl⟩
 case post =>
  rintro ⟨c,lo⟩ st' ⟨hc,jT,hC'⟩
  dsimp only at hc ⊢
  rw [hc]
  dsimp only
  have hl0:=hC'.le
  rw [OT] at hl0
  refine N3 (OJ (O6 (I:=fun x c st2=>c.1=none∧Bs κ L st2∧eZ rk (arrOf st2) 0 (pendingOf st2).toList L.length∧((pendingOf st2).size≤1∨(pendingOf st2).size+x≤L.length)) (Q:=fun c st2=>c.1=none∧Bs κ L st2∧eZ rk (arrOf st2) 0 (pendingOf st2).toList L.length∧(pendingOf st2).size≤1) ?mstep ?mfin ⟨rfl,jT,hC',.inr (by lia)⟩) ?mpost)
  case mfin =>
   rintro c2 st2 ⟨a1,a2,a3,a4⟩
   exact ⟨a1,a2,a3,by lia⟩
  case mpost =>
   rintro ⟨c2,u⟩ st2 ⟨a1,a2,a3,a4⟩
   dsimp only at a1 ⊢
   rw [a1]
   refine N4 (h st2 a2 ?_)
   rw [← OT] at a4
   match e:(pendingOf st2).toList,a4 with
   | [],_ =>
    rw [e] at a3
    have z:0=L.length:=a3
    intro i j _ _ hj; lia
   | [p],_ =>
    rw [e] at a3
    obtain ⟨b1,b2,b3,b4⟩:=a3
    have z:0+p.2.1=L.length:=b4
    rw [← z]; exact b3
  case mstep =>
   rintro x ⟨c2,u⟩ st2 _ hx ⟨a1,a2,a3,a4⟩
   refine N3 (Pw ?_)
   by_cases hs1:(pendingOf st2).size≤1
   ·rw [if_pos hs1]
    exact N4 ⟨rfl,a2,a3,hs1⟩
   ·rw [if_neg hs1]
    have key:∀ i,i+1<(pendingOf st2).size→wpS (model prog w) A E s (iz i) (fun r st3=>r=true∧Bs κ L st3∧eZ rk (arrOf st3) 0 (pendingOf st3).toList L.length∧(pendingOf st3).size+1=(pendingOf st2).size) st2:=fun i hi =>
     iA hC a2 a3 (N2 _) hi fun st3 b1 b2 _ b3=>⟨rfl,b1,b2,b3⟩
    refine N3 (OJ (show wpS _ _ _ _ (iz _) _ _ from key _ ?_) fun r st3 hr=>?_)
    ·unfold pendingOf at hs1 ⊢
     repeat' split
     all_goals lia
    ·obtain ⟨rfl,b1,b2,b3⟩:=hr
     simp only [RD,OV,if_false]
     exact N4 ⟨rfl,b1,b2,.inr (by lia)⟩
end
end SR
namespace SR
open PySem PyProof.Rows
section
noncomputable def dup (vs:List Value):List Keyed:=vs.map fun v=>(v,v)
theorem we (vs):(vs.toArray.zip vs.toArray).toList=dup vs:=by
 unfold dup
 rw [Array.toList_zip]
 induction vs with
 | nil=>rfl
 | cons v vs ih=>simpa using ih
noncomputable def Ord (rk:Keyed→Int) (b:Bool) (out:List Value):Prop:=out.Pairwise fun x y=>if b then rk (y,y)≤rk (x,x) else rk (x,x)≤rk (y,y)
theorem rA {xs:Array Keyed} (h:xs.toList.Perm (dup vs)):(xs.toList.map (·.2)).Perm vs∧∀ p∈xs.toList,p=(p.2,p.2):=by
 refine ⟨?_,fun p hp=>?_⟩
 ·have q:=h.map (·.2)
  have e:(dup vs).map (·.2)=vs:=by
   unfold dup
   rw [Ou]
   exact List.map_id' vs
  rwa [e] at q
 ·have:=h.mem_iff.mp hp
  simp only [dup,OF] at this
  obtain ⟨v,_,rfl⟩:=this
  rfl
theorem ED {st:SortSt} (hp:(arrOf st).toList.Perm (dup vs)) (hs:Seg rk (arrOf st) 0 (dup vs).length) (b) :
 ((if b=true then ((arrOf st).map (·.2)).reverse else (arrOf st).map (·.2)).toList).Perm vs∧Ord rk b (if b=true then ((arrOf st).map (·.2)).reverse else (arrOf st).map (·.2)).toList:=by
 obtain ⟨h1,h2⟩:=rA hp
 have up:((arrOf st).toList.map (·.2)).Pairwise fun x y=>rk (x,x)≤rk (y,y):=by
  rw [P5]
  refine Th.mpr fun i j hi hj hij=>?_
  have l:=hp.length_eq
  simp only [OT] at hi hj l
  have z:=hs i j (OH _) (Qn hij) (by lia)
  have ei:(arrOf st)[i]?=some ((arrOf st).toList[i]'(by simpa using hi)):=by simp [hi]
  have ej:(arrOf st)[j]?=some ((arrOf st).toList[j]'(by simpa using hj)):=by simp [hj]
  rw [dQ ei,dQ ej] at z
  have e1:=h2 _ (OD (show i<(arrOf st).toList.length by simpa using hi))
  have e2:=h2 _ (OD (show j<(arrOf st).toList.length by simpa using hj))
  rw [e1,e2] at z
  exact z
 cases b with
 | false=>simp only [OV,if_false,Ui]; exact ⟨h1,up.imp fun h=>by simpa using h⟩
 | true =>
  simp only [if_true,QZ,Ui]
  refine ⟨(Ss _).trans h1,?_⟩
  unfold Ord
  rw [List.pairwise_reverse]
  exact up.imp fun h=>by simpa using h
noncomputable def Nj (prog:Program) (w:World) (A:Around) (s:Shared) (a:Addr) (vs:List Value) (κ:SortKind) (rk:Keyed→Int):Prop :=
 ∀ h':Heap,(∀ c o,c≠a→s.heap.get? c=some o→h'.get? c=some o) →
  (∀ (Q:SortKind→Shared→Prop) (E:Value→Shared→Prop),2≤vs.length→Q κ { s with heap:=h' }→wpAny (model prog w) A (keyKind' vs.toArray) Q E { s with heap:=h' })∧iQ prog w A { s with heap:=h' } κ rk (dup vs)
theorem nV (ho:s.heap.get? a=some (seqObj "list" vs.toArray n)) (hk:Nj prog w A s a vs κ rk) (hz:vs.length≤sizeLine)
 (h:∀ out:Array Value,out.toList.Perm vs→Ord rk b out.toList→P (.done (.ret .none)) { s with heap:=sortedHeap s.heap a vs out }) :
 wpAny (model prog w) A (Builtin.«list.sort» ⟨[.ref a],[(NY "reverse",.bool b)]⟩) P E s:=by
 rw [list_sort_rev]
 have lta:a<s.heap.objs.size:=N9 ho
 refine NX (RE ho rfl (NX (Pu ho rfl ?_ (by simpa using hz))))
 obtain ⟨e1,ho1⟩:∃ e1,(s.heap.update a (OI fun _=> #[])).get? a=some (seqObj "list" #[] e1):=⟨_,SA ho (fun _=> #[])⟩
 have oth:∀ c o,c≠a→s.heap.get? c=some o→(s.heap.update a (OI fun _=> #[])).get? c=some o:=fun c o hc q=>by rw [Qf _ _ _ _ hc]; exact q
 have sz1:(s.heap.update a (OI fun _=> #[])).objs.size=s.heap.objs.size:=Ug ..
 refine NX (Q9 ho1 rfl (NX (wpAny_newTuple ?_ (by simpa using hz))))
 refine NX (RA (Pc ?_))
 show wpAny (model prog w) A _ P E { s with heap:=((s.heap.update a (OI fun _=> #[])).push (seqObj "tuple" vs.toArray 0)).push (seqObj "list" #[] 0) }
 have ho6:(((s.heap.update a (OI fun _=> #[])).push (seqObj "tuple" vs.toArray 0)).push (seqObj "list" #[] 0)).get? a=some (seqObj "list" #[] e1):=N7 _ (N7 _ ho1)
 obtain ⟨hkk,hC⟩:=hk (((s.heap.update a (OI fun _=> #[])).push (seqObj "tuple" vs.toArray 0)).push (seqObj "list" #[] 0)) fun c o hc q=>N7 _ (N7 _ (oth c o hc q))
 have fin:∀ st':SortSt,(arrOf st').toList.Perm (dup vs)→Seg rk (arrOf st') 0 (dup vs).length →
  P (.done (.ret .none)) { s with heap:=sortedHeap s.heap a vs (if b then ((arrOf st').map (·.2)).reverse else (arrOf st').map (·.2)) }:=fun st' hp hs =>
  let ⟨q1,q2⟩:=ED hp hs b; h _ q1 q2
 have hstart:(if b=true then (vs.toArray.zip vs.toArray).reverse else vs.toArray.zip vs.toArray).toList.Perm (dup vs):=by
  cases b with
  | false=>rw [if_neg Oc,we]
  | true=>rw [if_pos rfl,QZ,we]; exact Ss _
 dsimp only
 have told:∀ t:Sem Fin,wpAny (model prog w) A t P E { s with heap:=((s.heap.update a (OI fun _=> #[])).push (seqObj "tuple" vs.toArray 0)).push (seqObj "list" #[] 0) } →
  wpAny (model prog w) A (if b=true then (do let _ ← rule "list.sort.reverse"; t) else t) P E { s with heap:=((s.heap.update a (OI fun _=> #[])).push (seqObj "tuple" vs.toArray 0)).push (seqObj "list" #[] 0) }:=fun t ht=>by
  split
  ·exact NX (Pk ht)
  ·exact ht
 refine told _ ?_
 have hlen:∀ {xs:Array Keyed},xs.toList.Perm (dup vs)→(if b=true then (Array.map (fun x=>x.snd) xs).reverse else Array.map (fun x=>x.snd) xs).size≤sizeLine+1:=fun {xs} hp=>by
  have l:=hp.length_eq
  simp only [OT,dup,N6] at l
  split
  ·rw [Array.size_reverse,Array.size_map]; lia
  ·rw [Array.size_map]; lia
 by_cases h2:vs.toArray.size<2
 ·rw [if_pos h2,if_pos h2]
  refine NX (N1 ?_)
  rw [StateT.run_pure]
  refine NX (N1 ?_)
  dsimp only
  refine NX (Q9 ho6 rfl (NX (Pu ho6 rfl ?_ (hsz2:=hlen hstart))))
  simp only [bne_self_eq_false,OV,if_false]
  refine N1 (fin (Qq general' (if b=true then (vs.toArray.zip vs.toArray).reverse else vs.toArray.zip vs.toArray) #[] 7 none) hstart ?_)
  intro i j _ hij hj
  have hl:(dup vs).length<2:=by simpa [dup] using h2
  have:i=j:=by lia
  subst this; exact Pj _
 ·rw [if_neg h2,if_neg h2]
  refine NX (hkk _ _ (by simpa using h2) ?_)
  refine NX (OO (wpS_sortRuns (κ:=κ) (rk:=rk) (L:=dup vs) (st:=Qq κ (if b=true then (vs.toArray.zip vs.toArray).reverse else vs.toArray.zip vs.toArray) #[] 7 none)
   (Q:=fun _ st'=>(arrOf st').toList.Perm (dup vs)∧failedOf st'=none∧Seg rk (arrOf st') 0 (dup vs).length) hC ⟨hstart,rfl,rfl⟩ rfl fun st' a1 a2=>⟨a1.perm,a1.failed,a2⟩) ?_ fun _ _ e=>e)
  rintro ⟨⟨⟩,st'⟩ s' ⟨rfl,hp,hf,hs⟩
  dsimp only
  refine NX (Q9 ho6 rfl (NX (Pu ho6 rfl ?_ (hsz2:=hlen hp))))
  rw [hf]
  simp only [bne_self_eq_false,OV,if_false]
  exact N1 (fin st' hp hs)
end
section
variable {α:Type} {lt:α→α→Bool} {L:List α}
theorem filter_le:∀ {l:List α},(∀ z∈l,p z=true→q z=true)→(l.filter p).length≤(l.filter q).length
 | [],_=>N2 _
 | x::l,h=>by
  have ih:=filter_le (l:=l) fun z hz=>h z (Oe _ hz)
  have hx:=h x Od
  cases e:p x with
  | false =>
   rw [Ri (by simp [e])]
   by_cases e2:q x=true
   ·rw [Qv e2]; exact Nat.le_succ_of_le ih
   ·rw [Ri e2]; exact ih
  | true =>
   rw [Qv e,Qv (hx e)]
   exact Sx ih
theorem filter_lt:∀ {l:List α},(∀ z∈l,p z=true→q z=true)→(∃ z∈l,q z=true∧p z=false)→(l.filter p).length<(l.filter q).length
 | [],_,h=>by obtain ⟨z,h,_⟩:=h; cases h
 | x::l,h,g=>by
  have h':∀ z∈l,p z=true→q z=true:=fun z hz=>h z (Oe _ hz)
  have hx:=h x Od
  by_cases e:p x=true
  ·rw [Qv e,Qv (hx e)]
   obtain ⟨z,hz,z1,z2⟩:=g
   rcases Oh.mp hz with rfl | hz
   ·rw [e] at z2; cases z2
   ·exact Nat.succ_lt_succ (filter_lt h' ⟨z,hz,z1,z2⟩)
  ·rw [Ri e]
   by_cases e2:q x=true
   ·rw [Qv e2]; exact Nat.lt_succ_of_le (filter_le h')
   ·rw [Ri e2]
    obtain ⟨z,hz,z1,z2⟩:=g
    rcases Oh.mp hz with rfl | hz
    ·exact absurd z1 e2
    ·exact filter_lt h' ⟨z,hz,z1,z2⟩
structure Gf (lt:α→α→Bool) (L:List α):Prop where
 irr:∀ x∈L,lt x x=false
 tr:∀ x∈L,∀ y∈L,∀ z∈L,lt x y=true→lt y z=true→lt x z=true
 tot:∀ x∈L,∀ y∈L,x≠y→lt x y=true∨lt y x=true
noncomputable def rank (lt:α→α→Bool) (L:List α) (x:α):Int:=((L.filter fun z=>lt z x).length:Int)
theorem kH (h:Gf lt L) (hx:x∈L) (hy:y∈L) (e:lt x y=true):rank lt L x<rank lt L y:=by
 have q:=filter_lt (l:=L) (p:=fun z=>lt z x) (q:=fun z=>lt z y) (fun z hz hzx=>h.tr z hz x hx y hy hzx e) ⟨x,hx,e,h.irr x hx⟩
 unfold rank; lia
theorem EE (h:Gf lt L) (hx:x∈L) (hy:y∈L):decide (rank lt L x<rank lt L y)=lt x y:=by
 classical
 cases e:lt x y with
 | true=>exact decide_eq_true (kH h hx hy e)
 | false =>
  refine decide_eq_false fun z=>?_
  by_cases w:x=y
  ·subst w; exact absurd z (Int.lt_irrefl _)
  ·rcases h.tot x hx y hy w with q | q
   ·rw [e] at q; cases q
   ·have:=kH h hy hx q; lia
theorem gp (hp:n.Perm m):∀ {l:List α},Paired S l m→∃ l',l'.Perm l∧Paired S l' n:=by
 induction hp with
 | nil=>intro l h; exact ⟨l,.refl _,h⟩
 | cons x _ ih =>
  intro l h
  cases h with
  | cons r t=>obtain ⟨l',h1,h2⟩:=ih t; exact ⟨_::l',h1.cons _,.cons r h2⟩
 | swap x y l' =>
  intro l h
  cases h with
  | cons r t=>cases t with | cons r2 t2=>exact ⟨_,.swap _ _ _,.cons r2 (.cons r t2)⟩
 | trans _ _ ih1 ih2 =>
  intro l h
  obtain ⟨l1,h1,h2⟩:=ih2 h
  obtain ⟨l2,h3,h4⟩:=ih1 h2
  exact ⟨l2,h3.trans h1,h4⟩
theorem iB (h:Paired S l m):∀ u∈m,∃ x∈l,S x u:=by
 induction h with
 | nil=>intro u hu; cases hu
 | cons r t ih =>
  intro u hu
  rcases Oh.mp hu with rfl | hu
  ·exact ⟨_,Od,r⟩
  ·obtain ⟨x,h1,h2⟩:=ih u hu; exact ⟨x,Oe _ h1,h2⟩
open Classical in
noncomputable def yc {β:Type} (S:α→Value→Prop) (lt:α→α→Bool) (L:List α) (p:Value×β):Int:=if h:∃ x,x∈L∧S x p.1 then rank lt L h.choose else 0
theorem kI (inj:∀ x y u,S x u→S y u→x=y) (hx:x∈L) (h:S x p.1):yc S lt L p=rank lt L x:=by
 have e:∃ x,x∈L∧S x p.1:=⟨x,hx,h⟩
 unfold yc
 rw [dif_pos e,inj _ _ _ e.choose_spec.2 h]
theorem rB (inj:∀ x y u,S x u→S y u→x=y) (h:Gf lt L) (nd:L.Nodup) (hL:Paired S L us) (hp:out.Perm us) (ho:Ord (yc S lt L) b out) :
 ∃ L',L'.Perm L∧L'.Pairwise (fun x y=>if b then lt y x=true else lt x y=true)∧Paired S L' out:=by
 obtain ⟨L',h1,h2⟩:=gp hp hL
 refine ⟨L',h1,?_,h2⟩
 have hm:∀ x∈L',x∈L:=fun x hx=>h1.mem_iff.mp hx
 have nd':L'.Nodup:=h1.nodup_iff.mpr nd
 clear h1 hp hL nd
 unfold Ord at ho
 induction h2 with
 | nil=>exact .nil
 | @cons x u xs us r t ih =>
  obtain ⟨q1,q2⟩:=Q2.mp ho
  obtain ⟨n1,n2⟩:=Po.mp nd'
  refine .cons (fun y hy=>?_) (ih q2 (fun z hz=>hm z (Oe _ hz)) n2)
  have hx:=hm x Od
  have hyL:=hm y (Oe _ hy)
  obtain ⟨v,hv,sv⟩:∃ v∈us,S y v:=by
   clear ih ho q1 q2 n1 n2 hm nd'
   induction t with
   | nil=>cases hy
   | cons r t ih2 =>
    rcases Oh.mp hy with rfl | hy
    ·exact ⟨_,Od,r⟩
    ·obtain ⟨v,h1,h2⟩:=ih2 hy; exact ⟨v,Oe _ h1,h2⟩
  have q:=q1 v hv
  rw [kI inj hx (p:=(u,u)) r,kI inj hyL (p:=(v,v)) sv] at q
  have ne:x≠y:=fun z=>n1 (z ▸ hy)
  cases b with
  | true =>
   simp only [if_true] at q ⊢
   rcases h.tot x hx y hyL ne with w | w
   ·have:=kH h hx hyL w; lia
   ·exact w
  | false =>
   simp only [OV,if_false] at q ⊢
   rcases h.tot x hx y hyL ne with w | w
   ·exact w
   ·have:=kH h hyL hx w; lia
end
section
theorem A1 (inj:∀ x y u,S x u→S y u→x=y) (h:Gf lt L) (hL:Paired S L us)
 (hk:∀ x∈L,∀ y∈L,∀ u v,S x u→S y v→∀ (E:Value→Shared→Prop) (Q:Bool→Shared→Prop),Q (lt x y) s→wpAny (model prog w) A (keyLt' κ u v) Q E s):iQ prog w A s κ (yc S lt L) (dup us):=by
 intro p hp q hq E Q hQ
 simp only [dup,OF] at hp hq
 obtain ⟨u,hu,rfl⟩:=hp
 obtain ⟨v,hv,rfl⟩:=hq
 obtain ⟨x,hx,sx⟩:=iB hL u hu
 obtain ⟨y,hy,sy⟩:=iB hL v hv
 refine hk x hx y hy u v sx sy E Q ?_
 rw [kI inj hx (p:=(u,u)) sx,kI inj hy (p:=(v,v)) sy,EE h hx hy] at hQ
 exact hQ
end
end SR
namespace SR
open PySem PySem.Calls PyProof.Rows L2 EV
theorem mT (a):Builtin.«list.sort» ⟨[.ref a],[(NY "key",.builtin "len")]⟩=(do
 let items ← Rk (.ref a)
 Qe (.ref a) fun _=> #[]
 let before ← seqEpoch a
 let held ← newTuple items.toList
 let keyStore ← newList []
 holding [held,keyStore] do
  rule "list.sort.key"
  for x in items do
   match ← (call (.builtin "len") [x]).attempt with
   | .ok k=>Qe keyStore (·.push k)
   | .error e =>
    rule "list.sort.key-raised"
    let made ← Rk keyStore
    Qe keyStore fun _=> #[]
    letGo made.toList.reverse [e]
    Qe (.ref a) fun _=>items; throw e
  let keys ← Rk keyStore
  let kind ← if items.size<2 then pure general' else keyKind' keys
  let ((),s) ← (if items.size<2 then pure () else sortRuns').run (Qq kind (keys.zip items) #[] 7 none)
  Qe keyStore fun _=> #[]
  letGo ((arrOf s).map (·.1)).toList (failedOf s).toList
  let touched:=(← seqEpoch a) != before
  Qe (.ref a) fun _=>(arrOf s).map (·.2)
  if let some e:=failedOf s then rule "list.sort.comparison-raised"; throw e
  if touched then rule "list.sort.modified"; raiseError "ValueError" "list modified during sort"
  ret .none):=by
 rfl
theorem iC (a v):argsOk "list.sort" ⟨[a],[(NY "key",v)]⟩:=by unfold argsOk; kernel_rfl
theorem j7 (a v):argsOk "sorted" ⟨[a],[(NY "key",v)]⟩:=by unfold argsOk; kernel_rfl
section
noncomputable def intOf (p:Keyed):Int:=match p.1 with | .int m _=>m | _=>0
theorem wg:∀ {ks vs:List Value},ks.length=vs.length→(ks.zip vs).map (·.2)=vs
 | [],[],_=>rfl
 | k::ks,v::vs,h=>by rw [Sm,N5,wg (by simpa using h)]
 | [],_::_,h=>by simp at h
 | _::_,[],h=>by simp at h
theorem wj {ks vs:List Value} {ms:List Int} (h:IntsAre ks ms) {p:Keyed} (hp:p∈ks.zip vs):∃ m t,p.1=.int m t:=by
 obtain ⟨k,v⟩:=p
 exact h.all k (SD hp).1
theorem A2 (ho:s.heap.get? a=some (seqObj "list" vs.toArray n)) (hz:vs.length≤sizeLine)
 (hv:∀ v∈vs,∃ (l:Addr) (items:Array Value),v=.ref l∧l≠a∧s.heap.IsList l items∧items.size≤sizeLine)
 (h:∀ (out:Array Value) (h':Heap) (tk e:Nat),out.toList.Perm vs→h'.get? a=some (seqObj "list" out e)→(∀ c o,c≠a→s.heap.get? c=some o→h'.get? c=some o)→P (.done (.ret .none)) { s with heap:=h',toks:=tk }) :
 wpAny (model prog w) A (Builtin.«list.sort» ⟨[.ref a],[(NY "key",.builtin "len")]⟩) P E s:=by
 rw [mT]
 have lta:a<s.heap.objs.size:=N9 ho
 refine NX (RE ho rfl (NX (Pu ho rfl ?_ (by simpa using hz))))
 obtain ⟨e1,ho1⟩:∃ e1,(s.heap.update a (OI fun _=> #[])).get? a=some (seqObj "list" #[] e1):=⟨_,SA ho (fun _=> #[])⟩
 have oth:∀ c o,c≠a→s.heap.get? c=some o→(s.heap.update a (OI fun _=> #[])).get? c=some o:=fun c o hc q=>by rw [Qf _ _ _ _ hc]; exact q
 refine NX (Q9 ho1 rfl (NX (wpAny_newTuple ?_ (by simpa using hz))))
 refine NX (RA (Pc ?_))
 generalize hkS:((s.heap.update a (OI fun _=> #[])).push (seqObj "tuple" vs.toArray 0)).objs.size=kS
 have hks:(((s.heap.update a (OI fun _=> #[])).push (seqObj "tuple" vs.toArray 0)).push (seqObj "list" #[] 0)).get? kS=some (seqObj "list" #[] 0):=by rw [← hkS]; exact Oj _ rfl
 have kne:∀ c,c<s.heap.objs.size→c≠kS:=fun c hc e=>by
  rw [← hkS,size_push',Ug] at e; lia
 have k1:∀ c o,c≠a→s.heap.get? c=some o→(((s.heap.update a (OI fun _=> #[])).push (seqObj "tuple" vs.toArray 0)).push (seqObj "list" #[] 0)).get? c=some o:=fun c o hc q=>N7 _ (N7 _ (oth c o hc q))
 have ho6:(((s.heap.update a (OI fun _=> #[])).push (seqObj "tuple" vs.toArray 0)).push (seqObj "list" #[] 0)).get? a=some (seqObj "list" #[] e1):=N7 _ (N7 _ ho1)
 dsimp only
 generalize (((s.heap.update a (OI fun _=> #[])).push (seqObj "tuple" vs.toArray 0)).push (seqObj "list" #[] 0))=h1 at hks k1 ho6 ⊢
 have hak:a≠kS:=kne a lta
 refine NX (Pk ?_)
 refine NX (OO (wpAny_forIn_array' _ (fun rest _ s'=>∃ (dn:List Value) (ks:List Value) (ms:List Int) (hh:Heap) (tk e:Nat),vs=dn++rest∧s'={ s with heap:=hh,toks:=tk }∧IntsAre ks ms∧ks.length=dn.length∧hh.get? kS=some (seqObj "list" ks.toArray e)∧∀ c o,c≠kS→h1.get? c=some o→hh.get? c=some o)
  (fun _ s'=>∃ (ks:List Value) (ms:List Int) (hh:Heap) (tk e:Nat),s'={ s with heap:=hh,toks:=tk }∧IntsAre ks ms∧ks.length=vs.length∧hh.get? kS=some (seqObj "list" ks.toArray e)∧∀ c o,c≠kS→h1.get? c=some o→hh.get? c=some o) ?turn ?fin _ _ ?beg) ?rest fun _ _ e=>e)
 case beg=>exact ⟨[],[],[],h1,_,0,rfl,rfl,.nil,rfl,hks,fun _ _ _ q=>q⟩
 case fin =>
  rintro _ s' ⟨dn,ks,ms,hh,tk,e,e1,e2,e3,e4,e5,e6⟩
  rw [O5] at e1
  exact ⟨ks,ms,hh,tk,e,e2,e3,by rw [e4,e1],e5,e6⟩
 case turn =>
  rintro v rest _ s' ⟨dn,ks,ms,hh,tk,e,ev,rfl,e3,e4,e5,e6⟩
  obtain ⟨l,items,rfl,hla,hli,hsz⟩:=hv v (by rw [ev]; simp)
  obtain ⟨o,q1,q2,q3⟩:=hli
  have hl':hh.IsList l items:=⟨o,e6 l o (kne l (N9 q1)) (k1 l o hla q1),q2,q3⟩
  refine NX (Qk (call_len_list hl' (by have:=oB; lia) ?_))
  dsimp only
  have hkl:ks.length≤sizeLine:=by rw [e4]; have:=congrArg QI ev; simp at this; lia
  refine NX (Pu e5 rfl ?_ (by simpa using hkl) (by simp; lia))
  refine N1 ⟨dn++[.ref l],ks++[.int items.size (tk+1)],ms++[(items.size:Int)],_,_,e+1,by rw [ev]; simp,rfl,e3.append (.cons _ _ .nil),by simp [e4],?_,fun c o hc q=>?_⟩
  ·have:=SA e5 (fun a=>a.push (.int items.size (tk+1)))
   simpa using this
  ·rw [Qf _ _ _ _ hc]; exact e6 c o hc q
 case rest =>
  rintro _ s' ⟨ks,ms,hh,tk,e,rfl,e3,e4,e5,e6⟩
  refine NX (RE e5 rfl ?_)
  have zl:(ks.toArray.zip vs.toArray).toList=ks.zip vs:=by rw [Array.toList_zip]
  have hoa:=e6 a _ hak ho6
  have pl:∀ {st':SortSt},(arrOf st').toList.Perm (ks.zip vs)→((arrOf st').map (·.2)).toList.Perm vs:=fun {st'} hp=>by
   rw [Ui]
   have:=hp.map (·.2)
   rwa [wg e4] at this
  have ho7:(hh.update kS (OI fun _=>(#[]:Array Value))).get? a=some (seqObj "list" #[] e1):=by rw [Qf _ _ _ _ hak]; exact hoa
  have fin:∀ (out:Array Value),out.toList.Perm vs→P (.done (.ret .none)) { s with heap:=(hh.update kS (OI fun _=>(#[]:Array Value))).update a (OI fun _=>out),toks:=tk }:=fun out hp =>
   h out _ _ _ hp (SA ho7 (fun _=>out)) fun c o hc q=>by
    have lc:=N9 q
    rw [Qf _ _ _ _ hc,Qf _ _ _ _ (kne c lc)]
    exact e6 c o (kne c lc) (k1 c o hc q)
  have hkz:(ks.toArray:Array Value).size≤sizeLine:=by rw [Oo,e4]; exact hz
  have oz:∀ {out:Array Value},out.toList.Perm vs→out.size≤sizeLine+1:=fun {out} hp=>by
   have l:=hp.length_eq
   rw [OT] at l; lia
  by_cases h2:vs.toArray.size<2
  ·rw [if_pos h2,if_pos h2]
   refine NX (N1 ?_)
   rw [StateT.run_pure]
   refine NX (N1 ?_)
   dsimp only
   have p0:=pl (st':=Qq general' (ks.toArray.zip vs.toArray) #[] 7 none) (by show (ks.toArray.zip vs.toArray).toList.Perm _; rw [zl])
   refine NX (Pu e5 rfl ?_ hkz)
   refine NX (S0 ?_)
   refine NX (Q9 ho7 rfl (NX (Pu ho7 rfl ?_ (hsz2:=oz p0))))
   simp only [bne_self_eq_false,OV,if_false]
   exact N1 (fin _ p0)
  ·rw [if_neg h2,if_neg h2]
   rw [ksk_kind (kz:=ms) e3 (by rw [Oo,e4]; simpa using h2)]
   refine NX (N1 ?_)
   have hC:iQ prog w A { s with heap:=hh,toks:=tk } oneType' intOf (ks.zip vs):=fun x hx y hy E Q hQ=>by
    obtain ⟨m,t,ex⟩:=wj e3 hx
    obtain ⟨m',t',ey⟩:=wj e3 hy
    unfold intOf at hQ
    rw [ex,ey] at hQ ⊢
    rw [keyLt'_oneType]
    exact oneLt_int hQ
   refine NX (OO (wpS_sortRuns (κ:=oneType') (rk:=intOf) (L:=ks.zip vs) (st:=Qq oneType' (ks.toArray.zip vs.toArray) #[] 7 none)
    (Q:=fun _ st'=>(arrOf st').toList.Perm (ks.zip vs)∧failedOf st'=none) hC ⟨(by show (ks.toArray.zip vs.toArray).toList.Perm _; rw [zl]),rfl,rfl⟩ rfl fun st' a1 a2=>⟨a1.perm,a1.failed⟩) ?_ fun _ _ e=>e)
   rintro ⟨⟨⟩,st'⟩ s' ⟨rfl,hp,hf⟩
   dsimp only
   refine NX (Pu e5 rfl ?_ hkz)
   refine NX (S0 ?_)
   refine NX (Q9 ho7 rfl (NX (Pu ho7 rfl ?_ (hsz2:=oz (pl hp)))))
   rw [hf]
   simp only [bne_self_eq_false,OV,if_false]
   exact N1 (fin _ (pl hp))
end
end SR
namespace EV
open PySem PySem.Spec PySem.Calls PyProof.Rows L2
theorem kJ:∀ l:List Int,HT.lexLt l l=false
 | []=>rfl
 | x::l=>by rw [HT.cG,if_pos rfl]; exact kJ l
theorem ud:∀ {a b c:List Int},HT.lexLt a b=true→HT.lexLt b c=true→HT.lexLt a c=true
 | [],[],_,h,_=>by cases h
 | [],_::_,[],_,h=>by cases h
 | [],_::_,_::_,_,_=>rfl
 | _::_,[],_,h,_=>by cases h
 | _::_,_::_,[],_,h=>by cases h
 | x::a,y::b,z::c,h,g=>by
  rw [HT.cG] at h g ⊢
  by_cases e:x=y
  ·subst e
   rw [if_pos rfl] at h
   by_cases f:x=z
   ·subst f; rw [if_pos rfl] at g ⊢; exact ud h g
   ·rw [if_neg f] at g ⊢; exact g
  ·rw [if_neg e] at h
   have h:=of_decide_eq_true h
   by_cases f:y=z
   ·subst f; rw [if_neg e]; exact decide_eq_true h
   ·rw [if_neg f] at g
    have g:=of_decide_eq_true g
    rw [if_neg (by lia)]; exact decide_eq_true (by lia)
theorem kK:∀ {a b:List Int},a≠b→HT.lexLt a b=true∨HT.lexLt b a=true
 | [],[],h=>absurd rfl h
 | [],_::_,_=>.inl rfl
 | _::_,[],_=>.inr rfl
 | x::a,y::b,h=>by
  rw [HT.cG,HT.cG]
  by_cases e:x=y
  ·subst e
   rw [if_pos rfl,if_pos rfl]
   exact kK fun z=>h (by rw [z])
  ·rw [if_neg e,if_neg (Oq e)]
   rcases Int.lt_or_gt_of_ne e with z | z
   ·exact .inl (decide_eq_true z)
   ·exact .inr (decide_eq_true z)
noncomputable abbrev aG:=List Int×Int
noncomputable def cP (x y:aG):Bool:=if x.1=y.1 then decide (x.2<y.2) else HT.lexLt x.1 y.1
theorem o7 (L:List aG):SR.Gf cP L where
 irr:=fun x _=>by unfold cP; rw [if_pos rfl]; exact decide_eq_false (Int.lt_irrefl _)
 tr:=fun x _ y _ z _ h g=>by
  unfold cP at *
  by_cases e:x.1=y.1
  ·rw [if_pos e] at h
   by_cases f:y.1=z.1
   ·rw [if_pos f] at g; rw [if_pos (e.trans f)]
    exact decide_eq_true (Int.lt_trans (of_decide_eq_true h) (of_decide_eq_true g))
   ·rw [if_neg f] at g; rw [if_neg (fun w=>f (e.symm.trans w)),e]; exact g
  ·rw [if_neg e] at h
   by_cases f:y.1=z.1
   ·rw [if_neg (fun w=>e (w.trans f.symm)),← f]; exact h
   ·rw [if_neg f] at g
    have q:=ud h g
    rw [if_neg fun w=>by rw [w,kJ] at q; cases q]; exact q
 tot:=fun x _ y _ h=>by
  unfold cP
  by_cases e:x.1=y.1
  ·rw [if_pos e,if_pos e.symm]
   have:x.2≠y.2:=fun z=>h (Prod.ext e z)
   rcases Int.lt_or_gt_of_ne this with z | z
   ·exact .inl (decide_eq_true z)
   ·exact .inr (decide_eq_true z)
  ·rw [if_neg e,if_neg (Oq e)]
   exact kK e
noncomputable abbrev aM (t:aG):D:=.tup [.tup (t.1.map .int),.int t.2]
section
variable {X:Cx}
noncomputable def j8 (K:NZ) (Hf:Hp) (d:D) (u:Value):Prop:=∃ v,RelV v u∧Rep K Hf d v
theorem A3 (l m:List Int):k7 1 (.tup (l.map .int)) (.tup (m.map .int)):=.tup fun i d e h1 h2=>by
 simp only [Oa,Og] at h1 h2
 obtain ⟨x,_,rfl⟩:=h1
 obtain ⟨y,_,rfl⟩:=h2
 exact .sc rfl
theorem jf:∀ {l:List Int} {ys:List V},aq X.K Hf (l.map D.int) ys→ys=l.map V.int
 | [],ys,h=>ay.mp h
 | n::l,ys,h=>by
  obtain ⟨y,r,rfl,z1,z2⟩:=aC.mp h
  rw [av] at z1; subst z1
  rw [jf z2]; rfl
theorem iD:∀ (l:List α) (r:List β) {Q:List β→Shared→Prop},Paired (fun a b=>∀ (Q:β→Shared→Prop),Q b s→wpAny M A (f a) Q E s) l r→Q r s→wpAny M A (l.mapM f) Q E s
 | _,_,Q,.nil,h=>by rw [List.mapM_nil]; exact N1 h
 | _,_,Q,.cons q t,h=>by
  rw [List.mapM_cons]
  exact NX (q _ (NX (iD _ _ t (N1 h))))
end
section
noncomputable abbrev EF (X:Cx) (A:Around):Cx:={ X with A:=A }
theorem Lq (ok:X.Ok) (h1:X.calm=true→A.handled=none) (h2:A.frames=some X.stack):(EF X A).Ok :=
 ⟨ok.mod,ok.kind,ok.glob,ok.blt,ok.above,ok.inj,ok.has,ok.cab,h1,h2,ok.stk,ok.exf,ok.bs,ok.bsz,ok.noex,ok.exfs,ok.ju,ok.frf⟩
theorem jF (I:Inv X aa σ H s) (h1:X.calm=true→A.handled=none) (h2:A.frames=some X.stack):Inv (EF X A) aa σ H s :=
 ⟨Lq I.ok h1 h2,I.os,I.bare,I.base,I.loc,I.cell,I.free,I.freeC,I.pin,I.hok,I.len⟩
theorem gq (ok:X.Ok) (I:Inv (EF X A) aa σ H s):Inv X aa σ H s :=
 ⟨ok,I.os,I.bare,I.base,I.loc,I.cell,I.free,I.freeC,I.pin,I.hok,I.len⟩
theorem EG {fp:List Addr} (h:∀ b∈fp,fY X aa H b) (n:∀ b∈fp,H' b=none):∀ b∈fp,fY X aa H' b:=fun b hb=>⟨n b hb,(h b hb).2⟩
theorem A4 (hc:X.calm=true) (Tn:Turn X.prog X.w X.K (.Name nm np) J fp it tn) (io:jA X.K J ds Dn)
 (hS0:Hb S=none) (hSf:S∉fp) (hn:ds.length≤sizeLine) (okX:X.Ok) (h1:X.A.in1.handled=none) (h2:X.A.in1.frames=some X.stack)
 (fin:∀ (s':Shared) (H' aj:Hp) (xs:List V),Inv X aa σ H' s'→H' S=some (.lst xs)→aj S=none→aq X.K aj ds xs→bq Hb Dn H' aj→R (.ok (.ret res)) s') :
 ∀ (k i:Nat) (s:Shared) (H Hf:Hp) (xs:List V),ds.length - i=k→i≤ds.length→Inv X aa σ H s→tn i s.heap→(∀ b∈fp,fY X aa H b)→H S=some (.lst xs)→Hf S=none→aq X.K Hf (ds.take i) xs→bq Hb Dn H Hf →
  codeAny (model X.prog X.w) X.A (.builtin "list.extend.loop" ⟨[.ref S,.ref it,res],[]⟩) R s:=by
 intro k
 induction k with
 | zero =>
  intro i s H Hf xs hk hi I t hf hS hfS hr g
  have e:i=ds.length:=by omega
  subst e
  rw [OW] at hr
  refine Ru PySem.F.entry_extend_loop ?_
  rw [Sg RY _]
  show wpAny _ X.A.in1 (pyNext (.ref it) >>= _) _ _ s
  refine NX (OO (Tn.done (EF X X.A.in1) rfl rfl rfl hc _ aa s σ H _ (jF I (fun _=>h1) h2) hf t (io.stop _ H Hf g.f g.b (N2 _))) (fun r s' ⟨e,I'⟩=>?_) fun _ _ x=>x)
  subst e
  exact N1 (fin s' H Hf xs (gq okX I') hS hfS hr g)
 | succ k ih =>
  intro i s H Hf xs hk hi I t hf hS hfS hr g
  have lt:i<ds.length:=by omega
  have ed:ds[i]?=some ds[i]:=Ot lt
  obtain ⟨hgo,hy⟩:=io.go i ds[i] H Hf g.f g.b ed
  refine Ru PySem.F.entry_extend_loop ?_
  rw [Sg RY _]
  show wpAny _ X.A.in1 (pyNext (.ref it) >>= _) _ _ s
  refine NX (OO (Tn.item (EF X X.A.in1) rfl rfl rfl hc i aa s σ H _ (jF I (fun _=>h1) h2) hf t hgo) (fun r s1 ⟨u,e,hu⟩=>?_) fun _ _ x=>x)
  subst e
  show wpAny _ X.A.in1 (letOwnedTupleGo (.Name nm np) (.ref it) u >>= fun _=>(Qe (.ref S) (·.push u) >>= fun _=>again (.builtin "list.extend.loop" ⟨[.ref S,.ref it,res],[]⟩))) _ _ s1
  refine NX (OO hu (fun _ s2 ⟨x,H',I2,rx,y,t2,n2⟩=>?_) fun _ _ x=>x)
  have I2:=gq okX I2
  obtain ⟨aj,g',rd⟩:=hy x H' y
  have hS':H' S=some (.lst xs):=g'.s _ _ hS
  have hfS':aj S=none:=g'.n S hfS (by rw [hS]; simp) (by intro ys; rw [hS]; simp)
  obtain ⟨z,its,n,rv,el,eo⟩:=I2.qj hS'
  have hx:xs.length=i:=by rw [← hr.length,Pb]; omega
  have hz:(xs++[x]).length≤sizeLine:=by simp only [OL,OE,PM]; omega
  refine NX (Pu eo rfl ?_ (by simp; omega) (by simp; omega))
  have ef:(fun a:Array Value=>a.push u) its.toArray=(its++[u]).toArray:=by simp
  have I3:=I2.tM (f:=fun a=>a.push u) (t':=s2.toks) hS' eo ef (rv.append (.cons rx .nil)) hz
  refine N1 ⟨plainId_quiet RY _,ih (i+1) _ (upd H' S (.lst (xs++[x]))) aj (xs++[x]) (by omega) lt I3 (Tn.keep _ _ _ t2 fun b hb o e=>?_) (EG hf fun b hb=>?_) ai hfS' ?_ (oW (g.trans g') hS0 hfS')⟩
  ·exact (R7 _ _ (fun w:S=b=>hSf (w ▸ hb))).trans e
  ·rw [ak (fun w:b=S=>hSf (w ▸ hb))]; exact n2 b hb
  ·rw [T7,ed]
   exact (hr.mono g'.f).append (aq.one rd)
end
section
theorem yd (hT:s.TypeIs (.ref v) "dict_items") (hQ:Q false s):wpAny (model prog w) A (QO (.ref v)) Q E s:=by
 unfold QO
 refine NX (wpAny_specialOf hT PySem.F.slot_dict_items_len.lookup ?_)
 have e:splitId "dict_items.__len__"=some ("dict_items","__len__"):=by decide +kernel
 dsimp only
 rw [e]
 dsimp only
 refine NX (Sw (b:=true) hT (by rw [isSubtype_type]; kernel_rfl) ?_)
 rw [if_neg (by decide)]
 exact NX (Ql hT (N1 hQ))
end
section
theorem EH (I:Inv X aa σ H s) (hv:s.heap.IsItemsView v d) (hH:H d=some (.frz o u)) (hd:HO.dct u) :
 wpAny (model X.prog X.w) A (pyIter (.ref v)) (fun itv s2=>∃ (it:Addr) (es:Array DictEntry) (ep:Nat),itv=.ref it∧s.heap.objs.size≤it∧Inv X aa σ H s2∧Turn X.prog X.w X.K tg (Ni d o u) [it] it (fun i h=>AL h it d i es.size ep)∧AL s2.heap it d 0 es.size ep∧(∀ b∈[it],fY X aa H b) ∧
  (∀ b o,s.heap.get? b=some o→s2.heap.get? b=some o)) E s:=by
 obtain ⟨ho,ok⟩:=(show bg X.prog X.w H s.heap d (.frz o u) from I.hok d _ hH)
 obtain ⟨hx,es,ep,hod,hp,hs,hz⟩:=cK ok hd ho
 refine xX hv ho hod ?_
 have hsz:es.size=(bJ u).length:=by rw [Ph hp]; simp
 refine ⟨_,es,ep,rfl,N2 _,I.kept (t':=s.toks) fun b o e=>N7 _ e,tX (o:=o) (u:=u) (es:=es) (ep:=ep) hd hod (fun z=>?_) hsz,⟨.none,false,.none,.none,Oj _ rfl,.inl rfl⟩,fun b hb=>?_,fun b o e=>N7 _ e⟩
 ·have lt:=N9 ho
  rw [← z] at lt
  exact absurd lt (PB _)
 ·have e:b=s.heap.objs.size:=by simpa using hb
  subst e
  exact I.mJ (N2 _) (I.hok.fresh (N2 _))
theorem nW (hc:X.calm=true) (h1:X.A.in1.handled=none) (h2:X.A.in1.frames=some X.stack) (I1:Inv X aa σ (upd H S (.lst [])) s) (sb:aD Hf H) (HS:H S=none) (hvS:S≠src) (hltS:S<s.heap.objs.size) (hn:ds.length≤sizeLine)
 (hT:(false || Pe T == Pe "list" || Pe T == Pe "tuple")=false) (ty:∀ s':Shared,(∀ b o,s.heap.get? b=some o→s'.heap.get? b=some o)→s'.TypeIs (.ref src) T)
 (hint:∀ (A:Around) (s':Shared) (Q:Bool→Shared→Prop) (E:Value→Shared→Prop),s'.TypeIs (.ref src) T→Q false s'→wpAny (model X.prog X.w) A (QO (.ref src)) Q E s')
 (iter:wpAny (model X.prog X.w) X.A.in1 (pyIter (.ref src)) (fun itv s2=>∃ (it:Addr) (tn:Nat→Heap→Prop) (J:It),itv=.ref it ∧
   s.heap.objs.size≤it∧Inv X aa σ (upd H S (.lst [])) s2∧Turn X.prog X.w X.K (.Name "x" ⟨0,0,0,0⟩) J [it] it tn∧tn 0 s2.heap∧(∀ b∈[it],fY X aa (upd H S (.lst [])) b)∧(∀ b o,s.heap.get? b=some o→s2.heap.get? b=some o)∧jA X.K J ds Hf) E s)
 (hR:∀ (s':Shared) (H' aj:Hp) (xs:List V),Inv X aa σ H' s'→H' S=some (.lst xs)→aj S=none→aq X.K aj ds xs→bq H Hf H' aj→R (.ok (.ret res)) s') :
 wpAny (model X.prog X.w) X.A.in1 (RV (.ref S) (.ref src) res) (fun fin s'=>match fin with | .done f=>R (.ok f) s' | .again c=>c.quiet=true∧codeAny (model X.prog X.w) X.A c R s') E s:=by
 unfold RV
 have ne:Builtin.List.listSameRef (.ref S) (.ref src)=false:=by simp [Builtin.List.listSameRef,hvS]
 refine NX (Ql (ty s fun _ _ e=>e) ?_)
 rw [if_neg (by rw [ne,hT]; decide)]
 refine NX (OO iter (fun itv s2 hh=>z3 hh fun it tn J hh=>w8 hh fun e hit I2 Tn t0 hf k2 io=>?_) fun _ _ x=>x)
 subst e
 refine NX (Pc (hint _ s2 _ _ (ty s2 k2) ?_))
 have hSne:it≠S:=Q8 (OU hltS hit)
 have g0:bq H Hf (upd H S (.lst [])) Hf:=bq.gi sb HS
 have fin:∀ s3:Shared,Inv X aa σ (upd H S (.lst [])) s3→tn 0 s3.heap→wpAny (model X.prog X.w) X.A.in1 (again (.builtin "list.extend.loop" ⟨[.ref S,.ref it,res],[]⟩)) (fun fin s'=>match fin with | .done f=>R (.ok f) s' | .again c=>c.quiet=true∧codeAny (model X.prog X.w) X.A c R s') E s3:=fun s3 I3 t3 =>
  N1 ⟨plainId_quiet RY _,A4 (X:=X) (Hb:=H) (Dn:=Hf) hc Tn io HS (fun m=>hSne (Oi.mp m).symm) hn I1.ok h1 h2 hR ds.length 0 s3 _ Hf [] (by simp) (OH _) I3 t3 hf ai (sb.free HS) (ay.mpr rfl) g0⟩
 obtain ⟨_,its,n,rv,el,eo⟩:=I2.qj (l:=S) (xs:=[]) ai
 cases rv
 split
 ·refine NX (Pk ?_)
  unfold Builtin.List.listTouch
  refine NX (NX (Pu eo rfl ?_))
  have I3:=I2.tM (f:=fun a=>a.push .none) (its':=[.none]) (ys:=[.non]) (t':=s2.toks) ai eo (by simp) (.cons rfl .nil) (by show 1≤sizeLine; decide)
  obtain ⟨_,its3,n3,rv3,el3,eo3⟩:=I3.qj (l:=S) (xs:=[.non]) ai
  cases rv3 with
  | cons r3 t3 =>
   cases t3
   cases r3
   refine Pu eo3 rfl ?_
   have I4:=I3.tM (f:=fun a=>a.pop) (its':=[]) (ys:=[]) (t':=s2.toks) ai eo3 (by simp) .nil (OH _)
   rw [oq,oq] at I4
   refine fin _ I4 (Tn.keep 0 _ _ t0 fun b hb o e=>?_)
   have hbS:S≠b:=fun w=>hSne (by rw [Oi.mp hb] at w; exact w.symm)
   exact (R7 _ _ hbS).trans ((R7 _ _ hbS).trans e)
 ·exact fin s2 I2 t0
theorem lU (hc:X.calm=true) (h1:X.A.in1.handled=none) (h2:X.A.in1.frames=some X.stack) (I:Inv X aa σ H s) (sb:aD Hf H) (hlt:src<s.heap.objs.size) (hn:ds.length≤sizeLine) (hT:(false || Pe T == Pe "list" || Pe T == Pe "tuple")=false)
 (ty:∀ s':Shared,(∀ b o,s.heap.get? b=some o→s'.heap.get? b=some o)→s'.TypeIs (.ref src) T)
 (hint:∀ (A:Around) (s':Shared) (Q:Bool→Shared→Prop) (E:Value→Shared→Prop),s'.TypeIs (.ref src) T→Q false s'→wpAny (model X.prog X.w) A (QO (.ref src)) Q E s')
 (iter:∀ (A:Around) (s1:Shared) (H1:Hp) (E:Value→Shared→Prop),Inv X aa σ H1 s1→aD Hf H1→(∀ b o,s.heap.get? b=some o→s1.heap.get? b=some o)→wpAny (model X.prog X.w) A (pyIter (.ref src)) (fun itv s2=>∃ (it:Addr) (tn:Nat→Heap→Prop) (J:It),itv=.ref it ∧
   s1.heap.objs.size≤it∧Inv X aa σ H1 s2∧Turn X.prog X.w X.K (.Name "x" ⟨0,0,0,0⟩) J [it] it tn∧tn 0 s2.heap∧(∀ b∈[it],fY X aa H1 b)∧(∀ b o,s1.heap.get? b=some o→s2.heap.get? b=some o)∧jA X.K J ds Hf) E s1)
 (hQ:∀ (us:List Value) (s':Shared) (H' aj:Hp) (xs:List V),Inv X aa σ H' s'→Vals xs us→aq X.K aj ds xs→bq H Hf H' aj→ds.length≤sizeLine→Q us s'):wpAny (model X.prog X.w) X.A (collect (.ref src)) Q E s:=by
 unfold collect
 refine NX (wpAny_runValue (Ru PySem.F.entry_proto_collect ?_))
 rw [Sg PySem.F.plain_proto_collect _]
 show wpAny _ X.A.in1 (newList [] >>= fun l=>again (.builtin "list.__iadd__" ⟨[l,.ref src],[]⟩)) _ _ s
 have HS:H s.heap.objs.size=none:=I.hok.fresh (N2 _)
 have hvS:s.heap.objs.size≠src:=Q8 hlt
 refine NX (O4 (N1 ⟨plainId_quiet PySem.F.plain_list_iadd _,Ru PySem.F.entry_list_iadd ?_⟩))
 rw [Sg PySem.F.plain_list_iadd _]
 generalize hS:s.heap.objs.size=S at *
 have I1:Inv X aa σ (upd H S (.lst [])) { s with heap:=s.heap.push { cls:=.type "list",data:=.seq ([]:List Value).toArray },toks:=s.toks }:=by
  have:=I.DH (t':=s.toks) (ys:=[]) (its:=[]) .nil (OH _)
  rw [hS] at this
  exact this
 show wpAny _ X.A.in1 (RV (.ref S) (.ref src) (.ref S)) _ _ { s with heap:=s.heap.push { cls:=.type "list",data:=.seq ([]:List Value).toArray } }
 have k1:∀ b o,s.heap.get? b=some o→(s.heap.push { cls:=.type "list",data:=.seq ([]:List Value).toArray }).get? b=some o:=fun b o e=>N7 _ e
 generalize hs1:({ s with heap:=s.heap.push { cls:=.type "list",data:=.seq ([]:List Value).toArray } }:Shared)=s1
 replace I1:Inv X aa σ (upd H S (.lst [])) s1:=by rw [← hs1]; exact I1
 replace k1:∀ b o,s.heap.get? b=some o→s1.heap.get? b=some o:=by rw [← hs1]; exact k1
 have hltS:S<s1.heap.objs.size:=by rw [← hs1,← hS]; show _<(Heap.push _ _).objs.size; rw [Qj]; exact QC _
 refine nW (R:=fun r s'=>match r with
  | .ok (.ret v)=>wpAny (model X.prog X.w) X.A (do
   let .ref a:=v | unsupported "internal:collect"
   let o ← load a
   match o.data with
   | .seq xs _=>pure xs.toList
   | _=>unsupported "internal:collect") Q E s'
  | .ok _=>False
  | .error e=>E e s') hc h1 h2 I1 sb HS hvS hltS hn hT (fun s' k=>ty s' fun b o e=>k b o (k1 b o e)) hint (iter _ s1 _ _ I1 (bq.gi sb HS (o:=.lst [])).b k1) fun s' H' aj xs I' hS' _ hr g=>?_
 obtain ⟨_,its,n,rv,el,eo⟩:=I'.qj hS'
 exact NX (wpAny_load eo (N1 (hQ its s' H' aj xs I' rv hr g hn)))
end
noncomputable def Ir (te:TE):TE:=fun σ H Q=>te σ H fun x H1=>∃ d o u,x=.ref d∧H1 d=some (.frz o u)∧HO.dct u∧∀ v,H1 v=none→Q (.ref v) (upd H1 v (.ext fun h=>h.IsItemsView v d))
theorem A5 (he:PE X e te) (hbase:attributeBase e "items" X.env (eval e X.env)=eval e X.env) (hline:(ap.endLine == cp.line)=true):PE X (.Call (.Attribute e "items" ap) [] [] cp) (Ir te):=by
 intro aa s σ H Q I h
 refine wpAny_Call_method (T:="dict") (id:="dict.items") hbase rfl hline F.plainAttrs_dict F.slot_dict_items F.type_dict_items (bC (he aa s σ H _ I h) fun v s1 ⟨x,H1,I1,r1,d,o,u,ex,hH,hd,q⟩=>?_)
 subst ex
 cases r1
 obtain ⟨ho,ok⟩:=(show bg X.prog X.w H1 s1.heap d (.frz o u) from I1.hok d _ hH)
 obtain ⟨hx,es,ep,hod,hp,hs,hz⟩:=cK ok hd ho
 have hT:s1.TypeIs (.ref d) "dict":=⟨o,ho,hx.1⟩
 refine ⟨hT,fun b z=>by cases z; exact ⟨o,ho,hx.2.1⟩,?_⟩
 show wpAny _ _ (callWith cp (.builtin "dict.items") [.ref d] [] []) _ _ s1
 refine method_meetsIn F.slot_dict_items F.entry_dict_items rfl (PySem.evalArgs_none ⟨rfl,hT,F.args_dict_items_1 _,_,qR d hs,hT,?_⟩)
 have Hv:H1 s1.heap.objs.size=none:=I1.hok.fresh (N2 _)
 have hve:(s1.heap.push { cls:=.type "dict_items",data:=.fields #[.ref d] }).IsItemsView s1.heap.objs.size d:=⟨_,Oj _ rfl,rfl,rfl⟩
 have I2:Inv X aa σ (upd H1 s1.heap.objs.size (.ext fun h=>h.IsItemsView s1.heap.objs.size d)) { s1 with heap:=s1.heap.push { cls:=.type "dict_items",data:=.fields #[.ref d] },toks:=s1.toks } :=
  I1.laid (a:=s1.heap.objs.size) (fun _ _ q=>N7 _ q) (N2 _) ⟨hve,⟨_,Oj _ rfl⟩,fun h1 h2 ⟨o,e,r⟩ k=>⟨o,k o e,r⟩⟩
 exact ⟨.ref s1.heap.objs.size,_,I2,rfl,q _ Hv⟩
section
variable {X:Cx} {aa:List (Addr×Obj)} {σ:L2.St} {H Hf:Hp} {s:Shared} {E:Value→Shared→Prop} {α:Type} {enc:α→D} {lt:α→α→Bool} {κ:SortKind}
theorem lV {K:NZ}:∀ {L:List α} {xs:List V} {us:List Value},aq K Hf (L.map enc) xs→Vals xs us→Paired (fun x u=>j8 K Hf (enc x) u) L us
 | [],xs,us,h,v=>by rw [Qo,ay] at h; subst h; cases v; exact .nil
 | t::L,xs,us,h,v=>by
  rw [N5] at h
  obtain ⟨x,r,rfl,h1,h2⟩:=aC.mp h
  cases v with
  | cons r1 r2=>exact .cons ⟨x,r1,h1⟩ (lV h2 r2)
theorem lW {K:NZ}:∀ {L:List α} {us:List Value},Paired (fun x u=>j8 K Hf (enc x) u) L us→∃ xs,aq K Hf (L.map enc) xs∧Vals xs us
 | _,_,.nil=>⟨[],ay.mpr rfl,.nil⟩
 | _,_,.cons ⟨x,r1,h1⟩ t=>by
  obtain ⟨xs,h2,h3⟩:=lW t
  exact ⟨x::xs,.cons h1 h2,.cons r1 h3⟩
structure Lr (X:Cx) (enc:α→D) (lt:α→α→Bool) (κ:SortKind):Prop where
 lin:∀ L:List α,SR.Gf lt L
 inj:∀ (aa:List (Addr×Obj)) (σ:L2.St) (H Hf:Hp) (s:Shared),Inv X aa σ H s→aD Hf H→∀ x y u,j8 X.K Hf (enc x) u→j8 X.K Hf (enc y) u→x=y
 kind:∀ (aa:List (Addr×Obj)) (σ:L2.St) (H Hf:Hp) (s:Shared) (A:Around) (E:Value→Shared→Prop),Inv X aa σ H s→aD Hf H→∀ (L:List α) (us:List Value),Paired (fun x u=>j8 X.K Hf (enc x) u) L us→2≤us.length→∀ Q:SortKind→Shared→Prop,Q κ s→wpAny (model X.prog X.w) A (keyKind' us.toArray) Q E s
 cmp:∀ (aa:List (Addr×Obj)) (σ:L2.St) (H Hf:Hp) (s:Shared) (A:Around) (E:Value→Shared→Prop),Inv X aa σ H s→aD Hf H→A.units+10<cLine→∀ (x y:α) (u v:Value),j8 X.K Hf (enc x) u→j8 X.K Hf (enc y) v→∀ Q:Bool→Shared→Prop,Q (lt x y) s→wpAny (model X.prog X.w) A (keyLt' κ u v) Q E s
noncomputable def fF (lt:α→α→Bool) (b:Bool) (L:List α):Prop:=L.Pairwise fun x y=>if b then lt y x=true else lt x y=true
noncomputable abbrev jg (b:Bool) (L:List aG):Prop:=fF cP b L
theorem A6 {Q:Value→Shared→Prop} (hs:Lr X enc lt κ) (I:Inv X aa σ H s) (sb:aD Hf H) (hA:A.units+20<cLine) (hr:aq X.K Hf (L.map enc) xs) (hv:Vals xs us) (hz:us.length≤sizeLine) (nd:L.Nodup)
 (hQ:∀ (L':List α) (xs':List V) (s':Shared),L'.Perm L→fF lt b L'→aq X.K Hf (L'.map enc) xs'→xs'.length≤sizeLine→Inv X aa σ (upd H s.heap.objs.size (.lst xs')) s'→Q (.ref s.heap.objs.size) s') :
 wpAny (model X.prog X.w) A (newList us >>= fun l=>(holding [l] (call (.builtin "list.sort") [l] [(NY "reverse",.bool b)]) >>= fun _=>ret l)) (fun fin s'=>∃ v,fin=.done (.ret v)∧Q v s') E s:=by
 refine NX (RA ?_ hz)
 have ha:(s.heap.push (seqObj "list" us.toArray 0)).get? s.heap.objs.size=some (seqObj "list" us.toArray 0):=Oj _ rfl
 have I1:Inv X aa σ H { s with heap:=s.heap.push (seqObj "list" us.toArray 0),toks:=s.toks }:=I.kept fun b o e=>N7 _ e
 have Ha:H s.heap.objs.size=none:=I.hok.fresh (N2 _)
 obtain ⟨f0,f1,f2,f3,f4,f5⟩:=I.mJ (H':=H) (N2 _) Ha
 have pL:=lV hr hv
 refine NX (Pc (TL slot_list_sort ⟨_,ha,rfl⟩ entry_list_sort (SR.nV (κ:=κ) (rk:=SR.yc (fun x u=>j8 X.K Hf (enc x) u) lt L) (b:=b) ha ?_ hz fun out hp ho=>⟨_,rfl,?_⟩) (args_list_sort_rev _ _)))
 ·intro h' k
  have I2:=I1.turned (h':=h') (t':=s.toks) (it:=s.heap.objs.size) (fun b o hb e=>k b o hb e) f0 f1 f3 f4 f5
  refine ⟨fun Q E h2 hQ=>hs.kind _ _ _ _ _ _ _ I2 sb _ _ pL h2 _ hQ,SR.A1 (fun x y u h1 h2=>hs.inj _ _ _ _ _ I2 sb x y u h1 h2) (hs.lin L) pL fun x _ y _ u v hx hy E Q hQ=>hs.cmp _ _ _ _ _ _ _ I2 sb ?_ _ _ _ _ hx hy _ hQ⟩
  show A.units+1+10<cLine
  lia
 ·obtain ⟨L',p1,p2,p3⟩:=SR.rB (S:=fun x u=>j8 X.K Hf (enc x) u) (fun x y u h1 h2=>hs.inj _ _ _ _ _ I sb x y u h1 h2) (hs.lin L) nd pL hp ho
  obtain ⟨xs',r',v'⟩:=lW p3
  obtain ⟨e,he⟩:=sortedHeap_at (vs:=us) (out:=out) ha
  have hl:out.toList.length=us.length:=hp.length_eq
  refine N1 ⟨_,rfl,hQ L' xs' _ p1 p2 r' ?_ ?_⟩
  ·have:=v'.length; lia
  ·refine I.laid (t':=s.toks) (fun b o q=>?_) (N2 _) ⟨by have:=v'.length; lia,out.toList,e,v',by simpa using he⟩
   have lt:=N9 q
   rw [sortedHeap_old (OB lt) (by rw [size_push']; exact So lt)]
   exact N7 _ q
end
section
end
section
variable {K:NZ}
end
section
end
section
variable {K:NZ}
end
end EV
namespace EV
open PySem PySem.Spec PyProof.Rows L2
noncomputable def trim (l:List Int):List Int:=(l.reverse.dropWhile fun x=>x == 0).reverse
theorem gT (l):trim (l++[0])=trim l:=by simp [trim]
theorem nX (l) (h:x≠0):trim (l++[x])=l++[x]:=by simp [trim,List.dropWhile_cons,h]
theorem jG {l:List Int} (h:m<l.length):l.take (m+1)=l.take m++[l.getD m 0]:=by
 rw [O0 h]; simp [O7,h]
theorem nY (h:m<l.length) (z:l.getD m 0=0) (e:trim (l.take (m+1))=trim l):trim (l.take m)=trim l:=by
 rw [jG h,z,gT] at e; exact e
theorem jH (h:m<l.length) (z:l.getD m 0≠0) (e:trim (l.take (m+1))=trim l):l.take (m+1)=trim l:=by
 rw [← e,jG h,nX _ z]
theorem gr (l):(trim l).length≤l.length:=by
 unfold trim
 rw [TQ]
 exact N8 (List.dropWhile_sublist _).length_le (by simp)
theorem cA (l):trim (trim l)=trim l:=by
 unfold trim
 rw [List.reverse_reverse]
 congr 1
 generalize l.reverse=r
 induction r with
 | nil=>rfl
 | cons x r ih=>by_cases h:x == 0 <;> simp [List.dropWhile_cons,h,ih]
theorem A7 (l:List α) (h:m≤l.length):EV.cutD l none (some (m:Int))=l.take m:=by
 unfold EV.cutD HT.cu
 have e:¬ (m:Int)<0:=by lia
 simp only [e,if_false,O1]
 simp [Rv h]
section
variable {K:NZ}
end
noncomputable def encA (A:List aG):List (List Key×D):=A.map fun t=>(t.1.map Om,.int t.2)
theorem o8:∀ {l m:List Int},(l.map (Om:Int→Key))=m.map Om→l=m
 | [],[],_=>rfl
 | x::l,y::m,h=>by
  simp only [N5,List.cons.injEq,Om.injEq] at h
  rw [h.1,o8 h.2]
 | [],_::_,h=>by simp at h
 | _::_,[],h=>by simp at h
theorem o9 (A) (l):bx (encA A) (l.map Om)=(bx A l).map D.int:=by
 induction A with
 | nil=>rfl
 | cons t A ih =>
  by_cases e:t.1=l
  ·rw [bh e]
   show bx ((t.1.map Om,D.int t.2)::encA A) _=_
   rw [bh (by rw [e])]; rfl
  ·rw [aR e,← ih]
   show bx ((t.1.map Om,D.int t.2)::encA A) _=_
   rw [aR fun z=>e (o8 z)]
theorem EI (A) (l) (n):putD (encA A) (l.map Om) (.int n)=encA (putD A l n):=by
 unfold putD
 rw [o9]
 by_cases h:(bx A l).isSome=true
 ·rw [if_pos h,if_pos (by rw [QA]; exact h)]
  unfold encA
  rw [Ou,Ou]
  refine P1 fun t _=>?_
  simp only [SO]
  by_cases e:t.1=l
  ·rw [if_pos e,if_pos (by rw [e])]
  ·rw [if_neg e,if_neg fun z=>e (o8 z)]
 ·rw [if_neg h,if_neg (by rw [QA]; exact h)]
  unfold encA
  simp
theorem ff:∀ l:List Int,D.keys (l.map D.int)=some (l.map Om)
 | []=>rfl
 | x::l=>by
  simp only [N5]
  unfold D.keys
  rw [ff l]; rfl
theorem EJ (A:List aG) (l:List Int) (n:Int):(putD A l n).length≤A.length+1:=by
 unfold putD; split <;> simp
theorem EK (A):(encA A).length=A.length:=by simp [encA]
theorem rC (l:List Int) (n:Int) (h:(A.map (·.1)).Nodup):((putD A l n).map (·.1)).Nodup:=by
 unfold putD
 split
 ·rw [Ou]
  have e:(A.map ((·.1)∘fun kv:aG=>if kv.1=l then (kv.1,n) else kv))=A.map (·.1):=P1 fun t _=>by
   simp only [SO]; split <;> rfl
  rw [e]; exact h
 ·rename_i q
  rw [ON,Su]
  refine ⟨h,by simp,?_⟩
  intro a ha b hb
  simp at hb
  subst hb
  intro z
  subst z
  apply q
  obtain ⟨t,ht,e⟩:=OF.mp ha
  unfold bx
  rw [QA,List.find?_isSome]
  exact ⟨t,ht,decide_eq_true e⟩
theorem keys_nodup {A:List aG} (h:(A.map (·.1)).Nodup):A.Nodup:=by
 unfold RL at *
 rw [P5] at h
 exact h.imp fun q z=>q (by rw [z])
noncomputable def fG (A:List aG) (t:aG):List aG:=putD A (trim t.1) ((bx A (trim t.1)).getD 0+t.2)
noncomputable def aJ (ts:List aG):List aG:=ts.foldl fG []
theorem rD (ts) (t):aJ (ts++[t])=fG (aJ ts) t:=by simp [aJ]
theorem pe (ts:List aG) (A):(ts.foldl fG A).length≤A.length+ts.length:=by
 induction ts generalizing A with
 | nil=>simp
 | cons t ts ih =>
  have h1:=ih (fG A t)
  have h2:=EJ A (trim t.1) ((bx A (trim t.1)).getD 0+t.2)
  simp only [Pp,OE]
  unfold fG at *
  lia
theorem gU (ts):(aJ ts).length≤ts.length:=by
 have:=pe ts []
 simpa [aJ] using this
theorem dY (ts):((aJ ts).map (·.1)).Nodup:=by
 unfold aJ
 have:∀ A:List aG,(A.map (·.1)).Nodup→((ts.foldl fG A).map (·.1)).Nodup:=by
  induction ts with
  | nil=>exact fun A h=>h
  | cons t ts ih=>exact fun A h=>ih _ (rC _ _ h)
 exact this [] (by simp)
theorem EL (x):cP x x=false:=(o7 [x]).irr x (by simp)
theorem A8 (h:cP x y=true) (g:cP y z=true):cP x z=true:=(o7 [x,y,z]).tr x (by simp) y (by simp) z (by simp) h g
theorem lX:∀ {L M:List aG},L.Perm M→jg true L→jg true M→L=M
 | [],M,h,_,_=>by rw [List.nil_perm] at h; exact h.symm
 | x::L,[],h,_,_=>by simp at h
 | x::L,y::M,h,h1,h2=>by
  unfold jg fF at h1 h2
  rw [Q2] at h1 h2
  by_cases e:x=y
  ·subst e
   rw [lX ((List.perm_cons _).mp h) h1.2 h2.2]
  ·exfalso
   have hx:x∈M:=by
    have:=h.subset (Od)
    rcases Oh.mp this with z | z
    ·exact absurd z e
    ·exact z
   have hy:y∈L:=by
    have:=h.symm.subset (Od)
    rcases Oh.mp this with z | z
    ·exact absurd z.symm e
    ·exact z
   have a:=h1.1 y hy
   have b:=h2.1 x hx
   simp only [if_true] at a b
   have:=A8 a b
   rw [EL] at this; cases this
noncomputable def ye (t:aG):List aG→List aG
 | []=>[t]
 | x::r=>if cP x t=true then t::x::r else x::ye t r
noncomputable def fh (L:List aG):List aG:=L.foldr ye []
theorem lY (t):∀ L:List aG,(ye t L).Perm (t::L)
 | []=>.refl _
 | x::r=>by
  unfold ye
  split
  ·exact .refl _
  ·exact ((lY t r).cons x).trans (.swap _ _ _)
theorem bB:∀ L:List aG,(fh L).Perm L
 | []=>.refl _
 | t::L=>(lY t (fh L)).trans ((bB L).cons t)
theorem EM (h:x≠y):cP x y=true∨cP y x=true:=(o7 [x,y]).tot x (by simp) y (by simp) h
theorem wm (t):∀ L:List aG,t∉L→jg true L→jg true (ye t L)
 | [],_,_=>QW _ _
 | x::r,hn,h=>by
  have h':=h
  unfold jg fF at h'
  rw [Q2] at h'
  unfold ye
  by_cases e:cP x t=true
  ·rw [if_pos e]
   unfold jg fF
   rw [Q2]
   refine ⟨fun y hy=>?_,h⟩
   simp only [if_true]
   rcases Oh.mp hy with rfl | z
   ·exact e
   ·have:=h'.1 y z
    simp only [if_true] at this
    exact A8 this e
  ·rw [if_neg e]
   unfold jg fF
   rw [Q2]
   refine ⟨fun y hy=>?_,wm t r (fun z=>hn (Oe _ z)) h'.2⟩
   rcases Oh.mp ((lY t r).subset hy) with rfl | z
   ·simp only [if_true]
    rcases EM (x:=x) (y:=y) (fun z=>hn (by rw [z]; exact Od)) with q | q
    ·exact absurd q e
    ·exact q
   ·exact h'.1 y z
theorem gW:∀ {L:List aG},L.Nodup→jg true (fh L)
 | [],_=>Rr
 | t::L,h=>by
  rw [Po] at h
  exact wm t _ (fun z=>h.1 ((bB L).subset z)) (gW h.2)
theorem A9 (hn:L.Nodup) (hp:L'.Perm L) (hs:jg true L'):L'=fh L:=lX (hp.trans (bB L).symm) hs (gW hn)
noncomputable def nz (L:List aG):List aG:=L.filter fun t=>t.2 != 0
theorem Ba (hn:L.Nodup):nz (fh L)=fh (nz L) :=
 A9 (Te.filter _ hn) ((bB L).filter _) ((gW hn).filter _)
theorem encK (A):(Sl.oT (encA A)).qP=some (.fdT (A.map fun t=>t.1.map Om) (A.map fun t=>.int t.2)):=by
 show some _=some _
 unfold encA
 rw [Ou,Ou]; rfl
theorem Bb (h:r.xS=some (encA A)) (l):F7 r (.tup (l.map .int)) ((bx A l).map D.int):=by
 rw [← o9]; exact .t h (ff l)
theorem Bc (hz:A.length<sizeLine):Ef (.oT (encA A)) (.tup (l.map .int)) (.int n) (.oT (encA (putD A l n))):=by
 rw [← EI]
 exact .t (r:=.oT (encA A)) rfl (ff l) (by rw [EK]; exact hz)
theorem rE (o:Option Int):(o.map D.int).getD (.int 0)=.int (o.getD 0):=by cases o <;> rfl
end EV
namespace EV
open PySem PySem.Spec PySem.Calls PyProof.Rows L2
section
theorem pq {L:List Addr} (I:Inv X aa σ H s) (k:∀ b o,b∉L→s.heap.get? b=some o→h'.get? b=some o) (hf:∀ b∈L,fY X aa H b):Inv X aa σ H { s with heap:=h',toks:=t' }:=by
 have nit:∀ b u,H b=some u→b∉L:=fun b u e z=>by rw [(hf b z).1] at e; cases e
 refine I.step (g':=s.gens) (d':=s.drawn) (ch:=L) (fun b hb=>?_) (fun b o _ _ hc e _=>k b o hc e) (fun b o _ _ hc e _=>⟨o.slots,k b o hc e⟩) (fun _ _ _ _ n=>n)
  (fun b o hc e=>⟨o,k b o hc e⟩) (fun _ _ e=>e) (fun _ _ _ e=>e) (fun b ps e=>⟨#[],by rw [e]; simp⟩) (fun m hm=>?_) (fun b u e=>?_) I.bare
 ·obtain ⟨_,f1,_,f3,f4,f5⟩:=hf b hb
  exact ⟨f3,f1,f4,f5⟩
 ·obtain ⟨o,es,ep,ho,r⟩:=hm
  exact ⟨o,es,ep,k _ o (fun z=>(hf _ z).2.1 rfl) ho,r⟩
 ·refine (I.hok b u e).stay (fun c v hc q=>k c v ?_ q) (fun _ q=>q) fun _ _ q=>q
  rcases hc with z | z
  ·rw [z]; exact nit b u e
  ·exact nit c _ z
end
section
variable {K:NZ}
end
end EV
namespace EV
open PySem PySem.Spec PyProof.Rows L2
theorem pA {A:List aG} {l:List Int} {n:Int} {t:aG} (h:t∈putD A l n):t.1=l∨t∈A:=by
 unfold putD at h
 split at h
 ·obtain ⟨u,hu,e⟩:=OF.mp h
  split at e
  ·rename_i q; subst e; exact .inl q
  ·subst e; exact .inr hu
 ·rcases Oz.mp h with q | q
  ·exact .inr q
  ·simp at q; subst q; exact .inl rfl
theorem jh (hl:∀ t∈ts,t.1.length≤n):∀ t∈aJ ts,trim t.1=t.1∧t.1.length≤n:=by
 unfold aJ
 suffices H:∀ A:List aG,(∀ t∈A,trim t.1=t.1∧t.1.length≤n)→∀ t∈ts.foldl fG A,trim t.1=t.1∧t.1.length≤n from H [] (by simp)
 induction ts with
 | nil=>exact fun A h=>h
 | cons u ts ih =>
  refine fun A h=>ih (fun t ht=>hl t (Oe _ ht)) _ fun t ht=>?_
  rcases pA ht with e | e
  ·rw [e,cA]
   exact ⟨rfl,N8 (gr _) (hl u Od)⟩
  ·exact h t e
noncomputable def aP (ts:List aG):List aG:=fh (nz (aJ ts))
theorem wo (h:(A.map (·.1)).Nodup):((nz A).map (·.1)).Nodup:=RL.sublist (List.filter_sublist.map _) h
theorem nZ (ts):(aP ts).Perm (nz (aJ ts)):=bB _
theorem lZ (h:t∈aP ts):t∈aJ ts∧t.2≠0:=by
 have:=(nZ ts).subset h
 unfold nz at this
 rw [Rw] at this
 exact ⟨this.1,by simpa using this.2⟩
theorem ji (ts):(aP ts).length≤ts.length:=by
 rw [(nZ ts).length_eq]
 exact N8 (List.length_filter_le _ _) (gU ts)
theorem Be (h:∀ t∈ts,t.1.length≤n):∀ t∈aP ts,t.1.length≤n:=fun t ht=>(jh h t (lZ ht).1).2
end EV
namespace EV
open PySem PySem.Spec PySem.Calls PyProof.Rows L2
theorem EN {K:NZ} {f:Int→Int→Int}:Ab K (fun xs H Q=>∃ i j,xs=[.int i,.int j]∧Q (.int (f i j)) H) (fun ds R=>∃ i j:Int,ds=[.int i,.int j]∧R (.int (f i j))):=by
 rintro ds vs H Hf Q R s rs ⟨i,j,rfl,hR⟩ q
 obtain ⟨v,r,rfl,r1,r2⟩:=aC.mp rs
 obtain ⟨v',r',rfl,r1',r2'⟩:=aC.mp r2
 rw [ay] at r2'
 subst r2'
 rw [av] at r1 r1'
 subst r1 r1'
 exact ⟨i,j,rfl,q _ _ H Hf hR (av.mpr rfl) (.refl s)⟩
section
variable {K:NZ} {c:Ctx P w K mg base k N sc bk}
theorem boot_max:bootBuiltins "max"=some (.builtin "max"):=by decide +kernel
theorem Bf (hm:mg "max"=none) (h:aF c a ρ fun x=>aF c b ρ fun y=>I2 (fun i j=>R (.int (if j>i then j else i))) x y) (hg:sc.names.lookup (NY "max")=some .globalImplicit:=by walk_at "u")
 (he:∀ env,starEach [a,b] env=(false,eval a env)::starEach [b] env:=by intro _; walk_at "u") (he2:∀ env,starEach [b] env=(false,eval b env)::starEach [] env:=by intro _; walk_at "u")
 (hpl:∀ env,(backTo pos (starEach [b] env)).any (·.1)=false:=by intro _; walk_at "u"):aF c (.Call (.Name "max" p) [a,b] [] pos) ρ R :=
 vD (xB c.calm) (EN (f:=fun i j=>if j>i then j else i)) hm boot_max (dU (h.imp fun x h1=>dU (h1.imp fun y ⟨i,j,e1,e2,hR⟩=>k8 ⟨i,j,by rw [e1,e2],hR⟩) he2) he) hg (by decide) (by decide) he hpl
theorem Gg (h:aF c a ρ fun x=>aF c b ρ fun y=>I2 (fun i j=>Sd (tE i j) (R (.int (i * 2 ^ j.toNat)))) x y):aF c (.BinOp a .LShift b pos) ρ R :=
 iV (oN G8 nH (h.imp fun x hx=>hx.imp fun y ⟨i,j,e1,e2,⟨hc,r⟩⟩=>⟨i,j,e1,e2,hc,_,rfl,r⟩))
theorem Gh (h:aF c a ρ fun x=>aF c b ρ fun y=>I2 (fun i j=>Sd (0≤j) (R (.int (i / 2 ^ j.toNat)))) x y):aF c (.BinOp a .RShift b pos) ρ R :=
 iV (oN G9 nH (h.imp fun x hx=>hx.imp fun y ⟨i,j,e1,e2,⟨hc,r⟩⟩=>⟨i,j,e1,e2,hc,_,rfl,r⟩))
theorem Bg (h:aF c a ρ fun x=>aF c b ρ fun y=>I2 (fun i j=>R (.int (Builtin.bitAnd i j))) x y):aF c (.BinOp a .BitAnd b pos) ρ R :=
 iV (oN Hg zU (h.imp fun x hx=>hx.imp fun y ⟨i,j,e1,e2,r⟩=>⟨i,j,e1,e2,_,rfl,r⟩))
end
noncomputable abbrev Mp:=List (Key×D)→List D→(List (Key×D)→Prop)→Prop
noncomputable def Iu (K:NZ) (F:Mp):Sp:=fun vs H Q _=>∃ Hf p kvs xs us ds B,vs=.ref p::us∧aD Hf H∧H p=some (.dK xs)∧Hf p=none∧mF K Hf kvs xs∧aq K Hf ds us∧F kvs ds B ∧
 ∀ kvs' H' aj xs',B kvs'→bq (del H p) Hf H' aj→H' p=some (.dK xs')→aj p=none→mF K aj kvs' xs'→Q .non H'
structure yf (P:Program) (w:World) (K:NZ) (mg:Str→Option Value) (base:Heap) (k:Nat) (x:Str) (F:Mp):Prop where
 ex:∃ f fd ps,mg x=some (.ref f)∧PN K (.ref f)=true∧Binds K fd ps []∧bz P w K mg base (dR P w) k f fd ps (Iu K F)
noncomputable def startM (q:Addr) (kvs:List (Key×D)) (N:List Str) (ds:List D):List Sl:=.aK q kvs::(ds.map .va++Of (N.length - (ds.length+1)) .un)
theorem yg {K:NZ} (r:aq K Hf ds us) (sb:aD Hf H) (h1:H q=some (.dK xs)) (h2:Hf q=none) (h3:mF K Hf kvs xs) :
 cZ K (del H q) Hf (L2.start N (.ref q::us)) H Hf (startM q kvs N ds):=by
 have hl:=r.length
 have rest:∀ (i:Nat) (r':Sl),(startM q kvs N ds)[i+1]?=some r'→r'≠.un→∃ d,ds[i]?=some d∧r'=.va d:=fun i r' h hu=>by
  have h':(ds.map Sl.va++Of (N.length - (ds.length+1)) Sl.un)[i]?=some r':=by simpa [startM] using h
  by_cases w:i<ds.length
  ·rw [Qc (by simpa using w),Oa,Ot w] at h'
   cases h'
   exact ⟨_,by simp,rfl⟩
  ·rw [QS (by simp; lia)] at h'
   exact absurd (R3 (O9 h')) hu
 refine ⟨⟨fun b o e=>(i7 e).2,.refl _,sb,fun _ h _ _=>h⟩,by simp [L2.start,startM,hl],fun i r' h hu=>?_,fun i j r1 r2 p hne e1 e2 o1 o2=>?_⟩
 ·cases i with
  | zero =>
   have:r'=.aK q kvs:=by simpa [startM] using h.symm
   subst this
   exact ⟨.ref q,by simp [L2.start],q,xs,rfl,⟨i6,rfl⟩,h1,h2,h3⟩
  | succ i =>
   obtain ⟨d,hd,rfl⟩:=rest i r' h hu
   obtain ⟨x,e2,rx⟩:=r.get hd
   refine ⟨x,?_,rx⟩
   have hi:i<us.length:=(Ob.mp e2).1
   unfold L2.start
   rw [Qc (by simp; lia)]
   simp [e2]
 ·exfalso
  have own:∀ {i:Nat} {r:Sl},(startM q kvs N ds)[i]?=some r→r.owned=true→i=0:=fun {i r} h ho=>by
   cases i with
   | zero=>rfl
   | succ i =>
    obtain ⟨d,_,rfl⟩:=rest i r h (by rintro rfl; cases ho)
    cases ho
  exact hne ((own e1 o1).trans (own e2 o2).symm)
section
variable {K:NZ} {c:Ctx P w K mg base k N sc bk}
theorem Lu {st:Stmt} (Fu:fS K x qual st f fd) (Sc:aI N ps (ah st)) (Vi:∀ x∈N,Loc (ah st) x) (ar:∀ kvs ds B,F kvs ds B→ds.length+1=ps.length)
 (body:∀ (c:Ctx P w K mg base k N (ah st) false),c.X.xe=(fun _ _=>False)→∀ q kvs ds B,F kvs ds B→aS c (aA st) (startM q kvs N ds) (fun ρ=>∃ kvs' r,B kvs'∧ρ=.aK q kvs'::r) { rt:=fun _=>False }) :
 bz P w K mg base (dR P w) (k+1) f fd ps (Iu K F):=by
 obtain ⟨oc,od,kV,doc,pm,an,cdv,ct,osl,rfl,lk,hcd⟩:=Fu.ex
 refine zC lk hcd Sc (fun vs H Q E hh=>z4 hh fun Hf q kvs xs hh=>z3 hh fun us ds B hh=>w8 hh fun e _ _ _ _ rs hF _=>by rw [e,OE,← rs.length]; exact ar _ _ _ hF) fun A outer s H vs Q E hr hh=>z4 hh fun Hf q kvs xs hh=>z3 hh fun us ds B hh=>w8 hh fun e sb h1 h2 h3 rs hF hq=>?_
 subst e
 let X:Cx:=(qh (dR P w) P w K mg base N qual (ah st) f cdv A outer s H E).FQ
 let c:Ctx P w K mg base k N (ah st) false :=
  { X:=X,eP:=rfl,ew:=rfl,eK:=rfl,emg:=rfl,eb:=rfl,eN:=rfl,esc:=rfl,calm:=rfl,top:=fun _=>⟨rfl,rfl,rfl⟩,cb:=fun _ _ _ _ _ I x c h=>I.ok.cab x c rfl h,fn:=fun _ _=>.inl rfl,B:=del H q,room:=hr,nd:=Sc.nd,vis:=Vi,Hf:=Hf,RX:=fun _ _=>False,
    exc:=fun _ _ _ _ _ _ _ _ _ _ _ _ h _ _=>h.elim,RM:=fun _ _=>False,mde:=fun _ _ _ _ _ _ _ _ _ _ _ _ h _=>h.elim }
 refine ⟨_,sW.FQ (t:=HD X (aA st)) (qw (X:=X)),?_⟩
 refine body c rfl q kvs ds B hF (L2.start N (.ref q::us)) H Hf _ (yg rs sb h1 h2 h3) ⟨fun σ H' aj ρ S ⟨kvs',r,hB,e⟩=>?_,fun r v H' aj g rv e=>e.elim,fun _ _ _ _ _ h=>h.elim,fun _ _ _ _ _ h=>h.elim⟩
 subst e
 obtain ⟨v,_,q',xs',_,⟨_,rfl⟩,a1,a2,a3⟩:=S.at_ 0 _ rfl (by simp)
 exact hq kvs' H' aj xs' hB S.bas a1 a2 a3
theorem wu (h:yf P w K mg base j x F) (hj:j≤k) (hN:At N i y) (hi:At ρ i r) (hr:r.tR=some kvs)
 (ha:qx c es ρ fun ds=>∃ B,F kvs ds B∧∀ kvs',B kvs'→Nx ρ i nx (r.qI kvs'))
 (hg:sc.names.lookup x=some .globalImplicit:=by walk_at "u") (hdb:(x == ("__debug__":Str))=false:=by decide) (hd:(y == ("__debug__":Str))=false:=by decide) (hcd:(y == ("__classdict__":Str))=false:=by decide)
 (he:∀ env,starEach (.Name y py::es) env=(false,eval (.Name y py) env)::starEach es env:=by intro _; walk_at "u")
 (hpl:∀ env,(backTo cp (starEach es env)).any (·.1)=false:=by intro _; walk_at "u")
 (hs:∀ env,swapsWith (.Call (.Name x px) (.Name y py::es) [] cp) none pos.line env=pure false:=by intro _; walk_at "u"):eS c (.Expr (.Call (.Name x px) (.Name y py::es) [] cp) pos) ρ nx p:=fun σ H Hf D S o=>by
 obtain ⟨q,eq,rq⟩:=S.own hi.get (lz hr)
 obtain ⟨xs,h1,h2,h3⟩:=xT hr rq
 refine dS (ku cW (hs _)) (show bE c.X _ σ H (fun _ H'=>D.nx σ H') from fun aa s I=>?_)
 obtain ⟨f,fd,ps,hm,hk,hb,hF⟩:=h.ex
 refine PJ (iR I (by unfold Gl OQ; rw [c.esc]; exact hg) (by rw [c.emg]; exact hm) ?_ hdb)
 have hA:bA c.X (.Name y py::es) σ H (fun vs H1=>∃ us aN ds B,vs=.ref q::us∧F kvs ds B∧(∀ kvs',B kvs'→Nx ρ i nx (r.qI kvs'))∧aq c.X.K aN ds us∧bq H Hf H1 aN) :=
  nF (bM (c.lu hN hd hcd) DQ (he _)) ⟨_,eq,ha σ H Hf _ S fun ds vs H1 aN ⟨B,hF,hn⟩ rs g=>⟨vs,aN,ds,B,rfl,hF,hn,rs,g⟩⟩
 refine Sj (h₀:=c.X.base) I.ok.mod.kin (by rw [c.eK]; exact hk) (bC (hA cp aa s I) fun us s1 hh=>z2 hh fun vs H1 hh=>w3 hh fun I1 rv hh=>z4 hh fun us' aN ds B hh=>w5 hh fun ev hF' hn rs g=>⟨I1.oA,?_⟩) (he _) (hpl _)
 subst ev
 have S1:=S.cB g
 have rq1:=rq.cB g
 obtain ⟨xs1,a1,a2,a3⟩:=xT hr rq1
 have hF2:bz c.X.prog c.X.w c.X.K c.X.mg c.X.base (dR c.X.prog c.X.w) k f fd ps (Iu c.X.K F):=by rw [c.eP,c.ew,c.eK,c.emg,c.eb]; exact hF.mono hj
 have qa:Iu c.X.K F (.ref q::us') H1 (fun _ H'=>D.nx σ H') (fun _ _ _=>False):=by
  refine ⟨aN,q,kvs,xs1,us',ds,B,rfl,g.b,a1,a2,a3,rs,hF',fun kvs' H' aj xs' hB g2 b1 b2 b3=>?_⟩
  obtain ⟨ρ',hs',hn⟩:=hn kvs' hB
  refine o.nx σ H' aj ρ' ?_ hn
  rw [hs'.eq]
  exact S1.upd hi.get (lz hr) eq g2 (qJ hr rq1 b1 b2 b3) (lB hr)
 have hl:us.length=ps.length:=by rw [← rv.length]; exact hF2.len _ _ _ _ qa
 have hb':Binds c.X.K fd ps []:=by rw [c.eK]; exact hb
 have hb2:=hb' s1 us I1.oA (by simpa using hl)
 rw [O5] at hb2
 refine Ra (Q7 (hF2.run c.X.A c.X.stack s1 H1 ⟨us,[]⟩ us _ _ _ c.room I1.Dz hb2 rv qa) fun r' s' hq=>?_)
 cases r' with
 | error e =>
  obtain ⟨a,C,H',rfl,hE,h⟩:=hq
  exact h.elim
 | ok fl =>
  cases fl with
  | ret u=>exact I1.after hq
  | next=>exact OZ hq
  | brk=>exact OZ hq
  | cont=>exact OZ hq
end
theorem aq.many {K:NZ} (h:aq K H ds xs):∀ k:Nat,aq K H (Of k ds).flatten (Of k xs).flatten
 | 0=>ay.mpr rfl
 | k+1=>by
  rw [PU,PU,QB,QB]
  exact h.append (aq.many h k)
theorem aq.set {K:NZ}:∀ {ds:List D} {xs:List V} (i:Nat) {d:D} {v:V},aq K H ds xs→Rep K H d v→aq K H (ds.set i d) (xs.set i v)
 | [],_,i,_,_,h,_=>by rw [ay] at h; subst h; exact ay.mpr rfl
 | e::ds,_,i,d,v,h,q=>by
  obtain ⟨x,r,rfl,h1,h2⟩:=aC.mp h
  cases i with
  | zero=>exact .cons q h2
  | succ i=>exact .cons h1 (aq.set i h2 q)
theorem Bh {n k:Nat} {i:Int} (hi:i=k) (e:s.heap.get? l=some { cls:=.type "list",data:=.seq items n }) (hk:k<items.size) (hf:items.size<2 ^ 63)
 (hQ:Q () { s with heap:=s.heap.update l (OI fun xs=>xs.setIfInBounds k v) }):wpAny (model prog w) A (setItem (.ref l) (.int i t) v) Q E s:=by
 have ht:s.TypeIs (.ref l) "list":=⟨_,e,rfl⟩
 have hx:items[k]?=some items[k]:=OA hk
 unfold setItem
 refine Pc (NX (TY ht (by decide) ?_))
 refine NX (Qd (name:=NY "__setitem__") ht PySem.slot_list_setitem (Px PySem.slot_list_setitem ht PySem.entry_list_setitem ?_ (PySem.args_list_setitem _ _ _)))
 show wpAny _ _ (Builtin.List.listSubscript? (.int i t) >>= _) _ _ s
 refine NX (wpAny_listSubscript_int (fitsIndex_of (show 0≤i by lia) (show i<2 ^ 63 by lia)) ?_)
 clear hf
 subst hi
 show wpAny _ _ ((seqItemAt l k >>= fun r=>pure (r.map fun x=>(k,x))) >>= _) _ _ s
 refine NX (NX (wpAny_seqItemAt e rfl (N1 ?_)))
 rw [hx]
 show wpAny _ _ (setSeqItemAt l k v >>= _) _ _ s
 refine NX (wpAny_setSeqItemAt e rfl ?_)
 first
  | exact NX (N1 (N1 ⟨O2,rfl,N1 hQ⟩))
  | exact N1 ⟨O2,rfl,N1 hQ⟩
noncomputable def Lv:GV:=fun o i v H Q=>∃ l xs k,o=.ref l∧i=.int (k:Nat)∧H l=some (.lst xs)∧k<xs.length∧Q (upd H l (.lst (xs.set k v)))
theorem Bj:Kl X Lv:=by
 intro aa s σ H o i v ov iv u Q I r1 r2 r3 h
 obtain ⟨l,xs,k,rfl,rfl,hH,hk,q⟩:=h
 cases r1
 obtain ⟨t,rfl⟩:=r2
 obtain ⟨z,its,n,r,hl,e⟩:=I.qj hH
 have hbig:xs.length<2 ^ 63:=P4 z (by decide)
 refine Bh rfl e (by rw [Oo,← hl]; exact hk) (by rw [Oo,← hl]; exact hbig) ⟨_,I.tM (its':=its.set k u) (t':=s.toks) hH e ?_ (Vals.set r3 k r) (by rw [List.length_set]; exact z),q⟩
 show its.toArray.setIfInBounds k u=(its.set k u).toArray
 simp
theorem EO:MU X "int.bit_length" (fun x vs H Q=>∃ i,x=.int i∧vs=[]∧Q (.int (Pg i:Nat)) H):=by
 intro aa s σ H x xs v us Q I r1 r2 h
 obtain ⟨i,rfl,rfl,q⟩:=h
 obtain ⟨t,rfl⟩:=r1
 cases r2
 exact PyProof.Rows.call_int_bit_length ⟨.int (Pg i:Nat),H,I.tok _,⟨_,rfl⟩,q⟩
section
variable {K:NZ} {c:Ctx P w K mg base k N sc bk}
theorem Iv (h:aF c e ρ (I1 fun i=>R (.int (Pg i:Nat)))) (hbase:∀ env,attributeBase e "bit_length" env (eval e env)=eval e env:=by intro _; walk_at "u") (hline:(ap.endLine == cp.line)=true:=by walk_at "u") :
 aF c (.Call (.Attribute e "bit_length" ap) [] [] cp) ρ R:=fun σ H Hf Q S q =>
 bH (Hr PySem.F.plainAttrs_int PySem.F.slot_int_bit_length PySem.F.type_int_bit_length EO cW (hbase _) hline) (h σ H Hf _ S fun d v H' aj ⟨i,e,hR⟩ r g=>by
  subst e
  rw [av] at r; subst r
  exact ⟨rfl,i,rfl,rfl,q _ _ H' aj hR (av.mpr rfl) g⟩)
theorem Lw {R:Sl→Prop} (h:dz c a ρ fun r=>∃ ds,r=.ow ds∧aF c b ρ (I1 fun n=>Sd ((0≤n∧n<2 ^ 63)∧ds.length * n.toNat≤sizeLine) (R (.ow (Of n.toNat ds).flatten)))):dz c (.BinOp a .Mult b pos) ρ R:=fun σ H Hf Q S q =>
 bH (zw Hs cW cW) (h σ H Hf _ S fun r v H1 aN ⟨ds,er,h1⟩ rr g1=>h1 σ H1 aN _ (S.cB g1) fun dn u H2 cJ ⟨n,en,⟨⟨n0,n1⟩,hz⟩,hR⟩ rn g2=>by
  subst er en
  rw [av] at rn; subst rn
  obtain ⟨l,xs,rfl,fl,k1,k2,k3⟩:=rr
  have k1':=g2.s _ _ k1
  refine ⟨l,n,xs,rfl,rfl,k1',by lia,n1,by rw [← k3.length]; exact hz,fun p hp=>?_⟩
  have g3:=bq.gi (o:=.lst (Of n.toNat xs).flatten) g2.b hp
  exact q _ _ _ _ hR ⟨p,_,rfl,(g1.trans g2).s.free hp,ai,g2.b.free hp,(k3.mono g2.f).many _⟩ ((g1.trans g2).trans g3))
theorem Iw (hN:At N i x) (hi:At ρ i r) (hr:r.getL=some ds) (h:aF c e ρ fun dv=>aF c b ρ fun dk=>∃ m:Nat,dk=.int m∧Sd (m<ds.length) (Nx ρ i nx (r.putL (ds.set m dv))))
 (hs:∀ env,swapsWithSole [.Subscript (.Name x px) b tp] e pos.line env=pure false:=by intro _; walk_at "u") (hw:∀ env,swappedStores [.Subscript (.Name x px) b tp] e env=pure none:=by intro _; walk_at "u")
 (h1:∀ env,(assignEach [.Subscript (.Name x px) b tp] env).map (·.2)=[assign (.Subscript (.Name x px) b tp) env]:=by intro _; walk_at "u")
 (ha:∀ env v,assign (.Subscript (.Name x px) b tp) env v=(do
   let ov ← holding [v] (eval (.Name x px) env)
   let iv ← holding [v,ov] (eval b env)
   standAt tp
   holding [v,ov,iv] (setItem ov iv v)
   release [v,ov,iv] []):=by intro _ _; walk_at "u")
 (hd:(x == ("__debug__":Str))=false:=by decide) (hcd:(x == ("__classdict__":Str))=false:=by decide):eS c (.Assign [.Subscript (.Name x px) b tp] e pos) ρ nx p:=fun σ H Hf D S o=>by
 obtain ⟨q,eq,rq⟩:=S.own hi.get (c6 hr)
 refine dS (zp cW (GX (c.lu hN hd hcd) cW Bj (ha _)) (hs _) (hw _) (h1 _)) (h σ H Hf _ S fun dv v H1 aN h2 rv g1=>⟨_,eq,h2 σ H1 aN _ (S.cB g1) fun dk y H2 cJ ⟨m,em,hm,ρ',hs',hn⟩ ry g2=>?_⟩)
 subst em
 rw [av] at ry; subst ry
 have g:=g1.trans g2
 obtain ⟨xs,k1,k2,k3⟩:=HZ hr (rq.cB g)
 refine ⟨q,xs,m,rfl,rfl,k1,by rw [← k3.length]; exact hm,o.nx _ _ cJ ρ' ?_ hn⟩
 rw [hs'.eq]
 exact (S.cB g).upd hi.get (c6 hr) eq (gP g.b k2) (ly hr (rq.cB g) ai k2 (k3.set m (Rep.mono g2.f _ rv))) (iy hr)
end
theorem iE {K:NZ}:∀ {ns:List Int} {xs:List V},aq K H (ns.map D.int) xs→xs=ns.map V.int
 | [],xs,h=>by rw [Qo,ay] at h; subst h; rfl
 | b::bs,xs,h=>by
  rw [N5,aC] at h
  obtain ⟨x,r,rfl,h1,h2⟩:=h
  rw [av] at h1
  rw [h1,iE h2]; rfl
theorem gu {ns:List Int} {us:List Value} (h:Vals (ns.map V.int) us) (i:Nat) (v:Value) (e:us.toArray[i]?=some v):∃ t,v=.int (ns.getD i 0) t:=by
 have e':us[i]?=some v:=by simpa using e
 have hi:i<ns.length:=by
  have:=(Ob.mp e').1
  have l:=h.length
  rw [N6] at l
  omega
 obtain ⟨u,hu,r⟩:=h.get (i:=i) (x:=.int (ns.getD i 0)) (by simp [O7,hi])
 rw [e'] at hu; cases hu
 exact r
theorem l0 (I:Inv X aa σ H s) (hq:gO X.K H p xs) :
 ∃ its:List Value,Vals xs its∧s.heap.IsList p its.toArray∧p<s.heap.objs.size:=by
 obtain ⟨its,rv,pl,hz⟩:=I.list hq
 exact ⟨its,rv,pl.isList,by obtain ⟨o,e,_⟩:=pl.isList; exact N9 e⟩
theorem n5 (I:Inv X aa σ H s) (hk:∀ b o,b∉[s.heap.objs.size]→(s.heap.push ob).get? b=some o→h'.get? b=some o):Inv X aa σ H { s with heap:=h',toks:=tk } :=
 I.kept (h':=h') (t':=tk) fun b u e=>hk b u (by simpa using OB (N9 e)) (N7 _ e)
theorem yh (hc:X.calm=true):f9 X (.builtin "max") (fun xs H Q=>∃ (p:Addr) (ns:List Int),xs=[.ref p]∧ns≠[]∧gO X.K H p (ns.map V.int)∧∀ m∈ns,(∀ n∈ns,n≤m)→Q (.int m) H):=by
 intro aa s σ H xs us Q I r h
 obtain ⟨p,ns,rfl,hne,hq,q⟩:=h
 obtain ⟨u,rfl,rx⟩:=vals1 r
 cases rx
 obtain ⟨its,rv,pl,hlt⟩:=l0 I hq
 have hn:its.toArray.size=ns.length:=by have l:=rv.length; rw [N6] at l; simp [l]
 have hpos:0<ns.length:=List.length_pos_iff.mpr hne
 refine call_max_walk (T3 pl ?_)
 have hh:X.A.in1.handled=none:=I.ok.hd hc
 refine ⟨_,_,_,_,_,_,_,rfl,Walks.list hh s.heap.objs.size p (OB hlt) its.toArray,⟨⟨_,Oj _ rfl,rfl,rfl⟩,pl.at fun o e=>N7 _ e⟩,?_,by rw [hn]; exact hpos,CmpOf.ints_gt (fun i=>ns.getD i 0) (gu rv),?_⟩
 ·intro b hb
  show b<(s.heap.push _).objs.size
  rw [Qj]
  simp only [Oh,PX,or_false] at hb
  rcases hb with rfl | rfl
  ·exact QC _
  ·exact So hlt
 ·intro v h' tk hP hk
  obtain ⟨t,rfl⟩:=gu rv _ _ hP
  obtain ⟨b1,b2⟩:=argBest_gt (fun i=>ns.getD i 0) (its.toArray.size - 1)
  rw [hn] at b1 b2 ⊢
  have J:=n5 (s:=s) (tk:=tk) I hk
  refine ⟨.int _,H,J,⟨_,rfl⟩,q _ ?_ fun n hm=>?_⟩
  ·rw [O7,Ot (by omega)]
   exact OD _
  ·obtain ⟨j,hj,rfl⟩:=List.getElem_of_mem hm
   have:=b2 j (by omega)
   rw [show ns.getD j 0=ns[j] by simp [O7,hj]] at this
   exact this
theorem wz (ns:List Int):∀ j,j≤ns.length→preSum (fun i=>ns.getD i 0) j=(ns.take j).sum
 | 0,_=>rfl
 | j+1,h=>by
  show preSum (fun i=>ns.getD i 0) j+ns.getD j 0=_
  rw [wz ns j (by omega),O0 (by omega),QF]
  simp [O7,show j<ns.length by omega]
theorem yi (hc:X.calm=true):f9 X (.builtin "sum") (fun xs H Q=>∃ (p:Addr) (ns:List Int),xs=[.ref p]∧gO X.K H p (ns.map V.int)∧Q (.int ns.sum) H):=by
 intro aa s σ H xs us Q I r h
 obtain ⟨p,ns,rfl,hq,q⟩:=h
 obtain ⟨u,rfl,rx⟩:=vals1 r
 cases rx
 obtain ⟨its,rv,pl,hlt⟩:=l0 I hq
 have hn:its.toArray.size=ns.length:=by have l:=rv.length; rw [N6] at l; simp [l]
 refine call_sum_walkG (T3 pl ?_)
 have hh:X.A.in1.handled=none:=I.ok.hd hc
 refine ⟨_,_,_,_,_,_,fun i=>ns.getD i 0,rfl,Walks.list hh s.heap.objs.size p (OB hlt) its.toArray,⟨⟨_,Oj _ rfl,rfl,rfl⟩,pl.at fun o e=>N7 _ e⟩,?_,gu rv,?_⟩
 ·intro b hb
  show b<(s.heap.push _).objs.size
  rw [Qj]
  simp only [Oh,PX,or_false] at hb
  rcases hb with rfl | rfl
  ·exact QC _
  ·exact So hlt
 ·intro h' tk t' hk
  rw [hn,wz ns _ (N2 _),OW]
  have J:=n5 (s:=s) (tk:=tk) I hk
  exact ⟨.int ns.sum,H,J,⟨_,rfl⟩,q⟩
section
variable {K:NZ} {c:Ctx P w K mg base k N sc bk}
theorem boot_sum:bootBuiltins "sum"=some (.builtin "sum"):=by decide +kernel
theorem yj {Z:List Int→Int→Prop} (hr:∀ (p:Addr) (ns:List Int) H Q,gO K H p (ns.map V.int)→(∀ m,Z ns m→Q (.int m) H)→ns≠[]→r [.ref p] H Q) :
 Ab K r (fun ds R=>∃ ns:List Int,ns≠[]∧ds=[.lst (ns.map D.int)]∧∀ m,Z ns m→R (.int m)):=by
 rintro ds vs H Hf Q R s rs ⟨ns,hne,rfl,hR⟩ q
 obtain ⟨v,rfl,rv⟩:=qA rs
 rw [aV] at rv
 obtain ⟨a,xs,rfl,h1,h2⟩:=rv
 rw [iE h2] at h1
 exact hr a ns H Q (s.seq h1) (fun m hm=>q _ _ H Hf (hR m hm) (av.mpr rfl) (.refl s)) hne
theorem Iz (hm:mg "max"=none) (h:aF c e ρ fun x=>∃ ns:List Int,ns≠[]∧x=.lst (ns.map D.int)∧∀ m,(m∈ns∧∀ n∈ns,n≤m)→R (.int m)) (hg:sc.names.lookup (NY "max")=some .globalImplicit:=by walk_at "u")
 (he:∀ env,starEach [e] env=(false,eval e env)::starEach [] env:=by intro _; walk_at "u"):aF c (.Call (.Name "max" p) [e] [] pos) ρ R :=
 vD (yh c.calm) (yj (Z:=fun ns m=>m∈ns∧∀ n∈ns,n≤m) fun p ns H Q h q hne=>⟨p,ns,rfl,hne,h,fun m h1 h2=>q m ⟨h1,h2⟩⟩) hm boot_max
  (dU (h.imp fun d ⟨ns,hne,e,hR⟩=>k8 ⟨ns,hne,by rw [e],hR⟩) he) hg (by decide) (by decide) he (by intro _; walk_at "u")
theorem IB (hm:mg "sum"=none) (h:aF c e ρ fun x=>∃ ns:List Int,x=.lst (ns.map D.int)∧R (.int ns.sum)) (hg:sc.names.lookup (NY "sum")=some .globalImplicit:=by walk_at "u")
 (he:∀ env,starEach [e] env=(false,eval e env)::starEach [] env:=by intro _; walk_at "u"):aF c (.Call (.Name "sum" p) [e] [] pos) ρ R :=
 vD (yi c.calm) (q:=fun ds R=>∃ ns:List Int,ds=[.lst (ns.map D.int)]∧R (.int ns.sum)) (by
  rintro ds vs H Hf Q R s rs ⟨ns,rfl,hR⟩ q
  obtain ⟨v,rfl,rv⟩:=qA rs
  rw [aV] at rv
  obtain ⟨a,xs,rfl,h1,h2⟩:=rv
  rw [iE h2] at h1
  exact ⟨a,ns,rfl,s.seq h1,q _ _ H Hf hR (av.mpr rfl) (.refl s)⟩) hm boot_sum (dU (h.imp fun d ⟨ns,e,hR⟩=>k8 ⟨ns,by rw [e],hR⟩) he) hg (by decide) (by decide) he (by intro _; walk_at "u")
end
section
variable {prog:Program} {w:World} {A:Around} {E:Value→Shared→Prop} {s:Shared}
variable {jt tp:Addr} {i:Nat} {items:Array Value}
theorem nextT (hh:A.handled=none) (h1:s.heap.IsTupleIter jt tp i) (h2:s.heap.IsTuple tp items)
 (hv:∀ v,items[i]?=some v→∀ h',h'.IsTupleIter jt tp (i+1)→PV jt s.heap h'→Q v { s with heap:=h' })
 (hn:items[i]?=none→∀ h' e,Qp jt s.heap h'→(∃ o,h'.get? e=some o∧o.cls=.type "StopIteration")→E (.ref e) { s with heap:=h' }) :
 wpAny (model prog w) A (QV (.ref jt)) Q E s:=by
 obtain ⟨ob,hob,hcb,hdb⟩:=id h1
 obtain ⟨ot,hot,_,m,hdt⟩:=id h2
 unfold QV
 refine NX (Qd (name:=NY "__next__") h1.typeIs F.slot_tuple_iterator_next (Px F.slot_tuple_iterator_next h1.typeIs F.entry_tuple_iterator_next ?_ (F.args_tuple_iterator_next_1 _)))
 show wpAny _ _ (field (.ref jt) 0 >>= _) _ _ s
 refine NX (PZ hob hdb (x:=.ref tp) rfl ?_)
 show wpAny _ _ (if (Ow tp == O2)=true then _ else _) _ _ s
 rw [if_neg (show ¬ ((Ow tp == O2)=true) from Oc)]
 show wpAny _ _ (field (.ref jt) 1 >>= _) _ _ s
 refine NX (PZ hob hdb (x:=.int i 0) rfl ?_)
 show wpAny _ _ (seqItems? (.ref tp) >>= _) _ _ s
 refine NX (wpAny_seqItems hot hdt ?_)
 rw [O1]
 dsimp only
 cases hx:items[i]? with
 | some v =>
  have q:=hv v hx (s.heap.update jt (Obj.mapFields fun vs=>vs.setIfInBounds 1 (rawInt ((i:Int)+1)))) ⟨_,Heap.get?_update_self _ hob (Obj.isFreed_of_fields (Sk hdb _)),(Obj.cls_mapFields ..).trans hcb,by rw [Sk hdb]; simp [rawInt]⟩ (Ro ..)
  dsimp only
  exact NX (Rz hob hdb (by simp) (N1 ⟨v,rfl,N1 q⟩))
 | none =>
  dsimp only
  refine NX (Pk (NX (Rz hob hdb (by simp) (show wpAny _ _ (newExc (.type "StopIteration") [] >>= _) _ _ _ from NX ?_))))
  simp only [newExc,newTuple]
  refine NX (O4 (NX (m:=firstArgMember _ _) (wpAny_of_eq (a:=O2) (by first | rfl | (simp only [firstArgMember]; rfl)) (O4 ?_ (by size_fits)))) (by size_fits))
  simp only [raiseNew]
  refine NX (wpAny_handled ?_)
  rw [show A.in1.handled=none from hh]
  exact NX (N1 (wpAny_throw (hn hx _ _ (((Ro ..).extBut.push _).push _) ⟨_,Oj _ rfl,rfl⟩)))
theorem IC (hh:A.handled=none) (jt tp:Addr) (hne:tp≠jt) (items:Array Value) :
 Draws prog w A jt [jt,tp] items.size (fun i v=>items[i]?=some v) (fun i h=>h.IsTupleIter jt tp i∧h.IsTuple tp items) where
 live:=fun _ _ ⟨⟨o,ho,_⟩,_⟩=>⟨o,ho⟩
 frame:=fun _ _ _ ⟨⟨o,e,r⟩,⟨o',e',r'⟩⟩ hk=>⟨⟨o,hk jt (by simp) o e,r⟩,o',hk tp (by simp) o' e',r'⟩
 item:=fun i s Q E hi ⟨s1,s2⟩ q=>nextT hh s1 s2 (fun v hv h' a b=>q v h' s.toks hv ⟨a,s2.extBut b.extBut hne⟩ b) fun hx=>by
  rw [OA hi] at hx; cases hx
 done:=fun s Q E ⟨s1,s2⟩ q=>nextT hh s1 s2 (fun v hv=>by simp at hv) fun _=>q
end
set_option maxHeartbeats 1000000 in
theorem rF (tp) (items) (n) (dc) (sl) :
 Meets (Builtin.«enumerate.__new__» ⟨[.type "enumerate",.ref tp],[]⟩) (fun _ R s=>s.heap.get? tp=some { cls:=.type "tuple",dict:=dc,data:=.seq items n,slots:=sl } ∧
  R (.ok (.ret (.ref (s.heap.push { cls:=.type "tuple_iterator",data:=.fields #[.ref tp,.int 0 0] }).objs.size)))
   { s with heap:=(s.heap.push { cls:=.type "tuple_iterator",data:=.fields #[.ref tp,.int 0 0] }).push { cls:=.type "enumerate",data:=.fields #[.none,.bool false,.ref s.heap.objs.size,rawInt 0,.none,.none] } }) :=
 .of_wp fun prog w A R ⟨hp,g,d,tk,os⟩ ⟨hl,h⟩=>by
  have hz:=sub_enumerate
  have hT:Heap.IsTuple (Shared.heap ⟨hp,g,d,tk,os⟩) tp items:=⟨_,hl,rfl,n,rfl⟩
  wp_walk using R5 hl
  refine wpAny_stack_any fun st=>N1 ?_
  split
  ·rename_i k _ _ _ _ _
   cases (k == Pe "enumerate") <;> (wp_walk using R5 hl,TR hT; exact ⟨_,rfl,h⟩)
  ·wp_walk using R5 hl,TR hT; exact ⟨_,rfl,h⟩
section
theorem ue (hT:s.heap.IsTuple tp items)
 (h:∀ h',IsEnum h' (s.heap.objs.size+1) s.heap.objs.size 0 .none→h'.IsTupleIter s.heap.objs.size tp 0→(∀ b o,s.heap.get? b=some o→h'.get? b=some o)→Q (.ref (s.heap.objs.size+1)) { s with heap:=h' }) :
 wpAny (model prog w) A (call (.type "enumerate") [.ref tp]) Q E s:=by
 obtain ⟨⟨c,dc,dt,sl⟩,hl,hc,n,hd⟩:=hT
 obtain rfl:c=.type "tuple":=hc
 obtain rfl:dt=.seq items n:=hd
 refine callType_new F.called_enumerate (by decide) (F.typeCall_enumerate_1 _) (F.newCall_enumerate_1 _) (fun ob=>F.args_object_init_2 ob _) F.entry_enumerate_new (rF tp items n dc sl) ⟨hl,?_⟩
 generalize e1:s.heap.push { cls:=.type "tuple_iterator",data:=.fields #[.ref tp,.int 0 0] }=g1
 have hz:g1.objs.size=s.heap.objs.size+1:=by rw [← e1]; exact Qj ..
 have hi:g1.get? s.heap.objs.size=some { cls:=.type "tuple_iterator",data:=.fields #[.ref tp,.int 0 0] }:=by rw [← e1]; exact Oj _ rfl
 have hb:∀ b o,s.heap.get? b=some o→g1.get? b=some o:=fun b o q=>by rw [← e1]; exact N7 _ q
 have he:IsEnum (g1.push { cls:=.type "enumerate",data:=.fields #[.none,.bool false,.ref s.heap.objs.size,rawInt 0,.none,.none] }) g1.objs.size s.heap.objs.size 0 .none:=Oj _ rfl
 rw [hz] at he
 show _∧_
 rw [hz]
 exact ⟨⟨_,he,rfl⟩,h _ he ⟨_,N7 _ hi,rfl,rfl⟩ fun b o q=>N7 _ (hb b o q)⟩
end
noncomputable def l5 (ds:List D):List D:=ds.zipIdx.map fun x=>D.tup [.int x.2,x.1]
noncomputable def Nk (K:NZ) (t:Addr):It :=
 ⟨fun i H=>∃ xs x,cY K H t xs∧xs[i]?=some x,
  fun i H v H'=>∃ p x,v=.ref p∧H p=none∧H'=upd H p (.tup [.int (i:Nat),x])∧∀ xs,cY K H t xs→xs[i]?=some x,
  fun i H=>∃ xs,cY K H t xs∧xs.length≤i⟩
theorem ER (I:Inv X aa σ H s) (h1:cY X.K H a xs) (h2:cY X.K H a ys):xs=ys:=I.jv h1 h2
theorem Bk {prog:Program} {w:World} {A:Around} (hh:A.handled=none) (j t:Addr) (items:Array Value) (i:Nat) (hx:items[i]?=none) :
 Draws prog w A j [j,t] i (fun _ _=>False) (fun k h=>k=i∧h.IsTupleIter j t i∧h.IsTuple t items) where
 live:=fun _ _ ⟨_,⟨o,ho,_⟩,_⟩=>⟨o,ho⟩
 frame:=fun _ _ _ ⟨ek,⟨o,e,r⟩,⟨o',e',r'⟩⟩ hk=>⟨ek,⟨o,hk j (by simp) o e,r⟩,o',hk t (by simp) o' e',r'⟩
 item:=fun k s Q E hi ⟨ek,_⟩ _=>absurd ek (OB hi)
 done:=fun s Q E ⟨_,s1,s2⟩ q=>nextT hh s1 s2 (fun v hv=>by rw [hx] at hv; cases hv) fun _=>q
theorem yk {P:Program} {w:World} {K:NZ} {elts:List Expr} {k:Nat} {pos:Pos} {e j t:Addr} (hne:e≠j) :
 Turn P w K (.Tuple elts k pos) (Nk K t) [e,j] e (fun i h=>(∃ old,IsEnum h e j i old)∧h.IsTupleIter j t i) where
 mem:=by simp
 obj:=fun i h ⟨⟨old,he⟩,⟨o1,e1,_,d1⟩⟩ b hb=>by
  simp only [Oh,PX,or_false] at hb
  rcases hb with rfl | rfl
  ·exact ⟨_,he,fun v q=>by have q':Tc _=Data.cell v:=q; cases q'⟩
  ·exact ⟨_,e1,fun v q=>by rw [d1] at q; cases q⟩
 keep:=fun i h h' ⟨⟨old,he⟩,⟨o1,e1,r1⟩⟩ hk=>⟨⟨old,hk e (by simp) _ he⟩,⟨o1,hk j (by simp) _ e1,r1⟩⟩
 item:=by
  intro X hP hw hK hc i aa s σ H E I hf st hg
  subst hP hw hK
  obtain ⟨⟨old,he⟩,hj⟩:=st
  obtain ⟨xs,x,q1,hx⟩:=hg
  obtain ⟨its,rv,p1,z1⟩:=I.tuple q1
  obtain ⟨u,hu,ru⟩:=rv.get hx
  have pT:s.heap.IsTuple t its.toArray:=by obtain ⟨o,ho,hc',n,hd⟩:=p1; exact ⟨o,ho,hc',n,hd⟩
  have hjt:t≠j:=by
   obtain ⟨o,ho,hc',n,hd⟩:=pT
   obtain ⟨o',ho',hc'',_⟩:=hj
   rintro rfl
   rw [ho] at ho'; cases ho'
   rw [hc'] at hc''; exact absurd hc'' (by simp)
  have het:e≠t:=by
   obtain ⟨o,ho,hc',n,hd⟩:=pT
   rintro rfl
   rw [he] at ho; cases ho
   exact absurd hc' (by simp)
  have hi:i<its.toArray.size:=by
   have:i<its.length:=(Ob.mp hu).1
   simpa using this
  have hh:X.A.in1.handled=none:=I.ok.hd hc
  refine wpAny_pyNext_enum_itemD (IC hh j t hjt its.toArray) he ⟨hj,pT⟩ hi hne (by simp; exact ⟨hne,het⟩) fun x' h' tk hPx a1 a2 a3 a4 hk=>?_
  have ex:x'=u:=by
   have:its[i]?=some x':=by simpa using hPx
   rw [hu] at this; cases this; rfl
  subst ex
  have Hp:H s.heap.objs.size=none:=I.hok.fresh (N2 _)
  have IA:Inv X aa σ (upd H s.heap.objs.size (.tup [.int (i:Nat),x])) { s with heap:=s.heap.push { cls:=.type "tuple",data:=.seq #[.int (i:Nat) tk,x'] },toks:=tk+1 } :=
   I.laid (a:=s.heap.objs.size) (o:=.tup [.int (i:Nat),x]) (fun _ _ q=>N7 _ q) (N2 _) ⟨by show 2≤sizeLine; decide,[.int (i:Nat) tk,x'],.cons ⟨tk,rfl⟩ (.cons ru .nil),_,Oj _ rfl,rfl,0,rfl⟩
  have lt:∀ b∈[e,j],b<s.heap.objs.size:=fun b hb=>by
   obtain ⟨o1,e1,_⟩:=hj
   simp only [Oh,PX,or_false] at hb
   rcases hb with rfl | rfl
   ·exact N9 he
   ·exact N9 e1
  have gf:∀ b∈[e,j],fY X aa (upd H s.heap.objs.size (.tup [.int (i:Nat),x])) b:=fun b hb=>⟨by rw [ak (OB (lt b hb))]; exact (hf b hb).1,(hf b hb).2⟩
  have I1:Inv X aa σ (upd H s.heap.objs.size (.tup [.int (i:Nat),x])) { s with heap:=h',toks:=tk+1 } :=
   pq (s:={ s with heap:=s.heap.push { cls:=.type "tuple",data:=.seq #[.int (i:Nat) tk,x'] },toks:=tk+1 }) (t':=tk+1) (h':=h') (L:=[e,j]) IA (fun b o hb q=>by
    simp only [Oh,PX,or_false,not_or] at hb
    by_cases z:b=s.heap.objs.size
    ·subst z
     rw [Oj _ rfl] at q; cases q; exact a3
    ·refine hk b o hb.1 hb.2 ?_
     rw [Heap.get?_push_ne _ _ _ z] at q; exact q) gf
  refine ⟨_,rfl,wpAny_letOwnedTupleGo_enum (s:={ s with heap:=h',toks:=tk+1 }) a1 fun h2' hz' hs'=>?_⟩
  refine ⟨.ref s.heap.objs.size,_,pq (s:={ s with heap:=h',toks:=tk+1 }) (t':=tk+1) (h':=h2') (L:=[e,j]) I1 (fun b o hb q=>hs'.extBut b o (fun z=>hb (by simp [z])) q) gf,rfl,
   ⟨_,x,rfl,Hp,rfl,fun xs' h=>by rw [ER I h q1]; exact hx⟩,⟨⟨x',?_⟩,a2.1.extBut hs'.extBut (Oq hne)⟩,fun b hb=>(gf b hb).1⟩
  have hz2:=hz'
  rw [show ((i:Int)+1)=((i+1:Nat):Int) by lia] at hz2
  exact hz2
 done:=by
  intro X hP hw hK hc i aa s σ H E I hf st hg
  subst hP hw hK
  obtain ⟨⟨old,he⟩,hj⟩:=st
  obtain ⟨xs,q1,hend⟩:=hg
  obtain ⟨its,rv,p1,z1⟩:=I.tuple q1
  have pT:s.heap.IsTuple t its.toArray:=by obtain ⟨o,ho,hc',n,hd⟩:=p1; exact ⟨o,ho,hc',n,hd⟩
  have hl:=rv.length
  have hx:its.toArray[i]?=none:=by simp; lia
  have hh:X.A.in1.handled=none:=I.ok.hd hc
  exact wpAny_pyNext_enum_endD (Bk hh j t its.toArray i hx) he ⟨rfl,hj,pT⟩ fun h' hk=>⟨rfl,pq (t':=s.toks) (L:=[e,j]) I (fun b o hb q=>hk b o (fun z=>hb (by simp [z])) q) hf⟩
 self:=fun A i s Q E ⟨⟨old,he⟩,_⟩ h=>wpAny_pyIter_enum he h
theorem yl {K:NZ} {Hf:Hp} {ds:List D} {xs:List V} {t:Addr} (h1:cY K Hf t xs) (r1:aq K Hf ds xs):jA K (Nk K t) (l5 ds) Hf where
 go:=fun i d H aN s1 s2 e=>by
  unfold l5 at e
  rw [Oa,Og] at e
  obtain ⟨⟨x,m⟩,ex,rfl⟩:=e
  rw [List.getElem?_zipIdx,Og] at ex
  obtain ⟨x',ex,ee⟩:=ex
  cases ee
  obtain ⟨v1,f1,g1⟩:=r1.get ex
  have q1:=au (s1.trans s2) h1
  refine ⟨⟨xs,v1,q1,f1⟩,fun v H' ⟨p,y,e1,e2,e3,e4⟩=>?_⟩
  have z1:=e4 xs q1
  rw [f1] at z1; cases z1
  subst e1 e3
  have g:=bq.new s2 e2 (o:=.tup [.int (i:Nat),v1])
  rw [Qm]
  exact ⟨upd aN p (.tup [.int (i:Nat),v1]),g,aE.mpr ⟨p,_,rfl,.inl (.inl ai),.cons (av.mpr rfl) (.cons (Rep.mono (s1.trans g.f) _ g1) (ay.mpr rfl))⟩⟩
 stop:=fun i H aN s1 s2 e=>⟨xs,au (s1.trans s2) h1,by
  rw [← r1.length]
  simpa [l5] using e⟩
theorem ym:bootBuiltins "enumerate"=some (.type "enumerate"):=by decide +kernel
noncomputable def Lx (K:NZ) (ta:TA):TI:=fun σ H R=>ta σ H fun vs H1=>∃ t xs,vs=[.ref t]∧cY K H1 t xs∧R (Nk K t) H1
theorem ES (hg:Gl X "enumerate") (hm:X.mg "enumerate"=none) (ha:PA X [a] ta) (hs:starEach [a] X.env=[(false,eval a X.env)]) :
 PI X (.Tuple elts kt tpos) (.Call (.Name "enumerate" p) [a] [] pos) (Lx X.K ta):=by
 intro aa s σ H R I h
 refine Call_ (dB I hg hm ym (Rh (bC (ha pos aa s σ H _ I h) fun us s1 ⟨vs,H1,I1,r1,q1⟩=>?_) hs (by rfl)))
 obtain ⟨t,xs,e,q1,q⟩:=q1
 subst e
 obtain ⟨u,rfl,rx⟩:=vals1 r1
 cases rx
 obtain ⟨its,rv,p1,z1⟩:=I1.tuple q1
 have pT:s1.heap.IsTuple t its.toArray:=by obtain ⟨o,ho,hc',n,hd⟩:=p1; exact ⟨o,ho,hc',n,hd⟩
 refine ue pT fun h' a1 a2 hk=>wpAny_pyIter_enum a1 ?_
 refine ⟨s1.heap.objs.size+1,[s1.heap.objs.size+1,s1.heap.objs.size],_,_,H1,rfl,I1.kept (t':=s1.toks) hk,yk (Q8 (QC _)),⟨⟨.none,a1⟩,a2⟩,fun b hb=>?_,q⟩
 have hb':s1.heap.objs.size≤b:=by
  simp only [Oh,PX,or_false] at hb
  rcases hb with rfl | rfl
  ·exact Q5 _ _
  ·exact N2 _
 exact I1.mJ hb' (I1.hok.fresh hb')
section
variable {K:NZ} {c:Ctx P w K mg base k N sc bk}
theorem ID (hm:mg "enumerate"=none) (h:aF c a ρ fun x=>∃ ds,x=.tup ds∧R (l5 ds)) (hg:sc.names.lookup (NY "enumerate")=some .globalImplicit:=by walk_at "u")
 (hs:∀ env,starEach [a] env=(false,eval a env)::starEach [] env:=by intro _; walk_at "u"):HU c (.Tuple elts kt tpos) (.Call (.Name "enumerate" p) [a] [] pos) ρ R:=fun σ H Hf Q S q aa s I =>
 ES (by unfold Gl OQ; rw [c.esc]; exact hg) (by rw [c.emg]; exact hm) (bM cW dD (hs _)) (by rw [hs]; rfl) aa s σ H Q I
  (h σ H Hf _ S fun x v1 H1 aN ⟨ds,e1,hR⟩ r1 g1=>by
    subst e1
    rw [aE] at r1
    obtain ⟨t,xs,rfl,s1,t1⟩:=r1
    exact ⟨t,xs,rfl,au g1.b s1,q _ _ H1 aN hR g1 (yl s1 t1)⟩)
end
noncomputable def IE (lo:Int) (n:Nat):It:=⟨fun i _=>i<n,fun i H x H'=>H'=H∧x=.int (lo - i),fun i _=>n≤i⟩
noncomputable def Bl (lo:Int) (n:Nat):List D:=(OP n).map fun (i:Nat)=>D.int (lo - (i:Int))
theorem yo {P:Program} {w:World} {K:NZ} {tg:Expr} (j:Addr) (lo:Int) (n:Nat):Turn P w K tg (IE lo n) [j] j (fun i h=>IsRangeIter h j (lo+(i:Nat) * -1) ((n:Int) - (i:Nat)) (-1)) where
 mem:=Oi.mpr rfl
 obj:=fun i h st b hb=>by
  obtain rfl:b=j:=Oi.mp hb
  exact ⟨_,st,fun v z=>by have q:Tc _=Data.cell v:=z; cases q⟩
 keep:=fun i h h' st k=>k j (Oi.mpr rfl) _ st
 item:=by
  intro X hP hw hK hc i aa s σ H E I hf st hg
  subst hP hw hK
  obtain ⟨f0,f1,f2,f3,f4,f5⟩:=hf j (Oi.mpr rfl)
  have W:=Walks.range (prog:=X.prog) (w:=X.w) (I.ok.hd hc) j lo (-1) n
  refine W.item i s _ _ hg st fun v h' tk hv st' kk=>?_
  obtain ⟨t,rfl⟩:=hv
  have I1:Inv X aa σ H { s with heap:=h',toks:=tk }:=I.turned (fun b o hb e=>kk b o (by simpa using hb) e) f0 f1 f3 f4 f5
  have e:lo+(i:Int) * -1=lo - i:=by lia
  exact ⟨_,rfl,m9 (s:={ s with heap:=h',toks:=tk }) (n:="range_iterator") st' rfl rfl (by decide) ⟨.int (lo - i),H,I1,⟨t,by rw [e]⟩,⟨rfl,rfl⟩,st',fun b hb=>(hf b hb).1⟩⟩
 done:=by
  intro X hP hw hK hc i aa s σ H E I hf st hg
  subst hP hw hK
  obtain ⟨f0,f1,f2,f3,f4,f5⟩:=hf j (Oi.mpr rfl)
  exact wpAny_pyNext_range_end (I.ok.hd hc) st (by have:n≤i:=hg; lia) fun h' eb=>⟨rfl,I.turned (t':=s.toks) (fun b o hb e=>eb b o hb e) f0 f1 f3 f4 f5⟩
 self:=fun _ _ _ _ _ st h=>wpAny_pyIter_rangeiter st h
theorem l6 {lo hi:Int}:R6 lo hi (-1)=((lo - hi).toNat:Int):=by
 unfold R6
 rw [if_neg (by decide)]
 split
 ·rw [show - (-1:Int)=1 by decide,Int.ediv_one]; lia
 ·lia
theorem small_down (ha: -(2 ^ 62)≤a) (ha':a<2 ^ 62) (hb: -(2 ^ 62)≤b) (hb':b<2 ^ 62):Builtin.Range.small a b (-1)=true:=by
 unfold Builtin.Range.small
 rw [l6]
 simp only [Builtin.Range.rangeFitsLong,Rt,Bool.or_eq_true,decide_eq_true_eq,beq_iff_eq,show ¬ (-1:Int)>0 by decide,if_false]
 lia
noncomputable def Ly (ta:TA):TI:=fun σ H R=>ta σ H fun vs H1=>∃ i j:Int,vs=[.int i,.int j,.int (-1)]∧(-(2 ^ 62)≤i∧i<2 ^ 62∧ -(2 ^ 62)≤j∧j<2 ^ 62)∧R (IE i (i - j).toNat) H1
theorem ET (hg:Gl X "range") (hm:X.mg "range"=none) (ha:PA X [a,b,c] ta) (hs:starEach [a,b,c] X.env=[(false,eval a X.env),(false,eval b X.env),(false,eval c X.env)])
 (hs2:starEach [b,c] X.env=[(false,eval b X.env),(false,eval c X.env)]):PI X tg (.Call (.Name "range" p) [a,b,c] [] pos) (Ly ta):=by
 intro aa s σ H R I h
 refine Call_ (dB I hg hm boot_range (Rh (bC (ha pos aa s σ H _ I h) fun us s1 ⟨vs,H1,I1,r1,q1⟩=>?_) (by rw [hs,hs2]) (by rw [hs2]; rfl)))
 obtain ⟨i,j,e,⟨q1,q2,q3,q4⟩,q⟩:=q1
 subst e
 cases r1 with
 | cons r rr=>cases rr with
  | cons r' rr=>cases rr with
   | cons r'' rr =>
    cases rr
    obtain ⟨t,rfl⟩:=r
    obtain ⟨t',rfl⟩:=r'
    obtain ⟨t'',rfl⟩:=r''
    refine call_range_3 (by decide) ?_ (.inl (PyProof.noPylong_of_log2 (by decide +kernel)))
    refine wpAny_pyIter_range (IsRange.new ..) (small_down q1 q2 q3 q4) ?_
    have I2:Inv X aa σ H1 { s1 with heap:=s1.heap.push { cls:=.type "range",data:=.fields #[.int i t,.int j t',.int (-1) t''] },toks:=s1.toks }:=I1.kept fun b o e=>N7 _ e
    generalize s1.heap.push { cls:=.type "range",data:=.fields #[.int i t,.int j t',.int (-1) t''] }=g at I2 ⊢
    refine ⟨g.objs.size,[g.objs.size],_,_,H1,rfl,I2.kept (t':=s1.toks) fun b o e=>N7 _ e,yo _ i (i - j).toNat,?_,fun b hb=>?_,q⟩
    ·show IsRangeIter _ _ (i+((0:Nat):Int) * -1) ((((i - j).toNat:Nat):Int) - ((0:Nat):Int)) (-1)
     rw [show i+((0:Nat):Int) * -1=i by simp,show (((i - j).toNat:Nat):Int) - ((0:Nat):Int)=R6 i j (-1) by rw [l6]; lia]
     exact Oj _ rfl
    ·obtain rfl:b=g.objs.size:=Oi.mp hb
     exact I2.mJ (N2 _) (I2.hok.fresh (N2 _))
theorem Bm {K:NZ} {lo:Int} {n:Nat} {dN:Hp}:jA K (IE lo n) (Bl lo n) dN where
 go:=fun i d H Hf s1 s2 e=>by
  unfold Bl at e
  rw [Oa] at e
  obtain ⟨j,e1,e2⟩:=Og.mp e
  have hi:i<n:=by simpa using (Ob.mp e1).1
  have:j=i:=by rw [Q0 hi] at e1; cases e1; rfl
  subst this
  refine ⟨hi,fun x H' ⟨e3,e4⟩=>?_⟩
  subst e3 e4 e2
  exact ⟨Hf,.refl s2,av.mpr rfl⟩
 stop:=fun i H Hf s1 s2 e=>show n≤i by simpa [Bl] using e
section
variable {K:NZ} {c:Ctx P w K mg base k N sc bk}
theorem IF (hm:mg "range"=none) (h:aF c a ρ fun x=>aF c b ρ fun y=>aF c e ρ fun z=>∃ i j:Int,x=.int i∧y=.int j∧z=.int (-1)∧Sd (Ar i) (Sd (Ar j) (R (Bl i (i - j).toNat))))
 (hg:sc.names.lookup (NY "range")=some .globalImplicit:=by walk_at "u")
 (hs:∀ env,starEach [a,b,e] env=(false,eval a env)::starEach [b,e] env:=by intro _; walk_at "u") (hs2:∀ env,starEach [b,e] env=(false,eval b env)::starEach [e] env:=by intro _; walk_at "u")
 (hs3:∀ env,starEach [e] env=(false,eval e env)::starEach [] env:=by intro _; walk_at "u"):HU c tg (.Call (.Name "range" p) [a,b,e] [] pos) ρ R:=fun σ H Hf Q S q aa s I =>
 ET (by unfold Gl OQ; rw [c.esc]; exact hg) (by rw [c.emg]; exact hm) (bM cW (bM cW (bM cW dD (hs3 _)) (hs2 _)) (hs _)) (by rw [hs,hs2,hs3]; rfl) (by rw [hs2,hs3]; rfl) aa s σ H Q I
  (h σ H Hf _ S fun x v1 H1 aN h1 r1 g1=>h1 σ H1 aN _ (S.cB g1) fun y v2 H2 cJ h2 r2 g2=>h2 σ H2 cJ _ (S.cB (g1.trans g2)) fun z v3 H3 Hf3 ⟨i,j,e1,e2,e3,⟨hi,⟨hj,hR⟩⟩⟩ r3 g3=>by
    subst e1 e2 e3; rw [av] at r1 r2 r3; subst r1 r2 r3
    exact ⟨i,j,rfl,⟨hi.1,hi.2,hj.1,hj.2⟩,q _ _ H3 Hf3 hR ((g1.trans g2).trans g3) Bm⟩)
end
noncomputable abbrev ltI (x y:Int):Bool:=decide (x<y)
noncomputable def ND (d:Addr) (o:Obj) (ys:List (Key×V)):It :=
 ⟨fun i H=>H d=some (.frz o (.dK ys))∧i<ys.length,fun i H x H'=>H'=H∧∃ y,ys[i]?=some y∧x=kV y.1,fun i H=>H d=some (.frz o (.dK ys))∧ys.length≤i⟩
section
theorem pB (I:Inv X aa σ H s) (hH:H d=some (.frz o (.dK ys))):∃ (vs:List (Key×Value)) (es:Array DictEntry) (ep:Nat),o.data=.dict es ep∧KV ys vs∧s.heap.DictAt (bU X.prog X.w) d vs ep∧(d == sysModules)=false∧ys.length≤sizeLine:=by
 obtain ⟨ho,ok⟩:=(show bg X.prog X.w H s.heap d (.frz o (.dK ys)) from I.hok d _ hH)
 obtain ⟨z,y,vs,kv,o',es,ep,h1,h2,h3,h4,h5,h6⟩:=ok
 rw [ho] at h1; cases h1
 exact ⟨vs,es,ep,h3,kv,⟨o,es,ho,h2,h3,h4,h5,h6⟩,y,z⟩
end
theorem yp {P:Program} {w:World} {K:NZ} {tg:Expr} {d j:Addr} {o:Obj} {ys:List (Key×V)} {es:Array DictEntry} {ep:Nat} (hod:o.data=.dict es ep):Turn P w K tg (ND d o ys) [j] j (fun i h=>h.IsKeyIter j d i ys.length ep) where
 mem:=Oi.mpr rfl
 obj:=fun i h ⟨q,e,_,hd⟩ b hb=>by
  obtain rfl:b=j:=Oi.mp hb
  exact ⟨_,e,fun v z=>by rw [hd] at z; cases z⟩
 keep:=fun i h h' ⟨q,e,r⟩ k=>⟨q,k j (Oi.mpr rfl) _ e,r⟩
 item:=by
  intro X hP hw hK hc i aa s σ H E I hf st hg
  subst hP hw hK
  obtain ⟨f0,f1,f2,f3,f4,f5⟩:=hf j (Oi.mpr rfl)
  obtain ⟨hH,hi⟩:=hg
  obtain ⟨vs,es',ep',e1,kv,da,_⟩:=pB I hH
  rw [hod] at e1; cases e1
  have hl:ys.length=vs.length:=Ph kv
  obtain ⟨⟨ky,v⟩,hv,r1,r2⟩:=c7 kv (Ot hi)
  rw [hl] at st
  refine wpAny_pyNext_dict_item st da hv fun key h' hkey hit' hs'=>?_
  have I1:Inv X aa σ H { s with heap:=h',toks:=s.toks }:=I.turned (fun b o hb e=>hs'.extBut b o hb e) f0 f1 f3 f4 f5
  obtain ⟨q,e,qc,qd⟩:=id hit'
  rw [← hl] at hit'
  exact ⟨_,rfl,m9 (s:={ s with heap:=h',toks:=s.toks }) (n:="dict_keyiterator") e qc qd (by decide) ⟨kV ky,H,I1,vQ hkey,⟨rfl,_,Ot hi,by rw [r1]⟩,hit',fun b hb=>(hf b hb).1⟩⟩
 done:=by
  intro X hP hw hK hc i aa s σ H E I hf st hg
  subst hP hw hK
  obtain ⟨f0,f1,f2,f3,f4,f5⟩:=hf j (Oi.mpr rfl)
  obtain ⟨hH,hi⟩:=hg
  obtain ⟨vs,es',ep',e1,kv,da,_⟩:=pB I hH
  rw [hod] at e1; cases e1
  have hl:ys.length=vs.length:=Ph kv
  rw [hl] at st
  exact wpAny_pyNext_dict_end (I.ok.hd hc) st da (PF (by lia)) fun h' eb=>⟨rfl,I.turned (t':=s.toks) (fun b o hb e=>eb b o hb e) f0 f1 f3 f4 f5⟩
 self:=fun _ _ _ _ _ st h=>wpAny_pyIter_keyiter st h
theorem yq {K:NZ} {Hf:Hp} {d:Addr} {o:Obj} {ys:List (Key×V)} {ns:List Int} (hH:Hf d=some (.frz o (.dK ys))) (hk:ys.map (·.1)=ns.map Om):jA K (ND d o ys) (ns.map D.int) Hf where
 go:=fun i x H aN s1 s2 e=>by
  rw [Oa,Og] at e
  obtain ⟨n,hn,rfl⟩:=e
  have hq:=congrArg (fun l=>l[i]?) hk
  simp only [Oa,hn,Option.map_some] at hq
  obtain ⟨y,hy,ey⟩:=Og.mp hq
  refine ⟨⟨s2 _ _ (s1 _ _ hH),(Ob.mp hy).1⟩,fun v H' ⟨e1,y',e2,e3⟩=>?_⟩
  rw [hy] at e2; cases e2
  subst e1 e3
  exact ⟨aN,.refl s2,by rw [ey]; exact av.mpr rfl⟩
 stop:=fun i H aN s1 s2 e=>⟨s2 _ _ (s1 _ _ hH),by
  have:=congrArg QI hk
  simp only [N6] at this e
  lia⟩
section
theorem n6 (hT:s.TypeIs (.ref v) "dict") (hQ:Q false s):wpAny (model prog w) A (QO (.ref v)) Q E s:=by
 unfold QO
 refine NX (wpAny_specialOf hT PySem.F.slot_dict_len.lookup ?_)
 have e:splitId "dict.__len__"=some ("dict","__len__"):=by decide +kernel
 dsimp only
 rw [e]
 dsimp only
 refine NX (Sw (b:=true) hT (by rw [isSubtype_type]; kernel_rfl) ?_)
 rw [if_neg (by decide)]
 exact NX (Ql hT (N1 hQ))
end
section
variable {X:Cx} {aa:List (Addr×Obj)} {σ:L2.St} {H Hf:Hp} {s:Shared} {E:Value→Shared→Prop}
theorem rG {K:NZ}:∀ {L:List Int} {us:List Value},Paired (fun x u=>j8 K Hf (D.int x) u) L us→IntsAre us L
 | _,_,.nil=>.nil
 | _,_,.cons ⟨x,r1,h1⟩ t=>by
  rw [av] at h1; subst h1
  obtain ⟨tk,rfl⟩:=r1
  exact .cons _ _ (rG t)
theorem EU:Lr X D.int ltI oneType' where
 lin:=fun L=>⟨fun x _=>by simp,fun x _ y _ z _ h g=>by simp only [decide_eq_true_eq] at *; lia,fun x _ y _ h=>by simp only [decide_eq_true_eq]; lia⟩
 inj:=fun _ _ _ _ _ _ _ x y u ⟨v,r1,h1⟩ ⟨v',r2,h2⟩=>by
  rw [av] at h1 h2; subst h1 h2
  obtain ⟨t,rfl⟩:=r1
  obtain ⟨t',e⟩:=r2
  cases e; rfl
 kind:=fun _ _ _ _ _ _ _ _ _ L us p h2 Q hQ=>by
  rw [ksk_kind (kz:=L) (rG p) (by simpa using h2)]
  exact N1 hQ
 cmp:=fun _ _ _ _ _ _ _ _ _ _ x y u v ⟨a,r1,h1⟩ ⟨b,r2,h2⟩ Q hQ=>by
  rw [av] at h1 h2; subst h1 h2
  obtain ⟨t,rfl⟩:=r1
  obtain ⟨t',rfl⟩:=r2
  rw [keyLt'_oneType]
  exact oneLt_int hQ
theorem rH (hc:X.calm=true) (I:Inv X aa σ H s) (sb:aD Hf H) (hA:X.A.units+60<cLine) (hH:Hf d=some (.frz o (.dK ys))) (hk:ys.map (·.1)=ns.map Om) (nd:ns.Nodup)
 (hQ:∀ (L':List Int) (xs':List V) (s':Shared) (H' aj:Hp) (a:Addr),L'.Perm ns→fF ltI b L'→aq X.K aj (L'.map D.int) xs'→bq H Hf H' aj→H' a=none→Inv X aa σ (upd H' a (.lst xs')) s'→Q (.ref a) s') :
 wpAny (model X.prog X.w) X.A (call (.builtin "sorted") [.ref d] [(NY "reverse",.bool b)]) Q E s:=by
 refine call_function_entry_kw kind_sorted plain_sorted entry_sorted (args_sorted_rev _ _) ?_
 unfold Builtin.«sorted»
 refine NX (m:=checkCount "sorted" 1 1 _) (N1 ?_)
 have h1:X.A.in1.handled=none:=I.ok.hd hc
 have h2:X.A.in1.frames=some X.stack:=I.ok.frames
 obtain ⟨vs,es,ep,e1,kv,da,hs,hz⟩:=pB I (sb _ _ hH)
 have hl:ys.length=vs.length:=Ph kv
 have hn:(ns.map D.int).length=ys.length:=by have:=congrArg QI hk; simp only [N6] at this ⊢; lia
 refine NX (lU (X:=EF X X.A.in1) (H:=H) (Hf:=Hf) (ds:=ns.map D.int) (T:="dict") hc h1 h2 (jF I (fun _=>h1) h2) sb da.lt_size (by lia) (by decide) (fun s' k=>(da.keep k).dictOf.typeIs) (fun A s' Q E q h=>n6 q h) (fun A s1 H1 E I1 sb1 k1=>?_) fun us s' H' aj xs I' rv rr g hz'=>?_)
 ·refine wpAny_pyIter_dict hs (da.keep k1) ?_
  refine ⟨_,_,_,rfl,N2 _,I1.kept (t':=s1.toks) fun b o e=>N7 _ e,yp e1,⟨_,Oj _ rfl,rfl,?_⟩,fun b hb=>?_,fun b o e=>N7 _ e,yq hH hk⟩
  ·rw [hl]; rfl
  ·obtain rfl:b=s1.heap.objs.size:=Oi.mp hb
   exact I1.mJ (N2 _) (I1.hok.fresh (N2 _))
 ·have I2:=gq I.ok I'
  have el:=rr.length
  have el2:=rv.length
  refine A6 (b:=b) EU I2 g.b ?_ rr rv (by lia) nd fun L' xs' s2 p1 p2 p3 p4 I3=>hQ L' xs' s2 H' aj _ p1 p2 p3 g (I2.hok.fresh (N2 _)) I3
  show X.A.units+1+20<cLine
  lia
end
section
variable {K:NZ} {c:Ctx P w K mg base k N sc bk}
theorem uf (hm:mg "sorted"=none) (h:aF c e ρ fun d=>∃ (ns:List Int) (ds:List D),d=.fdK (ns.map Om) ds∧Sd ns.Nodup (∀ L':List Int,L'.Perm ns→fF ltI true L'→R (.ow (L'.map D.int))))
 (hg:sc.names.lookup (NY "sorted")=some .globalImplicit:=by walk_at "u")
 (he:∀ env,starEach [e] env=(false,eval e env)::starEach [] env:=by intro _; walk_at "u")
 (hpl:∀ env,(backTo pos (starEach [e] env)).any (·.1)=false:=by intro _; walk_at "u") :
 dz c (.Call (.Name "sorted" np) [e] [⟨some "reverse",.Constant (.bool true) j kp1,kp⟩] pos) ρ R:=fun σ H Hf Q S q aa s I=>by
 have hgl:Gl c.X "sorted":=by unfold Gl OQ; rw [c.esc]; exact hg
 refine PJ (dB I hgl (by rw [c.emg]; exact hm) (show bootBuiltins "sorted"=some (.builtin "sorted") by decide +kernel) ?_ (by decide) (by decide))
 refine callWith_kw ?_ (by rw [he]; rfl) (hpl _)
 have hpa:=bM (X:=c.X) (e:=e) (es:=[]) cW dD (he _)
 refine bC (hpa pos aa s σ H (fun vs H1=>∃ x,vs=[x]∧∃ (ns:List Int) (ds:List D) (aN:Hp),Rep c.X.K aN (.fdK (ns.map Om) ds) x∧ns.Nodup∧bq H Hf H1 aN∧∀ L':List Int,L'.Perm ns→fF ltI true L'→R (.ow (L'.map D.int))) I ?_) fun us s1 hh=>z2 hh fun vs H1 hh=>w3 hh fun I1 r1 hh=>hh.elim fun x hh=>w2 hh fun ex hh=>z3 hh fun ns ds aN hh=>w4 hh fun e1 e7 e8 e9=>?_
 ·exact h σ H Hf _ S fun d v H1 aN ⟨ns,ds,hp,⟨hn,hR⟩⟩ rv g=>⟨_,rfl,ns,ds,aN,by rw [← hp]; exact rv,hn,g,hR⟩
 ·subst ex
  obtain ⟨a0,ys,o,rfl,hs,hk,hr⟩:=iT.mp e1
  have eu:us=[.ref a0]:=by
   cases r1 with
   | cons q1 q2=>cases q2; cases q1; rfl
  subst eu
  refine kws_cons (bC (FP (X:=c.X) (b:=true) (j:=j) (pos:=kp1) aa s1 σ _ (fun x H2=>x=.bl true∧H2=H1) I1 ⟨rfl,rfl⟩) fun kv s2 ⟨x,H2,I2,rx,e10,e11⟩=>kws_nil ?_)
  subst e10 e11
  have ek:kv=.bool true:=rx
  subst ek
  refine rH (b:=true) c.calm I2 e8.b ?_ hs hk e7 fun L' xs' s' H' aj a p1 p2 p3 g na I3=>?_
  ·have:=c.room.un
   lia
  ·have gg:=e8.trans g
   exact ⟨.ref a,_,I3,rfl,q (.ow (L'.map D.int)) _ _ aj (e9 L' p1 p2) ⟨a,xs',rfl,gg.s.free na,ai,g.b.free na,p3⟩ (gg.trans (bq.gi g.b na))⟩
end
theorem EW {Q:Value→Shared→Prop} (ho:s.heap.get? l=some o) (hc:o.cls=.type "tuple") (hd:o.data=.seq its.toArray n) (hk:0≤k) (hk2:k<2 ^ 63) (hz:its.length * k.toNat≤sizeLine) (hne:its≠[])
 (h1:k=1→Q (.ref l) s) (h2:k≠1→Q (.ref s.heap.objs.size) { s with heap:=s.heap.push { cls:=.type "tuple",data:=.seq (Of k.toNat its).flatten.toArray } }) :
 wpAny (model prog w) A (Builtin.«tuple.__mul__» ⟨[.ref l,.int k u],[]⟩) (fun fin s'=>∃ v,fin=.done (.ret v)∧Q v s') E s:=by
 unfold Builtin.«tuple.__mul__»
 show wpAny _ _ (asIndex (.int k u) >>= _) _ _ s
 have ea:asIndex (.int k u)=pure k:=rfl
 rw [ea]
 refine NX (N1 ?_)
 have b1:(decide (k< -2 ^ 63) || decide (k≥2 ^ 63))=false:=by simp only [Bool.or_eq_false_iff,decide_eq_false_iff_not]; lia
 rw [if_neg (by rw [b1]; exact Oc)]
 dsimp only
 refine NX (show wpAny _ _ (seqItems? (.ref l) >>= _) _ _ s from NX (wpAny_seqItems ho hd (N1 ?_)))
 have hne':its.toArray.isEmpty=false:=by cases its with | nil=>exact absurd rfl hne | cons a r=>rfl
 rw [hne',Bool.false_or]
 by_cases e:k=1
 ·rw [if_pos (by simp [e])]
  refine NX (NX (Ql ⟨o,ho,hc⟩ (N1 ?_)))
  rw [if_pos (by decide)]
  exact NX (Pk (N1 ⟨_,rfl,h1 e⟩))
 ·rw [if_neg (by simpa using e)]
  have h2':=h2 e
  by_cases e0:k=0
  ·subst e0
   rw [if_pos (by decide)]
   exact NX (O4 (N1 ⟨_,rfl,h2'⟩))
  ·have hpos:0<k:=by lia
   rw [if_neg (by simp; lia)]
   have hm:(its.toArray.size:Int) * k=((its.length * k.toNat:Nat):Int):=by
    rw [Int.natCast_mul,Int.toNat_of_nonneg hk,Oo]
   have hs:(sizeLine:Nat)≤(2 ^ 63 - 1) / 8:=by decide
   rw [hm,if_neg (by lia),if_neg (by unfold Builtin.Tuple.tupleTooMany; simp only [decide_eq_true_eq]; lia)]
   have ef:=foldl_rep its k.toNat []
   rw [Qg] at ef
   show wpAny _ _ (newObj (.type "tuple") (.seq (Rf (fun x1 x2=>x1++x2) ([]:List Value).toArray (Of k.toNat its.toArray))) >>= _) _ _ _
   rw [ef]
   exact NX (O4 (N1 ⟨_,rfl,h2'⟩) (hd:=by
    show (Of k.toNat its).flatten.toArray.size≤sizeLine
    rw [Oo,len_rep,RH]; exact hz))
theorem ug:fillsNumberSlot (.type "tuple") "mul"=pure false:=PySem.fillsNumberSlot_seq (id:="tuple.__mul__") (r:=some (.builtin "tuple.__rmul__")) Uh.lookup (by decide +kernel) F.slot_tuple_rmul.lookup (by decide +kernel)
theorem uh:seqRepeat? (.type "tuple")=pure (some (.builtin "tuple.__mul__")):=by
 unfold seqRepeat?
 rw [PySem.seqSlot_of (T:="tuple") (name:="__mul__") (id:="tuple.__mul__") Uh.lookup (by decide +kernel),PySem.seqSlot_of (T:="tuple") (name:="__rmul__") (id:="tuple.__rmul__") F.slot_tuple_rmul.lookup (by decide +kernel)]
 rfl
theorem Bo (a) (t:Tok) (l) (o) (items) (n) :
 Meets (Builtin.«int.__rmul__» ⟨[.int a t,.ref l],[]⟩) (fun _ R s=>s.heap.get? l=some o∧o.cls=.type "tuple"∧o.data=.seq items n∧R (.ok (.ret Value.notImplemented)) s) :=
 .of_wp fun prog w A R ⟨hp,g,d,tk,os⟩ ⟨hl,hc,hd,h⟩=>by
  obtain ⟨c,dc,dt,sl⟩:=o
  obtain rfl:c=.type "tuple":=hc
  obtain rfl:dt=.seq items n:=hd
  wp_walk
  exact ⟨_,rfl,h⟩
noncomputable def Lz (K:NZ):R2:=fun x y H Q=>∃ l k xs,x=.ref l∧y=.int k∧cY K H l xs∧xs≠[]∧0≤k∧k<2 ^ 63∧xs.length * k.toNat≤sizeLine∧(k=1→Q (.ref l) H)∧(k≠1→∀ p,H p=none→Q (.ref p) (upd H p (.tup (Of k.toNat xs).flatten)))
theorem EX:fm X (binaryOp .Mult) (Lz X.K):=by
 intro aa s σ H x y v u Q I rx ry h
 obtain ⟨l,k,xs,rfl,rfl,hq,hne,h0,h1,hz,q1,q2⟩:=h
 cases rx
 obtain ⟨t,rfl⟩:=ry
 obtain ⟨its,r,pl,hz0⟩:=I.tuple hq
 obtain ⟨o,ho,hc,n,hd⟩:=pl
 have hl:=r.length
 refine wpAny_binaryOp_repeat_ref (T:="tuple") (U:="int") (by decide) ⟨o,ho,hc⟩ (fun s'=>Rb s' k t) ug F.fills_int_mul SG uh F.slot_int_index.lookup
  (Rc SG (Rb s k t) F.entry_int_rmul (F.args_int_rmul_2 _ _) (Bo k t l o _ _) ⟨ho,hc,hd,rfl,⟨o,ho,hc⟩,Px Uh ⟨o,ho,hc⟩ F.entry_tuple_mul (EW (its:=its) ho hc hd h0 h1 (by rw [← hl]; exact hz) (by rintro rfl; cases r; exact hne rfl) (fun e=>?_) fun e=>?_) (F.args_tuple_mul_2 _ _)⟩)
 ·exact ⟨.ref l,H,I,rfl,q1 e⟩
 ·have Hp:H s.heap.objs.size=none:=I.hok.fresh (N2 _)
  have hz2:(Of k.toNat xs).flatten.length≤sizeLine:=by rw [len_rep,RH]; exact hz
  have IA:Inv X aa σ (upd H s.heap.objs.size (.tup (Of k.toNat xs).flatten)) { s with heap:=s.heap.push { cls:=.type "tuple",data:=.seq (Of k.toNat its).flatten.toArray },toks:=s.toks } :=
   I.laid (a:=s.heap.objs.size) (o:=.tup (Of k.toNat xs).flatten) (fun _ _ q=>N7 _ q) (N2 _) ⟨hz2,_,r.rep k.toNat,_,Oj _ rfl,rfl,0,rfl⟩
  exact ⟨.ref s.heap.objs.size,_,IA,rfl,q2 e _ Hp⟩
section
variable {K:NZ}
theorem IG (h:aF c a ρ fun x=>aF c b ρ fun y=>∃ ds n,x=.tup ds∧y=.int n∧Sd (ds≠[]∧0≤n∧n<2 ^ 63∧ds.length * n.toNat≤sizeLine) (R (.tup (Of n.toNat ds).flatten))):aF c (.BinOp a .Mult b pos) ρ R:=fun σ H Hf Q S q =>
 bH (zw EX cW cW) (h σ H Hf _ S fun x v H1 aN h1 r1 g1=>h1 σ H1 aN _ (S.cB g1) fun y u H2 cJ ⟨ds,n,e1,e2,⟨hne,n0,n1,hz⟩,hR⟩ r2 g2=>by
  subst e1 e2
  have r1':=Rep.mono g2.f _ r1
  obtain ⟨l,xs,rfl,k1,k2⟩:=aE.mp r1'
  rw [av] at r2; subst r2
  have hl:=k2.length
  have g:=g1.trans g2
  refine ⟨l,n,xs,rfl,rfl,au g2.b k1,by rintro rfl; exact hne (List.eq_nil_of_length_eq_zero hl),n0,n1,by rw [← hl]; exact hz,fun e=>?_,fun _ p hp=>?_⟩
  ·subst e
   refine q _ _ H2 cJ hR ?_ g
   rw [show (Of (1:Int).toNat ds).flatten=ds by simp]
   exact r1'
  ·have g3:=bq.new (o:=.tup (Of n.toNat xs).flatten) g2.b hp
   exact q _ _ _ _ hR (aE.mpr ⟨p,_,rfl,.inl (.inl ai),(k2.mono g3.f).many _⟩) (g.trans g3))
end
section
variable {K:NZ}
end
end EV
namespace EV
open PySem PySem.Spec PyProof.Rows L2
noncomputable def dig (b:Int):Nat→(Nat→Int)→Int
 | 0,_=>0
 | m+1,f=>f 0 * b ^ m+dig b m (fun i=>f (i+1))
noncomputable abbrev bR (p:List Int) (i:Nat):Int:=p.getD i 0
noncomputable def pk (b:Int) (p:List Int):Int:=dig b 6 (bR p)
theorem jj:∀ {m:Nat} {f g:Nat→Int},(∀ i,i<m→f i=g i)→dig b m f=dig b m g
 | 0,_,_,_=>rfl
 | m+1,f,g,h=>by
  unfold dig
  rw [h 0 (by lia),jj (m:=m) fun i hi=>h (i+1) (by lia)]
theorem wA:∀ (m:Nat) (f g:Nat→Int),dig b m (fun i=>f i+g i)=dig b m f+dig b m g
 | 0,_,_=>rfl
 | m+1,f,g=>by
  unfold dig
  rw [wA m (fun i=>f (i+1)) (fun i=>g (i+1)),QK]
  lia
theorem jk:∀ (m:Nat),dig b m (fun _=>0)=0
 | 0=>rfl
 | m+1=>by unfold dig; rw [jk m,QH]; rfl
theorem iF (hb:0<b):∀ (m:Nat) (f:Nat→Int),(∀ i,i<m→0≤f i∧f i<b)→0≤dig b m f∧dig b m f<b ^ m
 | 0,_,_=>⟨Pj _,by show (0:Int)<b ^ 0; rw [Int.pow_zero]; decide⟩
 | m+1,f,h=>by
  have h0:=h 0 (by lia)
  have ih:=iF hb m (fun i=>f (i+1)) fun i hi=>h (i+1) (by lia)
  have hp:0<b ^ m:=QJ hb
  unfold dig
  rw [Int.pow_succ]
  have a1:0≤f 0 * b ^ m:=Int.mul_nonneg h0.1 (by lia)
  have a2:(f 0+1) * b ^ m≤b * b ^ m:=Uq (by lia) (by lia)
  rw [QK,S9] at a2
  rw [Int.mul_comm (b ^ m) b]
  lia
theorem wB (hb:0<b):∀ (m:Nat) (f:Nat→Int),(∀ i,i<m→0≤f i∧f i<b)→∀ i,i<m→dig b m f / b ^ (m - 1 - i) % b=f i
 | 0,_,_,_,hi=>absurd hi (Nat.not_lt_zero _)
 | m+1,f,h,i,hi=>by
  have ih:=wB hb m (fun i=>f (i+1)) fun i hi=>h (i+1) (by lia)
  have bd:=iF hb m (fun i=>f (i+1)) fun i hi=>h (i+1) (by lia)
  have hp:0<b ^ m:=QJ hb
  unfold dig
  cases i with
  | zero =>
   rw [show m+1 - 1 - 0=m by lia,SY,Int.add_mul_ediv_right _ _ (by lia),Int.ediv_eq_zero_of_lt bd.1 bd.2,RI]
   exact Int.emod_eq_of_lt (h 0 (by lia)).1 (h 0 (by lia)).2
  | succ i =>
   have e:b ^ m=b ^ (i+1) * b ^ (m - 1 - i):=by rw [← Int.pow_add]; congr 1; lia
   have hq:0<b ^ (m - 1 - i):=QJ hb
   rw [show m+1 - 1 - (i+1)=m - 1 - i by lia,e,← RC,SY,Int.add_mul_ediv_right _ _ (by lia),Int.pow_succ,← RC,Int.add_mul_emod_self_right]
   exact ih i (by lia)
theorem jI (h:trim (x::p)=x::p):trim p=p:=by
 rcases List.eq_nil_or_concat p with rfl | ⟨r,z,rfl⟩
 ·rfl
 ·rw [List.concat_eq_append] at h ⊢
  by_cases e:z=0
  ·subst e
   rw [← PK,gT] at h
   have:=congrArg QI h
   have l:=gr (x::r)
   simp only [OE,OL,PM] at this l
   lia
  ·exact nX r e
theorem rJ:∀ {p:List Int},trim p=p→p≠[]→(∀ x∈p,0≤x)→∃ i,i<p.length∧0<bR p i
 | [],_,h,_=>absurd rfl h
 | [x],h,_,h0=>by
  refine ⟨0,by simp,?_⟩
  have:x≠0:=by rintro rfl; simp [trim] at h
  have:=h0 x (by simp)
  show 0<x
  lia
 | x::y::p,h,_,h0=>by
  obtain ⟨i,hi,hq⟩:=rJ (jI h) (by simp) fun z hz=>h0 z (Oe _ hz)
  exact ⟨i+1,by simp only [OE] at *; lia,by simpa [bR] using hq⟩
theorem wC (hb:0<b):∀ (m:Nat) (f:Nat→Int),(∀ i,i<m→0≤f i∧f i<b)→(∃ i,i<m∧0<f i)→0<dig b m f
 | 0,_,_,h=>by obtain ⟨i,hi,_⟩:=h; lia
 | m+1,f,h,⟨i,hi,hq⟩=>by
  have bd:=iF hb m (fun i=>f (i+1)) fun i hi=>h (i+1) (by lia)
  have hp:0<b ^ m:=QJ hb
  unfold dig
  cases i with
  | zero =>
   have:=Int.mul_pos hq hp
   lia
  | succ i =>
   have:=wC hb m (fun i=>f (i+1)) (fun i hi=>h (i+1) (by lia)) ⟨i,by lia,hq⟩
   have:=Int.mul_nonneg (h 0 (by lia)).1 (show 0≤b ^ m by lia)
   lia
theorem Bp (hb:0<b):∀ (m:Nat) (p q:List Int),trim p=p→trim q=q→p.length≤m→q.length≤m→(∀ x∈p,0≤x∧x<b)→(∀ x∈q,0≤x∧x<b)→HT.lexLt p q=true→dig b m (bR p)<dig b m (bR q)
 | m,[],[],_,_,_,_,_,_,h=>by cases h
 | m,[],y::q,_,tq,_,lq,_,hq,_=>by
  have e:dig b m (bR [])=0:=by
   rw [show bR ([]:List Int)=fun _=>0 from funext fun i=>by simp [bR]]; exact jk m
  rw [e]
  obtain ⟨i,hi,h0⟩:=rJ tq (by simp) fun x hx=>(hq x hx).1
  refine wC hb m _ (fun j hj=>?_) ⟨i,by lia,h0⟩
  by_cases z:j<(y::q).length
  ·have:bR (y::q) j=(y::q)[j]:=by unfold bR; rw [O7,Ot z]; rfl
   rw [this]; exact hq _ (OD _)
  ·have:bR (y::q) j=0:=by simp only [bR,O7,PF (by lia:(y::q).length≤j)]; rfl
   rw [this]; lia
 | m,x::p,[],_,_,_,_,_,_,h=>by cases h
 | 0,x::p,y::q,_,_,lp,_,_,_,_=>by simp at lp
 | m+1,x::p,y::q,tp,tq,lp,lq,hp,hq,h=>by
  simp only [OE] at lp lq
  rw [HT.cG] at h
  have rd:∀ (r:List Int),(∀ z∈r,0≤z∧z<b)→∀ j,0≤bR r j∧bR r j<b:=fun r hr j=>by
   by_cases z:j<r.length
   ·have:bR r j=r[j]:=by unfold bR; rw [O7,Ot z]; rfl
    rw [this]; exact hr _ (OD _)
   ·have:bR r j=0:=by simp only [bR,O7,PF (by lia:r.length≤j)]; rfl
    rw [this]; lia
  have hp':∀ z∈p,0≤z∧z<b:=fun z hz=>hp z (Oe _ hz)
  have hq':∀ z∈q,0≤z∧z<b:=fun z hz=>hq z (Oe _ hz)
  unfold dig
  show x * b ^ m+dig b m (bR p)<y * b ^ m+dig b m (bR q)
  by_cases e:x=y
  ·rw [if_pos e] at h
   subst e
   have:=Bp hb m p q (jI tp) (jI tq) (by lia) (by lia) hp' hq' h
   lia
  ·rw [if_neg e] at h
   have hxy:x<y:=of_decide_eq_true h
   have b1:=iF hb m (bR p) fun i _=>rd p hp' i
   have b2:=iF hb m (bR q) fun i _=>rd q hq' i
   have a2:(x+1) * b ^ m≤y * b ^ m:=Uq (by lia) (by have hh:0<b ^ m:=QJ hb; lia)
   rw [QK,S9] at a2
   lia
noncomputable def Bd (b:Int) (p:List Int):Prop:=p.length≤6∧∀ x∈p,0≤x∧x<b
theorem dH (z:j<p.length):bR p j=p[j]:=by unfold bR; rw [O7,Ot z]; rfl
theorem cQ (z:p.length≤j):bR p j=0:=by unfold bR; rw [O7,PF z]; rfl
theorem Gi (hb:0<b) (h:Bd b p) (i):0≤bR p i∧bR p i<b:=by
 by_cases z:i<p.length
 ·rw [dH z]; exact h.2 _ (OD _)
 ·rw [cQ (by lia)]; lia
theorem rK (p):∃ m,p=trim p++Of m 0:=by
 suffices H:∀ r:List Int,∃ m,r=Of m 0++r.dropWhile fun x=>x == 0 by
  obtain ⟨m,h⟩:=H p.reverse
  refine ⟨m,?_⟩
  have:=congrArg List.reverse h
  rw [List.reverse_reverse,TN,List.reverse_replicate] at this
  exact this
 intro r
 induction r with
 | nil=>exact ⟨0,rfl⟩
 | cons x r ih =>
  by_cases e:x=0
  ·subst e
   obtain ⟨m,h⟩:=ih
   refine ⟨m+1,?_⟩
   rw [PU,List.dropWhile_cons_of_pos (by simp),PK,← h]
  ·exact ⟨0,by rw [List.dropWhile_cons_of_neg (by simpa using e)]; rfl⟩
theorem dZ (p) (i):bR (trim p) i=bR p i:=by
 obtain ⟨m,h⟩:=rK p
 by_cases z:i<(trim p).length
 ·have e:bR p i=bR (trim p++Of m 0) i:=by rw [← h]
  rw [e]
  unfold bR
  simp only [O7]
  rw [Qc z]
 ·rw [cQ (by lia)]
  have e:bR p i=bR (trim p++Of m 0) i:=by rw [← h]
  rw [e]
  unfold bR
  simp only [O7]
  rw [QS (by lia),Tt]
  split <;> rfl
theorem EY (b) (p):pk b (trim p)=pk b p:=jj fun i _=>dZ p i
theorem rL (h:x∈trim p):x∈p:=by
 obtain ⟨m,e⟩:=rK p
 rw [e]; exact Qy _ h
theorem pC (h:Bd b p):Bd b (trim p):=⟨N8 (gr p) h.1,fun x hx=>h.2 x (rL hx)⟩
theorem Bq (hb:0<b) (hp:Bd b p) (hq:Bd b q) (tp:trim p=p) (tq:trim q=q) (h:HT.lexLt p q=true):pk b p<pk b q:=Bp hb 6 p q tp tq hp.1 hq.1 hp.2 hq.2 h
theorem um (hb:0<b) (hp:Bd b p) (hq:Bd b q) (tp:trim p=p) (tq:trim q=q) (h:pk b p=pk b q):p=q:=by
 by_cases e:p=q
 ·exact e
 ·exfalso
  rcases kK e with z | z
  ·have:=Bq hb hp hq tp tq z; lia
  ·have:=Bq hb hq hp tq tp z; lia
noncomputable def Mq (b:Int) (key:Int):List Int:=trim ((OP 6).map fun (i:Nat)=>key / b ^ (5 - i) % b)
theorem II (hb:0<b) (h:Bd b p):Mq b (pk b p)=trim p:=by
 have e:((OP 6).map fun (i:Nat)=>pk b p / b ^ (5 - i) % b)=p++Of (6 - p.length) 0:=by
  refine Sz (by simp; have:=h.1; lia) fun i h1 h2=>?_
  have hi:i<6:=by simpa using h1
  rw [Ud,TU]
  have:=wB hb 6 (bR p) (fun j _=>Gi hb h j) i hi
  rw [show 6 - 1 - i=5 - i by lia] at this
  rw [show pk b p=dig b 6 (bR p) from rfl,this]
  by_cases z:i<p.length
  ·rw [dH z,List.getElem_append_left z]
  ·rw [cQ (by lia),List.getElem_append_right (by lia),List.getElem_replicate]
 unfold Mq
 rw [e]
 generalize 6 - p.length=m
 induction m with
 | zero=>simp
 | succ m ih=>rw [List.replicate_succ',← Ov,gT]; exact ih
noncomputable def cL (B:List (Int×Int)):List (Key×D):=B.map fun x=>(.inl x.1,.int x.2)
theorem jl (B) (k):bx (cL B) (.inl k)=(bx B k).map D.int:=by
 induction B with
 | nil=>rfl
 | cons t B ih =>
  by_cases e:t.1=k
  ·rw [bh e]
   show bx ((Om t.1,D.int t.2)::cL B) _=_
   rw [bh (by rw [e])]; rfl
  ·rw [aR e,← ih]
   show bx ((Om t.1,D.int t.2)::cL B) _=_
   rw [aR fun z=>e (Om.inj z)]
theorem rM (B) (k n):putD (cL B) (.inl k) (.int n)=cL (putD B k n):=by
 unfold putD
 rw [jl]
 by_cases h:(bx B k).isSome=true
 ·rw [if_pos h,if_pos (by rw [QA]; exact h)]
  unfold cL
  rw [Ou,Ou]
  refine P1 fun t _=>?_
  simp only [SO]
  by_cases e:t.1=k
  ·rw [if_pos e,if_pos (by rw [e])]
  ·rw [if_neg e,if_neg fun z=>e (Om.inj z)]
 ·rw [if_neg h,if_neg (by rw [QA]; exact h)]
  unfold cL
  simp
noncomputable def gv (b:Int) (t:aG):Int×Int:=(pk b t.1,t.2)
noncomputable def Gd (b:Int) (A:List aG):Prop:=∀ t∈A,Bd b t.1∧trim t.1=t.1
theorem uo (hb:0<b) (h:Gd b A) (hp:Bd b p) (tp:trim p=p):bx (A.map (gv b)) (pk b p)=bx A p:=by
 induction A with
 | nil=>rfl
 | cons t A ih =>
  have ih:=ih fun x hx=>h x (Oe _ hx)
  have ht:=h t Od
  by_cases e:t.1=p
  ·rw [bh e,N5,bh (show (gv b t).1=pk b p by unfold gv; rw [e])]; rfl
  ·rw [aR e,N5,aR fun z=>e (um hb ht.1 hp ht.2 tp z),ih]
theorem IJ (hb:0<b) (h:Gd b A) (hp:Bd b p) (tp:trim p=p):putD (A.map (gv b)) (pk b p) n=(putD A p n).map (gv b):=by
 unfold putD
 rw [uo hb h hp tp]
 split
 ·rw [Ou,Ou]
  refine P1 fun t ht=>?_
  simp only [SO]
  by_cases e:t.1=p
  ·rw [if_pos e,if_pos (show (gv b t).1=pk b p by unfold gv; rw [e])]; rfl
  ·rw [if_neg e,if_neg (show ¬ (gv b t).1=pk b p from fun z=>e (um hb (h t ht).1 hp (h t ht).2 tp z))]
 ·simp [gv]
theorem IK (h:Gd b A) (hp:Bd b p) (tp:trim p=p):Gd b (putD A p n):=fun t ht=>by
 rcases pA ht with e | e
 ·rw [e]; exact ⟨hp,tp⟩
 ·exact h t e
theorem pD (h:∀ t∈ts,Bd b t.1):Gd b (aJ ts):=by
 unfold aJ
 suffices H:∀ A,Gd b A→Gd b (ts.foldl fG A) from H [] (fun _ h=>by cases h)
 induction ts with
 | nil=>exact fun A h=>h
 | cons u ts ih=>exact fun A hA=>ih (fun t ht=>h t (Oe _ ht)) _ (IK hA (pC (h u Od)) (cA _))
theorem IL (hb:0<b) (h:∀ t∈ts,Bd b t.1) (ht:Bd b t.1) :
 putD ((aJ ts).map (gv b)) (pk b t.1) ((bx ((aJ ts).map (gv b)) (pk b t.1)).getD 0+t.2)=(aJ (ts++[t])).map (gv b):=by
 rw [rD]
 unfold fG
 rw [← EY b t.1,uo hb (pD h) (pC ht) (cA _),IJ hb (pD h) (pC ht) (cA _)]
theorem rN:∀ {L M:List Int},L.Perm M→L.Pairwise (fun x y=>y<x)→M.Pairwise (fun x y=>y<x)→L=M
 | [],M,h,_,_=>by rw [List.nil_perm] at h; exact h.symm
 | x::L,[],h,_,_=>by simp at h
 | x::L,y::M,h,h1,h2=>by
  rw [Q2] at h1 h2
  by_cases e:x=y
  ·subst e
   rw [rN ((List.perm_cons _).mp h) h1.2 h2.2]
  ·exfalso
   have hx:x∈M:=(Oh.mp (h.subset Od)).resolve_left e
   have hy:y∈L:=(Oh.mp (h.symm.subset Od)).resolve_left (Oq e)
   have a:=h1.1 y hy
   have b:=h2.1 x hx
   lia
theorem pF {A:List aG} (hk:(A.map (·.1)).Nodup) {t:aG} (h:t∈A):bx A t.1=some t.2:=by
 induction A with
 | nil=>cases h
 | cons u A ih =>
  rw [N5,Po] at hk
  rcases Oh.mp h with rfl | h
  ·exact bh rfl
  ·rw [aR fun e=>hk.1 (by rw [e]; exact List.mem_map_of_mem h)]
   exact ih hk.2 h
theorem Br (hb:0<b) (h:∀ t∈ts,Bd b t.1) (hp:L'.Perm (((aJ ts).map (gv b)).map (·.1))) (hs:L'.Pairwise fun x y=>y<x):L'=(fh (aJ ts)).map fun t=>pk b t.1:=by
 have hg:=pD h
 have hk:=dY ts
 generalize aJ ts=A at *
 refine rN (hp.trans ?_) hs ?_
 ·rw [Ou]
  exact ((bB A).map _).symm
 ·rw [P5]
  have hs2:=gW (keys_nodup hk)
  have hm:∀ t∈fh A,t∈A:=fun t ht=>(bB A).subset ht
  have hk2:(fh A).Pairwise fun x y=>x.1≠y.1:=by
   have:=((bB A).map (·.1)).nodup_iff.mpr hk
   unfold RL at this
   rwa [P5] at this
  unfold jg fF at hs2
  refine Te.imp_of_mem (R:=fun x y=>(if true then cP y x=true else cP x y=true)∧x.1≠y.1) (fun {x y} hx hy q=>?_) (hs2.and hk2)
  obtain ⟨q1,q2⟩:=q
  rw [if_pos rfl] at q1
  unfold cP at q1
  rw [if_neg (Oq q2)] at q1
  exact Bq hb (hg _ (hm _ hy)).1 (hg _ (hm _ hx)).1 (hg _ (hm _ hy)).2 (hg _ (hm _ hx)).2 q1
noncomputable def EZ (b:Int) (p:List Int):Int:=p.foldl (fun a x=>a * b+x) 0
theorem Bt (b) (p) (x):EZ b (p++[x])=EZ b p * b+x:=by unfold EZ; rw [T8]; rfl
theorem rP (b):∀ (p:List Int) (a:Int),p.foldl (fun a x=>a * b+x) a=a * b ^ p.length+dig b p.length (bR p)
 | [],a=>by simp [dig]
 | x::p,a=>by
  rw [Pp,rP b p]
  show (a * b+x) * b ^ p.length+_=a * b ^ (p.length+1)+(x * b ^ p.length+dig b p.length (bR p))
  rw [QK,Int.pow_succ,RC,Int.mul_comm b (b ^ p.length)]
  lia
theorem wD (b) (p):EZ b p=dig b p.length (bR p):=by unfold EZ; rw [rP]; lia
theorem rQ (k):∀ (m:Nat) (f:Nat→Int),(∀ i,m≤i→f i=0)→dig b (m+k) f=dig b m f * b ^ k
 | 0,f,h=>by
  rw [Qm,jj (g:=fun _=>0) fun i _=>h i (OH _),jk]
  show 0=0 * b ^ k
  rw [QH]
 | m+1,f,h=>by
  rw [show m+1+k=(m+k)+1 by lia]
  unfold dig
  rw [rQ k m (fun i=>f (i+1)) fun i hi=>h (i+1) (by lia),QK,Int.pow_add,RC]
theorem IM (h:p.length≤6):EZ b p * b ^ (6 - p.length)=pk b p:=by
 rw [wD,← rQ (6 - p.length) p.length (bR p) fun i hi=>cQ hi]
 rw [show p.length+(6 - p.length)=6 by lia]
 rfl
theorem Bu (hb:0<b) (h:∀ x∈p,0≤x∧x<b):0≤EZ b p∧EZ b p<b ^ p.length:=by
 rw [wD]
 exact iF hb _ _ fun i hi=>by rw [dH hi]; exact h _ (OD _)
theorem LA (hb:0<b) (h:Bd b p):0≤pk b p∧pk b p<b ^ 6:=iF hb _ _ fun i _=>Gi hb h i
theorem two_pos (W):(0:Int)<2 ^ W:=QJ (by decide)
theorem gX (W):((2:Int) ^ W)=((2 ^ W:Nat):Int):=by rw [Int.natCast_pow]; rfl
theorem Bv (hW:W≤10) (hn:n≤6):((2:Int) ^ W) ^ n≤2 ^ 60:=by
 rw [← Int.pow_mul,gX,gX]
 exact Int.ofNat_le.mpr (Rl (by decide) (N8 (Qi hW hn) (by decide)))
theorem wF (hW:W≤10) (hn:n≤6) (h0:0≤x) (h:x<((2:Int) ^ W) ^ n):x.natAbs<2 ^ 64:=by
 have:=Bv hW hn
 have h60:(2:Int) ^ 60<2 ^ 64:=by decide
 have:x<((2 ^ 64:Nat):Int):=by rw [← gX]; lia
 lia
theorem yr (W) (h:0≤x):Builtin.bitAnd x (1 * 2 ^ W - 1)=x % 2 ^ W:=by
 have hp:=two_pos W
 have e0:(1:Int) * 2 ^ W - 1=((2 ^ W - 1:Nat):Int):=by
  have:0<2 ^ W:=Nat.pow_pos (by decide)
  rw [S9,gX]; lia
 rw [e0]
 show (match decide (0≤x),decide (0≤((2 ^ W - 1:Nat):Int)) with
  | true,true=>(((x.toNat &&& (((2 ^ W - 1:Nat):Int)).toNat:Nat)):Int)
  | true,false=>_ | false,true=>_ | false,false=>_)=_
 rw [decide_eq_true h,decide_eq_true (Int.natCast_nonneg _)]
 show ((x.toNat &&& (2 ^ W - 1):Nat):Int)=_
 rw [Nat.and_two_pow_sub_one_eq_mod,gX,Int.natCast_emod,Int.toNat_of_nonneg h]
noncomputable def cC (p q:List Int):List Int:=(OP (max p.length q.length)).map fun k=>bR p k+bR q k
noncomputable def dI (l r:aG):aG:=(cC l.1 r.1,l.2 * r.2)
noncomputable def aL (A B:List aG):List aG:=A.flatMap fun l=>B.map (dI l)
theorem jm (p q):(cC p q).length=max p.length q.length:=by simp [cC]
theorem bY (p q) (i):bR (cC p q) i=bR p i+bR q i:=by
 by_cases z:i<max p.length q.length
 ·rw [dH (by rw [jm]; exact z)]; simp [cC]
 ·rw [cQ (by rw [jm]; lia),cQ (by lia),cQ (by lia)]; rfl
theorem E0 (b) (p q):pk b (cC p q)=pk b p+pk b q:=by
 unfold pk
 rw [← wA]
 exact jj fun i _=>bY p q i
theorem gw (h:t∈aL A B):∃ l∈A,∃ r∈B,t=dI l r:=by
 unfold aL at h
 obtain ⟨l,hl,h⟩:=Sy.mp h
 obtain ⟨r,hr,rfl⟩:=OF.mp h
 exact ⟨l,hl,r,hr,rfl⟩
theorem n8 (A B) (l):aL (A++[l]) B=aL A B++B.map (dI l):=by
 unfold aL
 rw [List.flatMap_append,Rq,Ue,O5]
theorem cR (A B):(aL A B).length=A.length * B.length:=by
 induction A with
 | nil=>simp [aL]
 | cons a A ih =>
  unfold aL at *
  rw [Rq,OL,ih,N6,OE,RG]
  lia
end EV
namespace EV
open PySem PySem.Spec PySem.Calls PyProof.Rows L2
theorem Bw {K:NZ}:∀ {kvs:List (Key×D)} {ys:List (Key×V)},ys.map (·.1)=kvs.map (·.1)→aq K H (kvs.map (·.2)) (ys.map (·.2))→mF K H kvs ys
 | [],[],_,_=>.nil
 | [],y::ys,h,_=>by simp at h
 | x::kvs,[],h,_=>by simp at h
 | x::kvs,y::ys,h,r=>by
  rw [N5,N5] at h r
  obtain ⟨v,t,e,r1,r2⟩:=aC.mp r
  injection e with e1 e2
  injection h with h1 h2
  subst e1 e2
  exact .cons ⟨h1.symm,r1⟩ (Bw h2 r2)
section
variable {K:NZ}
theorem IP (h:aF c a ρ fun x=>aF c b ρ fun y=>∃ (kvs:List (Key×D)) (kk:Key) (d:D),x=.fdK (kvs.map (·.1)) (kvs.map (·.2))∧y.xR=some kk∧bx kvs kk=some d∧R d) (hs:DK b:=by with_unfolding_all exact fun _ _=>rfl):aF c (.Subscript a b pos) ρ R:=fun σ H Hf Q S q =>
 bH (vq c.hu cW cW hs) (h σ H Hf _ S fun x v H1 aN h1 r1 g1=>h1 σ H1 aN _ (S.cB g1) fun y u H2 cJ ⟨kvs,kk,d,e1,e2,e3,hR⟩ r2 g2=>by
  subst e1
  obtain ⟨p,ys,o,rfl,k1,k2,k3⟩:=iT.mp r1
  have kv:=(Bw k2 k3).mono g2.f
  have rel:=kv.val kk
  rw [e3] at rel
  rw [i8 e2 r2]
  cases z:kW ys kk with
  | none=>rw [z] at rel; exact rel.elim
  | some v =>
   rw [z] at rel
   exact ⟨p,v,rfl,.inl ⟨ys,kk,.inr ⟨o,g2.b _ _ (g2.f _ _ k1)⟩,rfl,z.symm⟩,q d v H2 cJ hR rel (g1.trans g2)⟩)
end
end EV
namespace EV
open PySem PySem.Spec PyProof.Rows L2
theorem rR {A:List aG} {l:List Int} {n:Int} {t:aG} (h:t∈putD A l n):t=(l,n)∨t∈A:=by
 unfold putD at h
 split at h
 ·obtain ⟨u,hu,e⟩:=OF.mp h
  split at e
  ·rename_i q; subst e; exact .inl (by rw [q])
  ·subst e; exact .inr hu
 ·rcases Oz.mp h with q | q
  ·exact .inr q
  ·simp at q; exact .inl q
theorem IQ {A:List aG} (h:∀ t∈A,t.2.natAbs≤c) (l):((bx A l).getD 0).natAbs≤c:=by
 unfold bx
 cases e:A.find? (fun kv=>decide (kv.1=l)) with
 | none=>exact OH _
 | some u=>exact h u (List.mem_of_find?_eq_some e)
theorem wG:∀ (ts A:List aG) (c:Nat),(∀ t∈A,t.2.natAbs≤c)→(∀ t∈ts,t.2.natAbs≤m)→∀ t∈ts.foldl fG A,t.2.natAbs≤c+ts.length * m
 | [],A,c,h,_,t,ht=>by simpa using h t ht
 | u::ts,A,c,h,g,t,ht=>by
  have:=wG (m:=m) ts (fG A u) (c+m) (fun t' ht'=>by
   rcases rR ht' with rfl | q
   ·have a:=IQ h (trim u.1)
    have b:=g u Od
    show ((bx A (trim u.1)).getD 0+u.2).natAbs≤c+m
    omega
   ·have:=h t' q; omega) (fun t h=>g t (Oe _ h)) t ht
  rw [OE,RG]
  omega
theorem IS (h:∀ t∈ts,t.2.natAbs≤m):∀ t∈aJ ts,t.2.natAbs≤ts.length * m:=fun t ht=>by
 have:=wG ts [] 0 (by simp) h t ht
 omega
theorem yt (l m:List Int):k7 (n+1) (.tup (l.map D.int)) (.tup (m.map D.int)):=.tup fun i d e h1 h2=>by
 simp only [Oa,Og] at h1 h2
 obtain ⟨a,_,rfl⟩:=h1
 obtain ⟨b,_,rfl⟩:=h2
 exact .sc rfl
theorem rS (x y):k7 (n+2) (aM x) (aM y):=.tup fun i d e h1 h2=>by
 rcases i with _ | _ | i
 ·simp at h1 h2; subst h1 h2; exact yt _ _
 ·simp at h1 h2; subst h1 h2; exact .sc rfl
 ·simp at h1
theorem Bx (L M:List aG):k7 (n+3) (.lst (L.map aM)) (.lst (M.map aM)):=.lst fun i d e h1 h2=>by
 simp only [Oa,Og] at h1 h2
 obtain ⟨a,_,rfl⟩:=h1
 obtain ⟨b,_,rfl⟩:=h2
 exact rS a b
theorem By (es):oO [] es:=fun i d e h _=>by simp at h
theorem n9 (h:k7 40 d e) (t:oO ds es):oO (d::ds) (e::es):=fun i a b h1 h2=>by
 cases i with
 | zero=>simp at h1 h2; subst h1 h2; exact h
 | succ i=>exact t i a b (by simpa using h1) (by simpa using h2)
theorem yu (L M:List aG):oO (L.map aM) (M.map aM):=fun i d e h1 h2=>by
 simp only [Oa,Og] at h1 h2
 obtain ⟨a,_,rfl⟩:=h1
 obtain ⟨b,_,rfl⟩:=h2
 exact rS a b
theorem l7 (h:oO ds ds) (t:T true):DT (.lst ds) (.lst ds) T:=DV ⟨h,by rw [decide_eq_true rfl]; exact t⟩
section
variable {K:NZ}
theorem int_mk (KX:K.In h) (G:h.Ns mainGlobals mg) (a:OY K mainGlobals x=some (some (.int i tk))):∃ tk:Tok,mg x=some (.int i tk):=⟨tk,PySem.W.mg_of KX G a⟩
theorem wH {st:Stmt} (m:mg x=some (.ref f)) (Fu:fS K x x st f fd) (ok:bz P w K mg base (dR P w) k f fd ps (Iu K F))
 (hb:∀ (kV doc pm:Value) (an:Option Addr) (cdv ct:Value) (us:List Value),us.length=ps.length→bindArgs (PY x x (d9 st) (aA st) (ah st) .none kV doc pm an cdv ct) ⟨us,[]⟩=pure (ps.zip us)):yf P w K mg base k x F :=
 ⟨f,fd,ps,m,Fu.kp,Fu.binds hb,ok⟩
end
theorem iG (h:n≤100000):n<sizeLine:=P4 h (by decide)
theorem uq (h:n≤100000):n≤sizeLine:=Qn (iG h)
structure pG (P:Program) (w:World) (K:NZ) (mg:Str→Option Value) (base:Heap) (k:Nat) (f:Addr) (F:Fn):Prop where
 ex:∃ fd ps,PN K (.ref f)=true∧Binds K fd ps []∧bz P w K mg base (dR P w) k f fd ps (fU K F)
section
variable {K:NZ} {c:Ctx P w K mg base k N sc bk}
theorem cV.at_ (h:cV P w K mg base j x F):∃ f,mg x=some (.ref f)∧pG P w K mg base j f F:=by
 obtain ⟨f,fd,ps,a,b,c,d⟩:=h.ex
 exact ⟨f,a,fd,ps,b,c,d⟩
theorem IT (hm:mg x=some (.ref f)) (hR:R (.adr f)) (hg:sc.names.lookup x=some .globalImplicit:=by walk_at "u") (hd:(x == ("__debug__":Str))=false:=by decide) :
 aF c (.Name x pos) ρ R:=fun σ H Hf Q S q =>
 bH (vc (X:=c.X) (v:=.ref f) (u:=.ref f) (by unfold Gl OQ; rw [c.esc]; exact hg) (by rw [c.emg]; exact hm) rfl hd) (q _ _ H Hf hR (eV.mpr rfl) (.refl S.sb))
theorem BA (h:pG P w K mg base j f F) (hj:j≤k):PN K (.ref f)=true ∧
 ∀ (aa:List (Addr×Obj)) (σ:L2.St) (H Hf:Hp) (s:Shared) (us:List Value) (vs:List V) (ds:List D) (r:Res) (Q:VK),Inv c.X aa σ H s→bw c σ H Hf ρ→Vals vs us→aq c.X.K Hf ds vs→F ds r →
  (∀ sl v H' aj,r=.ok sl→aX c.X.K (fun p=>H p=none) H' aj sl v→bq H Hf H' aj→Q v H')→(∀ C,r=.ex C→c.RX C ρ)→wpAny (model c.X.prog c.X.w) c.X.A (call (.ref f) us) (EP c.X aa σ Q) c.X.xe s:=by
 obtain ⟨fd,ps,hk,hb,hF⟩:=h.ex
 refine ⟨hk,fun aa σ H Hf s us vs ds r Q I S rv rs hr q hx=>?_⟩
 have hF':bz c.X.prog c.X.w c.X.K c.X.mg c.X.base (dR c.X.prog c.X.w) k f fd ps (fU c.X.K F):=by rw [c.eP,c.ew,c.eK,c.emg,c.eb]; exact hF.mono hj
 have qa:fU c.X.K F vs H Q (fun cv ao H'=>∃ C,r=.ex C∧cv=.ref C∧aD H H'):=by
  refine ⟨Hf,ds,r,S.bas.b,rs,hr,?_⟩
  cases r with
  | ok sl=>exact fun v H' aj g rs2=>q sl v H' aj rfl rs2 g
  | ex C=>exact fun a H' s2=>⟨C,rfl,rfl,s2⟩
 have hl:us.length=ps.length:=by rw [← rv.length]; exact hF'.len _ _ _ _ qa
 have hb':Binds c.X.K fd ps []:=by rw [c.eK]; exact hb
 have hb2:=hb' s us I.oA (by simpa using hl)
 rw [O5] at hb2
 refine Ra (Q7 (hF'.run c.X.A c.X.stack s H ⟨us,[]⟩ us vs Q _ c.room I.Dz hb2 rv qa) fun r' s' hq=>?_)
 cases r' with
 | error e =>
  obtain ⟨a,C,H',rfl,hE,C',e1,e2,sm⟩:=hq
  cases e2
  exact c.exc C a aa σ H Hf ρ s H' s' I S (hx C e1) hE sm
 | ok fl =>
  cases fl with
  | ret u=>exact I.after hq
  | next=>exact OZ hq
  | brk=>exact OZ hq
  | cont=>exact OZ hq
theorem gY {R:Sl→Prop} (h:pG P w K mg base j f F) (hj:j≤k) (hN:At N i x) (hi:At ρ i (.va (.adr f)))
 (ha:qx c (e::es) ρ fun ds=>∃ r,F ds r∧HK c ρ R r)
 (hdb:(x == ("__debug__":Str))=false:=by decide) (hcd:(x == ("__classdict__":Str))=false:=by decide) (he:∀ env,starEach (e::es) env=(false,eval e env)::starEach es env:=by intro _; walk_at "u")
 (hpl:∀ env,(backTo pos (starEach es env)).any (·.1)=false:=by intro _; walk_at "u"):dz c (.Call (.Name x p) (e::es) [] pos) ρ R:=fun σ H Hf Q S q aa s I=>by
 obtain ⟨hk,run⟩:=BA (c:=c) (ρ:=ρ) h hj
 obtain ⟨v0,e0,r0⟩:=S.va hi.get
 rw [eV] at r0
 subst r0
 refine PJ (bC (c.lu hN hdb hcd aa s σ H (fun v H1=>v=.ref f∧H1=H) I ⟨_,e0,rfl,rfl⟩) fun fv s1 ⟨v,H1,I1,rv,e1,e2⟩=>?_)
 subst e1 e2
 have ef:fv=.ref f:=rv
 subst ef
 refine Sj (h₀:=c.X.base) I1.ok.mod.kin (by rw [c.eK]; exact hk) (bC (ha σ _ Hf (fun vs H1=>∃ aN ds,(∃ r,F ds r∧HK c ρ R r)∧aq c.X.K aN ds vs∧bq _ Hf H1 aN) S (fun ds vs H1 aN hr rs g=>⟨aN,ds,hr,rs,g⟩) pos aa s1 I1) fun us s2 ⟨vs,H2,I2,rv,aN,ds,⟨r,hF,hR⟩,rs,g⟩=>⟨I2.oA,?_⟩) (he _) (hpl _)
 refine run aa σ H2 aN s2 us vs ds r Q I2 (S.cB g) rv rs hF (fun sl v H' aj e1 rs2 g2=>?_) fun C e1=>?_
 ·subst e1
  exact q sl v H' aj hR (rs2.weak fun p hp=>g.s.free hp) (g.trans g2)
 ·subst e1
  exact hR
end
end EV
namespace EV
open PySem PySem.Spec PySem.Calls PyProof.Rows L2
section
theorem yv (hc:X.calm=true) (I:Inv X aa σ H s) (sb:aD Hf H) (hv:s.heap.IsItemsView v d) (hH:Hf d=some (.frz o u)) (hd:HO.dct u) (hp:Paired (nM X.K Hf) ds (bJ u))
 (hQ:∀ (a:Addr) (s':Shared) (H' aj:Hp) (xs:List V),Inv X aa σ H' s'→H' a=some (.lst xs)→H a=none→aj a=none→aq X.K aj ds xs→bq H Hf H' aj→Q (.ref a) s'):wpAny (model X.prog X.w) X.A (call (.type "list") [.ref v]) Q E s:=by
 obtain ⟨ho,ok⟩:=(show bg X.prog X.w H s.heap d (.frz o u) from I.hok d _ (sb _ _ hH))
 obtain ⟨_,_,_,_,_,_,hz⟩:=cK ok hd ho
 have h1:X.A.in1.handled=none:=I.ok.hd hc
 have h2:X.A.in1.frames=some X.stack:=I.ok.frames
 refine callType_codes (Q₁:=fun obj s₁=>obj=.ref s.heap.objs.size∧s₁={ s with heap:=s.heap.push { cls:=.type "list",data:=.seq #[] } }) F.called_list (F.typeCall_list_1 _) F.entry_list_init
  (code_list_new _ ⟨rfl,rfl⟩) fun obj s₁ h₁=>?_
 obtain ⟨rfl,rfl⟩:=h₁
 have hS:(s.heap.push { cls:=.type "list",data:=.seq #[] }).get? s.heap.objs.size=some { cls:=.type "list",data:=.seq #[] }:=Oj _ rfl
 refine ⟨⟨_,hS,rfl⟩,F.args_list_init_2 _ _,?_⟩
 show wpAny _ X.A.in1.in1 (do let old ← Rk (.ref s.heap.objs.size); Qe (.ref s.heap.objs.size) (fun _=> #[]); letGo old.toList.reverse; RV (.ref s.heap.objs.size) (.ref v) .none) _ _ _
 refine NX (RE hS rfl ?_)
 have HS:H s.heap.objs.size=none:=I.hok.fresh (N2 _)
 have I1:Inv X aa σ (upd H s.heap.objs.size (.lst [])) { s with heap:=s.heap.push { cls:=.type "list",data:=.seq ([]:List Value).toArray },toks:=s.toks }:=I.DH (t':=s.toks) (ys:=[]) (its:=[]) .nil (OH _)
 refine NX (Pu hS rfl ?_)
 have I2:=I1.tM (f:=fun _=>(#[]:Array Value)) (its':=[]) (ys:=[]) (t':=s.toks) ai (n:=0) hS (by simp) .nil (OH _)
 rw [oq] at I2
 refine NX (S0 ?_)
 have k1:∀ b o,s.heap.get? b=some o→((s.heap.push { cls:=.type "list",data:=.seq ([]:List Value).toArray }).update s.heap.objs.size (OI fun _=>(#[]:Array Value))).get? b=some o:=fun b o e=>by
  rw [Qf _ _ _ _ (OB (N9 e))]
  exact N7 _ e
 have up:∀ s':Shared,(∀ b o,s.heap.get? b=some o→s'.heap.get? b=some o)→s'.heap.IsItemsView v d:=fun s' k=>by obtain ⟨q,q1,q2⟩:=hv; exact ⟨q,k _ _ q1,q2⟩
 have hne:s.heap.objs.size≠v:=Q8 (by obtain ⟨_,q,_⟩:=hv; exact N9 q)
 have g0:bq H Hf (upd H s.heap.objs.size (.lst [])) Hf:=bq.gi sb HS
 refine nW (X:=EF X X.A.in1) (T:="dict_items") (ds:=ds) (H:=H) (Hf:=Hf) (R:=wants (fun r s₂=>r=.none∧Q (.ref s.heap.objs.size) s₂) E) hc h1 h2 (jF I2 (fun _=>h1) h2) sb HS hne ?_ (by rw [Ph hp]; exact hz) (by decide) (fun s' k=>(up s' fun b o e=>k b o (k1 b o e)).typeIs) (fun A s' Q E q h=>yd q h) ?_ fun s' H' aj xs I' hS' hfS hr g=>⟨rfl,hQ _ s' H' aj xs (gq I.ok I') hS' HS hfS hr g⟩
 ·show _<(Heap.update _ _ _).objs.size
  rw [Ug]
  show _<(Heap.push _ _).objs.size
  rw [Qj]; exact QC _
 ·refine OO (EH (X:=EF X X.A.in1) (tg:=.Name "x" ⟨0,0,0,0⟩) (jF I2 (fun _=>h1) h2) (up _ k1) (g0.b _ _ hH) hd) (fun itv s2 hh=>z3 hh fun it es ep hh=>w7 hh fun e hit I3 Tn t0 hf k2=>?_) fun _ _ x=>x
  exact ⟨it,_,_,e,hit,I3,Tn,t0,hf,k2,tY hH hp⟩
end
section
variable {K:NZ} {c:Ctx P w K mg base k N sc bk}
theorem rT (hm:mg "list"=none) (h:aF c e ρ fun d=>∃ ds,d.pairs=some ds∧R (.ow ds)) (hg:sc.names.lookup (NY "list")=some .globalImplicit:=by walk_at "u")
 (hb:∀ env,attributeBase e "items" env (eval e env)=eval e env:=by intro _; walk_at "u") (hl:(ap.endLine == cp.line)=true:=by walk_at "u") :
 dz c (.Call (.Name "list" np) [.Call (.Attribute e "items" ap) [] [] cp] [] pos) ρ R:=fun σ H Hf Q S q aa s I=>by
 have hgl:Gl c.X "list":=by unfold Gl OQ; rw [c.esc]; exact hg
 refine PJ (dB I hgl (by rw [c.emg]; exact hm) (show bootBuiltins "list"=some (.type "list") by decide +kernel) ?_ (by decide) (by decide))
 have hpa:=bM (X:=c.X) (e:=.Call (.Attribute e "items" ap) [] [] cp) (es:=[]) (A5 cW (hb _) hl) dD (by rfl)
 refine Rh (bC (hpa pos aa s σ H (fun vs H1=>∃ x,vs=[x]∧∃ (v d:Addr) (o:Obj) (u:HO) (ds:List D) (H0 Dn:Hp),x=.ref v∧H1=upd H0 v (.ext fun h=>h.IsItemsView v d)∧H0 v=none∧Dn d=some (.frz o u)∧HO.dct u∧Paired (nM c.X.K Dn) ds (bJ u)∧bq H Hf H0 Dn∧R (.ow ds)) I ?_) fun us s1 hh=>z2 hh fun vs H1 hh=>w3 hh fun I1 r1 hh=>hh.elim fun x hh=>w2 hh fun ex hh=>z4 hh fun v d o u hh=>z3 hh fun ds H0 Dn hh=>w8 hh fun e1 e2 e3 e4 e5 e6 e8 e9=>?_) (by rfl) (by rfl)
 ·exact h σ H Hf _ S fun d v H1 aN ⟨ds,hp,hR⟩ rv g=>by
   obtain ⟨a,o,u,e1,e2,e3,e4⟩:=xZ hp rv
   exact ⟨a,o,u,e1,g.b _ _ e2,e3,fun vw hv=>⟨_,rfl,vw,a,o,u,ds,H1,aN,rfl,rfl,hv,e2,e3,e4,g,hR⟩⟩
 ·subst ex e1 e2
  have eu:us=[.ref v]:=by
   cases r1 with
   | cons q1 q2=>cases q2; cases q1; rfl
  subst eu
  have g1:bq H0 Dn (upd H0 v (.ext fun h=>h.IsItemsView v d)) Dn:=bq.gi e8.b e3
  obtain ⟨hvw,_⟩:=(show bg c.X.prog c.X.w _ s1.heap v (.ext fun h=>h.IsItemsView v d) from I1.hok v _ ai)
  refine yv c.calm I1 g1.b hvw e4 e5 e6 fun a s' H' aj xs I' hS' na zb hr g=>?_
  have gg:=(e8.trans g1).trans g
  exact ⟨.ref a,H',I',rfl,q (.ow ds) _ _ aj e9 ⟨a,xs,rfl,e8.s.free (g1.s.free na),hS',zb,hr⟩ gg⟩
end
section
theorem BB {K:NZ}:∀ {ds:List D} {xs:List V} {us:List Value},aq K Hf ds xs→Vals xs us→Paired (fun d u=>j8 K Hf d u) ds us
 | [],xs,us,h,v=>by rw [ay] at h; subst h; cases v; exact .nil
 | t::L,xs,us,h,v=>by
  obtain ⟨x,r,rfl,h1,h2⟩:=aC.mp h
  cases v with
  | cons r1 r2=>exact .cons ⟨x,r1,h1⟩ (BB h2 r2)
theorem BC {K:NZ}:∀ {ds:List D} {us:List Value},Paired (fun d u=>j8 K Hf d u) ds us→∃ xs,aq K Hf ds xs∧Vals xs us
 | _,_,.nil=>⟨[],ay.mpr rfl,.nil⟩
 | _,_,.cons ⟨x,r1,h1⟩ t=>by
  obtain ⟨xs,h2,h3⟩:=BC t
  exact ⟨x::xs,.cons h1 h2,.cons r1 h3⟩
theorem uu (hc:X.calm=true) (I:Inv X aa σ H s) (sb:aD Hf H) (hl:gO X.K Hf l ys) (hr:aq X.K Hf ds ys) (hd:∀ d∈ds,∃ es,d=.lst es)
 (hQ:∀ (ds':List D) (xs':List V) (s':Shared) (a:Addr),ds'.Perm ds→aq X.K Hf ds' xs'→H a=none→Inv X aa σ (upd H a (.lst xs')) s'→Q (.ref a) s') :
 wpAny (model X.prog X.w) X.A (call (.builtin "sorted") [.ref l] [(NY "key",.builtin "len")]) Q E s:=by
 refine call_function_entry_kw kind_sorted plain_sorted entry_sorted (SR.j7 _ _) ?_
 unfold Builtin.«sorted»
 refine NX (m:=checkCount "sorted" 1 1 _) (N1 ?_)
 obtain ⟨its,rv,p,hz⟩:=I.list (sb.seq hl)
 have el:=rv.length
 refine NX (collect_list p.isList ?_ (by lia))
 have I2:Inv X aa σ H { s with heap:=(s.heap.push (seqObj "list" #[] 0)).update s.heap.objs.size (OI (· ++its.toArray)),toks:=s.toks }:=I.kept fun c o e=>by
  rw [Qf _ _ _ _ (OB (N9 e))]
  exact N7 _ e
 generalize (s.heap.push (seqObj "list" #[] 0)).update s.heap.objs.size (OI (· ++its.toArray))=h0 at I2 ⊢
 refine NX (RA ?_ (by lia))
 have ha:(h0.push (seqObj "list" its.toArray 0)).get? h0.objs.size=some (seqObj "list" its.toArray 0):=Oj _ rfl
 have Ha:H h0.objs.size=none:=I2.hok.fresh (N2 _)
 have k2:∀ b o,h0.get? b=some o→(h0.push (seqObj "list" its.toArray 0)).get? b=some o:=fun b o e=>N7 _ e
 have I3:Inv X aa σ H { s with heap:=h0.push (seqObj "list" its.toArray 0),toks:=s.toks }:=I2.kept (t':=s.toks) k2
 have pL:=BB hr rv
 refine NX (Pc (TL slot_list_sort ⟨_,ha,rfl⟩ entry_list_sort (SR.A2 ha (by lia) (fun v hv=>?_) fun out h' tk e hp he hk=>⟨_,rfl,?_⟩) (SR.iC _ _)))
 ·obtain ⟨d,hd',x,r1,h1⟩:=SR.iB pL v hv
  obtain ⟨es,rfl⟩:=hd d hd'
  obtain ⟨b,zs,rfl,q1,q2⟩:=aV.mp h1
  cases r1
  obtain ⟨its',rv',p',hz'⟩:=I3.list (sb.seq q1)
  have e':=rv'.length
  refine ⟨b,its'.toArray,rfl,?_,p'.isList,by simp only [Oo]; lia⟩
  rintro rfl
  obtain ⟨_,_,p2,_⟩:=I2.list (sb.seq q1)
  obtain ⟨o,q,_⟩:=p2.isList
  exact PB _ (N9 q)
 ·obtain ⟨ds',p1,p2⟩:=SR.gp hp pL
  obtain ⟨xs',r',v'⟩:=BC p2
  have hlen:out.toList.length=its.length:=hp.length_eq
  refine N1 ⟨_,rfl,hQ ds' xs' _ _ p1 r' Ha ?_⟩
  refine I2.laid (t':=tk) (a:=h0.objs.size) (fun b o q=>hk b o (OB (N9 q)) (k2 b o q)) (N2 _) ⟨by have:=v'.length; lia,out.toList,e,v',by simpa using he⟩
end
section
variable {K:NZ} {c:Ctx P w K mg base k N sc bk}
theorem yw (hm:mg "sorted"=none) (hml:mg "len"=none) (h:aF c e ρ fun d=>∃ ds,d=.lst ds∧Sd (∀ x∈ds,∃ es,x=.lst es) (∀ ds':List D,ds'.Perm ds→R (.ow ds')))
 (hg:sc.names.lookup (NY "sorted")=some .globalImplicit:=by walk_at "u") (hgl:sc.names.lookup (NY "len")=some .globalImplicit:=by walk_at "u")
 (he:∀ env,starEach [e] env=(false,eval e env)::starEach [] env:=by intro _; walk_at "u")
 (hpl:∀ env,(backTo pos (starEach [e] env)).any (·.1)=false:=by intro _; walk_at "u") :
 dz c (.Call (.Name "sorted" np) [e] [⟨some "key",.Name "len" kp1,kp⟩] pos) ρ R:=fun σ H Hf Q S q aa s I=>by
 have hgs:Gl c.X "sorted":=by unfold Gl OQ; rw [c.esc]; exact hg
 have hgl':Gl c.X "len":=by unfold Gl OQ; rw [c.esc]; exact hgl
 refine PJ (dB I hgs (by rw [c.emg]; exact hm) (show bootBuiltins "sorted"=some (.builtin "sorted") by decide +kernel) ?_ (by decide) (by decide))
 refine callWith_kw ?_ (by rw [he]; rfl) (hpl _)
 have hpa:=bM (X:=c.X) (e:=e) (es:=[]) cW dD (he _)
 refine bC (hpa pos aa s σ H (fun vs H1=>∃ x,vs=[x]∧∃ (ds:List D) (aN:Hp),Rep c.X.K aN (.lst ds) x∧(∀ x∈ds,∃ es,x=.lst es)∧bq H Hf H1 aN∧∀ ds':List D,ds'.Perm ds→R (.ow ds')) I ?_) fun us s1 hh=>z2 hh fun vs H1 hh=>w3 hh fun I1 r1 hh=>hh.elim fun x hh=>w2 hh fun ex hh=>z2 hh fun ds aN hh=>w4 hh fun e1 e7 e8 e9=>?_
 ·exact h σ H Hf _ S fun d v H1 aN ⟨ds,hp,⟨hn,hR⟩⟩ rv g=>⟨_,rfl,ds,aN,by rw [← hp]; exact rv,hn,g,hR⟩
 ·subst ex
  obtain ⟨a0,ys,rfl,hs,hr⟩:=aV.mp e1
  have eu:us=[.ref a0]:=by
   cases r1 with
   | cons q1 q2=>cases q2; cases q1; rfl
  subst eu
  refine kws_cons (dB I1 hgl' (by rw [c.emg]; exact hml) (show bootBuiltins "len"=some (.builtin "len") by decide +kernel) ?_ (by decide) (by decide))
  refine kws_nil ?_
  exact uu c.calm I1 e8.b hs hr e7 fun ds' xs' s' a p1 p3 na I3=>⟨.ref a,_,I3,rfl,q (.ow ds') _ _ aN (e9 ds' p1) ⟨a,xs',rfl,e8.s.free na,ai,e8.b.free na,p3⟩ (e8.trans (bq.gi e8.b na))⟩
end
mutual
def Sh.d:Sh→D
 | .v d=>d
 | .l ds=>.lst ds
 | .la _ ds=>.lst ds
 | .t ss=>.tup (Sh.ds ss)
 | .ls ss=>.lst (Sh.ds ss)
def Sh.ds:List Sh→List D
 | []=>[]
 | s::ss=>s.d::Sh.ds ss
end
section
variable {K:NZ} {H Hf H' aj:Hp}
noncomputable abbrev Fp:=List (Addr×List V)
mutual
theorem bf.fz:∀ (s:Sh) {v:V} {fp:Fp},bf K H Hf s v fp→∀ a∈fp,H a.1=some (pl a.1 a.2)∧Hf a.1=none
 | .v d,_,_,h=>by simp only [bf] at h; obtain ⟨_,rfl⟩:=h; intro a ha; cases ha
 | .l ds,_,_,h=>by
  simp only [bf] at h
  obtain ⟨p,xs,e,h1,h2,h3,rfl⟩:=h
  intro a ha
  obtain rfl:=Oi.mp ha
  exact ⟨h1,h2⟩
 | .la p ds,_,_,h=>by
  simp only [bf] at h
  obtain ⟨xs,e,h1,h2,h3,rfl⟩:=h
  intro a ha
  obtain rfl:=Oi.mp ha
  exact ⟨h1,h2⟩
 | .t ss,_,_,h=>by
  simp only [bf] at h
  obtain ⟨a,xs,e,h1,h2⟩:=h
  exact aB.fz ss h2
 | .ls ss,_,_,h=>by
  simp only [bf] at h
  obtain ⟨p,xs,fq,e,h1,h2,h3,rfl⟩:=h
  intro a ha
  rcases Oh.mp ha with rfl | ha
  ·exact ⟨h1,h2⟩
  ·exact aB.fz ss h3 a ha
theorem aB.fz:∀ (ss:List Sh) {xs:List V} {fp:Fp},aB K H Hf ss xs fp→∀ a∈fp,H a.1=some (pl a.1 a.2)∧Hf a.1=none
 | [],_,_,h=>by simp only [aB] at h; obtain ⟨_,rfl⟩:=h; intro a ha; cases ha
 | s::ss,_,_,h=>by
  simp only [aB] at h
  obtain ⟨x,r,f1,f2,e,h1,h2,rfl⟩:=h
  intro a ha
  rcases Oz.mp ha with ha | ha
  ·exact bf.fz s h1 a ha
  ·exact aB.fz ss h2 a ha
end
mutual
theorem bf.rep (sf:aD Hf aj):∀ (s:Sh) {v:V} {fp:Fp},(∀ a∈fp,aj a.1=some (.lst a.2))→bf K H Hf s v fp→Rep K aj s.d v
 | .v d,_,_,_,h=>by simp only [bf] at h; exact h.1.mono sf d
 | .l ds,_,_,hk,h=>by
  simp only [bf] at h
  obtain ⟨p,xs,e,h1,h2,h3,rfl⟩:=h
  exact aV.mpr ⟨p,xs,e,.inl (.inl (hk _ Od)),h3.mono sf ds⟩
 | .la p ds,_,_,hk,h=>by
  simp only [bf] at h
  obtain ⟨xs,e,h1,h2,h3,rfl⟩:=h
  exact aV.mpr ⟨p,xs,e,.inl (.inl (hk _ Od)),h3.mono sf ds⟩
 | .t ss,_,_,hk,h=>by
  simp only [bf] at h
  obtain ⟨a,xs,e,h1,h2⟩:=h
  exact aE.mpr ⟨a,xs,e,au sf h1,aB.rep sf ss hk h2⟩
 | .ls ss,_,_,hk,h=>by
  simp only [bf] at h
  obtain ⟨p,xs,fq,e,h1,h2,h3,rfl⟩:=h
  exact aV.mpr ⟨p,xs,e,.inl (.inl (hk _ Od)),aB.rep sf ss (fun a ha=>hk a (Oe _ ha)) h3⟩
theorem aB.rep (sf:aD Hf aj):∀ (ss:List Sh) {xs:List V} {fp:Fp},(∀ a∈fp,aj a.1=some (.lst a.2))→aB K H Hf ss xs fp→aq K aj (Sh.ds ss) xs
 | [],_,_,_,h=>by simp only [aB] at h; exact ay.mpr h.1
 | s::ss,_,_,hk,h=>by
  simp only [aB] at h
  obtain ⟨x,r,f1,f2,e,h1,h2,rfl⟩:=h
  exact aC.mpr ⟨x,r,e,bf.rep sf s (fun a ha=>hk a (Qy _ ha)) h1,aB.rep sf ss (fun a ha=>hk a (Pf _ ha)) h2⟩
end
noncomputable def j9 (H:Hp) (fp:Fp):Hp:=fun a=>if a∈fp.map (·.1) then none else H a
noncomputable def ie (g:Addr→List V→HO):Fp→Hp→Hp
 | [],H=>H
 | p::fp,H=>upd (ie g fp H) p.1 (g p.1 p.2)
noncomputable def BD:Addr→List V→HO:=fun _ xs=>.lst xs
theorem fj (h:a∉fp.map (·.1)):j9 H fp a=H a:=if_neg h
theorem kL (h:a∈fp.map (·.1)):j9 H fp a=none:=if_pos h
theorem aU:∀ {fp:Fp},a∉fp.map (·.1)→ie g fp H a=H a
 | [],_=>rfl
 | p::fp,h=>by
  rw [N5,Oh,not_or] at h
  show upd _ _ _ a=_
  rw [ak h.1,aU h.2]
theorem fH:∀ {fp:Fp},(fp.map (·.1)).Nodup→∀ a∈fp,ie g fp H a.1=some (g a.1 a.2)
 | p::fp,nd,a,ha=>by
  rw [N5,Po] at nd
  show upd _ _ _ a.1=_
  rcases Oh.mp ha with rfl | ha
  ·exact ai
  ·rw [ak fun e=>nd.1 (by rw [← e]; exact OF.mpr ⟨a,ha,rfl⟩)]
   exact fH nd.2 a ha
theorem cD {fp:Fp} (h:a∈fp.map (·.1)):∃ p∈fp,p.1=a:=OF.mp h
theorem BE (nd:(fp.map (·.1)).Nodup) (hz:∀ a∈fp,H a.1=some (pl a.1 a.2)∧Hf a.1=none) (g:bq (ie BD fp H) (ie BD fp Hf) H' aj):bq H Hf (ie pl fp H') (j9 aj fp):=by
 refine ⟨fun b o e=>?_,fun b o e=>?_,fun b o e=>?_,fun b h1 h2 h3=>?_⟩
 ·by_cases m:b∈fp.map (·.1)
  ·obtain ⟨p,hp,rfl⟩:=cD m
   rw [fH nd p hp,← (hz p hp).1]; exact e
  ·rw [aU m]; exact g.s b o (by rw [aU m]; exact e)
 ·have m:b∉fp.map (·.1):=fun m=>by obtain ⟨p,hp,rfl⟩:=cD m; rw [(hz p hp).2] at e; cases e
  rw [fj m]; exact g.f b o (by rw [aU m]; exact e)
 ·by_cases m:b∈fp.map (·.1)
  ·rw [kL m] at e; cases e
  ·rw [fj m] at e; rw [aU m]; exact g.b b o e
 ·by_cases m:b∈fp.map (·.1)
  ·exact kL m
  ·rw [fj m]; exact g.n b (by rw [aU m]; exact h1) (by rw [aU m]; exact h2) fun xs=>by rw [aU m]; exact h3 xs
end
section
theorem Gj:bg P w H h p (pl p xs)↔bg P w H h p (.lst xs):=by
 constructor
 ·exact fun q=>q.1
 ·rintro ⟨z,its,n,r,e⟩
  exact ⟨⟨z,its,n,r,e⟩,⟨_,e⟩,fun h1 h2 ⟨z,its,n,r,e⟩ k=>⟨z,its,n,r,k _ e⟩⟩
theorem uv (I:Inv X aa σ H s) (h:H a=some (.lst xs)):Inv X aa σ (upd H a (pl a xs)) s :=
 oY I h (by intro _ z; cases z) (by intro _ z; cases z) (by intro _ z; cases z) (fun o z e=>by have q:=I.base.frzs a o z e; rw [h] at q; cases q) (Gj.mpr (I.hok a _ h))
theorem BF (I:Inv X aa σ H s) (h:H a=some (pl a xs)):Inv X aa σ (upd H a (.lst xs)) s :=
 oY I h (by intro _ z; cases z) (by intro _ z; cases z) (by intro _ z; cases z) (fun o z e=>by have q:=I.base.frzs a o z e; rw [h] at q; cases q) (Gj.mp (I.hok a _ h))
theorem l8 (I:Inv X aa σ H s):∀ {fp:Fp},(fp.map (·.1)).Nodup→(∀ a∈fp,H a.1=some (pl a.1 a.2))→Inv X aa σ (ie BD fp H) s
 | [],_,_=>I
 | p::fp,nd,h=>by
  rw [N5,Po] at nd
  exact BF (l8 I nd.2 fun a ha=>h a (Oe _ ha)) (by rw [aU nd.1]; exact h p Od)
theorem rV (I:Inv X aa σ H s):∀ {fp:Fp},(fp.map (·.1)).Nodup→(∀ a∈fp,H a.1=some (.lst a.2))→Inv X aa σ (ie pl fp H) s
 | [],_,_=>I
 | p::fp,nd,h=>by
  rw [N5,Po] at nd
  exact uv (rV I nd.2 fun a ha=>h a (Oe _ ha)) (by rw [aU nd.1]; exact h p Od)
end
inductive J5:List Sl→Prop where
 | nil:J5 []
 | cons {r:Sl} {l:List Sl} (h:r.KL=false):J5 l→J5 (r::l)
inductive kc:List Sl→Nat→Sh→Prop where
 | z {s:Sh} {l:List Sl}:J5 l→kc (.fo s::l) 0 s
 | s {r:Sl} {l:List Sl} {i:Nat} {s:Sh} (h:r.KL=false):kc l i s→kc (r::l) (i+1) s
theorem J5.get (h:J5 l):∀ {j:Nat} {r:Sl},l[j]?=some r→r.KL=false:=by
 induction h with
 | nil=>intro j r e; simp at e
 | cons h _ ih =>
  intro j r e
  cases j with
  | zero=>simp at e; subst e; exact h
  | succ j=>exact ih (by simpa using e)
theorem kc.at_ {l:List Sl} {i:Nat} {s:Sh} (h:kc l i s):l[i]?=some (.fo s)∧∀ {j:Nat} {r:Sl},j≠i→l[j]?=some r→r.KL=false:=by
 induction h with
 | z h =>
  refine ⟨rfl,fun {j r} hj e=>?_⟩
  cases j with
  | zero=>exact absurd rfl hj
  | succ j=>exact h.get (by simpa using e)
 | s h _ ih =>
  refine ⟨by simpa using ih.1,fun {j r} hj e=>?_⟩
  cases j with
  | zero=>simp at e; subst e; exact h
  | succ j=>exact ih.2 (fun z=>hj (congrArg (· +1) z)) (by simpa using e)
section
variable {K:NZ}
theorem cZ.LB (S:cZ K H₀ dN σ H Hf ρ) (h:kc ρ i s) :
 ∃ fp:Fp,(fp.map (·.1)).Nodup∧(∀ a∈fp,H a.1=some (pl a.1 a.2)∧Hf a.1=none)∧cZ K H₀ dN σ (ie BD fp H) (ie BD fp Hf) (ρ.set i (.va s.d)):=by
 obtain ⟨hi,ho⟩:=h.at_
 obtain ⟨v,ev,fp,rf,nd,hfr⟩:=S.at_ i _ hi (by intro z; cases z)
 have hz:=bf.fz s rf
 have hlt:i<ρ.length:=(Ob.mp hi).1
 have none_in:∀ {b:Addr} {o:HO},Hf b=some o→b∉fp.map (·.1):=fun e m=>by obtain ⟨p,hp,rfl⟩:=cD m; rw [(hz p hp).2] at e; cases e
 have fr_in:∀ {b:Addr},b∈fp.map (·.1)→H₀ b=none:=fun m=>by obtain ⟨p,hp,rfl⟩:=cD m; exact hfr p hp
 have sf:aD Hf (ie BD fp Hf):=fun b o e=>by rw [aU (none_in e)]; exact e
 refine ⟨fp,nd,hz,⟨⟨fun b o e=>?_,S.bas.f.trans sf,fun b o e=>?_,fun b h1 h2 h3=>?_⟩,by simp [S.len],fun j r hj hu=>?_,fun j j' r r' q hne h1 h2 o1 o2=>?_⟩⟩
 ·rw [aU fun m=>by rw [fr_in m] at e; cases e]; exact S.bas.s b o e
 ·by_cases m:b∈fp.map (·.1)
  ·obtain ⟨p,hp,rfl⟩:=cD m
   rw [fH nd p hp] at e ⊢; exact e
  ·rw [aU m] at e ⊢; exact S.sb b o e
 ·rw [aU fun m=>h2 (fr_in m)]; exact S.bas.n b h1 h2 h3
 ·by_cases q:j=i
  ·subst q
   rw [O8 hlt] at hj
   cases hj
   exact ⟨v,ev,bf.rep sf s (fun a ha=>fH nd a ha) rf⟩
  ·rw [Pa (Oq q)] at hj
   obtain ⟨v,e1,e2⟩:=S.at_ j r hj hu
   refine ⟨v,e1,aX.mv (B:=fun a=>a∈fp.map (·.1)) sf (fun a o hm e1 _ e3=>⟨by rw [aU hm]; exact e1,by rw [aU hm]; exact e3⟩) (fun hf=>by rw [ho q hj] at hf; cases hf) (fun ow a e m=>?_) e2⟩
   subst e
   obtain ⟨_,_,e,_,_,_,nf⟩:=e2.qF ow
   cases e
   obtain ⟨p,hp,rfl⟩:=cD m
   exact nf ⟨p.2,(hz p hp).1⟩
 ·have out:∀ {j:Nat} {r:Sl},(ρ.set i (.va s.d))[j]?=some r→r.owned=true→ρ[j]?=some r:=fun {j r} hj ho=>by
   by_cases q:j=i
   ·subst q; rw [O8 hlt] at hj; cases hj; cases ho
   ·rw [Pa (Oq q)] at hj; exact hj
  exact S.sep j j' r r' q hne (out h1 o1) (out h2 o2) o1 o2
end
section
variable {K:NZ}
theorem IU (i) (h1:kc ρ i s) (hs:SSet ρ i (.va s.d) ρ') (h:jz c e ρ' T):jz c e ρ T:=fun σ H Hf Q S q aa s' I=>by
 obtain ⟨fp,nd,hz,S1⟩:=S.LB h1
 rw [← hs.eq] at S1
 refine bC (h σ _ _ (fun b H'=>∃ aj,T b∧bq (ie BD fp H) (ie BD fp Hf) H' aj) S1 (fun b H' aj rd g=>⟨aj,rd,g⟩) aa s' (l8 I nd fun a ha=>(hz a ha).1)) fun b s1 ⟨H1,I1,aN,rd,g⟩=>?_
 have hL:∀ a∈fp,H1 a.1=some (.lst a.2):=fun a ha=>g.s _ _ (fH nd a ha)
 exact ⟨_,rV I1 nd hL,q b _ (j9 aN fp) rd (BE nd hz g)⟩
theorem E1 {R:Sl→Prop} (h:dz c e ρ fun r=>∃ ds,r=.ow ds∧R (.fo (.l ds))):dz c e ρ R:=fun σ H Hf Q S q aa s I=>by
 refine bC (h σ H Hf (fun v H'=>∃ ds aj,aX c.X.K (fun p=>H p=none) H' aj (.ow ds) v∧bq H Hf H' aj∧R (.fo (.l ds))) S (fun r v H' aj ⟨ds,e,hR⟩ rs g=>⟨ds,aj,by rw [← e]; exact rs,g,hR⟩) aa s I) fun u s1 hh=>z2 hh fun v H1 hh=>w3 hh fun I1 rv hh=>z2 hh fun ds aN hh=>w3 hh fun hh g hR=>z2 hh fun a xs hh=>w5 hh fun ev fa h1 h2 h3=>?_
 subst ev
 exact ⟨_,_,uv I1 h1,rv,q (.fo (.l ds)) _ _ aN hR ⟨[(a,xs)],by simp only [bf]; exact ⟨a,xs,rfl,ai,h2,h3,rfl⟩,by simp,fun b hb=>by obtain rfl:=Oi.mp hb; exact fa⟩ (oW g fa h2)⟩
noncomputable def Sl.sh:Sl→Option Sh | .va d=>some (.v d) | .fo s=>some s | _=>none
theorem IV {H H' aj:Hp} (e:r.sh=some s) (h:aX K (fun p=>H p=none) H' aj r v):∃ fp,bf K H' aj s v fp∧(fp.map (·.1)).Nodup∧∀ a∈fp,H a.1=none:=by
 cases r with
 | va d=>cases e; exact ⟨[],by simp only [bf]; exact ⟨h,trivial⟩,by simp,by intro a ha; cases ha⟩
 | fo s=>cases e; exact h
 | _=>cases e
noncomputable def E2 (c:Ctx P w K mg base k N sc bk) (es:List Expr) (ρ:List Sl) (R:List Sh→Prop):Prop :=
 ∀ (σ:L2.St) (H Hf:Hp) (Q:List V→Hp→Prop),bw c σ H Hf ρ→(∀ ss vs fp H' aj,R ss→aB c.X.K H' aj ss vs fp→(fp.map (·.1)).Nodup→(∀ a∈fp,H a.1=none)→bq H Hf H' aj→Q vs H')→bA c.X es σ H Q
theorem LC {R:List Sh→Prop} (h:R []):E2 c [] ρ R:=fun σ H Hf Q S q=>nF dD (q [] [] [] H Hf h (by simp [aB]) List.nodup_nil (by intro a ha; cases ha) (.refl S.sb))
theorem pH {R:List Sh→Prop} (h:dz c e ρ fun r=>∃ s,r.sh=some s∧E2 c es ρ fun ss=>R (s::ss)) (hs:∀ env,starEach (e::es) env=(false,eval e env)::starEach es env:=by intro _; walk_at "u"):E2 c (e::es) ρ R:=fun σ H Hf Q S q =>
 nF (bM cW DQ (hs _)) (h σ H Hf _ S fun r v H1 aN ⟨s,es,h1⟩ rs g1=>by
  obtain ⟨f1,r1,n1,fr1⟩:=IV es rs
  have z1:=bf.fz s r1
  refine h1 σ H1 aN _ (S.cB g1) fun ss vs fp H2 cJ h2 r2 n2 fr2 g2=>q (s::ss) (v::vs) (f1++fp) H2 cJ h2 ?_ ?_ ?_ (g1.trans g2)
  ·simp only [aB]
   refine ⟨v,vs,f1,fp,rfl,bf.mv g2.f s (fun a _ e1 e2=>⟨g2.s _ _ e1,g2.n a.1 e2 (by rw [e1]; simp) (by intro ys z; rw [e1] at z; cases z)⟩) r1,r2,rfl⟩
  ·rw [ON,Su]
   refine ⟨n1,n2,fun a ha b hb e=>?_⟩
   subst e
   obtain ⟨p,hp,rfl⟩:=cD ha
   obtain ⟨p',hp',e'⟩:=cD hb
   have:=(z1 p hp).1
   rw [← e',fr2 p' hp'] at this; cases this
  ·intro a ha
   rcases Oz.mp ha with ha | ha
   ·exact fr1 a ha
   ·exact g1.s.free (fr2 a ha))
theorem aB.len:∀ {ss:List Sh} {xs:List V} {fp:Fp},aB K H Hf ss xs fp→ss.length=xs.length
 | [],_,_,h=>by simp only [aB] at h; rw [h.1]; rfl
 | s::ss,_,_,h=>by
  simp only [aB] at h
  obtain ⟨x,r,f1,f2,rfl,_,h2,_⟩:=h
  rw [OE,OE,aB.len h2]
theorem IW {R:Sl→Prop} (h:E2 c es ρ fun ss=>Sd (ss.length≤sizeLine) (R (.fo (.t ss)))):dz c (.Tuple es j pos) ρ R:=fun σ H Hf Q S q =>
 bH (zB DQ) (h σ H Hf _ S fun ss vs fp H' aj ⟨hl,hR⟩ r nd fr g=>⟨by rw [← aB.len r]; exact hl,fun p hp=>by
  have g2:=bq.new g.b hp (o:=.tup vs)
  have hz:=aB.fz ss r
  refine q _ _ _ _ hR ⟨fp,?_,nd,fr⟩ (g.trans g2)
  simp only [bf]
  exact ⟨p,vs,rfl,.inl (.inl ai),aB.mv g2.f ss (fun a _ e1 e2=>⟨g2.s _ _ e1,g2.n a.1 e2 (by rw [e1]; simp) (by intro ys z; rw [e1] at z; cases z)⟩) r⟩⟩)
end
noncomputable def J6 (K:NZ) (ok:Sh→Prop):Sp:=fun vs H Q _=>∃ Hf s v fp,vs=[v]∧aD Hf H∧bf K H Hf s v fp∧(fp.map (·.1)).Nodup∧ok s∧∀ H' aj,bq (j9 H fp) Hf H' aj→Q .non H'
structure E3 (P:Program) (w:World) (K:NZ) (mg:Str→Option Value) (base:Heap) (k:Nat) (x:Str) (ok:Sh→Prop):Prop where
 ex:∃ f fd ps,mg x=some (.ref f)∧PN K (.ref f)=true∧Binds K fd ps []∧bz P w K mg base (dR P w) k f fd ps (J6 K ok)
theorem pI:aD (j9 H fp) H:=fun b o e=>by
 by_cases m:b∈fp.map (·.1)
 ·rw [kL m] at e; cases e
 ·rw [fj m] at e; exact e
theorem BG (sb:aD Hf H):bq (j9 H fp) Hf H Hf:=⟨pI,.refl _,sb,fun _ h _ _=>h⟩
theorem yx {K:NZ} (r:bf K H Hf s v fp) (nd:(fp.map (·.1)).Nodup) (sb:aD Hf H) (hN:1≤N.length) :
 cZ K (j9 H fp) Hf (L2.start N [v]) H Hf (.fo s::Of (N.length - 1) .un):=by
 have rest:∀ (i:Nat) (r':Sl),(Sl.fo s::Of (N.length - 1) Sl.un)[i]?=some r'→r'≠.un→i=0∧r'=.fo s:=fun i r' h hu=>by
  cases i with
  | zero=>exact ⟨rfl,by simpa using h.symm⟩
  | succ i=>exact absurd (R3 (O9 (by simpa using h))) hu
 refine ⟨BG sb,by simp [L2.start],fun i r' h hu=>?_,fun i j r1 r2 p hne e1 e2 o1 o2=>?_⟩
 ·obtain ⟨rfl,rfl⟩:=rest i r' h hu
  exact ⟨v,by simp [L2.start],fp,r,nd,fun a ha=>kL (OF.mpr ⟨a,ha,rfl⟩)⟩
 ·obtain ⟨_,rfl⟩:=rest i r1 e1 (by rintro rfl; cases o1)
  cases o1
section
variable {K:NZ} {c:Ctx P w K mg base k N sc bk}
theorem Nl {st:Stmt} (Fu:fS K x qual st f fd) (Sc:aI N ps (ah st)) (Vi:∀ x∈N,Loc (ah st) x) (h1:ps.length=1) (hN:1≤N.length)
 (body:∀ (c:Ctx P w K mg base k N (ah st) false),c.X.xe=(fun _ _=>False)→∀ s,ok s→aS c (aA st) (.fo s::Of (N.length - 1) .un) (fun _=>True) { rt:=fun _=>False }) :
 bz P w K mg base (dR P w) (k+1) f fd ps (J6 K ok):=by
 obtain ⟨oc,od,kV,doc,pm,an,cdv,ct,osl,rfl,lk,hcd⟩:=Fu.ex
 refine zC lk hcd Sc (fun vs H Q E ⟨Hf,s,v,fp,e,_⟩=>by rw [e,h1]; rfl) fun A outer st' H vs Q E hr hh=>z4 hh fun Hf s v fp hh=>w6 hh fun e sb rf nd hok hq=>?_
 subst e
 let X:Cx:=(qh (dR P w) P w K mg base N qual (ah st) f cdv A outer st' H E).FQ
 let c:Ctx P w K mg base k N (ah st) false :=
  { X:=X,eP:=rfl,ew:=rfl,eK:=rfl,emg:=rfl,eb:=rfl,eN:=rfl,esc:=rfl,calm:=rfl,top:=fun _=>⟨rfl,rfl,rfl⟩,cb:=fun _ _ _ _ _ I x c h=>I.ok.cab x c rfl h,fn:=fun _ _=>.inl rfl,B:=j9 H fp,room:=hr,nd:=Sc.nd,vis:=Vi,Hf:=Hf,RX:=fun _ _=>False,
    exc:=fun _ _ _ _ _ _ _ _ _ _ _ _ h _ _=>h.elim,RM:=fun _ _=>False,mde:=fun _ _ _ _ _ _ _ _ _ _ _ _ h _=>h.elim }
 refine ⟨_,sW.FQ (t:=HD X (aA st)) (qw (X:=X)),?_⟩
 exact body c rfl s hok (L2.start N [v]) H Hf _ (yx rf nd sb hN) ⟨fun σ H' aj ρ S _=>hq H' aj S.bas,fun r v H' aj g rv e=>e.elim,fun _ _ _ _ _ h=>h.elim,fun _ _ _ _ _ h=>h.elim⟩
theorem bQ {α:Type} {l:List α} {a b:α} (h:(l.set i a)[j]?=some b):(j=i∧b=a)∨(j≠i∧l[j]?=some b):=by
 by_cases e:j=i
 ·subst e
  have hl:j<l.length:=by have:=(Ob.mp h).1; simpa using this
  rw [O8 hl] at h
  exact .inl ⟨rfl,(Py h).symm⟩
 ·rw [Pa (Oq e)] at h
  exact .inr ⟨e,h⟩
theorem cZ.gone (S:cZ K H₀ dN σ H Hf ρ) (h:kc ρ i s) (ev:σ[i]?=some (some v)) (rf:bf K H Hf s v fp) (fr:∀ a∈fp,H₀ a.1=none) (g:bq (j9 H fp) Hf H1 aN):cZ K H₀ dN σ H1 aN (ρ.set i .un):=by
 obtain ⟨hi,ho⟩:=h.at_
 have hz:=bf.fz s rf
 have fr_in:∀ {b:Addr},b∈fp.map (·.1)→H₀ b=none:=fun m=>by obtain ⟨p,hp,rfl⟩:=cD m; exact fr p hp
 have s0:aD H₀ (j9 H fp):=fun b o e=>by rw [fj fun m=>by rw [fr_in m] at e; cases e]; exact S.bas.s b o e
 refine ⟨⟨s0.trans g.s,S.bas.f.trans g.f,g.b,fun b h1 h2 h3=>?_⟩,by simp [S.len],fun j r hj hu=>?_,fun j j' r r' q hne h1 h2 o1 o2=>?_⟩
 ·cases z:H₀ b with
  | none=>exact absurd z h2
  | some o1 =>
   have e1:=s0 b o1 z
   exact g.n b (S.bas.n b h1 h2 h3) (by rw [e1]; simp) fun xs=>by rw [e1,← z]; exact h3 xs
 ·rcases bQ hj with ⟨_,rfl⟩ | ⟨q,hj⟩
  ·exact absurd rfl hu
  ·obtain ⟨v,e1,e2⟩:=S.at_ j r hj hu
   have e3:aX K (fun p=>H₀ p=none) (j9 H fp) Hf r v:=aX.mv (B:=fun a=>a∈fp.map (·.1)) (.refl _) (fun a o hm e1 _ e3=>⟨by rw [fj hm]; exact e1,e3⟩) (fun hf=>by rw [ho q hj] at hf; cases hf) (fun ow a e m=>by
    subst e
    obtain ⟨_,_,e,_,_,_,nf⟩:=e2.qF ow
    cases e
    obtain ⟨p,hp,rfl⟩:=cD m
    exact nf ⟨p.2,(hz p hp).1⟩) e2
   exact ⟨v,e1,e3.cB g⟩
 ·have out:∀ {j:Nat} {r:Sl},(ρ.set i .un)[j]?=some r→r.owned=true→ρ[j]?=some r:=fun {j r} hj ho=>by
   rcases bQ hj with ⟨_,rfl⟩ | ⟨_,hj⟩
   ·cases ho
   ·exact hj
  exact S.sep j j' r r' q hne (out h1 o1) (out h2 o2) o1 o2
theorem E4 (h:E3 P w K mg base j x ok) (hj:j≤k) (hN:At N i y) (h1:kc ρ i s) (hok:ok s) (hn:Nx ρ i nx .un)
 (hg:sc.names.lookup x=some .globalImplicit:=by walk_at "u") (hdb:(x == ("__debug__":Str))=false:=by decide) (hd:(y == ("__debug__":Str))=false:=by decide) (hcd:(y == ("__classdict__":Str))=false:=by decide)
 (he:∀ env,starEach [.Name y py] env=(false,eval (.Name y py) env)::starEach [] env:=by intro _; walk_at "u")
 (hpl:∀ env,(backTo cp (starEach [] env)).any (·.1)=false:=by intro _; walk_at "u")
 (hs:∀ env,swapsWith (.Call (.Name x px) [.Name y py] [] cp) none pos.line env=pure false:=by intro _; walk_at "u"):eS c (.Expr (.Call (.Name x px) [.Name y py] [] cp) pos) ρ nx p:=fun σ H Hf D S o=>by
 obtain ⟨v,ev,fp,rf,nd,hfr⟩:=S.at_ i _ h1.at_.1 (by intro z; cases z)
 obtain ⟨ρ',hs',hn⟩:=hn
 refine dS (ku cW (hs _)) (show bE c.X _ σ H (fun _ H'=>D.nx σ H') from fun aa s' I=>?_)
 obtain ⟨f,fd,ps,hm,hk,hb,hF⟩:=h.ex
 refine PJ (iR I (by unfold Gl OQ; rw [c.esc]; exact hg) (by rw [c.emg]; exact hm) ?_ hdb)
 have hA:bA c.X [.Name y py] σ H (fun vs H1=>vs=[v]∧H1=H):=nF (bM (c.lu hN hd hcd) dD (he _)) ⟨_,ev,rfl,rfl⟩
 refine Sj (h₀:=c.X.base) I.ok.mod.kin (by rw [c.eK]; exact hk) (bC (hA cp aa s' I) fun us s1 ⟨vs,H1,I1,rv,e1,e2⟩=>⟨I1.oA,?_⟩) (he _) (hpl _)
 subst e1 e2
 have hF2:bz c.X.prog c.X.w c.X.K c.X.mg c.X.base (dR c.X.prog c.X.w) k f fd ps (J6 c.X.K ok):=by rw [c.eP,c.ew,c.eK,c.emg,c.eb]; exact hF.mono hj
 have qa:J6 c.X.K ok [v] H1 (fun _ H'=>D.nx σ H') (fun _ _ _=>False):=by
  refine ⟨Hf,s,v,fp,rfl,S.sb,rf,nd,hok,fun H' aj g=>?_⟩
  refine o.nx σ H' aj ρ' ?_ hn
  rw [hs'.eq]
  exact S.gone h1 ev rf hfr g
 have hl:us.length=ps.length:=by rw [← rv.length]; exact hF2.len _ _ _ _ qa
 have hb':Binds c.X.K fd ps []:=by rw [c.eK]; exact hb
 have hb2:=hb' s1 us I1.oA (by simpa using hl)
 rw [O5] at hb2
 refine Ra (Q7 (hF2.run c.X.A c.X.stack s1 H1 ⟨us,[]⟩ us _ _ _ c.room I1.Dz hb2 rv qa) fun r' s' hq=>?_)
 cases r' with
 | error e =>
  obtain ⟨a,C,H',rfl,hE,h⟩:=hq
  exact h.elim
 | ok fl =>
  cases fl with
  | ret u=>exact I1.after hq
  | next=>exact OZ hq
  | brk=>exact OZ hq
  | cont=>exact OZ hq
noncomputable def Sh.raw:Sh→Option D | .v d=>some d | .la a _=>some (.adr a) | _=>none
noncomputable def yy:List Sh→Option (List D)
 | []=>some []
 | s::ss=>match s.raw,yy ss with | some d,some ds=>some (d::ds) | _,_=>none
theorem bf.raw (e:s.raw=some d) (h:bf K H Hf s v fp):Rep K Hf d v:=by
 cases s with
 | v d'=>cases e; simp only [bf] at h; exact h.1
 | la a ds=>cases e; simp only [bf] at h; obtain ⟨xs,e,_⟩:=h; exact eV.mpr e
 | _=>cases e
theorem aB.raw:∀ {ss:List Sh} {vs:List V} {fp:Fp} {ds:List D},yy ss=some ds→aB K H Hf ss vs fp→aq K Hf ds vs
 | [],_,_,_,e,h=>by cases e; simp only [aB] at h; exact ay.mpr h.1
 | s::ss,_,_,_,e,h=>by
  simp only [aB] at h
  obtain ⟨x,r,f1,f2,rfl,h1,h2,_⟩:=h
  unfold yy at e
  split at e
  ·rename_i d ds q1 q2
   cases e
   exact .cons (h1.raw q1) (aB.raw q2 h2)
  ·cases e
theorem IX (hN:At N i y) (hi:At ρ i (.fo (.t ss))) (hr:yy ss=some ds) (hR:R (.tup ds)) (hd:(y == ("__debug__":Str))=false:=by decide) (hcd:(y == ("__classdict__":Str))=false:=by decide):aF c (.Name y py) ρ R:=fun σ H Hf Q S q=>by
 obtain ⟨v,ev,fp,rf,nd,hfr⟩:=S.at_ i _ hi.get (by intro z; cases z)
 refine bH (c.lu hN hd hcd) ⟨v,ev,q (.tup ds) v H Hf hR ?_ (.refl S.sb)⟩
 simp only [bf] at rf
 obtain ⟨a,xs,e,h1,h2⟩:=rf
 exact aE.mpr ⟨a,xs,e,h1,aB.raw hr h2⟩
end
section
variable {K:NZ}
noncomputable def l9 (L:List (Addr×List D)):List Sh:=L.map fun x=>.la x.1 x.2
theorem wI (q1:H q=some (pl q xs)) (q2:Hf q=none) (q3:aq K Hf ds xs):bf K H Hf (.la q ds) (.ref q) [(q,xs)]:=by
 simp only [bf]
 exact ⟨xs,trivial,q1,q2,q3,rfl⟩
theorem aB.tag:∀ {dss:List (List D)} {vs:List V} {fp:Fp},aB K H Hf (dss.map .l) vs fp→∃ L:List (Addr×List D),L.map (·.2)=dss∧aB K H Hf (l9 L) vs fp
 | [],_,_,h=>⟨[],rfl,h⟩
 | ds::dss,_,_,h=>by
  simp only [N5,aB] at h
  obtain ⟨x,r,f1,f2,rfl,h1,h2,rfl⟩:=h
  obtain ⟨L,e,h3⟩:=aB.tag h2
  simp only [bf] at h1
  obtain ⟨p,xs,rfl,q1,q2,q3,rfl⟩:=h1
  refine ⟨(p,ds)::L,by rw [N5,e],?_⟩
  show aB K H Hf (.la p ds::l9 L) _ _
  simp only [aB]
  exact ⟨_,r,_,f2,rfl,wI q1 q2 q3,h3,rfl⟩
theorem cZ.Nm (S:cZ K H₀ dN σ H Hf ρ) (h:ρ[i]?=some (.fo (.t (dss.map .l)))):∃ L:List (Addr×List D),L.map (·.2)=dss∧cZ K H₀ dN σ H Hf (ρ.set i (.fo (.t (l9 L)))):=by
 obtain ⟨v,ev,fp,rf,nd,hfr⟩:=S.at_ i _ h (by intro z; cases z)
 simp only [bf] at rf
 obtain ⟨a,xs,e,h1,h2⟩:=rf
 obtain ⟨L,eL,h3⟩:=aB.tag h2
 refine ⟨L,eL,S.bas,by simp [S.len],fun j r hj hu=>?_,fun j j' r r' q hne h1 h2 o1 o2=>?_⟩
 ·rcases bQ hj with ⟨rfl,rfl⟩ | ⟨_,hj⟩
  ·exact ⟨v,ev,fp,by simp only [bf]; exact ⟨a,xs,e,h1,h3⟩,nd,hfr⟩
  ·exact S.at_ j r hj hu
 ·have out:∀ {j:Nat} {r:Sl},(ρ.set i (.fo (.t (l9 L))))[j]?=some r→r.owned=true→ρ[j]?=some r:=fun {j r} hj ho=>by
   rcases bQ hj with ⟨_,rfl⟩ | ⟨_,hj⟩
   ·cases ho
   ·exact hj
  exact S.sep j j' r r' q hne (out h1 o1) (out h2 o2) o1 o2
theorem aB.Gk:∀ {pre post:List Sh} {vs:List V} {fp:Fp},aB K H Hf (pre++.la q ds::post) vs fp →
 ∃ (xs:List V) (f1 f2:Fp),fp=f1++(q,xs)::f2∧H q=some (pl q xs)∧Hf q=none∧aq K Hf ds xs∧aB K H Hf (pre++.v (.adr q)::post) vs (f1++f2)
 | [],post,_,_,h=>by
  simp only [Qg,aB] at h
  obtain ⟨x,r,f1,f2,rfl,h1,h2,rfl⟩:=h
  simp only [bf] at h1
  obtain ⟨xs,rfl,q1,q2,q3,rfl⟩:=h1
  refine ⟨xs,[],f2,rfl,q1,q2,q3,?_⟩
  simp only [Qg,aB]
  exact ⟨_,r,[],f2,rfl,by simp only [bf]; exact ⟨eV.mpr rfl,trivial⟩,h2,rfl⟩
 | s::pre,post,_,_,h=>by
  simp only [PK,aB] at h
  obtain ⟨x,r,f1,f2,rfl,h1,h2,rfl⟩:=h
  obtain ⟨xs,g1,g2,rfl,q1,q2,q3,q4⟩:=aB.Gk h2
  refine ⟨xs,f1++g1,g2,by rw [Ov],q1,q2,q3,?_⟩
  simp only [PK,aB]
  exact ⟨x,r,f1,g1++g2,rfl,h1,q4,by rw [Ov]⟩
theorem aB.Gm (q1:H q=some (pl q xs)) (q2:Hf q=none) (q3:aq K Hf ds xs):∀ {pre post:List Sh} {vs:List V} {fp:Fp},aB K H Hf (pre++.v (.adr q)::post) vs fp →
 ∃ (f1 f2:Fp),fp=f1++f2∧aB K H Hf (pre++.la q ds::post) vs (f1++(q,xs)::f2)
 | [],post,_,_,h=>by
  simp only [Qg,aB] at h
  obtain ⟨x,r,f1,f2,rfl,h1,h2,rfl⟩:=h
  simp only [bf] at h1
  obtain ⟨h1,rfl⟩:=h1
  rw [eV] at h1
  subst h1
  refine ⟨[],f2,rfl,?_⟩
  simp only [Qg,aB]
  exact ⟨_,r,[(q,xs)],f2,rfl,wI q1 q2 q3,h2,rfl⟩
 | s::pre,post,_,_,h=>by
  simp only [PK,aB] at h
  obtain ⟨x,r,f1,f2,rfl,h1,h2,rfl⟩:=h
  obtain ⟨g1,g2,rfl,q4⟩:=aB.Gm q1 q2 q3 h2
  refine ⟨f1++g1,g2,by rw [Ov],?_⟩
  simp only [PK,aB]
  exact ⟨x,r,f1,g1++(q,xs)::g2,rfl,h1,q4,by rw [Ov]⟩
theorem cZ.Gn (S:cZ K H₀ dN σ H Hf ρ) (h1:kc ρ i s) (hk:k<ρ.length) (hik:k≠i) (fq:H₀ q=none) (sY:Hf q=none) (hq:∀ (j:Nat) (r:Sl),j≠i→j≠k→ρ[j]?=some r→r.owned=true→σ[j]?≠some (some (.ref q)))
 (v1:r1≠.un→∃ v,σ[i]?=some (some v)∧aX K (fun p=>H₀ p=none) (L2.upd H q o) Hf r1 v) (v2:r2≠.un→∃ v,σ[k]?=some (some v)∧aX K (fun p=>H₀ p=none) (L2.upd H q o) Hf r2 v) (n1:r1.owned=false) (n2:r2.owned=true→σ[k]?=some (some (.ref q))) :
 cZ K H₀ dN σ (L2.upd H q o) Hf ((ρ.set i r1).set k r2):=by
 obtain ⟨hi,ho⟩:=h1.at_
 have get:∀ {j:Nat} {r:Sl},((ρ.set i r1).set k r2)[j]?=some r→(j=k∧r=r2)∨(j≠k∧j=i∧r=r1)∨(j≠k∧j≠i∧ρ[j]?=some r):=fun {j r} h=>by
  rcases bQ h with ⟨a,b⟩ | ⟨a,h⟩
  ·exact .inl ⟨a,b⟩
  ·rcases bQ h with ⟨b,c⟩ | ⟨b,h⟩
   ·exact .inr (.inl ⟨a,b,c⟩)
   ·exact .inr (.inr ⟨a,b,h⟩)
 refine ⟨⟨fun b u e=>by rw [L2.ak (az e fq)]; exact S.bas.s b u e,S.bas.f,fun b u e=>by rw [L2.ak (az e sY)]; exact S.bas.b b u e,S.bas.n⟩,by simp [S.len],fun j r hj hu=>?_,fun j j' r r' p hne e1 e2 o1 o2=>?_⟩
 ·rcases get hj with ⟨rfl,rfl⟩ | ⟨_,rfl,rfl⟩ | ⟨a,b,hj⟩
  ·exact v2 hu
  ·exact v1 hu
  ·obtain ⟨v,e1,e2⟩:=S.at_ j r hj hu
   exact ⟨v,e1,aX.mv (B:=fun z=>z=q) (.refl _) (fun z u hz e1 _ e3=>⟨by rw [L2.ak hz]; exact e1,e3⟩) (fun hf=>by rw [ho b hj] at hf; cases hf) (fun ow z ez e=>by subst e; subst ez; exact hq j r b a hj ow e1) e2⟩
 ·rcases get e1 with ⟨rfl,rfl⟩ | ⟨_,rfl,rfl⟩ | ⟨a,b,f1⟩
  ·intro s1 s2
   rw [n2 o1] at s1; cases s1
   rcases get e2 with ⟨rfl,rfl⟩ | ⟨_,rfl,rfl⟩ | ⟨a2,b2,f2⟩
   ·exact hne rfl
   ·rw [n1] at o2; cases o2
   ·exact hq j' r' b2 a2 f2 o2 s2
  ·rw [n1] at o1; cases o1
  ·rcases get e2 with ⟨rfl,rfl⟩ | ⟨_,rfl,rfl⟩ | ⟨a2,b2,f2⟩
   ·intro s1 s2
    rw [n2 o2] at s2; cases s2
    exact hq j r b a f1 o1 s1
   ·rw [n1] at o2; cases o2
   ·exact S.sep j j' r r' p hne f1 f2 o1 o2
end
section
variable {K:NZ} {st:Stmt}
theorem IY (i) (hi:At ρ i (.fo (.t (dss.map .l)))) (h:∀ L:List (Addr×List D),L.map (·.2)=dss→eS c st (ρ.set i (.fo (.t (l9 L)))) nx p):eS c st ρ nx p:=fun σ H Hf D S o=>by
 obtain ⟨L,e,S1⟩:=S.Nm hi.get
 exact h L e σ H Hf D S1 o
theorem BH (i j) (h1:kc ρ i (.t (pre++.la q ds::post))) (hj:At ρ j (.va (.adr q))) (h:aS c sts ((ρ.set i (.fo (.t (pre++.v (.adr q)::post)))).set j (.aw q ds)) nx p) (hij:j≠i):aS c sts ρ nx p:=fun σ H Hf D S o aa s I=>by
 obtain ⟨v,ev,fp,rf,nd,hfr⟩:=S.at_ i _ h1.at_.1 (by intro z; cases z)
 obtain ⟨vj,evj,rj⟩:=S.va hj.get
 rw [eV] at rj
 subst rj
 simp only [bf] at rf
 obtain ⟨a,vs,e,t1,t2⟩:=rf
 obtain ⟨xs,f1,f2,rfl,q1,q2,q3,q4⟩:=aB.Gk t2
 have fq:c.B q=none:=hfr (q,xs) (by simp)
 have nq:q∉(f1++f2).map (·.1):=fun m=>by
  rw [ON,N5,Su,Po] at nd
  rw [ON,Oz] at m
  rcases m with m | m
  ·exact nd.2.2 q m q Od rfl
  ·exact nd.2.1.1 m
 have I1:=BF I q1
 refine h σ _ Hf D (S.Gn h1 (Ob.mp hj.get).1 hij fq q2 (fun j' r a b hj' ow e=>?_) (fun _=>⟨v,ev,f1++f2,?_,?_,?_⟩) (fun _=>⟨_,evj,q,xs,rfl,⟨fq,rfl⟩,ai,q2,q3⟩) rfl fun _=>evj) o aa s I1
 ·obtain ⟨v',e',r'⟩:=S.at_ j' r hj' (by rintro rfl; cases ow)
  rw [e] at e'; cases e'
  obtain ⟨_,_,e2,_,_,_,nf⟩:=r'.qF ow
  cases e2
  exact nf ⟨xs,q1⟩
 ·simp only [bf]
  exact ⟨a,vs,e,t1,aB.mv (.refl _) _ (fun z hz e1 e2=>⟨by rw [ak fun e=>nq (by rw [← e]; exact OF.mpr ⟨z,hz,rfl⟩)]; exact e1,e2⟩) q4⟩
 ·rw [ON] at nd ⊢
  exact nd.sublist (List.Sublist.append (List.Sublist.refl _) (by rw [N5]; exact List.sublist_cons_self _ _))
 ·intro z hz
  exact hfr z (by rcases Oz.mp hz with h | h; exact Qy _ h; exact Pf _ (Oe _ h))
theorem BI (i j) (h1:kc ρ i (.t (pre++.v (.adr q)::post))) (hj:At ρ j (.aw q ds)) (h:aS c sts ((ρ.set i (.fo (.t (pre++.la q ds::post)))).set j .un) nx p) (hij:j≠i):aS c sts ρ nx p:=fun σ H Hf D S o aa s I=>by
 obtain ⟨v,ev,fp,rf,nd,hfr⟩:=S.at_ i _ h1.at_.1 (by intro z; cases z)
 obtain ⟨vj,evj,rj⟩:=S.at_ j _ hj.get (by intro z; cases z)
 obtain ⟨q',xs,rfl,⟨fq,rfl⟩,q1,q2,q3⟩:=rj
 have hz:=bf.fz _ rf
 simp only [bf] at rf
 obtain ⟨a,vs,e,t1,t2⟩:=rf
 have nq:q'∉fp.map (·.1):=fun m=>by
  obtain ⟨z,hm,rfl⟩:=cD m
  have:=(hz z hm).1
  rw [q1] at this; cases this
 have t3:=aB.mv (H':=upd H q' (pl q' xs)) (.refl _) _ (fun z hz e1 e2=>⟨by rw [ak fun e=>nq (by rw [← e]; exact OF.mpr ⟨z,hz,rfl⟩)]; exact e1,e2⟩) t2
 obtain ⟨f1,f2,rfl,t4⟩:=aB.Gm ai q2 q3 t3
 have I1:=uv I q1
 refine h σ _ Hf D (S.Gn h1 (Ob.mp hj.get).1 hij fq q2 (fun j' r a b hj' ow e=>?_) (fun _=>⟨v,ev,f1++(q',xs)::f2,?_,?_,?_⟩) (fun z=>absurd rfl z) rfl fun z=>by cases z) o aa s I1
 ·exact S.sep j' j r _ q' b hj' hj.get ow rfl e evj
 ·simp only [bf]
  exact ⟨a,vs,e,t1,t4⟩
 ·rw [ON,N5]
  rw [ON] at nd nq
  rw [Su] at nd ⊢
  rw [Oz,not_or] at nq
  refine ⟨nd.1,Po.mpr ⟨nq.2,nd.2.1⟩,fun a ha b hb e=>?_⟩
  rcases Oh.mp hb with rfl | hb
  ·subst e; exact nq.1 ha
  ·exact nd.2.2 a ha b hb e
 ·intro z hz
  rcases Oz.mp hz with h | h
  ·exact hfr z (Qy _ h)
  ·rcases Oh.mp h with rfl | h
   ·exact fq
   ·exact hfr z (Pf _ h)
end
end EV
namespace EV
open PySem PySem.Spec PyProof.Rows L2
noncomputable def yz (t:aG):aG:=(t.1,-t.2)
theorem E5 (h:trim m=m) (hn:m≠[]):bR m (m.length - 1)≠0:=by
 rcases List.eq_nil_or_concat m with rfl | ⟨l,x,rfl⟩
 ·exact absurd rfl hn
 ·rw [List.concat_eq_append] at h ⊢
  intro z
  have e:bR (l++[x]) ((l++[x]).length - 1)=x:=by
   rw [dH (by simp)]; simp
  rw [e] at z; subst z
  rw [gT] at h
  have:=gr l
  rw [h,OL,Sa] at this
  lia
theorem yC (hl:trim l=l) (hm:trim m=m) (h:∀ i,bR l i=bR m i):l=m:=by
 have key:∀ {l m:List Int},trim m=m→(∀ i,bR l i=bR m i)→m.length≤l.length:=fun {l m} hm h=>by
  rcases Nat.lt_or_ge l.length m.length with z | z
  ·have hn:m≠[]:=by rintro rfl; simp at z
   have:=E5 hm hn
   rw [← h,cQ (by lia)] at this
   exact absurd rfl this
  ·exact z
 have e:l.length=m.length:=Nat.le_antisymm (key hl fun i=>(h i).symm) (key hm h)
 refine Sz e fun i h1 h2=>?_
 have:=h i
 rwa [dH h1,dH h2] at this
theorem gx (h:∀ i,bR p i=bR q i):trim p=trim q:=yC (cA p) (cA q) fun i=>by rw [dZ,dZ,h]
theorem yD (a b):trim (cC (trim a) (trim b))=trim (cC a b):=gx fun i=>by rw [bY,bY,dZ,dZ]
theorem uw (a b):trim (cC (trim a) b)=trim (cC a b):=gx fun i=>by rw [bY,bY,dZ]
theorem uz (a b):trim (cC a (trim b))=trim (cC a b):=gx fun i=>by rw [bY,bY,dZ]
theorem yE (a b):cC a b=cC b a:=by
 unfold cC; rw [Nat.max_comm]; exact P1 fun k _=>SY _ _
theorem mh (a):trim (cC [] a)=trim a:=gx fun i=>by rw [bY,cQ (OH _),RI]
theorem uA (a b c):trim (cC (cC a b) c)=trim (cC a (cC b c)):=gx fun i=>by
 rw [bY,bY,bY,bY,Int.add_assoc]
noncomputable def ev (g:List Int→Int):List aG→Int
 | []=>0
 | t::A=>t.2 * g (trim t.1)+ev g A
theorem aY (g) (t) (A):ev g (t::A)=t.2 * g (trim t.1)+ev g A:=rfl
theorem cg (g) (B):∀ A,ev g (A++B)=ev g A+ev g B
 | []=>by simp [ev]
 | t::A=>by rw [PK,aY,aY,cg g B A]; lia
theorem jJ (g):∀ A:List aG,ev g (A.map yz)= - ev g A
 | []=>rfl
 | t::A=>by
  rw [N5,aY,aY,jJ g A]
  show -t.2 * g (trim t.1)+_=_
  rw [Int.neg_mul]; lia
theorem BJ (g) (l):∀ B:List aG,ev g (B.map (dI l))=l.2 * ev (fun q=>g (trim (cC (trim l.1) q))) B
 | []=>by simp [ev]
 | r::B=>by
  rw [N5,aY,aY,BJ g l B]
  show l.2 * r.2 * g (trim (cC l.1 r.1))+_=_
  rw [Int.mul_add,yD,RC]
theorem bO (g) (B):∀ A:List aG,ev g (aL A B)=ev (fun p=>ev (fun q=>g (trim (cC p q))) B) A
 | []=>rfl
 | l::A=>by
  show ev g (B.map (dI l)++aL A B)=_
  rw [cg,BJ,bO g B A]; rfl
theorem gy (e:∀ p,trim p=p→g p=h p):∀ A,ev g A=ev h A
 | []=>rfl
 | t::A=>by rw [aY,aY,e _ (cA _),gy e A]
theorem BK (g h):∀ A,ev (fun p=>g p+h p) A=ev g A+ev h A
 | []=>rfl
 | t::A=>by rw [aY,aY,aY,BK g h A,Int.mul_add]; lia
theorem Gp (c) (g):∀ A,ev (fun p=>c * g p) A=c * ev g A
 | []=>by simp [ev]
 | t::A=>by rw [aY,aY,Gp c g A,Int.mul_add,Int.mul_left_comm]
theorem wJ:∀ A,ev (fun _=>0) A=0
 | []=>rfl
 | t::A=>by rw [aY,wJ A]; simp
theorem wK (f:List Int→List Int→Int) (B):∀ A,ev (fun p=>ev (fun q=>f p q) B) A=ev (fun q=>ev (fun p=>f p q) A) B
 | []=>by show 0=ev (fun _=>0) B; rw [wJ]
 | t::A=>by
  show t.2 * ev (fun q=>f (trim t.1) q) B+ev _ A=ev (fun q=>t.2 * f (trim t.1) q+ev (fun p=>f p q) A) B
  rw [BK,Gp,wK f B A]
noncomputable def eqv (A B:List aG):Prop:=∀ g,ev g A=ev g B
theorem eqv.rf (A):eqv A A:=fun _=>rfl
theorem eqv.app (h:eqv A A') (k:eqv B B'):eqv (A++B) (A'++B'):=fun g=>by rw [cg,cg,h g,k g]
theorem eqv.neg (h:eqv A B):eqv (A.map yz) (B.map yz):=fun g=>by rw [jJ,jJ,h g]
theorem eqv.prod (h:eqv A A') (k:eqv B B'):eqv (aL A B) (aL A' B'):=fun g=>by
 rw [bO,bO,h]; exact gy (fun p _=>k _) _
instance trmSetoid:Setoid (List aG):=⟨eqv,⟨eqv.rf,fun h g=>(h g).symm,fun h k g=>(h g).trans (k g)⟩⟩
noncomputable def MP:Type:=Quotient trmSetoid
noncomputable def mp (A:List aG):MP:=Quotient.mk trmSetoid A
theorem d7:mp A=mp B↔eqv A B:=⟨fun h=>Quotient.exact h,fun h=>SJ h⟩
noncomputable def cT (n:Int):List aG:=[([],n)]
theorem kg (g) (n):ev g (cT n)=n * g []:=by show n * g (trim [])+0=_; rw [SX]; rfl
noncomputable instance:Add MP:=⟨Quotient.lift₂ (fun A B=>mp (A++B)) fun _ _ _ _ h k=>SJ (eqv.app h k)⟩
noncomputable instance:Mul MP:=⟨Quotient.lift₂ (fun A B=>mp (aL A B)) fun _ _ _ _ h k=>SJ (eqv.prod h k)⟩
noncomputable instance:Neg MP:=⟨Quotient.lift (fun A=>mp (A.map yz)) fun _ _ h=>SJ (eqv.neg h)⟩
noncomputable instance:Sub MP:=⟨fun a b=>a+ -b⟩
noncomputable instance:NatCast MP:=⟨fun n=>mp (cT n)⟩
noncomputable instance:IntCast MP:=⟨fun n=>mp (cT n)⟩
noncomputable instance (n:Nat):OfNat MP n:=⟨mp (cT n)⟩
noncomputable instance:SMul Nat MP:=⟨fun n a=>(n:MP) * a⟩
noncomputable instance:SMul Int MP:=⟨fun n a=>(n:MP) * a⟩
noncomputable def MP.pow (a:MP):Nat→MP
 | 0=>1
 | n+1=>MP.pow a n * a
noncomputable instance:HPow MP Nat MP:=⟨MP.pow⟩
theorem jK (A B):mp (A++B)=mp A+mp B:=rfl
theorem uB (A B):mp (aL A B)=mp A * mp B:=rfl
theorem pJ (n):mp (cT n)=(n:MP):=rfl
theorem p7 {P:MP→Prop} (h:∀ A,P (mp A)) (a:MP):P a:=Quotient.inductionOn a h
theorem IZ (g) (A):ev g (aL (cT 1) A)=ev g A:=by
 rw [bO,kg,S9]
 exact gy (fun p hp=>by rw [mh,hp]) _
theorem mulC:∀ a b:MP,a * b=b * a:=p7 fun A=>p7 fun B=>d7.mpr fun g=>by
 rw [bO,bO,wK]
 exact gy (fun q _=>gy (fun p _=>by rw [yE]) _) _
theorem LD:∀ a:MP,1 * a=a:=p7 fun A=>d7.mpr fun g=>IZ g A
theorem Nn:∀ a b:MP,a+b=b+a:=p7 fun A=>p7 fun B=>d7.mpr fun g=>by rw [cg,cg,SY]
theorem Gq:∀ a b c:MP,(a+b) * c=a * c+b * c:=p7 fun A=>p7 fun B=>p7 fun C=>d7.mpr fun g=>by rw [bO,cg,cg,bO,bO]
theorem Gr:∀ a:MP,0 * a=0:=p7 fun A=>d7.mpr fun g=>by
 rw [bO,kg,kg]; show 0 * _=0 * _; rw [QH,QH]
noncomputable instance:Lean.Grind.CommRing MP where
 add_zero:=p7 fun A=>d7.mpr fun g=>by rw [cg,kg]; show _+0 * _=_; rw [QH,SX]
 add_comm:=Nn
 add_assoc:=p7 fun A=>p7 fun B=>p7 fun C=>d7.mpr fun g=>by rw [cg,cg,cg,cg,Int.add_assoc]
 mul_assoc:=p7 fun A=>p7 fun B=>p7 fun C=>d7.mpr fun g=>by
  rw [bO,bO,bO]
  refine gy (fun p _=>?_) _
  rw [bO]
  refine gy (fun q _=>gy (fun r _=>?_) _) _
  rw [uw,uz,uA]
 mul_one:=fun a=>by rw [mulC,LD]
 one_mul:=LD
 left_distrib:=fun a b c=>by rw [mulC,Gq,mulC b,mulC c]
 right_distrib:=Gq
 zero_mul:=Gr
 mul_zero:=fun a=>by rw [mulC,Gr]
 pow_zero:=fun _=>rfl
 pow_succ:=fun _ _=>rfl
 ofNat_succ:=fun n=>d7.mpr fun g=>by
  show ev g (cT ((n+1:Nat):Int))=ev g (cT (n:Int)++cT ((1:Nat):Int))
  rw [cg,kg,kg,kg,Int.natCast_add,QK]
 ofNat_eq_natCast:=fun _=>rfl
 nsmul_eq_natCast_mul:=fun _ _=>rfl
 neg_add_cancel:=p7 fun A=>d7.mpr fun g=>by
  rw [cg,jJ,kg]; show _=0 * _; rw [QH]; lia
 sub_eq_add_neg:=fun _ _=>rfl
 neg_zsmul:=fun i=>p7 fun A=>d7.mpr fun g=>by
  show ev g (aL (cT (-i)) A)=ev g ((aL (cT i) A).map yz)
  rw [jJ,bO,bO,kg,kg,Int.neg_mul]
 zsmul_natCast_eq_nsmul:=fun _ _=>rfl
 intCast_ofNat:=fun _=>rfl
 intCast_neg:=fun i=>d7.mpr fun g=>by
  show ev g (cT (-i))=ev g ((cT i).map yz)
  rw [jJ,kg,kg,Int.neg_mul]
 mul_comm:=mulC
theorem BL {A:List aG} {p q:List Int} {n:Int}:(bx (putD A p n) q).getD 0=if q=p then n else (bx A q).getD 0:=by
 unfold putD
 split
 ·rename_i h
  induction A with
  | nil=>simp [bx] at h
  | cons t A ih =>
   rw [N5]
   by_cases e:t.1=p
   ·rw [if_pos e]
    by_cases z:q=p
    ·rw [if_pos z,bh (by rw [e,z])]; rfl
    ·rw [if_neg z,aR (by rw [e]; exact fun w=>z w.symm),aR (by rw [e]; exact fun w=>z w.symm)]
     clear ih h
     induction A with
     | nil=>rfl
     | cons u A ih =>
      rw [N5]
      by_cases w:u.1=q
      ·rw [if_neg (by rw [w]; exact z),bh w,bh w]
      ·rw [aR w,← ih,aR (by split <;> exact w)]
   ·rw [if_neg e]
    have h':(bx A p).isSome=true:=by rw [aR e] at h; exact h
    by_cases z:t.1=q
    ·rw [bh z,bh z,if_neg (by rw [← z]; exact e)]
    ·rw [aR z,aR z,ih h']
 ·rename_i h
  induction A with
  | nil =>
   rw [Qg]
   by_cases z:q=p
   ·rw [if_pos z,bh z.symm]; rfl
   ·rw [if_neg z,aR fun w=>z w.symm]
  | cons t A ih =>
   have h0:¬ t.1=p:=fun e=>h (by rw [bh e]; rfl)
   rw [PK]
   by_cases z:t.1=q
   ·rw [bh z,bh z,if_neg (by rw [← z]; exact h0)]
   ·rw [aR z,aR z,ih (by rw [aR h0] at h; exact h)]
noncomputable def cf (p:List Int) (A:List aG):Int:=ev (fun q=>if q=p then 1 else 0) A
theorem BN (p):∀ ts:List aG,(bx (aJ ts) p).getD 0=cf p ts:=by
 intro ts
 suffices H:∀ (ts A:List aG),(bx (ts.foldl fG A) p).getD 0=(bx A p).getD 0+cf p ts by
  have:=H ts []
  rw [show (bx ([]:List aG) p).getD 0=0 from rfl,RI] at this
  exact this
 intro ts
 induction ts with
 | nil=>intro A; show _=_+0; rw [SX]; rfl
 | cons t ts ih =>
  intro A
  rw [Pp,ih]
  unfold fG
  rw [BL]
  show _=_+(t.2 * (if trim t.1=p then 1 else 0)+cf p ts)
  by_cases z:p=trim t.1
  ·rw [if_pos z,if_pos z.symm,z]; lia
  ·rw [if_neg z,if_neg fun w=>z w.symm]; lia
theorem BO:t∈nz (aJ ts)↔trim t.1=t.1∧t.2≠0∧t.2=cf t.1 ts:=by
 have hk:=dY ts
 constructor
 ·intro h
  unfold nz at h
  rw [Rw] at h
  refine ⟨?_,by simpa using h.2,?_⟩
  ·have bd:∃ n,∀ t∈ts,t.1.length≤n:=by
    clear h hk
    induction ts with
    | nil=>exact ⟨0,fun t h=>by cases h⟩
    | cons u ts ih =>
     obtain ⟨n,hn⟩:=ih
     refine ⟨max n u.1.length,fun t ht=>?_⟩
     rcases Oh.mp ht with rfl | ht
     ·lia
     ·have:=hn t ht; lia
   obtain ⟨n,hn⟩:=bd
   exact (jh hn t h.1).1
  ·rw [← BN,pF hk h.1]; rfl
 ·rintro ⟨h1,h2,h3⟩
  unfold nz
  rw [Rw]
  refine ⟨?_,by simpa using h2⟩
  rw [← BN] at h3
  cases e:bx (aJ ts) t.1 with
  | none=>rw [e] at h3; exact absurd h3 h2
  | some n =>
   rw [e] at h3
   have h3':t.2=n:=h3
   unfold bx at e
   obtain ⟨u,hu,e2⟩:=Og.mp e
   have m:=List.mem_of_find?_eq_some hu
   have z:u.1=t.1:=by simpa using List.find?_some hu
   have:u=t:=Prod.ext z (by rw [e2,h3'])
   rw [← this]; exact m
theorem rX {L M:List aG} (h1:L.Nodup) (h2:M.Nodup) (h:∀ t,t∈L↔t∈M):L.Perm M:=(List.perm_ext_iff_of_nodup h1 h2).mpr h
theorem BP (h:eqv A B):aP A=aP B:=by
 have nA:=keys_nodup (wo (dY A))
 have nB:=keys_nodup (wo (dY B))
 have hp:(nz (aJ A)).Perm (nz (aJ B)):=rX nA nB fun t=>by rw [BO,BO]; unfold cf; rw [h]
 exact A9 nB ((bB _).trans hp) (gW nA)
theorem bV (h:mp A=mp B):aP A=aP B:=BP (d7.mp h)
theorem I0 (g) (hp:trim p=p) (n) (hk:(A.map (·.1)).Nodup) (ht:∀ t∈A,trim t.1=t.1):ev g (putD A p n)=ev g A+(n - (bx A p).getD 0) * g p:=by
 unfold putD
 split
 ·rename_i h
  induction A with
  | nil=>simp [bx] at h
  | cons t A ih =>
   rw [N5]
   rw [N5,Po] at hk
   by_cases e:t.1=p
   ·rw [if_pos e]
    have same:A.map (fun kv:aG=>if kv.1=p then (kv.1,n) else kv)=A:=by
     refine (P1 fun u hu=>?_).trans (List.map_id A)
     rw [if_neg fun z=>hk.1 (by rw [e,← z]; exact OF.mpr ⟨u,hu,rfl⟩)]; rfl
    rw [same,bh e]
    rw [aY,aY]
    show n * g (trim t.1)+_=_+(n - t.2) * _
    rw [ht t Od,e,Int.sub_mul]; lia
   ·rw [if_neg e]
    rw [aY,aY,ih hk.2 (fun u hu=>ht u (Oe _ hu)) (by rw [aR e] at h; exact h),aR e]; lia
 ·rename_i h
  have e:bx A p=none:=by
   cases e:bx A p with
   | none=>rfl
   | some n=>rw [e] at h; exact absurd rfl h
  rw [cg,e]
  show _+(n * g (trim p)+0)=_+(n - 0) * _
  rw [hp,Int.sub_zero,SX]
theorem wL (ts):eqv (aJ ts) ts:=by
 suffices H:∀ (ts A:List aG),(A.map (·.1)).Nodup→(∀ t∈A,trim t.1=t.1)→eqv (ts.foldl fG A) (A++ts) from H ts [] (by simp) (by simp)
 intro ts
 induction ts with
 | nil=>intro A _ _ g; simp
 | cons t ts ih =>
  intro A hk ht g
  have ih':ev g (ts.foldl fG (fG A t))=ev g (fG A t++ts):=ih _ (rC _ _ hk) (fun u hu=>by
   rcases pA hu with e | e
   ·rw [e,cA]
   ·exact ht u e) g
  rw [Pp,ih',cg,cg]
  unfold fG
  rw [I0 g (cA _) _ hk ht]
  show _=_+(t.2 * g (trim t.1)+ev g ts)
  rw [Int.sub_mul,QK]; lia
theorem E6 (g) (h:A.Perm B):ev g A=ev g B:=by
 induction h with
 | nil=>rfl
 | cons x _ ih=>rw [aY,aY,ih]
 | swap x y l=>rw [aY,aY,aY,aY]; lia
 | trans _ _ a b=>rw [a,b]
theorem BQ (g):∀ A:List aG,ev g (nz A)=ev g A
 | []=>rfl
 | t::A=>by
  unfold nz
  by_cases h:t.2=0
  ·rw [Ri (by simp [h])]
   show ev g (nz A)=t.2 * _+_
   rw [BQ g A,h,QH,RI]
  ·rw [Qv (by simp [h])]
   show _+ev g (nz A)=_
   rw [BQ g A]; rfl
theorem BR (ts):eqv (aP ts) ts:=fun g=>by
 show ev g (fh (nz (aJ ts)))=_
 rw [E6 g (bB _),BQ,wL ts g]
theorem fJ (A):mp (aP A)=mp A:=d7.mpr (BR A)
theorem Ja (A):mp (aJ A)=mp A:=d7.mpr (wL A)
noncomputable def stp {α:Type} (xs:List α) (lo hi st:Option Int):List α:=(sliceRange (sliceBounds lo hi st xs.length).1 (sliceBounds lo hi st xs.length).2.1 (sliceBounds lo hi st xs.length).2.2).filterMap (xs[·]?)
theorem yF (h:Vals xs its):∀ ns:List Nat,Vals (ns.filterMap (xs[·]?)) (ns.filterMap (its[·]?)):=by
 intro ns
 induction ns with
 | nil=>exact .nil
 | cons n ns ih =>
  rw [Pn,Pn]
  by_cases z:n<xs.length
  ·obtain ⟨u,e,hu⟩:=h.get (Ot z)
   rw [Ot z,e]
   exact .cons hu ih
  ·rw [PF (by lia),PF (by rw [← h.length]; lia)]
   exact ih
theorem yG {K:NZ} (h:aq K H ds xs):∀ ns:List Nat,aq K H (ns.filterMap (ds[·]?)) (ns.filterMap (xs[·]?)):=by
 intro ns
 induction ns with
 | nil=>exact ay.mpr rfl
 | cons n ns ih =>
  rw [Pn,Pn]
  by_cases z:n<ds.length
  ·obtain ⟨u,e,hu⟩:=h.get (Ot z)
   rw [Ot z,e]
   exact aC.mpr ⟨_,_,rfl,hu,ih⟩
  ·rw [PF (by lia),PF (by rw [← h.length]; lia)]
   exact ih
section
end
section
variable {K:NZ}
end
end EV
namespace EV
open PySem PySem.Spec PySem.Calls PyProof.Rows L2
structure Drw (prog:Program) (w:World) (L:List Addr) (i:Addr) (N N':Heap→Prop) (x:Value):Prop where
 keep:∀ {b:Addr} {h h':Heap},b∈L→Qp b h h'→N h→N h'
 keep':∀ {b:Addr} {h h':Heap},b∈L→Qp b h h'→N' h→N' h'
 run:∀ {A:Around} {E Q:Value→Shared→Prop} {s:Shared},N s.heap→(∀ h',N' h'→PV i s.heap h'→Q x { s with heap:=h' })→wpAny (model prog w) A (QV (.ref i)) Q E s
structure Dry (prog:Program) (w:World) (L:List Addr) (i:Addr) (N:Heap→Prop):Prop where
 keep:∀ {b:Addr} {h h':Heap},b∈L→Qp b h h'→N h→N h'
 run:∀ {A:Around} {E Q:Value→Shared→Prop} {s:Shared},A.handled=none→N s.heap→(∀ h' e,Qp i s.heap h'→(∃ o,h'.get? e=some o∧o.cls=.type "StopIteration")→E (.ref e) { s with heap:=h' })→wpAny (model prog w) A (QV (.ref i)) Q E s
structure NT (z TI TO i1 i2:Addr):Prop where
 a:TI≠z
 b:TO≠z
 c:i1≠z
 d:i2≠z
 e:TI≠TO
 f:TI≠i1
 g:TI≠i2
 h:TO≠i1
 i:TO≠i2
 j:i1≠i2
section
end
end EV
namespace EV
open PySem PySem.Spec PyProof.Rows L2
section
theorem E7 (nd:(fp.map (·.1)).Nodup) (hn:∀ a∈fp,aN a.1=none) (fr:∀ a∈fp,H a.1=none) (g:bq H Hf H1 aN):bq H Hf (ie BD fp H1) (ie BD fp aN):=by
 have o1:∀ {b:Addr} {o:HO},H b=some o→b∉fp.map (·.1):=fun e m=>by obtain ⟨p,hp,rfl⟩:=cD m; rw [fr p hp] at e; cases e
 refine ⟨fun b o e=>?_,fun b o e=>?_,fun b o e=>?_,fun b h1 h2 h3=>?_⟩
 ·rw [aU (o1 e)]; exact g.s b o e
 ·have e1:=g.f b o e
  rw [aU fun m=>by obtain ⟨p,hp,rfl⟩:=cD m; rw [hn p hp] at e1; cases e1]; exact e1
 ·by_cases m:b∈fp.map (·.1)
  ·obtain ⟨p,hp,rfl⟩:=cD m
   rw [fH nd p hp] at e ⊢; exact e
  ·rw [aU m] at e ⊢; exact g.b b o e
 ·rw [aU fun m=>by obtain ⟨p,hp,rfl⟩:=cD m; exact h2 (fr p hp)]; exact g.n b h1 h2 h3
end
section
variable {K:NZ}
theorem LF (h:dz c e ρ fun r=>∃ s,r=.fo s∧R s.d):aF c e ρ R:=fun σ H Hf Q S q aa s I=>by
 refine bC (h σ H Hf (fun v H'=>∃ (sh:Sh) (fp:Fp) (aj:Hp),bf c.X.K H' aj sh v fp∧(fp.map (·.1)).Nodup∧(∀ a∈fp,H a.1=none)∧bq H Hf H' aj∧R sh.d) S (fun r v H' aj ⟨sh,e,hR⟩ rs g=>by subst e; obtain ⟨fp,r1,r2,r3⟩:=rs; exact ⟨sh,fp,aj,r1,r2,r3,g,hR⟩) aa s I) fun u s1 hh=>z2 hh fun v H1 hh=>w3 hh fun I1 rv hh=>z3 hh fun sh fp aN hh=>w5 hh fun rf nd fr g hR=>?_
 have hz:=bf.fz sh rf
 exact ⟨v,_,l8 I1 nd fun a ha=>(hz a ha).1,rv,q sh.d v _ (ie BD fp aN) hR (bf.rep (fun b o e=>by rw [aU fun m=>by obtain ⟨p,hp,rfl⟩:=cD m; rw [(hz p hp).2] at e; cases e]; exact e) sh (fun a ha=>fH nd a ha) rf) (E7 nd (fun a ha=>(hz a ha).2) fr g)⟩
end
end EV
namespace EV
open PySem PySem.Spec PySem.Calls PyProof.Rows L2
structure ZS (K:NZ) where
 sq:Hp→Addr→List V→Prop
 it:Heap→Addr→Addr→Nat→Prop
 us:Heap→Addr→Array Value→Prop
 dm:List D→D
 cl:String
 rep:∀ {H:Hp} {ds:List D} {v:V},Rep K H (dm ds) v↔∃ a xs,v=.ref a∧sq H a xs∧aq K H ds xs
 same:∀ {H H':Hp} {a:Addr} {xs:List V},aD H H'→sq H a xs→sq H' a xs
 ini:∀ {h:Heap} {i l:Addr},h.get? i=some { cls:=.type cl,data:=.fields #[.ref l,.int 0 0] }→it h i l 0
 get:∀ {X:Cx} {aa:List (Addr×Obj)} {σ:L2.St} {H:Hp} {s:Shared} {l:Addr} {xs:List V},X.K=K→Inv X aa σ H s→sq H l xs→∃ its,Vals xs its∧us s.heap l its.toArray
 inj:∀ {X:Cx} {aa:List (Addr×Obj)} {σ:L2.St} {H:Hp} {s:Shared} {l:Addr} {xs ys:List V},X.K=K→Inv X aa σ H s→sq H l xs→sq H l ys→xs=ys
 ito:∀ {h:Heap} {i l:Addr} {k:Nat},it h i l k→∃ o,h.get? i=some o∧∀ v,o.data≠.cell v
 itk:∀ {h h':Heap} {i l:Addr} {k:Nat},(∀ o,h.get? i=some o→h'.get? i=some o)→it h i l k→it h' i l k
 usk:∀ {h h':Heap} {l:Addr} {a:Array Value},(∀ o,h.get? l=some o→h'.get? l=some o)→us h l a→us h' l a
 uso:∀ {h:Heap} {l:Addr} {a:Array Value},us h l a→∃ o,h.get? l=some o
 run:∀ {prog:Program} {w:World} {i l:Addr} {a:Array Value} {k:Nat} {x:Value} {A:Around} {E Q:Value→Shared→Prop} {s:Shared},l≠i→a[k]?=some x→it s.heap i l k→us s.heap l a→(∀ h',it h' i l (k+1)→PV i s.heap h'→Q x { s with heap:=h' })→wpAny (model prog w) A (QV (.ref i)) Q E s
 dry:∀ {prog:Program} {w:World} {i l:Addr} {a:Array Value} {k:Nat} {A:Around} {E Q:Value→Shared→Prop} {s:Shared},A.handled=none→a[k]?=none→it s.heap i l k→us s.heap l a→(∀ h' e,Qp i s.heap h'→(∃ o,h'.get? e=some o∧o.cls=.type "StopIteration")→E (.ref e) { s with heap:=h' })→wpAny (model prog w) A (QV (.ref i)) Q E s
section
variable {K:NZ}
end
section
variable (c d:String)
end
section
variable {K:NZ}
end
section
variable {K:NZ}
end
end EV
namespace EV
open PySem PySem.Spec PyProof.Rows L2
theorem E8 {K:NZ} {st:Stmt} (m:mg x=some (.ref f)) (Fu:fS K x x st f fd) (h:bz P w K mg base (dR P w) k f fd ps (J6 K ok))
 (hb:∀ (kV doc pm:Value) (an:Option Addr) (cdv ct:Value) (us:List Value),us.length=ps.length→bindArgs (PY x x (d9 st) (aA st) (ah st) .none kV doc pm an cdv ct) ⟨us,[]⟩=pure (ps.zip us)):E3 P w K mg base k x ok :=
 ⟨f,fd,ps,m,Fu.kp,Fu.binds hb,h⟩
end EV
namespace EV
open PySem PySem.Spec PySem.Calls PyProof.Rows L2
noncomputable abbrev gz (l:List Int):D:=.tup (l.map .int)
section
variable {X:Cx}
theorem kM (I:Inv X aa σ H s) (sb:aD Hf H) (h:j8 X.K Hf (gz l) u):∃ b its,u=.ref b∧IsTup s.heap b its∧IntsAre its.toList l:=by
 obtain ⟨v,rv,q⟩:=h
 obtain ⟨b,ys,rfl,h3,h4⟩:=aE.mp q
 cases rv
 obtain ⟨its2,rel2,tu2,_⟩:=I.tuple (au sb h3)
 have e:=jf h4
 subst e
 exact ⟨b,its2.toArray,rfl,tu2,intsAre_of rel2⟩
theorem BS (h:gz x=gz y):x=y:=by
 simp only [gz,D.tup.injEq] at h
 exact (List.map_inj_right (f:=D.int) (fun a b e=>by injection e)).mp h
theorem BU (I:Inv X aa σ H s) (sb:aD Hf H) (h1:j8 X.K Hf (gz x) u) (h2:j8 X.K Hf (gz y) u):x=y:=by
 obtain ⟨v,r1,q1⟩:=h1
 obtain ⟨v',r2,q2⟩:=h2
 have:=r1.inj r2
 subst this
 exact BS (oR I sb 1 _ _ _ (A3 x y) q1 q2)
theorem E9 (L):SR.Gf HT.lexLt L:=⟨fun _ _=>kJ _,fun _ _ _ _ _ _ h g=>ud h g,fun _ _ _ _ h=>kK h⟩
noncomputable def BV (L:List (List Int)):SortKind:=open Classical in if ∀ l∈L,l≠[] then tuples' true else if L.head?=some [] then oneType' else general'
theorem Fb (b) (h:Q (decide (m<n)) s):wpAny (model X.prog X.w) A (oneLt' b (.int m t) (.int n u)) Q E s:=by
 cases b with
 | true=>exact oneLt_int h
 | false =>
  rw [oneLt'_eq,if_neg Oc]
  exact NX (lt_int (N1 h))
theorem wM:∀ {vs ws:List Value} {x y:List Int} (i:Nat),IntsAre vs x→IntsAre ws y→x.length+n=y.length+m→Q (HT.lexLt x y) s→PySem.W.KatLex X.prog X.w A b (decide (m<n)) Q (vs.zip ws) i s
 | _,_,_,_,i,.nil,.nil,e,h=>PySem.W.kat_nil (by rw [HT.ig] at h; rw [decide_eq_false (by simp at e; lia)]; exact h)
 | _,_,_,_,i,.nil,.cons c u hw,e,h=>PySem.W.kat_nil (by rw [HT.gc] at h; rw [decide_eq_true (by simp at e; lia)]; exact h)
 | _,_,_,_,i,.cons a t hv,.nil,e,h=>PySem.W.kat_nil (by rw [HT.gh] at h; rw [decide_eq_false (by simp at e; lia)]; exact h)
 | _,_,_,_,i,.cons a t hv,.cons c u hw,e,h=>by
  rw [Sm]
  refine PySem.W.kat_cons (wpAny_eqBool_int ?_)
  rw [HT.cG] at h
  by_cases z:a=c
  ·rw [if_pos z] at h
   rw [show (a == c)=true by simpa using z]
   exact PySem.W.kat_yes (wM (i+1) hv hw (by simp at e; lia) h)
  ·rw [if_neg z] at h
   rw [show (a == c)=false by simpa using z]
   exact PySem.W.kat_no (Fb _ h)
theorem jY:∀ {l:List α} {m:List β} {i:Nat} {b:β},Paired F l m→m[i]?=some b→∃ a,l[i]?=some a∧F a b
 | _,_,_,_,.nil,e=>by simp at e
 | _,_,0,_,.cons r _,e=>by simp at e; subst e; exact ⟨_,rfl,r⟩
 | _,_,i+1,a,.cons _ t,e=>by
  obtain ⟨b,h1,h2⟩:=jY (i:=i) t (by simpa using e)
  exact ⟨b,by simpa using h1,h2⟩
theorem BW (I:Inv X aa σ H s) (sb:aD Hf H) (h:Paired (fun x u=>j8 X.K Hf (gz x) u) L us) (h2:2≤us.length) (hQ:Q (BV L) s):wpAny (model X.prog X.w) A (keyKind' us.toArray) Q E s:=by
 have key:∃ fs:List (Option Value),Paired (fun (l:List Int) o=>(l=[]∧o=none)∨∃ n r t,l=n::r∧o=some (RQ n t)) L fs∧Paired (fun u o=>∀ (Q:Option Value→Shared→Prop),Q o s→wpAny (model X.prog X.w) A (firstOfTuple' u) Q E s) us fs:=by
  clear h2 hQ
  induction h with
  | nil=>exact ⟨[],.nil,.nil⟩
  | @cons x u L us r t ih =>
   obtain ⟨fs,e1,e2⟩:=ih
   obtain ⟨a,its,rfl,⟨o,ho,hc,n,hd⟩,ia⟩:=kM I sb r
   refine ⟨its[0]?::fs,.cons ?_ e1,.cons (fun Q hQ=>?_) e2⟩
   ·rw [← OS]
    generalize its.toList=il at ia
    cases ia with
    | nil=>exact .inl ⟨rfl,rfl⟩
    | cons n t' _=>exact .inr ⟨n,_,t',rfl,rfl⟩
   ·show wpAny _ _ (do
     if (← typeOf (.ref a)) != .type "tuple" then return none
     return (← Rk (.ref a))[0]?) _ _ _
    refine NX (Ql (T:="tuple") ⟨o,ho,hc⟩ ?_)
    rw [if_neg (by simp)]
    exact NX (RE ho hd (N1 hQ))
 obtain ⟨fs,e1,e2⟩:=key
 rw [keyKind'_eq,List.mapM_toArray]
 simp only [bind_map_left]
 refine NX (iD _ _ e2 ?_)
 have typs:∀ {T:String} (vs:List Value) (Q:List Value→Shared→Prop),(∀ v∈vs,s.TypeIs v T)→Q (vs.map fun _=>.type T) s→wpAny (model X.prog X.w) A (vs.mapM typeOf) Q E s:=fun {T} vs Q ht hQ=>by
  refine iD _ _ ?_ hQ
  clear hQ
  induction vs with
  | nil=>exact .nil
  | cons f fs ih=>exact .cons (fun Q hQ=>Ql (ht f Od) hQ) (ih fun g hg=>ht g (Oe _ hg))
 have el:L.length=us.length:=Ph h
 have ef:L.length=fs.length:=Ph e1
 have oneT:∀ {T:String} (vs:List Value) (Q:Option Value→Shared→Prop),vs≠[]→(∀ v∈vs,s.TypeIs v T)→Q (some (.type T)) s→wpAny (model X.prog X.w) A (oneTypeOnly' vs.toArray) Q E s:=fun {T} vs Q hne ht hQ=>by
  rw [oneTypeOnly'_eq,List.mapM_toArray]
  simp only [bind_map_left]
  refine NX (typs (T:=T) vs _ ht ?_)
  obtain ⟨f,r,rfl⟩:=List.exists_cons_of_ne_nil hne
  have h0:(List.map (fun _=>Pe T) (f::r)).toArray[0]?=some (Pe T):=by simp
  rw [h0]
  dsimp only
  rw [if_pos (by simp)]
  exact N1 hQ
 unfold BV at hQ
 by_cases hall:∀ l∈L,l≠[]
 ·rw [if_pos hall] at hQ
  have e3:∃ gs:List Value,fs=gs.map some∧∀ g∈gs,s.TypeIs g "int":=by
   clear h h2 hQ e2 el ef oneT typs
   induction e1 with
   | nil=>exact ⟨[],rfl,by simp⟩
   | @cons x o L fs r t ih =>
    obtain ⟨gs,q1,q2⟩:=ih fun l hl=>hall l (Oe _ hl)
    rcases r with ⟨z,_⟩ | ⟨n,r',t',_,rfl⟩
    ·exact absurd z (hall x Od)
    ·exact ⟨.int n t'::gs,by rw [q1]; rfl,fun g hg=>by
      rcases Oh.mp hg with rfl | hg
      ·exact Rb s n t'
      ·exact q2 g hg⟩
  obtain ⟨gs,rfl,q2⟩:=e3
  rw [if_pos (by simp)]
  refine NX (Pk ?_)
  have e4:(gs.map some).toArray.filterMap id=gs.toArray:=by simp
  rw [e4]
  refine NX (oneT (T:="int") gs _ (fun z=>by subst z; rw [el,Qo,PM] at ef; lia) q2 (N1 ?_))
  have e6:(some (Pe "int")).any (fun x=>x != Pe "tuple")=true:=by decide
  rw [e6]
  exact hQ
 ·rw [if_neg hall] at hQ
  have hno:¬ (fs.toArray.all fun x=>x.isSome)=true:=fun z=>hall fun l hl hl0=>by
   obtain ⟨i,hi,ei⟩:=List.mem_iff_getElem.mp hl
   obtain ⟨o,ho,r⟩:=c7 e1 (Ot hi)
   rw [ei] at r
   have zo:o.isSome=true:=by
    rw [List.all_toArray,List.all_eq_true] at z
    exact z o (O9 ho)
   rcases r with ⟨_,rfl⟩ | ⟨n,r',t',e,_⟩
   ·cases zo
   ·rw [hl0] at e; cases e
  rw [if_neg hno]
  cases e1 with
  | nil=>rw [PM] at el; lia
  | @cons x o L fs r t =>
   have e0:((o::fs).toArray[0]?.bind id)=o:=by simp
   rw [e0]
   rcases r with ⟨rfl,rfl⟩ | ⟨n,r',t',rfl,rfl⟩
   ·rw [if_pos (by simp)] at hQ
    rw [if_neg (by simp)]
    refine NX (oneT (T:="tuple") us _ (fun z=>by subst z; simp at h2) (fun v hv=>?_) (N1 hQ))
    obtain ⟨i,hi,ei⟩:=List.mem_iff_getElem.mp hv
    obtain ⟨l,_,r⟩:=jY h (Ot hi)
    rw [ei] at r
    obtain ⟨a,its,rfl,⟨o,ho,hc,n,hd⟩,ia⟩:=kM I sb r
    exact ⟨o,ho,hc⟩
   ·rw [if_neg (by simp)] at hQ
    rw [if_pos (by simp)]
    exact N1 hQ
theorem Jb (I:Inv X aa σ H s) (sb:aD Hf H) (hA:A.units+10<cLine) (hx:j8 X.K Hf (gz x) u) (hy:j8 X.K Hf (gz y) v) (hQ:Q (HT.lexLt x y) s):wpAny (model X.prog X.w) A (keyLt' (BV L) u v) Q E s:=by
 obtain ⟨a,its,rfl,ta,ia⟩:=kM I sb hx
 obtain ⟨b,its2,rfl,tb,ib⟩:=kM I sb hy
 have hu:A.units<cLine:=by lia
 have gen:wpAny (model X.prog X.w) A (oneLt' false (.ref a) (.ref b)) Q E s:=PySem.W.kat_one _ _ (HT.tH ta tb ia ib hu hQ)
 obtain ⟨⟨cls,dd,data,sl⟩,ho,hc,n,hd⟩:=id ta
 obtain ⟨⟨cls2,dd2,data2,sl2⟩,ho2,hc2,n2,hd2⟩:=id tb
 simp only at hc hd hc2 hd2
 subst hc hd hc2 hd2
 unfold BV
 split
 ·exact PySem.W.kat_lt ho rfl ho2 rfl (wM (m:=its.size) (n:=its2.size) 0 ia ib (by have:=ia.length; have:=ib.length; simp only [OT] at *; lia) hQ)
 ·split
  ·rw [keyLt'_oneType,oneLt'_eq]
   simp only [if_true]
   refine NX (wpAny_cRoomFor hu ?_)
   refine NX (wpAny_callSpecialIfBound?_slot ⟨_,ho,rfl⟩ TF (Rc TF ⟨_,ho,rfl⟩ PySem.F.entry_tuple_lt (PySem.F.args_tuple_lt_2 _ _) (HT.ir a b its its2 n n2 dd dd2 sl sl2 x y ia ib) ⟨ho,ho2,?_⟩))
   exact Rp hQ
  ·exact gen
end
section
open PySem in
theorem BX (hd:(d == sysModules)=false) (ho:s.heap.get? d=some o) (hx:o.ExactDict) (hdat:o.data=.dict es ep)
 (hQ:Q (.ref s.heap.objs.size) { s with heap:=s.heap.push { cls:=.type "dict_keyiterator",data:=.fields #[.ref d,.int 0 0,.int es.size 0,.int ep 0] } }) :
 wpAny (model prog w) A (pyIter (.ref d)) Q E s:=by
 have hT:s.TypeIs (.ref d) "dict":=⟨o,ho,hx.1⟩
 refine TZ hT F.slot_dict_iter (Px F.slot_dict_iter hT F.entry_dict_iter ?_ (F.args_dict_iter_1 _))
 unfold Builtin.«dict.__iter__»
 refine NX ?_
 unfold Builtin.Dict.dictSlotNone
 refine NX (wpAny_notOrdered_dict hT ?_)
 show wpAny _ _ (pure (Ow d)) _ _ s
 refine N1 ?_
 show wpAny _ _ (Sb d >>= _) _ _ s
 unfold Sb
 rw [if_neg (by rw [hd]; exact Oc)]
 refine NX (N1 ?_)
 refine NX (Q4 ho hdat ?_)
 refine NX (Q6 ho hdat ?_)
 refine NX (O4 (N1 ⟨_,rfl,"dict_keyiterator",_,⟨_,Oj _ rfl,rfl⟩,Rg.lookup,?_⟩))
 simpa [rawInt] using hQ
theorem BY (hit:s.heap.IsKeyIter it d i es.size ep)
 (hod:s.heap.get? d=some od) (hdd:od.data=.dict es ep) (hx:es[i]?=some e)
 (hQ:∀ h',h'.IsKeyIter it d (i+1) es.size ep→PV it s.heap h'→Q (some e.key) { s with heap:=h' }) :
 wpAny (model prog w) A (pyNext (.ref it)) Q E s:=by
 obtain ⟨o,ho,hc,hd⟩:=id hit
 unfold pyNext
 refine NX (Qk (Qd (name:=NY "__next__") hit.typeIs Rg
  (Px Rg hit.typeIs Uv ?_ (Us _))))
 refine NX (N1 ?_)
 refine NX ?_
 refine NX ?_
 first | refine NX (RU hit.typeIs (N1 ?_)) | refine NX (R0 hit.typeIs (N1 ?_))
 refine NX (SH ho hd ?_)
 have hown:Tg "dict_keyiterator"=false:=by decide
 simp only [hown,OV,if_false]
 show wpAny _ _ (if (Ow d == O2)=true then _ else _) _ _ s
 rw [if_neg (show ¬ ((Ow d == O2)=true) from Oc)]
 refine NX (N1 ?_)
 refine NX (Q4 hod hdd ?_)
 rw [if_neg (by simp)]
 refine NX (N1 ?_)
 refine NX (Q6 hod hdd ?_)
 rw [if_neg (by simp)]
 refine N1 ?_
 simp only [show ¬ ((i:Int)<0) from by omega,if_false,O1,hx]
 refine NX ?_
 first | refine NX (RU hit.typeIs (N1 ?_)) | refine NX (R0 hit.typeIs (N1 ?_))
 refine NX (wpAny_isOneOf_keyiter hit.typeIs ?_)
 show wpAny _ _ (setField (.ref it) 1 (rawInt ((i:Int)+1)) >>= _) _ _ s
 refine NX (Rz ho hd (by simp) ?_)
 have hit':(s.heap.update it (Obj.mapFields (·.setIfInBounds 1 (rawInt ((i:Int)+1))))).IsKeyIter it d (i+1) es.size ep :=
  ⟨_,Heap.get?_update_self _ ho (Obj.isFreed_of_fields (Sk hd _)),(Obj.cls_mapFields ..).trans hc,by rw [Sk hd]; simp [rawInt]⟩
 refine NX (Pc ?_)
 refine NX (wpAny_isOneOf_keyiter (s:={ s with heap:=s.heap.update it (Obj.mapFields (·.setIfInBounds 1 (rawInt ((i:Int)+1)))) }) hit'.typeIs ?_)
 show wpAny _ _ (pure e.key) _ _ _
 exact N1 (N1 ⟨_,rfl,N1 (hQ _ hit' (Ro ..))⟩)
theorem Fc (hh:A.handled=none) (hit:s.heap.IsKeyIter it d i es.size ep)
 (hod:s.heap.get? d=some od) (hdd:od.data=.dict es ep) (hge:es.size≤i)
 (hQ:∀ h',Qp it s.heap h'→Q none { s with heap:=h' }):wpAny (model prog w) A (pyNext (.ref it)) Q E s:=by
 obtain ⟨o,ho,hc,hd⟩:=id hit
 unfold pyNext
 refine NX (Qk (Qd (name:=NY "__next__") hit.typeIs Rg
  (Px Rg hit.typeIs Uv ?_ (Us _))))
 refine NX (N1 ?_)
 refine NX ?_
 refine NX ?_
 first | refine NX (RU hit.typeIs (N1 ?_)) | refine NX (R0 hit.typeIs (N1 ?_))
 refine NX (SH ho hd ?_)
 have hown:Tg "dict_keyiterator"=false:=by decide
 simp only [hown,OV,if_false]
 show wpAny _ _ (if (Ow d == O2)=true then _ else _) _ _ s
 rw [if_neg (show ¬ ((Ow d == O2)=true) from Oc)]
 refine NX (N1 ?_)
 refine NX (Q4 hod hdd ?_)
 rw [if_neg (by simp)]
 refine NX (N1 ?_)
 refine NX (Q6 hod hdd ?_)
 rw [if_neg (by simp)]
 refine N1 ?_
 simp only [show ¬ ((i:Int)<0) from by omega,if_false,O1,Array.getElem?_eq_none hge]
 refine NX ?_
 first | refine NX (RU hit.typeIs (N1 ?_)) | refine NX (R0 hit.typeIs (N1 ?_))
 show wpAny _ _ (setField (.ref it) 0 .none >>= _) _ _ s
 refine NX (Rz ho hd (by simp) ?_)
 show wpAny _ _ (newExc (.type "StopIteration") [] >>= _) _ _ _
 refine NX ?_
 simp only [newExc,newTuple]
 refine NX (O4 ?_ (by size_fits))
 refine NX (m:=firstArgMember _ _) (wpAny_of_eq (a:=O2) (by first | rfl | (simp only [firstArgMember]; rfl)) ?_)
 refine O4 ?_ (by size_fits)
 simp only [raiseNew]
 refine NX (wpAny_handled ?_)
 rw [show A.in1.handled=none from hh]
 refine NX (N1 (wpAny_throw ?_))
 refine NX (Sw (T:="StopIteration") (b:=true) ⟨_,Oj _ rfl,rfl⟩ isSubtype_stop ?_)
 exact N1 (hQ _ (((Ro ..).extBut.push _).push _))
end
section
variable {X:Cx} {aa:List (Addr×Obj)} {σ:L2.St} {H Hf:Hp} {s:Shared} {E:Value→Shared→Prop} {α:Type} {enc:α→D} {lt:α→α→Bool} {κ:SortKind}
structure LG (X:Cx) (enc:α→D) (lt:α→α→Bool) (κ:SortKind) (L:List α):Prop where
 lin:SR.Gf lt L
 inj:∀ (aa:List (Addr×Obj)) (σ:L2.St) (H Hf:Hp) (s:Shared),Inv X aa σ H s→aD Hf H→∀ x y u,j8 X.K Hf (enc x) u→j8 X.K Hf (enc y) u→x=y
 kind:∀ (aa:List (Addr×Obj)) (σ:L2.St) (H Hf:Hp) (s:Shared) (A:Around) (E:Value→Shared→Prop),Inv X aa σ H s→aD Hf H→∀ us:List Value,Paired (fun x u=>j8 X.K Hf (enc x) u) L us→2≤us.length→∀ Q:SortKind→Shared→Prop,Q κ s→wpAny (model X.prog X.w) A (keyKind' us.toArray) Q E s
 cmp:∀ (aa:List (Addr×Obj)) (σ:L2.St) (H Hf:Hp) (s:Shared) (A:Around) (E:Value→Shared→Prop),Inv X aa σ H s→aD Hf H→A.units+10<cLine→∀ (x y:α) (u v:Value),j8 X.K Hf (enc x) u→j8 X.K Hf (enc y) v→∀ Q:Bool→Shared→Prop,Q (lt x y) s→wpAny (model X.prog X.w) A (keyLt' κ u v) Q E s
theorem Fd (L):LG X gz HT.lexLt (BV L) L :=
 ⟨E9 L,fun _ _ _ _ _ I sb _ _ _ h1 h2=>BU I sb h1 h2,fun _ _ _ _ _ _ _ I sb _ p h2 _ hQ=>BW I sb p h2 hQ,fun _ _ _ _ _ _ _ I sb hA _ _ _ _ hx hy _ hQ=>Jb I sb hA hx hy hQ⟩
theorem yH {Q:Value→Shared→Prop} (hs:LG X enc lt κ L) (I:Inv X aa σ H s) (sb:aD Hf H) (hA:A.units+20<cLine) (hr:aq X.K Hf (L.map enc) xs) (hv:Vals xs us) (hz:us.length≤sizeLine) (nd:L.Nodup)
 (hkw:∀ l,Builtin.«list.sort» ⟨[.ref l],kw⟩=Builtin.«list.sort» ⟨[.ref l],[(NY "reverse",.bool b)]⟩) (hka:∀ l,argsOk "list.sort" ⟨[.ref l],kw⟩)
 (hQ:∀ (L':List α) (xs':List V) (s':Shared),L'.Perm L→fF lt b L'→aq X.K Hf (L'.map enc) xs'→xs'.length≤sizeLine→Inv X aa σ (upd H s.heap.objs.size (.lst xs')) s'→Q (.ref s.heap.objs.size) s') :
 wpAny (model X.prog X.w) A (newList us >>= fun l=>(holding [l] (call (.builtin "list.sort") [l] kw) >>= fun _=>ret l)) (fun fin s'=>∃ v,fin=.done (.ret v)∧Q v s') E s:=by
 refine NX (RA ?_ hz)
 have ha:(s.heap.push (seqObj "list" us.toArray 0)).get? s.heap.objs.size=some (seqObj "list" us.toArray 0):=Oj _ rfl
 have I1:Inv X aa σ H { s with heap:=s.heap.push (seqObj "list" us.toArray 0),toks:=s.toks }:=I.kept fun b o e=>N7 _ e
 have Ha:H s.heap.objs.size=none:=I.hok.fresh (N2 _)
 obtain ⟨f0,f1,f2,f3,f4,f5⟩:=I.mJ (H':=H) (N2 _) Ha
 have pL:=lV hr hv
 refine NX (Pc (TL slot_list_sort ⟨_,ha,rfl⟩ entry_list_sort (by
  rw [hkw]
  refine SR.nV (κ:=κ) (rk:=SR.yc (fun x u=>j8 X.K Hf (enc x) u) lt L) (b:=b) ha ?_ hz fun out hp ho=>⟨_,rfl,?_⟩
  ·intro h' k
   have I2:=I1.turned (h':=h') (t':=s.toks) (it:=s.heap.objs.size) (fun b o hb e=>k b o hb e) f0 f1 f3 f4 f5
   refine ⟨fun Q E h2 hQ=>hs.kind _ _ _ _ _ _ _ I2 sb _ pL h2 _ hQ,SR.A1 (fun x y u h1 h2=>hs.inj _ _ _ _ _ I2 sb x y u h1 h2) hs.lin pL fun x _ y _ u v hx hy E Q hQ=>hs.cmp _ _ _ _ _ _ _ I2 sb ?_ _ _ _ _ hx hy _ hQ⟩
   show A.units+1+10<cLine
   lia
  ·obtain ⟨L',p1,p2,p3⟩:=SR.rB (S:=fun x u=>j8 X.K Hf (enc x) u) (fun x y u h1 h2=>hs.inj _ _ _ _ _ I sb x y u h1 h2) hs.lin nd pL hp ho
   obtain ⟨xs',r',v'⟩:=lW p3
   obtain ⟨e,he⟩:=sortedHeap_at (vs:=us) (out:=out) ha
   have hl:out.toList.length=us.length:=hp.length_eq
   refine N1 ⟨_,rfl,hQ L' xs' _ p1 p2 r' ?_ ?_⟩
   ·have:=v'.length; lia
   ·refine I.laid (t':=s.toks) (fun b o q=>?_) (N2 _) ⟨by have:=v'.length; lia,out.toList,e,v',by simpa using he⟩
    have lt:=N9 q
    rw [sortedHeap_old (OB lt) (by rw [size_push']; exact So lt)]
    exact N7 _ q) (hka _)))
end
theorem mU:argsOk "sorted" ⟨[a],[]⟩:=by unfold argsOk; kernel_rfl
theorem args_list_sort_1:argsOk "list.sort" ⟨[a],[]⟩:=by unfold argsOk; kernel_rfl
noncomputable def LH (d:Addr) (o:Obj) (u:HO):It :=
 ⟨fun i H=>H d=some (.frz o u)∧i<(bJ u).length,fun i H x H'=>H'=H∧∃ y,(bJ u)[i]?=some y∧x=y.1,fun i H=>H d=some (.frz o u)∧(bJ u).length≤i⟩
theorem uC {P:Program} {w:World} {K:NZ} {tg:Expr} {d j:Addr} {o:Obj} {u:HO} {es:Array DictEntry} {ep:Nat} (hd:HO.dct u) (hod:o.data=.dict es ep) (hes:es.size=(bJ u).length):Turn P w K tg (LH d o u) [j] j (fun i h=>h.IsKeyIter j d i es.size ep) where
 mem:=Oi.mpr rfl
 obj:=fun i h ⟨q,e,_,hd⟩ b hb=>by
  obtain rfl:b=j:=Oi.mp hb
  exact ⟨_,e,fun v z=>by rw [hd] at z; cases z⟩
 keep:=fun i h h' ⟨q,e,r⟩ k=>⟨q,k j (Oi.mpr rfl) _ e,r⟩
 item:=by
  intro X hP hw hK hc i aa s σ H E I hf st hg
  subst hP hw hK
  obtain ⟨f0,f1,f2,f3,f4,f5⟩:=hf j (Oi.mpr rfl)
  obtain ⟨hH,hi⟩:=hg
  obtain ⟨ho,ok⟩:=(show bg X.prog X.w H s.heap d (.frz o u) from I.hok d _ hH)
  obtain ⟨_,es',ep',e1,e2,_⟩:=cK ok hd ho
  rw [hod] at e1; cases e1
  obtain ⟨e,he,re⟩:=c7 e2 (Ot hi)
  have he':es[i]?=some e:=by simpa using he
  refine BY st ho hod he' fun h' hit' hs'=>?_
  have I1:Inv X aa σ H { s with heap:=h',toks:=s.toks }:=I.turned (fun b o hb e=>hs'.extBut b o hb e) f0 f1 f3 f4 f5
  obtain ⟨q,eq,qc,qd⟩:=id hit'
  exact ⟨_,rfl,m9 (s:={ s with heap:=h',toks:=s.toks }) (n:="dict_keyiterator") eq qc qd (by decide) ⟨_,H,I1,re.1,⟨rfl,_,Ot hi,rfl⟩,hit',fun b hb=>(hf b hb).1⟩⟩
 done:=by
  intro X hP hw hK hc i aa s σ H E I hf st hg
  subst hP hw hK
  obtain ⟨f0,f1,f2,f3,f4,f5⟩:=hf j (Oi.mpr rfl)
  obtain ⟨hH,hi⟩:=hg
  obtain ⟨ho,ok⟩:=(show bg X.prog X.w H s.heap d (.frz o u) from I.hok d _ hH)
  exact Fc (I.ok.hd hc) st ho hod (by rw [hes]; exact hi) fun h' eb=>⟨rfl,I.turned (t':=s.toks) (fun b o hb e=>eb b o hb e) f0 f1 f3 f4 f5⟩
 self:=fun _ _ _ _ _ st h=>wpAny_pyIter_keyiter st h
theorem uD {K:NZ} {Hf:Hp} {d:Addr} {o:Obj} {ys:List (List Key×Addr×V)} {ks:List (List Int)} (hH:Hf d=some (.frz o (.dT ys))) (hk:ys.map (·.1)=ks.map (·.map Om)) (hs:∀ y∈ys,cY K Hf y.2.1 (y.1.map kV)):jA K (LH d o (.dT ys)) (ks.map gz) Hf where
 go:=fun i x H aN s1 s2 e=>by
  rw [Oa,Og] at e
  obtain ⟨n,hn,rfl⟩:=e
  have hq:=congrArg (fun l=>l[i]?) hk
  simp only [Oa,hn,Option.map_some] at hq
  obtain ⟨y,hy,ey⟩:=Og.mp hq
  have hp:(bJ (.dT ys))[i]?=some (.ref y.2.1,y.2.2):=by
   show (ys.map _)[i]?=_
   rw [Oa,hy]; rfl
  refine ⟨⟨s2 _ _ (s1 _ _ hH),(Ob.mp hp).1⟩,fun v H' ⟨e1,y',e2,e3⟩=>?_⟩
  rw [hp] at e2; cases e2
  subst e1 e3
  refine ⟨aN,.refl s2,aE.mpr ⟨y.2.1,y.1.map kV,rfl,au s1 (hs y (O9 hy)),?_⟩⟩
  rw [ey,Ou]
  exact jy n
 stop:=fun i H aN s1 s2 e=>⟨s2 _ _ (s1 _ _ hH),by
  have:=congrArg QI hk
  show (ys.map _).length≤i
  simp only [N6] at this e ⊢
  lia⟩
section
theorem pK (hc:X.calm=true) (I:Inv X aa σ H s) (sb:aD Hf H) (hA:X.A.units+60<cLine) (hH:Hf d=some (.frz o (.dT ys))) (hk:ys.map (·.1)=ks.map (·.map Om)) (hq:∀ y∈ys,cY X.K Hf y.2.1 (y.1.map kV)) (nd:ks.Nodup)
 (hQ:∀ (L':List (List Int)) (xs':List V) (s':Shared) (H' aj:Hp) (a:Addr),L'.Perm ks→fF HT.lexLt false L'→aq X.K aj (L'.map gz) xs'→bq H Hf H' aj→H' a=none→Inv X aa σ (upd H' a (.lst xs')) s'→Q (.ref a) s') :
 wpAny (model X.prog X.w) X.A (call (.builtin "sorted") [.ref d]) Q E s:=by
 refine call_function_entry kind_sorted plain_sorted entry_sorted mU ?_
 unfold Builtin.«sorted»
 refine NX (m:=checkCount "sorted" 1 1 _) (N1 ?_)
 have h1:X.A.in1.handled=none:=I.ok.hd hc
 have h2:X.A.in1.frames=some X.stack:=I.ok.frames
 obtain ⟨ho,ok⟩:=(show bg X.prog X.w H s.heap d (.frz o (.dT ys)) from I.hok d _ (sb _ _ hH))
 obtain ⟨hx,es,ep,e1,e2,hs,hz⟩:=cK ok trivial ho
 have hsz:es.size=(bJ (.dT ys)).length:=by rw [Ph e2]; simp
 have hn:(ks.map gz).length=(bJ (.dT ys)).length:=by have:=congrArg QI hk; show _=(ys.map _).length; simp only [N6] at this ⊢; lia
 have ty:∀ s':Shared,(∀ b o,s.heap.get? b=some o→s'.heap.get? b=some o)→s'.TypeIs (.ref d) "dict":=fun s' k=>⟨o,k _ _ ho,hx.1⟩
 refine NX (lU (X:=EF X X.A.in1) (H:=H) (Hf:=Hf) (ds:=ks.map gz) (T:="dict") hc h1 h2 (jF I (fun _=>h1) h2) sb (N9 ho) (by lia) (by decide) (fun s' k=>ty s' k) (fun A s' Q E q h=>n6 q h) (fun A s1 H1 E I1 sb1 k1=>?_) fun us s' H' aj xs I' rv rr g hz'=>?_)
 ·refine BX hs (k1 _ _ ho) hx e1 ?_
  refine ⟨_,_,_,rfl,N2 _,I1.kept (t':=s1.toks) fun b o e=>N7 _ e,uC (u:=.dT ys) trivial e1 hsz,⟨_,Oj _ rfl,rfl,rfl⟩,fun b hb=>?_,fun b o e=>N7 _ e,uD hH hk hq⟩
  obtain rfl:b=s1.heap.objs.size:=Oi.mp hb
  exact I1.mJ (N2 _) (I1.hok.fresh (N2 _))
 ·have I2:=gq I.ok I'
  have el:=rr.length
  have el2:=rv.length
  refine yH (b:=false) (Fd ks) I2 g.b ?_ rr rv (by lia) nd (fun _=>rfl) (fun _=>args_list_sort_1) fun L' xs' s2 p1 p2 p3 p4 I3=>hQ L' xs' s2 H' aj _ p1 p2 p3 g (I2.hok.fresh (N2 _)) I3
  show X.A.units+1+20<cLine
  lia
end
section
variable {K:NZ} {c:Ctx P w K mg base k N sc bk}
theorem BZ (hm:mg "sorted"=none) (h:aF c e ρ fun d=>∃ (ks:List (List Int)) (ds:List D),d=.fdT (ks.map (·.map Om)) ds∧Sd ks.Nodup (∀ L':List (List Int),L'.Perm ks→fF HT.lexLt false L'→R (.ow (L'.map gz))))
 (hg:sc.names.lookup (NY "sorted")=some .globalImplicit:=by walk_at "u")
 (he:∀ env,starEach [e] env=(false,eval e env)::starEach [] env:=by intro _; walk_at "u")
 (hpl:∀ env,(backTo pos (starEach [] env)).any (·.1)=false:=by intro _; walk_at "u") :
 dz c (.Call (.Name "sorted" np) [e] [] pos) ρ R:=fun σ H Hf Q S q aa s I=>by
 have hgl:Gl c.X "sorted":=by unfold Gl OQ; rw [c.esc]; exact hg
 refine PJ (dB I hgl (by rw [c.emg]; exact hm) (show bootBuiltins "sorted"=some (.builtin "sorted") by decide +kernel) ?_ (by decide) (by decide))
 have hpa:=bM (X:=c.X) (e:=e) (es:=[]) cW dD (he _)
 refine Tf (bC (hpa pos aa s σ H (fun vs H1=>∃ x,vs=[x]∧∃ (ks:List (List Int)) (ds:List D) (aN:Hp),Rep c.X.K aN (.fdT (ks.map (·.map Om)) ds) x∧ks.Nodup∧bq H Hf H1 aN∧∀ L':List (List Int),L'.Perm ks→fF HT.lexLt false L'→R (.ow (L'.map gz))) I ?_) fun us s1 hh=>z2 hh fun vs H1 hh=>w3 hh fun I1 r1 hh=>hh.elim fun x hh=>w2 hh fun ex hh=>z3 hh fun ks ds aN hh=>w4 hh fun e1 e7 e8 e9=>?_) (he _) (hpl _)
 ·exact h σ H Hf _ S fun d v H1 aN ⟨ks,ds,hp,⟨hn,hR⟩⟩ rv g=>⟨_,rfl,ks,ds,aN,by rw [← hp]; exact rv,hn,g,hR⟩
 ·subst ex
  obtain ⟨a0,ys,o,rfl,hs,hk,hq,hr⟩:=iU.mp e1
  have eu:us=[.ref a0]:=by
   cases r1 with
   | cons q1 q2=>cases q2; cases q1; rfl
  subst eu
  refine pK c.calm I1 e8.b ?_ hs hk hq e7 fun L' xs' s' H' aj a p1 p2 p3 g na I3=>?_
  ·have:=c.room.un
   lia
  ·have gg:=e8.trans g
   exact ⟨.ref a,_,I3,rfl,q (.ow (L'.map gz)) _ _ aj (e9 L' p1 p2) ⟨a,xs',rfl,gg.s.free na,ai,g.b.free na,p3⟩ (gg.trans (bq.gi g.b na))⟩
end
section
noncomputable def LJ:V→List V→Hp→VK→Prop:=fun x vs H Q=>∃ l xs y,x=.ref l∧vs=[.int 0,y]∧H l=some (.lst xs)∧xs.length<sizeLine∧Q .non (upd H l (.lst (y::xs)))
theorem Fe:Ny X "list.insert" LJ:=by
 intro aa s σ H x vs v us Q I rx rv h
 obtain ⟨l,xs,y,rfl,rfl,hH,hz,q⟩:=h
 cases rx
 cases rv with
 | cons r0 rv =>
  obtain ⟨t,rfl⟩:=r0
  obtain ⟨u,rfl,ru⟩:=Vals.one rv
  obtain ⟨z,its,n,r,hl,e⟩:=I.qj hH
  refine Rc F.slot_list_insert ⟨_,e,rfl⟩ F.entry_list_insert (F.args_list_insert_3 _ _ _) (PySem.AutoSeq1.list_insert_list_int_val_1 l its.toArray n 0 t u (by decide) (by rw [Oo]; lia)) ⟨e,?_⟩
  refine ⟨.non,_,I.tM (its':=u::its) hH e (by simp) (.cons ru r) ?_,rfl,q⟩
  rw [OE]
  lia
end
section
variable {K:NZ} {c:Ctx P w K mg base k N sc bk}
theorem Jc (hN:At N i x) (hi:At ρ i r) (hr:r.getL=some ds) (h:aF c e ρ fun d=>Sd (ds.length<sizeLine) (Nx ρ i nx (r.putL (d::ds))))
 (hs:∀ env,swapsWith (.Call (.Attribute (.Name x px) "insert" ap) [.Constant (.int 0) j p0,e] [] cp) none pos.line env=pure false:=by intro _; walk_at "u") (hd:(x == ("__debug__":Str))=false:=by decide) (hcd:(x == ("__classdict__":Str))=false:=by decide)
 (hbase:∀ env,attributeBase (.Name x px) "insert" env (eval (.Name x px) env)=eval (.Name x px) env:=by intro _; walk_at "u")
 (hfew:∀ env,((backTo cp (starEach [.Constant (.int 0) j p0,e] env)).all (fun x=> !x.1) && (backToKw cp (keywordEach [] env)).all (fun x=>x.1.isSome)
   && decide (([.Constant (.int 0) j p0,e]:List Expr).length+([]:List Keyword).length+(if ([]:List Keyword).isEmpty then 0 else 1)<30))=true:=by intro _; walk_at "u")
 (hline:(ap.endLine == cp.line)=true:=by walk_at "u") (he0:∀ env,starEach [.Constant (.int 0) j p0,e] env=(false,eval (.Constant (.int 0) j p0) env)::starEach [e] env:=by intro _; walk_at "u") (he:∀ env,starEach [e] env=(false,eval e env)::starEach [] env:=by intro _; walk_at "u") (hpl:∀ env,(backTo cp (starEach [e] env)).any (·.1)=false:=by intro _; walk_at "u") :
 eS c (.Expr (.Call (.Attribute (.Name x px) "insert" ap) [.Constant (.int 0) j p0,e] [] cp) pos) ρ nx p:=fun σ H Hf D S o=>by
 obtain ⟨q,eq,rq⟩:=S.own hi.get (c6 hr)
 obtain ⟨xs,h1,h2,h3⟩:=HZ hr rq
 refine dS (ku (FW PySem.F.plainAttrs_list PySem.F.slot_list_insert PySem.F.type_list_insert Fe (c.lu hN hd hcd) (bM zg (bM cW dD (he _)) (he0 _)) (hbase _) (hfew _) hline (he0 _) (hpl _)) (hs _)) ⟨_,eq,.inl ⟨rfl,xs,.inl (.inl h1)⟩,?_⟩
 refine h σ H Hf _ S fun d v H' aj ⟨hz,ρ',hs',hn⟩ rd g=>?_
 have S':=S.cB g
 have e1:H' q=some (.lst xs):=g.s _ _ h1
 have e2:aj q=none:=g.n q h2 (by rw [h1]; simp) (by intro ys; rw [h1]; simp)
 refine ⟨q,xs,v,rfl,rfl,e1,by rw [← h3.length]; exact hz,?_⟩
 refine o.nx _ _ aj ρ' ?_ hn
 rw [hs'.eq]
 have rq':=rq.cB g
 exact S'.upd hi.get (c6 hr) eq (gP g.b e2) (ly hr rq' ai e2 (.cons rd (h3.mono g.f))) (iy hr)
end
end EV
namespace EV
open PySem PySem.Spec PyProof.Rows L2
theorem wN {α:Type}:∀ ys:List α,(OP ys.length).filterMap (ys[·]?)=ys
 | []=>rfl
 | y::ys=>by
  rw [OE,List.range_succ_eq_map,Pn]
  show y::_=_
  rw [TV]
  exact congrArg (y:: ·) (wN ys)
theorem rY {α β:Type} {f g:α→Option β}:∀ {l:List α},(∀ x∈l,f x=g x)→l.filterMap f=l.filterMap g
 | [],_=>rfl
 | x::l,h=>by rw [Pn,Pn,h x Od,rY fun y hy=>h y (Oe _ hy)]
theorem B0 {α:Type} (xs:List α):List.filterMap ((xs[·]?)∘fun i=>xs.length - 1 - i) (OP xs.length)=xs.reverse:=by
 have h:=wN xs.reverse
 rw [TQ] at h
 refine Eq.trans (rY fun k hk=>?_) h
 exact (List.getElem?_reverse (SM.mp hk)).symm
theorem wO (xs:List α):stp xs none none (some (-1))=xs.reverse:=by
 unfold stp sliceBounds
 simp only [Option.getD_some,show ¬ ((-1:Int)>0) by decide,if_false]
 have e:sliceRange ((xs.length:Int) - 1) (-1) (-1)=(OP xs.length).map fun i=>xs.length - 1 - i:=by
  unfold sliceRange
  simp only [show ¬ ((-1:Int)>0) by decide,if_false]
  have c:(if (xs.length:Int) - 1> -1 then ((xs.length:Int) - 1 - -1 - -1 - 1) / (- -1) else 0)=(xs.length:Int):=by
   split
   ·rw [show (- -1:Int)=1 by decide,Int.ediv_one]; omega
   ·omega
  rw [c,O1]
  refine P1 fun k hk=>?_
  have:=SM.mp hk
  omega
 rw [e,TV]
 exact B0 xs
noncomputable def Np (X:Cx) (te:TE) (tl th ts:TO):TE:=fun σ H Q=>te σ H fun x H1=>tl σ H1 fun l H2=>th σ H2 fun u H3=>ts σ H3 fun t H4=>∃ a xs k,x=.ref a∧gO X.K H4 a xs∧l=none∧u=none∧t=some k∧k= -1∧∀ p,H4 p=none→Q (.ref p) (upd H4 p (.lst (stp xs l u (some k))))
section
variable {lo hi:Option Expr} {st:Expr}
theorem Jd (he:PE X e te) (hl:PO X lo tl) (hu:PO X hi th) (ht:PO X (some st) ts):PE X (.Subscript e (.Slice lo hi (some st) p2) pos) (Np X te tl th ts):=by
 intro aa s σ H Q I h
 refine Subscript_ (bC (he aa s σ H _ I h) fun v s1 ⟨x,H1,I1,r1,q1⟩=>?_)
 refine wpAny_Slice (bC (hl aa s1 σ H1 _ I1 q1) fun vl s2 ⟨l,H2,I2,pl,q2⟩=>bC (hu aa s2 σ H2 _ I2 q2) fun vu s3 ⟨u,H3,I3,pu,q3⟩=>bC (ht aa s3 σ H3 _ I3 q3) fun vt s4 ⟨t,H4,I4,pt,q4⟩=>?_)
 obtain ⟨a,xs,k,rfl,hx,rfl,rfl,rfl,rfl,q⟩:=q4
 have I5:Inv X aa σ H4 { s4 with heap:=s4.heap.push { cls:=.type "slice",data:=.fields #[vl,vu,vt] } }:=I4.kept (t':=s4.toks) fun b ob q=>N7 _ q
 cases r1
 obtain ⟨its,r,hi,hz⟩:=I5.list hx
 have hlen:=r.length
 show wpAny (model X.prog X.w) X.A (subscriptTail e (.Slice lo _ (some st) p2) (.ref a) (.ref s4.heap.objs.size)) (EP X aa σ Q) X.xe { s4 with heap:=s4.heap.push { cls:=.type "slice",data:=.fields #[vl,vu,vt] } }
 refine tail_any (ops:=[.ref a,.ref s4.heap.objs.size]) hi.isList.typeIs T4.lookup ?_ (by walk_at "u")
 refine wpAny_getItem_list_slice hi.isList (Heap.IsSliceOf.new ..) pl pu pt (by decide) ?_ (by rw [Oo] <;> lia)
 have I6:=I5
 generalize hS:({ s4 with heap:=s4.heap.push { cls:=.type "slice",data:=.fields #[vl,vu,vt] } }:Shared)=S at I6 ⊢
 have ep:slicePick its.toArray none none (some (-1))=(stp its none none (some (-1))).toArray:=by
  unfold slicePick stp
  simp only [Oo,List.getElem?_toArray]
 rw [ep]
 refine ⟨.ref S.heap.objs.size,_,I6.laid (t':=S.toks) (o:=.lst (stp xs none none (some (-1)))) (fun b ob q=>N7 _ q) (N2 _) ?_,rfl,q _ (I6.hok.fresh (N2 _))⟩
 exact ⟨by rw [wO,TQ]; exact hz,_,0,by unfold stp; rw [hlen]; exact yF r _,Oj _ rfl⟩
end
section
variable {K:NZ}
theorem LK {lo hi:Option Expr} {st:Expr} (h:aF c e ρ fun x=>Di c lo ρ fun l=>Di c hi ρ fun u=>Di c (some st) ρ fun t=>l=none∧u=none∧t=some (-1)∧∃ ds,x=.lst ds∧R (.ow ds.reverse)):dz c (.Subscript e (.Slice lo hi (some st) p2) pos) ρ R:=fun σ H Hf Q S q =>
 bH (Jd cW Lc Lc Lc) (h σ H Hf _ S fun x v H1 aN h1 r1 g1=>h1 σ H1 aN _ (S.cB g1) fun l H2 cJ h2 g2=>h2 σ H2 cJ _ (S.cB (g1.trans g2)) fun u H3 Hf3 h3 g3=>h3 σ H3 Hf3 _ (S.cB ((g1.trans g2).trans g3)) fun t H4 Hf4 h4 g4=>by
  obtain ⟨rfl,rfl,rfl,ds,rfl,hR⟩:=h4
  have r3:=Rep.mono g4.f _ (Rep.mono g3.f _ (Rep.mono g2.f _ r1))
  have g:=((g1.trans g2).trans g3).trans g4
  rw [aV] at r3
  obtain ⟨a,xs,rfl,k1,k2⟩:=r3
  refine ⟨a,xs,-1,rfl,g4.b.seq k1,rfl,rfl,rfl,rfl,fun p hp=>?_⟩
  exact q _ _ _ _ hR ⟨p,_,rfl,g.s.free hp,ai,g4.b.free hp,by rw [← wO]; unfold stp; rw [k2.length]; exact yG k2 _⟩ (g.trans (bq.gi g4.b hp)))
end
end EV
namespace EV
open PySem PySem.Spec PySem.Calls PyProof.Rows L2
theorem B3 {K:NZ}:∀ {kvs:List (List Key×D)} {ys:List (List Key×Addr×V)},ys.map (·.1)=kvs.map (·.1)→(∀ y∈ys,cY K H y.2.1 (y.1.map kV))→aq K H (kvs.map (·.2)) (ys.map (·.2.2))→k6 K H kvs ys
 | [],[],_,_,_=>.nil
 | [],y::ys,h,_,_=>by simp at h
 | x::kvs,[],h,_,_=>by simp at h
 | x::kvs,y::ys,h,hq,r=>by
  rw [N5,N5] at h r
  obtain ⟨v,t,e,r1,r2⟩:=aC.mp r
  injection e with e1 e2
  injection h with h1 h2
  subst e1 e2
  exact .cons ⟨h1.symm,by rw [← h1]; exact hq y Od,r1⟩ (B3 h2 (fun z hz=>hq z (Oe _ hz)) r2)
section
variable {K:NZ}
theorem Je (h:aF c a ρ fun x=>aF c b ρ fun y=>∃ (kvs:List (List Key×D)) (ds:List D) (kk:List Key) (d:D),x=.fdT (kvs.map (·.1)) (kvs.map (·.2))∧y=.tup ds∧D.keys ds=some kk∧bx kvs kk=some d∧R d) (hs:DK b:=by with_unfolding_all exact fun _ _=>rfl):aF c (.Subscript a b pos) ρ R:=fun σ H Hf Q S q =>
 bH (vq c.hu cW cW hs) (h σ H Hf _ S fun x v H1 aN h1 r1 g1=>h1 σ H1 aN _ (S.cB g1) fun y u H2 cJ ⟨kvs,ds,kk,d,e1,e0,e2,e3,hR⟩ r2 g2=>by
  subst e1 e0
  obtain ⟨p,ys,o,rfl,k1,k2,k4,k3⟩:=iU.mp r1
  have kv:=(B3 k2 k4 k3).mono g2.f
  have rel:=kv.val kk
  rw [e3] at rel
  obtain ⟨pb,xb,rfl,kb,rb⟩:=aE.mp r2
  rw [gQ e2 rb] at kb
  cases z:atT ys kk with
  | none=>rw [z] at rel; exact rel.elim
  | some v =>
   rw [z] at rel
   exact ⟨p,v,rfl,.inr ⟨ys,kk,pb,.inr ⟨o,g2.b _ _ (g2.f _ _ k1)⟩,fun x hx=>au g2.b (au g2.f (k4 x hx)),rfl,au g2.b kb,z.symm⟩,q d v H2 cJ hR rel (g1.trans g2)⟩)
end
end EV
namespace My
open PySem PySem.Spec PyProof.Rows L2 EV
noncomputable abbrev top (i:Nat):Stmt:=PySem.Challenge.pw_everydraw_k21_circles_mirrored.main.body.getD i (.Pass ⟨0,0,0,0⟩)
noncomputable abbrev iH:=top 2
theorem uE:aI ["powers","end"] ["powers"] (ah iH):=⟨rfl,rfl,rfl,by decide +kernel,rfl,by decide +kernel,by decide +kernel⟩
theorem uF:∀ x∈(["powers","end"]:List Str),L2.Loc (ah iH) x:=by unfold L2.Loc; decide +kernel
noncomputable abbrev cH:=top 3
theorem iI:aI ["some","greatest","powers","number","k","power"] ["some"] (ah cH):=⟨rfl,rfl,rfl,by decide +kernel,rfl,by decide +kernel,by decide +kernel⟩
theorem iJ:∀ x∈(["some","greatest","powers","number","k","power"]:List Str),L2.Loc (ah cH) x:=by unfold L2.Loc; decide +kernel
noncomputable abbrev jL:=top 4
theorem yI:aI ["powers","width","key","power"] ["powers","width"] (ah jL):=⟨rfl,rfl,rfl,by decide +kernel,rfl,by decide +kernel,by decide +kernel⟩
theorem yJ:∀ x∈(["powers","width","key","power"]:List Str),L2.Loc (ah jL) x:=by unfold L2.Loc; decide +kernel
noncomputable abbrev fK:=top 5
theorem pM:aI ["key","width","mask"] ["key","width"] (ah fK):=⟨rfl,rfl,rfl,by decide +kernel,rfl,by decide +kernel,by decide +kernel⟩
theorem pN:∀ x∈(["key","width","mask"]:List Str),L2.Loc (ah fK) x:=by unfold L2.Loc; decide +kernel
noncomputable abbrev jM:=top 6
theorem yK:aI ["some","width"] ["some","width"] (ah jM):=⟨rfl,rfl,rfl,by decide +kernel,rfl,by decide +kernel,by decide +kernel⟩
theorem yL:∀ x∈(["some","width"]:List Str),L2.Loc (ah jM) x:=by unfold L2.Loc; decide +kernel
noncomputable abbrev gB:=top 7
theorem rZ:aI ["total","width"] ["total","width"] (ah gB):=⟨rfl,rfl,rfl,by decide +kernel,rfl,by decide +kernel,by decide +kernel⟩
theorem r6:∀ x∈(["total","width"]:List Str),L2.Loc (ah gB) x:=by unfold L2.Loc; decide +kernel
noncomputable abbrev dJ:=top 8
theorem kh:aI ["total","left","right","key","number","shift","part","whole"] ["total","left","right"] (ah dJ):=⟨rfl,rfl,rfl,by decide +kernel,rfl,by decide +kernel,by decide +kernel⟩
theorem ki:∀ x∈(["total","left","right","key","number","shift","part","whole"]:List Str),L2.Loc (ah dJ) x:=by unfold L2.Loc; decide +kernel
noncomputable abbrev gC:=top 10
theorem r8:aI ["parts","most","part"] ["parts"] (ah gC):=⟨rfl,rfl,rfl,by decide +kernel,rfl,by decide +kernel,by decide +kernel⟩
theorem r9:∀ x∈(["parts","most","part"]:List Str),L2.Loc (ah gC) x:=by unfold L2.Loc; decide +kernel
noncomputable abbrev gD:=top 11
theorem sd:aI ["whole","part","width","factors","left","right","product"] ["whole","part","width"] (ah gD):=⟨rfl,rfl,rfl,by decide +kernel,rfl,by decide +kernel,by decide +kernel⟩
theorem se:∀ x∈(["whole","part","width","factors","left","right","product"]:List Str),L2.Loc (ah gD) x:=by unfold L2.Loc; decide +kernel
noncomputable abbrev eO:=top 12
theorem mV:aI ["parts","width","whole","part"] ["parts"] (ah eO):=⟨rfl,rfl,rfl,by decide +kernel,rfl,by decide +kernel,by decide +kernel⟩
theorem mW:∀ x∈(["parts","width","whole","part"]:List Str),L2.Loc (ah eO) x:=by unfold L2.Loc; decide +kernel
noncomputable abbrev c8:=top 14
theorem jN:aI ["total","l"] ["total","l"] (ah c8):=⟨rfl,rfl,rfl,by decide +kernel,rfl,by decide +kernel,by decide +kernel⟩
theorem jO:∀ x∈(["total","l"]:List Str),L2.Loc (ah c8) x:=by unfold L2.Loc; decide +kernel
noncomputable abbrev dM:=top 16
theorem kj:aI ["total","o","l"] ["total","o","l"] (ah dM):=⟨rfl,rfl,rfl,by decide +kernel,rfl,by decide +kernel,by decide +kernel⟩
theorem ko:∀ x∈(["total","o","l"]:List Str),L2.Loc (ah dM) x:=by unfold L2.Loc; decide +kernel
noncomputable abbrev cj:=top 17
theorem fV:aI ["total","o","l","square","worth"] ["total","o","l"] (ah cj):=⟨rfl,rfl,rfl,by decide +kernel,rfl,by decide +kernel,by decide +kernel⟩
theorem fW:∀ x∈(["total","o","l","square","worth"]:List Str),L2.Loc (ah cj) x:=by unfold L2.Loc; decide +kernel
noncomputable abbrev cI:=top 18
theorem iK:aI ["o","l"] ["o","l"] (ah cI):=⟨rfl,rfl,rfl,by decide +kernel,rfl,by decide +kernel,by decide +kernel⟩
theorem iL:∀ x∈(["o","l"]:List Str),L2.Loc (ah cI) x:=by unfold L2.Loc; decide +kernel
noncomputable abbrev fL:=top 20
theorem pO:aI ["_law_script","_law_k"] ["_law_script","_law_k"] (ah fL):=⟨rfl,rfl,rfl,by decide +kernel,rfl,by decide +kernel,by decide +kernel⟩
theorem pP:∀ x∈(["_law_script","_law_k"]:List Str),L2.Loc (ah fL) x:=by unfold L2.Loc; decide +kernel
noncomputable abbrev gE:=top 21
theorem sj:aI ["_law_script","_law_k","_law_cell","_law_number"] ["_law_script","_law_k"] (ah gE):=⟨rfl,rfl,rfl,by decide +kernel,rfl,by decide +kernel,by decide +kernel⟩
theorem su:∀ x∈(["_law_script","_law_k","_law_cell","_law_number"]:List Str),L2.Loc (ah gE) x:=by unfold L2.Loc; decide +kernel
noncomputable abbrev iM:=top 22
theorem uG:aI ["_law_terms_here","_law_found","_law_powers","_law_number","_law_key"] ["_law_terms_here"] (ah iM):=⟨rfl,rfl,rfl,by decide +kernel,rfl,by decide +kernel,by decide +kernel⟩
theorem uH:∀ x∈(["_law_terms_here","_law_found","_law_powers","_law_number","_law_key"]:List Str),L2.Loc (ah iM) x:=by unfold L2.Loc; decide +kernel
noncomputable abbrev fM:=top 23
theorem pQ:aI ["_law_factors","_law_found","_law_some_here","_law_terms_here","_law_powers","_law_number","_law_other","_law_count","_law_wide","_law_one","_law_two"] ["_law_factors"] (ah fM):=⟨rfl,rfl,rfl,by decide +kernel,rfl,by decide +kernel,by decide +kernel⟩
theorem pR:∀ x∈(["_law_factors","_law_found","_law_some_here","_law_terms_here","_law_powers","_law_number","_law_other","_law_count","_law_wide","_law_one","_law_two"]:List Str),L2.Loc (ah fM) x:=by unfold L2.Loc; decide +kernel
noncomputable abbrev mj:=top 24
theorem B4:aI ["_law_parts","_law_terms_here","_law_number","_law_factors"] ["_law_parts"] (ah mj):=⟨rfl,rfl,rfl,by decide +kernel,rfl,by decide +kernel,by decide +kernel⟩
theorem B5:∀ x∈(["_law_parts","_law_terms_here","_law_number","_law_factors"]:List Str),L2.Loc (ah mj) x:=by unfold L2.Loc; decide +kernel
noncomputable abbrev jP:=top 25
theorem yM:aI ["_law_number","_law_terms_here","_law_many","_law_k","_law_powers","_law_count"] ["_law_number"] (ah jP):=⟨rfl,rfl,rfl,by decide +kernel,rfl,by decide +kernel,by decide +kernel⟩
theorem yN:∀ x∈(["_law_number","_law_terms_here","_law_many","_law_k","_law_powers","_law_count"]:List Str),L2.Loc (ah jP) x:=by unfold L2.Loc; decide +kernel
noncomputable abbrev gF:=top 26
theorem sA:aI ["_law_script","_law_at","_law_many"] ["_law_script","_law_at","_law_many"] (ah gF):=⟨rfl,rfl,rfl,by decide +kernel,rfl,by decide +kernel,by decide +kernel⟩
theorem sC:∀ x∈(["_law_script","_law_at","_law_many"]:List Str),L2.Loc (ah gF) x:=by unfold L2.Loc; decide +kernel
noncomputable abbrev gG:=top 27
theorem sD:aI ["_law_told"] ["_law_told"] (ah gG):=⟨rfl,rfl,rfl,by decide +kernel,rfl,by decide +kernel,by decide +kernel⟩
theorem sE:∀ x∈(["_law_told"]:List Str),L2.Loc (ah gG) x:=by unfold L2.Loc; decide +kernel
noncomputable abbrev iN:=top 28
theorem uI:aI ["_law_some_here","_law_term","_law_number"] ["_law_some_here"] (ah iN):=⟨rfl,rfl,rfl,by decide +kernel,rfl,by decide +kernel,by decide +kernel⟩
theorem uJ:∀ x∈(["_law_some_here","_law_term","_law_number"]:List Str),L2.Loc (ah iN) x:=by unfold L2.Loc; decide +kernel
noncomputable abbrev jQ:=top 29
theorem yO:aI ["_law_found","_law_due_here","_law_k"] ["_law_found","_law_due_here"] (ah jQ):=⟨rfl,rfl,rfl,by decide +kernel,rfl,by decide +kernel,by decide +kernel⟩
theorem yP:∀ x∈(["_law_found","_law_due_here","_law_k"]:List Str),L2.Loc (ah jQ) x:=by unfold L2.Loc; decide +kernel
noncomputable abbrev iO:=top 30
theorem uK:aI ["_law_found","_law_some_here"] ["_law_found"] (ah iO):=⟨rfl,rfl,rfl,by decide +kernel,rfl,by decide +kernel,by decide +kernel⟩
theorem uL:∀ x∈(["_law_found","_law_some_here"]:List Str),L2.Loc (ah iO) x:=by unfold L2.Loc; decide +kernel
noncomputable abbrev gH:=top 31
theorem sF:aI ["_law_o","_law_a","_law_b","_law_c","_law_place","_law_first","_law_d","_law_e","_law_last","_law_side","_law_some_here","_law_parts"] ["_law_o","_law_a","_law_b","_law_c","_law_place"] (ah gH):=⟨rfl,rfl,rfl,by decide +kernel,rfl,by decide +kernel,by decide +kernel⟩
theorem sG:∀ x∈(["_law_o","_law_a","_law_b","_law_c","_law_place","_law_first","_law_d","_law_e","_law_last","_law_side","_law_some_here","_law_parts"]:List Str),L2.Loc (ah gH) x:=by unfold L2.Loc; decide +kernel
noncomputable abbrev mq:=top 32
theorem B6:aI ["_law_o","_law_l","_law_a","_law_b","_law_c","_law_first"] ["_law_o","_law_l"] (ah mq):=⟨rfl,rfl,rfl,by decide +kernel,rfl,by decide +kernel,by decide +kernel⟩
theorem B7:∀ x∈(["_law_o","_law_l","_law_a","_law_b","_law_c","_law_first"]:List Str),L2.Loc (ah mq) x:=by unfold L2.Loc; decide +kernel
noncomputable abbrev uM:=top 33
theorem Jf:aI ["_law_script","_law_o","_law_l","_law_handed","_law_due_here","_law_found","_law_back","_law_square"] ["_law_script"] (ah uM):=⟨rfl,rfl,rfl,by decide +kernel,rfl,by decide +kernel,by decide +kernel⟩
theorem Jg:∀ x∈(["_law_script","_law_o","_law_l","_law_handed","_law_due_here","_law_found","_law_back","_law_square"]:List Str),L2.Loc (ah uM) x:=by unfold L2.Loc; decide +kernel
local macro_rules | `(tactic| walk_at "side")=> `(tactic| first | omega | assumption | exact lD | exact k9 (R9 rfl) | exact z0 (by decide) (by decide +kernel) | (show tE _ _; exact ⟨by decide,by decide,by decide +kernel⟩))
local macro_rules | `(tactic| walk_at "at")=> `(tactic| with_reducible (repeat (first | exact At.z | apply At.s)))
local macro_rules | `(tactic| walk_at "sset")=> `(tactic| with_reducible (repeat (first | exact SSet.z | apply SSet.s)))
local macro_rules | `(tactic| walk_at "atI")=> `(tactic| first | assumption | rfl)
local macro_rules | `(tactic| walk_at "own")=> `(tactic| walk_at "u")
local macro_rules | `(tactic| walk_at "evSs")=> `(tactic| first
 | with_reducible refine aQ ?_
 | with_reducible refine tP ?_)
local macro_rules | `(tactic| walk_at "evS")=> `(tactic| first
 | ((with_reducible show eS _ (S3 [Ol _ _] _ _) _ _ _); with_reducible refine vB (by walk_at "at") ?_)
 | ((with_reducible show eS _ (Stmt.If _ _ _ _) _ _ _); walk_at "evIf")
 | ((with_reducible show eS _ (Stmt.Expr _ _) _ _ _); walk_at "evXp")
 | ((with_reducible show eS _ (RK (some (Ol _ _)) _) _ _ _); with_reducible refine zZ (by walk_at "at") (by walk_at "at") rfl ?_)
 | ((with_reducible show eS _ (RK (some _) _) _ _ _); with_reducible refine fT ?_)
 | ((with_reducible show eS _ (RK none _) _ _ _); with_reducible refine s_retN ?_)
 | ((with_reducible show eS _ (SI (Ol _ _) SV _ _) _ _ _); with_reducible refine s_addq (by walk_at "at") (by walk_at "at") ?_)
 | ((with_reducible show eS _ (SI (Ol _ _) Operator.Sub _ _) _ _ _); with_reducible refine HJ (by walk_at "at") (by walk_at "at") ?_)
 | ((with_reducible show eS _ (SI (P6 (Ol _ _) _ _) SV _ _) _ _ _); with_reducible refine vK (by walk_at "at") (by walk_at "at") ?_)
 | ((with_reducible show eS _ (S3 [RN [Ol _ _,Ol _ _] _ _] (RN [_,_] _ _) _) _ _ _); with_reducible refine s_par (by walk_at "at") (by walk_at "at") (by decide) ?_)
 | ((with_reducible show eS _ (S3 [RN _ _ _] _ _) _ _ _); with_reducible refine K7 ?_)
 | ((with_reducible show eS _ (S3 [P6 (Ol _ _) _ _] _ _) _ _ _); walk_at "evPut")
 | with_reducible refine s_break ?_
 | with_reducible refine s_continue ?_
 | with_reducible refine s_pass ?_)
local macro_rules | `(tactic| walk_at "evIf")=> `(tactic| with_reducible refine K5 ?_)
local macro_rules | `(tactic| walk_at "evXp")=> `(tactic| with_reducible refine tQ (by walk_at "at") (by walk_at "at") (by walk_at "own") ?_)
local macro_rules | `(tactic| walk_at "evPut")=> `(tactic| with_reducible refine Ib (by walk_at "at") (by walk_at "at") ?_ (ho:=by walk_at "own"))
local macro_rules | `(tactic| walk_at "evK")=> `(tactic| first
 | with_reducible refine KN ?_
 | with_reducible refine M6 ?_
 | with_reducible refine e_non ?_
 | with_reducible refine e_str ?_)
local macro_rules | `(tactic| walk_at "evCm")=> `(tactic| first
 | with_reducible refine e_isN ?_
 | with_reducible refine e_notN ?_
 | with_reducible refine e_lt ?_
 | with_reducible refine Nd ?_
 | with_reducible refine e_ne ?_)
local macro_rules | `(tactic| walk_at "evIx")=> `(tactic| first
 | ((with_reducible show aF _ (P6 _ (Expr.Slice _ _ _ _) _) _ _); with_reducible refine Au ?_)
 | ((with_reducible show aF _ (P6 (Ol _ _) _ _) _ _); with_reducible refine Li (by walk_at "at") (by walk_at "at") (by walk_at "own") (by walk_at "sset") ?_ (by walk_at "at"))
 | ((with_reducible show aF _ (P6 (Ol _ _) _ _) _ _); with_reducible refine e_dix (by walk_at "at") (by walk_at "at") ?_)
 | with_reducible refine Le ?_)
local macro_rules | `(tactic| walk_at "evBo")=> `(tactic| first
 | with_reducible refine HW ?_
 | with_reducible refine KR ?_
 | with_reducible refine KS ?_
 | with_reducible refine KU ?_
 | with_reducible refine HF ?_
 | with_reducible refine KW ?_)
local macro_rules | `(tactic| walk_at "evCa")=> `(tactic| first
 | ((with_reducible show aF _ (OR (Expr.Attribute _ _ _) _ _ _) _ _); walk_at "evMt")
 | ((with_reducible show aF _ (OR (Ol "isinstance" _) _ _ _) _ _); first
  | with_reducible refine oQ (Txt.isin (by assumption)) (Txt.Lj (by assumption)) ?_
  | with_reducible refine oQ (Txt.isin (by assumption)) (Txt.Em (by assumption)) ?_
  | with_reducible refine oQ (Txt.isin (by assumption)) (Txt.Ig (by assumption)) ?_
  | with_reducible refine oQ (Txt.isin (by assumption)) (Txt.Ie (by assumption)) ?_)
 | ((with_reducible show aF _ (OR (Ol "len" _) _ _ _) _ _); first
  | ((with_reducible show aF _ (OR _ [Ol _ _] _ _) _ _); with_reducible refine e_lenO (Txt.len (by assumption)) (by walk_at "at") (by walk_at "at") (by walk_at "own") (by walk_at "sset") ?_)
  | with_reducible refine e_len (Txt.len (by assumption)) ?_)
 | ((with_reducible show aF _ (OR (Ol "tuple" _) _ _ _) _ _); first
  | ((with_reducible show aF _ (OR _ [Ol _ _] _ _) _ _); with_reducible refine e_tupleO (Txt.tuple (by assumption)) (by walk_at "at") (by walk_at "at") (by walk_at "own") (by walk_at "sset") ?_)
  | with_reducible refine kD (Txt.tuple (by assumption)) ?_)
 | ((with_reducible show aF _ (OR (Ol "abs" _) _ _ _) _ _); with_reducible refine e_abs (Txt.abs (by assumption)) ?_)
 | ((with_reducible show aF _ (OR (Ol "int" _) _ _ _) _ _); with_reducible refine e_intB (Txt.int (by assumption)) ?_))
local macro_rules | `(tactic| walk_at "evMt")=> `(tactic| with_reducible refine Ia (by walk_at "at") (by walk_at "at") ?_ (ho:=by walk_at "own"))
local macro_rules | `(tactic| walk_at "evE")=> `(tactic| first
 | ((with_reducible show aF _ (Ol _ _) _ _); with_reducible refine qy (by walk_at "at") (by walk_at "at") ?_)
 | ((with_reducible show aF _ (Expr.Constant _ _ _) _ _); walk_at "evK")
 | ((with_reducible show aF _ (OR _ _ _ _) _ _); walk_at "evCa")
 | ((with_reducible show aF _ (P6 _ _ _) _ _); walk_at "evIx")
 | ((with_reducible show aF _ (RO _ _ _ _) _ _); walk_at "evBo")
 | ((with_reducible show aF _ (Expr.Compare _ _ _ _) _ _); walk_at "evCm")
 | with_reducible refine F2 ?_
 | with_reducible refine HX ?_
 | with_reducible refine KY ?_
 | with_reducible refine e_not ?_
 | with_reducible refine K3 ?_
 | with_reducible refine e_or ?_
 | with_reducible refine K2 ?_
 | with_reducible refine DY ?_)
local macro_rules | `(tactic| walk_at "evX")=> `(tactic| first
 | ((with_reducible show dz _ (Expr.List _ _) _ _); with_reducible refine F3 ?_)
 | ((with_reducible show dz _ (OR _ _ _ _) _ _); walk_at "evXC")
 | ((with_reducible show dz _ (RO _ SV _ _) _ _); with_reducible refine Al ?_)
 | ((with_reducible show dz _ (P6 _ (Expr.Slice _ _ _ _) _) _ _); with_reducible refine vI ?_)
 | with_reducible refine J3 ?_)
local macro_rules | `(tactic| walk_at "evXC")=> `(tactic| first
 | ((with_reducible show dz _ (OR (Ol "list" _) _ _ _) _ _); first
  | ((with_reducible show dz _ (OR _ [Ol _ _] _ _) _ _); with_reducible refine x_listO (Txt.list (by assumption)) (by walk_at "at") (by walk_at "at") (by walk_at "own") (by walk_at "sset") ?_)
  | with_reducible refine Ai (Txt.list (by assumption)) ?_)
 | with_reducible refine J3 ?_)
local macro_rules | `(tactic| walk_at "evT")=> `(tactic| first
 | ((with_reducible show jz _ (Expr.Compare _ _ _ _) _ _); first
  | with_reducible refine t_isN ?_
  | with_reducible refine t_notN ?_
  | with_reducible refine Nc ?_
  | with_reducible refine Nb ?_
  | with_reducible refine M7 ?_
  | with_reducible refine t_le ?_
  | with_reducible refine M8 ?_
  | with_reducible refine M9 ?_
  | with_reducible refine F8 (by walk_at "at") (by walk_at "at") ?_
  | with_reducible refine t_dnotin (by walk_at "at") (by walk_at "at") ?_)
 | with_reducible refine K1 ?_
 | with_reducible refine NC (w_and ?_)
 | with_reducible refine NC (w_or ?_)
 | with_reducible refine K4 ?_)
local macro_rules | `(tactic| walk_at "evW")=> `(tactic| first
 | with_reducible refine w_and ?_
 | with_reducible refine w_or ?_
 | with_reducible refine HG ?_
 | with_reducible refine K0 ?_)
local macro_rules | `(tactic| walk_at "evG")=> `(tactic| first
 | ((with_reducible show nG _ (Ol _ _) _ _ _); with_reducible refine dF (by walk_at "at") ?_)
 | with_reducible refine K6 rfl (by walk_at "u") ?_)
local macro_rules | `(tactic| walk_at "evGs")=> `(tactic| first
 | with_reducible refine HH ?_
 | ((with_reducible show xH _ (_::_) _ _ _); with_reducible refine DZ (by walk_at "at") ?_))
local macro_rules | `(tactic| walk_at "evL")=> `(tactic| first
 | ((with_reducible show Nx _ _ _ _); with_reducible refine xG (by walk_at "sset") ?_)
 | ((with_reducible show Sd _ _); first | with_reducible refine Sd.mk (by walk_at "side") ?_ | with_reducible refine Sd.mk ?_ ?_)
 | ((with_reducible show nI _ _ _); first
  | with_reducible refine KP ?_
  | with_reducible refine KQ ?_
  | with_reducible refine DS ?_
  | with_reducible refine DR (fun h=>?_) (fun h=>?_)
  | with_reducible refine if2 (fun h=>?_) (fun h=>?_))
 | with_reducible refine i2 ?_
 | with_reducible refine i1 ?_
 | with_reducible refine b1 ?_
 | ((with_reducible show DT _ _ _); first
  | with_reducible refine DU ?_
  | with_reducible refine eqp_bl ?_
  | with_reducible refine eqp_str ?_)
 | ((with_reducible show lg _ _ _); first
  | with_reducible refine Av ?_
  | with_reducible refine Aw ?_
  | with_reducible refine Ax ?_)
 | ((with_reducible show F0 _ _); first
  | with_reducible refine F5 ?_
  | with_reducible refine eX ?_)
 | ((with_reducible show IsN _ _); first
  | with_reducible refine isn_t ?_
  | with_reducible refine isn_f (by intro q; cases q) ?_)
 | ((with_reducible show J4 _ _ _); first
  | refine iY (by rfl) ?_
  | refine qC (by rfl) ?_)
 | ((with_reducible show HR _ _ _ _); first
  | with_reducible refine EV.HR.lst ?_
  | with_reducible refine EV.HR.tup ?_)
 | ((with_reducible show ∃ ys,D.row _=some ys∧_); refine xQ (by rfl) ?_)
 | ((with_reducible show ∃ t b,xK _ _ t∧_); first
  | with_reducible refine HY .int Ih ?_
  | with_reducible refine HY .int (Txt.ib (by assumption)) ?_
  | with_reducible refine HY .bl kit_bb ?_
  | with_reducible refine HY .lst Ij ?_
  | with_reducible refine HY .tup Ii ?_)
 | ((with_reducible show ∃ j d,D.int _=D.int j∧_); refine ⟨_,_,rfl,(by walk_at "atI"),?_⟩)
 | ((with_reducible show ∃ r,_∧HK _ _ _ r); walk_at "evR"))
local macro_rules | `(tactic| walk_at "ev1")=> `(tactic| first
 | ((with_reducible show aF _ _ _ _); walk_at "evE")
 | ((with_reducible show dz _ _ _ _); walk_at "evX")
 | ((with_reducible show jz _ _ _ _); walk_at "evT")
 | ((with_reducible show aS _ _ _ _ _); walk_at "evSs")
 | ((with_reducible show eS _ _ _ _ _); walk_at "evS")
 | ((with_reducible show qx _ _ _ _); first | with_reducible refine dU ?_ | with_reducible refine k8 ?_)
 | ((with_reducible show F1 _ _ _ _); walk_at "evW")
 | ((with_reducible show nG _ _ _ _ _); walk_at "evG")
 | ((with_reducible show xH _ _ _ _ _); walk_at "evGs")
 | ((with_reducible show Di _ _ _ _); first | with_reducible refine HP ?_ | with_reducible refine HQ ?_)
 | walk_at "evL")
local macro_rules | `(tactic| walk_at "ev")=> `(tactic| repeat' (walk_at "ev1"))
section
variable {K:NZ}
noncomputable def sH:Fn:=fun ds r=>∃ l:List Int,l.length≤64∧ds=[.tup (l.map .int)]∧r=.ok (.va (.tup ((trim l).map .int)))
theorem Jh (h:l.length≤64):sH [.tup (l.map .int)] (.ok (.va (.tup ((trim l).map .int)))):=⟨l,h,rfl,rfl⟩
theorem B8 {cl:List Int} {j:Int} (h0:0≤j) (h1:j<cl.length) (h:R (.int (cl.getD j.toNat 0))):J4 (.tup (cl.map D.int)) (.int j) R:=by
 refine iY ?_ h
 rw [gR h0 (by simpa using h1)]
 have hj:j.toNat<cl.length:=by lia
 simp [Oa,hj]
theorem Ff (Fu:fS K "trimmed" "trimmed" iH f fd) (T:Txt K mg):bz P w K mg base (dR P w) 1 f fd ["powers"] (fU K sH):=by
 refine dG Fu uE uF (by rintro ds r ⟨a,_,rfl,_⟩; rfl) (by rintro ds r ⟨a,_,_,rfl⟩; exact ⟨_,rfl⟩) fun c hq ds sl hF=>?_
 obtain ⟨l,hl,rfl,e⟩:=hF
 injection e with e
 subst e
 show aS c _ [.va (.tup (l.map .int)),.un] _ _
 conv in (aA _)=>whnf
 walk_at "ev"
 with_reducible refine vC hq (fun m ρ'=>m≤l.length∧trim (l.take m)=trim l∧ρ'=[.va (.tup (l.map .int)),.va (.int (m:Int))]) (m₀:=l.length) ?_ ?_
 ·refine ⟨N2 _,by rw [OW],?_⟩
  rw [N6]
 ·rintro m ρ' ⟨hm,ht,rfl⟩
  walk_at "ev"
  ·refine B8 (by lia) (by lia) ?_
   have hk:((m:Int) - 1).toNat=m - 1:=by lia
   rw [hk]
   have hm1:m - 1+1=m:=by lia
   walk_at "ev"
   ·exact ⟨m - 1,by lia,by lia,nY (by lia) (by assumption) (by rw [hm1]; exact ht),by rw [show ((m - 1:Nat):Int)=(m:Int) - 1 by lia]⟩
   ·show Sl.va _=Sl.va _
    rw [qM,A7 _ hm]
    have:=jH (l:=l) (m:=m - 1) (by lia) (by assumption) (by rw [hm1]; exact ht)
    rw [hm1] at this
    rw [this]
  ·show Sl.va _=Sl.va _
   have:m=0:=by lia
   subst this
   rw [qM,A7 _ hm,← ht]
   rfl
theorem jR (x):(aM x).nl:=tU (by unfold D.p6; exact ⟨tU (El _),dO (f:=D.int) (l:=[x.2]) fun _ _=>lD⟩)
noncomputable def Fg (t:aG):Option D:=if t.2≠0 then some (aM t) else none
theorem kN:∀ L:List aG,(L.map Fg).filterMap id=(nz L).map aM
 | []=>rfl
 | t::L=>by
  unfold nz
  by_cases h:t.2=0
  ·simp only [N5,Fg,h,ne_eq,not_true,if_false,Pn,id,List.filter_cons,bne_self_eq_false,OV]
   exact kN L
  ·have hb:(t.2 != 0)=true:=by simpa using h
   rw [List.filter_cons,if_pos hb,N5,N5,Pn]
   simp only [Fg,ne_eq,h,not_false_eq_true,if_true,id]
   rw [kN L]; rfl
noncomputable def pS:Fn:=fun ds r=>∃ ts:List aG,ts.length≤20000∧(∀ t∈ts,t.1.length≤64)∧ds=[.lst (ts.map aM)]∧r=.ok (.ow ((fh (nz (aJ ts))).map aM))
theorem uN (h:ts.length≤20000) (h2:∀ t∈ts,t.1.length≤64):pS [.lst (ts.map aM)] (.ok (.ow ((fh (nz (aJ ts))).map aM))):=⟨ts,h,h2,rfl,rfl⟩
theorem B9 (l m):cP (l,0) (m,0)=HT.lexLt l m:=by
 unfold cP
 by_cases e:l=m
 ·subst e; rw [if_pos rfl,EV.kJ]; rfl
 ·rw [if_neg e]
theorem uO (hk:(A.map (·.1)).Nodup) (hp:L.Perm (A.map (·.1))) (hs:fF HT.lexLt false L):L.reverse=(fh A).map (·.1):=by
 have h:(L.reverse.map fun l=>((l,0):aG))=((fh A).map (·.1)).map fun l=>((l,0):aG):=by
  refine lX (((Ss L).trans (hp.trans ((bB A).map _).symm)).map _) ?_ ?_
  ·unfold jg fF at *
   rw [P5,List.pairwise_reverse]
   exact hs.imp fun h=>by simpa [B9] using h
  ·have ho:jg true (fh A):=gW (keys_nodup hk)
   have hn:((fh A).map (·.1)).Nodup:=((bB A).map _).nodup_iff.mpr hk
   unfold jg fF RL at *
   rw [P5] at hn
   rw [P5,P5]
   refine ho.imp₂ (fun x y h q=>?_) hn
   simp only [if_true] at h ⊢
   rw [B9]
   unfold cP at h
   rw [if_neg fun z=>q z.symm] at h
   exact h
 have:=congrArg (List.map (·.1)) h
 rw [Ou,Ou] at this
 exact ((List.map_id _).symm.trans this).trans (List.map_id _)
theorem Ca {l:List Int} (h:m<l.length):jr ((l.take (m+1)).map D.int) (-1)=some (.int (l.getD m 0)):=by
 have hl:(l.take (m+1)).length=m+1:=by simp; lia
 rw [vP (by decide) (by simp only [N6,hl]; lia),N6,hl]
 have e:(-1+((m+1:Nat):Int)).toNat=m:=by lia
 rw [e,Oa,List.getElem?_take]
 simp [O7,h]
theorem Ji (xs:List α):EV.cutD xs none (some (-1))=xs.dropLast:=by
 unfold EV.cutD HT.cu
 rw [List.dropLast_eq_take]
 simp only [List.drop_zero]
 congr 1
 split <;> lia
section
local macro_rules | `(tactic| walk_at "evIx")=> `(tactic| first | ((with_reducible show aF _ (P6 _ (Ol _ _) _) _ _); with_reducible refine Je ?_))
local macro_rules | `(tactic| walk_at "evX")=> `(tactic| first | ((with_reducible show dz _ (Expr.Dict _ _ _) _ _); with_reducible refine Eg ?_))
theorem Cb (Fu:fS K "_law_plain" "_law_plain" iM f fd) (T:Txt K mg):bz P w K mg base (dR P w) 1 f fd ["_law_terms_here"] (fU K pS):=by
 refine dG Fu uG uH (by rintro ds r ⟨n,_,_,rfl,_⟩; rfl) (by rintro ds r ⟨n,_,_,_,rfl⟩; exact ⟨_,rfl⟩) fun c hq ds sl hF=>?_
 obtain ⟨ts,hl,hlen,rfl,e⟩:=hF
 injection e with e
 subst e
 show aS c _ [.va (.lst (ts.map aM)),.un,.un,.un,.un] _ _
 conv in (aA _)=>whnf
 walk_at "ev"
 with_reducible refine cX hq (cy ?_)
 walk_at "ev"
 refine ⟨fun i ρ'=>∃ s2 s3 s4:Sl,ρ'=[.va (.lst (ts.map aM)),.oT (encA (aJ (ts.take i))),s2,s3,s4],⟨_,_,_,rfl⟩,?_,?_⟩
 ·rintro c' pZ zd ze i d ρ' hd ⟨s2,s3,s4,rfl⟩
  simp only [Oa,Og] at hd
  obtain ⟨t,ht,rfl⟩:=hd
  obtain ⟨hi,rfl⟩:=Ob.mp ht
  have h6:=hlen _ (OD hi)
  have hsz:(aJ (ts.take i)).length<sizeLine:=iG (by have:=gU (ts.take i); rw [Pb] at this; lia)
  have e:aJ (ts.take (i+1))=putD (aJ (ts.take i)) (trim ts[i].1) ((bx (aJ (ts.take i)) (trim ts[i].1)).getD 0+ts[i].2):=by
   rw [O0 hi,rD]; rfl
  have hq':c'.X.xe=fun _ _=>False:=by rw [pZ]; exact hq
  generalize aJ (ts.take i)=A at hsz e ⊢
  generalize ts[i]=t at h6 e ⊢
  show nG c' _ (D.tup [.tup (t.1.map .int),.int t.2]) _ _
  walk_at "ev"
  with_reducible refine vC hq' (fun m ρ'=>m≤t.1.length∧trim (t.1.take m)=trim t.1∧ρ'=[.va (.lst (ts.map aM)),.oT (encA A),.va (.tup (t.1.map .int)),.va (.int t.2),.va (.tup ((t.1.take m).map .int))]) (m₀:=t.1.length) ?_ ?_
  ·exact ⟨N2 _,by rw [OW],by rw [OW]⟩
  ·rintro m ρ' ⟨hm,ht,rfl⟩
   have hL:((t.1.take m).map D.int).length=m:=by simp; lia
   walk_at "ev"
   ·rw [hL] at *
    obtain ⟨n,rfl⟩:∃ n,m=n+1:=⟨m - 1,by omega⟩
    refine iY (Ca (by omega)) ?_
    walk_at "ev"
    ·refine ⟨n,by omega,by omega,nY (by omega) (by assumption) ht,?_⟩
     rw [Ji,jG (by omega),ON,List.map_singleton,List.dropLast_concat]
    ·have eT:t.1.take (n+1)=trim t.1:=by first | exact jH (by omega) (by assumption) ht | exact (jH (by omega) (by assumption) ht).symm
     rw [eT]
     refine ⟨_,Bb (A:=A) rfl _,?_⟩
     rw [rE]
     walk_at "ev"
     refine ⟨_,Bc hsz,?_⟩
     walk_at "ev"
     show ∃ s2 s3 s4:Sl,_=[_,Sl.oT (encA (aJ (ts.take (i+1)))),s2,s3,s4]
     rw [e]
     exact ⟨_,_,_,rfl⟩
   ·have:m=0:=by rw [hL] at *; omega
    subst this
    have eT:t.1.take 0=trim t.1:=ht
    rw [eT]
    refine ⟨_,Bb (A:=A) rfl _,?_⟩
    rw [rE]
    walk_at "ev"
    refine ⟨_,Bc hsz,?_⟩
    walk_at "ev"
    show ∃ s2 s3 s4:Sl,_=[_,Sl.oT (encA (aJ (ts.take (i+1)))),s2,s3,s4]
    rw [e]
    exact ⟨_,_,_,rfl⟩
 ·rintro ρ' ⟨s2,s3,s4,rfl⟩
  rw [N6,OW]
  have hn:=keys_nodup (dY ts)
  have hn':=dY ts
  have hle:=gU ts
  with_reducible refine aQ ?_
  with_reducible refine fT ?_
  refine tW 1 (by walk_at "at") (encK _) (by walk_at "sset") (dW hq (N':=["_law_key","_law_found"]) (ρ0:=fun _=>[.un,.va (D.fdT ((aJ ts).map fun t=>t.1.map Om) ((aJ ts).map fun t=>D.int t.2))]) (fun t=>.un (.fr (by walk_at "at") (by walk_at "at") (by decide) rfl .nil)) (cy (e_x (LK ?_))))
  refine e_x (BZ (Txt.sorted T) ?_)
  walk_at "ev"
  refine ⟨(aJ ts).map (·.1),_,by rw [Ou]; rfl,hn',fun L' hp hs=>?_⟩
  have eL:=uO hn' hp hs
  have hpl:=(bB (aJ ts)).length_eq
  refine eX ?_
  walk_at "ev"
  refine ⟨rfl,rfl,rfl,_,rfl,?_⟩
  rw [← List.map_reverse,eL]
  refine eX (xQ rfl ⟨uq (by simp only [N6]; omega),(fh (aJ ts)).map Fg,by simp,?_,?_⟩)
  ·intro c' hc t i d o hd ho
   simp only [Oa,Og] at hd ho
   obtain ⟨n,⟨x,hx,rfl⟩,rfl⟩:=hd
   obtain ⟨x',hx',rfl⟩:=ho
   rw [hx] at hx'; cases hx'
   have hm:x∈aJ ts:=(bB (aJ ts)).subset (O9 hx)
   have hv:bx (encA (aJ ts)) (x.1.map Om)=some (.int x.2):=by
    rw [o9,pF hn' hm]; rfl
   refine dF (by walk_at "at") (xG (by walk_at "sset") ⟨.un (.same .nil),?_⟩)
   simp only [sX]
   walk_at "ev"
   refine ⟨encA (aJ ts),_,_,_,?_,rfl,ff x.1,hv,?_⟩
   ·show _=D.fdT (((aJ ts).map _).map _) (((aJ ts).map _).map _)
    rw [Ou,Ou]; rfl
   walk_at "ev"
   ·unfold Fg; rw [if_neg fun h=>h (by assumption)]
   refine ⟨encA (aJ ts),_,_,_,?_,rfl,ff x.1,hv,?_⟩
   ·show _=D.fdT (((aJ ts).map _).map _) (((aJ ts).map _).map _)
    rw [Ou,Ou]; rfl
   walk_at "ev"
   unfold Fg
   rw [if_pos (by assumption)]
  ·rw [kN,Ba (keys_nodup hn')]
   exact ⟨dO fun x _=>jR x,rfl⟩
end
end
section
variable {K:NZ}
noncomputable def Fi (p:List Int) (g:Nat→Int) (k:Nat):Int:=if bR p k>g k then bR p k else g k
noncomputable def gk (L:List aG) (k:Nat):Int:=L.foldl (fun a t=>if bR t.1 k>a then bR t.1 k else a) 0
noncomputable def d8 (L:List aG):List Int:=(OP 6).map (gk L)
noncomputable def iP (p:List Int) (g:Nat→Int) (j k:Nat):Int:=if k<j then Fi p g k else g k
theorem wQ (L:List aG) (k):∀ a:Int,a≤L.foldl (fun a t=>if bR t.1 k>a then bR t.1 k else a) a:=by
 induction L with
 | nil=>exact fun a=>Pj _
 | cons t L ih =>
  intro a
  rw [Pp]
  refine OG ?_ (ih _)
  split <;> lia
theorem Gs (L) (k):0≤gk L k:=wQ L k 0
theorem Fj (L) (t):gk (L++[t])=Fi t.1 (gk L):=by
 funext k
 unfold gk Fi
 rw [T8]; rfl
theorem Fl:iP p (gk L) p.length=Fi p (gk L):=by
 funext k
 unfold iP
 split
 ·rfl
 ·unfold Fi
  rw [cQ (by lia)]
  have:=Gs L k
  rw [if_neg (by lia)]
theorem Cc (p) (g):iP p g 0=g:=by funext k; unfold iP; rw [if_neg (by lia)]
noncomputable def fN (g:Nat→Int):List D:=((OP 6).map g).map D.int
theorem Cd (p) (g) (h:j<6) (q:Fi p g j=bR p j):(fN (iP p g j)).set j (.int (bR p j))=fN (iP p g (j+1)):=by
 refine Sz (by simp [fN]) fun i h1 h2=>?_
 have hi:i<6:=by simpa [fN] using h2
 rw [List.getElem_set]
 simp only [fN,Ud,TU]
 unfold iP
 by_cases e:j=i
 ·subst e
  rw [if_pos rfl,if_pos (by lia),q]
 ·rw [if_neg e]
  by_cases z:i<j
  ·rw [if_pos z,if_pos (by lia)]
  ·rw [if_neg z,if_neg (by lia)]
theorem yQ (p) (g) (q:Fi p g j=g j):fN (iP p g j)=fN (iP p g (j+1)):=by
 unfold fN
 congr 1
 refine P1 fun i _=>?_
 unfold iP
 by_cases z:i<j
 ·rw [if_pos z,if_pos (by lia)]
 ·by_cases e:i=j
  ·subst e; rw [if_neg z,if_pos (by lia),q]
  ·rw [if_neg z,if_neg (by lia)]
theorem Fo (g) {j:Nat} (h:j<6):jr (fN g) (j:Int)=some (.int (g j)):=by
 rw [gR (by lia) (by simp [fN]; lia),O1]
 simp [fN,h]
noncomputable def mw:Fn:=fun ds r=>∃ L:List aG,(∀ t∈L,t.1.length≤6)∧ds=[.lst (L.map aM)]∧r=.ok (.ow (fN (gk L)))
theorem Fq (h:∀ t∈L,t.1.length≤6):mw [.lst (L.map aM)] (.ok (.ow (fN (gk L)))):=⟨L,h,rfl,rfl⟩
section
local macro_rules | `(tactic| walk_at "evPut")=> `(tactic| with_reducible refine Iw (by walk_at "at") (by walk_at "at") (by walk_at "own") ?_)
local macro_rules | `(tactic| walk_at "evX")=> `(tactic| first | ((with_reducible show dz _ (RO _ Operator.Mult _ _) _ _); with_reducible refine Lw ?_))
local macro_rules | `(tactic| walk_at "evE")=> `(tactic| first | ((with_reducible show aF _ (Ol "PLACES" _) _ _); with_reducible refine tO (by assumption) ?_))
theorem Ce (Fu:fS K "greatest_powers" "greatest_powers" cH f fd) (T:Txt K mg) (PL:∃ tk:Tok,mg "PLACES"=some (.int 6 tk)):bz P w K mg base (dR P w) 1 f fd ["some"] (fU K mw):=by
 obtain ⟨tk,hPL⟩:=PL
 refine dG Fu iI iJ (by rintro ds r ⟨L,_,rfl,_⟩; rfl) (by rintro ds r ⟨L,_,_,rfl⟩; exact ⟨_,rfl⟩) fun c hq ds sl hF=>?_
 obtain ⟨L,hl,rfl,e⟩:=hF
 injection e with e
 subst e
 show aS c _ [.va (.lst (L.map aM)),.un,.un,.un,.un,.un] _ _
 conv in (aA _)=>whnf
 walk_at "ev"
 refine ⟨_,rfl,?_⟩
 walk_at "ev"
 ·exact ⟨⟨by decide,by decide⟩,by decide⟩
 walk_at "ev"
 show eS c _ [.va (.lst (L.map aM)),.ow (fN (gk [])),.un,.un,.un,.un] _ _
 with_reducible refine cX hq (cy ?_)
 walk_at "ev"
 refine ⟨fun i ρ'=>∃ s2 s3 s4 s5:Sl,ρ'=[.va (.lst (L.map aM)),.ow (fN (gk (L.take i))),s2,s3,s4,s5],⟨_,_,_,_,rfl⟩,?_,?_⟩
 ·rintro c' pZ zd ze i d ρ' hd ⟨s2,s3,s4,s5,rfl⟩
  simp only [Oa,Og] at hd
  obtain ⟨t,ht,rfl⟩:=hd
  obtain ⟨hi,rfl⟩:=Ob.mp ht
  have h6:=hl _ (OD hi)
  have hq':c'.X.xe=fun _ _=>False:=by rw [pZ]; exact hq
  show nG c' _ (D.tup [.tup (L[i].1.map .int),.int L[i].2]) _ _
  walk_at "ev"
  have eg:gk (L.take (i+1))=iP L[i].1 (gk (L.take i)) L[i].1.length:=by rw [O0 hi,Fj,Fl]
  generalize L[i]=t at h6 eg ⊢
  generalize gk (L.take i)=g at eg ⊢
  with_reducible refine cX hq' (ID (Txt.enum (by assumption)) ?_)
  walk_at "ev"
  refine ⟨_,rfl,?_⟩
  refine ⟨fun j ρ'=>∃ s4 s5:Sl,ρ'=[.va (.lst (L.map aM)),.ow (fN (iP t.1 g j)),.va (.tup (t.1.map .int)),.va (.int t.2),s4,s5],⟨s4,s5,by rw [Cc]⟩,?_,?_⟩
  ·rintro c2 hcX2 hcR2 hcM2 j d ρ' hd ⟨s4,s5,rfl⟩
   unfold l5 at hd
   simp only [Oa,Og,List.getElem?_zipIdx] at hd
   obtain ⟨⟨x,m⟩,⟨y,⟨z,hz,rfl⟩,e⟩,rfl⟩:=hd
   obtain ⟨rfl,rfl⟩:D.int z=x∧0+j=m:=by simpa using e
   obtain ⟨hj,rfl⟩:=Ob.mp hz
   have hj6:j<6:=by lia
   have ha:jr (fN (iP t.1 g j)) (((0+j:Nat):Int))=some (.int (g j)):=by
    rw [Qm,Fo _ hj6]; unfold iP; rw [if_neg (by lia)]
   have ep:bR t.1 j=t.1[j]:=dH hj
   have hj0:0+j=j:=Qm j
   rw [hj0] at ha ⊢
   show nG c2 _ (D.tup [.int (j:Nat),.int t.1[j]]) _ _
   walk_at "ev"
   ·refine ⟨j,rfl,⟨by simp [fN]; lia,?_⟩⟩
    walk_at "ev"
    refine ⟨.va (.int (j:Nat)),.va (.int t.1[j]),?_⟩
    show [_,Sl.ow ((fN (iP t.1 g j)).set j (.int t.1[j])),_,_,_,_]=_
    rw [← ep,Cd t.1 g hj6 (by unfold Fi; rw [ep,if_pos (by assumption)])]
   ·refine ⟨.va (.int (j:Nat)),.va (.int t.1[j]),?_⟩
    rw [yQ t.1 g (by unfold Fi; rw [ep,if_neg (by assumption)])]
  ·rintro ρ' ⟨s4,s5,rfl⟩
   rw [show (l5 (t.1.map D.int)).length=t.1.length by simp [l5]]
   walk_at "ev"
   exact ⟨_,_,_,_,by rw [eg]⟩
 ·rintro ρ' ⟨s2,s3,s4,s5,rfl⟩
  rw [N6,OW]
  walk_at "ev"
  rfl
end
noncomputable def Dl (ns:List Int):Int:=ns.foldr max 0
theorem Cf:∀ {ns:List Int} {n:Int},n∈ns→n≤Dl ns
 | x::ns,n,h=>by
  show n≤max x (Dl ns)
  rcases Oh.mp h with rfl | h
  ·lia
  ·have:=Cf h; lia
theorem Gu:∀ (ns:List Int),0≤Dl ns
 | []=>Pj _
 | x::ns=>by show 0≤max x (Dl ns); have:=Gu ns; lia
theorem uP:∀ {ns:List Int} {m:Int},0≤m→(∀ n∈ns,n≤m)→Dl ns≤m
 | [],_,h,_=>h
 | x::ns,m,h0,h=>by
  show max x (Dl ns)≤m
  have:=uP h0 fun n hn=>h n (Oe _ hn)
  have:=h x Od
  lia
theorem Cg (h:m∈d8 L) (h2:∀ n∈d8 L,n≤m):m=Dl (d8 L):=by
 have h0:0≤m:=by
  unfold d8 at h
  obtain ⟨k,_,rfl⟩:=OF.mp h
  exact Gs L k
 exact Int.le_antisymm (Cf h) (uP h0 h2)
end
section
variable {K:NZ}
noncomputable def Ci:Fn:=fun ds r=>∃ (p:List Int) (W:Nat),W≤10∧Bd (2 ^ W) p∧ds=[.tup (p.map .int),.int (W:Nat)]∧r=.ok (.va (.int (pk (2 ^ W) p)))
theorem LL (h:W≤10) (h2:Bd (2 ^ W) p):Ci [.tup (p.map .int),.int (W:Nat)] (.ok (.va (.int (pk (2 ^ W) p)))):=⟨p,W,h,h2,rfl,rfl⟩
section
local macro_rules | `(tactic| walk_at "evE")=> `(tactic| first | ((with_reducible show aF _ (Ol "PLACES" _) _ _); with_reducible refine tO (by assumption) ?_))
local macro_rules | `(tactic| walk_at "evBo")=> `(tactic| first | with_reducible refine Gg ?_ | with_reducible refine Gh ?_ | with_reducible refine Bg ?_)
theorem Jj (Fu:fS K "key_of" "key_of" jL f fd) (T:Txt K mg) (PL:∃ tk:Tok,mg "PLACES"=some (.int 6 tk)):bz P w K mg base (dR P w) 1 f fd ["powers","width"] (fU K Ci):=by
 obtain ⟨tk,hPL⟩:=PL
 refine dG Fu yI yJ (by rintro ds r ⟨p,W,_,_,rfl,_⟩; rfl) (by rintro ds r ⟨p,W,_,_,_,rfl⟩; exact ⟨_,rfl⟩) fun c hq ds sl hF=>?_
 obtain ⟨p,W,hW,hp,rfl,e⟩:=hF
 injection e with e
 subst e
 have h6:=hp.1
 show aS c _ [.va (.tup (p.map .int)),.va (.int (W:Nat)),.un,.un] _ _
 conv in (aA _)=>whnf
 walk_at "ev"
 with_reducible refine cX hq (cy ?_)
 walk_at "ev"
 refine ⟨fun i ρ'=>∃ s3:Sl,ρ'=[.va (.tup (p.map .int)),.va (.int (W:Nat)),.va (.int (EZ (2 ^ W) (p.take i))),s3],⟨_,rfl⟩,?_,?_⟩
 ·rintro c' pZ zd ze i d ρ' hd ⟨s3,rfl⟩
  simp only [Oa,Og] at hd
  obtain ⟨x,hx,rfl⟩:=hd
  obtain ⟨hi,rfl⟩:=Ob.mp hx
  have bd:=Bu (two_pos W) (p:=p.take i) fun x hx=>hp.2 x (Sf hx)
  have hl:(p.take i).length≤6:=by rw [Pb]; lia
  walk_at "ev"
  ·exact ⟨by lia,by lia,wF hW hl bd.1 bd.2⟩
  ·refine ⟨.va (.int p[i]),?_⟩
   rw [O0 hi,Bt,O1]
 ·rintro ρ' ⟨s3,rfl⟩
  rw [N6,OW]
  have bd:=Bu (two_pos W) hp.2
  have ew:(W:Int) * (6 - ((p.map D.int).length:Nat))=((W * (6 - p.length):Nat):Int):=by
   rw [N6,Int.natCast_mul,Int.ofNat_sub h6]; rfl
  have ew2:W * (6 - p.length)≤60:=N8 (Qi hW (Nat.sub_le 6 _)) (by decide)
  walk_at "ev"
  ·exact qO (by lia)
  ·rw [ew]; exact ⟨by lia,by lia,wF hW h6 bd.1 bd.2⟩
  ·show Sl.va _=Sl.va _
   rw [ew,O1,Int.pow_mul,IM h6]
end
theorem cS {α:Type} (f:α→D):∀ L:List α,(L.map fun t=>some (f t)).filterMap id=L.map f
 | []=>rfl
 | x::L=>by
  rw [N5,N5,Pn]
  exact congrArg (f x:: ·) (cS f L)
noncomputable def sI:Fn:=fun ds r=>∃ (x:Int) (W:Nat),W≤10∧0≤x∧ds=[.int x,.int (W:Nat)]∧r=.ok (.va (.tup ((Mq (2 ^ W) x).map .int)))
theorem Jk (h:W≤10) (h2:0≤x):sI [.int x,.int (W:Nat)] (.ok (.va (.tup ((Mq (2 ^ W) x).map .int)))):=⟨x,W,h,h2,rfl,rfl⟩
section
local macro_rules | `(tactic| walk_at "evE")=> `(tactic| first | ((with_reducible show aF _ (Ol "PLACES" _) _ _); with_reducible refine tO (by assumption) ?_))
local macro_rules | `(tactic| walk_at "evBo")=> `(tactic| first | with_reducible refine Gg ?_ | with_reducible refine Gh ?_ | with_reducible refine Bg ?_)
local macro_rules | `(tactic| walk_at "evXC")=> `(tactic| first | with_reducible refine x_call (F:=sH) (by assumption) (by decide) ?_)
theorem Ft (Fu:fS K "powers_of" "powers_of" fK f fd) (T:Txt K mg) (PL:∃ tk:Tok,mg "PLACES"=some (.int 6 tk)) (h1:cV P w K mg base 1 "trimmed" sH):bz P w K mg base (dR P w) 2 f fd ["key","width"] (fU K sI):=by
 obtain ⟨tk,hPL⟩:=PL
 refine dG Fu pM pN (by rintro ds r ⟨x,W,_,_,rfl,_⟩; rfl) (by rintro ds r ⟨x,W,_,_,_,rfl⟩; exact ⟨_,rfl⟩) fun c hq ds sl hF=>?_
 obtain ⟨x,W,hW,hx,rfl,e⟩:=hF
 injection e with e
 subst e
 show aS c _ [.va (.int x),.va (.int (W:Nat)),.un] _ _
 conv in (aA _)=>whnf
 walk_at "ev"
 ·exact ⟨by lia,by lia,by decide⟩
 walk_at "ev"
 rw [O1]
 refine e_x (dW hq (N':=["k","key","mask","width"]) (ρ0:=fun _=>[.un,.va (.int x),.va (.int (1 * 2 ^ W - 1)),.va (.int (W:Nat))]) (fun t=>.un (.fr (by walk_at "at") (by walk_at "at") (by decide) rfl (.fr (by walk_at "at") (by walk_at "at") (by decide) rfl (.fr (by walk_at "at") (by walk_at "at") (by decide) rfl .nil)))) (IF (Txt.range T) ?_))
 walk_at "ev"
 refine ⟨rfl,⟨⟨by decide,by decide⟩,⟨⟨by decide,by decide⟩,⟨by decide,?_⟩⟩⟩⟩
 refine ⟨(OP 6).map fun (i:Nat)=>some (.int (x / (2 ^ W) ^ (5 - i) % 2 ^ W)),rfl,?_,eX ?_⟩
 ·intro c' hc t i d o hd ho
  unfold Bl at hd
  simp only [Oa,Og] at hd ho
  obtain ⟨a,ha,rfl⟩:=hd
  obtain ⟨a',ha',rfl⟩:=ho
  have hi:i<6:=by simpa using (Ob.mp ha').1
  rw [Q0 hi] at ha'; cases ha'
  rw [show (6 - 1 - -1:Int).toNat=6 by decide,Q0 hi] at ha; cases ha
  refine dF (by walk_at "at") (xG (by walk_at "sset") ⟨.un (.same (.same (.same .nil))),?_⟩)
  simp only [sX]
  refine ⟨fun _=>?_,fun h=>by cases h⟩
  have e5:((W:Int) * (6 - 1 - (i:Int))).toNat=W * (5 - i):=by
   rw [show ((6:Int) - 1 - (i:Int))=((5 - i:Nat):Int) by lia,← Int.natCast_mul,O1]
  have e6:(0:Int)≤(W:Int) * (6 - 1 - (i:Int)):=Int.mul_nonneg (by lia) (by lia)
  have hp:(0:Int)<(2 ^ W) ^ (5 - i):=QJ (two_pos W)
  walk_at "ev"
  ·exact qO (by lia)
  ·show some _=some (D.int _)
   rw [e5,Int.pow_mul,yr W (Int.ediv_nonneg hx (by lia))]
 ·refine ⟨_,rfl,?_⟩
  rw [cS (fun (i:Nat)=>D.int (x / (2 ^ W) ^ (5 - i) % 2 ^ W)) (OP 6),show ((OP 6).map fun (i:Nat)=>D.int (x / (2 ^ W) ^ (5 - i) % 2 ^ W))=((OP 6).map fun (i:Nat)=>x / (2 ^ W) ^ (5 - i) % 2 ^ W).map D.int by rw [Ou]; rfl]
  walk_at "ev"
  exact aW (Jh (by simp)) rfl
end
noncomputable def sJ (b:Int) (t:aG):D:=.tup [.int (pk b t.1),.int t.2]
noncomputable def sL:Fn:=fun ds r=>∃ (L:List aG) (W:Nat),W≤10∧L.length≤20000∧(∀ t∈L,Bd (2 ^ W) t.1)∧ds=[.lst (L.map aM),.int (W:Nat)]∧r=.ok (.ow (L.map (sJ (2 ^ W))))
theorem Jl {L:List aG} (h:W≤10) (h1:L.length≤20000) (h2:∀ t∈L,Bd (2 ^ W) t.1):sL [.lst (L.map aM),.int (W:Nat)] (.ok (.ow (L.map (sJ (2 ^ W))))):=⟨L,W,h,h1,h2,rfl,rfl⟩
section
local macro_rules | `(tactic| walk_at "evCa")=> `(tactic| first | with_reducible refine b9 (F:=Ci) (by assumption) (by decide) ?_)
theorem Fv (Fu:fS K "packed" "packed" jM f fd) (T:Txt K mg) (h1:cV P w K mg base 1 "key_of" Ci):bz P w K mg base (dR P w) 2 f fd ["some","width"] (fU K sL):=by
 refine dG Fu yK yL (by rintro ds r ⟨L,W,_,_,_,rfl,_⟩; rfl) (by rintro ds r ⟨L,W,_,_,_,_,rfl⟩; exact ⟨_,rfl⟩) fun c hq ds sl hF=>?_
 obtain ⟨L,W,hW,hL,hb,rfl,e⟩:=hF
 injection e with e
 subst e
 show aS c _ [.va (.lst (L.map aM)),.va (.int (W:Nat))] _ _
 conv in (aA _)=>whnf
 refine aQ (fT (dW hq (N':=["powers","number","width"]) (ρ0:=fun _=>[.un,.un,.va (.int (W:Nat))]) (fun t=>.un (.un (.fr (by walk_at "at") (by walk_at "at") (by decide) rfl .nil))) (cy ?_)))
 walk_at "ev"
 ·exact uq (by rw [N6]; lia)
 refine ⟨L.map fun t=>some (sJ (2 ^ W) t),by simp,?_,by show Sl.ow _=Sl.ow _; rw [cS]⟩
 intro c' hc t i d o hd ho
 simp only [Oa,Og] at hd ho
 obtain ⟨x,hx,rfl⟩:=hd
 obtain ⟨x',hx',rfl⟩:=ho
 rw [hx] at hx'; cases hx'
 have hbx:=hb x (O9 hx)
 show nG c' _ (.tup [.tup (x.1.map .int),.int x.2]) _ _
 walk_at "ev"
 refine ⟨.un (.un (.same .nil)),?_⟩
 simp only [sX]
 refine ⟨fun _=>?_,fun h=>by cases h⟩
 walk_at "ev"
 refine aW (LL hW hbx) ?_
 walk_at "ev"
 rfl
end
end
section
variable {P:Program} {w:World} {K:NZ} {mg:Str→Option Value} {base:Heap}
noncomputable def Fw:Mp:=fun kvs ds Z=>∃ (ts A B:List aG) (W:Nat),W≤10∧ts.length+A.length * B.length≤20000∧A.length≤20000∧B.length≤20000∧(∀ t∈ts,Bd (2 ^ W) t.1)∧(∀ l∈A,∀ r∈B,Bd (2 ^ W) (cC l.1 r.1)∧EV.MulOk l.2 r.2) ∧
 kvs=cL ((aJ ts).map (gv (2 ^ W)))∧ds=[.lst (A.map (sJ (2 ^ W))),.lst (B.map (sJ (2 ^ W)))]∧Z=fun kvs'=>kvs'=cL ((aJ (ts++aL A B)).map (gv (2 ^ W)))
section
local macro_rules | `(tactic| walk_at "evS")=> `(tactic| first | ((with_reducible show eS _ (SI (P6 (Ol _ _) _ _) SV _ _) _ _ _); with_reducible refine vK (by walk_at "at") (by walk_at "at") ?_ (ho:=by walk_at "own")))
theorem Jm (Fu:fS K "add_products" "add_products" dJ f fd) (T:Txt K mg):bz P w K mg base (dR P w) 1 f fd ["total","left","right"] (Iu K Fw):=by
 refine Lu Fu kh ki (by rintro kvs ds Z ⟨t0,A,B,W,_,_,_,_,_,_,_,rfl,_⟩; rfl) fun c hq q kvs ds Z hF=>?_
 obtain ⟨t0,A,B,W,hW,hl,hA,hB,hb0,hp,rfl,rfl,rfl⟩:=hF
 have e00:t0=t0++aL (A.take 0) B:=by show t0=t0++[]; rw [O5]
 rw [show cL ((aJ t0).map (gv (2 ^ W)))=cL ((aJ (t0++aL (A.take 0) B)).map (gv (2 ^ W))) by rw [← e00]]
 show aS c _ [.aK q (cL ((aJ (t0++aL (A.take 0) B)).map (gv (2 ^ W)))),.va (.lst (A.map (sJ (2 ^ W)))),.va (.lst (B.map (sJ (2 ^ W)))),.un,.un,.un,.un,.un] _ _
 conv in (aA _)=>whnf
 walk_at "ev"
 with_reducible refine cX hq (cy ?_)
 walk_at "ev"
 refine ⟨fun i ρ'=>∃ s3 s4 s5 s6 s7:Sl,ρ'=[.aK q (cL ((aJ (t0++aL (A.take i) B)).map (gv (2 ^ W)))),.va (.lst (A.map (sJ (2 ^ W)))),.va (.lst (B.map (sJ (2 ^ W)))),s3,s4,s5,s6,s7],⟨_,_,_,_,_,rfl⟩,?_,?_⟩
 ·rintro c' pZ zd ze i d ρ' hd ⟨s3,s4,s5,s6,s7,rfl⟩
  simp only [Oa,Og] at hd
  obtain ⟨l,hlx,rfl⟩:=hd
  obtain ⟨hi,rfl⟩:=Ob.mp hlx
  have hq':c'.X.xe=fun _ _=>False:=by rw [pZ]; exact hq
  show nG c' _ (.tup [.int (pk (2 ^ W) A[i].1),.int A[i].2]) _ _
  walk_at "ev"
  with_reducible refine cX hq' (cy ?_)
  walk_at "ev"
  have hpi:=hp A[i] (OD hi)
  have e0:t0++aL (A.take (i+1)) B=(t0++aL (A.take i) B)++B.map (dI A[i]):=by
   rw [O0 hi,n8,Ov]
  have hprev:∀ t∈t0++aL (A.take i) B,Bd (2 ^ W) t.1:=fun t ht=>by
   rcases Oz.mp ht with z | z
   ·exact hb0 t z
   ·obtain ⟨l,hl,r,hr,rfl⟩:=gw z
    exact (hp l (Sf hl) r hr).1
  have hlen:(t0++aL (A.take i) B).length+B.length≤20000:=by
   rw [OL,cR,Pb,Rv (by lia),Nat.add_assoc,← RG]
   exact N8 (Nat.add_le_add_left (Nat.mul_le_mul_right _ (by lia)) _) hl
  generalize A[i]=l at hpi e0 ⊢
  generalize t0++aL (A.take i) B=ts at e0 hprev hlen ⊢
  refine ⟨fun j ρ'=>∃ s5 s6 s7:Sl,ρ'=[.aK q (cL ((aJ (ts++(B.take j).map (dI l))).map (gv (2 ^ W)))),.va (.lst (A.map (sJ (2 ^ W)))),.va (.lst (B.map (sJ (2 ^ W)))),.va (.int (pk (2 ^ W) l.1)),.va (.int l.2),s5,s6,s7],⟨s5,s6,s7,by simp⟩,?_,?_⟩
  ·rintro c2 hcX2 hcR2 hcM2 j d ρ' hd ⟨s5,s6,s7,rfl⟩
   simp only [Oa,Og] at hd
   obtain ⟨r,hrx,rfl⟩:=hd
   obtain ⟨hj,rfl⟩:=Ob.mp hrx
   obtain ⟨hb,hm⟩:=hpi B[j] (OD hj)
   have e1:ts++(B.take (j+1)).map (dI l)=(ts++(B.take j).map (dI l))++[dI l B[j]]:=by
    rw [O0 hj,ON,Ov]; rfl
   have hprev2:∀ t∈ts++(B.take j).map (dI l),Bd (2 ^ W) t.1:=fun t ht=>by
    rcases Oz.mp ht with z | z
    ·exact hprev t z
    ·obtain ⟨r,hr,rfl⟩:=OF.mp z
     exact (hpi r (Sf hr)).1
   have hlen2:(ts++(B.take j).map (dI l)).length<20000:=by
    rw [OL,N6,Pb]; lia
   have key:=IL (two_pos W) hprev2 (t:=dI l B[j]) hb
   rw [← e1] at key
   generalize ts++(B.take j).map (dI l)=us at key hlen2 ⊢
   generalize B[j]=r at key hb hm ⊢
   show nG c2 _ (.tup [.int (pk (2 ^ W) r.1),.int r.2]) _ _
   have ek:pk (2 ^ W) (dI l r).1=pk (2 ^ W) l.1+pk (2 ^ W) r.1:=E0 _ _ _
   rw [ek] at key
   have hC:(cL ((aJ us).map (gv (2 ^ W)))).length<sizeLine:=iG (by
    have:=gU us
    simp only [cL,N6]; lia)
   generalize (aJ us).map (gv (2 ^ W))=C at key hC ⊢
   walk_at "ev"
   refine F8 (by walk_at "at") (by walk_at "at") ?_
   walk_at "ev"
   refine ⟨_,.k rfl rfl,?_⟩
   rw [jl]
   cases hv:bx C (pk (2 ^ W) l.1+pk (2 ^ W) r.1) with
   | some m =>
    rw [hv] at key
    show nI _ _ true
    walk_at "ev"
    refine ⟨m,by rw [← show bx (cL C) (.inl (pk (2 ^ W) l.1+pk (2 ^ W) r.1))=some (D.int m) by rw [jl,hv]; rfl]; exact .k rfl rfl,?_⟩
    walk_at "ev"
    refine ⟨_,.k rfl rfl hC,?_⟩
    walk_at "ev"
    refine ⟨.va (.int (pk (2 ^ W) r.1)),.va (.int r.2),.va (.int (pk (2 ^ W) l.1+pk (2 ^ W) r.1)),?_⟩
    show [Sl.aK q (putD (cL C) (.inl (pk (2 ^ W) l.1+pk (2 ^ W) r.1)) (.int (m+l.2 * r.2))),_,_,_,_,_,_,_]=_
    rw [rM,show putD C (pk (2 ^ W) l.1+pk (2 ^ W) r.1) (m+l.2 * r.2)=_ from key]
   | none =>
    rw [hv] at key
    show nI _ _ false
    walk_at "ev"
    refine ⟨_,.k rfl rfl hC,?_⟩
    walk_at "ev"
    refine ⟨.va (.int (pk (2 ^ W) r.1)),.va (.int r.2),.va (.int (pk (2 ^ W) l.1+pk (2 ^ W) r.1)),?_⟩
    show [Sl.aK q (putD (cL C) (.inl (pk (2 ^ W) l.1+pk (2 ^ W) r.1)) (.int (l.2 * r.2))),_,_,_,_,_,_,_]=_
    rw [rM,← RI (l.2 * r.2),show putD C (pk (2 ^ W) l.1+pk (2 ^ W) r.1) (0+l.2 * r.2)=_ from key]
  ·rintro ρ' ⟨s5,s6,s7,rfl⟩
   rw [N6,OW,← e0]
   walk_at "ev"
   exact ⟨_,_,_,_,_,rfl⟩
 ·rintro ρ' ⟨s3,s4,s5,s6,s7,rfl⟩
  rw [N6,OW]
  walk_at "ev"
  exact ⟨_,_,rfl,rfl⟩
end
noncomputable def J7 (C:List (Int×Int)):D:=.fdK ((cL C).map (·.1)) ((cL C).map (·.2))
theorem Cj (C):(cL C).map (·.1)=(C.map (·.1)).map Om:=by unfold cL; rw [Ou,Ou]; rfl
noncomputable def Ck:Fn:=fun ds r=>∃ (ts:List aG) (W:Nat),W≤10∧ts.length≤20000∧(∀ t∈ts,Bd (2 ^ W) t.1)∧ds=[J7 ((aJ ts).map (gv (2 ^ W))),.int (W:Nat)]∧r=.ok (.ow ((aP ts).map aM))
theorem LM (h:W≤10) (h1:ts.length≤20000) (h2:∀ t∈ts,Bd (2 ^ W) t.1):Ck [J7 ((aJ ts).map (gv (2 ^ W))),.int (W:Nat)] (.ok (.ow ((aP ts).map aM))):=⟨ts,W,h,h1,h2,rfl,rfl⟩
theorem uQ (h:fF ltI true L):L.Pairwise fun x y=>y<x:=by
 unfold fF at h
 exact h.imp fun {x y} q=>by simpa using q
section
local macro_rules | `(tactic| walk_at "evIx")=> `(tactic| with_reducible refine IP ?_)
local macro_rules | `(tactic| walk_at "evCa")=> `(tactic| first | with_reducible refine b9 (F:=sI) (by assumption) (by decide) ?_)
theorem Jo (Fu:fS K "unpacked" "unpacked" gB f fd) (T:Txt K mg) (h1:cV P w K mg base 2 "powers_of" sI):bz P w K mg base (dR P w) 3 f fd ["total","width"] (fU K Ck):=by
 refine dG Fu rZ r6 (by rintro ds r ⟨ts,W,_,_,_,rfl,_⟩; rfl) (by rintro ds r ⟨ts,W,_,_,_,_,rfl⟩; exact ⟨_,rfl⟩) fun c hq ds sl hF=>?_
 obtain ⟨ts,W,hW,hl,hb,rfl,e⟩:=hF
 injection e with e
 subst e
 show aS c _ [.va (J7 ((aJ ts).map (gv (2 ^ W)))),.va (.int (W:Nat))] _ _
 conv in (aA _)=>whnf
 refine aQ (fT (dW hq (N':=["key","total","width"]) (ρ0:=fun _=>[.un,.va (J7 ((aJ ts).map (gv (2 ^ W)))),.va (.int (W:Nat))]) (fun t=>.un (.fr (by walk_at "at") (by walk_at "at") (by decide) rfl (.fr (by walk_at "at") (by walk_at "at") (by decide) rfl .nil))) (cy (e_x (uf (Txt.sorted T) ?_)))))
 walk_at "ev"
 have hk:=dY ts
 have hg:=pD hb
 have nd:(((aJ ts).map (gv (2 ^ W))).map (·.1)).Nodup:=by
  rw [Ou]
  unfold RL at hk ⊢
  rw [P5] at hk ⊢
  exact Te.imp_of_mem (fun {x y} hx hy q z=>q (um (two_pos W) (hg x hx).1 (hg y hy).1 (hg x hx).2 (hg y hy).2 z)) hk
 refine ⟨((aJ ts).map (gv (2 ^ W))).map (·.1),_,by rw [← Cj]; rfl,nd,fun L' hp hs=>?_⟩
 have eL:=Br (two_pos W) hb hp (uQ hs)
 subst eL
 have hle:=gU ts
 have hpl:=(bB (aJ ts)).length_eq
 refine eX (xQ rfl ⟨uq (by simp only [N6]; lia),(fh (aJ ts)).map Fg,by simp,?_,?_⟩)
 ·intro c' hc t i d o hd ho
  simp only [Oa,Og] at hd ho
  obtain ⟨n,⟨x,hx,rfl⟩,rfl⟩:=hd
  obtain ⟨x',hx',rfl⟩:=ho
  rw [hx] at hx'; cases hx'
  have hm:x∈aJ ts:=(bB (aJ ts)).subset (O9 hx)
  have hv:bx (cL ((aJ ts).map (gv (2 ^ W)))) (.inl (pk (2 ^ W) x.1))=some (.int x.2):=by
   rw [jl,uo (two_pos W) hg (hg x hm).1 (hg x hm).2,pF hk hm]; rfl
  refine dF (by walk_at "at") (xG (by walk_at "sset") ⟨.un (.same (.same .nil)),?_⟩)
  simp only [sX]
  have h0:=(LA (two_pos W) (hg x hm).1).1
  walk_at "ev"
  refine ⟨_,_,_,rfl,rfl,hv,?_⟩
  walk_at "ev"
  ·unfold Fg; rw [if_neg fun h=>h (by assumption)]
  refine aW (Jk hW h0) ?_
  rw [II (two_pos W) (hg x hm).1,(hg x hm).2]
  walk_at "ev"
  refine ⟨_,_,_,rfl,rfl,hv,?_⟩
  walk_at "ev"
  unfold Fg
  rw [if_pos (by assumption)]
 ·show Sl.ow _=Sl.ow _
  rw [kN,Ba (keys_nodup hk)]
  rfl
end
structure NF (A B:List aG):Prop where
 la:A.length≤20000
 lb:B.length≤20000
 lp:A.length * B.length≤20000
 pa:∀ t∈A,t.1.length≤6∧∀ x∈t.1,0≤x∧x≤500
 pb:∀ t∈B,t.1.length≤6∧∀ x∈t.1,0≤x∧x≤500
 mu:∀ l∈A,∀ r∈B,EV.MulOk l.2 r.2
theorem wR:∀ {L:List aG} (a:Int),a≤m→(∀ t∈L,bR t.1 k≤m)→L.foldl (fun a t=>if bR t.1 k>a then bR t.1 k else a) a≤m
 | [],_,h,_=>h
 | t::L,a,h,q=>by
  rw [Pp]
  have:=q t Od
  exact wR _ (by split <;> lia) fun u hu=>q u (Oe _ hu)
theorem Cm (h0:0≤m) (h:∀ t∈L,∀ x∈t.1,x≤m):Dl (d8 L)≤m:=by
 refine uP h0 fun n hn=>?_
 unfold d8 at hn
 obtain ⟨k,_,rfl⟩:=OF.mp hn
 refine wR 0 h0 fun t ht=>?_
 by_cases z:k<t.1.length
 ·rw [dH z]; exact h t ht _ (OD _)
 ·rw [cQ (by lia)]; exact h0
theorem Cn (ht:t∈L) (hl:t.1.length≤6) (hx:x∈t.1):x≤Dl (d8 L):=by
 obtain ⟨k,hk,rfl⟩:=List.getElem_of_mem hx
 refine OG ?_ (Cf (show gk L k∈d8 L from OF.mpr ⟨k,by simp; lia,rfl⟩))
 unfold gk
 rw [← dH hk]
 suffices H:∀ a:Int,bR t.1 k≤L.foldl (fun a t=>if bR t.1 k>a then bR t.1 k else a) a from H 0
 induction L with
 | nil=>cases ht
 | cons u L ih =>
  intro a
  rw [Pp]
  rcases Oh.mp ht with rfl | ht
  ·refine OG ?_ (wQ L k _)
   split <;> lia
  ·exact ih ht _
theorem Fx (h:0≤x):x<2 ^ Pg x:=by
 unfold Pg
 by_cases z:x=0
 ·subst z; decide
 ·have e:(x == 0)=false:=by simpa using z
  rw [e,if_neg Oc,gX]
  have:=Nat.lt_log2_self (n:=x.natAbs)
  lia
theorem bits_le (h:x.natAbs<1024):Pg x≤10:=by
 unfold Pg
 by_cases z:x=0
 ·subst z; decide
 ·have e:(x == 0)=false:=by simpa using z
  rw [e,if_neg Oc]
  have:=(Nat.log2_lt (n:=x.natAbs) (k:=10) (by lia)).mpr h
  lia
end
section
variable {P:Program} {w:World} {K:NZ} {mg:Str→Option Value} {base:Heap}
noncomputable abbrev Part:=Int×List (List aG)
noncomputable def af (A:List aG):D:=.lst (A.map aM)
noncomputable def gI (p:Part):D:=.tup (.int p.1::p.2.map af)
noncomputable def fO (n:Int) (As:List (List aG)):List aG:=As.foldl aL (cT n)
noncomputable def bZ (ps:List Part):List aG:=ps.flatMap fun p=>fO p.1 p.2
noncomputable def bu (As:List (List aG)):Nat:=(As.map fun A=>max A.length 1).foldr (· * ·) 1
noncomputable def mG (A:List aG):Int:=Dl (d8 A)
noncomputable def pU (As:List (List aG)):MP:=(As.map mp).foldr (· * ·) 1
theorem Co (As):∀ L:List aG,mp (As.foldl aL L)=mp L * pU As:=by
 induction As with
 | nil=>intro L; show mp L=mp L * 1; grind
 | cons A As ih =>
  intro L
  rw [Pp,ih,uB]
  show _=mp L * (mp A * pU As)
  grind
theorem fP (n) (As):mp (fO n As)=(n:MP) * pU As:=by unfold fO; rw [Co,pJ]
theorem Cp (h:As.Perm Bs):pU As=pU Bs:=by
 induction h with
 | nil=>rfl
 | cons x _ ih=>exact congrArg (mp x * ·) ih
 | swap x y l=>show mp y * (mp x * pU l)=mp x * (mp y * pU l); grind
 | trans _ _ a b=>rw [a,b]
theorem Cq (As) (A):pU (As++[A])=pU As * mp A:=by
 induction As with
 | nil=>show mp A * 1=1 * mp A; grind
 | cons B As ih=>show mp B * pU (As++[A])=mp B * pU As * mp A; rw [ih]; grind
theorem yR (h:As.Perm Bs):bu As=bu Bs:=by
 unfold bu
 induction h with
 | nil=>rfl
 | cons x _ ih=>simp only [N5,Rx] at ih ⊢; rw [ih]
 | swap x y l=>simp only [N5,Rx]; rw [Nat.mul_left_comm]
 | trans _ _ a b=>rw [a,b]
theorem yS (As) (A):bu (As++[A])=bu As * max A.length 1:=by
 unfold bu
 induction As with
 | nil=>simp
 | cons B As ih=>simp only [PK,N5,Rx] at ih ⊢; rw [ih,Nat.mul_assoc]
theorem Cr (As):1≤bu As:=by
 unfold bu
 induction As with
 | nil=>exact N2 _
 | cons B As ih=>simp only [N5,Rx]; exact Qi (m₁:=1) (n₁:=1) (by lia) ih
theorem gZ (As) (i):bu (As.take i)≤bu As:=by
 induction As generalizing i with
 | nil=>simp
 | cons B As ih =>
  cases i with
  | zero=>exact Cr _
  | succ i =>
   have:=ih i
   unfold bu at *
   simp only [List.take_succ_cons,N5,Rx]
   exact Nat.mul_le_mul_left _ this
noncomputable def Ex (m:Int) (L:List aG):Prop:=∀ t∈L,t.1.length≤6∧∀ x∈t.1,0≤x∧x≤m
noncomputable def Bn (m:Nat) (L:List aG):Prop:=∀ t∈L,t.2.natAbs<2 ^ m
theorem Ex.bd (h:Ex m L) (hm:m<2 ^ W):∀ t∈L,Bd (2 ^ W) t.1:=fun t ht=>⟨(h t ht).1,fun x hx=>⟨((h t ht).2 x hx).1,Sn ((h t ht).2 x hx).2 hm⟩⟩
theorem Cs (h0:0≤m) (h:∀ x∈p,0≤x∧x≤m) (k):0≤bR p k∧bR p k≤m:=by
 by_cases z:k<p.length
 ·rw [dH z]; exact h _ (OD _)
 ·rw [cQ (by lia)]; lia
theorem Fy (h0:0≤m) (g0:0≤n) (hp:p.length≤6∧∀ x∈p,0≤x∧x≤m) (hq:q.length≤6∧∀ x∈q,0≤x∧x≤n):(cC p q).length≤6∧∀ x∈cC p q,0≤x∧x≤m+n:=by
 refine ⟨by rw [jm]; lia,fun x hx=>?_⟩
 unfold cC at hx
 obtain ⟨k,_,rfl⟩:=OF.mp hx
 have:=Cs h0 hp.2 k
 have:=Cs g0 hq.2 k
 lia
theorem Ex.prod (h0:0≤m) (g0:0≤n) (h:Ex m A) (g:Ex n B):Ex (m+n) (aL A B):=fun t ht=>by
 obtain ⟨l,hl,r,hr,rfl⟩:=gw ht
 exact Fy h0 g0 (h l hl) (g r hr)
theorem Ex.sum (h:Ex m L):Ex m (aJ L):=by
 unfold aJ
 suffices H:∀ (ts A:List aG),Ex m A→Ex m ts→Ex m (ts.foldl fG A) from H L [] (fun t ht=>by cases ht) h
 intro ts
 induction ts with
 | nil=>exact fun A hA _=>hA
 | cons u ts ih =>
  refine fun A hA hts=>ih _ (fun t ht=>?_) fun t ht=>hts t (Oe _ ht)
  rcases rR ht with rfl | q
  ·have:=hts u Od
   exact ⟨N8 (gr _) this.1,fun x hx=>this.2 x (rL hx)⟩
  ·exact hA t q
theorem Ex.mono (h:Ex m L) (hn:m≤n):Ex n L:=fun t ht=>⟨(h t ht).1,fun x hx=>⟨((h t ht).2 x hx).1,OG ((h t ht).2 x hx).2 hn⟩⟩
theorem Ex.app (h:Ex m A) (g:Ex m B):Ex m (A++B):=fun t ht=>(Oz.mp ht).elim (h t) (g t)
theorem Bn.mono (h:Bn m L) (hn:m≤n):Bn n L:=fun t ht=>OU (h t ht) (Rl (by decide) hn)
theorem Bn.prod (h:Bn m A) (g:Bn n B):Bn (m+n) (aL A B):=fun t ht=>by
 obtain ⟨l,hl,r,hr,rfl⟩:=gw ht
 show (l.2 * r.2).natAbs<_
 rw [Int.natAbs_mul,Nat.pow_add]
 exact Nat.mul_lt_mul'' (h l hl) (g r hr)
theorem Bn.sum (h:Bn m L) (hl:L.length<2 ^ 16):Bn (m+16) (aJ L):=fun t ht=>by
 have:=IS (m:=2 ^ m) (fun t ht=>Qn (h t ht)) t ht
 refine P4 this ?_
 rw [Nat.pow_add,RH]
 exact Nat.mul_lt_mul_of_pos_left hl (Nat.two_pow_pos m)
theorem wU (h:a.natAbs<2 ^ m):Pg a≤m+1:=by
 unfold Pg
 by_cases z:a=0
 ·subst z; simp
 ·have e:(a == 0)=false:=by simpa using z
  rw [e,if_neg Oc]
  have:=(Nat.log2_lt (n:=a.natAbs) (k:=m) (by lia)).mpr h
  lia
theorem pV (h:a.natAbs<2 ^ m) (g:b.natAbs<2 ^ n) (hm:m+n≤1000000):EV.MulOk a b:=by
 have h1:=wU h
 have h2:=wU g
 unfold EV.MulOk IntMulOk Builtin.Int.intTooBig bitsLine
 have e:decide (((Pg a+Pg b:Nat):Int)>((2 ^ 27:Nat):Int))=false:=by
  apply decide_eq_false
  rw [show (2:Nat) ^ 27=134217728 by decide]
  lia
 simp only [Rt]
 rintro ⟨_,z⟩
 have z':=of_decide_eq_true z
 rw [show (2:Nat) ^ 27=134217728 by decide] at z'
 lia
structure cF (A:List aG):Prop where
 l:A.length≤20000
 e:Ex 120 A
 b:Bn 2000 A
structure c9 (p:Part):Prop where
 n:p.1.natAbs<2 ^ 2000
 m:p.2.length≤8
 f:∀ A∈p.2,cF A
structure bL (ps:List Part):Prop where
 p:∀ p∈ps,c9 p
 l:ps.length≤1000
 s:(ps.map fun p=>bu p.2).sum≤20000
theorem Ct (A):0≤mG A:=Gu _
theorem cF.mx (h:cF A):mG A≤120:=Cm (by decide) fun t ht x hx=>((h.e t ht).2 x hx).2
theorem cF.ex (h:cF A):Ex (mG A) A:=fun t ht=>⟨(h.e t ht).1,fun x hx=>⟨((h.e t ht).2 x hx).1,Cn ht (h.e t ht).1 hx⟩⟩
noncomputable def p8 (p:Part):Int:=(p.2.map mG).sum
theorem wV (As:List (List aG)):0≤(As.map mG).sum:=by
 induction As with
 | nil=>exact Pj _
 | cons A As ih=>rw [N5,P9]; have:=Ct A; lia
theorem c9.sz (h:c9 p):p8 p≤960:=by
 have:∀ As:List (List aG),(∀ A∈As,cF A)→(As.map mG).sum≤120 * As.length:=fun As=>by
  induction As with
  | nil=>exact fun _=>by simp
  | cons A As ih =>
   intro hA
   have:=ih fun B hB=>hA B (Oe _ hB)
   have:=(hA A Od).mx
   rw [N5,P9,OE]; lia
 have h1:=this p.2 h.f
 have h2:=h.m
 unfold p8
 lia
noncomputable def gJ (ps:List Part):Int:=ps.foldl (fun m p=>if p8 p>m then p8 p else m) 0
theorem oh (ps:List Part):∀ m:Int,m≤ps.foldl (fun m p=>if p8 p>m then p8 p else m) m:=by
 induction ps with
 | nil=>exact fun m=>Pj _
 | cons p ps ih=>intro m; rw [Pp]; refine OG ?_ (ih _); split <;> lia
theorem Fz (h:p∈ps):p8 p≤gJ ps:=by
 unfold gJ
 suffices H:∀ m:Int,p8 p≤ps.foldl (fun m p=>if p8 p>m then p8 p else m) m from H 0
 induction ps with
 | nil=>cases h
 | cons q ps ih =>
  intro m
  rw [Pp]
  rcases Oh.mp h with rfl | h
  ·refine OG ?_ (oh ps _)
   split <;> lia
  ·exact ih h _
theorem FA (h:∀ p∈ps,c9 p):gJ ps≤960:=by
 unfold gJ
 suffices H:∀ m:Int,m≤960→ps.foldl (fun m p=>if p8 p>m then p8 p else m) m≤960 from H 0 (by decide)
 induction ps with
 | nil=>exact fun m hm=>hm
 | cons q ps ih =>
  intro m hm
  rw [Pp]
  refine ih (fun p hp=>h p (Oe _ hp)) _ ?_
  have:=(h q Od).sz
  split <;> lia
noncomputable def Cu (ps:List Part):Nat:=Pg (gJ ps)
theorem FD (h:∀ p∈ps,c9 p):Cu ps≤10∧∀ p∈ps,p8 p<2 ^ Cu ps:=by
 have h0:0≤gJ ps:=oh ps 0
 have h1:=FA h
 exact ⟨bits_le (by lia),fun p hp=>Sn (Fz hp) (Fx h0)⟩
theorem jn (x:α) (xs):EV.cutD (x::xs) (some 1) none=xs:=by
 unfold EV.cutD HT.cu; simp
noncomputable def Cv:Fn:=fun ds r=>∃ ps:List Part,(∀ p∈ps,c9 p)∧ds=[.lst (ps.map gI)]∧r=.ok (.va (.int (Cu ps:Nat)))
theorem LN (h:∀ p∈ps,c9 p):Cv [.lst (ps.map gI)] (.ok (.va (.int (Cu ps:Nat)))):=⟨ps,h,rfl,rfl⟩
section
local macro_rules | `(tactic| walk_at "evMt")=> `(tactic| with_reducible refine Iv ?_)
local macro_rules | `(tactic| walk_at "evCa")=> `(tactic| first
 | ((with_reducible show aF _ (OR (Ol "max" _) [_] _ _) _ _); with_reducible refine Iz (Txt.max (by assumption)) ?_)
 | ((with_reducible show aF _ (OR (Ol "max" _) [_,_] _ _) _ _); with_reducible refine Bf (Txt.max (by assumption)) ?_)
 | ((with_reducible show aF _ (OR (Ol "sum" _) _ _ _) _ _); with_reducible refine IB (Txt.sum (by assumption)) ?_)
 | with_reducible refine b9 (F:=mw) (by assumption) (by decide) ?_)
theorem Jp (Fu:fS K "width_of" "width_of" gC f fd) (T:Txt K mg) (h1:cV P w K mg base 1 "greatest_powers" mw):bz P w K mg base (dR P w) 2 f fd ["parts"] (fU K Cv):=by
 refine dG Fu r8 r9 (by rintro ds r ⟨ps,_,rfl,_⟩; rfl) (by rintro ds r ⟨ps,_,_,rfl⟩; exact ⟨_,rfl⟩) fun c hq ds sl hF=>?_
 obtain ⟨ps,hp,rfl,e⟩:=hF
 injection e with e
 subst e
 show aS c _ [.va (.lst (ps.map gI)),.un,.un] _ _
 conv in (aA _)=>whnf
 walk_at "ev"
 with_reducible refine cX hq (cy ?_)
 walk_at "ev"
 refine ⟨fun i ρ'=>∃ s2:Sl,ρ'=[.va (.lst (ps.map gI)),.va (.int (gJ (ps.take i))),s2],⟨_,rfl⟩,?_,?_⟩
 ·rintro c' pZ zd ze i d ρ' hd ⟨s2,rfl⟩
  simp only [Oa,Og] at hd
  obtain ⟨p,hpx,rfl⟩:=hd
  obtain ⟨hi,rfl⟩:=Ob.mp hpx
  have hpo:=hp ps[i] (OD hi)
  have eg:gJ (ps.take (i+1))=if p8 ps[i]>gJ (ps.take i) then p8 ps[i] else gJ (ps.take i):=by
   unfold gJ; rw [O0 hi,T8]; rfl
  generalize ps[i]=p at hpo eg ⊢
  show nG c' _ (.tup (.int p.1::p.2.map af)) _ _
  walk_at "ev"
  refine e_x (dW (show c'.X.xe=kE by rw [pZ]; exact hq) (N':=["some"]) (ρ0:=fun _=>[.un]) (fun t=>.un .nil) (cy ?_))
  walk_at "ev"
  ·rw [jn,N6]; exact uq (by have:=hpo.m; lia)
  rw [jn]
  refine ⟨p.2.map fun A=>some (.int (mG A)),by simp,?_,eX ?_⟩
  ·intro c2 hc2 t j d o hd ho
   simp only [Oa,Og] at hd ho
   obtain ⟨A,hA,rfl⟩:=hd
   obtain ⟨A',hA',rfl⟩:=ho
   rw [hA] at hA'; cases hA'
   have hf:=hpo.f A (O9 hA)
   refine dF (by walk_at "at") (xG (by walk_at "sset") ⟨.un .nil,?_⟩)
   simp only [sX]
   refine ⟨fun _=>?_,fun h=>by cases h⟩
   show aF c2 _ [.va (.lst (A.map aM))] _
   walk_at "ev"
   refine aW (Fq fun t ht=>(hf.e t ht).1) (eX ⟨d8 A,by simp [d8],rfl,fun m ⟨m1,m2⟩=>?_⟩)
   rw [Cg m1 m2]; rfl
  ·rw [cS]
   refine ⟨p.2.map mG,by rw [Ou]; rfl,?_⟩
   walk_at "ev"
   refine ⟨.va (gI p),?_⟩
   rw [eg]; rfl
 ·rintro ρ' ⟨s2,rfl⟩
  rw [N6,OW]
  walk_at "ev"
  rfl
end
end
section
variable {P:Program} {w:World} {K:NZ} {mg:Str→Option Value} {base:Heap}
theorem FE (x:α) (xs):jr (x::xs) 0=some x:=by rw [gR (by decide) (by simp)]; rfl
theorem Jq (b):pk b []=0:=(jj (g:=fun _=>0) fun i _=>cQ (OH _)).trans (jk _)
theorem Gv (b n):(cT n).map (sJ b)=[.tup [.int 0,.int n]]:=by show [D.tup [.int (pk b []),.int n]]=_; rw [Jq]
theorem Cw (xs:List α):EV.cutD xs none (some (-1))=xs.dropLast:=by
 unfold EV.cutD HT.cu
 rw [List.dropLast_eq_take]
 simp only [List.drop_zero]
 congr 1
 split <;> lia
theorem FF (xs) (x:α):jr (xs++[x]) (-1)=some x:=by
 rw [vP (by decide) (by simp; lia),show (-1+((xs++[x]).length:Int)).toNat=xs.length by simp; lia]
 simp
noncomputable def Mr (b:Int) (A:List aG):D:=.lst (A.map (sJ b))
theorem Cy {α β:Type} {f:α→β} {L:List α} {M:List β} (h:M.Perm (L.map f)):∃ L':List α,L'.Perm L∧M=L'.map f:=by
 have p:∀ L:List α,Paired (fun a b=>b=f a) L (L.map f):=fun L=>by
  induction L with
  | nil=>exact .nil
  | cons x L ih=>exact .cons rfl ih
 obtain ⟨L',h1,h2⟩:=SR.gp h (p L)
 refine ⟨L',h1,?_⟩
 clear h1 h p
 induction h2 with
 | nil=>rfl
 | cons r _ ih=>rw [r,ih]; rfl
theorem yT (C):(J7 C).pairs=some (C.map fun c=>D.tup [.int c.1,.int c.2]):=by
 show some _=some _
 congr 1
 unfold cL
 rw [Ou,Ou,List.zipWith_map,List.zipWith_self]
 rfl
theorem yU (b) (L:List aG):(J7 (L.map (gv b))).pairs=some (L.map (sJ b)):=by
 rw [yT,Ou]; rfl
theorem Jr (b) (L:List aG):D.p6 (L.map (sJ b)):=dO fun x _=>tU (by unfold D.p6; exact ⟨lD,by unfold D.p6; exact ⟨lD,by unfold D.p6; trivial⟩⟩)
structure Way (n:Int) (As:List (List aG)) (L:List aG):Prop where
 m:mp L=(n:MP) * pU As
 l:L.length≤bu As
 e:Ex (As.map mG).sum L
 b:Bn (2000+2016 * As.length) L
theorem wW {n:Int} (h:n.natAbs<2 ^ 2000):Way n [] (cT n) where
 m:=by rw [pJ]; show _=_ * (1:MP); grind
 l:=N2 _
 e:=fun t ht=>by
  have:t=([],n):=by simpa [cT] using ht
  subst this
  exact ⟨OH _,fun x hx=>by cases hx⟩
 b:=fun t ht=>by
  have:t=([],n):=by simpa [cT] using ht
  subst this
  exact h
theorem uR:cF (cT 1) where
 l:=by show (1:Nat)≤_; lia
 e:=fun t ht=>by
  have:t=([],1):=by simpa [cT] using ht
  subst this
  exact ⟨OH _,fun x hx=>by cases hx⟩
 b:=fun t ht=>by
  have:t=([],1):=by simpa [cT] using ht
  subst this
  exact Nat.one_lt_two_pow (by decide)
theorem yV (As) (A):((As++[A]).map mG).sum=(As.map mG).sum+mG A:=by
 rw [ON,QF]; simp
theorem gK (h:Way n As L) (f:cF A):mp (aL L A)=(n:MP) * pU (As++[A])∧(aL L A).length≤bu (As++[A])∧Ex ((As++[A]).map mG).sum (aL L A)∧Bn (2000+2016 * As.length+2000) (aL L A):=by
 refine ⟨?_,?_,?_,h.b.prod f.b⟩
 ·rw [uB,h.m,Cq]; grind
 ·rw [cR,yS]; exact Qi h.l (by lia)
 ·rw [yV]; exact Ex.prod (wV _) (Ct _) h.e f.ex
theorem Cz (h:Way n As L) (f:cF A) (hl:bu (As++[A])≤20000):Way n (As++[A]) (aJ (aL L A)):=by
 obtain ⟨h1,h2,h3,h4⟩:=gK h f
 refine ⟨by rw [Ja,h1],N8 (gU _) h2,h3.sum,(h4.sum (P4 (N8 h2 hl) (by decide))).mono ?_⟩
 rw [OL,Sa]; lia
theorem CA {As Bs:List (List aG)} (h:As.Perm Bs):(As.map mG).sum=(Bs.map mG).sum:=by
 induction h with
 | nil=>rfl
 | cons x _ ih=>rw [N5,P9,N5,P9,ih]
 | swap x y l=>simp only [N5,P9]; lia
 | trans _ _ a b=>rw [a,b]
theorem CB (As:List (List aG)) (i):((As.take i).map mG).sum≤(As.map mG).sum:=by
 have e:(As.map mG).sum=((As.take i).map mG).sum+((As.drop i).map mG).sum:=by rw [← QF,← ON,PD]
 have:=wV (As.drop i)
 lia
noncomputable def pW:Mp:=fun kvs ds Z=>∃ (ts:List aG) (p:Part) (W:Nat),W≤10∧c9 p∧p8 p<2 ^ W∧ts.length+bu p.2≤20000∧(∀ t∈ts,Bd (2 ^ W) t.1)∧kvs=cL ((aJ ts).map (gv (2 ^ W)))∧ds=[gI p,.int (W:Nat)] ∧
 Z=fun kvs'=>∃ X,mp X=mp (fO p.1 p.2)∧X.length≤bu p.2∧(∀ t∈X,Bd (2 ^ W) t.1)∧kvs'=cL ((aJ (ts++X)).map (gv (2 ^ W)))
section
local macro_rules | `(tactic| walk_at "evX")=> `(tactic| first | ((with_reducible show dz _ (Expr.Dict _ _ _) _ _); with_reducible refine vJ ?_))
local macro_rules | `(tactic| walk_at "evXC")=> `(tactic| first
 | ((with_reducible show dz _ (OR (Ol "sorted" _) _ _ _) _ _); with_reducible refine yw (Txt.sorted (by assumption)) (Txt.len (by assumption)) ?_)
 | ((with_reducible show dz _ (OR (Ol "list" _) [OR _ _ _ _] _ _) _ _); refine tW 6 (by walk_at "at") rfl (by walk_at "sset") (rT (Txt.list (by assumption)) ?_)))
local macro_rules | `(tactic| walk_at "evXp")=> `(tactic| with_reducible refine wu (F:=Fw) (by assumption) (by decide) (by walk_at "at") (by walk_at "at") (by walk_at "own") ?_)
theorem CC (Fu:fS K "add_part" "add_part" gD f fd) (T:Txt K mg) (h1:cV P w K mg base 2 "packed" sL) (h2:yf P w K mg base 1 "add_products" Fw):bz P w K mg base (dR P w) 3 f fd ["whole","part","width"] (Iu K pW):=by
 refine Lu Fu sd se (by rintro kvs ds Z ⟨ts,p,W,_,_,_,_,_,_,rfl,_⟩; rfl) fun c hq q kvs ds Z hF=>?_
 obtain ⟨ts,p,W,hW,hp,hsz,hl,hb,rfl,rfl,rfl⟩:=hF
 show aS c _ [.aK q (cL ((aJ ts).map (gv (2 ^ W)))),.va (.tup (.int p.1::p.2.map af)),.va (.int (W:Nat)),.un,.un,.un,.un] _ _
 conv in (aA _)=>whnf
 walk_at "ev"
 refine e_x (dW hq (N':=["some","width"]) (ρ0:=fun _=>[.un,.va (.int (W:Nat))]) (fun t=>.un (.fr (by walk_at "at") (by walk_at "at") (by decide) rfl .nil)) (cy ?_))
 walk_at "ev"
 ·rw [jn,N6]; exact uq (by have:=hp.m; lia)
 rw [jn]
 refine ⟨p.2.map fun A=>some (Mr (2 ^ W) A),by simp,?_,eX ?_⟩
 ·intro c2 hc2 t j d o hd ho
  simp only [Oa,Og] at hd ho
  obtain ⟨A,hA,rfl⟩:=hd
  obtain ⟨A',hA',rfl⟩:=ho
  rw [hA] at hA'; cases hA'
  have hm:=O9 hA
  have hf:=hp.f A hm
  refine dF (by walk_at "at") (xG (by walk_at "sset") ⟨.un (.same .nil),?_⟩)
  simp only [sX]
  refine ⟨fun _=>?_,fun h=>by cases h⟩
  show aF c2 _ [.va (.lst (A.map aM)),_] _
  refine b9 (F:=sL) h1 (by decide) ?_
  walk_at "ev"
  have hx:mG A<2 ^ W:=by
   refine Sn ?_ hsz
   obtain ⟨l,r,e⟩:=List.append_of_mem hm
   unfold p8
   rw [e,ON,N5,QF,P9]
   have:=wV l
   have:=wV r
   lia
  exact aW (Jl hW hf.l (hf.ex.bd hx)) (eX rfl)
 rw [cS]
 refine ⟨_,rfl,fun x hx=>by obtain ⟨A,_,rfl⟩:=OF.mp hx; exact ⟨_,rfl⟩,fun ds' hp'=>?_⟩
 obtain ⟨As,hpm,rfl⟩:=Cy hp'
 have zb:∀ A∈As,cF A:=fun A hA=>hp.f A (hpm.mem_iff.mp hA)
 have hpl:=yR hpm
 have hps:=CA hpm
 have hlen:=hpm.length_eq
 refine xG (by walk_at "sset") ?_
 with_reducible refine lF 3 (by walk_at "at") rfl (by walk_at "sset") ?_
 walk_at "ev"
 refine iY (FE _ _) ?_
 walk_at "ev"
 with_reducible refine Lh 4 (by walk_at "at") rfl (by walk_at "sset") ?_
 rw [← Gv (2 ^ W) p.1]
 with_reducible refine cX hq (cy ?_)
 walk_at "ev"
 rw [Cw]
 have hcap:∀ i,bu (As.take i)≤20000:=fun i=>N8 (gZ As i) (by lia)
 have hm8:As.length≤8:=by rw [hlen]; exact hp.m
 have p9:∀ (i:Nat) (L A:List aG),As[i]?=some A→Way p.1 (As.take i) L→cF A∧As.take (i+1)=As.take i++[A]∧mp (aL L A)=(p.1:MP) * pU (As.take (i+1))∧(aL L A).length≤bu (As.take (i+1))∧(∀ l∈L,∀ r∈A,Bd (2 ^ W) (cC l.1 r.1)∧EV.MulOk l.2 r.2)∧L.length≤20000:=fun i L A hA hw=>by
  obtain ⟨hi,rfl⟩:=Ob.mp hA
  have hf:=zb As[i] (OD hi)
  have et:As.take (i+1)=As.take i++[As[i]]:=O0 hi
  obtain ⟨q1,q2,q3,q4⟩:=gK hw hf
  rw [← et] at q1 q2 q3
  refine ⟨hf,et,q1,q2,fun l hl r hr=>⟨?_,?_⟩,N8 hw.l (hcap i)⟩
  ·have hm:dI l r∈aL L As[i]:=Sy.mpr ⟨l,hl,OF.mpr ⟨r,hr,rfl⟩⟩
   have hx:=CB As (i+1)
   exact q3.bd (by unfold p8 at hsz; lia) _ hm
  ·refine pV (hw.b l hl) (hf.b r hr) ?_
   rw [Pb]; lia
 refine ⟨fun i ρ'=>∃ (L:List aG) (s5 s6:Sl),Way p.1 (As.take i) L∧ρ'=[.aK q (cL ((aJ ts).map (gv (2 ^ W)))),.va (.tup (.int p.1::p.2.map af)),.va (.int (W:Nat)),.va (.lst (As.map (Mr (2 ^ W)))),.va (.lst (L.map (sJ (2 ^ W)))),s5,s6],⟨_,_,_,wW hp.n,rfl⟩,?_,?_⟩
 ·rintro c' pZ zd ze i d ρ' hd ⟨L,s5,s6,hw,rfl⟩
  rw [← List.map_dropLast] at hd
  simp only [Oa,Og] at hd
  obtain ⟨A,hA,rfl⟩:=hd
  rw [List.getElem?_dropLast] at hA
  replace hA:As[i]?=some A:=by
   split at hA
   ·exact hA
   ·cases hA
  obtain ⟨hf,et,q1,q2,q3,q4⟩:=p9 i L A hA hw
  have q5:=hcap (i+1)
  have q6:=Cz hw hf (by rw [← et]; exact q5)
  rw [← et] at q6
  show nG c' _ (.lst (A.map (sJ (2 ^ W)))) _ _
  walk_at "ev"
  refine ⟨_,⟨[],L,A,W,hW,by rw [cR] at q2; show 0+_≤_; lia,q4,hf.l,(by intro t ht; cases ht),q3,rfl,rfl,rfl⟩,?_⟩
  rintro kvs' rfl
  walk_at "ev"
  refine ⟨_,yU _ _,Jr _ _,?_⟩
  repeat ((fail_if_success (with_reducible show aS _ [] _ _ _)); walk_at "ev1")
  with_reducible refine lF 4 (by walk_at "at") rfl (by walk_at "sset") ?_
  walk_at "ev"
  exact ⟨_,_,_,q6,rfl⟩
 ·rintro ρ' ⟨L,s5,s6,hw,rfl⟩
  rw [List.length_dropLast,N6] at hw
  walk_at "ev"
  ·have hne:As≠[]:=by rintro rfl; simp at *
   obtain ⟨i0,A,e0⟩:∃ i0 A,As=i0++[A]:=⟨As.dropLast,As.getLast hne,(List.dropLast_concat_getLast hne).symm⟩
   have ei:As.length - 1=i0.length:=by rw [e0]; simp
   have hA:As[As.length - 1]?=some A:=by rw [ei,e0]; simp
   have etl:As.take (As.length - 1+1)=As:=Rj (by lia)
   obtain ⟨hf,et,q1,q2,q3,q4⟩:=p9 _ L A hA hw
   rw [etl] at q1 q2
   refine qC (show jr (As.map (Mr (2 ^ W))) (-1)=some (Mr (2 ^ W) A) by rw [e0,ON]; exact FF _ _) ?_
   walk_at "ev"
   refine ⟨_,⟨ts,L,A,W,hW,by rw [cR] at q2; lia,q4,hf.l,hb,q3,rfl,rfl,rfl⟩,?_⟩
   rintro kvs' rfl
   walk_at "ev"
   refine ⟨_,_,⟨aL L A,by rw [q1,fP,Cp hpm],by rw [← hpl]; exact q2,fun t ht=>?_,rfl⟩,rfl⟩
   obtain ⟨l,hl,r,hr,rfl⟩:=gw ht
   exact (q3 l hl r hr).1
  ·have e0:As=[]:=by
    cases As with
    | nil=>rfl
    | cons A As=>simp at *
   have hw0:Way p.1 [] L:=by rw [e0] at hw; exact hw
   have p0:p.2=[]:=List.length_eq_zero_iff.mp (by rw [← hlen,e0]; rfl)
   obtain ⟨q1,q2,q3,q4⟩:=gK hw0 uR
   have hL:L.length≤1:=hw0.l
   have q5:(aL L (cT 1)).length≤1:=q2
   have h0W:(0:Int)<2 ^ W:=two_pos W
   have hx:(([]++[cT 1]:List (List aG)).map mG).sum<2 ^ W:=h0W
   have hp1:bu p.2=1:=by rw [p0]; rfl
   rw [← Gv (2 ^ W) 1]
   refine ⟨_,⟨ts,L,cT 1,W,hW,by rw [cR] at q5; lia,by lia,uR.l,hb,fun l hl r hr=>⟨?_,?_⟩,rfl,rfl,rfl⟩,?_⟩
   ·exact q3.bd hx _ (Sy.mpr ⟨l,hl,OF.mpr ⟨r,hr,rfl⟩⟩)
   ·exact pV (hw0.b l hl) (uR.b r hr) (by show 2000+2016 * 0+2000≤_; lia)
   rintro kvs' rfl
   walk_at "ev"
   refine ⟨_,_,⟨aL L (cT 1),?_,by rw [hp1]; exact q5,q3.bd hx,rfl⟩,rfl⟩
   rw [q1,fP,p0]
   show _ * (mp (cT 1) * 1)=_ * (1:MP)
   rw [pJ]
   show _ * ((1:MP) * 1)=_ * (1:MP)
   grind
end
end
section
variable {K:NZ}
theorem sM (ps) (p:Part):mp (bZ (ps++[p]))=mp (bZ ps)+mp (fO p.1 p.2):=by
 unfold bZ
 rw [List.flatMap_append,jK]
 congr 1
 rw [Rq,Ue,O5]
theorem sN (l:List Nat) (i):(l.take i).sum≤l.sum:=by
 rw [← PD i l,QF,PD]; lia
noncomputable def mX:Fn:=fun ds r=>∃ ps:List Part,bL ps∧ds=[.lst (ps.map gI)]∧r=.ok (.ow ((aP (bZ ps)).map aM))
theorem oi (h:bL ps):mX [.lst (ps.map gI)] (.ok (.ow ((aP (bZ ps)).map aM))):=⟨ps,h,rfl,rfl⟩
section
local macro_rules | `(tactic| walk_at "evX")=> `(tactic| first | ((with_reducible show dz _ (Expr.Dict _ _ _) _ _); with_reducible refine vJ ?_))
local macro_rules | `(tactic| walk_at "evCa")=> `(tactic| first | with_reducible refine b9 (F:=Cv) (by assumption) (by decide) ?_)
local macro_rules | `(tactic| walk_at "evXp")=> `(tactic| with_reducible refine wu (F:=pW) (by assumption) (by decide) (by walk_at "at") (by walk_at "at") (by walk_at "own") ?_)
local macro_rules | `(tactic| walk_at "evXC")=> `(tactic| first | ((with_reducible show dz _ (OR (Ol "unpacked" _) _ _ _) _ _); refine tW 2 (by walk_at "at") rfl (by walk_at "sset") (x_call (F:=Ck) (by assumption) (by decide) ?_)))
theorem Js (Fu:fS K "poly_total" "poly_total" eO f fd) (T:Txt K mg) (h1:cV P w K mg base 2 "width_of" Cv) (h2:yf P w K mg base 3 "add_part" pW) (h3:cV P w K mg base 3 "unpacked" Ck):bz P w K mg base (dR P w) 4 f fd ["parts"] (fU K mX):=by
 refine dG Fu mV mW (by rintro ds r ⟨ps,_,rfl,_⟩; rfl) (by rintro ds r ⟨ps,_,_,rfl⟩; exact ⟨_,rfl⟩) fun c hq ds sl hF=>?_
 obtain ⟨ps,h,rfl,e⟩:=hF
 injection e with e
 subst e
 show aS c _ [.va (.lst (ps.map gI)),.un,.un,.un] _ _
 conv in (aA _)=>whnf
 obtain ⟨hW,hsz⟩:=FD h.p
 walk_at "ev"
 refine aW (LN h.p) ?_
 walk_at "ev"
 generalize Cu ps=W at hW hsz ⊢
 with_reducible refine cX hq (cy ?_)
 walk_at "ev"
 refine ⟨fun i ρ'=>∃ (ts:List aG) (s3:Sl),mp ts=mp (bZ (ps.take i))∧ts.length≤((ps.take i).map fun p=>bu p.2).sum∧(∀ t∈ts,Bd (2 ^ W) t.1)∧ρ'=[.va (.lst (ps.map gI)),.va (.int (W:Nat)),.oK (cL ((aJ ts).map (gv (2 ^ W)))),s3],⟨[],_,rfl,N2 _,(by intro t ht; cases ht),rfl⟩,?_,?_⟩
 ·rintro c' pZ zd ze i d ρ' hd ⟨ts,s3,hm,hl,hb,rfl⟩
  simp only [Oa,Og] at hd
  obtain ⟨p,hpx,rfl⟩:=hd
  obtain ⟨hi,rfl⟩:=Ob.mp hpx
  have et:ps.take (i+1)=ps.take i++[ps[i]]:=O0 hi
  have hmem:ps[i]∈ps:=OD hi
  have hcap:((ps.take (i+1)).map fun p=>bu p.2).sum≤20000:=by rw [List.map_take]; exact N8 (sN _ _) h.s
  have ec:((ps.take (i+1)).map fun p=>bu p.2).sum=((ps.take i).map fun p=>bu p.2).sum+bu ps[i].2:=by rw [et,ON,QF]; simp
  rw [ec] at hcap
  walk_at "ev"
  refine ⟨_,⟨ts,ps[i],W,hW,h.p _ hmem,hsz _ hmem,by lia,hb,rfl,rfl,rfl⟩,?_⟩
  rintro kvs' ⟨X,x1,x2,x3,rfl⟩
  walk_at "ev"
  refine ⟨ts++X,.va (gI ps[i]),?_,?_,fun t ht=>(Oz.mp ht).elim (hb t) (x3 t),rfl⟩
  ·rw [jK,hm,x1,et,sM]
  ·rw [ec,OL]; lia
 ·rintro ρ' ⟨ts,s3,hm,hl,hb,rfl⟩
  rw [N6,OW] at hm hl
  walk_at "ev"
  refine aW (LM (ts:=ts) hW (by have:=h.s; lia) hb) ⟨dO fun x _=>jR x,?_⟩
  show Sl.ow _=Sl.ow _
  rw [bV hm]
end
end
section
variable {K:NZ}
theorem Ex.kq (h:Ex m L):Ex m (aP L):=fun t ht=>Ex.sum h t (lZ ht).1
theorem Bn.kq (h:Bn m L) (hl:L.length<2 ^ 16):Bn (m+16) (aP L):=fun t ht=>Bn.sum h hl t (lZ ht).1
noncomputable def dw (As:List (List aG)):List aG:=As.foldl (fun L A=>aP (aL L A)) [([],1)]
theorem oj (As) (A):dw (As++[A])=aP (aL (dw As) A):=by simp [dw]
theorem CD (h:Way n As L) (f:cF A) (hl:bu (As++[A])≤20000):Way n (As++[A]) (aP (aL L A)):=by
 obtain ⟨h1,h2,h3,h4⟩:=gK h f
 refine ⟨by rw [fJ,h1],N8 (ji _) h2,h3.kq,(h4.kq (P4 (N8 h2 hl) (by decide))).mono ?_⟩
 rw [OL,Sa]; lia
theorem fk (hf:∀ A∈As,cF A) (hl:bu As≤20000):∀ i,i≤As.length→Way 1 (As.take i) (dw (As.take i))
 | 0,_=>wW (by decide)
 | i+1,hi=>by
  rw [O0 hi,oj]
  refine CD (fk hf hl i (by lia)) (hf _ (OD hi)) ?_
  rw [← O0 hi]
  exact N8 (gZ _ _) hl
noncomputable def CF:Fn:=fun ds r=>∃ As:List (List aG),As.length≤8∧(∀ A∈As,cF A)∧bu As≤20000∧ds=[.lst (As.map af)]∧r=.ok (.ow ((dw As).map aM))
theorem LO (h:As.length≤8) (hf:∀ A∈As,cF A) (hl:bu As≤20000):CF [.lst (As.map af)] (.ok (.ow ((dw As).map aM))):=⟨As,h,hf,hl,rfl,rfl⟩
theorem jo (n):(qE 0 n).length=n:=by simp [qE]
theorem jS (L) (t):L.map aM++[aM t]=(L++[t]).map aM:=by rw [ON]; rfl
theorem yW (n):(Of n [D.int 0]).flatten=(Of n (0:Int)).map D.int:=by
 induction n with
 | zero=>rfl
 | succ n ih=>rw [PU,QB,ih,PU]; rfl
theorem CG (h:k<n) (hp:p.length≤n):jr (p.map D.int++(Of (n - p.length) [D.int 0]).flatten) (k:Int)=some (.int (bR p k)):=by
 rw [yW,← ON,gR (by lia) (by simp; lia),O1,Oa]
 by_cases z:k<p.length
 ·rw [Qc z,Ot z,dH z]; rfl
 ·rw [QS (by lia),Tt,if_pos (by lia),cQ (by lia)]; rfl
theorem wX {p:List Int} {n:Nat}:((n:Int) - ((p.map D.int).length:Int)).toNat=n - p.length:=by rw [N6]; lia
section
local macro_rules | `(tactic| walk_at "evBo")=> `(tactic| first | ((with_reducible show aF _ (RO (RN _ _ _) Operator.Mult _ _) _ _); with_reducible refine IG ?_))
local macro_rules | `(tactic| walk_at "evCa")=> `(tactic| first
 | ((with_reducible show aF _ (OR (Ol "max" _) [_,_] _ _) _ _); with_reducible refine Bf (Txt.max (by assumption)) ?_))
theorem Jt (Fu:fS K "_law_product" "_law_product" fM f fd) (T:Txt K mg) (h1:cV P w K mg base 1 "_law_plain" pS):bz P w K mg base (dR P w) 2 f fd ["_law_factors"] (fU K CF):=by
 refine dG Fu pQ pR (by rintro ds r ⟨As,_,_,_,rfl,_⟩; rfl) (by rintro ds r ⟨As,_,_,_,_,rfl⟩; exact ⟨_,rfl⟩) fun c hq ds sl hF=>?_
 obtain ⟨As,h8,hf,hl,rfl,e⟩:=hF
 injection e with e
 subst e
 show aS c _ [.va (.lst (As.map af)),.un,.un,.un,.un,.un,.un,.un,.un,.un,.un] _ _
 conv in (aA _)=>whnf
 walk_at "ev"
 show eS c _ [.va (.lst (As.map af)),.ow ((dw (As.take 0)).map aM),.un,.un,.un,.un,.un,.un,.un,.un,.un] _ _
 with_reducible refine cX hq (cy ?_)
 walk_at "ev"
 refine ⟨fun i ρ'=>∃ s2 s3 s4 s5 s6 s7 s8 s9 s10:Sl,ρ'=[.va (.lst (As.map af)),.ow ((dw (As.take i)).map aM),s2,s3,s4,s5,s6,s7,s8,s9,s10],⟨_,_,_,_,_,_,_,_,_,rfl⟩,?_,?_⟩
 ·rintro c' pZ zd ze i d ρ' hd ⟨s2,s3,s4,s5,s6,s7,s8,s9,s10,rfl⟩
  simp only [Oa,Og] at hd
  obtain ⟨B,hBx,rfl⟩:=hd
  obtain ⟨hi,rfl⟩:=Ob.mp hBx
  have hq':c'.X.xe=fun _ _=>False:=by rw [pZ]; exact hq
  have hfB:=hf _ (OD hi)
  have hw:=fk hf hl i (by omega)
  have hp2:bu (As.take i++[As[i]])≤20000:=by
   rw [← O0 hi]; exact N8 (gZ _ _) hl
  have hlp:(dw (As.take i)).length * As[i].length≤20000:=by
   have:=(gK hw hfB).2.1
   rw [cR] at this; omega
  have eN:dw (As.take (i+1))=aP (aL (dw (As.take i)) As[i]):=by rw [O0 hi,oj]
  have hAl:(dw (As.take i)).length≤20000:=N8 hw.l (N8 (gZ _ _) hl)
  have hA6:∀ t∈dw (As.take i),t.1.length≤6:=fun t ht=>(hw.e t ht).1
  have hAb:Bn 20000 (dw (As.take i)):=hw.b.mono (by rw [Pb]; omega)
  generalize dw (As.take i)=A at hlp eN hAl hA6 hAb ⊢
  generalize As[i]=B at hfB hlp eN ⊢
  clear hw hp2 hBx
  refine dF (by walk_at "at") (xG (by walk_at "sset") ?_)
  refine lF 1 (by walk_at "at") rfl (by walk_at "sset") ?_
  walk_at "ev"
  show eS c' _ [_,_,_,.ow ((aL (A.take 0) B).map aM),_,_,_,_,_,_,_] _ _
  with_reducible refine cX hq' (cy ?_)
  walk_at "ev"
  refine ⟨fun i ρ'=>∃ s4 s5 s6 s7 s8 s9 s10:Sl,ρ'=[.va (.lst (As.map af)),.va (.lst (A.map aM)),.va (af B),.ow ((aL (A.take i) B).map aM),s4,s5,s6,s7,s8,s9,s10],⟨_,_,_,_,_,_,_,rfl⟩,?_,?_⟩
  ·rintro c1 hcX1 hcR1 hcM1 i1 d ρ' hd ⟨s4,s5,s6,s7,s8,s9,s10,rfl⟩
   simp only [Oa,Og] at hd
   obtain ⟨l,hlx,rfl⟩:=hd
   obtain ⟨hi1,rfl⟩:=Ob.mp hlx
   have hq1:c1.X.xe=fun _ _=>False:=by rw [hcX1]; exact hq'
   have h6:=hA6 A[i1] (OD hi1)
   have hlb:=hAb A[i1] (OD hi1)
   have e0:aL (A.take (i1+1)) B=aL (A.take i1) B++B.map (dI A[i1]):=by
    rw [O0 hi1,n8]
   have hlen:(aL (A.take i1) B).length+B.length≤20000:=by
    rw [cR,Pb,Rv (by omega),← RG]
    exact N8 (Nat.mul_le_mul_right _ (by omega)) hlp
   generalize A[i1]=l at h6 hlb e0 ⊢
   generalize aL (A.take i1) B=ts at e0 hlen ⊢
   show nG c1 _ (.tup [.tup (l.1.map .int),.int l.2]) _ _
   walk_at "ev"
   with_reducible refine cX hq1 (cy ?_)
   refine qy (by walk_at "at") (by walk_at "at") ?_
   refine xQ (ds:=B.map aM) rfl ?_
   refine ⟨fun j ρ'=>∃ s6 s7 s8 s9 s10:Sl,ρ'=[.va (.lst (As.map af)),.va (.lst (A.map aM)),.va (af B),.ow ((ts++(B.take j).map (dI l)).map aM),.va (.tup (l.1.map .int)),.va (.int l.2),s6,s7,s8,s9,s10],⟨s6,s7,s8,s9,s10,by simp⟩,?_,?_⟩
   ·rintro c2 hcX2 hcR2 hcM2 j d ρ' hd ⟨s6,s7,s8,s9,s10,rfl⟩
    simp only [Oa,Og] at hd
    obtain ⟨r,hrx,rfl⟩:=hd
    obtain ⟨hj,rfl⟩:=Ob.mp hrx
    have h6r:=(hfB.e B[j] (OD hj)).1
    have hrb:=hfB.b B[j] (OD hj)
    have hq2:c2.X.xe=fun _ _=>False:=by rw [hcX2]; exact hq1
    have e1:ts++(B.take (j+1)).map (dI l)=(ts++(B.take j).map (dI l))++[dI l B[j]]:=by
     rw [O0 hj,ON,Ov]; rfl
    have hlen2:((ts++(B.take j).map (dI l)).map aM).length<sizeLine:=iG (by
     rw [N6,OL,N6,Pb]; omega)
    generalize ts++(B.take j).map (dI l)=us at e1 hlen2 ⊢
    generalize B[j]=r at h6r hrb e1 ⊢
    show nG c2 _ (.tup [.tup (r.1.map .int),.int r.2]) _ _
    generalize hG:(fun ρ'=>aS c2 _ ρ' _ _)=G
    walk_at "ev"
    subst hG
    refine aQ ?_
    generalize hG:(fun ρ'=>aS c2 _ ρ' _ _)=G
    walk_at "ev"
    have ew:(if ((r.1.map D.int).length:Int)>((l.1.map D.int).length:Int) then ((r.1.map D.int).length:Int) else ((l.1.map D.int).length:Int))=((max l.1.length r.1.length:Nat):Int):=by simp only [N6]; split <;> omega
    rw [ew]
    have hw6:max l.1.length r.1.length≤6:=by omega
    generalize hwd:max l.1.length r.1.length=wd at hw6 ⊢
    subst hG
    refine aQ ?_
    generalize hG:(fun ρ'=>aS c2 _ ρ' _ _)=G
    walk_at "ev"
    refine ⟨_,_,rfl,rfl,⟨⟨by simp,by rw [N6]; omega,by rw [N6]; omega,by rw [wX]; exact uq (by simp; omega)⟩,?_⟩⟩
    rw [wX]
    walk_at "ev"
    ·exact uq (by simp; omega)
    subst hG
    refine aQ ?_
    generalize hG:(fun ρ'=>aS c2 _ ρ' _ _)=G
    walk_at "ev"
    refine ⟨_,_,rfl,rfl,⟨⟨by simp,by rw [N6]; omega,by rw [N6]; omega,by rw [wX]; exact uq (by simp; omega)⟩,?_⟩⟩
    rw [wX]
    walk_at "ev"
    ·exact uq (by simp; omega)
    subst hG
    refine aQ ?_
    with_reducible refine tQ (by walk_at "at") (by walk_at "at") (by walk_at "own") ?_
    refine F2 (dU (kD (Txt.tuple T) (e_x (dW hq2 (N':=["_law_k","_law_one","_law_two"]) (ρ0:=fun _=>[.un,.va (.tup (l.1.map .int++(Of (wd - l.1.length) [D.int 0]).flatten)),.va (.tup (r.1.map .int++(Of (wd - r.1.length) [D.int 0]).flatten))]) (fun t=>.un (.fr (by walk_at "at") (by walk_at "at") (by decide) rfl (.fr (by walk_at "at") (by walk_at "at") (by decide) rfl .nil))) (iZ (Txt.range T) ?_)))) ?_)
    case refine_2=>intro _; walk_at "u"
    walk_at "ev"
    ·exact ⟨by omega,by omega⟩
    ·rw [jo]; exact uq (by omega)
    refine ⟨(OP wd).map fun k=>some (.int (bR l.1 k+bR r.1 k)),by simp [jo],?_,?_⟩
    ·intro c3 hc3 t k d o hd ho
     rw [O1] at hd
     obtain ⟨hk,rfl⟩:=kG hd
     rw [Oa,Q0 hk] at ho
     cases ho
     refine dF (by walk_at "at") (xG (by walk_at "sset") ⟨.un (.same (.same .nil)),?_⟩)
     simp only [sX]
     refine ⟨fun _=>?_,fun h=>by cases h⟩
     walk_at "ev"
     refine iY (CG (p:=l.1) hk (by omega)) ?_
     walk_at "ev"
     refine iY (CG (p:=r.1) hk (by omega)) ?_
     walk_at "ev"
     rfl
    ·rw [cS (fun k=>D.int (bR l.1 k+bR r.1 k)),show (OP wd).map (fun k=>D.int (bR l.1 k+bR r.1 k))=(cC l.1 r.1).map D.int by rw [← hwd]; unfold cC; rw [Ou]; rfl]
     walk_at "ev"
     ·exact pV hlb hrb (by decide)
     show ∃ s6 s7 s8 s9 s10:Sl,_=[_,_,_,.ow ((ts++(B.take (j+1)).map (dI l)).map aM),_,_,s6,s7,s8,s9,s10]
     rw [e1,← jS]
     exact ⟨_,_,_,_,_,rfl⟩
   ·rintro ρ' ⟨s6,s7,s8,s9,s10,rfl⟩
    rw [N6,OW,← e0]
    walk_at "ev"
    exact ⟨_,_,_,_,_,_,_,rfl⟩
  ·rintro ρ' ⟨s4,s5,s6,s7,s8,s9,s10,rfl⟩
   rw [N6,OW]
   refine aQ (vB (by walk_at "at") (vO 3 (by walk_at "at") rfl (by walk_at "sset") (x_call (F:=pS) h1 (by decide) ?_)))
   walk_at "ev"
   refine aW (uN (by rw [cR]; exact hlp) fun t ht=>?_) ⟨dO fun x _=>jR x,?_⟩
   ·obtain ⟨l,hl,r,hr,rfl⟩:=gw ht
    show (cC l.1 r.1).length≤64
    have:=hA6 l hl
    have:=(hfB.e r hr).1
    rw [jm]; omega
   walk_at "ev"
   show ∃ s2 s3 s4 s5 s6 s7 s8 s9 s10:Sl,_=[_,.ow ((dw (As.take (i+1))).map aM),s2,s3,s4,s5,s6,s7,s8,s9,s10]
   rw [eN]
   exact ⟨_,_,_,_,_,_,_,_,_,rfl⟩
 ·rintro ρ' ⟨s2,s3,s4,s5,s6,s7,s8,s9,s10,rfl⟩
  rw [N6,OW]
  walk_at "ev"
  rfl
end
end
section
variable {P:Program} {w:World} {K:NZ} {mg:Str→Option Value} {base:Heap}
noncomputable def mz (n:Int) (t:aG):aG:=(t.1,n * t.2)
theorem mh (p):cC [] p=p:=by
 unfold cC
 refine Sz (by simp) fun i h1 h2=>?_
 rw [Ud,TU]
 simp [bR,Ot h2]
theorem Ju (n:Int) (A:List aG):mp (A.map (mz n))=(n:MP) * mp A:=by
 rw [← pJ,← uB]
 refine congrArg mp ?_
 unfold aL cT
 rw [Rq,Ue,O5]
 refine P1 fun t _=>?_
 unfold mz dI
 rw [mh]
noncomputable def sO (p:Part):D:=.tup [.int p.1,.lst (p.2.map af)]
noncomputable def fQ (ps:List Part):List aG:=ps.flatMap fun p=>(dw p.2).map (mz p.1)
theorem yX (ps) (p:Part):fQ (ps++[p])=fQ ps++(dw p.2).map (mz p.1):=by simp [fQ]
theorem FG (hf:∀ A∈As,cF A) (hl:bu As≤20000):mp (dw As)=pU As:=by
 have h:=(fk hf hl As.length (N2 _)).m
 rw [OW] at h
 rw [h]; grind
theorem wY {ps:List Part} (hp:p∈ps):bu p.2≤(ps.map fun p=>bu p.2).sum:=by
 induction ps with
 | nil=>cases hp
 | cons q ps ih =>
  rw [N5,P9]
  rcases Oh.mp hp with rfl | h
  ·exact Q5 _ _
  ·exact N8 (ih h) (Nat.le_add_left _ _)
theorem wZ (h:∀ p∈ps,c9 p∧bu p.2≤20000):mp (fQ ps)=mp (bZ ps):=by
 induction ps with
 | nil=>rfl
 | cons p ps ih =>
  have hp:=h p Od
  have e1:fQ (p::ps)=(dw p.2).map (mz p.1)++fQ ps:=rfl
  have e2:bZ (p::ps)=fO p.1 p.2++bZ ps:=rfl
  rw [e1,e2,jK,jK,ih fun q hq=>h q (Oe _ hq),Ju,FG hp.1.f hp.2,fP]
theorem mC (h:∀ p∈ps,c9 p∧bu p.2≤20000):(fQ ps).length≤(ps.map fun p=>bu p.2).sum:=by
 induction ps with
 | nil=>exact N2 _
 | cons p ps ih =>
  have hp:=h p Od
  have e1:fQ (p::ps)=(dw p.2).map (mz p.1)++fQ ps:=rfl
  have hw:=(fk hp.1.f hp.2 p.2.length (N2 _)).l
  rw [OW] at hw
  rw [e1,OL,N6,N5,P9]
  exact Nat.add_le_add hw (ih fun q hq=>h q (Oe _ hq))
theorem Jv (hf:∀ A∈As,cF A) (hl:bu As≤20000):∀ t∈dw As,t.1.length≤6:=fun t ht=>by
 have h:=(fk hf hl As.length (N2 _)).e
 rw [OW] at h
 exact (h t ht).1
theorem Jw (h8:As.length≤8) (hf:∀ A∈As,cF A) (hl:bu As≤20000):Bn 20000 (dw As):=by
 have h:=(fk hf hl As.length (N2 _)).b
 rw [OW] at h
 exact h.mono (by omega)
theorem CH (h:∀ p∈ps,c9 p∧bu p.2≤20000):∀ t∈fQ ps,t.1.length≤6:=fun t ht=>by
 obtain ⟨p,hp,ht⟩:=Sy.mp ht
 obtain ⟨u,hu,rfl⟩:=OF.mp ht
 exact Jv (h p hp).1.f (h p hp).2 u hu
noncomputable def pX:Fn:=fun ds r=>∃ ps:List Part,bL ps∧ds=[.lst (ps.map sO)]∧r=.ok (.ow ((aP (bZ ps)).map aM))
theorem w9 (h:bL ps):pX [.lst (ps.map sO)] (.ok (.ow ((aP (bZ ps)).map aM))):=⟨ps,h,rfl,rfl⟩
theorem Jx (Fu:fS K "_law_sum" "_law_sum" mj f fd) (T:Txt K mg) (h1:cV P w K mg base 1 "_law_plain" pS) (h2:cV P w K mg base 2 "_law_product" CF):bz P w K mg base (dR P w) 3 f fd ["_law_parts"] (fU K pX):=by
 refine dG Fu B4 B5 (by rintro ds r ⟨As,_,rfl,_⟩; rfl) (by rintro ds r ⟨As,_,_,rfl⟩; exact ⟨_,rfl⟩) fun c hq ds sl hF=>?_
 obtain ⟨ps,h,rfl,e⟩:=hF
 injection e with e
 subst e
 have hh:∀ p∈ps,c9 p∧bu p.2≤20000:=fun p hp=>⟨h.p p hp,N8 (wY hp) h.s⟩
 show aS c _ [.va (.lst (ps.map sO)),.un,.un,.un] _ _
 conv in (aA _)=>whnf
 walk_at "ev"
 show eS c _ [.va (.lst (ps.map sO)),.ow ((fQ (ps.take 0)).map aM),.un,.un] _ _
 with_reducible refine cX hq (cy ?_)
 walk_at "ev"
 refine ⟨fun i ρ'=>∃ s2 s3:Sl,ρ'=[.va (.lst (ps.map sO)),.ow ((fQ (ps.take i)).map aM),s2,s3],⟨_,_,rfl⟩,?_,?_⟩
 ·rintro c' pZ zd ze i d ρ' hd ⟨s2,s3,rfl⟩
  simp only [Oa,Og] at hd
  obtain ⟨p,hpx,rfl⟩:=hd
  obtain ⟨hi,rfl⟩:=Ob.mp hpx
  have hq':c'.X.xe=fun _ _=>False:=by rw [pZ]; exact hq
  obtain ⟨hp,hpl⟩:=hh _ (OD hi)
  have eN:fQ (ps.take (i+1))=fQ (ps.take i)++(dw ps[i].2).map (mz ps[i].1):=by rw [O0 hi,yX]
  have hln:(fQ (ps.take i)).length+(dw ps[i].2).length≤20000:=by
   have h1:=mC (ps:=ps.take (i+1)) fun q hq=>hh q (Sf hq)
   rw [eN,OL,N6] at h1
   refine N8 h1 (N8 ?_ h.s)
   rw [← PD (i+1) ps,ON,QF,PD]
   exact Q5 _ _
  generalize fQ (ps.take i)=A at eN hln ⊢
  generalize ps[i]=p at hp hpl eN hln ⊢
  show nG c' _ (.tup [.int p.1,.lst (p.2.map af)]) _ _
  generalize hG:(fun ρ'=>aS c' _ ρ' _ _)=G
  walk_at "ev"
  subst hG
  refine aQ (vB (by walk_at "at") (vO 1 (by walk_at "at") rfl (by walk_at "sset") (Al (qy (by walk_at "at") (by walk_at "at") (e_x (dW hq' (N':=["_law_powers","_law_count","_law_number"]) (ρ0:=fun _=>[.un,.un,.va (.int p.1)]) (fun t=>.un (.un (.fr (by walk_at "at") (by walk_at "at") (by decide) rfl .nil))) (cy (e_x (x_call (F:=CF) h2 (by decide) ?_)))))))))
  walk_at "ev"
  refine aW (LO hp.m hp.f hpl) (eX ?_)
  have hb:=Jw hp.m hp.f hpl
  generalize dw p.2=L at eN hln hb ⊢
  refine xQ rfl ⟨uq (by simp only [N6]; omega),L.map fun x=>some (aM (mz p.1 x)),by simp,?_,?_⟩
  ·intro c2 hc t i d o hd ho
   simp only [Oa,Og] at hd ho
   obtain ⟨x,hx,rfl⟩:=hd
   obtain ⟨x',hx',rfl⟩:=ho
   rw [hx] at hx'; cases hx'
   have hxb:=hb x (O9 hx)
   show nG c2 _ (.tup [.tup (x.1.map .int),.int x.2]) _ _
   walk_at "ev"
   refine ⟨.un (.un (.same .nil)),?_⟩
   simp only [sX]
   refine ⟨fun _=>?_,fun h=>by cases h⟩
   walk_at "ev"
   ·exact pV hp.n hxb (by decide)
   rfl
  ·rw [cS (fun x=>aM (mz p.1 x)),show L.map (fun x=>aM (mz p.1 x))=(L.map (mz p.1)).map aM by rw [Ou]; rfl]
   walk_at "ev"
   ·exact uq (by simp only [N6]; omega)
   ·rw [← ON]; exact dO fun x _=>jR x
   show ∃ s2 s3:Sl,_=[_,.ow ((fQ (ps.take (i+1))).map aM),s2,s3]
   rw [eN,ON]
   exact ⟨_,_,rfl⟩
 ·rintro ρ' ⟨s2,s3,rfl⟩
  rw [N6,OW]
  refine aQ (fT (vO 1 (by walk_at "at") rfl (by walk_at "sset") (x_call (F:=pS) h1 (by decide) ?_)))
  walk_at "ev"
  refine aW (uN (N8 (mC hh) h.s) fun t ht=>N8 (CH hh t ht) (by decide)) ⟨dO fun x _=>jR x,?_⟩
  show Sl.ow _=Sl.ow _
  rw [show fh (nz (aJ (fQ ps)))=aP (bZ ps) from bV (wZ hh)]
noncomputable def CI:Fn:=fun ds r=>∃ (ns:List Int) (k:Nat),ds=[.lst (ns.map .int),.int (k:Int)]∧r=.ok (.va (.int (ns.getD k 0)))
theorem LP (ns:List Int) (k:Nat):CI [.lst (ns.map .int),.int (k:Int)] (.ok (.va (.int (ns.getD k 0)))):=⟨ns,k,rfl,rfl⟩
theorem Jy {ns:List Int} (h:k<ns.length):jr (ns.map D.int) (k:Int)=some (D.int (ns.getD k 0)):=by
 rw [gR (by lia) (by simp; lia),O1,Oa,Ot h,O7,Ot h]
 rfl
theorem Jz (Fu:fS K "_law_cell_at" "_law_cell_at" fL f fd) (T:Txt K mg):bz P w K mg base (dR P w) 1 f fd ["_law_script","_law_k"] (fU K CI):=by
 refine dG Fu pO pP (by rintro ds r ⟨ns,k,rfl,_⟩; rfl) (by rintro ds r ⟨ns,k,_,rfl⟩; exact ⟨_,rfl⟩) fun c hq ds sl hF=>?_
 obtain ⟨ns,k,rfl,e⟩:=hF
 injection e with e
 subst e
 show aS c _ [.va (.lst (ns.map .int)),.va (.int (k:Int))] _ _
 conv in (aA _)=>whnf
 walk_at "ev"
 ·have hk:k<ns.length:=by simp only [N6] at *; omega
  refine qC (Jy hk) ?_
  walk_at "ev"
  rfl
 ·have hk:¬ k<ns.length:=by simp only [N6] at *; omega
  show Sl.va _=Sl.va _
  rw [O7,PF (by omega)]; rfl
noncomputable def LQ (c:Int) (k:Nat):Int:=(c * 48271+(k:Int) * 69621+11) % 2147483629
noncomputable def JA (c:Int) (k:Nat):Int:=LQ c k * LQ c k % 2147483587
noncomputable def yY (ns:List Int) (k:Nat):Int :=
 if ns.getD k 0≥10 ^ RS 18 then ns.getD k 0 - 10 ^ RS 18 else JA (ns.getD k 0) k * 2147483563+JA (ns.getD k 0) k * JA (ns.getD k 0) k % 2147483563
noncomputable def CJ:Fn:=fun ds r=>∃ (ns:List Int) (k:Nat),ds=[.lst (ns.map .int),.int (k:Int)]∧r=.ok (.va (.int (yY ns k)))
theorem LR (ns) (k:Nat):CJ [.lst (ns.map .int),.int (k:Int)] (.ok (.va (.int (yY ns k)))):=⟨ns,k,rfl,rfl⟩
theorem LS:tE 10 9:=⟨by decide,by decide,by decide +kernel⟩
theorem CK:tE 10 18:=⟨by decide,by decide,by decide +kernel⟩
theorem uS (h:b.natAbs<2 ^ 63):EV.MulOk a b:=IntMulOk.of_right (qN h)
section
local macro_rules | `(tactic| walk_at "evR")=> `(tactic| with_reducible refine aW (LP _ _) ?_)
local macro_rules | `(tactic| walk_at "evCa")=> `(tactic| with_reducible refine b9 (F:=CI) (by assumption) (by decide) ?_)
theorem JB (Fu:fS K "_law_digits" "_law_digits" gE f fd) (T:Txt K mg) (h1:cV P w K mg base 1 "_law_cell_at" CI):bz P w K mg base (dR P w) 2 f fd ["_law_script","_law_k"] (fU K CJ):=by
 refine dG Fu sj su (by rintro ds r ⟨ns,k,rfl,_⟩; rfl) (by rintro ds r ⟨ns,k,_,rfl⟩; exact ⟨_,rfl⟩) fun c hq ds sl hF=>?_
 obtain ⟨ns,k,rfl,e⟩:=hF
 injection e with e
 subst e
 show aS c _ [.va (.lst (ns.map .int)),.va (.int (k:Int)),.un,.un] _ _
 conv in (aA _)=>whnf
 walk_at "ev"
 ·exact CK
 ·exact CK
 ·show Sl.va _=Sl.va _
  unfold yY
  rw [if_pos (by assumption)]
 ·exact uS (by decide)
 ·exact uS (by decide)
 ·exact qO (by omega)
 ·exact uS (by decide)
 ·exact qO (by omega)
 ·show Sl.va _=Sl.va _
  unfold yY
  rw [if_neg (by assumption)]
  rfl
end
noncomputable def stN (r:Int):Int:=r / 513 / 16
noncomputable def Dm (r:Int):aG:=([r % 3,r / 3 % 3,r / 9 % 3],if r / 513 % 16=15 then (r / 27 % 19 - 9) * (10 ^ RS 9+7) else r / 27 % 19 - 9)
noncomputable def mY:Nat→Int→List aG×Int
 | 0,r=>([],r)
 | i+1,r=>((mY i r).1++[Dm (mY i r).2],stN (mY i r).2)
noncomputable def sP (n:Int):List aG:=aP (mY (n % 4).toNat (n / 4)).1
theorem kO (i) (r):(mY i r).1.length=i:=by
 induction i with
 | zero=>rfl
 | succ i ih=>simp [mY,ih]
noncomputable def sQ:Fn:=fun ds r=>∃ n:Int,ds=[.int n]∧r=.ok (.ow ((sP n).map aM))
theorem JC (n):sQ [.int n] (.ok (.ow ((sP n).map aM))):=⟨n,rfl,rfl⟩
theorem LU (i) (r):∀ t∈(mY i r).1,t.1.length=3:=by
 induction i with
 | zero=>intro t ht; cases ht
 | succ i ih =>
  intro t ht
  rcases Oz.mp ht with h | h
  ·exact ih t h
  ·rw [Oi.mp h]; rfl
section
theorem FH (Fu:fS K "_law_some" "_law_some" jP f fd) (T:Txt K mg) (h1:cV P w K mg base 1 "_law_plain" pS):bz P w K mg base (dR P w) 2 f fd ["_law_number"] (fU K sQ):=by
 refine dG Fu yM yN (by rintro ds r ⟨n,rfl,_⟩; rfl) (by rintro ds r ⟨n,_,rfl⟩; exact ⟨_,rfl⟩) fun c hq ds sl hF=>?_
 obtain ⟨n,rfl,e⟩:=hF
 injection e with e
 subst e
 show aS c _ [.va (.int n),.un,.un,.un,.un,.un] _ _
 conv in (aA _)=>whnf
 walk_at "ev"
 show eS c _ [.va (.int (mY 0 (n / 4)).2),.ow ((mY 0 (n / 4)).1.map aM),.va (.int (n % 4)),.un,.un,.un] _ _
 with_reducible refine cX hq (iZ (Txt.range (by assumption)) ?_)
 walk_at "ev"
 ·exact ⟨by omega,by omega⟩
 refine ⟨fun i ρ'=>∃ s3 s4 s5:Sl,ρ'=[.va (.int (mY i (n / 4)).2),.ow ((mY i (n / 4)).1.map aM),.va (.int (n % 4)),s3,s4,s5],⟨_,_,_,rfl⟩,?_,?_⟩
 ·rintro c' pZ zd ze i d ρ' hd ⟨s3,s4,s5,rfl⟩
  obtain ⟨hi,rfl⟩:=kG hd
  have hl:=kO i (n / 4)
  have eN:mY (i+1) (n / 4)=((mY i (n / 4)).1++[Dm (mY i (n / 4)).2],stN (mY i (n / 4)).2):=rfl
  generalize mY i (n / 4)=g at hl eN ⊢
  obtain ⟨L,r⟩:=g
  have hm:=Int.emod_lt_of_pos (r / 27) (b:=19) (by decide)
  have hm0:=Int.emod_nonneg (r / 27) (b:=19) (by decide)
  have hz:(L.map aM).length<sizeLine:=iG (by rw [N6]; have:L.length=i:=hl; omega)
  walk_at "ev"
  ·exact LS
  ·exact qO (by show ((r / 27 % 19 - 9:Int)).natAbs<_; omega)
  ·show ∃ s3 s4 s5:Sl,_=[.va (.int (mY (i+1) (n / 4)).2),.ow ((mY (i+1) (n / 4)).1.map aM),.va (.int (n % 4)),s3,s4,s5]
   rw [eN,← jS,show aM (Dm r)=.tup [.tup [.int (r % 3),.int (r / 3 % 3),.int (r / 9 % 3)],.int ((r / 27 % 19 - 9) * (10 ^ RS 9+7))] by unfold Dm; rw [if_pos (by assumption)]; rfl]
   exact ⟨_,_,_,rfl⟩
  ·show ∃ s3 s4 s5:Sl,_=[.va (.int (mY (i+1) (n / 4)).2),.ow ((mY (i+1) (n / 4)).1.map aM),.va (.int (n % 4)),s3,s4,s5]
   rw [eN,← jS,show aM (Dm r)=.tup [.tup [.int (r % 3),.int (r / 3 % 3),.int (r / 9 % 3)],.int (r / 27 % 19 - 9)] by unfold Dm; rw [if_neg (by assumption)]; rfl]
   exact ⟨_,_,_,rfl⟩
 ·rintro ρ' ⟨s3,s4,s5,rfl⟩
  rw [jo]
  refine aQ (fT (vO 1 (by walk_at "at") rfl (by walk_at "sset") (x_call (F:=pS) h1 (by decide) ?_)))
  walk_at "ev"
  refine aW (uN (by rw [kO]; omega) fun t ht=>by rw [LU _ _ t ht]; decide) ⟨dO fun x _=>jR x,?_⟩
  rfl
end
end
section
variable {K:NZ}
noncomputable def CL (ns:List Int) (a:Nat) (m:Nat):List (List aG):=(OP m).map fun k=>sP (yY ns (a+k))
noncomputable def uT:Fn:=fun ds r=>∃ (ns:List Int) (a m:Nat),m≤100∧a≤1000∧ds=[.lst (ns.map .int),.int (a:Int),.int (m:Int)]∧r=.ok (.va (.tup ((CL ns a m).map af)))
theorem Gw (ns) {a m:Nat} (h:m≤100) (ha:a≤1000):uT [.lst (ns.map .int),.int (a:Int),.int (m:Int)] (.ok (.va (.tup ((CL ns a m).map af)))):=⟨ns,a,m,h,ha,rfl,rfl⟩
theorem JD (Fu:fS K "_law_things" "_law_things" gF f fd) (T:Txt K mg) (h1:cV P w K mg base 2 "_law_digits" CJ) (h2:cV P w K mg base 2 "_law_some" sQ):bz P w K mg base (dR P w) 3 f fd ["_law_script","_law_at","_law_many"] (fU K uT):=by
 refine dG Fu sA sC (by rintro ds r ⟨ns,a,m,_,_,rfl,_⟩; rfl) (by rintro ds r ⟨ns,a,m,_,_,_,rfl⟩; exact ⟨_,rfl⟩) fun c hq ds sl hF=>?_
 obtain ⟨ns,a,m,hm,ha,rfl,e⟩:=hF
 injection e with e
 subst e
 show aS c _ [.va (.lst (ns.map .int)),.va (.int (a:Int)),.va (.int (m:Int))] _ _
 conv in (aA _)=>whnf
 refine aQ (fT (J3 (kD (Txt.tuple T) (e_x (dW hq (N':=["_law_k","_law_script","_law_at"]) (ρ0:=fun _=>[.un,.va (.lst (ns.map .int)),.va (.int (a:Int))]) (fun t=>.un (.fr (by walk_at "at") (by walk_at "at") (by decide) rfl (.fr (by walk_at "at") (by walk_at "at") (by decide) rfl .nil))) (iZ (Txt.range T) ?_))))))
 walk_at "ev"
 ·exact ⟨by omega,by omega⟩
 ·rw [jo]; exact uq (by omega)
 rw [O1]
 refine ⟨(CL ns a m).map fun A=>some (af A),by simp [jo,CL],?_,?_⟩
 ·intro c3 hc3 t k d o hd ho
  obtain ⟨hk,rfl⟩:=kG hd
  unfold CL at ho
  rw [Oa,Oa,Q0 hk] at ho
  cases ho
  refine dF (by walk_at "at") (xG (by walk_at "sset") ⟨.un (.same (.same .nil)),?_⟩)
  simp only [sX]
  refine ⟨fun _=>?_,fun h=>by cases h⟩
  refine b9 (F:=sQ) h2 (by decide) (dU (b9 (F:=CJ) h1 (by decide) ?_))
  walk_at "ev"
  rw [show (a:Int)+(k:Int)=((a+k:Nat):Int) by omega]
  refine aW (LR ns (a+k)) (F5 ?_)
  walk_at "ev"
  refine aW (JC _) ?_
  walk_at "ev"
  rfl
 ·rw [cS af]
  walk_at "ev"
  rfl
noncomputable def uU:Fn:=fun ds r=>∃ As:List (List aG),As.length≤1000∧ds=[.tup (As.map af)]∧r=.ok (.va (.tup (As.map af)))
theorem Gx {As:List (List aG)} (h:As.length≤1000):uU [.tup (As.map af)] (.ok (.va (.tup (As.map af)))):=⟨As,h,rfl,rfl⟩
theorem JE (Fu:fS K "_law_copied" "_law_copied" gG f fd) (T:Txt K mg):bz P w K mg base (dR P w) 1 f fd ["_law_told"] (fU K uU):=by
 refine dG Fu sD sE (by rintro ds r ⟨A,_,rfl,_⟩; rfl) (by rintro ds r ⟨A,_,_,rfl⟩; exact ⟨_,rfl⟩) fun c hq ds sl hF=>?_
 obtain ⟨As,hl,rfl,e⟩:=hF
 injection e with e
 subst e
 show aS c _ [.va (.tup (As.map af))] _ _
 conv in (aA _)=>whnf
 refine aQ (fT (J3 (kD (Txt.tuple T) (e_x (dW hq (N':=["_law_some_here"]) (ρ0:=fun _=>[.un]) (fun t=>.un .nil) (cy ?_))))))
 walk_at "ev"
 ·exact uq (by rw [N6]; omega)
 refine ⟨As.map fun t=>some (af t),by simp,?_,eX ?_⟩
 ·intro c' hc t i d o hd ho
  simp only [Oa,Og] at hd ho
  obtain ⟨x,hx,rfl⟩:=hd
  obtain ⟨x',hx',rfl⟩:=ho
  rw [hx] at hx'; cases hx'
  refine dF (by walk_at "at") (xG (by walk_at "sset") ⟨.un .nil,?_⟩)
  simp only [sX]
  refine ⟨fun _=>?_,fun h=>by cases h⟩
  refine e_x (Ai (Txt.list T) ?_)
  walk_at "ev"
  rfl
 ·rw [cS af]
  walk_at "ev"
  rfl
noncomputable def CM:Fn:=fun ds r=>∃ L:List aG,(∀ t∈L,t.1.length≤64)∧ds=[.lst (L.map aM)]∧r=.ok (.va (.bl true))
theorem LV {L:List aG} (h2:∀ t∈L,t.1.length≤64):CM [.lst (L.map aM)] (.ok (.va (.bl true))):=⟨L,h2,rfl,rfl⟩
theorem JF (Fu:fS K "_law_terms" "_law_terms" iN f fd) (T:Txt K mg):bz P w K mg base (dR P w) 1 f fd ["_law_some_here"] (fU K CM):=by
 refine dG Fu uI uJ (by rintro ds r ⟨n,_,rfl,_⟩; rfl) (by rintro ds r ⟨n,_,_,rfl⟩; exact ⟨_,rfl⟩) fun c hq ds sl hF=>?_
 obtain ⟨L,hlen,rfl,e⟩:=hF
 injection e with e
 subst e
 show aS c _ [.va (.lst (L.map aM)),.un,.un] _ _
 conv in (aA _)=>whnf
 walk_at "ev"
 with_reducible refine cX hq (cy ?_)
 walk_at "ev"
 refine ⟨fun i ρ'=>∃ s1 s2:Sl,ρ'=[.va (.lst (L.map aM)),s1,s2],⟨_,_,rfl⟩,?_,?_⟩
 ·rintro c' pZ zd ze i d ρ' hd ⟨s1,s2,rfl⟩
  simp only [Oa,Og] at hd
  obtain ⟨t,ht,rfl⟩:=hd
  have hlt:=hlen t (O9 ht)
  have hq':c'.X.xe=fun _ _=>False:=by rw [pZ]; exact hq
  show nG c' _ (.tup [.tup (t.1.map .int),.int t.2]) _ _
  walk_at "ev"
  case refine_2 h=>exact absurd rfl h
  with_reducible refine cX hq' (cy ?_)
  walk_at "ev"
  ·exact uq (by simp; omega)
  refine ⟨fun i ρ'=>∃ s2:Sl,ρ'=[.va (.lst (L.map aM)),.va (aM t),s2],⟨_,rfl⟩,?_,?_⟩
  ·rintro c2 hcX2 hcR2 hcM2 j d ρ' hd ⟨s2,rfl⟩
   rw [show (t.1.map D.int++[D.int t.2])=(t.1++[t.2]).map D.int by simp,Oa,Og] at hd
   obtain ⟨n,_,rfl⟩:=hd
   walk_at "ev"
   exact ⟨_,rfl⟩
  ·rintro ρ' ⟨s2,rfl⟩
   walk_at "ev"
   exact ⟨_,_,rfl⟩
 ·rintro ρ' ⟨s1,s2,rfl⟩
  walk_at "ev"
  rfl
noncomputable def uV:Fn:=fun ds r=>∃ As:List (List aG),As.length≤1000∧(∀ A∈As,∀ t∈A,t.1.length≤64)∧ds=[.tup (As.map af),.tup (As.map af)]∧r=.ok (.va (.bl true))
theorem Gy {As:List (List aG)} (h:As.length≤1000) (h2:∀ A∈As,∀ t∈A,t.1.length≤64):uV [.tup (As.map af),.tup (As.map af)] (.ok (.va (.bl true))):=⟨As,h,h2,rfl,rfl⟩
section
local macro_rules | `(tactic| walk_at "evCa")=> `(tactic| first | with_reducible refine b9 (F:=CM) (by assumption) (by decide) ?_)
theorem JG {f:Addr} {fd:FuncData} (Fu:fS K "_law_same" "_law_same" jQ f fd) (T:Txt K mg) (h1:cV P w K mg base 1 "_law_terms" CM):bz P w K mg base (dR P w) 2 f fd ["_law_found","_law_due_here"] (fU K uV):=by
 refine dG Fu yO yP (by rintro ds r ⟨n,_,_,rfl,_⟩; rfl) (by rintro ds r ⟨n,_,_,_,rfl⟩; exact ⟨_,rfl⟩) fun c hq ds sl hF=>?_
 obtain ⟨As,hl,hlen,rfl,e⟩:=hF
 injection e with e
 subst e
 show aS c _ [.va (.tup (As.map af)),.va (.tup (As.map af)),.un] _ _
 conv in (aA _)=>whnf
 walk_at "ev"
 case refine_2 h=>exact absurd rfl h
 with_reducible refine cX hq (iZ (Txt.range (by assumption)) ?_)
 walk_at "ev"
 ·exact ⟨by omega,by simp only [N6]; omega⟩
 refine ⟨fun i ρ'=>∃ s2:Sl,ρ'=[.va (.tup (As.map af)),.va (.tup (As.map af)),s2],⟨_,rfl⟩,?_,?_⟩
 ·rintro c' pZ zd ze i d ρ' hd ⟨s2,rfl⟩
  obtain ⟨hi,rfl⟩:=kG hd
  rw [N6,O1] at hi
  have hA:=hlen _ (OD hi)
  have hat:jr (As.map af) (i:Int)=some (af As[i]):=by
   rw [gR (by omega) (by simp; omega),O1,Oa,Ot hi]; rfl
  generalize As[i]=A at hA hat
  walk_at "ev"
  refine iY hat ?_
  walk_at "ev"
  refine aW (LV hA) ?_
  walk_at "ev"
  refine iY hat ?_
  walk_at "ev"
  refine iY hat ?_
  walk_at "ev"
  refine l7 (yu A A) ?_
  walk_at "ev"
  exact ⟨_,rfl⟩
 ·rintro ρ' ⟨s2,rfl⟩
  walk_at "ev"
  rfl
end
noncomputable def Mt:D:=.tup [.tup [.int 1],.int 5]
noncomputable def Nq:D:=.tup [.tup [],.int 0]
noncomputable def CN (x:Addr×List D):Addr×List D:=(x.1,Nq::(x.2++[Mt]))
noncomputable def LW (i:Nat) (L:List (Addr×List D)):List (Addr×List D):=(L.take i).map CN++L.drop i
theorem CO:∀ L:List (Addr×List D),yy (l9 L)=some (L.map fun x=>D.adr x.1)
 | []=>rfl
 | x::L=>by
  have:=CO L
  unfold l9 at this ⊢
  simp only [N5,yy,Sh.raw,this]
theorem uW (A B):l9 (A++B)=l9 A++l9 B:=by unfold l9; rw [ON]
theorem CP (h:i<L.length):l9 (LW i L)=l9 ((L.take i).map CN)++.la L[i].1 L[i].2::l9 (L.drop (i+1)):=by
 unfold LW
 rw [uW,Ti h]
 rfl
theorem CQ (h:i<L.length):l9 ((L.take i).map CN)++.la L[i].1 (Nq::(L[i].2++[Mt]))::l9 (L.drop (i+1))=l9 (LW (i+1) L):=by
 unfold LW
 rw [uW,O0 h,ON,uW,Ov]
 rfl
noncomputable def xg (s:Sh):Prop:=∃ dss:List (List D),s=.t (dss.map .l)∧dss.length≤1000∧∀ ds∈dss,ds.length≤20000
theorem CS (Fu:fS K "_law_spoil" "_law_spoil" iO f fd):bz P w K mg base (dR P w) 1 f fd ["_law_found"] (J6 K xg):=by
 refine Nl Fu uK uL rfl (by decide) fun c hq s hs=>?_
 obtain ⟨dss,rfl,hl,hd'⟩:=hs
 show aS c _ [.fo (.t (dss.map .l)),.un] _ _
 conv in (aA _)=>whnf
 refine aQ (IY 0 (by walk_at "at") fun L e=>?_)
 subst e
 show eS c _ [.fo (.t (l9 L)),.un] _ _
 have hll:L.length≤1000:=by rw [← N6 (f:=(·.2))]; exact hl
 with_reducible refine cX hq (cy (IX (by walk_at "at") (by walk_at "at") (CO L) ?_))
 refine ⟨_,rfl,fun i ρ'=>ρ'=[.fo (.t (l9 (LW i L))),.un],rfl,?_,?_⟩
 ·rintro c' pZ zd ze i d ρ' hd rfl
  simp only [Oa,Og] at hd
  obtain ⟨x,hx,rfl⟩:=hd
  obtain ⟨hi,rfl⟩:=Ob.mp hx
  have hli:L[i].2.length≤20000:=hd' _ (OF.mpr ⟨_,OD hi,rfl⟩)
  refine dF (by walk_at "at") (xG (by walk_at "sset") ?_)
  rw [CP hi]
  refine BH 0 1 (.z (.cons rfl .nil)) (by walk_at "at") ?_ (by decide)
  show aS c' _ [.fo (.t (l9 ((L.take i).map CN)++.v (.adr L[i].1)::l9 (L.drop (i+1)))),.aw L[i].1 L[i].2] _ _
  refine aQ ?_
  with_reducible refine tQ (by walk_at "at") (by walk_at "at") (by walk_at "own") ?_
  generalize hG:(fun ρ''=>aS c' _ ρ'' _ _)=G
  walk_at "ev"
  ·exact iG (by omega)
  subst hG
  refine aQ ?_
  with_reducible refine Jc (ds:=L[i].2++[Mt]) (by walk_at "at") (by walk_at "at") (by walk_at "own") ?_
  generalize hG:(fun ρ''=>aS c' _ ρ'' _ _)=G
  walk_at "ev"
  ·exact iG (by simp; omega)
  subst hG
  show aS c' _ [.fo (.t (l9 ((L.take i).map CN)++.v (.adr L[i].1)::l9 (L.drop (i+1)))),.aw L[i].1 (Nq::(L[i].2++[Mt]))] _ _
  refine BI 0 1 (.z (.cons rfl .nil)) (by walk_at "at") ?_ (by decide)
  refine tP ?_
  show [Sl.fo (.t _),Sl.un]=_
  rw [CQ hi]
 ·rintro ρ' rfl
  exact tP trivial
end
section
variable {P:Program} {w:World} {K:NZ} {mg:Str→Option Value} {base:Heap}
structure dh (A:List aG):Prop where
 l:A.length≤3
 e:Ex 2 A
 b:Bn 100 A
theorem dh.p9 (h:dh A):cF A:=⟨N8 h.l (by decide),h.e.mono (by decide),h.b.mono (by decide)⟩
theorem JH (r):(Dm r).1.length≤6∧(∀ x∈(Dm r).1,0≤x∧x≤2)∧(Dm r).2.natAbs<2 ^ 50:=by
 unfold Dm
 refine ⟨by show (3:Nat)≤6; decide,fun x hx=>?_,?_⟩
 ·simp only [Oh,PX,or_false] at hx
  rcases hx with rfl | rfl | rfl <;> omega
 ·have h1:=Int.emod_lt_of_pos (r / 27) (b:=19) (by decide)
  have h2:=Int.emod_nonneg (r / 27) (b:=19) (by decide)
  have e9:(10:Int) ^ RS 9=1000000000:=by decide +kernel
  rw [e9]
  dsimp only
  split <;> omega
theorem uX (i) (r):∀ t∈(mY i r).1,t.1.length≤6∧(∀ x∈t.1,0≤x∧x≤2)∧t.2.natAbs<2 ^ 50:=by
 induction i with
 | zero=>intro t ht; cases ht
 | succ i ih =>
  intro t ht
  rcases Oz.mp ht with h | h
  ·exact ih t h
  ·rw [Oi.mp h]; exact JH _
theorem fR (n:Int):dh (sP n) where
 l:=N8 (ji _) (by rw [kO]; omega)
 e:=Ex.kq fun t ht=>⟨(uX _ _ t ht).1,(uX _ _ t ht).2.1⟩
 b:=(Bn.kq (m:=50) (fun t ht=>(uX _ _ t ht).2.2) (by rw [kO]; omega)).mono (by decide)
theorem xh:∀ {As:List (List aG)},(∀ A∈As,dh A)→bu As≤3 ^ As.length
 | [],_=>N2 _
 | A::As,h=>by
  have h1:=(h A Od).l
  have h2:=xh fun B hB=>h B (Oe _ hB)
  show max A.length 1 * bu As≤_
  rw [OE,Nat.pow_succ,RH]
  exact Qi h2 (by omega)
theorem uY {ps:List Part} (h:∀ p∈ps,p.1.natAbs<1000∧p.2.length≤6∧∀ A∈p.2,dh A) (hl:ps.length≤27):bL ps where
 p:=fun p hp=>⟨OU (h p hp).1 (N8 (by decide:1000≤2 ^ 10) (Rl (by decide) (by decide))),N8 (h p hp).2.1 (by decide),fun A hA=>((h p hp).2.2 A hA).p9⟩
 l:=N8 hl (by decide)
 s:=by
  have:∀ qs:List Part,(∀ p∈qs,p∈ps)→(qs.map fun p=>bu p.2).sum≤729 * qs.length:=fun qs=>by
   induction qs with
   | nil=>exact fun _=>N2 _
   | cons q qs ih =>
    intro hq
    have h1:=ih fun p hp=>hq p (Oe _ hp)
    have h2:=h q (hq q Od)
    have h3:bu q.2≤3 ^ 6:=N8 (xh h2.2.2) (Rl (by decide) h2.2.1)
    rw [N5,P9,OE]
    omega
  have:=this ps fun _ h=>h
  omega
theorem eF (h:bL ps):(aP (bZ ps)).length≤20000∧∀ t∈aP (bZ ps),t.1.length≤64:=by
 have hh:∀ p∈ps,c9 p∧bu p.2≤20000:=fun p hp=>⟨h.p p hp,N8 (wY hp) h.s⟩
 rw [← show aP (fQ ps)=aP (bZ ps) from bV (wZ hh)]
 exact ⟨N8 (ji _) (N8 (mC hh) h.s),Be fun t ht=>N8 (CH hh t ht) (by decide)⟩
noncomputable def LX (ps:List Part):List D:=(aP (bZ ps)).map aM
noncomputable def outF (X:List (List Part)):Res:=.ok (.fo (.t (X.map fun ps=>.l (LX ps))))
noncomputable def JI (x y:List aG):List Part:=[(1,[x,x]),(1,[y,y])]
noncomputable def JJ (a b c x y z:List aG):List Part:=[(1,[x,b]),(1,[y,c]),(-2,[z,a])]
noncomputable def gM (x y:List aG):List aG:=aP (bZ (JI x y))
noncomputable def uZ (a b c x y z:List aG):List aG:=aP (bZ (JJ a b c x y z))
noncomputable def CT (P:Program) (w:World) (K:NZ) (mg:Str→Option Value) (base:Heap):Fn:=fun ds r=>∃ (f:Addr) (x y z:List aG),pG P w K mg base 4 f mX∧bL (JI x y)∧ds=[.adr f,.tup [af x,af y,af z]]∧r=.ok (.ow ((gM x y).map aM))
theorem LY {f:Addr} {x y z:List aG} (hf:pG P w K mg base 4 f mX) (h:bL (JI x y)):CT P w K mg base [.adr f,.tup [af x,af y,af z]] (.ok (.ow ((gM x y).map aM))):=⟨f,x,y,z,hf,h,rfl,rfl⟩
noncomputable def CU (P:Program) (w:World) (K:NZ) (mg:Str→Option Value) (base:Heap):Fn:=fun ds r=>∃ (f:Addr) (a b c d x y z:List aG),pG P w K mg base 4 f mX∧bL (JJ a b c x y z)∧ds=[.adr f,.tup [af a,af b,af c,af d],.tup [af x,af y,af z]]∧r=.ok (.ow ((uZ a b c x y z).map aM))
theorem LZ {f:Addr} {a b c d x y z:List aG} (hf:pG P w K mg base 4 f mX) (h:bL (JJ a b c x y z)):CU P w K mg base [.adr f,.tup [af a,af b,af c,af d],.tup [af x,af y,af z]] (.ok (.ow ((uZ a b c x y z).map aM))):=⟨f,a,b,c,d,x,y,z,hf,h,rfl,rfl⟩
theorem JK {f:Addr} {fd:FuncData} (Fu:fS K "square_of_way" "square_of_way" c8 f fd):bz P w K mg base (dR P w) 5 f fd ["total","l"] (fU K (CT P w K mg base)):=by
 refine dG Fu jN jO (by rintro ds r ⟨f,x,y,z,_,_,rfl,_⟩; rfl) (by rintro ds r ⟨f,x,y,z,_,_,_,rfl⟩; exact ⟨_,rfl⟩) fun k hq ds sl hF=>?_
 obtain ⟨g,x,y,z,hg,h,rfl,e⟩:=hF
 injection e with e
 subst e
 show aS k _ [.va (.adr g),.va (.tup [af x,af y,af z])] _ _
 conv in (aA _)=>whnf
 walk_at "evSs"
 refine fT (gY hg (by decide) (by walk_at "at") (by walk_at "at") ?_)
 walk_at "ev"
 exact aW (oi h) rfl
theorem JL {f:Addr} {fd:FuncData} (Fu:fS K "middle_worth" "middle_worth" dM f fd):bz P w K mg base (dR P w) 5 f fd ["total","o","l"] (fU K (CU P w K mg base)):=by
 refine dG Fu kj ko (by rintro ds r ⟨f,a,b,c,d,x,y,z,_,_,rfl,_⟩; rfl) (by rintro ds r ⟨f,a,b,c,d,x,y,z,_,_,_,rfl⟩; exact ⟨_,rfl⟩) fun k hq ds sl hF=>?_
 obtain ⟨g,a,b,c,d,x,y,z,hg,h,rfl,e⟩:=hF
 injection e with e
 subst e
 show aS k _ [.va (.adr g),.va (.tup [af a,af b,af c,af d]),.va (.tup [af x,af y,af z])] _ _
 conv in (aA _)=>whnf
 walk_at "evSs"
 refine fT (gY hg (by decide) (by walk_at "at") (by walk_at "at") ?_)
 walk_at "ev"
 exact aW (oi h) rfl
noncomputable def xj (a b c d x y z:List aG):List (List Part):=[[(1,[gM x y,a])],[(1,[gM x y,b]),(-2,[x,uZ a b c x y z])],[(1,[gM x y,c]),(-2,[y,uZ a b c x y z])],[(1,[gM x y,d]),(-2,[z,uZ a b c x y z])]]
structure u0 (a b c d x y z:List aG):Prop where
 s:bL (JI x y)
 w:bL (JJ a b c x y z)
 t:∀ ps∈xj a b c d x y z,bL ps
noncomputable def CV (P:Program) (w:World) (K:NZ) (mg:Str→Option Value) (base:Heap):Fn:=fun ds r=>∃ (f:Addr) (a b c d x y z:List aG),pG P w K mg base 4 f mX∧u0 a b c d x y z∧ds=[.adr f,.tup [af a,af b,af c,af d],.tup [af x,af y,af z]]∧r=outF (xj a b c d x y z)
theorem L5 {f:Addr} {a b c d x y z:List aG} (hf:pG P w K mg base 4 f mX) (h:u0 a b c d x y z):CV P w K mg base [.adr f,.tup [af a,af b,af c,af d],.tup [af x,af y,af z]] (outF (xj a b c d x y z)):=⟨f,a,b,c,d,x,y,z,hf,h,rfl,rfl⟩
noncomputable def sR:Fn:=fun ds r=>∃ a b c d x y z:List aG,u0 a b c d x y z∧ds=[.tup [af a,af b,af c,af d],.tup [af x,af y,af z]]∧r=outF (xj a b c d x y z)
theorem Gz {a b c d x y z:List aG} (h:u0 a b c d x y z):sR [.tup [af a,af b,af c,af d],.tup [af x,af y,af z]] (outF (xj a b c d x y z)):=⟨a,b,c,d,x,y,z,h,rfl,rfl⟩
section
local macro_rules | `(tactic| walk_at "evS")=> `(tactic| ((with_reducible show eS _ (RK (some (RN _ _ _)) _) _ _ _); refine fT (IW ?_)))
local macro_rules | `(tactic| walk_at "evCa")=> `(tactic| first
 | with_reducible refine b9 (x:=NY "square_of_way") (F:=CT _ _ _ _ _) (by assumption) (by decide) ?_
 | with_reducible refine b9 (x:=NY "middle_worth") (F:=CU _ _ _ _ _) (by assumption) (by decide) ?_)
theorem JM {f:Addr} {fd:FuncData} (Fu:fS K "mirroredround_rule" "mirroredround_rule" cj f fd) (h1:cV P w K mg base 5 "square_of_way" (CT P w K mg base)) (h2:cV P w K mg base 5 "middle_worth" (CU P w K mg base)):bz P w K mg base (dR P w) 6 f fd ["total","o","l"] (fU K (CV P w K mg base)):=by
 refine dG Fu fV fW (by rintro ds r ⟨f,a,b,c,d,x,y,z,_,_,rfl,_⟩; rfl) (by rintro ds r ⟨f,a,b,c,d,x,y,z,_,_,_,rfl⟩; exact ⟨_,rfl⟩) fun k hq ds sl hF=>?_
 obtain ⟨g,a,b,c,d,x,y,z,hg,h,rfl,e⟩:=hF
 injection e with e
 subst e
 have t1:bL [(1,[gM x y,a])]:=h.t _ (by simp [xj])
 have t2:bL [(1,[gM x y,b]),(-2,[x,uZ a b c x y z])]:=h.t _ (by simp [xj])
 have t3:bL [(1,[gM x y,c]),(-2,[y,uZ a b c x y z])]:=h.t _ (by simp [xj])
 have t4:bL [(1,[gM x y,d]),(-2,[z,uZ a b c x y z])]:=h.t _ (by simp [xj])
 show aS k _ [.va (.adr g),.va (.tup [af a,af b,af c,af d]),.va (.tup [af x,af y,af z]),.un,.un] _ _
 conv in (aA _)=>whnf
 walk_at "ev"
 refine aW (LY hg h.s) ?_
 walk_at "ev"
 refine aW (LZ hg h.w) ?_
 walk_at "ev"
 refine pH ?_
 refine E1 (gY hg (by decide) (by walk_at "at") (by walk_at "at") ?_)
 walk_at "ev"
 refine aW (oi t1) ⟨_,rfl,_,rfl,?_⟩
 refine pH ?_
 refine E1 (gY hg (by decide) (by walk_at "at") (by walk_at "at") ?_)
 walk_at "ev"
 refine aW (oi t2) ⟨_,rfl,_,rfl,?_⟩
 refine pH ?_
 refine E1 (gY hg (by decide) (by walk_at "at") (by walk_at "at") ?_)
 walk_at "ev"
 refine aW (oi t3) ⟨_,rfl,_,rfl,?_⟩
 refine pH ?_
 refine E1 (gY hg (by decide) (by walk_at "at") (by walk_at "at") ?_)
 walk_at "ev"
 refine aW (oi t4) ⟨_,rfl,_,rfl,?_⟩
 refine LC ?_
 refine Sd.mk (k9 (R9 rfl)) ?_
 exact rfl
end
theorem JN {f:Addr} {fd:FuncData} (Fu:fS K "mirrored_circle" "mirrored_circle" cI f fd) (h1:cV P w K mg base 4 "poly_total" mX) (h2:cV P w K mg base 6 "mirroredround_rule" (CV P w K mg base)):bz P w K mg base (dR P w) 7 f fd ["o","l"] (fU K sR):=by
 refine dG Fu iK iL (by rintro ds r ⟨a,b,c,d,x,y,z,_,rfl,_⟩; rfl) (by rintro ds r ⟨a,b,c,d,x,y,z,_,_,rfl⟩; exact ⟨_,rfl⟩) fun k hq ds sl hF=>?_
 obtain ⟨a,b,c,d,x,y,z,h,rfl,e⟩:=hF
 injection e with e
 subst e
 obtain ⟨g,hm,hg⟩:=h1.at_
 show aS k _ [.va (.tup [af a,af b,af c,af d]),.va (.tup [af x,af y,af z])] _ _
 conv in (aA _)=>whnf
 walk_at "evSs"
 refine fT (x_call (F:=CV P w K mg base) h2 (by decide) ?_)
 refine dU (IT hm ?_)
 walk_at "ev"
 exact aW (L5 hg h) rfl
end
section
variable {P:Program} {w:World} {K:NZ} {mg:Str→Option Value} {base:Heap}
structure Lm (l:Nat) (e:Int) (b:Nat) (A:List aG):Prop where
 l:A.length≤l
 e:Ex e A
 b:Bn b A
section
theorem Lm.kq (h:Lm la ea ba A) (hl:la<2 ^ 16:=by decide):Lm la ea (ba+16) (aP A):=⟨N8 (ji _) h.l,h.e.kq,h.b.kq (P4 h.l hl)⟩
theorem Lm.mono (h:Lm la ea ba A) (h1:la≤lb:=by decide) (h2:ea≤eb:=by decide) (h3:ba≤bb:=by decide):Lm lb eb bb A:=⟨N8 h.l h1,h.e.mono h2,h.b.mono h3⟩
theorem Lm.app (h:Lm la ea ba A) (g:Lm lb ea ba B):Lm (la+lb) ea ba (A++B):=⟨by rw [OL]; exact Nat.add_le_add h.l g.l,h.e.app g.e,fun t ht=>(Oz.mp ht).elim (h.b t) (g.b t)⟩
theorem Lm.prod (h:Lm la ea ba A) (g:Lm lb eb bb B) (h0:0≤ea:=by decide) (g0:0≤eb:=by decide):Lm (la * lb) (ea+eb) (ba+bb) (aL A B):=⟨by rw [cR]; exact Qi h.l g.l,h.e.prod h0 g0 g.e,h.b.prod g.b⟩
theorem Lm.p9 (h:Lm la ea ba A) (h1:la≤20000:=by decide) (h2:ea≤120:=by decide) (h3:ba≤2000:=by decide):cF A:=⟨N8 h.l h1,h.e.mono h2,h.b.mono h3⟩
theorem Lm.nil:Lm la ea ba []:=⟨OH _,(fun t ht=>by cases ht),fun t ht=>by cases ht⟩
theorem Lm.con {n:Int} (hn:n.natAbs<2 ^ ba):Lm 1 0 ba (cT n):=⟨N2 _,(fun t ht=>by cases Oi.mp ht; exact ⟨OH _,fun x hx=>by cases hx⟩),fun t ht=>by cases Oi.mp ht; exact hn⟩
end
theorem dh.lm {A:List aG} (h:dh A):Lm 3 2 100 A:=⟨h.l,h.e,h.b⟩
theorem NU {A:List aG} {l:Nat} (h:A.length≤l) (h1:1≤l):bu [A]≤l:=by
 show max A.length 1 * 1≤l; omega
theorem JO {A B:List aG} {l m:Nat} (h:A.length≤l) (h1:1≤l) (g:B.length≤m) (g1:1≤m):bu [A,B]≤l * m:=Qi (show max A.length 1≤l by omega) (NU g g1)
theorem NV {A B C:List aG} {l m n:Nat} (h:A.length≤l) (h1:1≤l) (g:B.length≤m) (g1:1≤m) (f:C.length≤n) (f1:1≤n):bu [A,B,C]≤l * (m * n):=Qi (show max A.length 1≤l by omega) (JO g g1 f f1)
theorem pY {ps:List Part} (h:∀ p∈ps,p.1.natAbs<1000∧p.2.length≤8∧∀ A∈p.2,cF A) (hl:ps.length≤1000) (hs:(ps.map fun p=>bu p.2).sum≤20000):bL ps :=
 ⟨fun p hp=>⟨OU (h p hp).1 (N8 (by decide:1000≤2 ^ 10) (Rl (by decide) (by decide))),(h p hp).2.1,(h p hp).2.2⟩,hl,hs⟩
section
theorem GA (hx:dh x) (hy:dh y):Lm 18 4 240 (gM x y) :=
 (((((Lm.con (n:=1) (ba:=20) (by decide)).prod hx.lm).prod hx.lm).app ((((Lm.con (n:=1) (ba:=20) (by decide)).prod hy.lm).prod hy.lm).app (Lm.nil (la:=0)))).kq).mono
theorem L6 {l:Nat} {e:Int} {m:Nat} (ha:Lm l e m a) (hb:Lm l e m b) (hc:Lm l e m c) (hx:dh x) (hy:dh y) (hz:dh z) (h0:0≤e) (hl:l≤1000):Lm (9 * l) (e+2) (m+136) (uZ a b c x y z):=by
 have h1:=((Lm.con (n:=1) (ba:=20) (by decide)).prod hx.lm).prod hb (by decide) h0
 have h2:=((Lm.con (n:=1) (ba:=20) (by decide)).prod hy.lm).prod hc (by decide) h0
 have h3:=((Lm.con (n:= -2) (ba:=20) (by decide)).prod hz.lm).prod ha (by decide) h0
 exact (((h1.app (h2.app (h3.app (Lm.nil (la:=0))))).kq (by omega)).mono (by omega) (by omega) (by omega))
end
theorem jZ (p:Part) (ps:List Part):mp (bZ (p::ps))=(p.1:MP) * pU p.2+mp (bZ ps):=by
 unfold bZ
 rw [Rq,jK,fP]
theorem j0:mp (bZ [])=0:=by
 have h:mp ([]:List aG)=mp []+mp []:=jK [] []
 show mp ([]:List aG)=0
 grind
theorem j3 (A:List aG) (As:List (List aG)):pU (A::As)=mp A * pU As:=rfl
theorem j4:pU []=1:=rfl
noncomputable def GB (a x y:List aG):List Part:=[(1,[x,x,a]),(1,[y,y,a])]
noncomputable def zc (s v a b c x y z:List aG):List Part:=[(1,[x,x,v]),(1,[y,y,v]),(-2,[s,x,b]),(-2,[s,y,c]),(4,[s,z,a])]
section
variable (a b c d x y z s v:List aG)
noncomputable def CW:List aG:=aP (bZ (GB a x y))
noncomputable def mZ:List aG:=aP (bZ (zc s v a b c x y z))
theorem xm:mp (gM x y)=mp x * mp x+mp y * mp y:=by
 unfold gM JI
 simp only [fJ,jZ,j0,j3,j4]
 grind
theorem GC:mp (uZ a b c x y z)=mp x * mp b+mp y * mp c - 2 * mp z * mp a:=by
 unfold uZ JJ
 simp only [fJ,jZ,j0,j3,j4]
 grind
theorem CY:mp (CW a x y)=(mp x * mp x+mp y * mp y) * mp a:=by
 unfold CW GB
 simp only [fJ,jZ,j0,j3,j4]
 grind
theorem xo:mp (mZ a b c x y z s v)=(mp x * mp x+mp y * mp y) * mp v - 2 * mp s * (mp x * mp b+mp y * mp c - 2 * mp z * mp a):=by
 unfold mZ zc
 simp only [fJ,jZ,j0,j3,j4]
 grind
theorem L7:aP (bZ [(1,[gM x y,a])])=CW a x y:=by
 refine (bV ?_).trans (bV (fJ (bZ (GB a x y))))
 show _=mp (CW a x y)
 rw [CY]
 simp only [jZ,j0,j3,j4,xm]
 grind
theorem L8:aP (bZ [(1,[gM x y,v]),(-2,[s,uZ a b c x y z])])=mZ a b c x y z s v:=by
 refine (bV ?_).trans (bV (fJ (bZ (zc s v a b c x y z))))
 show _=mp (mZ a b c x y z s v)
 rw [xo]
 simp only [jZ,j0,j3,j4,xm,GC]
 grind
theorem FI:aP (bZ [(1,[gM x y,CW a x y])])=aP (bZ [(1,[gM x y,gM x y,a])]):=by
 refine bV ?_
 simp only [jZ,j0,j3,j4,xm,CY]
 grind
theorem FJ:mp (uZ (CW a x y) (mZ a b c x y z x b) (mZ a b c x y z y c) x y z)= -((mp x * mp x+mp y * mp y) * (mp x * mp b+mp y * mp c - 2 * mp z * mp a)):=by
 rw [GC,CY,xo,xo]
 grind
theorem FL:aP (bZ [(1,[gM x y,mZ a b c x y z s v]),(-2,[s,uZ (CW a x y) (mZ a b c x y z x b) (mZ a b c x y z y c) x y z])])=aP (bZ [(1,[gM x y,gM x y,v])]):=by
 refine bV ?_
 simp only [jZ,j0,j3,j4,xm,xo,FJ]
 grind
end
end
section
variable {K:NZ}
noncomputable def yZ (X:List (List Part)):List (List aG):=X.map fun ps=>aP (bZ ps)
noncomputable def lS (Ls:List (List aG)):Sh:=.t ((Ls.map fun A=>A.map aM).map .l)
theorem GD:∀ Ls:List (List aG),Sh.ds ((Ls.map fun A=>A.map aM).map .l)=Ls.map af
 | []=>rfl
 | A::Ls=>congrArg (af A:: ·) (GD Ls)
theorem Ma (Ls):(lS Ls).d=.tup (Ls.map af):=congrArg D.tup (GD Ls)
theorem CZ (X):outF X=.ok (.fo (lS (yZ X))):=by
 unfold outF lS yZ LX
 rw [Ou,Ou]; rfl
noncomputable def mD (a b c d x y z:List aG):List (List aG):=[CW a x y,mZ a b c x y z x b,mZ a b c x y z y c,mZ a b c x y z z d]
theorem JP (a b c d x y z:List aG):yZ (xj a b c d x y z)=mD a b c d x y z:=by
 unfold yZ xj mD
 simp only [N5,Qo,L7,L8]
noncomputable def sS (a b c d x y:List aG):List (List aG):=[aP (bZ [(1,[gM x y,gM x y,a])]),aP (bZ [(1,[gM x y,gM x y,b])]),aP (bZ [(1,[gM x y,gM x y,c])]),aP (bZ [(1,[gM x y,gM x y,d])])]
theorem FN (a b c d x y z:List aG):yZ (xj (CW a x y) (mZ a b c x y z x b) (mZ a b c x y z y c) (mZ a b c x y z z d) x y z)=sS a b c d x y:=by
 unfold yZ xj sS
 simp only [N5,Qo,FI,FL]
section
theorem Mb (ha:dh a) (hx:dh x) (hy:dh y):Lm 135 6 340 (CW a x y) :=
 ((((((Lm.con (n:=1) (ba:=20) (by decide)).prod hx.lm).prod hx.lm).prod ha.lm).app (((((Lm.con (n:=1) (ba:=20) (by decide)).prod hy.lm).prod hy.lm).prod ha.lm).app (Lm.nil (la:=0)))).kq).mono
theorem C0 (hs:dh s) (hv:dh v) (ha:dh a) (hb:dh b) (hc:dh c) (hx:dh x) (hy:dh y) (hz:dh z):Lm 135 6 340 (mZ a b c x y z s v):=by
 have p:∀ {n:Int} {A B C:List aG},n.natAbs<2 ^ 20→dh A→dh B→dh C→Lm 27 6 320 (fO n [A,B,C]):=fun hn hA hB hC=>((((Lm.con (ba:=20) hn).prod hA.lm).prod hB.lm).prod hC.lm).mono
 exact ((((p (n:=1) (by decide) hx hx hv).app ((p (n:=1) (by decide) hy hy hv).app ((p (n:= -2) (by decide) hs hx hb).app ((p (n:= -2) (by decide) hs hy hc).app ((p (n:=4) (by decide) hs hz ha).app (Lm.nil (la:=0))))))).kq).mono:Lm 135 6 340 _)
theorem GF (ha:Lm 135 6 340 a) (hb:Lm 135 6 340 b) (hc:Lm 135 6 340 c) (hd:Lm 135 6 340 d) (hx:dh x) (hy:dh y) (hz:dh z):u0 a b c d x y z:=by
 have hw:=L6 ha hb hc hx hy hz (by decide) (by decide)
 have hq:=GA hx hy
 have fw:=hw.p9 (by decide) (by decide) (by decide)
 have fq:=hq.p9
 refine ⟨uY (by simp [JI,hx,hy]) (R9 rfl),pY (by simp [JJ,hx.p9,hy.p9,hz.p9,ha.p9,hb.p9,hc.p9]) (by simp [JJ]) ?_,fun L hL=>?_⟩
 ·have h1:=JO hx.l (by decide) hb.l (by decide)
  have h2:=JO hy.l (by decide) hc.l (by decide)
  have h3:=JO hz.l (by decide) ha.l (by decide)
  show bu [x,b]+(bu [y,c]+(bu [z,a]+0))≤20000
  omega
 ·have g:∀ {s v:List aG},dh s→Lm 135 6 340 v→bL [(1,[gM x y,v]),(-2,[s,uZ a b c x y z])]:=fun {s v} hs hv=>by
   refine pY (by simp [fq,fw,hs.p9,hv.p9]) (by simp) ?_
   have h1:=JO hq.l (by decide) hv.l (by decide)
   have h2:=JO hs.l (by decide) hw.l (by decide)
   show bu [_,_]+(bu [_,_]+0)≤20000
   omega
  simp only [xj,Oh,PX,or_false] at hL
  rcases hL with rfl | rfl | rfl | rfl
  ·refine pY (by simp [fq,ha.p9]) (by simp) ?_
   have h1:=JO hq.l (by decide) ha.l (by decide)
   show bu [_,_]+0≤20000
   omega
  ·exact g hx hb
  ·exact g hy hc
  ·exact g hz hd
theorem mE (hx:dh x) (hy:dh y) (hv:dh v):bL [(1,[gM x y,gM x y,v])]:=by
 have hq:=GA hx hy
 refine pY (by simp [hq.p9,hv.p9]) (by simp) ?_
 have h1:=NV hq.l (by decide) hq.l (by decide) hv.l (by decide)
 show bu [_,_,_]+0≤20000
 omega
theorem Mc (ha:dh a) (hx:dh x) (hy:dh y):bL (GB a x y):=uY (by simp [GB,ha,hx,hy]) (by simp [GB])
theorem C1 (hs:dh s) (hv:dh v) (ha:dh a) (hb:dh b) (hc:dh c) (hx:dh x) (hy:dh y) (hz:dh z):bL (zc s v a b c x y z):=uY (by simp [zc,hs,hv,ha,hb,hc,hx,hy,hz]) (by simp [zc])
end
noncomputable def C9:Fn:=fun ds r=>∃ (a b c d x y z s v:List aG) (n:Int),bL (zc s v a b c x y z)∧jr [af x,af y,af z] (n - 1)=some (af s)∧jr [af b,af c,af d] (n - 1)=some (af v) ∧
 ds=[.tup [af a,af b,af c,af d],af x,af y,af z,.int n]∧r=.ok (.ow ((mZ a b c x y z s v).map aM))
theorem Dc {a b c d x y z s v:List aG} {n:Int} (h:bL (zc s v a b c x y z)) (h1:jr [af x,af y,af z] (n - 1)=some (af s)) (h2:jr [af b,af c,af d] (n - 1)=some (af v)):C9 [.tup [af a,af b,af c,af d],af x,af y,af z,.int n] (.ok (.ow ((mZ a b c x y z s v).map aM))):=⟨a,b,c,d,x,y,z,s,v,n,h,h1,h2,rfl,rfl⟩
section
local macro_rules | `(tactic| walk_at "evSs")=> `(tactic| ((with_reducible show aS _ [RK (some (OR _ [RO _ _ _ _] _ _)) _] _ _ _); refine lF 11 (by walk_at "at") rfl (by walk_at "sset") (aQ ?_)))
local macro_rules | `(tactic| walk_at "evXC")=> `(tactic| with_reducible refine x_call (F:=pX) (by assumption) (by decide) ?_)
theorem JQ {f:Addr} {fd:FuncData} (Fu:fS K "_law_turned" "_law_turned" gH f fd) (T:Txt K mg) (h1:cV P w K mg base 3 "_law_sum" pX):bz P w K mg base (dR P w) 4 f fd ["_law_o","_law_a","_law_b","_law_c","_law_place"] (fU K C9):=by
 refine dG Fu sF sG (by rintro ds r ⟨a,b,c,d,x,y,z,s,v,n,_,_,_,rfl,_⟩; rfl) (by rintro ds r ⟨a,b,c,d,x,y,z,s,v,n,_,_,_,_,rfl⟩; exact ⟨_,rfl⟩) fun k hq ds sl hF=>?_
 obtain ⟨a,b,c,d,x,y,z,s,v,n,h,e1,e2,rfl,e⟩:=hF
 injection e with e
 subst e
 show aS k _ [.va (.tup [af a,af b,af c,af d]),.va (af x),.va (af y),.va (af z),.va (.int n),.un,.un,.un,.un,.un,.un,.un] _ _
 conv in (aA _)=>whnf
 walk_at "ev"
 refine qC e1 ?_
 walk_at "ev"
 refine qC e2 ?_
 walk_at "ev"
 exact aW (w9 (ps:=zc s v a b c x y z) h) rfl
end
end
section
variable {P:Program} {w:World} {K:NZ} {mg:Str→Option Value} {base:Heap}
structure kr (a b c d x y z:List aG):Prop where
 fa:dh a
 fb:dh b
 fc:dh c
 fd:dh d
 fx:dh x
 fy:dh y
 fz:dh z
section
theorem kr.fi (h:kr a b c d x y z):bL (GB a x y):=Mc h.fa h.fx h.fy
theorem kr.t1 (h:kr a b c d x y z):bL (zc x b a b c x y z):=C1 h.fx h.fb h.fa h.fb h.fc h.fx h.fy h.fz
theorem kr.t2 (h:kr a b c d x y z):bL (zc y c a b c x y z):=C1 h.fy h.fc h.fa h.fb h.fc h.fx h.fy h.fz
theorem kr.t3 (h:kr a b c d x y z):bL (zc z d a b c x y z):=C1 h.fz h.fd h.fa h.fb h.fc h.fx h.fy h.fz
theorem dh.big {A:List aG} (h:dh A):Lm 135 6 340 A:=h.lm.mono
theorem kr.mr (h:kr a b c d x y z):u0 a b c d x y z:=GF h.fa.big h.fb.big h.fc.big h.fd.big h.fx h.fy h.fz
theorem kr.NW (h:kr a b c d x y z):u0 (CW a x y) (mZ a b c x y z x b) (mZ a b c x y z y c) (mZ a b c x y z z d) x y z :=
 GF (Mb h.fa h.fx h.fy) (C0 h.fx h.fb h.fa h.fb h.fc h.fx h.fy h.fz) (C0 h.fy h.fc h.fa h.fb h.fc h.fx h.fy h.fz) (C0 h.fz h.fd h.fa h.fb h.fc h.fx h.fy h.fz) h.fx h.fy h.fz
theorem Me {α:Type} {Q:α→Prop} {p q r s:α} (h1:Q p) (h2:Q q) (h3:Q r) (h4:Q s):∀ L∈[p,q,r,s],Q L:=fun L hL=>by
 simp only [Oh,PX,or_false] at hL
 rcases hL with rfl | rfl | rfl | rfl <;> assumption
theorem kr.out (h:kr a b c d x y z):∀ L∈mD a b c d x y z,L.length≤20000∧∀ t∈L,t.1.length≤64:=Me (eF h.fi) (eF h.t1) (eF h.t2) (eF h.t3)
theorem kr.Nr (h:kr a b c d x y z):∀ L∈sS a b c d x y,L.length≤20000∧∀ t∈L,t.1.length≤64:=Me (eF (mE h.fx h.fy h.fa)) (eF (mE h.fx h.fy h.fb)) (eF (mE h.fx h.fy h.fc)) (eF (mE h.fx h.fy h.fd))
theorem kr.Mf (h:kr a b c d x y z):xg (lS (mD a b c d x y z)):=⟨_,rfl,by show (4:Nat)≤1000; decide,fun ds hd=>by
 obtain ⟨L,hL,rfl⟩:=OF.mp hd
 rw [N6]; exact (h.out L hL).1⟩
noncomputable def Dd:Fn:=fun ds r=>∃ a b c d x y z:List aG,kr a b c d x y z∧ds=[.tup [af a,af b,af c,af d],.tup [af x,af y,af z]]∧r=.ok (.va (.tup ((mD a b c d x y z).map af)))
theorem Mg (h:kr a b c d x y z):Dd [.tup [af a,af b,af c,af d],.tup [af x,af y,af z]] (.ok (.va (.tup ((mD a b c d x y z).map af)))):=⟨a,b,c,d,x,y,z,h,rfl,rfl⟩
theorem GG (h:kr a b c d x y z):sR [.tup [af a,af b,af c,af d],.tup [af x,af y,af z]] (.ok (.fo (lS (mD a b c d x y z)))):=by rw [← JP,← CZ]; exact Gz h.mr
theorem Mh (h:kr a b c d x y z):sR [.tup ((mD a b c d x y z).map af),.tup [af x,af y,af z]] (.ok (.fo (lS (sS a b c d x y)))):=by rw [← FN a b c d x y z,← CZ]; exact Gz h.NW
theorem De (h:kr a b c d x y z):uV [(lS (mD a b c d x y z)).d,.tup ((mD a b c d x y z).map af)] (.ok (.va (.bl true))):=by
 rw [Ma]; exact Gy (by show (4:Nat)≤1000; decide) fun A hA=>(h.out A hA).2
theorem JR (h:kr a b c d x y z):uV [.tup ((sS a b c d x y).map af),.tup ((sS a b c d x y).map af)] (.ok (.va (.bl true))) :=
 Gy (by show (4:Nat)≤1000; decide) fun A hA=>(h.Nr A hA).2
end
section
local macro_rules | `(tactic| walk_at "evCa")=> `(tactic| first
 | with_reducible refine b9 (x:=NY "_law_sum") (F:=pX) (by assumption) (by decide) ?_
 | with_reducible refine b9 (x:=NY "_law_turned") (F:=C9) (by assumption) (by decide) ?_)
theorem JS {f:Addr} {fd:FuncData} (Fu:fS K "_law_due" "_law_due" mq f fd) (T:Txt K mg) (h1:cV P w K mg base 3 "_law_sum" pX) (h2:cV P w K mg base 4 "_law_turned" C9):bz P w K mg base (dR P w) 5 f fd ["_law_o","_law_l"] (fU K Dd):=by
 refine dG Fu B6 B7 (by rintro ds r ⟨a,b,c,d,x,y,z,_,rfl,_⟩; rfl) (by rintro ds r ⟨a,b,c,d,x,y,z,_,_,rfl⟩; exact ⟨_,rfl⟩) fun k hq ds sl hF=>?_
 obtain ⟨a,b,c,d,x,y,z,h,rfl,e⟩:=hF
 injection e with e
 subst e
 show aS k _ [.va (.tup [af a,af b,af c,af d]),.va (.tup [af x,af y,af z]),.un,.un,.un,.un] _ _
 conv in (aA _)=>whnf
 walk_at "ev"
 refine aW (w9 (ps:=GB a x y) h.fi) ?_
 walk_at "ev"
 refine aW (Dc h.t1 rfl rfl) ?_
 walk_at "ev"
 refine aW (Dc h.t2 rfl rfl) ?_
 walk_at "ev"
 refine aW (Dc h.t3 rfl rfl) ?_
 walk_at "ev"
 rfl
end
noncomputable def th (ns:List Int) (k:Nat):List aG:=sP (yY ns k)
theorem JT (ns:List Int):uT [.lst (ns.map .int),.int 1,.int 4] (.ok (.va (.tup [af (th ns 1),af (th ns 2),af (th ns 3),af (th ns 4)]))):=Gw ns (a:=1) (m:=4) (by decide) (by decide)
theorem JU (ns:List Int):uT [.lst (ns.map .int),.int 5,.int 3] (.ok (.va (.tup [af (th ns 5),af (th ns 6),af (th ns 7)]))):=Gw ns (a:=5) (m:=3) (by decide) (by decide)
theorem JV (a b c d):uU [.tup [af a,af b,af c,af d]] (.ok (.va (.tup [af a,af b,af c,af d]))):=Gx (As:=[a,b,c,d]) (by show (4:Nat)≤1000; decide)
theorem JW (a b c):uU [.tup [af a,af b,af c]] (.ok (.va (.tup [af a,af b,af c]))):=Gx (As:=[a,b,c]) (by show (3:Nat)≤1000; decide)
theorem om (Ls Ms:List (List aG)):k7 (n+4) (.tup (Ls.map af)) (.tup (Ms.map af)):=.tup fun i d e h1 h2=>by
 simp only [Oa,Og] at h1 h2
 obtain ⟨a,_,rfl⟩:=h1
 obtain ⟨b,_,rfl⟩:=h2
 exact Bx a b
theorem sU (L1 L2:List (List aG)):oO [.tup (L1.map af),.tup (L2.map af)] [.tup (L1.map af),.tup (L2.map af)]:=n9 (om L1 L1) (n9 (om L2 L2) (By _))
section
local macro_rules | `(tactic| walk_at "evCa")=> `(tactic| first
 | with_reducible refine b9 (F:=uT) (by assumption) (by decide) ?_
 | with_reducible refine b9 (F:=uU) (by assumption) (by decide) ?_
 | with_reducible refine b9 (F:=Dd) (by assumption) (by decide) ?_
 | with_reducible refine b9 (F:=uV) (by assumption) (by decide) ?_
 | with_reducible refine b9 (x:=NY "_law_sum") (F:=pX) (by assumption) (by decide) ?_
 | with_reducible refine LF (x_call (x:=NY "mirrored_circle") (F:=sR) (by assumption) (by decide) ?_))
local macro_rules | `(tactic| walk_at "evR")=> `(tactic| first
 | refine aW (JT _) ?_
 | refine aW (JU _) ?_
 | refine aW (JV _ _ _ _) ?_
 | refine aW (JW _ _ _) ?_)
local macro_rules | `(tactic| walk_at "evIf")=> `(tactic| first
 | refine K5 (IU 5 (.s rfl (.s rfl (.s rfl (.s rfl (.s rfl (.z (.cons rfl (.cons rfl .nil)))))))) (by walk_at "sset") ?_))
theorem JX {f:Addr} {fd:FuncData} (Fu:fS K "law" "law" uM f fd) (T:Txt K mg) (h1:cV P w K mg base 3 "_law_things" uT) (h2:cV P w K mg base 1 "_law_copied" uU) (h3:cV P w K mg base 5 "_law_due" Dd) (h4:cV P w K mg base 7 "mirrored_circle" sR)
 (h5:cV P w K mg base 2 "_law_same" uV) (h6:E3 P w K mg base 1 "_law_spoil" xg) (h7:cV P w K mg base 3 "_law_sum" pX):bz P w K mg base (dR P w) 8 f fd ["_law_script"] (fU K AH):=by
 refine dG Fu Jf Jg (by rintro ds r ⟨ns,_,rfl,_⟩; rfl) (by rintro ds r ⟨ns,_,_,rfl⟩; exact ⟨_,rfl⟩) fun k hq ds sl hF=>?_
 obtain ⟨ns,hns,rfl,e⟩:=hF
 injection e with e
 subst e
 show aS k _ [.va (.lst (ns.map .int)),.un,.un,.un,.un,.un,.un,.un] _ _
 conv in (aA _)=>whnf
 refine aQ ?_
 generalize hG:(fun ρ'=>aS k _ ρ' _ _)=G
 walk_at "ev"
 subst hG
 refine aQ ?_
 generalize hG:(fun ρ'=>aS k _ ρ' _ _)=G
 walk_at "ev"
 subst hG
 have h:kr (th ns 1) (th ns 2) (th ns 3) (th ns 4) (th ns 5) (th ns 6) (th ns 7):=⟨fR _,fR _,fR _,fR _,fR _,fR _,fR _⟩
 generalize th ns 1=a at h ⊢
 generalize th ns 2=b at h ⊢
 generalize th ns 3=c at h ⊢
 generalize th ns 4=d at h ⊢
 generalize th ns 5=x at h ⊢
 generalize th ns 6=y at h ⊢
 generalize th ns 7=z at h ⊢
 refine aQ ?_
 generalize hG:(fun ρ'=>aS k _ ρ' _ _)=G
 walk_at "ev"
 subst hG
 refine lF 3 (by walk_at "at") rfl (by walk_at "sset") ?_
 refine aQ ?_
 generalize hG:(fun ρ'=>aS k _ ρ' _ _)=G
 walk_at "ev"
 refine aW (Mg h) ?_
 walk_at "ev"
 subst hG
 refine aQ (vB (by walk_at "at") (x_call (x:=NY "mirrored_circle") (F:=sR) h4 (by decide) ?_))
 generalize hG:(fun ρ'=>aS k _ ρ' _ _)=G
 walk_at "ev"
 refine aW (GG h) ?_
 walk_at "ev"
 subst hG
 generalize hE:mD a b c d x y z=E
 refine aQ ?_
 generalize hG:(fun ρ'=>aS k _ ρ' _ _)=G
 walk_at "ev"
 subst hE
 refine aW (De h) ?_
 walk_at "ev"
 refine l7 (sU [a,b,c,d] [x,y,z]) ?_
 walk_at "ev"
 subst hG
 refine aQ ?_
 generalize hG:(fun ρ'=>aS k _ ρ' _ _)=G
 walk_at "ev"
 refine aW (Mh h) ⟨_,rfl,?_⟩
 rw [Ma]
 walk_at "ev"
 subst hG
 generalize hE:sS a b c d x y=E
 refine aQ ?_
 generalize hG:(fun ρ'=>aS k _ ρ' _ _)=G
 walk_at "ev"
 refine aW (w9 (ps:=JI x y) h.mr.s) ?_
 walk_at "ev"
 subst hG
 subst hE
 refine aQ ?_
 generalize hG:(fun ρ'=>aS k _ ρ' _ _)=G
 walk_at "ev"
 refine e_x (dW hq (N':=["_law_some_here","_law_square"]) (ρ0:=fun _=>[.un,.va (af (gM x y))]) (fun t=>.un (.fr (by walk_at "at") (by walk_at "at") (by decide) rfl .nil)) (cy ?_))
 refine qy (by walk_at "at") (by walk_at "at") ?_
 refine xQ (ds:=[a,b,c,d].map af) rfl ⟨k9 (R9 rfl),[a,b,c,d].map fun v=>some (af (aP (bZ [(1,[gM x y,gM x y,v])]))),rfl,?_,?_⟩
 ·intro c2 hc t i dd o hd ho
  simp only [Oa,Og] at hd ho
  obtain ⟨v,hv,rfl⟩:=hd
  obtain ⟨v',hv',rfl⟩:=ho
  rw [hv] at hv'; cases hv'
  have hvs:dh v:=by
   have hm:=O9 hv
   simp only [Oh,PX,or_false] at hm
   rcases hm with rfl | rfl | rfl | rfl
   ·exact h.fa
   ·exact h.fb
   ·exact h.fc
   ·exact h.fd
  refine dF (by walk_at "at") (xG (by walk_at "sset") ⟨.un (.same .nil),?_⟩)
  simp only [sX]
  refine ⟨fun _=>?_,fun h=>by cases h⟩
  walk_at "ev"
  refine aW (w9 (mE h.fx h.fy hvs)) (eX ?_)
  rfl
 ·show F0 _ (.ow ((sS a b c d x y).map af))
  walk_at "ev"
  refine aW (JR h) ?_
  walk_at "ev"
  subst hG
  walk_at "evSs"
  refine E4 h6 (by decide) (by walk_at "at") (.s rfl (.s rfl (.s rfl (.s rfl (.s rfl (.z (.cons rfl (.cons rfl .nil)))))))) h.Mf ?_
  walk_at "ev"
  refine l7 (sU [a,b,c,d] [x,y,z]) ?_
  walk_at "ev"
  refine aW (GG h) ⟨_,rfl,?_⟩
  walk_at "ev"
  refine aW (De h) ?_
  walk_at "ev"
  rfl
end
end
section
variable {K:NZ}
theorem FO {fa:Addr} (zb:mg "law"=some (.ref fa)) (T:Txt K mg) (xPLACES:∃ tk:Tok,mg "PLACES"=some (.int 6 tk))
 (D2:aH K mg "trimmed" (top 2))
 (D3:aH K mg "greatest_powers" (top 3))
 (D4:aH K mg "key_of" (top 4))
 (D5:aH K mg "powers_of" (top 5))
 (D6:aH K mg "packed" (top 6))
 (D7:aH K mg "unpacked" (top 7))
 (D8:aH K mg "add_products" (top 8))
 (D10:aH K mg "width_of" (top 10))
 (D11:aH K mg "add_part" (top 11))
 (D12:aH K mg "poly_total" (top 12))
 (D14:aH K mg "square_of_way" (top 14))
 (D16:aH K mg "middle_worth" (top 16))
 (D17:aH K mg "mirroredround_rule" (top 17))
 (D18:aH K mg "mirrored_circle" (top 18))
 (D20:aH K mg "_law_cell_at" (top 20))
 (D21:aH K mg "_law_digits" (top 21))
 (D22:aH K mg "_law_plain" (top 22))
 (D23:aH K mg "_law_product" (top 23))
 (D24:aH K mg "_law_sum" (top 24))
 (D25:aH K mg "_law_some" (top 25))
 (D26:aH K mg "_law_things" (top 26))
 (D27:aH K mg "_law_copied" (top 27))
 (D28:aH K mg "_law_terms" (top 28))
 (D29:aH K mg "_law_same" (top 29))
 (D30:aH K mg "_law_spoil" (top 30))
 (D31:aH K mg "_law_turned" (top 31))
 (D32:aH K mg "_law_due" (top 32))
 (D33:aH K mg "law" (top 33))
 : ∃ fd:FuncData,(∀ (s:Shared) (u:Value),BindsTo s fd ⟨[u],[]⟩ [("_law_script",u)])∧∀ base:Heap,K.In base→base.Ns mainGlobals mg→bz P w K mg base (dR P w) 20 fa fd ["_law_script"] (fU K AH):=by
 refine Classical.byContradiction fun hG=>?_
 obtain ⟨f2,fd2,m2,Fu2⟩:=D2
 obtain ⟨f3,fd3,m3,Fu3⟩:=D3
 obtain ⟨f4,fd4,m4,Fu4⟩:=D4
 obtain ⟨f5,fd5,m5,Fu5⟩:=D5
 obtain ⟨f6,fd6,m6,Fu6⟩:=D6
 obtain ⟨f7,fd7,m7,Fu7⟩:=D7
 obtain ⟨f8,fd8,m8,Fu8⟩:=D8
 obtain ⟨f10,fd10,m10,Fu10⟩:=D10
 obtain ⟨f11,fd11,m11,Fu11⟩:=D11
 obtain ⟨f12,fd12,m12,Fu12⟩:=D12
 obtain ⟨f14,fd14,m14,Fu14⟩:=D14
 obtain ⟨f16,fd16,m16,Fu16⟩:=D16
 obtain ⟨f17,fd17,m17,Fu17⟩:=D17
 obtain ⟨f18,fd18,m18,Fu18⟩:=D18
 obtain ⟨f20,fd20,m20,Fu20⟩:=D20
 obtain ⟨f21,fd21,m21,Fu21⟩:=D21
 obtain ⟨f22,fd22,m22,Fu22⟩:=D22
 obtain ⟨f23,fd23,m23,Fu23⟩:=D23
 obtain ⟨f24,fd24,m24,Fu24⟩:=D24
 obtain ⟨f25,fd25,m25,Fu25⟩:=D25
 obtain ⟨f26,fd26,m26,Fu26⟩:=D26
 obtain ⟨f27,fd27,m27,Fu27⟩:=D27
 obtain ⟨f28,fd28,m28,Fu28⟩:=D28
 obtain ⟨f29,fd29,m29,Fu29⟩:=D29
 obtain ⟨f30,fd30,m30,Fu30⟩:=D30
 obtain ⟨f31,fd31,m31,Fu31⟩:=D31
 obtain ⟨f32,fd32,m32,Fu32⟩:=D32
 obtain ⟨f33,fd33,m33,Fu33⟩:=D33
 have e:=zb.symm.trans m33
 cases e
 refine hG ⟨fd33,?_,fun base _ _=>?_⟩
 ·obtain ⟨oc,od,kV,doc,pm,an,cdv,ct,osl,rfl,lk,hcd⟩:=Fu33.ex
  exact fun s u=>.of_eq rfl
 have C2:cV P w K mg base 1 "trimmed" (sH):=bD (ps:=["powers"]) m2 Fu2 (Ff Fu2 T) (fun _ _ _ _ _ _ us hl=>by obtain ⟨a,rfl⟩:=lH us hl; rfl)
 have C3:cV P w K mg base 1 "greatest_powers" (mw):=bD (ps:=["some"]) m3 Fu3 (Ce Fu3 T xPLACES) (fun _ _ _ _ _ _ us hl=>by obtain ⟨a,rfl⟩:=lH us hl; rfl)
 have C4:cV P w K mg base 1 "key_of" (Ci):=bD (ps:=["powers","width"]) m4 Fu4 (Jj Fu4 T xPLACES) (fun _ _ _ _ _ _ us hl=>by obtain ⟨a,b,rfl⟩:=mR us hl; rfl)
 have C5:cV P w K mg base 2 "powers_of" (sI):=bD (ps:=["key","width"]) m5 Fu5 (Ft Fu5 T xPLACES C2) (fun _ _ _ _ _ _ us hl=>by obtain ⟨a,b,rfl⟩:=mR us hl; rfl)
 have C6:cV P w K mg base 2 "packed" (sL):=bD (ps:=["some","width"]) m6 Fu6 (Fv Fu6 T C4) (fun _ _ _ _ _ _ us hl=>by obtain ⟨a,b,rfl⟩:=mR us hl; rfl)
 have C7:cV P w K mg base 3 "unpacked" (Ck):=bD (ps:=["total","width"]) m7 Fu7 (Jo Fu7 T C5) (fun _ _ _ _ _ _ us hl=>by obtain ⟨a,b,rfl⟩:=mR us hl; rfl)
 have C8:yf P w K mg base 1 "add_products" (Fw):=wH (ps:=["total","left","right"]) m8 Fu8 (Jm Fu8 T) (fun _ _ _ _ _ _ us hl=>by obtain ⟨a,b,c,rfl⟩:=AG us hl; rfl)
 have C10:cV P w K mg base 2 "width_of" (Cv):=bD (ps:=["parts"]) m10 Fu10 (Jp Fu10 T C3) (fun _ _ _ _ _ _ us hl=>by obtain ⟨a,rfl⟩:=lH us hl; rfl)
 have C11:yf P w K mg base 3 "add_part" (pW):=wH (ps:=["whole","part","width"]) m11 Fu11 (CC Fu11 T C6 C8) (fun _ _ _ _ _ _ us hl=>by obtain ⟨a,b,c,rfl⟩:=AG us hl; rfl)
 have C12:cV P w K mg base 4 "poly_total" (mX):=bD (ps:=["parts"]) m12 Fu12 (Js Fu12 T C10 C11 C7) (fun _ _ _ _ _ _ us hl=>by obtain ⟨a,rfl⟩:=lH us hl; rfl)
 have C14:cV P w K mg base 5 "square_of_way" (CT P w K mg base):=bD (ps:=["total","l"]) m14 Fu14 (JK Fu14) (fun _ _ _ _ _ _ us hl=>by obtain ⟨a,b,rfl⟩:=mR us hl; rfl)
 have C16:cV P w K mg base 5 "middle_worth" (CU P w K mg base):=bD (ps:=["total","o","l"]) m16 Fu16 (JL Fu16) (fun _ _ _ _ _ _ us hl=>by obtain ⟨a,b,c,rfl⟩:=AG us hl; rfl)
 have C17:cV P w K mg base 6 "mirroredround_rule" (CV P w K mg base):=bD (ps:=["total","o","l"]) m17 Fu17 (JM Fu17 C14 C16) (fun _ _ _ _ _ _ us hl=>by obtain ⟨a,b,c,rfl⟩:=AG us hl; rfl)
 have C18:cV P w K mg base 7 "mirrored_circle" (sR):=bD (ps:=["o","l"]) m18 Fu18 (JN Fu18 C12 C17) (fun _ _ _ _ _ _ us hl=>by obtain ⟨a,b,rfl⟩:=mR us hl; rfl)
 have C20:cV P w K mg base 1 "_law_cell_at" (CI):=bD (ps:=["_law_script","_law_k"]) m20 Fu20 (Jz Fu20 T) (fun _ _ _ _ _ _ us hl=>by obtain ⟨a,b,rfl⟩:=mR us hl; rfl)
 have C21:cV P w K mg base 2 "_law_digits" (CJ):=bD (ps:=["_law_script","_law_k"]) m21 Fu21 (JB Fu21 T C20) (fun _ _ _ _ _ _ us hl=>by obtain ⟨a,b,rfl⟩:=mR us hl; rfl)
 have C22:cV P w K mg base 1 "_law_plain" (pS):=bD (ps:=["_law_terms_here"]) m22 Fu22 (Cb Fu22 T) (fun _ _ _ _ _ _ us hl=>by obtain ⟨a,rfl⟩:=lH us hl; rfl)
 have C23:cV P w K mg base 2 "_law_product" (CF):=bD (ps:=["_law_factors"]) m23 Fu23 (Jt Fu23 T C22) (fun _ _ _ _ _ _ us hl=>by obtain ⟨a,rfl⟩:=lH us hl; rfl)
 have C24:cV P w K mg base 3 "_law_sum" (pX):=bD (ps:=["_law_parts"]) m24 Fu24 (Jx Fu24 T C22 C23) (fun _ _ _ _ _ _ us hl=>by obtain ⟨a,rfl⟩:=lH us hl; rfl)
 have C25:cV P w K mg base 2 "_law_some" (sQ):=bD (ps:=["_law_number"]) m25 Fu25 (FH Fu25 T C22) (fun _ _ _ _ _ _ us hl=>by obtain ⟨a,rfl⟩:=lH us hl; rfl)
 have C26:cV P w K mg base 3 "_law_things" (uT):=bD (ps:=["_law_script","_law_at","_law_many"]) m26 Fu26 (JD Fu26 T C21 C25) (fun _ _ _ _ _ _ us hl=>by obtain ⟨a,b,c,rfl⟩:=AG us hl; rfl)
 have C27:cV P w K mg base 1 "_law_copied" (uU):=bD (ps:=["_law_told"]) m27 Fu27 (JE Fu27 T) (fun _ _ _ _ _ _ us hl=>by obtain ⟨a,rfl⟩:=lH us hl; rfl)
 have C28:cV P w K mg base 1 "_law_terms" (CM):=bD (ps:=["_law_some_here"]) m28 Fu28 (JF Fu28 T) (fun _ _ _ _ _ _ us hl=>by obtain ⟨a,rfl⟩:=lH us hl; rfl)
 have C29:cV P w K mg base 2 "_law_same" (uV):=bD (ps:=["_law_found","_law_due_here"]) m29 Fu29 (JG Fu29 T C28) (fun _ _ _ _ _ _ us hl=>by obtain ⟨a,b,rfl⟩:=mR us hl; rfl)
 have C30:E3 P w K mg base 1 "_law_spoil" (xg):=E8 (ps:=["_law_found"]) m30 Fu30 (CS Fu30) (fun _ _ _ _ _ _ us hl=>by obtain ⟨a,rfl⟩:=lH us hl; rfl)
 have C31:cV P w K mg base 4 "_law_turned" (C9):=bD (ps:=["_law_o","_law_a","_law_b","_law_c","_law_place"]) m31 Fu31 (JQ Fu31 T C24) (fun _ _ _ _ _ _ us hl=>by obtain ⟨a,b,c,d,e,rfl⟩:=Nh us hl; rfl)
 have C32:cV P w K mg base 5 "_law_due" (Dd):=bD (ps:=["_law_o","_law_l"]) m32 Fu32 (JS Fu32 T C24 C31) (fun _ _ _ _ _ _ us hl=>by obtain ⟨a,b,rfl⟩:=mR us hl; rfl)
 exact (JX Fu33 T C26 C27 C32 C18 C29 C30 C24).mono (by decide)
end
end My
open PySem PySem.W PyProof.Rows
set_option maxRecDepth 100000 in
set_option maxHeartbeats 0 in
theorem PySem.Challenge.cw_everydraw_k21_circles_mirrored_holds : PySem.Challenge.rw_everydraw_k21_circles_mirrored.Holds := by
 w_on; o_law; k_head; (case hw=>w_witness2)
 k_fill
 refine EV.walk (k:=20) (l:=PySem.Challenge.rw_everydraw_k21_circles_mirrored) (by decide) rfl rfl (fun w h Y=>PySem.W.kIn_of Y) ?F
 case F =>
  intro w mg fa h KX G hmg
  have D2:EV.aH (L2.cU KX) mg (Str.ofString "trimmed") (My.top 2):=by
   dsimp only [L2.cU]
   refine' EV.br KX G ?a ?l ?c ?k
   (case a=>k_is); (case l=>k_is); (case c=>k_is); (case k=>k_is)
  have D3:EV.aH (L2.cU KX) mg (Str.ofString "greatest_powers") (My.top 3):=by
   dsimp only [L2.cU]
   refine' EV.br KX G ?a ?l ?c ?k
   (case a=>k_is); (case l=>k_is); (case c=>k_is); (case k=>k_is)
  have D4:EV.aH (L2.cU KX) mg (Str.ofString "key_of") (My.top 4):=by
   dsimp only [L2.cU]
   refine' EV.br KX G ?a ?l ?c ?k
   (case a=>k_is); (case l=>k_is); (case c=>k_is); (case k=>k_is)
  have D5:EV.aH (L2.cU KX) mg (Str.ofString "powers_of") (My.top 5):=by
   dsimp only [L2.cU]
   refine' EV.br KX G ?a ?l ?c ?k
   (case a=>k_is); (case l=>k_is); (case c=>k_is); (case k=>k_is)
  have D6:EV.aH (L2.cU KX) mg (Str.ofString "packed") (My.top 6):=by
   dsimp only [L2.cU]
   refine' EV.br KX G ?a ?l ?c ?k
   (case a=>k_is); (case l=>k_is); (case c=>k_is); (case k=>k_is)
  have D7:EV.aH (L2.cU KX) mg (Str.ofString "unpacked") (My.top 7):=by
   dsimp only [L2.cU]
   refine' EV.br KX G ?a ?l ?c ?k
   (case a=>k_is); (case l=>k_is); (case c=>k_is); (case k=>k_is)
  have D8:EV.aH (L2.cU KX) mg (Str.ofString "add_products") (My.top 8):=by
   dsimp only [L2.cU]
   refine' EV.br KX G ?a ?l ?c ?k
   (case a=>k_is); (case l=>k_is); (case c=>k_is); (case k=>k_is)
  have D10:EV.aH (L2.cU KX) mg (Str.ofString "width_of") (My.top 10):=by
   dsimp only [L2.cU]
   refine' EV.br KX G ?a ?l ?c ?k
   (case a=>k_is); (case l=>k_is); (case c=>k_is); (case k=>k_is)
  have D11:EV.aH (L2.cU KX) mg (Str.ofString "add_part") (My.top 11):=by
   dsimp only [L2.cU]
   refine' EV.br KX G ?a ?l ?c ?k
   (case a=>k_is); (case l=>k_is); (case c=>k_is); (case k=>k_is)
  have D12:EV.aH (L2.cU KX) mg (Str.ofString "poly_total") (My.top 12):=by
   dsimp only [L2.cU]
   refine' EV.br KX G ?a ?l ?c ?k
   (case a=>k_is); (case l=>k_is); (case c=>k_is); (case k=>k_is)
  have D14:EV.aH (L2.cU KX) mg (Str.ofString "square_of_way") (My.top 14):=by
   dsimp only [L2.cU]
   refine' EV.br KX G ?a ?l ?c ?k
   (case a=>k_is); (case l=>k_is); (case c=>k_is); (case k=>k_is)
  have D16:EV.aH (L2.cU KX) mg (Str.ofString "middle_worth") (My.top 16):=by
   dsimp only [L2.cU]
   refine' EV.br KX G ?a ?l ?c ?k
   (case a=>k_is); (case l=>k_is); (case c=>k_is); (case k=>k_is)
  have D17:EV.aH (L2.cU KX) mg (Str.ofString "mirroredround_rule") (My.top 17):=by
   dsimp only [L2.cU]
   refine' EV.br KX G ?a ?l ?c ?k
   (case a=>k_is); (case l=>k_is); (case c=>k_is); (case k=>k_is)
  have D18:EV.aH (L2.cU KX) mg (Str.ofString "mirrored_circle") (My.top 18):=by
   dsimp only [L2.cU]
   refine' EV.br KX G ?a ?l ?c ?k
   (case a=>k_is); (case l=>k_is); (case c=>k_is); (case k=>k_is)
  have D20:EV.aH (L2.cU KX) mg (Str.ofString "_law_cell_at") (My.top 20):=by
   dsimp only [L2.cU]
   refine' EV.br KX G ?a ?l ?c ?k
   (case a=>k_is); (case l=>k_is); (case c=>k_is); (case k=>k_is)
  have D21:EV.aH (L2.cU KX) mg (Str.ofString "_law_digits") (My.top 21):=by
   dsimp only [L2.cU]
   refine' EV.br KX G ?a ?l ?c ?k
   (case a=>k_is); (case l=>k_is); (case c=>k_is); (case k=>k_is)
  have D22:EV.aH (L2.cU KX) mg (Str.ofString "_law_plain") (My.top 22):=by
   dsimp only [L2.cU]
   refine' EV.br KX G ?a ?l ?c ?k
   (case a=>k_is); (case l=>k_is); (case c=>k_is); (case k=>k_is)
  have D23:EV.aH (L2.cU KX) mg (Str.ofString "_law_product") (My.top 23):=by
   dsimp only [L2.cU]
   refine' EV.br KX G ?a ?l ?c ?k
   (case a=>k_is); (case l=>k_is); (case c=>k_is); (case k=>k_is)
  have D24:EV.aH (L2.cU KX) mg (Str.ofString "_law_sum") (My.top 24):=by
   dsimp only [L2.cU]
   refine' EV.br KX G ?a ?l ?c ?k
   (case a=>k_is); (case l=>k_is); (case c=>k_is); (case k=>k_is)
  have D25:EV.aH (L2.cU KX) mg (Str.ofString "_law_some") (My.top 25):=by
   dsimp only [L2.cU]
   refine' EV.br KX G ?a ?l ?c ?k
   (case a=>k_is); (case l=>k_is); (case c=>k_is); (case k=>k_is)
  have D26:EV.aH (L2.cU KX) mg (Str.ofString "_law_things") (My.top 26):=by
   dsimp only [L2.cU]
   refine' EV.br KX G ?a ?l ?c ?k
   (case a=>k_is); (case l=>k_is); (case c=>k_is); (case k=>k_is)
  have D27:EV.aH (L2.cU KX) mg (Str.ofString "_law_copied") (My.top 27):=by
   dsimp only [L2.cU]
   refine' EV.br KX G ?a ?l ?c ?k
   (case a=>k_is); (case l=>k_is); (case c=>k_is); (case k=>k_is)
  have D28:EV.aH (L2.cU KX) mg (Str.ofString "_law_terms") (My.top 28):=by
   dsimp only [L2.cU]
   refine' EV.br KX G ?a ?l ?c ?k
   (case a=>k_is); (case l=>k_is); (case c=>k_is); (case k=>k_is)
  have D29:EV.aH (L2.cU KX) mg (Str.ofString "_law_same") (My.top 29):=by
   dsimp only [L2.cU]
   refine' EV.br KX G ?a ?l ?c ?k
   (case a=>k_is); (case l=>k_is); (case c=>k_is); (case k=>k_is)
  have D30:EV.aH (L2.cU KX) mg (Str.ofString "_law_spoil") (My.top 30):=by
   dsimp only [L2.cU]
   refine' EV.br KX G ?a ?l ?c ?k
   (case a=>k_is); (case l=>k_is); (case c=>k_is); (case k=>k_is)
  have D31:EV.aH (L2.cU KX) mg (Str.ofString "_law_turned") (My.top 31):=by
   dsimp only [L2.cU]
   refine' EV.br KX G ?a ?l ?c ?k
   (case a=>k_is); (case l=>k_is); (case c=>k_is); (case k=>k_is)
  have D32:EV.aH (L2.cU KX) mg (Str.ofString "_law_due") (My.top 32):=by
   dsimp only [L2.cU]
   refine' EV.br KX G ?a ?l ?c ?k
   (case a=>k_is); (case l=>k_is); (case c=>k_is); (case k=>k_is)
  have D33:EV.aH (L2.cU KX) mg (Str.ofString "law") (My.top 33):=by
   dsimp only [L2.cU]
   refine' EV.br KX G ?a ?l ?c ?k
   (case a=>k_is); (case l=>k_is); (case c=>k_is); (case k=>k_is)
  have T:EV.Txt (L2.cU KX) mg:=by
   dsimp only [L2.cU]
   refine' EV.Ik KX G ?z1 ?z2 ?z3 ?z4 ?z5 ?z6 ?z7 ?z8 ?z9 ?z10 ?z11 ?z12 ?z13 ?z14 ?z15 ?z16 ?z17 ?sib
   (case z1=>k_is)
   (case z2=>k_is)
   (case z3=>k_is)
   (case z4=>k_is)
   (case z5=>k_is)
   (case z6=>k_is)
   (case z7=>k_is)
   (case z8=>k_is)
   (case z9=>k_is)
   (case z10=>k_is)
   (case z11=>k_is)
   (case z12=>k_is)
   (case z13=>k_is)
   (case z14=>k_is)
   (case z15=>k_is)
   (case z16=>k_is)
   (case z17=>k_is)
   (case sib=>k_is)
  have xPLACES:∃ tk:Tok,mg (Str.ofString "PLACES")=some (.int 6 tk):=by
   refine' EV.int_mk KX G ?a
   (case a=>k_is)
  exact My.FO hmg T xPLACES D2 D3 D4 D5 D6 D7 D8 D10 D11 D12 D14 D16 D17 D18 D20 D21 D22 D23 D24 D25 D26 D27 D28 D29 D30 D31 D32 D33
#print axioms PySem.Challenge.cw_everydraw_k21_circles_mirrored_holds
