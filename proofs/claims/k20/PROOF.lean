import PyProof.Rows.All
import Wide.All
import OpenK.AllK
import Wide.FinOn
import Lean
import PyProof.EqAt
import PyProof.EqKinds
import PyProof.TupleCall
import KE.KTryMore
import PyProof.NeKinds
import PyProof.DictItemsLoops
import PyProof.Rows.SortRunsK
import PyProof.Rows.SortRev
import PyProof.Tail
import PyProof.CollectIter
import PyProof.WalkInts
import PyProof.SumWalkG
import PyProof.SeqI3
import PyProof.EnumFor
import PyProof.EnumMake
import PyProof.Draws
import PyProof.Rows.Range3
import PyProof.EnumIter
import PySem.Challenge.RW_everydraw_k20_lines_of_circles
namespace EV
theorem z2 {α β} {P:α→β→Prop} {G:Prop} (h:∃ a b,P a b) (k:∀ a b,P a b→G):G:=h.elim fun a h=>h.elim (k a)
theorem z3 {α β γ} {P:α→β→ γ →Prop} {G:Prop} (h:∃ a b c,P a b c) (k:∀ a b c,P a b c→G):G:=h.elim fun a h=>z2 h (k a)
theorem z4 {α β γ δ} {P:α→β→ γ → δ →Prop} {G:Prop} (h:∃ a b c d,P a b c d) (k:∀ a b c d,P a b c d→G):G:=h.elim fun a h=>z3 h (k a)
theorem z5 {α β γ δ ε} {P:α→β→ γ → δ → ε →Prop} {G:Prop} (h:∃ a b c d e,P a b c d e) (k:∀ a b c d e,P a b c d e→G):G:=h.elim fun a h=>z4 h (k a)
theorem w2 {a b G:Prop} (h:a∧b) (k:a→b→G):G:=k h.1 h.2
theorem w3 {a b c G:Prop} (h:a∧b∧c) (k:a→b→c→G):G:=w2 h.2 (k h.1)
theorem w4 {a b c d G:Prop} (h:a∧b∧c∧d) (k:a→b→c→d→G):G:=w3 h.2 (k h.1)
theorem w5 {a b c d e G:Prop} (h:a∧b∧c∧d∧e) (k:a→b→c→d→e→G):G:=w4 h.2 (k h.1)
theorem w6 {a b c d e f G:Prop} (h:a∧b∧c∧d∧e∧f) (k:a→b→c→d→e→f→G):G:=w5 h.2 (k h.1)
theorem w7 {a b c d e f g G:Prop} (h:a∧b∧c∧d∧e∧f∧g) (k:a→b→c→d→e→f→g→G):G:=w6 h.2 (k h.1)
theorem w8 {a b c d e f g i G:Prop} (h:a∧b∧c∧d∧e∧f∧g∧i) (k:a→b→c→d→e→f→g→i→G):G:=w7 h.2 (k h.1)
theorem v6 {α β γ δ ε ζ} {P:α→β→ γ → δ → ε → ζ →Prop} {G:Prop} (h:∃ a b c d e f,P a b c d e f) (k:∀ a b c d e f,P a b c d e f→G):G:=h.elim fun a h=>z5 h (k a)
end EV
set_option Elab.async false
set_option linter.all false
set_option maxRecDepth 100000
open PySem renaming wpAny_bind→NX,wpAny_pure→N1,Spec→OE,wpAny_mono→OP,wpAny_holding→OS,wpAny_newObj_type→O6,wpAny_rule→Po,wpAny_call_entry→PD,wpAny_Call_Name_kw→PU,wpAny_field→P5,Builtin→P9,wpAny_callSpecial?_slot→Qg,wpAny_attempt→Qn,wpAny_typeOf→Qo,wpAny_setField_rec→Qz,wpAny_passesOwn→QD,wpAny_dictEntries→Q6,wpAny_dictEpoch→Q8,codeAny_mono→Q9,wpAny_call→Rc,typeIs_int→Rf,call_meets→Rg,mem_of_lookup→Ro,wpAny_truthy_bool→Rq,codeAny_builtin→Ru,wpAny_setField→Rz,wpAny_newList→RB,wpAny_typeNameOfWhole_itemiter→RQ,wpAny_typeNameOfWhole_keyiter→RS,wpAny_typeNameOf_itemiter→RU,wpAny_typeNameOf_keyiter→RZ,tupleKind_room_in1→Sg,wpAny_pyIter_list→Sn,wpAny_isInstance→Sw,wpAny_specialOf→SA,wpAny_fieldsOf→SI,wpAny_standAt→SO,concat_meets→SW,wpAny_letGo→S9,wpAny_isOneOf_itemiter→Tw,wpAny_pyIter_tuple→TV,wpAny_sequenceKey→T4,wpAny_pyIter_slot→T5,slot_list_getitem→T6,noFill_tuple_add→Ud
open PySem.Str renaming ofString→NY
open PySem.W renaming Frag→NZ,nsIn→O1,mg_none_of→O5,kitOne→Pu,keepIn→PX,fnOf→P4,findIn→Ql,kia_one→QE,clsIn→RC,callWith_K→Si,codeIn→SM,mroIn→SQ,specialIn→T7,methodObj→T8
open PyProof.Rows renaming wpS_bind→N2,wpS_pure→N4,wpS_mono→OL,wpS_forRange→O8,listUpdate_at→Py,wpS_get→Pz,wpS_modify→PY,wpS_lift→Qu,slot_tuple_getitem→QN,seqEpoch_at→Rb,callWith_type1→Rk,listItems_at→RG,mirror_perm→RL,get?_update_seq→SD,callWith_builtin1→Ti,wpAny_call_entry_kw→TN
open Nat renaming le_refl→N3,le_trans→Od,ne_of_lt→OB,zero_le→OO,lt_of_lt_of_le→O0,lt_irrefl→PK,le_of_ble_eq_true→PM,lt_of_le_of_lt→Qj,zero_add→Qp,le_of_lt→Qq,lt_succ_self→QC,le_add_right→Q7,ne_of_gt→Ra,min_eq_left→Rv,mul_le_mul→RA,succ_mul→RH,mul_comm→RI,pow_le_pow_right→Sa,le_sub_one_of_lt→Sb,lt_succ_of_lt→So,succ_le_succ→Sx,add_assoc→SS,one_le_iff_ne_zero→TF,add_sub_cancel'→TQ
open List renaming map_cons→N5,length_map→N6,mem_cons_self→N9,getElem?_eq_some_iff→Oa,mem_cons_of_mem→Ob,getElem?_map→Oc,replicate→Of,mem_cons→Og,mem_singleton→Ol,append_assoc→Om,mem_map→Oo,size_toArray→Ot,getElem?_eq_getElem→Ov,map_map→Ow,mem_append→OA,map_append→OD,length_cons→OF,getElem_mem→OG,length_append→OH,range→OQ,mem_append_right→OR,take_length→OX,take_succ_eq_append_getElem→O3,append_nil→O7,getD_eq_getElem?_getD→O9,getElem?_set_self→Pa,getElem?_set_ne→Pb,length_take→Pc,nodup_cons→Pd,mem_of_getElem?→Pe,filterMap_cons→Pp,cons_append→Pq,foldl_cons→Pr,mem_append_left→PB,find?_cons→PJ,take_append_drop→PN,getElem?_eq_none→PR,length_nil→PV,replicate_succ→PZ,not_mem_nil→P0,nil_append→P1,map_congr_left→P7,pairwise_map→P8,sum_cons→Qc,getElem?_append_left→Qf,nodup_append→Qk,filter_cons_of_pos→Qw,perm_append_comm→Qy,flatten_cons→QB,sum_append→QF,map_nil→QG,length→QJ,getElem?_append_right→QT,pairwise_singleton→QX,take_of_length_le→QY,getElem?_of_mem→Q0,getElem?_range→Q3,pairwise_cons→Q4,getElem?_drop→Q5,foldl→Rh,Nodup→Ri,filter_cons_of_neg→Rl,getElem?_append→Rn,mem_filter→Rw,foldr_cons→Rx,Sublist→RJ,drop_eq_getElem_cons→RW,getElem?_take_of_lt→R0,eq_of_mem_replicate→R1,length_singleton→R8,mem_of_mem_take→Se,zip_cons_cons→Sk,take_sublist→Sq,reverse_perm→Ss,flatMap_cons→Su,ext_getElem?→Sv,mem_flatMap→Sy,ext_getElem→Sz,of_mem_zip→SE,forIn_cons→SG,mem_range→SN,zipWith→S0,Pairwise→Th,pairwise_iff_getElem→To,getElem?_replicate→Tv,reverse_append→TR,length_reverse→TU,getElem_range→TX,filterMap_map→TY,take_add_one→T9,foldl_append→Ua,drop_sublist→Ub,lookup_cons→Ue,getElem_map→Ug,flatMap_nil→Uh,drop_append_of_le_length→Uv
open PySem.Heap renaming get?_push_of_some→N7,lt_size→N8,get?_push_size→Oj,SameBut→Pj,ExtBut→Qe,get?_update_ne→Qi,size_push→Qm,get?_update_other→R6,size_update→Ui
open Bool renaming false_ne_true→Oe,false_eq_true→OV,and_eq_true→Rt,eq_iff_iff→Ry,not_true→RE
open Option renaming map_eq_some_iff→Oh,isSome_map→QA,bind_eq_some_iff→Tu
open PySem.Expr renaming Name→Oi,Call→OZ,Subscript→Px
open Sum renaming inl→Oq,inr→Qv
open Ne renaming symm→Ou
open PySem.Value renaming ref→Ox,none→O4,type→Pg,str→RN,int→RO
open PySem.SeqAt renaming EqAt→Oz,RcAt→QM,RcNeAt→SX
open Array renaming getElem?_eq_getElem→OC,toList_push→OM,getElem?_toList→OT,length_toList→OU,toList_append→Pf,ext'→Qt,perm_iff_toList_perm→QU,getElem?_eq_some_iff→QV,toList_reverse→Q2,getElem?_extract→R7,mem_toList_iff→TM,getElem_mem→Uc,toList_map→Uk,toList_eraseIdxIfInBounds→Ur
open Int renaming le_trans→OI,toNat_natCast→OW,le_refl→Pn,le_of_lt→Qd,zero_mul→QI,pow_pos→QK,add_mul→QL,mul_assoc→RD,zero_add→RK,toNat→RP,lt_of_le_of_lt→Sm,add_zero→S3,add_comm→S6,one_mul→Te,natCast_nonneg→TZ,mul_le_mul_of_nonneg_right→Us
open PySem.Obj renaming mapSeq→OJ,data_mapFields→Sj
open PySem.Env renaming kindOf→ON
open ForInStep renaming yield→OY,done→Pw
open False renaming elim→O2
open PySem.Builtin.Int renaming intBits→Ph
open PySem.Paired renaming length→Pk,snoc→Td
open Option.some renaming inj→PF
open True renaming intro→P6
open PySem.NameKind renaming free→Qa
open PySem.Builtin.List renaming listUpdate→Qh,listLengthHint→QS,listItems→Rm,listExtendWith→RT,listTooLong→Tr
open PyProof.Rows.SortSt renaming mk'→Qs
open Lean renaming mkPrivateNameCore→Qx,mkIdent→QH
open PySem.F renaming slot_dict_itemiterator_next→QO,slot_dict_keyiterator_next→Rj,plain_extend_loop→RV,slot_int_rmul→SH,args_tuple_add_2→Tq,entry_tuple_add→Tt,slot_tuple_add→Tz,slot_tuple_lt→TJ,slot_dict_get→TL,slot_tuple_mul→Uj,args_dict_itemiterator_next_1→Uq,entry_dict_itemiterator_next→Ut,args_dict_keyiterator_next_1→Uu,slot_dict_itemiterator_iter→Uw,entry_dict_keyiterator_next→Ux
open PySem.Builtin.SmallTypes renaming nextOf→QW
open List.Perm renaming append_left→QZ
open PySem.Heap.SameBut renaming update→Rp
open List.Pairwise renaming nil→Rr
open PySem.Builtin.Slice renaming slicePlaces→RY,sliceAdjust→Tp
open PySem.Builtin.Tuple renaming tupleExact→R3
open PySem.AutoSeq1 renaming wpAny_loadPart'→R4
open PySem.Builtin.Range renaming rangeSize→R5
open PySem.Builtin.Dict renaming showsAll→R9
open PySem.Around renaming under_plainId→Sf
open PySem.Stmt renaming AugAssign→SJ,Assign→Tc
open Quotient renaming sound→SK
open Function renaming comp→SV
open PySem.Operator renaming Add→SY
open PySem.Data renaming fields→Tf
open PySem.Builtin.Dict_items renaming pairFromOwner→Tg,ownsTuple→Tj,ownedTupleIsFree→Um,ownedTupleFields→Uo
open PySem.Calls renaming callWith_builtin→TH,spliced_cons→T3
open PySem.Challenge renaming rw_everydraw_k20_lines_of_circles→Ul
namespace PySem.W.Fast
theorem tw9003462123173602933:True:=⟨⟩
theorem tw16176587995055673777:True:=⟨⟩
theorem tw2476360702706293456:True:=⟨⟩
theorem tw3275064881983319184:True:=⟨⟩
theorem tw9541009542758872672:True:=⟨⟩
theorem tw14074388377343297259:True:=⟨⟩
theorem tw14514947401973532085:True:=⟨⟩
theorem tw7634388128374770228:True:=⟨⟩
theorem tw4260053254634934411:True:=⟨⟩
theorem tw14917585732760240266:True:=⟨⟩
theorem tw11953283065454382925:True:=⟨⟩
theorem tw10584614617131076262:True:=⟨⟩
theorem tw6524731944891637698:True:=⟨⟩
theorem tw17968730056143600182:True:=⟨⟩
theorem tw970174847863926775:True:=⟨⟩
theorem tw7950874960201708612:True:=⟨⟩
theorem tw4849737861385524064:True:=⟨⟩
theorem tw9415065203790573300:True:=⟨⟩
theorem tw7609928176566760836:True:=⟨⟩
theorem tw5354131131034105430:True:=⟨⟩
theorem tw6689846738186559835:True:=⟨⟩
theorem tw6750805748881727385:True:=⟨⟩
theorem tw11512394295281309782:True:=⟨⟩
theorem tw12939400817625595102:True:=⟨⟩
theorem tw9309793978756539091:True:=⟨⟩
theorem tw3329724668829863908:True:=⟨⟩
theorem tw720440430860239123:True:=⟨⟩
theorem tw2319423225732762682:True:=⟨⟩
theorem tw9841753656987024888:True:=⟨⟩
theorem tw15549899453783592425:True:=⟨⟩
theorem tw1161138629345658890:True:=⟨⟩
theorem tw3737810638090930779:True:=⟨⟩
theorem tw948602566379338694:True:=⟨⟩
theorem tw17904082901021169244:True:=⟨⟩
theorem tw5169237060838403281:True:=⟨⟩
theorem tw14528451299876668639:True:=⟨⟩
theorem tw14032655378653185769:True:=⟨⟩
theorem tw3505823956591905918:True:=⟨⟩
theorem tw3932450702692787610:True:=⟨⟩
theorem tw18093501705830994097:True:=⟨⟩
theorem tw5973518014148376558:True:=⟨⟩
theorem tw17432856104770099209:True:=⟨⟩
theorem tw14766851285952605799:True:=⟨⟩
theorem tw10794882690933951325:True:=⟨⟩
theorem tw13913910871810085114:True:=⟨⟩
theorem tw18074246445240288897:True:=⟨⟩
theorem tw13520648376304204012:True:=⟨⟩
theorem tw7689066432564862541:True:=⟨⟩
theorem tw16011978091367021678:True:=⟨⟩
theorem tw16590050056208228032:True:=⟨⟩
theorem tw3376817485060340704:True:=⟨⟩
theorem tw10133129523288436651:True:=⟨⟩
theorem tw2234713613965698008:True:=⟨⟩
theorem tw14505297841669189019:True:=⟨⟩
theorem tw9567778764869539116:True:=⟨⟩
theorem tw15939295148704436690:True:=⟨⟩
theorem tw4600612913500109012:True:=⟨⟩
theorem tw21319792911764600:True:=⟨⟩
theorem tw4850018824079687888:True:=⟨⟩
theorem tw12138680840865644765:True:=⟨⟩
theorem tw3300639404768143446:True:=⟨⟩
theorem tw11381646860126510638:True:=⟨⟩
theorem tw16591290847488336111:True:=⟨⟩
theorem tw18212203632336050695:True:=⟨⟩
theorem tw12503921199495890039:True:=⟨⟩
theorem tw2847459782304456728:True:=⟨⟩
theorem tw3782242380727311021:True:=⟨⟩
theorem tw6881353069276857777:True:=⟨⟩
theorem tw16610661776596947919:True:=⟨⟩
theorem tw12230652776301001246:True:=⟨⟩
theorem tw10372432523166481317:True:=⟨⟩
theorem tw9585628027067174008:True:=⟨⟩
theorem tw1995478649574510120:True:=⟨⟩
theorem tw5035158233166269349:True:=⟨⟩
theorem tw13737984271155698460:True:=⟨⟩
theorem tw10765614586364473915:True:=⟨⟩
theorem tw16296821347046369759:True:=⟨⟩
theorem tw197327469549713495:True:=⟨⟩
theorem tw14353469952087035362:True:=⟨⟩
theorem tw16788537168941292987:True:=⟨⟩
theorem tw16913753509377887533:True:=⟨⟩
theorem tw727860079778261413:True:=⟨⟩
theorem tw14334578367240571362:True:=⟨⟩
theorem tw14765563241857299121:True:=⟨⟩
theorem tw12757522033544109950:True:=⟨⟩
theorem tw1723377603141609797:True:=⟨⟩
theorem tw1780831770409653011:True:=⟨⟩
theorem tw18272850152504834665:True:=⟨⟩
theorem tw14712417717313658163:True:=⟨⟩
theorem tw15612320656138850367:True:=⟨⟩
theorem tw5178038906199649397:True:=⟨⟩
theorem tw6174871023754907434:True:=⟨⟩
theorem tw2409300516621078444:True:=⟨⟩
theorem tw9166950807518386594:True:=⟨⟩
theorem tw11016301269065191280:True:=⟨⟩
theorem tw16431425083188801275:True:=⟨⟩
theorem tw18288738070723030631:True:=⟨⟩
theorem tw10724429308578044635:True:=⟨⟩
theorem tw510772756459876565:True:=⟨⟩
theorem tw8268479343768887940:True:=⟨⟩
end PySem.W.Fast
local macro_rules | `(tactic| walk_at "u") => `(tactic| with_unfolding_all rfl)
namespace L2
open PySem PySem.Spec PyProof.Rows
noncomputable abbrev Key:=Sum Int Str
noncomputable def kP:Key→Value→Bool
 | .inl k,v=>Value.isInt k v
 | .inr x,v=>Value.isStrOf x v
noncomputable def Mp (w:World):Key→Int
 | .inl k=>hashInt k
 | .inr x=>hashStr w x
theorem bF:∀ {k:Key} {v:Value},kP k v=true→(∃ i t,k=Oq i∧v=RO i t)∨(∃ x t,k=Qv x∧v=RN x t)
 | .inl i,v,h=>by
  obtain ⟨t,e⟩:=Value.isInt_shape (k:=i) (v:=v) h
  exact .inl ⟨i,t,rfl,e⟩
 | .inr x,v,h=>by
  obtain ⟨t,e⟩:=Value.isStrOf_shape (x:=x) (v:=v) h
  exact .inr ⟨x,t,rfl,e⟩
theorem xC (i) (t:Tok):kP (.inl i) (.int i t)=true:=by simp [kP,Value.isInt]
theorem xD (x) (t:Tok):kP (.inr x) (.str x t)=true:=by simp [kP,Value.isStrOf]
theorem GL (a b):decide ((Oq a:Key)=Oq b)=(a == b):=by
 by_cases e:a=b
 ·subst e; simp
 ·have h:¬ (Oq a:Key)=Oq b:=fun q=>e (Oq.inj q)
  rw [decide_eq_false h]
  exact (beq_eq_false_iff_ne.mpr e).symm
theorem GN (a b):decide ((Qv a:Key)=Qv b)=decide (a=b):=by
 by_cases e:a=b
 ·subst e; simp
 ·have h:¬ (Qv a:Key)=Qv b:=fun q=>e (Qv.inj q)
  rw [decide_eq_false h,decide_eq_false e]
theorem GO (a) (b):decide ((Oq a:Key)=Qv b)=false:=decide_eq_false (fun q=>nomatch q)
theorem GP (a) (b):decide ((Qv a:Key)=Oq b)=false:=decide_eq_false (fun q=>nomatch q)
noncomputable def bV (prog:Program) (w:World):PySem.KeyKind prog w Key where
 is:=kP
 hash:=Mp w
 inj:=fun v a b ha hb=>by
  rcases bF ha with ⟨i,t,rfl,rfl⟩ | ⟨x,t,rfl,rfl⟩
  ·rcases bF hb with ⟨j,u,rfl,e⟩ | ⟨y,u,rfl,e⟩
   ·injection e with e1 _; rw [e1]
   ·exact nomatch e
  ·rcases bF hb with ⟨j,u,rfl,e⟩ | ⟨y,u,rfl,e⟩
   ·exact nomatch e
   ·injection e with e1 _; rw [e1]
 byValue:=fun k v h=>by
  rcases bF h with ⟨i,t,rfl,rfl⟩ | ⟨x,t,rfl,rfl⟩ <;> rfl
 pyHash:=fun hv h=>by
  rcases bF hv with ⟨i,t,rfl,rfl⟩ | ⟨x,t,rfl,rfl⟩
  ·exact wpAny_pyHash_int h
  ·exact wpAny_pyHash_str h
 eqBool:=fun hu hv h=>by
  rcases bF hu with ⟨i,t,rfl,rfl⟩ | ⟨x,t,rfl,rfl⟩
  ·rcases bF hv with ⟨j,u,rfl,rfl⟩ | ⟨y,u,rfl,rfl⟩
   ·rw [GL] at h; exact wpAny_eqBool_int h
   ·rw [GO] at h; exact Oz.int_str i t y u _ _ _ _ h
  ·rcases bF hv with ⟨j,u,rfl,rfl⟩ | ⟨y,u,rfl,rfl⟩
   ·rw [GP] at h; exact Oz.str_int x t j u _ _ _ _ h
   ·rw [GN] at h; exact wpAny_eqBool_str h
 «strs» :=fun k x t v h=>by
  rcases bF h with ⟨i,u,rfl,e⟩ | ⟨y,u,rfl,e⟩
  ·exact nomatch e
  ·injection e with e1 _
   subst e1
   cases v <;> rfl
theorem ql (prog) (w) (i) (t:Tok):(bV prog w).is (.inl i) (.int i t)=true:=xC i t
theorem qm (prog) (w) (x) (t:Tok):(bV prog w).is (.inr x) (.str x t)=true:=xD x t
inductive V where
 | non | bl (b:Bool) | int (i:Int) | str (x:Str) | byt (b:Array UInt8) | flt (b:UInt64) | ref (a:Addr) | ty (n:String)
 deriving DecidableEq
noncomputable def RelV:V→Value→Prop
 | .non,u=>u=O4
 | .bl b,u=>u=Value.bool b
 | .int i,u=>∃ t,u=RO i t
 | .str x,u=>∃ t,u=RN x t
 | .byt b,u=>∃ t,u=Value.bytes b t
 | .flt b,u=>∃ t,u=Value.float b t
 | .ref a,u=>u=Ox a
 | .ty n,u=>u=Pg n
noncomputable abbrev Vals:List V→List Value→Prop:=Paired RelV
theorem Vals.length (r:Vals xs us):xs.length=us.length:=Pk r
theorem Vals.get:∀ {xs:List V} {us:List Value} {i:Nat} {x:V},Vals xs us→xs[i]?=some x→∃ u,us[i]?=some u∧RelV x u
 | _,_,_,_,.nil,e=>by simp at e
 | _,_,0,_,.cons r _,e=>by simp at e; subst e; exact ⟨_,rfl,r⟩
 | _,_,i+1,x,.cons _ t,e=>by
  obtain ⟨u,h1,h2⟩:=Vals.get (i:=i) (x:=x) t (by simpa using e)
  exact ⟨u,by simpa using h1,h2⟩
theorem Vals.set (r:RelV x u):∀ {xs:List V} {us:List Value} (i:Nat),Vals xs us→Vals (xs.set i x) (us.set i u)
 | _,_,_,.nil=>.nil
 | _,_,0,.cons _ t=>.cons r t
 | _,_,i+1,.cons q t=>.cons q (Vals.set r i t)
theorem Vals.append:∀ {xs ys:List V} {us ws:List Value},Vals xs us→Vals ys ws→Vals (xs++ys) (us++ws)
 | _,_,_,_,.nil,s=>s
 | _,_,_,_,.cons r t,s=>.cons r (Vals.append t s)
theorem Vals.take:∀ {xs:List V} {us:List Value} (n:Nat),Vals xs us→Vals (xs.take n) (us.take n)
 | _,_,0,_=>.nil
 | _,_,_+1,.nil=>.nil
 | _,_,n+1,.cons r t=>.cons r (Vals.take n t)
theorem Vals.drop:∀ {xs:List V} {us:List Value} (n:Nat),Vals xs us→Vals (xs.drop n) (us.drop n)
 | _,_,0,r=>r
 | _,_,_+1,.nil=>.nil
 | _,_,n+1,.cons _ t=>Vals.drop n t
noncomputable def j8:Option V→Option Value→Prop
 | some v,some u=>RelV v u
 | none,none=>True
 | _,_=>False
noncomputable def KV {κ:Type}:List (κ×V)→List (κ×Value)→Prop:=Paired fun (p:κ×V) (q:κ×Value)=>p.1=q.1∧RelV p.2 q.2
noncomputable def kV:Key→V
 | .inl i=>.int i
 | .inr x=>.str x
inductive HO where
 | lst (xs:List V)
 | tup (xs:List V)
 | dK (kvs:List (Key×V)) | dT (kvs:List (List Key×Addr×V))
 | set (S:Int→Bool) (n:Nat)
 | ins (C dx:Addr) (fs:List (Str×V))
 | own (x:Addr)
 | xd (fs:List (Str×V))
 | met (f x:Addr)
 | rng (lo hi:Int)
 | frz (o:Obj) (u:HO)
 | tbl (ps:Array Value)
 | ext (φ :Heap→Prop)
noncomputable abbrev Hp:=Addr→Option HO
noncomputable def upd (H:Hp) (a:Addr) (o:HO):Hp:=fun b=>if b=a then some o else H b
theorem ai:upd H a o a=some o:=by unfold upd; rw [if_pos rfl]
theorem ak (h:b≠a):upd H a o b=H b:=by unfold upd; rw [if_neg h]
theorem kD:upd (upd H a o) a u=upd H a u:=by
 funext b; unfold upd; split <;> rfl
theorem aB {H:Hp} (h:H a=some o) (h':H b=none):a≠b:=by
 intro e; subst e; rw [h] at h'; cases h'
section
variable (P:Program) (w:World)
noncomputable def bh (H:Hp) (h:Heap) (a:Addr):HO→Prop
 | .lst xs=>xs.length≤sizeLine∧∃ (its:List Value) (n:Nat),Vals xs its∧h.get? a=some { cls:=.type "list",data:=.seq its.toArray n }
 | .tup xs=>xs.length≤sizeLine∧∃ its:List Value,Vals xs its∧IsTup h a its.toArray
 | .dK kvs=>kvs.length≤sizeLine∧(a == sysModules)=false∧∃ vs,KV kvs vs∧h.DictOf (bV P w) a vs
 | .dT kvs=>kvs.length≤sizeLine∧(a == sysModules)=false∧∃ xs:List (List Key×Addr×Value),
  Paired (fun (p:List Key×Addr×V) (q:List Key×Addr×Value)=>p.1=q.1∧p.2.1=q.2.1∧RelV p.2.2 q.2.2) kvs xs ∧
  ∃ o es ep,h.get? a=some o∧o.ExactDict∧o.data=.dict es ep∧es.toList=xs.map (entryOfKey (tupleKind (bV P w)))∧(xs.map (·.1)).Nodup
 | .set S n=>h.SetOf (intKind P w) a S n
 | .ins C dx fs=>H dx=some (.own a)∧fs.length≤1000∧dx≠a∧h.get? a=some (PySem.W.instObj C dx) ∧
  ∃ mA,h.Ns1 dx mA∧(∀ f,j8 (fs.lookup f) (mA f))∧PySem.Within mA (fs.map (·.1))
 | .own _=>∃ o,h.get? a=some o
 | .xd fs=>∃ mA,h.Ns1 a mA∧∀ f,j8 (fs.lookup f) (mA f)
 | .rng lo hi=>∃ t u v,h.get? a=some { cls:=.type "range",data:=.fields #[.int lo t,.int hi u,.int 1 v] }
 | .frz o u=>h.get? a=some o∧bh H h a u
 | .tbl ps=>h.get? a=some { cls:=.none,data:=.fields ps }
 | .met f x=>h.get? a=some (T8 (.ref f) (.ref x))
 | .ext φ => φ h∧(∃ o,h.get? a=some o)∧∀ h1 h2:Heap,φ h1→(∀ o,h1.get? a=some o→h2.get? a=some o)→ φ h2
noncomputable def jw (H:Hp) (h:Heap):Prop:=∀ a o,H a=some o→bh P w H h a o
end
section
theorem bh.lt (x:bh P w H h a o):a<h.objs.size:=by
 cases o with
 | lst xs=>obtain ⟨_,_,_,_,e⟩:=x; exact N8 e
 | tup xs=>obtain ⟨_,_,_,p⟩:=x; exact p.lt
 | dK kvs=>obtain ⟨_,_,_,_,o,_,_,e,_⟩:=x; exact N8 e
 | dT kvs=>obtain ⟨_,_,_,_,o,_,_,e,_⟩:=x; exact N8 e
 | set S n=>obtain ⟨o,_,_,_,e,_⟩:=x; exact N8 e
 | ins C dx fs=>obtain ⟨_,_,_,e,_⟩:=x; exact N8 e
 | own y=>obtain ⟨_,e⟩:=x; exact N8 e
 | xd fs=>obtain ⟨_,⟨_,_,_,e,_⟩,_⟩:=x; exact N8 e
 | rng lo hi=>obtain ⟨_,_,_,e⟩:=x; exact N8 e
 | frz ob u=>obtain ⟨e,_⟩:=x; exact N8 e
 | tbl ps=>exact N8 (show h.get? a=some _ from x)
 | met f y=>exact N8 (show h.get? a=some _ from x)
 | ext φ =>obtain ⟨_,⟨_,e⟩,_⟩:=x; exact N8 e
theorem Paired.GQ:∀ {l₁:List α} {l₂:List β},Paired F l₁ l₂→(∀ a b,F a b→G a b)→Paired G l₁ l₂
 | _,_,.nil,_=>.nil
 | _,_,.cons r t,f=>.cons (f _ _ r) (Paired.GQ t f)
theorem bh.stay (x:bh P w H h a o) (k:∀ b u,(b=a∨H b=some (.own a))→h.get? b=some u→h'.get? b=some u)
 (ho:∀ b,H b=some (.own a)→H' b=some (.own a)) (ht:∀ b xs,H b=some (.tup xs)→H' b=some (.tup xs)):bh P w H' h' a o:=by
 induction o with
 | lst xs=>obtain ⟨z,its,n,r,e⟩:=x; exact ⟨z,its,n,r,k _ _ (.inl rfl) e⟩
 | tup xs=>obtain ⟨z,its,r,ob,e,c⟩:=x; exact ⟨z,its,r,ob,k _ _ (.inl rfl) e,c⟩
 | dK kvs=>obtain ⟨z,y,vs,r,ob,es,ep,e,c⟩:=x; exact ⟨z,y,vs,r,ob,es,ep,k _ _ (.inl rfl) e,c⟩
 | dT kvs =>
  obtain ⟨z,y,xs,r,ob,es,ep,e,c⟩:=x
  exact ⟨z,y,xs,r,ob,es,ep,k _ _ (.inl rfl) e,c⟩
 | set S n=>obtain ⟨ob,es,ep,t,e,c⟩:=x; exact ⟨ob,es,ep,t,k _ _ (.inl rfl) e,c⟩
 | ins C dx fs =>
  obtain ⟨d,z,ne,e,mA,⟨od,es,ep,e2,c⟩,r⟩:=x
  exact ⟨ho _ d,z,ne,k _ _ (.inl rfl) e,mA,⟨od,es,ep,k _ _ (.inr d) e2,c⟩,r⟩
 | own y=>obtain ⟨ob,e⟩:=x; exact ⟨ob,k _ _ (.inl rfl) e⟩
 | xd fs=>obtain ⟨mA,⟨od,es,ep,e,c⟩,r⟩:=x; exact ⟨mA,⟨od,es,ep,k _ _ (.inl rfl) e,c⟩,r⟩
 | rng lo hi=>obtain ⟨t,u,v,e⟩:=x; exact ⟨t,u,v,k _ _ (.inl rfl) e⟩
 | frz ob u ih=>obtain ⟨e,q⟩:=x; exact ⟨k _ _ (.inl rfl) e,ih q⟩
 | tbl ps =>
  have e:h.get? a=some { cls:=.none,data:=.fields ps }:=x
  show h'.get? a=some { cls:=.none,data:=.fields ps }
  exact k a _ (.inl rfl) e
 | met f y =>
  have e:h.get? a=some (T8 (.ref f) (.ref y)):=x
  show h'.get? a=some (T8 (.ref f) (.ref y))
  exact k a _ (.inl rfl) e
 | ext φ =>obtain ⟨p,⟨o,e⟩,st⟩:=x; exact ⟨st _ _ p fun o q=>k _ _ (.inl rfl) q,⟨o,k _ _ (.inl rfl) e⟩,st⟩
theorem jw.lt (x:jw P w H h) (e:H a=some o):a<h.objs.size:=(x a o e).lt
theorem jw.fresh (x:jw P w H h) (e:h.objs.size≤a):H a=none:=by
 cases q:H a with
 | none=>rfl
 | some u=>exact absurd (O0 (x.lt q) e) (PK _)
theorem jw.kept (x:jw P w H h) (k:∀ b u,h.get? b=some u→h'.get? b=some u):jw P w H h':=fun a o e =>
 (x a o e).stay (fun b u _ q=>k b u q) (fun _ q=>q) fun _ _ q=>q
theorem jw.laid (x:jw P w H h) (k:∀ b u,h.get? b=some u→h'.get? b=some u) (hp:h.objs.size≤a) (new:bh P w (upd H a o) h' a o):jw P w (upd H a o) h':=fun b u e=>by
 have hn:=x.fresh hp
 by_cases hb:b=a
 ·subst hb; rw [ai] at e; cases e; exact new
 ·rw [ak hb] at e
  exact (x b u e).stay (fun c v _ q=>k c v q) (fun c q=>by rw [ak (aB q hn)]; exact q) fun c xs q=>by rw [ak (aB q hn)]; exact q
end
noncomputable def Rd (H:Hp) (a:Addr) (u:HO):Prop:=H a=some u∨∃ o,H a=some (.frz o u)
theorem Rd.ok (r:Rd H a u) (x:jw P w H h):bh P w H h a u:=by
 rcases r with r | ⟨o,r⟩
 ·exact x a u r
 ·obtain ⟨_,q⟩:=x a _ r
  exact q
noncomputable def J6:Option HO→Prop
 | some (.lst _)=>True
 | some (.dK _)=>True
 | some (.dT _)=>True
 | some (.set _ _)=>True
 | some (.ins _ _ _)=>True
 | some (.ext _)=>True
 | _=>False
section
theorem jw.write (ok:jw P w H h) (mu:J6 (H x)) (he:e=x∨H e=some (.own x)) (k:∀ b u,b≠e→h.get? b=some u→h'.get? b=some u) (heo:∃ u,h'.get? e=some u)
 (new:bh P w (upd H x o') h' x o'):jw P w (upd H x o') h':=fun b u q=>by
 have nown:∀ c y,H c=some (.own y)→c≠x:=fun c y r z=>by subst z; rw [r] at mu; exact mu
 have ntup:∀ c xs,H c=some (.tup xs)→c≠x:=fun c xs r z=>by subst z; rw [r] at mu; exact mu
 by_cases hb:b=x
 ·subst hb; rw [ai] at q; cases q; exact new
 ·rw [ak hb] at q
  by_cases hbe:b=e
  ·have q':H b=some (.own x):=by
    rcases he with z | z
    ·exact absurd (hbe.trans z) hb
    ·rw [hbe]; exact z
   rw [q] at q'; cases q'
   obtain ⟨v,hv⟩:=heo
   exact ⟨v,by rw [hbe]; exact hv⟩
  ·refine (ok b u q).stay (fun c v hc r=>k c v ?_ r) (fun c r=>by rw [ak (nown c b r)]; exact r) fun c xs r=>by rw [ak (ntup c xs r)]; exact r
   rcases hc with rfl | hc
   ·exact hbe
   ·rintro rfl
    rcases he with z | z
    ·exact nown c b hc z
    ·rw [hc] at z; cases z; exact hb rfl
end
structure Un (fs ex:List Addr) (H H':Hp) (h h':Heap):Prop where
 keep:∀ b o,h.get? b=some o→H b=none→b∉fs→b∉ex→h'.get? b=some o
 slot:∀ b o,h.get? b=some o→H b=none→b∈fs→b∉ex→∃ sl,h'.get? b=some { o with slots:=sl }
 free:∀ b o,h.get? b=some o→H b=none→b∉ex→H' b=none
 there:∀ b o,h.get? b=some o→b∉ex→∃ o',h'.get? b=some o'
 tups:∀ b xs,H b=some (.tup xs)→H' b=some (.tup xs)
 frzs:∀ b o u,H b=some (.frz o u)→H' b=some (.frz o u)
 tbls:∀ b ps,H b=some (.tbl ps)→∃ more,H' b=some (.tbl (ps++more))
section
variable {fs fs' ex ex':List Addr} {H H1 H2:Hp} {h h1 h2 h':Heap} {a x e:Addr} {o:HO}
theorem Un.any (u:Un fs ex H H1 h h1) (q:h.get? b=some ob) (n:H b=none) (hx:b∉ex):∃ sl,h1.get? b=some { ob with slots:=sl }:=by
 by_cases hb:b∈fs
 ·exact u.slot b ob q n hb hx
 ·exact ⟨ob.slots,u.keep b ob q n hb hx⟩
theorem Un.kept (k:∀ b u,h.get? b=some u→h'.get? b=some u):Un fs ex H H h h' :=
 ⟨fun b ob q _ _ _=>k b ob q,fun b ob q _ _ _=>⟨ob.slots,k b ob q⟩,fun _ _ _ n _=>n,fun b ob q _=>⟨ob,k b ob q⟩,fun _ _ q=>q,fun _ _ _ q=>q,fun _ ps q=>⟨#[],by rw [q]; simp⟩⟩
theorem Un.refl:Un fs ex H H h h:=Un.kept fun _ _ q=>q
theorem Un.laid (k:∀ b u,h.get? b=some u→h'.get? b=some u) (hp:h.objs.size≤a) (hn:H a=none):Un fs ex H (upd H a o) h h' where
 keep:=fun b u q _ _ _=>k b u q
 slot:=fun b u q _ _ _=>⟨u.slots,k b u q⟩
 free:=fun b u q n _=>by rw [ak (OB (O0 (N8 q) hp))]; exact n
 there:=fun b u q _=>⟨u,k b u q⟩
 tups:=fun b xs q=>by rw [ak (aB q hn)]; exact q
 frzs:=fun b u xs q=>by rw [ak (aB q hn)]; exact q
 tbls:=fun b ps q=>⟨#[],by rw [ak (aB q hn),q]; simp⟩
theorem Un.write (mu:J6 (H x)) (he:e=x∨H e=some (.own x)) (k:∀ b u,b≠e→h.get? b=some u→h'.get? b=some u) (heo:∃ u,h'.get? e=some u):Un fs ex H (upd H x o) h h':=by
 have hx:∀ b,H b=none→b≠x:=fun b n z=>by subst z; rw [n] at mu; exact mu
 have hb:∀ b,H b=none→b≠e:=fun b n z=>by
  subst z
  rcases he with r | r
  ·exact hx b n r
  ·rw [n] at r; cases r
 have hm:∀ b u,H b=some u→¬ J6 (some u)→b≠x:=fun b u q nm z=>by subst z; rw [q] at mu; exact nm mu
 refine ⟨fun b u q n _ _=>k b u (hb b n) q,fun b u q n _ _=>⟨u.slots,k b u (hb b n) q⟩,fun b u q n _=>by rw [ak (hx b n)]; exact n,fun b u q _=>?_,
  fun b xs q=>by rw [ak (hm b _ q fun z=>z)]; exact q,fun b u xs q=>by rw [ak (hm b _ q fun z=>z)]; exact q,fun b ps q=>⟨#[],by rw [ak (hm b _ q fun z=>z),q]; simp⟩⟩
 by_cases hbe:b=e
 ·subst hbe; exact heo
 ·exact ⟨u,k b u hbe q⟩
end
noncomputable def Mc (h:Heap) (H:Hp):List Addr:=(OQ h.objs.size).filter fun a=>(H a).isSome
noncomputable def oA (h:Heap) (H:Hp):Heap:=PySem.W.hideAll h (Mc h H)
theorem xE (h) (H):(oA h H).objs.size=h.objs.size:=PySem.W.hideAll_size _ _
theorem zz (e:h.get? b=some o) (n:H b=none):(oA h H).get? b=some o :=
 PySem.W.hideAll_get _ e fun hm=>by
  have q:(H b).isSome=true:=(Rw.mp hm).2
  rw [n] at q; simp at q
theorem DA (e:(oA h H).get? b=some o):h.get? b=some o∧H b=none:=by
 have e':h.get? b=some o:=PySem.W.of_hideAll (Mc h H) e
 refine ⟨e',?_⟩
 cases q:H b with
 | none=>rfl
 | some x =>
  have hm:b∈Mc h H:=Rw.mpr ⟨SN.mpr (N8 e'),by simp [q]⟩
  have z:(oA h H).get? b=none:=PySem.W.hideAll_none (Mc h H) hm
  rw [z] at e; cases e
structure Mod (K:NZ) (mg:Str→Option Value) (base:Heap):Prop where
 kin:K.In base
 glob:base.Ns mainGlobals mg
 blt:∃ mb,base.Ns builtinsNs mb∧∀ x:Str,x≠"__name__"→mb x=bootBuiltins x
 nolimit:base.NoLimit
structure Cx where
 prog:Program
 w:World
 K:NZ
 mg:Str→Option Value
 base:Heap
 A:Around
 N:List Str
 s₀:Shared
 H₀:Hp
 env:Env
 outer:List Env
 stack:List Env
 ex:List Addr
 fn:Str→Bool
 calm:Bool
 pn:List (Addr×Obj)
 xe:Value→Shared→Prop
noncomputable def frs (l:List Env):List Addr:=l.filterMap (·.frame)
noncomputable abbrev Cx.fs (X:Cx):List Addr:=frs X.outer
noncomputable def Mq (sc:Scope) (x:Str):Prop:=sc.names.lookup x=some .local∨sc.names.lookup x=some .cell∨sc.names.lookup x=some .free
noncomputable def Loc (sc:Scope) (x:Str):Prop:=sc.names.lookup x=some .local∨sc.names.lookup x=some .cell
noncomputable def Look (env:Env) (h:Heap) (m:Str→Option Value) (x:Str) (u:Value):Prop :=
 (env.kindOf x=some .local∧m x=some u)∨((env.kindOf x=some .cell∨env.kindOf x=some .free)∧∃ c,env.cells.lookup x=some c∧h.IsCell c (some u))
structure Cx.Ok (X:Cx):Prop where
 mod:Mod X.K X.mg X.base
 kind:X.env.scope.kind=.function
 glob:X.env.globals=mainGlobals
 blt:X.env.builtins=builtinsNs
 above:X.s₀.heap.objs.size≤X.env.locals
 inj:∀ x y c,X.env.cells.lookup x=some c→X.env.cells.lookup y=some c→x=y
 has:∀ x,(X.env.kindOf x=some .cell∨X.env.kindOf x=some .free)→∃ c,X.env.cells.lookup x=some c
 cab:∀ x c,X.fn x=true→X.env.cells.lookup x=some c→X.s₀.heap.objs.size≤c
 hd:X.calm=true→X.A.handled=none
 frames:X.A.frames=some X.stack
 stk:X.stack=X.outer∨(X.stack=X.env::X.outer∧X.env.frame=some X.env.locals)
 exf:∀ b∈X.ex,b≠X.env.locals∧∀ x c,X.env.cells.lookup x=some c→c≠b
 bs:∀ b o,X.base.get? b=some o→X.s₀.heap.get? b=some o∧X.H₀ b=none
 bsz:X.base.objs.size≤X.s₀.heap.objs.size
 noex:∀ b o,X.base.get? b=some o→b∉X.ex
 exfs:∀ b∈X.ex,b∉X.fs
 jx:X.s₀.heap.FunFrames X.base X.outer
 frf:∀ b∈X.fs,X.H₀ b=none
structure Inv (X:Cx) (aa:List (Addr×Obj)) (σ:List (Option V)) (H:Hp) (s:Shared):Prop where
 ok:X.Ok
 os:s.os=X.s₀.os
 bare:AllBare s.gens
 base:Un X.fs X.ex X.H₀ H X.s₀.heap s.heap
 loc:∃ m,s.heap.Ns X.env.locals m∧∀ (i:Nat) (x:Str) (v:V),X.N[i]?=some x→σ[i]?=some (some v)→Mq X.env.scope x→∃ u,RelV v u∧Look X.env s.heap m x u
 cell:∀ x c,X.env.cells.lookup x=some c→∃ v,s.heap.IsCell c v
 free:H X.env.locals=none
 freeC:∀ x c,X.env.cells.lookup x=some c→H c=none
 pin:∀ p∈X.pn++aa,s.heap.get? p.1=some p.2∧H p.1=none∧p.1≠X.env.locals∧p.1∉X.fs∧∀ v,p.2.data≠.cell v
 hok:jw X.prog X.w H s.heap
 len:σ.length=X.N.length
section
variable {X:Cx}
theorem Cx.Ok.Mr (ok:X.Ok) (e:X.base.get? b=some o):b∉X.fs:=fun hb=>by
 have:=(ok.jx.mem hb).1
 rw [e] at this; cases this
theorem Inv.bs (I:Inv X aa σ H s):∀ b o,X.base.get? b=some o→s.heap.get? b=some o∧H b=none:=fun b o e =>
 ⟨I.base.keep b o (I.ok.bs b o e).1 (I.ok.bs b o e).2 (I.ok.Mr e) (I.ok.noex b o e),I.base.free b o (I.ok.bs b o e).1 (I.ok.bs b o e).2 (I.ok.noex b o e)⟩
theorem Inv.bk (I:Inv X aa σ H s):∀ b o,X.base.get? b=some o→s.heap.get? b=some o:=fun b o e=>(I.bs b o e).1
theorem Inv.mod (I:Inv X aa σ H s):Mod X.K X.mg X.base:=I.ok.mod
theorem Inv.oB (I:Inv X aa σ H s):X.K.In s.heap:=I.ok.mod.kin.keeps I.bk
theorem Inv.lt (I:Inv X aa σ H s):X.env.locals<s.heap.objs.size:=let ⟨_,hn,_⟩:=I.loc; hn.lt
theorem Inv.sz (I:Inv X aa σ H s):X.s₀.heap.objs.size≤s.heap.objs.size:=Od I.ok.above (Qq I.lt)
theorem Inv.J7 (I:Inv X aa σ H s) (h:s.heap.objs.size≤a):a∉X.fs:=fun hb=>by
 obtain ⟨_,o,ho,_⟩:=I.ok.jx.mem hb
 exact absurd (O0 (N8 ho) (Od I.sz h)) (PK _)
theorem Inv.GR (I:Inv X aa σ H s):∀ x c,X.env.cells.lookup x=some c→c≠X.env.locals:=fun x c e z=>by
 obtain ⟨v,o,ho,hd⟩:=I.cell x c e
 obtain ⟨m,⟨o',es,ep,ho',hd',_⟩,_⟩:=I.loc
 rw [z,ho'] at ho; cases ho; rw [hd'] at hd; cases hd
theorem Inv.jx (I:Inv X aa σ H s):s.heap.FunFrames X.base X.outer:=by
 have all:∀ (l:List Env),(∀ b∈frs l,b∈X.fs)→X.s₀.heap.FunFrames X.base l→s.heap.FunFrames X.base l:=by
  intro l
  induction l with
  | nil=>intro _ _; trivial
  | cons env r ih =>
   intro hs hl
   obtain ⟨hk,⟨L,o,hf,hn,ho,hd⟩,hr⟩:=hl
   have hL:L∈X.fs:=hs L (by unfold frs; rw [Pp,hf]; exact N9)
   obtain ⟨sl,e⟩:=I.base.slot L o ho (I.ok.frf L hL) hL fun z=>I.ok.exfs L z hL
   exact ⟨hk,⟨L,_,hf,hn,e,hd⟩,ih (fun b hb=>hs b (by unfold frs; rw [Pp,hf]; exact Ob _ hb)) hr⟩
 exact all X.outer (fun _ hb=>hb) I.ok.jx
theorem Inv.stack (I:Inv X aa σ H s):s.heap.FunFrames X.base X.stack:=by
 rcases I.ok.stk with e | ⟨e,hf⟩
 ·rw [e]; exact I.jx
 ·rw [e]
  obtain ⟨m,hn,_⟩:=I.loc
  refine .cons (by rw [I.ok.kind]; decide) hf hn ?_ I.jx
  exact Heap.get?_none_of_le (Od I.ok.bsz I.ok.above)
theorem Inv.tE (I:Inv X aa σ H s):∀ b∈frs X.stack,b∈X.env.locals::X.fs:=fun b hb=>by
 rcases I.ok.stk with e | ⟨e,hf⟩
 ·rw [e] at hb; exact Ob _ hb
 ·rw [e] at hb
  unfold frs at hb
  rw [Pp,hf] at hb
  exact hb
theorem Inv.vh (I:Inv X aa σ H s):∀ b∈frs X.stack,H b=none:=fun b hb=>by
 rcases Og.mp (I.tE b hb) with e | hb
 ·rw [e]; exact I.free
 ·obtain ⟨_,o,ho,_⟩:=I.ok.jx.mem hb
  exact I.base.free b o ho (I.ok.frf b hb) fun z=>I.ok.exfs b z hb
theorem Inv.step {ch:List Addr} (I:Inv X aa σ H s)
 (hch:∀ b∈ch,(b∈X.ex∨X.s₀.heap.objs.size≤b)∧b≠X.env.locals∧(∀ x c,X.env.cells.lookup x=some c→c≠b)∧∀ p∈X.pn++aa,p.1≠b)
 (keep:∀ b o,b≠X.env.locals→b∉X.fs→b∉ch→s.heap.get? b=some o→H b=none→h'.get? b=some o)
 (slot:∀ b o,b≠X.env.locals→b∈X.fs→b∉ch→s.heap.get? b=some o→H b=none→∃ sl,h'.get? b=some { o with slots:=sl }) (free:∀ b o,b∉ch→s.heap.get? b=some o→H b=none→H' b=none)
 (there:∀ b o,b∉ch→s.heap.get? b=some o→∃ o',h'.get? b=some o')
 (tups:∀ b xs,H b=some (.tup xs)→H' b=some (.tup xs)) (frzs:∀ b o u,H b=some (.frz o u)→H' b=some (.frz o u)) (tbls:∀ b ps,H b=some (.tbl ps)→∃ more,H' b=some (.tbl (ps++more)))
 (ns:∀ m,s.heap.Ns X.env.locals m→h'.Ns X.env.locals m) (hok:jw X.prog X.w H' h') (hg:AllBare g') :
 Inv X aa σ H' { s with heap:=h',gens:=g',drawn:=d',toks:=t' }:=by
 have neL:∀ b o,X.s₀.heap.get? b=some o→b≠X.env.locals:=fun b o e=>OB (O0 (N8 e) I.ok.above)
 have neC:∀ b o,X.s₀.heap.get? b=some o→b∉X.ex→b∉ch:=fun b o e hx hb=>by
  rcases (hch b hb).1 with z | z
  ·exact hx z
  ·exact absurd (O0 (N8 e) z) (PK _)
 have cellK:∀ x c,X.env.cells.lookup x=some c→∀ v,s.heap.IsCell c v→h'.IsCell c v:=fun x c e v ⟨o,ho,hd⟩=>by
  have nch:c∉ch:=fun z=>(hch c z).2.2.1 x c e rfl
  by_cases hc:c∈X.fs
  ·obtain ⟨sl,q⟩:=slot c o (I.GR x c e) hc nch ho (I.freeC x c e)
   exact ⟨_,q,hd⟩
  ·exact ⟨o,keep c o (I.GR x c e) hc nch ho (I.freeC x c e),hd⟩
 refine ⟨I.ok,I.os,hg,⟨fun b o e n hb hx=>?_,fun b o e n hb hx=>?_,fun b o e n hx=>?_,fun b o e hx=>?_,fun b xs e=>tups b xs (I.base.tups b xs e),fun b o xs e=>frzs b o xs (I.base.frzs b o xs e),fun b ps e=>?_⟩,?_,fun x c e=>?_,?_,fun x c e=>?_,fun p hp=>?_,hok,I.len⟩
 ·exact keep b o (neL b o e) hb (neC b o e hx) (I.base.keep b o e n hb hx) (I.base.free b o e n hx)
 ·obtain ⟨sl,e1⟩:=I.base.slot b o e n hb hx
  obtain ⟨sl',e2⟩:=slot b _ (neL b o e) hb (neC b o e hx) e1 (I.base.free b o e n hx)
  exact ⟨sl',e2⟩
 ·obtain ⟨o',e1⟩:=I.base.there b o e hx
  exact free b o' (neC b o e hx) e1 (I.base.free b o e n hx)
 ·obtain ⟨o',e1⟩:=I.base.there b o e hx
  exact there b o' (neC b o e hx) e1
 ·obtain ⟨m1,e1⟩:=I.base.tbls b ps e
  obtain ⟨m2,e2⟩:=tbls b _ e1
  exact ⟨m1++m2,by rw [e2,Array.append_assoc]⟩
 ·obtain ⟨m,hn,hl⟩:=I.loc
  refine ⟨m,ns m hn,fun i x v e1 e2 e3=>?_⟩
  obtain ⟨u,r,l⟩:=hl i x v e1 e2 e3
  refine ⟨u,r,?_⟩
  rcases l with l | ⟨k,c,e,z⟩
  ·exact .inl l
  ·exact .inr ⟨k,c,e,cellK x c e _ z⟩
 ·obtain ⟨v,z⟩:=I.cell x c e
  exact ⟨v,cellK x c e v z⟩
 ·obtain ⟨m,⟨o,_,_,ho,_⟩,_⟩:=I.loc
  exact free _ o (fun z=>(hch _ z).2.1 rfl) ho I.free
 ·obtain ⟨v,o,ho,hd⟩:=I.cell x c e
  exact free c o (fun z=>(hch c z).2.2.1 x c e rfl) ho (I.freeC x c e)
 ·obtain ⟨e,n,ne,nf,d⟩:=I.pin p hp
  have nch:p.1∉ch:=fun z=>(hch p.1 z).2.2.2 p hp rfl
  exact ⟨keep p.1 p.2 ne nf nch e n,free p.1 p.2 nch e n,ne,nf,d⟩
theorem Inv.un (I:Inv X aa σ H s) (u:Un X.fs [] H H' s.heap h') (hok:jw X.prog X.w H' h'):Inv X aa σ H' { s with heap:=h',toks:=t' }:=by
 obtain ⟨m,⟨o,es,ep,ho,r⟩,_⟩:=id I.loc
 obtain ⟨sl,hL⟩:=u.any ho I.free (by simp)
 exact I.step (g':=s.gens) (d':=s.drawn) (ch:=[]) (fun _ z=>nomatch z) (fun b o _ hb _ e n=>u.keep b o e n hb (by simp)) (fun b o _ hb _ e n=>u.slot b o e n hb (by simp)) (fun b o _ e n=>u.free b o e n (by simp)) (fun b o _ e=>u.there b o e (by simp)) u.tups u.frzs u.tbls (fun m' hm=>by
  obtain ⟨o',es',ep',ho',r'⟩:=hm
  rw [ho] at ho'; cases ho'
  exact ⟨_,es',ep',hL,r'⟩) hok I.bare
theorem Inv.call (I:Inv X aa σ H s) (u:Un (frs X.stack) ch H H' s.heap h') (hok:jw X.prog X.w H' h') (hg:AllBare g')
 (hch:∀ b∈ch,(b∈X.ex∨X.s₀.heap.objs.size≤b)∧b≠X.env.locals∧(∀ x c,X.env.cells.lookup x=some c→c≠b)∧∀ p∈X.pn++aa,p.1≠b) :
 Inv X aa σ H' { s with heap:=h',gens:=g',drawn:=d',toks:=t' }:=by
 obtain ⟨m,⟨o,es,ep,ho,r⟩,_⟩:=id I.loc
 obtain ⟨sl,hL⟩:=u.any ho I.free fun z=>(hch _ z).2.1 rfl
 exact I.step (ch:=ch) hch (fun b o hL hb hc e n=>u.keep b o e n (fun z=>(Og.mp (I.tE b z)).elim hL hb) hc) (fun b o _ _ hc e n=>u.any e n hc) (fun b o hc e n=>u.free b o e n hc) (fun b o hc e=>u.there b o e hc) u.tups u.frzs u.tbls (fun m' hm=>by
  obtain ⟨o',es',ep',ho',r'⟩:=hm
  rw [ho] at ho'; cases ho'
  exact ⟨_,es',ep',hL,r'⟩) hok hg
theorem Inv.turned (I:Inv X aa σ H s) (k:∀ b o,b≠it→s.heap.get? b=some o→h'.get? b=some o) (hn:H it=none) (hL:it≠X.env.locals)
 (h1:it∈X.ex∨X.s₀.heap.objs.size≤it) (h2:∀ x c,X.env.cells.lookup x=some c→c≠it) (h3:∀ p∈X.pn++aa,p.1≠it):Inv X aa σ H { s with heap:=h',toks:=t' }:=by
 have nit:∀ b u,H b=some u→b≠it:=fun b u e z=>by rw [z,hn] at e; cases e
 refine I.step (g':=s.gens) (d':=s.drawn) (ch:=[it]) (fun b hb=>?_) (fun b o _ _ hc e _=>k b o (fun z=>hc (by simp [z])) e) (fun b o _ _ hc e _=>⟨o.slots,k b o (fun z=>hc (by simp [z])) e⟩) (fun _ _ _ _ n=>n)
  (fun b o hc e=>⟨o,k b o (fun z=>hc (by simp [z])) e⟩) (fun _ _ e=>e) (fun _ _ _ e=>e) (fun b ps e=>⟨#[],by rw [e]; simp⟩) (fun m hm=>?_) (fun b u e=>?_) I.bare
 ·have e:b=it:=by simpa using hb
  subst e
  exact ⟨h1,hL,h2,h3⟩
 ·obtain ⟨o,es,ep,ho,r⟩:=hm
  exact ⟨o,es,ep,k _ o (Ou hL) ho,r⟩
 ·refine (I.hok b u e).stay (fun c v hc q=>k c v ?_ q) (fun _ q=>q) fun _ _ q=>q
  rcases hc with z | z
  ·rw [z]; exact nit b u e
  ·exact nit c _ z
theorem Inv.tok (I:Inv X aa σ H s) (t):Inv X aa σ H { s with toks:=t }:=I.un (h':=s.heap) (t':=t) Un.refl I.hok
theorem Inv.kept (I:Inv X aa σ H s) (k:∀ b u,s.heap.get? b=some u→h'.get? b=some u):Inv X aa σ H { s with heap:=h',toks:=t' }:=I.un (Un.kept k) (I.hok.kept k)
theorem Inv.laid (I:Inv X aa σ H s) (k:∀ b u,s.heap.get? b=some u→h'.get? b=some u) (hp:s.heap.objs.size≤a) (new:bh X.prog X.w (upd H a o) h' a o) :
 Inv X aa σ (upd H a o) { s with heap:=h',toks:=t' }:=I.un (Un.laid k hp (I.hok.fresh hp)) (I.hok.laid k hp new)
theorem Inv.write (I:Inv X aa σ H s) (mu:J6 (H x)) (he:e=x∨H e=some (.own x)) (k:∀ b u,b≠e→s.heap.get? b=some u→h'.get? b=some u) (heo:∃ u,h'.get? e=some u)
 (new:bh X.prog X.w (upd H x o) h' x o):Inv X aa σ (upd H x o) { s with heap:=h',toks:=t' }:=I.un (Un.write mu he k heo) (I.hok.write mu he k heo new)
theorem Inv.vm (I:Inv X aa σ H s) (h:∀ p∈pins',s.heap.get? p.1=some p.2∧H p.1=none∧p.1≠X.env.locals∧p.1∉X.fs∧∀ v,p.2.data≠.cell v):Inv X pins' σ H s :=
 ⟨I.ok,I.os,I.bare,I.base,I.loc,I.cell,I.free,I.freeC,fun p hp=>(OA.mp hp).elim (fun z=>I.pin p (PB _ z)) (h p),I.hok,I.len⟩
theorem qo {N:List Str} (hN:N.Nodup) {i j:Nat} (a:N[i]?=some x) (b:N[j]?=some x):i=j:=by
 obtain ⟨h1,e1⟩:=Oa.mp a
 obtain ⟨h2,e2⟩:=Oa.mp b
 exact (List.getElem_inj hN).mp (e1.trans e2.symm)
theorem xF (I:Inv X aa σ H s) (hN:X.N.Nodup) (hi:X.N[i]?=some x) (hx:Loc X.env.scope x) (r:RelV v u)
 (h:∀ s',Inv X aa (σ.set i (some v)) H s'→(∃ a,Pj a s.heap s'.heap∧(a=X.env.locals∨X.env.cells.lookup x=some a))→Q () s') (hf:X.fn x=true∨X.env.scope.names.lookup x=some .local:=by first | exact .inl rfl | exact .inr rfl | assumption):wpAny M A (storeName X.env x u) Q E s:=by
 obtain ⟨m,hn,hl⟩:=id I.loc
 have hcls:(X.env.scope.kind == .class || (X.env.scope.kind == .module && X.env.locals != X.env.globals))=false:=by rw [I.ok.kind]; rfl
 have hiσ:i<σ.length:=by rw [I.len]; exact (Oa.mp hi).1
 have GR:=I.GR
 have tracked:∀ {a:Addr} {h':Heap},(∃ o,s.heap.get? a=some o∧H a=none)→Pj a s.heap h'→jw X.prog X.w H h':=fun {a h'} ha hs b ob e=>by
  obtain ⟨_,_,hfree⟩:=ha
  refine (I.hok b ob e).stay (fun c w' hc q=>(hs.2 c ?_).trans q) (fun _ q=>q) fun _ _ q=>q
  rintro rfl
  rcases hc with rfl | hc
  ·rw [hfree] at e; cases e
  ·rw [hfree] at hc; cases hc
 rcases hx with hk | hk
 ·refine wpAny_storeName_local hk hn (fun h' hn' hs=>?_) hcls
  obtain ⟨oL,_,_,hoL,_⟩:=id hn
  refine h _ ⟨I.ok,I.os,I.bare,⟨fun b o e n hb hx=>?_,fun b o e n hb hx=>?_,I.base.free,fun b o e hx=>?_,I.base.tups,I.base.frzs,I.base.tbls⟩,⟨_,hn',fun j y v' e1 e2 e3=>?_⟩,fun y c e=>?_,I.free,I.freeC,fun p hp=>?_,tracked ⟨oL,hoL,I.free⟩ hs,by simpa using I.len⟩ ⟨_,hs,.inl rfl⟩
  ·exact (hs.2 b (OB (O0 (N8 e) I.ok.above))).trans (I.base.keep b o e n hb hx)
  ·obtain ⟨sl,e1⟩:=I.base.slot b o e n hb hx
   exact ⟨sl,(hs.2 b (OB (O0 (N8 e) I.ok.above))).trans e1⟩
  ·obtain ⟨o',e1⟩:=I.base.there b o e hx
   exact ⟨o',(hs.2 b (OB (O0 (N8 e) I.ok.above))).trans e1⟩
  ·by_cases hj:j=i
   ·subst hj
    rw [hi] at e1; cases e1
    rw [Pa hiσ] at e2
    cases e2
    exact ⟨u,r,.inl ⟨hk,by simp⟩⟩
   ·rw [Pb (Ou hj)] at e2
    obtain ⟨u',r',q⟩:=hl j y v' e1 e2 e3
    refine ⟨u',r',?_⟩
    rcases q with ⟨k,e⟩ | ⟨k,c,e,z⟩
    ·refine .inl ⟨k,?_⟩
     have:y≠x:=fun e=>hj (qo hN e1 (e ▸ hi))
     simp [this,e]
    ·exact .inr ⟨k,c,e,z.sameBut hs (GR y c e)⟩
  ·obtain ⟨w',z⟩:=I.cell y c e
   exact ⟨w',z.sameBut hs (GR y c e)⟩
  ·obtain ⟨e,n,ne,nf,d⟩:=I.pin p hp
   exact ⟨(hs.2 p.1 ne).trans e,n,ne,nf,d⟩
 ·have hfn:X.fn x=true:=by
   rcases hf with z | z
   ·exact z
   ·rw [z] at hk; cases hk
  obtain ⟨c,hc⟩:=I.ok.has x (.inl hk)
  obtain ⟨w',z⟩:=I.cell x c hc
  refine wpAny_storeName_cell I.ok.kind hk hc z (fun h' hc' hs=>?_)
  obtain ⟨oc,hoc,hocd⟩:=id z
  refine h { s with heap:=h' } ⟨I.ok,I.os,I.bare,⟨fun b o e n hb hx=>?_,fun b o e n hb hx=>?_,I.base.free,fun b o e hx=>?_,I.base.tups,I.base.frzs,I.base.tbls⟩,⟨m,hn.sameBut hs (Ou (GR x c hc)),fun j y v' e1 e2 e3=>?_⟩,fun y c' e=>?_,I.free,I.freeC,fun p hp=>?_,tracked ⟨oc,hoc,I.freeC x c hc⟩ hs,by simpa using I.len⟩ ⟨c,hs,.inr hc⟩
  ·exact (hs.2 b (OB (O0 (N8 e) (I.ok.cab x c hfn hc)))).trans (I.base.keep b o e n hb hx)
  ·obtain ⟨sl,e1⟩:=I.base.slot b o e n hb hx
   exact ⟨sl,(hs.2 b (OB (O0 (N8 e) (I.ok.cab x c hfn hc)))).trans e1⟩
  ·obtain ⟨o',e1⟩:=I.base.there b o e hx
   exact ⟨o',(hs.2 b (OB (O0 (N8 e) (I.ok.cab x c hfn hc)))).trans e1⟩
  ·by_cases hj:j=i
   ·subst hj
    rw [hi] at e1; cases e1
    rw [Pa hiσ] at e2
    cases e2
    exact ⟨u,r,.inr ⟨.inl hk,c,hc,hc'⟩⟩
   ·rw [Pb (Ou hj)] at e2
    obtain ⟨u',r',q⟩:=hl j y v' e1 e2 e3
    refine ⟨u',r',?_⟩
    rcases q with q | ⟨k,c',e,z'⟩
    ·exact .inl q
    ·refine .inr ⟨k,c',e,z'.sameBut hs ?_⟩
     rintro rfl
     exact hj (qo hN e1 (I.ok.inj _ _ _ e hc ▸ hi))
  ·by_cases hcc:c'=c
   ·subst hcc; exact ⟨_,hc'⟩
   ·obtain ⟨w2,z2⟩:=I.cell y c' e
    exact ⟨w2,z2.sameBut hs hcc⟩
  ·obtain ⟨e,n,ne,nf,d⟩:=I.pin p hp
   refine ⟨(hs.2 p.1 ?_).trans e,n,ne,nf,d⟩
   intro q
   rw [q,hoc] at e
   have q':oc=p.2:=PF e
   exact d w' (by rw [← q']; exact hocd)
theorem kQ (I:Inv X aa σ H s) (hN:X.N.Nodup) (hi:X.N[i]?=some x) (hx:Loc X.env.scope x) (r:RelV v u)
 (h:∀ s',Inv X aa (σ.set i (some v)) H s'→Q () s') (hf:X.fn x=true∨X.env.scope.names.lookup x=some .local:=by first | exact .inl rfl | exact .inr rfl | assumption):wpAny M A (storeName X.env x u) Q E s :=
 xF I hN hi hx r (fun s' I' _=>h s' I') hf
theorem Inv.FY (I:Inv X aa σ H s) (ho:s'.os=s.os) (u:Un (frs X.stack) ch H H' s.heap s'.heap) (hok:jw X.prog X.w H' s'.heap) (hg:AllBare s'.gens)
 (hch:∀ b∈ch,(b∈X.ex∨X.s₀.heap.objs.size≤b)∧b≠X.env.locals∧(∀ x c,X.env.cells.lookup x=some c→c≠b)∧∀ p∈X.pn++aa,p.1≠b):Inv X aa σ H' s':=by
 obtain ⟨h',g',d',t',o'⟩:=s'
 have e:o'=s.os:=ho
 subst e
 exact I.call (g':=g') (t':=t') (d':=d') u hok hg hch
end
noncomputable abbrev XK:=Value→Option Addr→Hp→Prop
noncomputable abbrev St:=List (Option V)
noncomputable abbrev VK:=V→Hp→Prop
noncomputable abbrev TE:=St→Hp→VK→Prop
noncomputable abbrev TT:=St→Hp→(Bool→Hp→Prop)→Prop
noncomputable abbrev TA:=St→Hp→(List V→Hp→Prop)→Prop
structure Ends where
 nx:St→Hp→Prop
 rt:VK
 bk:St→Hp→Prop:=fun _ _=>False
 ct:St→Hp→Prop:=fun _ _=>False
noncomputable abbrev TS:=Ends→St→Hp→Prop
noncomputable def EP (X:Cx) (aa:List (Addr×Obj)) (σ:St) (Q:VK) (u:Value) (s':Shared):Prop:=∃ v H',Inv X aa σ H' s'∧RelV v u∧Q v H'
noncomputable def TP (X:Cx) (aa:List (Addr×Obj)) (σ:St) (Q:Bool→Hp→Prop) (b:Bool) (s':Shared):Prop:=∃ H',Inv X aa σ H' s'∧Q b H'
noncomputable def AP (X:Cx) (aa:List (Addr×Obj)) (σ:St) (Q:List V→Hp→Prop) (us:List Value) (s':Shared):Prop:=∃ vs H',Inv X aa σ H' s'∧Vals vs us∧Q vs H'
noncomputable def SP (X:Cx) (aa:List (Addr×Obj)) (D:Ends) (f:Flow) (s':Shared):Prop :=
 match f with
 | .next=>∃ σ' H',Inv X aa σ' H' s'∧D.nx σ' H'
 | .brk=>∃ σ' H',Inv X aa σ' H' s'∧D.bk σ' H'
 | .cont=>∃ σ' H',Inv X aa σ' H' s'∧D.ct σ' H'
 | .ret u=>∃ v σ' H',Inv X aa σ' H' s'∧RelV v u∧D.rt v H'
noncomputable def PE (X:Cx) (e:Expr) (t:TE):Prop :=
 ∀ (aa:List (Addr×Obj)) (s:Shared) (σ:St) (H:Hp) (Q:VK),Inv X aa σ H s→t σ H Q→wpAny (model X.prog X.w) X.A (eval e X.env) (EP X aa σ Q) X.xe s
noncomputable def PT (X:Cx) (e:Expr) (t:TT):Prop :=
 ∀ (aa:List (Addr×Obj)) (s:Shared) (σ:St) (H:Hp) (Q:Bool→Hp→Prop),Inv X aa σ H s→t σ H Q→wpAny (model X.prog X.w) X.A (isTrue e X.env (eval e X.env)) (TP X aa σ Q) X.xe s
noncomputable def PW (X:Cx) (e:Expr) (t:TT):Prop :=
 ∀ (whole:Sem Value) (aa:List (Addr×Obj)) (s:Shared) (σ:St) (H:Hp) (Q:Bool→Hp→Prop),Inv X aa σ H s→t σ H Q→wpAny (model X.prog X.w) X.A (isTrue e X.env whole) (TP X aa σ Q) X.xe s
noncomputable def PA (X:Cx) (es:List Expr) (t:TA):Prop :=
 ∀ (pos:Pos) (aa:List (Addr×Obj)) (s:Shared) (σ:St) (H:Hp) (Q:List V→Hp→Prop),Inv X aa σ H s→t σ H Q→wpAny (model X.prog X.w) X.A (spliced (backTo pos (starEach es X.env))) (AP X aa σ Q) X.xe s
noncomputable def PS (X:Cx) (st:Stmt) (t:TS):Prop :=
 ∀ (aa:List (Addr×Obj)) (s:Shared) (σ:St) (H:Hp) (D:Ends),Inv X aa σ H s→t D σ H→wpAny (model X.prog X.w) X.A (exec st X.env) (SP X aa D) X.xe s
noncomputable def tu (X:Cx) (st:List Stmt) (t:TS):Prop :=
 ∀ (aa:List (Addr×Obj)) (s:Shared) (σ:St) (H:Hp) (D:Ends),Inv X aa σ H s→t D σ H→wpAny (model X.prog X.w) X.A (execs st X.env) (SP X aa D) X.xe s
theorem bC (h:wpAny M A t Q E s) (hQ:∀ a s,Q a s→Q' a s):wpAny M A t Q' E s:=OP h hQ fun _ _ x=>x
section
noncomputable def J8 (i:Nat):TE:=fun σ H Q=>∃ v,σ[i]?=some (some v)∧Q v H
noncomputable def tC (v:V):TE:=fun _ H Q=>Q v H
theorem tF (hN:X.N[i]?=some x) (hv:Mq X.env.scope x) (hd:(x == ("__debug__":Str))=false:=by decide) (hcd:(x == ("__classdict__":Str))=false:=by decide):PE X (.Name x pos) (J8 i):=by
 intro aa s σ H Q I h
 obtain ⟨v,e,h⟩:=h
 obtain ⟨m,hn,hl⟩:=I.loc
 obtain ⟨u,r,l⟩:=hl i x v hN e hv
 have fin:EP X aa σ Q u s:=⟨v,H,I,r,h⟩
 rcases l with ⟨hk,hm⟩ | ⟨hk,c,hc,hcell⟩
 ·exact wpAny_Name (wpAny_loadName_local I.ok.kind hk hn hm fin) hd
 ·rcases hk with hk | hk
  ·exact wpAny_Name (wpAny_loadName_cell I.ok.kind hk hc hcell fin) hd
  ·exact wpAny_Name (wpAny_loadName_free I.ok.kind hk hc hcell fin hcd) hd
theorem zA {i j pos}:PE X (.Constant (.int i) j pos) (tC (.int i)):=fun _ _ _ H _ I h=>wpAny_Constant_int ⟨.int i,H,I.tok _,⟨_,rfl⟩,h⟩
theorem FZ {b j pos}:PE X (.Constant (.bool b) j pos) (tC (.bl b)):=fun _ _ _ H _ I h=>Constant_bool ⟨.bl b,H,I,rfl,h⟩
noncomputable def Gl (X:Cx) (x:Str):Prop:=X.env.kindOf x=some .globalImplicit
theorem iT (I:Inv X aa σ H s) (hg:Gl X x) (hm:X.mg x=some u) (h:Q u s)
 (hd:(x == ("__debug__":Str))=false:=by decide):wpAny (model X.prog X.w) X.A (eval (.Name x pos) X.env) Q E s :=
 Calls.Name_function_global I.ok.kind hg (Calls.loadGlobal_global (by rw [I.ok.glob]; exact I.mod.glob.keeps I.bk) hm h) hd
theorem dG (I:Inv X aa σ H s) (hg:Gl X x) (hm:X.mg x=none) (hv:bootBuiltins x=some u) (h:Q u s)
 (hn:x≠"__name__":=by decide) (hd:(x == ("__debug__":Str))=false:=by decide):wpAny (model X.prog X.w) X.A (eval (.Name x pos) X.env) Q E s:=by
 obtain ⟨mb,h1,h2⟩:=I.mod.blt
 exact Calls.Name_function_global I.ok.kind hg (Calls.loadGlobal_builtin (by rw [I.ok.glob]; exact I.mod.glob.keeps I.bk) hm (by rw [I.ok.blt]; exact h1.keeps I.bk) ((h2 x hn).trans hv) h) hd
theorem vn (hg:Gl X x) (hm:X.mg x=some u) (r:RelV v u) (hd:(x == ("__debug__":Str))=false:=by decide):PE X (.Name x pos) (tC v) :=
 fun _ _ _ H _ I h=>iT I hg hm ⟨v,H,I,r,h⟩ hd
noncomputable def PC (X:Cx) (op:CmpOp) (a b:Expr) (t:TE):Prop :=
 ∀ (aa:List (Addr×Obj)) (s:Shared) (σ:St) (H:Hp) (Q:VK),Inv X aa σ H s→t σ H Q →
  wpAny (model X.prog X.w) X.A (eval a X.env) (fun v s₁=>wpAny (model X.prog X.w) X.A (eval b X.env) (fun u s₂=>wpAny (model X.prog X.w) X.A (compareOp op v u) (EP X aa σ Q) X.xe s₂) X.xe s₁) X.xe s
noncomputable def tB (t:TE):TT:=fun σ H Q=>t σ H fun x H1=>∃ c,x=.bl c∧Q c H1
theorem GS (h:PC X op a b t) (h1:behindInMarks op b=false:=by first | exact nobehind _ (by decide) (by decide) | rfl):PT X (.Compare a [op] [b] pos) (tB t):=by
 intro aa s σ H Q I hw
 refine wpAny_isTrue_Compare1 (bC (h aa s σ H _ I hw) fun v s1 h1=>bC h1 fun u s2 h2=>bC h2 fun c s3 ⟨x,H1,I1,r1,q1⟩=>?_) h1
 obtain ⟨d,rfl,q⟩:=q1
 cases r1
 exact Rq ⟨H1,I1,q⟩
theorem GU (h:PE X e t) (he:∀ whole,isTrue e X.env whole=(do let v ← whole; standAt e.pos; holding [v] (truthy v)):=by intro _; rfl):PT X e (tB t):=by
 intro aa s σ H Q I hw
 refine isTrue_plain (bC (h aa s σ H _ I hw) fun v s1 ⟨x,H1,I1,r1,q1⟩=>?_) (he _)
 obtain ⟨d,rfl,q⟩:=q1
 cases r1
 exact Rq ⟨H1,I1,q⟩
variable {rest:List Expr}
noncomputable def Mt (t u:TT):TT:=fun σ H Q=>t σ H fun c H1=>if c=true then u σ H1 Q else Q false H1
noncomputable def NI (t u:TT):TT:=fun σ H Q=>t σ H fun c H1=>if c=true then Q true H1 else u σ H1 Q
noncomputable def Mu (t:TT):TT:=fun σ H Q=>t σ H fun c H1=>Q (!c) H1
theorem pw_and1 (ha:PT X a tA):PW X (.BoolOp .And [a] pos) tA:=by
 intro wh aa s σ H Q I h
 refine isTrue_and (bC (ha aa s σ H Q I h) fun c s1 e=>?_)
 cases c with
 | true=>exact isTrue_and_nil e
 | false=>exact e
theorem pw_or1 (ha:PT X a tA):PW X (.BoolOp .Or [a] pos) tA:=by
 intro wh aa s σ H Q I h
 refine isTrue_or (bC (ha aa s σ H Q I h) fun c s1 e=>?_)
 cases c with
 | false=>exact isTrue_or_nil e
 | true=>exact e
theorem pw_and (ha:PT X a tA) (hb:PW X (.BoolOp .And (b::rest) pos) tB'):PW X (.BoolOp .And (a::b::rest) pos) (Mt tA tB'):=by
 intro wh aa s σ H Q I h
 refine isTrue_and (bC (ha aa s σ H _ I h) fun c s1 ⟨H1,I1,q1⟩=>?_)
 cases c with
 | true=>exact hb wh aa s1 σ H1 Q I1 q1
 | false=>exact ⟨H1,I1,q1⟩
theorem pw_or (ha:PT X a tA) (hb:PW X (.BoolOp .Or (b::rest) pos) tB'):PW X (.BoolOp .Or (a::b::rest) pos) (NI tA tB'):=by
 intro wh aa s σ H Q I h
 refine isTrue_or (bC (ha aa s σ H _ I h) fun c s1 ⟨H1,I1,q1⟩=>?_)
 cases c with
 | true=>exact ⟨H1,I1,q1⟩
 | false=>exact hb wh aa s1 σ H1 Q I1 q1
theorem GV (ha:PT X a tA):PT X (.UnaryOp .Not a pos) (Mu tA):=by
 intro aa s σ H Q I h
 exact isTrue_not (ha aa s σ H (fun c H1=>Q (!c) H1) I h)
noncomputable def J9 (ta tb:TE):TE:=fun σ H Q=>ta σ H fun x H1=>∃ c,x=.bl c∧if c=true then tb σ H1 Q else Q (.bl false) H1
theorem GW {op} (h:PE X a t):PE X (.BoolOp op [a] pos) t:=fun aa s σ H Q I hw=>BoolOp_one (h aa s σ H Q I hw)
theorem GX (ha:PE X a ta) (hb:PE X (.BoolOp .And (b::rest) pos) tb):PE X (.BoolOp .And (a::b::rest) pos) (J9 ta tb):=by
 intro aa s σ H Q I h
 refine BoolOp_and (bC (ha aa s σ H _ I h) fun v s1 ⟨x,H1,I1,r1,q1⟩=>?_)
 obtain ⟨c,rfl,q1⟩:=q1
 cases r1
 refine Rq ?_
 cases c with
 | true=>exact hb aa s1 σ H1 Q I1 q1
 | false=>exact ⟨.bl false,H1,I1,rfl,q1⟩
noncomputable def NJ (t:TT) (ta tb:TE):TE:=fun σ H Q=>t σ H fun c H1=>if c=true then ta σ H1 Q else tb σ H1 Q
theorem zB (hc:PT X c tA) (ha:PE X a ta) (hb:PE X b tb):PE X (.IfExp c a b pos) (NJ tA ta tb):=by
 intro aa s σ H Q I h
 refine wpAny_IfExp (bC (hc aa s σ H _ I h) fun d s1 ⟨H1,I1,q1⟩=>?_)
 cases d with
 | true=>exact ha aa s1 σ H1 Q I1 q1
 | false=>exact hb aa s1 σ H1 Q I1 q1
end
noncomputable def gh (K:NZ) (H:Hp) (a:Addr) (xs:List V):Prop :=
 Rd H a (.lst xs) ∨
  ∃ (o:Obj) (its:Array Value) (n:Nat),K.lookup a=some o∧o.cls=.type "list"∧o.dict=none∧o.data=.seq its n∧its.size≤sizeLine∧Vals xs its.toList
noncomputable def cV (K:NZ) (H:Hp) (a:Addr) (xs:List V):Prop :=
 Rd H a (.tup xs) ∨
  ∃ (o:Obj) (its:Array Value) (n:Nat),K.lookup a=some o∧o.cls=.type "tuple"∧o.data=.seq its n∧its.size≤sizeLine∧Vals xs its.toList
noncomputable def Mw:Value→Option V
 | .none=>some .non
 | .bool b=>some (.bl b)
 | .int i _=>some (.int i)
 | .str x _=>some (.str x)
 | .bytes b _=>some (.byt b)
 | .float b _=>some (.flt b)
 | .ref a=>some (.ref a)
 | .type n=>some (.ty n)
 | _=>none
theorem RelV.abs (r:RelV x u):Mw u=some x:=by
 cases x with
 | non=>cases r; rfl
 | bl _=>cases r; rfl
 | int _=>obtain ⟨t,rfl⟩:=r; rfl
 | str _=>obtain ⟨t,rfl⟩:=r; rfl
 | byt _=>obtain ⟨t,rfl⟩:=r; rfl
 | flt _=>obtain ⟨t,rfl⟩:=r; rfl
 | ref _=>cases r; rfl
 | ty _=>cases r; rfl
theorem RelV.inj (r:RelV x u) (q:RelV y u):x=y:=PF (r.abs.symm.trans q.abs)
theorem Vals.inj:∀ {xs ys:List V} {us:List Value},Vals xs us→Vals ys us→xs=ys
 | _,_,_,.nil,.nil=>rfl
 | _,_,_,.cons r t,.cons r' t'=>by rw [r.inj r',Vals.inj t t']
section
theorem Inv.list (I:Inv X aa σ H s) (h:gh X.K H a xs):∃ its:List Value,Vals xs its∧PlainL s.heap a its.toArray∧xs.length≤sizeLine:=by
 rcases h with h | ⟨o,its,n,hk,hc,hd,hs,hz,r⟩
 ·obtain ⟨z,its,n,r,e⟩:=h.ok I.hok
  exact ⟨its,r,⟨_,n,e,rfl,rfl,rfl⟩,z⟩
 ·refine ⟨its.toList,r,⟨o,n,I.oB a o hk,hc,hd,by simpa using hs⟩,?_⟩
  have e:=r.length
  simp only [OU] at e
  lia
theorem Inv.tuple (I:Inv X aa σ H s) (h:cV X.K H a xs):∃ its:List Value,Vals xs its∧IsTup s.heap a its.toArray∧xs.length≤sizeLine:=by
 rcases h with h | ⟨o,its,n,hk,hc,hs,hz,r⟩
 ·obtain ⟨z,its,r,p⟩:=h.ok I.hok
  exact ⟨its,r,p,z⟩
 ·refine ⟨its.toList,r,⟨o,I.oB a o hk,hc,n,by simpa using hs⟩,?_⟩
  have e:=r.length
  simp only [OU] at e
  lia
theorem Inv.qp (I:Inv X aa σ H s) (h:gh X.K H a xs) (h':gh X.K H a ys):xs=ys:=by
 obtain ⟨its,r,⟨o,n,e,_,_,d⟩,_⟩:=I.list h
 obtain ⟨its',r',⟨o',n',e',_,_,d'⟩,_⟩:=I.list h'
 rw [e] at e'; cases e'
 rw [d] at d'
 injection d' with d1 _
 have:its=its':=by simpa using congrArg Array.toList d1
 subst this
 exact r.inj r'
theorem Inv.jy (I:Inv X aa σ H s) (h:cV X.K H a xs) (h':cV X.K H a ys):xs=ys:=by
 obtain ⟨its,r,⟨o,e,_,n,d⟩,_⟩:=I.tuple h
 obtain ⟨its',r',⟨o',e',_,n',d'⟩,_⟩:=I.tuple h'
 rw [e] at e'; cases e'
 rw [d] at d'
 injection d' with d1 _
 have:its=its':=by simpa using congrArg Array.toList d1
 subst this
 exact r.inj r'
end
noncomputable abbrev Cx.mF (X:Cx) (E:Value→Shared→Prop):Cx:={ X with xe:=E }
noncomputable abbrev Cx.F0 (X:Cx):Cx:=X.mF fun _ _=>False
theorem Cx.Ok.mF {X:Cx} (ok:X.Ok) (E):(X.mF E).Ok :=
 ⟨ok.mod,ok.kind,ok.glob,ok.blt,ok.above,ok.inj,ok.has,ok.cab,ok.hd,ok.frames,ok.stk,ok.exf,ok.bs,ok.bsz,ok.noex,ok.exfs,ok.jx,ok.frf⟩
theorem Cx.Ok.gi {X:Cx} (ok:(X.mF E).Ok):X.Ok :=
 ⟨ok.mod,ok.kind,ok.glob,ok.blt,ok.above,ok.inj,ok.has,ok.cab,ok.hd,ok.frames,ok.stk,ok.exf,ok.bs,ok.bsz,ok.noex,ok.exfs,ok.jx,ok.frf⟩
section
theorem Inv.mF (I:Inv X aa σ H s) (E):Inv (X.mF E) aa σ H s:=⟨I.ok.mF E,I.os,I.bare,I.base,I.loc,I.cell,I.free,I.freeC,I.pin,I.hok,I.len⟩
theorem Inv.gi (I:Inv (X.mF E) aa σ H s):Inv X aa σ H s:=⟨I.ok.gi,I.os,I.bare,I.base,I.loc,I.cell,I.free,I.freeC,I.pin,I.hok,I.len⟩
theorem SP.gi (h:SP (X.mF E) aa D f s'):SP X aa D f s':=by
 cases f with
 | next=>obtain ⟨σ',H',I,q⟩:=h; exact ⟨σ',H',I.gi,q⟩
 | brk=>obtain ⟨σ',H',I,q⟩:=h; exact ⟨σ',H',I.gi,q⟩
 | cont=>obtain ⟨σ',H',I,q⟩:=h; exact ⟨σ',H',I.gi,q⟩
 | ret u=>obtain ⟨v,σ',H',I,r,q⟩:=h; exact ⟨v,σ',H',I.gi,r,q⟩
theorem tu.F0 {st:List Stmt} (h:tu X.F0 st t):tu X st t:=fun aa s σ H D I hw =>
 OP (h aa s σ H D (I.mF _) hw) (fun _ _ q=>q.gi) fun _ _ z=>O2 z
end
section
variable {st:Stmt} {rest:List Stmt}
noncomputable def Ka:TS:=fun D σ H=>D.nx σ H
noncomputable def Mx (t u:TS):TS:=fun D σ H=>t { D with nx:=u D } σ H
theorem DB:tu X [] Ka:=fun _ _ σ H _ I h=>wpAny_execs_nil ⟨σ,H,I,h⟩
theorem zC (h1:PS X st t) (h2:tu X rest u):tu X (st::rest) (Mx t u):=by
 intro aa s σ H D I h
 refine wpAny_execs_cons (bC (h1 aa s σ H { D with nx:=u D } I h) fun f s1 q=>?_)
 cases f with
 | next =>
  obtain ⟨σ',H',I',q⟩:=q
  exact h2 aa s1 σ' H' D I' q
 | ret v=>exact q
 | brk=>exact q
 | cont=>exact q
theorem Inv.quiet (I:Inv X aa σ H s):interactive X.env=false:=by simp [interactive,I.ok.kind]
noncomputable def Kc (te:TE):TS:=fun D σ H=>te σ H fun _ H1=>D.nx σ H1
theorem kE (he:PE X e te) (hs:swapsWith e none pos.line X.env=pure false:=by rfl):PS X (.Expr e pos) (Kc te):=by
 intro aa s σ H D I h
 exact wpAny_Expr_any (bC (he aa s σ H _ I h) fun v s1 ⟨x,H1,I1,r1,q1⟩=>⟨σ,H1,I1,q1⟩) I.quiet hs
noncomputable def Mz (te:TE):TS:=fun D σ H=>te σ H D.rt
theorem zD (he:PE X e te):PS X (.Return (some e) pos) (Mz te):=by
 intro aa s σ H D I h
 exact wpAny_Return_some (bC (he aa s σ H _ I h) fun v s1 ⟨x,H1,I1,r1,q1⟩=>⟨x,σ,H1,I1,r1,q1⟩)
noncomputable def MA (c:TT) (t u:TS):TS:=fun D σ H=>c σ H fun b H1=>if b=true then t D σ H1 else u D σ H1
theorem Kd (hc:PT X c tc) (ha:tu X a t) (hb:tu X b u):PS X (.If c a b pos) (MA tc t u):=by
 intro aa s σ H D I h
 refine wpAny_If (bC (hc aa s σ H _ I h) fun d s1 ⟨H1,I1,q1⟩=>?_)
 cases d with
 | true=>exact ha aa s1 σ H1 D I1 q1
 | false=>exact hb aa s1 σ H1 D I1 q1
end
noncomputable abbrev TG:=V→St→Hp→(St→Hp→Prop)→Prop
noncomputable abbrev GY:=List V→St→Hp→(St→Hp→Prop)→Prop
noncomputable def PG (X:Cx) (target:Expr) (t:TG):Prop :=
 ∀ (aa:List (Addr×Obj)) (s:Shared) (σ:St) (H:Hp) (v:V) (u:Value) (Q:St→Hp→Prop),Inv X aa σ H s→RelV v u→t v σ H Q →
  wpAny (model X.prog X.w) X.A (assign target X.env u) (fun _ s'=>∃ σ' H',Inv X aa σ' H' s'∧Q σ' H') X.xe s
noncomputable def F1 (X:Cx) (ts:List Expr) (t:GY):Prop :=
 ∀ (aa:List (Addr×Obj)) (s:Shared) (σ:St) (H:Hp) (vs:List V) (us:List Value) (Q:St→Hp→Prop),Inv X aa σ H s→Vals vs us→t vs σ H Q →
  wpAny (model X.prog X.w) X.A (assignInOrder ((assignEach ts X.env).map (·.2)) us) (fun _ s'=>∃ σ' H',Inv X aa σ' H' s'∧Q σ' H') X.xe s
noncomputable abbrev GZ:=V→V→V→Hp→(Hp→Prop)→Prop
noncomputable def Ke (X:Cx) (t:GZ):Prop :=
 ∀ (aa:List (Addr×Obj)) (s:Shared) (σ:St) (H:Hp) (o i v:V) (ov iv u:Value) (Q:Hp→Prop),Inv X aa σ H s→RelV o ov→RelV i iv→RelV v u→t o i v H Q →
  wpAny (model X.prog X.w) X.A (setItem ov iv u) (fun _ s'=>∃ H',Inv X aa σ H' s'∧Q H') X.xe s
noncomputable abbrev Nu:=V→V→Hp→VK→Prop
noncomputable def Nv (X:Cx) (op:Operator) (t:Nu):Prop :=
 ∀ (aa:List (Addr×Obj)) (s:Shared) (σ:St) (H:Hp) (x y:V) (v u:Value) (Q:VK),Inv X aa σ H s→RelV x v→RelV y u→t x y H Q →
  wpAny (model X.prog X.w) X.A (inplaceOp op v u) (EP X aa σ Q) X.xe s
section
noncomputable def F2 (i:Nat):TG:=fun v σ H Q=>Q (σ.set i (some v)) H
theorem oE (hN:X.N.Nodup) (hi:X.N[i]?=some x) (hx:Loc X.env.scope x) (hf:X.fn x=true∨X.env.scope.names.lookup x=some .local:=by first | exact .inl rfl | exact .inr rfl | assumption):PG X (.Name x pos) (F2 i):=by
 intro aa s σ H v u Q I r h
 exact wpAny_assign_Name (kQ I hN hi hx r (fun s' I'=>⟨_,H,I',h⟩) hf)
noncomputable def MB:GY:=fun vs σ H Q=>vs=[]∧Q σ H
noncomputable def Kf (t:TG) (u:GY):GY:=fun vs σ H Q=>∃ v r,vs=v::r∧t v σ H fun σ' H'=>u r σ' H' Q
theorem DC:F1 X [] MB:=by
 intro aa s σ H vs us Q I r h
 obtain ⟨e,h⟩:=h
 subst e
 cases r
 exact assignInOrder_nil ⟨σ,H,I,h⟩
theorem zE (h1:PG X e t) (h2:F1 X es u)
 (hs:(assignEach (e::es) X.env).map (·.2)=assign e X.env::(assignEach es X.env).map (·.2):=by rfl):F1 X (e::es) (Kf t u):=by
 intro aa s σ H vs us Q I r h
 obtain ⟨v,vr,e1,h⟩:=h
 subst e1
 cases r with
 | cons r rr =>
  rw [hs]
  refine assignInOrder_cons (bC (h1 aa s σ H _ _ _ I r h) fun _ s1 ⟨σ1,H1,I1,q1⟩=>?_)
  exact h2 aa s1 σ1 H1 _ _ Q I1 rr q1
noncomputable def MC (K:NZ) (n:Nat) (t:GY):TG:=fun v σ H Q=>∃ a xs,v=.ref a∧cV K H a xs∧xs.length=n∧t xs σ H Q
theorem G0 (hc:X.calm=true) (h:F1 X es t)
 (hn:(assignEach es X.env).length=n:=by rfl) (hst:(assignEach es X.env).findIdx? (·.1)=none:=by rfl):PG X (.Tuple es k pos) (MC X.K n t):=by
 intro aa s σ H v u Q I r hw
 obtain ⟨a,xs,e1,hq,hl,hw⟩:=hw
 subst e1
 cases r
 obtain ⟨its,rv,ht,hz⟩:=I.tuple hq
 refine assign_Tuple_tuple (I.ok.hd hc) ht (by simp [hn,← hl,rv.length]) hst fun h' hx=>?_
 have I1:Inv X aa σ H { s with heap:=h' }:=I.kept (t':=s.toks) fun b o e=>hx b o (OB (N8 e)) e
 exact h aa _ σ H xs _ Q I1 (by simpa using rv) hw
noncomputable def MD (to ti:TE) (t:GZ):TG:=fun v σ H Q=>to σ H fun o H1=>ti σ H1 fun i H2=>t o i v H2 fun H3=>Q σ H3
theorem G1 (ho:PE X o to) (hi:PE X i ti) (hs:Ke X t)
 (ha:∀ v,assign (.Subscript o i pos) X.env v=(do
   let ov ← holding [v] (eval o X.env)
   let iv ← holding [v,ov] (eval i X.env)
   standAt pos
   holding [v,ov,iv] (setItem ov iv v)
   release [v,ov,iv] []):=by intro _; rfl):PG X (.Subscript o i pos) (MD to ti t):=by
 intro aa s σ H v u Q I r h
 rw [ha]
 refine NX (OS (bC (ho aa s σ H _ I h) fun ov s1 ⟨x,H1,I1,r1,q1⟩=>?_))
 refine NX (OS (bC (hi aa s1 σ H1 _ I1 q1) fun iv s2 ⟨y,H2,I2,r2,q2⟩=>?_))
 refine NX (SO (NX (OS (bC (hs aa s2 σ H2 x y v ov iv u _ I2 r1 r2 r q2) fun _ s3 ⟨H3,I3,q3⟩=>?_))))
 exact wpAny_release ⟨σ,H3,I3,q3⟩
noncomputable def Kg (te:TE) (g:TG):TS:=fun D σ H=>te σ H fun x H1=>g x σ H1 D.nx
theorem zF (he:PE X e te) (hg:PG X tg g) (hs:swapsWithSole [tg] e pos.line X.env=pure false:=by rfl) (hw:swappedStores [tg] e X.env=pure none:=by rfl)
 (h1:(assignEach [tg] X.env).map (·.2)=[assign tg X.env]:=by rfl):PS X (.Assign [tg] e pos) (Kg te g):=by
 intro aa s σ H D I h
 refine wpAny_Assign_stores (bC (he aa s σ H _ I h) fun v s1 ⟨x,H1,I1,r1,q1⟩=>?_) hs hw
 rw [h1]
 exact bC (hg aa s1 σ H1 x v _ I1 r1 q1) fun _ s2 q=>q
theorem G2 (hN:X.N.Nodup) (hi:X.N[i]?=some x) (hx:Loc X.env.scope x) (he:PE X e te) (hs:swapsWith e (some (.Name x pos')) pos.line X.env=pure false:=by rfl) (hf:X.fn x=true∨X.env.scope.names.lookup x=some .local:=by first | exact .inl rfl | exact .inr rfl | assumption) :
 PS X (.Assign [.Name x pos'] e pos) (Kg te (F2 i)):=by
 intro aa s σ H D I h
 refine wpAny_Assign_Name (bC (he aa s σ H _ I h) fun v s1 ⟨y,H1,I1,r1,q1⟩=>?_) hs
 exact kQ I1 hN hi hx r1 (fun s2 I2=>⟨_,H1,I2,q1⟩) hf
noncomputable def ME (i:Nat) (te:TE) (ti:Nu):TS:=fun D σ H=>∃ x,σ[i]?=some (some x)∧te σ H fun y H1=>ti x y H1 fun z H2=>D.nx (σ.set i (some z)) H2
theorem G3 (hN:X.N.Nodup) (hi:X.N[i]?=some x) (hx:Loc X.env.scope x) (he:PE X e te) (ho:Nv X op ti) (hf:X.fn x=true∨X.env.scope.names.lookup x=some .local:=by first | exact .inl rfl | exact .inr rfl | assumption) :
 PS X (.AugAssign (.Name x pos') op e pos) (ME i te ti):=by
 intro aa s σ H D I h
 obtain ⟨v,e1,h⟩:=h
 obtain ⟨m,hn,hl⟩:=I.loc
 have vis:Mq X.env.scope x:=by rcases hx with k | k; exact .inl k; exact .inr (.inl k)
 obtain ⟨u,r,l⟩:=hl i x v hi e1 vis
 refine wpAny_AugAssign_Name ?_
 have go:wpAny (model X.prog X.w) X.A (eval e X.env) (fun w s₂=>wpAny (model X.prog X.w) X.A (inplaceOp op u w) (fun r s₃=>wpAny (model X.prog X.w) X.A (storeName X.env x r) (fun _=>SP X aa D .next) X.xe s₃) X.xe s₂) X.xe s:=by
  refine bC (he aa s σ H _ I h) fun w s1 ⟨y,H1,I1,r1,q1⟩=>?_
  refine bC (ho aa s1 σ H1 v y u w _ I1 r r1 q1) fun z s2 ⟨zv,H2,I2,r2,q2⟩=>?_
  exact kQ I2 hN hi hx r2 (fun s3 I3=>⟨_,H2,I3,q2⟩) hf
 rcases l with ⟨hk,hm⟩ | ⟨hk,c,hc,hcell⟩
 ·exact wpAny_loadName_local I.ok.kind hk hn hm go
 ·rcases hk with hk | hk
  ·exact wpAny_loadName_cell I.ok.kind hk hc hcell go
  ·rcases hx with k | k
   ·have:X.env.scope.names.lookup x=some .free:=hk
    rw [k] at this; cases this
   ·have:X.env.scope.names.lookup x=some .free:=hk
    rw [k] at this; cases this
noncomputable def G4 (c:TT) (tb:TS):TS:=fun D σ H=>∃ W:Nat→St→Hp→Prop,(∃ m,W m σ H)∧∀ m σ H,W m σ H →
 c σ H fun b H1=>if b=true then ∃ N:St→Hp→Prop,(∀ σ' H',N σ' H'→∃ m',m'<m∧W m' σ' H')∧tb { D with nx:=N,ct:=N,bk:=D.nx } σ H1 else D.nx σ H1
theorem zG (hp:PassesOwn (model X.prog X.w) X.A X.env X.xe) (hc:PT X c tc) (hb:tu X body tb):PS X (.While c body [] pos) (G4 tc tb):=by
 intro aa s σ H D I h
 obtain ⟨W,⟨m0,w0⟩,turn⟩:=h
 refine wpAny_While (codeAny_whileLoop (fun n s'=>∃ σ' H',Inv X aa σ' H' s'∧W n σ' H') ?_ m0 ⟨σ,H,I,w0⟩)
 rintro n s1 ⟨σ1,H1,I1,w1⟩
 refine QD hp (bC (hc aa s1 σ1 H1 _ I1 (turn n σ1 H1 w1)) fun b s2 ⟨H2,I2,q2⟩=>?_)
 cases b with
 | true =>
  obtain ⟨N,hN,q2⟩:=q2
  rw [if_pos rfl]
  refine QD hp (bC (hb aa s2 σ1 H2 _ I2 q2) fun f s3 q3=>?_)
  cases f with
  | next =>
   obtain ⟨σ3,H3,I3,n3⟩:=q3
   obtain ⟨m',hm,w3⟩:=hN σ3 H3 n3
   exact ⟨m',hm,σ3,H3,I3,w3⟩
  | cont =>
   obtain ⟨σ3,H3,I3,n3⟩:=q3
   obtain ⟨m',hm,w3⟩:=hN σ3 H3 n3
   exact ⟨m',hm,σ3,H3,I3,w3⟩
  | brk=>exact q3
  | ret v=>exact q3
 | false =>
  rw [if_neg Oe]
  exact wpAny_execs_nil ⟨σ1,H2,I2,q2⟩
end
structure It where
 go:Nat→Hp→Prop
 yld:Nat→Hp→V→Hp→Prop
 stop:Nat→Hp→Prop
noncomputable def fM (X:Cx) (aa:List (Addr×Obj)) (H:Hp) (b:Addr):Prop :=
 H b=none∧b≠X.env.locals∧b∉X.fs∧(b∈X.ex∨X.s₀.heap.objs.size≤b)∧(∀ x c,X.env.cells.lookup x=some c→c≠b)∧∀ p∈X.pn++aa,p.1≠b
theorem Inv.mG (I:Inv X aa σ H s) (hb:s.heap.objs.size≤b) (hn:H' b=none):fM X aa H' b:=by
 refine ⟨hn,Ra (O0 I.lt hb),I.J7 hb,.inr (Od I.sz hb),fun x c e z=>?_,fun p hp z=>?_⟩
 ·obtain ⟨v,q⟩:=I.cell x c e
  exact absurd (O0 q.lt (by rw [z]; exact hb)) (PK _)
 ·exact absurd (O0 (N8 (I.pin p hp).1) (by rw [z]; exact hb)) (PK _)
structure Turn (P:Program) (w:World) (K:NZ) (tg:Expr) (J:It) (fp:List Addr) (it:Addr) (tn:Nat→Heap→Prop):Prop where
 mem:it∈fp
 obj:∀ i h,tn i h→∀ b∈fp,∃ o,h.get? b=some o∧∀ v,o.data≠.cell v
 keep:∀ i h h',tn i h→(∀ b∈fp,∀ o,h.get? b=some o→h'.get? b=some o)→tn i h'
 item:∀ (X:Cx),X.prog=P→X.w=w→X.K=K→X.calm=true→∀ (i:Nat) (aa:List (Addr×Obj)) (s:Shared) (σ:St) (H:Hp) (E:Value→Shared→Prop),Inv X aa σ H s→(∀ b∈fp,fM X aa H b)→tn i s.heap→J.go i H →
  wpAny (model P w) X.A (pyNext (.ref it)) (fun r s1=>∃ u,r=some u ∧
   wpAny (model P w) X.A (letOwnedTupleGo tg (.ref it) u) (fun _ s2=>∃ x H',Inv X aa σ H' s2∧RelV x u∧J.yld i H x H'∧tn (i+1) s2.heap∧∀ b∈fp,H' b=none) E s1) E s
 done:∀ (X:Cx),X.prog=P→X.w=w→X.K=K→X.calm=true→∀ (i:Nat) (aa:List (Addr×Obj)) (s:Shared) (σ:St) (H:Hp) (E:Value→Shared→Prop),Inv X aa σ H s→(∀ b∈fp,fM X aa H b)→tn i s.heap→J.stop i H →
  wpAny (model P w) X.A (pyNext (.ref it)) (fun r s1=>r=none∧Inv X aa σ H s1) E s
 self:∀ (A:Around) (i:Nat) (s:Shared) (Q:Value→Shared→Prop) (E:Value→Shared→Prop),tn i s.heap→Q (.ref it) s→wpAny (model P w) A (pyIter (.ref it)) Q E s
noncomputable abbrev TI:=St→Hp→(It→Hp→Prop)→Prop
noncomputable def MF (X:Cx) (aa:List (Addr×Obj)) (σ:St) (tg:Expr) (R:It→Hp→Prop) (itv:Value) (s2:Shared):Prop :=
 ∃ (it:Addr) (fp:List Addr) (tn:Nat→Heap→Prop) (J:It) (H':Hp),itv=.ref it∧Inv X aa σ H' s2∧Turn X.prog X.w X.K tg J fp it tn∧tn 0 s2.heap∧(∀ b∈fp,fM X aa H' b)∧R J H'
noncomputable def PI (X:Cx) (tg iter:Expr) (wi:TI):Prop :=
 ∀ (aa:List (Addr×Obj)) (s:Shared) (σ:St) (H:Hp) (R:It→Hp→Prop),Inv X aa σ H s→wi σ H R →
  wpAny (model X.prog X.w) X.A (eval iter X.env) (fun v s1=>wpAny (model X.prog X.w) X.A (pyIter v) (MF X aa σ tg R) X.xe s1) X.xe s
theorem ng (ho:s.heap.get? it=some o) (hc:o.cls=.type n) (hd:o.data=.fields vs)
 (hn:["enumerate","zip","dict_itemiterator","dict_reverseitemiterator","odict_iterator","itertools.zip_longest","itertools.pairwise"].contains n=false) (hQ:Q () s):wpAny M A (letOwnedTupleGo tg (.ref it) u) Q E s:=by
 unfold letOwnedTupleGo
 cases tg <;> first
  | exact N1 hQ
  | (cases u <;> first
      | exact N1 hQ
      | (refine NX (wpAny_load ho ?_)
         rw [hc,hd]
         show wpAny M A (if (["enumerate","zip","dict_itemiterator","dict_reverseitemiterator","odict_iterator","itertools.zip_longest","itertools.pairwise"].contains n && vs[0]? == some (rawInt _))=true then _ else _) Q E s
         rw [if_neg (by intro h; rw [hn,Bool.false_and] at h; cases h)]
         exact N1 hQ))
noncomputable def MG (K:NZ) (a:Addr):It :=
 ⟨fun i H=>∃ xs x,gh K H a xs∧xs[i]?=some x,fun i H x H'=>H'=H∧∀ xs,gh K H a xs→xs[i]?=some x,fun i H=>∃ xs,gh K H a xs∧xs.length≤i⟩
noncomputable def MH (K:NZ) (a:Addr):It :=
 ⟨fun i H=>∃ xs x,cV K H a xs∧xs[i]?=some x,fun i H x H'=>H'=H∧∀ xs,cV K H a xs→xs[i]?=some x,fun i H=>∃ xs,cV K H a xs∧xs.length≤i⟩
noncomputable def Me (lo:Int) (n:Nat):It:=⟨fun i _=>i<n,fun i H x H'=>H'=H∧x=.int (lo+i),fun i _=>n≤i⟩
theorem xG {P:Program} {w:World} {K:NZ} {tg:Expr} (a it:Addr):Turn P w K tg (MG K a) [it] it (fun i h=>h.IsListIter it a i) where
 mem:=by simp
 obj:=fun i h st b hb=>by
  have e:b=it:=by simpa using hb
  subst e
  obtain ⟨o,e,c,d⟩:=st
  exact ⟨o,e,fun v z=>by rw [d] at z; cases z⟩
 keep:=fun i h h' st k=>st.at fun o e=>k it (by simp) o e
 item:=by
  intro X hP hw hK hc i aa s σ H E I hf st hg
  subst hP hw hK
  obtain ⟨xs,x,hq,hx⟩:=hg
  obtain ⟨its,rv,p,hz⟩:=I.list hq
  obtain ⟨u,hu,ru⟩:=rv.get hx
  obtain ⟨f0,f1,f2,f3,f4,f5⟩:=hf it (by simp)
  refine wpAny_pyNext_list_item st p.isList (x:=u) (by simpa using hu) fun h' st' sb=>?_
  have I1:Inv X aa σ H { s with heap:=h' }:=I.turned (t':=s.toks) (fun b o hb e=>(sb.2 b hb).trans e) f0 f1 f3 f4 f5
  obtain ⟨o,e,c,d⟩:=id st'
  exact ⟨u,rfl,ng (s:={ s with heap:=h' }) e c d (by decide) ⟨x,H,I1,ru,⟨rfl,fun ys hy=>by rw [I.qp hy hq]; exact hx⟩,st',fun b hb=>(hf b hb).1⟩⟩
 done:=by
  intro X hP hw hK hc i aa s σ H E I hf st hg
  subst hP hw hK
  obtain ⟨xs,hq,hx⟩:=hg
  obtain ⟨its,rv,p,hz⟩:=I.list hq
  obtain ⟨f0,f1,f2,f3,f4,f5⟩:=hf it (by simp)
  have hl:=rv.length
  exact wpAny_pyNext_list_end (I.ok.hd hc) st p.isList (by simp; lia) fun h' eb=>⟨rfl,I.turned (t':=s.toks) (fun b o hb e=>eb b o hb e) f0 f1 f3 f4 f5⟩
 self:=fun _ _ _ _ _ st h=>wpAny_pyIter_listiter st h
theorem tG {P:Program} {w:World} {K:NZ} {tg:Expr} (a it:Addr):Turn P w K tg (MH K a) [it] it (fun i h=>h.IsTupleIter it a i) where
 mem:=by simp
 obj:=fun i h st b hb=>by
  have e:b=it:=by simpa using hb
  subst e
  obtain ⟨o,e,c,d⟩:=st
  exact ⟨o,e,fun v z=>by rw [d] at z; cases z⟩
 keep:=fun i h h' st k=>st.at fun o e=>k it (by simp) o e
 item:=by
  intro X hP hw hK hc i aa s σ H E I hf st hg
  subst hP hw hK
  obtain ⟨xs,x,hq,hx⟩:=hg
  obtain ⟨its,rv,p,hz⟩:=I.tuple hq
  obtain ⟨u,hu,ru⟩:=rv.get hx
  obtain ⟨f0,f1,f2,f3,f4,f5⟩:=hf it (by simp)
  refine wpAny_pyNext_tuple_item st (show s.heap.IsTuple a its.toArray from p) (x:=u) (by simpa using hu) fun h' st' sb=>?_
  have I1:Inv X aa σ H { s with heap:=h' }:=I.turned (t':=s.toks) (fun b o hb e=>(sb.2 b hb).trans e) f0 f1 f3 f4 f5
  obtain ⟨o,e,c,d⟩:=id st'
  exact ⟨u,rfl,ng (s:={ s with heap:=h' }) e c d (by decide) ⟨x,H,I1,ru,⟨rfl,fun ys hy=>by rw [I.jy hy hq]; exact hx⟩,st',fun b hb=>(hf b hb).1⟩⟩
 done:=by
  intro X hP hw hK hc i aa s σ H E I hf st hg
  subst hP hw hK
  obtain ⟨xs,hq,hx⟩:=hg
  obtain ⟨its,rv,p,hz⟩:=I.tuple hq
  obtain ⟨f0,f1,f2,f3,f4,f5⟩:=hf it (by simp)
  have hl:=rv.length
  exact wpAny_pyNext_tuple_end (I.ok.hd hc) st (show s.heap.IsTuple a its.toArray from p) (by simp; lia) fun h' eb=>⟨rfl,I.turned (t':=s.toks) (fun b o hb e=>eb b o hb e) f0 f1 f3 f4 f5⟩
 self:=fun _ _ _ _ _ st h=>wpAny_pyIter_tupleiter st h
theorem tH {P:Program} {w:World} {K:NZ} {tg:Expr} (it:Addr) (lo:Int) (n:Nat):Turn P w K tg (Me lo n) [it] it (fun i h=>IsRangeIter h it (lo+(i:Nat) * 1) ((n:Int) - (i:Nat)) 1) where
 mem:=by simp
 obj:=fun i h st b hb=>by
  have e:b=it:=by simpa using hb
  subst e
  exact ⟨_,st,fun v z=>by
   have z':Tf _=Data.cell v:=z
   cases z'⟩
 keep:=fun i h h' st k=>k it (by simp) _ st
 item:=by
  intro X hP hw hK hc i aa s σ H E I hf st hg
  subst hP hw hK
  obtain ⟨f0,f1,f2,f3,f4,f5⟩:=hf it (by simp)
  have W:=Walks.range (prog:=X.prog) (w:=X.w) (I.ok.hd hc) it lo 1 n
  refine W.item i s _ _ hg st fun v h' tk hv st' kk=>?_
  obtain ⟨t,rfl⟩:=hv
  have I1:Inv X aa σ H { s with heap:=h',toks:=tk }:=I.turned (fun b o hb e=>kk b o (by simpa using hb) e) f0 f1 f3 f4 f5
  refine ⟨_,rfl,ng (s:={ s with heap:=h',toks:=tk }) (n:="range_iterator") st' rfl rfl (by decide) ⟨.int (lo+i),H,I1,⟨t,?_⟩,⟨rfl,rfl⟩,st',fun b hb=>(hf b hb).1⟩⟩
  rw [Int.mul_one]
 done:=by
  intro X hP hw hK hc i aa s σ H E I hf st hg
  subst hP hw hK
  obtain ⟨f0,f1,f2,f3,f4,f5⟩:=hf it (by simp)
  exact wpAny_pyNext_range_end (I.ok.hd hc) st (by have:n≤i:=hg; lia) fun h' eb=>⟨rfl,I.turned (t':=s.toks) (fun b o hb e=>eb b o hb e) f0 f1 f3 f4 f5⟩
 self:=fun _ _ _ _ _ st h=>wpAny_pyIter_rangeiter st h
section
theorem zH {lo hi:Int} (I:Inv X aa σ H s) (h1: -(2 ^ 62)≤lo) (h2:lo<2 ^ 62) (h3: -(2 ^ 62)≤hi) (h4:hi<2 ^ 62)
 (q:R (Me lo (hi - lo).toNat) H):wpAny (model X.prog X.w) X.A (pyIter (.ref s.heap.objs.size)) (MF X aa σ tg R) E { s with heap:=s.heap.push { cls:=.type "range",data:=.fields #[.int lo t,.int hi u,.int 1 v] },toks:=tk }:=by
 refine wpAny_pyIter_range (IsRange.new ..) (small_one h1 h2 h3 h4) ?_
 have I1:Inv X aa σ H { s with heap:=s.heap.push { cls:=.type "range",data:=.fields #[.int lo t,.int hi u,.int 1 v] },toks:=tk }:=I.kept fun b o e=>N7 _ e
 refine ⟨(s.heap.push { cls:=.type "range",data:=.fields #[.int lo t,.int hi u,.int 1 v] }).objs.size,[(s.heap.push { cls:=.type "range",data:=.fields #[.int lo t,.int hi u,.int 1 v] }).objs.size],_,_,H,rfl,
  I1.kept (t':=tk) fun b o e=>N7 _ e,tH _ lo (hi - lo).toNat,?_,fun b hb=>?_,q⟩
 ·have e1:lo+((0:Nat):Int) * 1=lo:=by simp
  have e2:(((hi - lo).toNat:Nat):Int) - ((0:Nat):Int)=R5 lo hi 1:=by rw [rangeSize_one]; split <;> lia
  show IsRangeIter _ _ (lo+((0:Nat):Int) * 1) ((((hi - lo).toNat:Nat):Int) - ((0:Nat):Int)) 1
  rw [e1,e2]
  exact Oj _ rfl
 ·have e:b=(s.heap.push { cls:=.type "range",data:=.fields #[.int lo t,.int hi u,.int 1 v] }).objs.size:=by simpa using hb
  subst e
  exact I1.mG (N3 _) (I1.hok.fresh (N3 _))
noncomputable def Kh (ta:TA):TI:=fun σ H R=>ta σ H fun vs H1=>∃ j:Int,vs=[.int j]∧ -(2 ^ 62)≤j∧j<2 ^ 62∧R (Me 0 j.toNat) H1
theorem xH (hg:Gl X "range") (hm:X.mg "range"=none) (ha:PA X [a] ta) (hs:starEach [a] X.env=[(false,eval a X.env)]:=by rfl):PI X tg (.Call (.Name "range" p) [a] [] pos) (Kh ta):=by
 intro aa s σ H R I h
 refine Call_ (dG I hg hm boot_range (Rk (bC (ha pos aa s σ H _ I h) fun us s1 ⟨vs,H1,I1,r1,q1⟩=>?_) hs rfl))
 obtain ⟨j,e,q1,q2,q⟩:=q1
 subst e
 cases r1 with
 | cons r rr =>
  cases rr
  obtain ⟨t,rfl⟩:=r
  exact call_range_1 (zH I1 (by lia) (by lia) q1 q2 (by simpa using q))
noncomputable def MI (wi:TI) (g:TG) (tb:TS):TS:=fun D σ H=>wi σ H fun J H1=>∃ W:Nat→Nat→St→Hp→Prop,(∃ m,W 0 m σ H1)∧∀ i m σ H,W i m σ H →
 (J.stop i H∧D.nx σ H)∨(J.go i H∧∃ N:St→Hp→Prop,(∀ σ' H',N σ' H'→∃ m',m'<m∧W (i+1) m' σ' H')∧∀ x H',J.yld i H x H'→g x σ H' fun σ2 H2=>tb { D with nx:=N,ct:=N,bk:=D.nx } σ2 H2)
noncomputable def jz (fp:List Addr) (h:Heap):List (Addr×Obj):=fp.filterMap fun b=>(h.get? b).map fun o=>(b,o)
theorem dX (hb:b∈fp) (e:h.get? b=some o):(b,o)∈jz fp h:=List.mem_filterMap.mpr ⟨b,hb,by rw [e]; rfl⟩
theorem xJ (hp:p∈jz fp h):p.1∈fp∧h.get? p.1=some p.2:=by
 obtain ⟨b,hb,e⟩:=List.mem_filterMap.mp hp
 cases q:h.get? b with
 | none=>rw [q] at e; cases e
 | some o =>
  rw [q] at e
  have e':(b,o)=p:=PF e
  subst e'
  exact ⟨hb,q⟩
theorem Inv.pinned (I:Inv X aa σ H s) (hf:∀ b∈fp,fM X aa H b) (ho:∀ b∈fp,∃ o,s.heap.get? b=some o∧∀ v,o.data≠.cell v):Inv X (aa++jz fp s.heap) σ H s :=
 I.vm fun p hp=>(OA.mp hp).elim (fun z=>I.pin p (OR _ z)) fun z=>by
  obtain ⟨hb,e⟩:=xJ z
  obtain ⟨f0,f1,f2,_⟩:=hf p.1 hb
  obtain ⟨o,e',d⟩:=ho p.1 hb
  rw [e] at e'; cases e'
  exact ⟨e,f0,f1,f2,d⟩
theorem Inv.fy (I:Inv X (aa++pl) σ H s):Inv X aa σ H s:=I.vm fun p hp=>I.pin p (OR _ (PB _ hp))
theorem G5 (hp:PassesOwn (model X.prog X.w) X.A X.env X.xe) (hc:X.calm=true) (hi:PI X tg iter wi) (hg:PG X tg g) (hb:tu X body tb)
 (hs:∀ x,foldedSetIterable iter X.env x=pure x:=by intro _; rfl):PS X (.For tg iter body [] pos) (MI wi g tb):=by
 intro aa s σ H D I h
 refine wpAny_For (bC (hi aa s σ H _ I h) fun v s1 h1=>bC h1 fun itv s2 h2=>?_) hs
 obtain ⟨it,fp,tn,J,H2,e,I2,T,st2,f2,W,⟨m0,w0⟩,turn⟩:=h2
 subst e
 have stat:∀ {H':Hp},(∀ b∈fp,H' b=none)→∀ b∈fp,fM X aa H' b:=fun hn b hb=>⟨hn b hb,(f2 b hb).2⟩
 refine codeAny_forLoop_any (fun n s'=>∃ i σ' H',Inv X aa σ' H' s'∧tn i s'.heap∧(∀ b∈fp,H' b=none)∧W i n σ' H') ?_ m0 ⟨0,σ,H2,I2,st2,fun b hb=>(f2 b hb).1,w0⟩
 rintro n s3 ⟨i,σ3,H3,I3,st3,fr3,w3⟩
 rcases turn i n σ3 H3 w3 with ⟨stop,qn⟩ | ⟨go,N,hN,step⟩
 ·refine QD hp (bC (T.done X rfl rfl rfl hc i aa s3 σ3 H3 X.xe I3 (stat fr3) st3 stop) fun r s4 ⟨hr,I4⟩=>?_)
  subst hr
  exact wpAny_execs_nil ⟨σ3,H3,I4,qn⟩
 ·refine QD hp (bC (T.item X rfl rfl rfl hc i aa s3 σ3 H3 X.xe I3 (stat fr3) st3 go) fun r s4 ⟨u,hr,h4⟩=>?_)
  subst hr
  refine QD hp (bC h4 fun _ s5 ⟨x,H5,I5,r5,y5,st5,fr5⟩=>?_)
  have I5':=I5.pinned (stat fr5) (T.obj _ _ st5)
  refine QD hp (bC (hg _ s5 σ3 H5 x u _ I5' r5 (step x H5 y5)) fun _ s6 ⟨σ6,H6,I6,q6⟩=>?_)
  refine QD hp (bC (hb _ s6 σ6 H6 _ I6 q6) fun f s7 q7=>?_)
  have again:∀ {σ7:St} {H7:Hp},Inv X (aa++jz fp s5.heap) σ7 H7 s7→N σ7 H7→∃ m,m<n∧∃ i σ' H',Inv X aa σ' H' s7∧tn i s7.heap∧(∀ b∈fp,H' b=none)∧W i m σ' H':=fun {σ7 H7} I7 n7=>by
   obtain ⟨m',hm,w7⟩:=hN σ7 H7 n7
   refine ⟨m',hm,i+1,σ7,H7,I7.fy,T.keep _ _ _ st5 fun b hb o e=>(I7.pin (b,o) (OR _ (OR _ (dX hb e)))).1,fun b hb=>?_,w7⟩
   obtain ⟨o,e,d⟩:=T.obj _ _ st5 b hb
   exact (I7.pin (b,o) (OR _ (OR _ (dX hb e)))).2.1
  cases f with
  | next=>obtain ⟨σ7,H7,I7,n7⟩:=q7; exact again I7 n7
  | cont=>obtain ⟨σ7,H7,I7,n7⟩:=q7; exact again I7 n7
  | brk=>obtain ⟨σ7,H7,I7,q7⟩:=q7; exact ⟨σ7,H7,I7.fy,q7⟩
  | ret v=>obtain ⟨x7,σ7,H7,I7,r7,q7⟩:=q7; exact ⟨x7,σ7,H7,I7.fy,r7,q7⟩
end
noncomputable abbrev R2:=V→V→Hp→VK→Prop
noncomputable def fK (X:Cx) (f:Value→Value→Sem Value) (r:R2):Prop :=
 ∀ (aa:List (Addr×Obj)) (s:Shared) (σ:St) (H:Hp) (x y:V) (v u:Value) (Q:VK),Inv X aa σ H s→RelV x v→RelV y u→r x y H Q →
  wpAny (model X.prog X.w) X.A (f v u) (EP X aa σ Q) X.xe s
noncomputable def MJ (X:Cx) (f:Value→Sem Value) (r:V→Hp→VK→Prop):Prop :=
 ∀ (aa:List (Addr×Obj)) (s:Shared) (σ:St) (H:Hp) (x:V) (v:Value) (Q:VK),Inv X aa σ H s→RelV x v→r x H Q →
  wpAny (model X.prog X.w) X.A (f v) (EP X aa σ Q) X.xe s
noncomputable def gj (X:Cx) (f:Value) (r:List V→Hp→VK→Prop):Prop :=
 ∀ (aa:List (Addr×Obj)) (s:Shared) (σ:St) (H:Hp) (xs:List V) (us:List Value) (Q:VK),Inv X aa σ H s→Vals xs us→r xs H Q →
  wpAny (model X.prog X.w) X.A (call f us) (EP X aa σ Q) X.xe s
noncomputable def Mf (r:R2) (ta tb:TE):TE:=fun σ H Q=>ta σ H fun x H1=>tb σ H1 fun y H2=>r x y H2 Q
noncomputable def NK (r:V→Hp→VK→Prop) (ta:TE):TE:=fun σ H Q=>ta σ H fun x H1=>r x H1 Q
noncomputable def rI (C:Int→Int→Prop) (g:Int→Int→V):R2:=fun x y H Q=>∃ i j,x=.int i∧y=.int j∧C i j∧Q (g i j) H
noncomputable def vo (g:Int→Int→V):R2:=fun x y H Q=>∃ i j,x=.int i∧y=.int j∧Q (g i j) H
noncomputable def rU (g:Int→V):V→Hp→VK→Prop:=fun x H Q=>∃ i,x=.int i∧Q (g i) H
section
theorem G6 (ha:PE X a ta) (hb:PE X b tb) {R:V→V→Hp→Prop} (I:Inv X aa σ H s)
 (h:ta σ H fun x H1=>tb σ H1 fun y H2=>R x y H2) {f:Value→Value→Sem Value}
 (hf:∀ v u s2 x y H2,Inv X aa σ H2 s2→RelV x v→RelV y u→R x y H2→wpAny (model X.prog X.w) X.A (f v u) Q X.xe s2) :
 wpAny (model X.prog X.w) X.A (eval a X.env) (fun v s₁=>wpAny (model X.prog X.w) X.A (eval b X.env) (fun u s₂=>wpAny (model X.prog X.w) X.A (f v u) Q X.xe s₂) X.xe s₁) X.xe s:=by
 refine bC (ha aa s σ H _ I h) fun v s1 ⟨x,H1,I1,r1,q1⟩=>?_
 refine bC (hb aa s1 σ H1 _ I1 q1) fun u s2 ⟨y,H2,I2,r2,q2⟩=>?_
 exact hf v u s2 x y H2 I2 r1 r2 q2
theorem zI (ho:fK X (binaryOp op) r) (ha:PE X a ta) (hb:PE X b tb):PE X (.BinOp a op b pos) (Mf r ta tb):=by
 intro aa s σ H Q I h
 exact wpAny_BinOp (G6 ha hb I h fun v u s2 x y H2 I2 rx ry q=>ho aa s2 σ H2 x y v u Q I2 rx ry q)
theorem Kl (ho:MJ X (unaryOp op) r) (ha:PE X a ta):PE X (.UnaryOp op a pos) (NK r ta):=by
 intro aa s σ H Q I h
 exact UnaryOp_ (bC (ha aa s σ H _ I h) fun v s1 ⟨x,H1,I1,r1,q1⟩=>ho aa s1 σ H1 x v Q I1 r1 q1)
theorem JU {g:Int→Int→Int}
 (rule:∀ (i j:Int) (t u:Tok) (s:Shared) (Q:Value→Shared→Prop) (E:Value→Shared→Prop),C i j→Q (.int (g i j) s.toks) { s with toks:=s.toks+1 }→wpAny (model X.prog X.w) X.A (f (.int i t) (.int j u)) Q E s) :
 fK X f (rI C fun i j=>.int (g i j)):=by
 intro aa s σ H x y v u Q I rx ry h
 obtain ⟨i,j,rfl,rfl,hc,q⟩:=h
 obtain ⟨t,rfl⟩:=rx
 obtain ⟨t',rfl⟩:=ry
 exact rule i j t t' s _ _ hc ⟨.int (g i j),H,I.tok _,⟨_,rfl⟩,q⟩
theorem zJ {g:Int→Int→Int}
 (rule:∀ (i j:Int) (t u:Tok) (s:Shared) (Q:Value→Shared→Prop) (E:Value→Shared→Prop),Q (.int (g i j) s.toks) { s with toks:=s.toks+1 }→wpAny (model X.prog X.w) X.A (f (.int i t) (.int j u)) Q E s) :
 fK X f (vo fun i j=>.int (g i j)):=by
 intro aa s σ H x y v u Q I rx ry h
 obtain ⟨i,j,rfl,rfl,q⟩:=h
 obtain ⟨t,rfl⟩:=rx
 obtain ⟨t',rfl⟩:=ry
 exact rule i j t t' s _ _ ⟨.int (g i j),H,I.tok _,⟨_,rfl⟩,q⟩
theorem G7 {g:Int→Int→Bool}
 (rule:∀ (i j:Int) (t u:Tok) (s:Shared) (Q:Value→Shared→Prop) (E:Value→Shared→Prop),Q (.bool (g i j)) s→wpAny (model X.prog X.w) X.A (f (.int i t) (.int j u)) Q E s) :
 fK X f (vo fun i j=>.bl (g i j)):=by
 intro aa s σ H x y v u Q I rx ry h
 obtain ⟨i,j,rfl,rfl,q⟩:=h
 obtain ⟨t,rfl⟩:=rx
 obtain ⟨t',rfl⟩:=ry
 exact rule i j t t' s _ _ ⟨.bl (g i j),H,I,rfl,q⟩
noncomputable def tK (i j:Int):Prop:=0≤j∧j≤1000000∧i.natAbs<2 ^ 64
theorem tL (k):(0:Int)≤2 ^ k:=by
 rw [two_pow_cast]
 exact TZ _
theorem G8:fK X (binaryOp .Add) (vo fun i j=>.int (i+j)):=zJ fun _ _ _ _ _ _ _ q=>add_int q
theorem G9:fK X (binaryOp .Sub) (vo fun i j=>.int (i - j)):=zJ fun _ _ _ _ _ _ _ q=>sub_int q
theorem Hg:fK X (binaryOp .Mod) (rI (fun _ j=>0<j) fun i j=>.int (i % j)):=JU fun i j _ _ _ _ _ hc q=>by
 have h1:(0:Int)<j:=hc
 exact mod_int' (by lia) (by rw [Int.fmod_eq_emod_of_nonneg i (by lia)]; exact q)
theorem Hh:fK X (binaryOp .Pow) (rI tK fun i j=>.int (i ^ j.toNat)):=JU fun _ _ _ _ _ _ _ hc q=>pow_int_small hc.1 hc.2.1 hc.2.2 q
theorem Hi:fK X (binaryOp .LShift) (rI tK fun i j=>.int (i * 2 ^ j.toNat)):=JU fun _ _ _ _ _ _ _ hc q=>lshift_int_small hc.1 hc.2.1 hc.2.2 q
theorem Hj:fK X (binaryOp .RShift) (rI (fun _ j=>0≤j) fun i j=>.int (i / 2 ^ j.toNat)):=JU fun i j _ _ _ _ _ hc q =>
 rshift_int hc (by rw [Int.fdiv_eq_ediv_of_nonneg i (tL _)]; exact q)
theorem Hl:fK X (binaryOp .BitAnd) (vo fun i j=>.int (Builtin.bitAnd i j)):=zJ fun _ _ _ _ _ _ _ q=>and_int q
theorem DE:fK X (inplaceOp .Add) (vo fun i j=>.int (i+j)):=zJ fun _ _ _ _ _ _ _ q=>iadd_int q
theorem DF:fK X (inplaceOp .Sub) (vo fun i j=>.int (i - j)):=zJ fun _ _ _ _ _ _ _ q=>isub_int q
theorem NL {g:Int→Int}
 (rule:∀ (i:Int) (t:Tok) (s:Shared) (Q:Value→Shared→Prop) (E:Value→Shared→Prop),Q (.int (g i) s.toks) { s with toks:=s.toks+1 }→wpAny (model X.prog X.w) X.A (f (.int i t)) Q E s) :
 MJ X f (rU fun i=>.int (g i)):=by
 intro aa s σ H x v Q I rx h
 obtain ⟨i,rfl,q⟩:=h
 obtain ⟨t,rfl⟩:=rx
 exact rule i t s _ _ ⟨.int (g i),H,I.tok _,⟨_,rfl⟩,q⟩
theorem Ho:MJ X (unaryOp .USub) (rU fun i=>.int (-i)):=NL fun _ _ _ _ _ q=>neg_int q
end
noncomputable def DG:V→V→Bool
 | .non,.non=>true | .non,.int _=>true | .int _,.non=>true | .non,.bl _=>true | .bl _,.non=>true | .non,.str _=>true | .str _,.non=>true
 | .int _,.int _=>true | .bl _,.bl _=>true | .str _,.str _=>true | .byt _,.byt _=>true
 | .int _,.str _=>true | .str _,.int _=>true | .bl _,.str _=>true | .str _,.bl _=>true
 | _,_=>false
noncomputable def NN:R2:=fun x y H Q=>DG x y=true∧Q (.bl (decide (x=y))) H
noncomputable def NO:R2:=fun x y H Q=>DG x y=true∧Q (.bl (!decide (x=y))) H
theorem vp:decide (V.int i=V.int j)=(i == j):=by
 rw [Ry]
 simp
theorem zK:decide (V.bl i=V.bl j)=(i == j):=by
 rw [Ry]
 simp
theorem vq:decide (V.str i=V.str j)=(i == j):=by
 rw [Ry]
 simp
theorem vv:decide (V.byt i=V.byt j)=(i.toList == j.toList):=by
 rw [Ry]
 cases i
 cases j
 simp
section
theorem bf (I:Inv X aa σ H s) (q:Q (.bl k) H) (e:k=k'):EP X aa σ Q (.bool k') s:=by
 subst e
 exact ⟨.bl k,H,I,rfl,q⟩
theorem Km:fK X (compareOp .Eq) NN:=by
 intro aa s σ H x y v u Q I rx ry h
 obtain ⟨hs,q⟩:=h
 cases x with
 | non =>
  cases rx
  cases y with
  | non=>cases ry; exact PySem.EqNone.eq_none_none (bf I q (by simp))
  | bl j=>cases ry; exact PySem.EqNone.eq_none_bool (bf I q (by simp))
  | int j=>obtain ⟨t',rfl⟩:=ry; exact PySem.EqNone.eq_none_int (bf I q (by simp))
  | str j=>obtain ⟨t',rfl⟩:=ry; exact PySem.EqNone.eq_none_str (bf I q (by simp))
  | _=>exact absurd (show false=true from hs) Oe
 | bl i =>
  cases rx
  cases y with
  | non=>cases ry; exact PySem.EqNone.eq_bool_none (bf I q (by simp))
  | bl j=>cases ry; exact eq_bool (bf I q zK)
  | str j=>obtain ⟨t',rfl⟩:=ry; exact PySem.EqMixed.eq_bool_str (bf I q (by simp))
  | _=>exact absurd (show false=true from hs) Oe
 | int i =>
  obtain ⟨t,rfl⟩:=rx
  cases y with
  | non=>cases ry; exact PySem.EqNone.eq_int_none (bf I q (by simp))
  | int j=>obtain ⟨t',rfl⟩:=ry; exact eq_int (bf I q vp)
  | str j=>obtain ⟨t',rfl⟩:=ry; exact PySem.EqMixed.eq_int_str (bf I q (by simp))
  | _=>exact absurd (show false=true from hs) Oe
 | str i =>
  obtain ⟨t,rfl⟩:=rx
  cases y with
  | non=>cases ry; exact PySem.EqNone.eq_str_none (bf I q (by simp))
  | bl j=>cases ry; exact PySem.EqMixed.eq_str_bool (bf I q (by simp))
  | int j=>obtain ⟨t',rfl⟩:=ry; exact PySem.EqMixed.eq_str_int (bf I q (by simp))
  | str j=>obtain ⟨t',rfl⟩:=ry; exact eq_str (bf I q vq)
  | _=>exact absurd (show false=true from hs) Oe
 | byt i =>
  obtain ⟨t,rfl⟩:=rx
  cases y with
  | byt j=>obtain ⟨t',rfl⟩:=ry; exact PySem.W.eq_bytes (bf I q vv)
  | _=>exact absurd (show false=true from hs) Oe
 | _=>cases y <;> exact absurd (show false=true from hs) Oe
theorem Kn:fK X (compareOp .NotEq) NO:=by
 intro aa s σ H x y v u Q I rx ry h
 obtain ⟨hs,q⟩:=h
 cases x with
 | non =>
  cases rx
  cases y with
  | non=>cases ry; exact PySem.EqNone.ne_none_none (bf I q (by simp))
  | bl j=>cases ry; exact PySem.EqNone.ne_none_bool (bf I q (by simp))
  | int j=>obtain ⟨t',rfl⟩:=ry; exact PySem.EqNone.ne_none_int (bf I q (by simp))
  | str j=>obtain ⟨t',rfl⟩:=ry; exact PySem.EqNone.ne_none_str (bf I q (by simp))
  | _=>exact absurd (show false=true from hs) Oe
 | bl i =>
  cases rx
  cases y with
  | non=>cases ry; exact PySem.EqNone.ne_bool_none (bf I q (by simp))
  | bl j=>cases ry; exact ne_bool (bf I q (congrArg not zK))
  | str j=>obtain ⟨t',rfl⟩:=ry; exact PySem.EqMixed.ne_bool_str (bf I q (by simp))
  | _=>exact absurd (show false=true from hs) Oe
 | int i =>
  obtain ⟨t,rfl⟩:=rx
  cases y with
  | non=>cases ry; exact PySem.EqNone.ne_int_none (bf I q (by simp))
  | int j=>obtain ⟨t',rfl⟩:=ry; exact ne_int (bf I q (congrArg not vp))
  | str j=>obtain ⟨t',rfl⟩:=ry; exact PySem.EqMixed.ne_int_str (bf I q (by simp))
  | _=>exact absurd (show false=true from hs) Oe
 | str i =>
  obtain ⟨t,rfl⟩:=rx
  cases y with
  | non=>cases ry; exact PySem.EqNone.ne_str_none (bf I q (by simp))
  | bl j=>cases ry; exact PySem.EqMixed.ne_str_bool (bf I q (by simp))
  | int j=>obtain ⟨t',rfl⟩:=ry; exact PySem.EqMixed.ne_str_int (bf I q (by simp))
  | str j=>obtain ⟨t',rfl⟩:=ry; exact ne_str (bf I q (congrArg not vq))
  | _=>exact absurd (show false=true from hs) Oe
 | byt i =>
  obtain ⟨t,rfl⟩:=rx
  cases y with
  | byt j=>obtain ⟨t',rfl⟩:=ry; exact PySem.W.ne_bytes (bf I q (congrArg not vv))
  | _=>exact absurd (show false=true from hs) Oe
 | _=>cases y <;> exact absurd (show false=true from hs) Oe
theorem Ko:fK X (compareOp .Lt) (vo fun i j=>.bl (decide (i<j))):=G7 fun _ _ _ _ _ _ _ q=>lt_int q
theorem Kp:fK X (compareOp .Gt) (vo fun i j=>.bl (decide (j<i))):=G7 fun _ _ _ _ _ _ _ q=>gt_int q
theorem Kq:fK X (compareOp .GtE) (vo fun i j=>.bl (decide (j≤i))):=G7 fun _ _ _ _ _ _ _ q=>ge_int q
theorem fK.or (h:fK X f r) (h':fK X f r'):fK X f (fun x y H Q=>r x y H Q∨r' x y H Q):=by
 intro aa s σ H x y v u Q I rx ry q
 rcases q with q | q
 ·exact h aa s σ H x y v u Q I rx ry q
 ·exact h' aa s σ H x y v u Q I rx ry q
theorem jA (b) (h:op≠.In:=by decide) (h2:op≠.NotIn:=by decide):behindInMarks op b=false:=by
 have e1:(op == CmpOp.In)=false:=by cases op <;> first | rfl | exact absurd rfl h
 have e2:(op == CmpOp.NotIn)=false:=by cases op <;> first | rfl | exact absurd rfl h2
 cases b <;> simp [behindInMarks,e1,e2]
theorem DH (ho:fK X (compareOp op) r) (ha:PE X a ta) (hb:PE X b tb) (hm:behindInMarks op b=false):PE X (.Compare a [op] [b] pos) (Mf r ta tb):=by
 intro aa s σ H Q I h
 exact wpAny_Compare1 (G6 ha hb I h fun v u s2 x y H2 I2 rx ry q=>ho aa s2 σ H2 x y v u Q I2 rx ry q) hm
noncomputable def Kr (t:TE):TT:=fun σ H Q=>t σ H fun x H'=>∃ k,x=.bl k∧Q k H'
theorem DI (ho:fK X (compareOp op) r) (ha:PE X a ta) (hb:PE X b tb) (hm:behindInMarks op b=false):PT X (.Compare a [op] [b] pos) (Kr (Mf r ta tb)):=by
 intro aa s σ H Q I h
 refine wpAny_isTrue_Compare1 (bC (ha aa s σ H _ I h) fun v s1 ⟨x,H1,I1,r1,q1⟩=>bC (hb aa s1 σ H1 _ I1 q1) fun u s2 ⟨y,H2,I2,r2,q2⟩ =>
  bC (ho aa s2 σ H2 x y v u _ I2 r1 r2 q2) fun c s3 ⟨z,H3,I3,r3,k,e,q3⟩=>?_) hm
 subst e
 cases r3
 exact Rq ⟨H3,I3,q3⟩
theorem oF:(sizeLine:Nat)<2 ^ 63:=by rw [sizeLine_eq]; decide
theorem tM:fK X (binaryOp .Add) (fun x y H Q=>∃ i j,x=.str i∧y=.str j∧i.length+j.length≤sizeLine∧Q (.str (i++j)) H):=by
 intro aa s σ H x y v u Q I rx ry h
 obtain ⟨i,j,rfl,rfl,hz,q⟩:=h
 obtain ⟨t,rfl⟩:=rx
 obtain ⟨t',rfl⟩:=ry
 exact add_str (fun t' tk=>⟨.str (i++j),H,I.tok _,⟨_,rfl⟩,q⟩) hz
theorem vals1 (r:Vals [x] us):∃ u,us=[u]∧RelV x u:=by
 cases r with
 | cons r1 r2=>cases r2; exact ⟨_,rfl,r1⟩
theorem vals2 (r:Vals [x,y] us):∃ u w',us=[u,w']∧RelV x u∧RelV y w':=by
 cases r with
 | cons r1 r2 =>
  cases r2 with
  | cons r3 r4=>cases r4; exact ⟨_,_,rfl,r1,r3⟩
theorem xK (hc:X.calm=true):gj X (.builtin "max") (fun xs H Q=>∃ i j,xs=[.int i,.int j]∧Q (.int (if j>i then j else i)) H):=by
 intro aa s σ H xs us Q I r h
 obtain ⟨i,j,rfl,q⟩:=h
 obtain ⟨u,w',rfl,⟨t,rfl⟩,⟨t',rfl⟩⟩:=vals2 r
 refine max_two_ints (I.ok.hd hc) fun h' tk k=>⟨_,H,I.kept k,?_,q⟩
 by_cases hj:j>i
 ·rw [if_pos hj,if_pos hj]; exact ⟨_,rfl⟩
 ·rw [if_neg hj,if_neg hj]; exact ⟨_,rfl⟩
end
structure NP (h:Heap) (x dx C:Addr) (mA:Str→Option Value):Prop where
 obj:h.get? x=some (PySem.W.instObj C dx)
 ns:h.Ns1 dx mA
 ne:dx≠x
section
end
theorem j8.some_of (r:j8 (some v) o):∃ u,o=some u∧RelV v u:=by
 cases o with
 | none=>exact (show False from r).elim
 | some u=>exact ⟨u,rfl,r⟩
section
end
structure NQ (K:NZ) (C:Addr):Prop where
 pg:PySem.W.plainGet K C Str.empty=true
 hd:PySem.W.hasDictIn K C=true
 po:PySem.W.plainOver K C=true
 sa:Ql K (.ref C) "__setattr__"=some (some (.builtin "object.__setattr__"))
structure Con (K:NZ) (C:Addr) (f:Str) (v:V) (u:Value):Prop where
 at_:Ql K (.ref C) f=some (some u)
 rel:RelV v u
 get:T7 K u "__get__"=some none
 cp:PySem.W.copiedNames.contains f=false
structure Meth (K:NZ) (C:Addr) (m:Str) (f:Addr):Prop where
 at_:Ql K (.ref C) m=some (some (.ref f))
 fn:PySem.W.isFn K (.ref f)=true
 kp:PX K (.ref f)=true
section
end
noncomputable def Ks (X:Cx) (op:Operator) (rd:V→V→Hp→VK→Prop):Prop :=
 ∀ (aa:List (Addr×Obj)) (s:Shared) (σ:St) (H:Hp) (x y:V) (u v:Value) (Q:VK),Inv X aa σ H s→RelV x u→RelV y v→rd x y H Q→wpAny (model X.prog X.w) X.A (inplaceOp op u v) (EP X aa σ Q) X.xe s
section
end
section
variable {X:Cx} {aa:List (Addr×Obj)} {σ:St} {H:Hp} {s:Shared} {A:Around} {E:Value→Shared→Prop} {Q:Value→Shared→Prop} {c:Value} {b:Bool}
inductive kR (K:NZ) (H:Hp):V→Value→Prop where
 | non:kR K H .non (.type "NoneType")
 | bl (x:Bool):kR K H (.bl x) (.type "bool")
 | int (i:Int):kR K H (.int i) (.type "int")
 | str (x:Str):kR K H (.str x) (.type "str")
 | flt (x:UInt64):kR K H (.flt x) (.type "float")
 | lst {a:Addr} {xs:List V} (e:H a=some (.lst xs)):kR K H (.ref a) (.type "list")
 | frz {a:Addr} {o:Obj} {xs:List V} (e:H a=some (.frz o (.lst xs))):kR K H (.ref a) (.type "list")
 | tup {a:Addr} {xs:List V} (e:H a=some (.tup xs)):kR K H (.ref a) (.type "tuple")
 | dK {a:Addr} {kvs:List (Key×V)} (e:H a=some (.dK kvs)):kR K H (.ref a) (.type "dict")
 | dT {a:Addr} {kvs:List (List Key×Addr×V)} (e:H a=some (.dT kvs)):kR K H (.ref a) (.type "dict")
 | ins {a C dx:Addr} {fs:List (Str×V)} (e:H a=some (.ins C dx fs)) (cl:NQ K C) (ha:Ql K (.ref C) "__class__"=some (some (.builtin "object.__class__")))
  (hn:T7 K (.builtin "object.__class__") "__get__"=some (some (.builtin "getset_descriptor.__get__"))) (htk:PySem.W.takesIn K (.builtin "object.__class__")=some true)
  (hm:SQ K C (.type "object")=some true):kR K H (.ref a) (.ref C)
end
structure ic (k:Nat) (A:Around):Prop where
 hd:A.handled=none
 dp:A.depth+3 * k+5<recursionLimit
 un:A.units+16 * k+200<cLine
theorem ic.mono (r:ic k A) (h:j≤k):ic j A:=⟨r.hd,by have:=r.dp; lia,by have:=r.un; lia⟩
theorem ic.deeper (r:ic (k+1) A) (env:Env):ic k (A.deeper env) :=
 ⟨r.hd,by have:=r.dp; show A.depth+1+3 * k+5<_; lia,by have:=r.un; show A.units+3+16 * k+200<_; lia⟩
theorem ic.depth (r:ic k A):A.depth<recursionLimit:=by have:=r.dp; lia
theorem ic.units (r:ic k A):A.units+64<cLine:=by have:=r.un; lia
noncomputable def MK:TA:=fun _ H Q=>Q [] H
noncomputable def Ku (ta:TE) (tr:TA):TA:=fun σ H Q=>ta σ H fun x H1=>tr σ H1 fun xs H2=>Q (x::xs) H2
section
theorem dH:PA X [] MK:=fun _ _ _ _ H Q I h=>Calls.spliced_nil ⟨[],H,I,.nil,h⟩
theorem bN (ha:PE X e te) (hr:PA X es t) (hs:starEach (e::es) X.env=(false,eval e X.env)::starEach es X.env:=by rfl):PA X (e::es) (Ku te t):=by
 intro pos aa s σ H Q I h
 rw [hs]
 show wpAny _ _ (spliced ((false,eval e X.env)::backTo pos (starEach es X.env))) _ _ s
 refine T3 (bC (ha aa s σ H _ I h) fun u s1 ⟨x,H1,I1,r1,q1⟩=>?_)
 exact bC (hr pos aa s1 σ H1 _ I1 q1) fun us s2 ⟨xs,H2,I2,r2,q2⟩=>⟨x::xs,H2,I2,.cons r1 r2,q2⟩
noncomputable def ML (t:TA):TE:=fun σ H Q=>t σ H fun xs H1=>xs.length≤sizeLine∧∀ p,H1 p=none→Q (.ref p) (upd H1 p (.tup xs))
noncomputable def MM (t:TA):TE:=fun σ H Q=>t σ H fun xs H1=>xs.length≤sizeLine∧∀ p,H1 p=none→Q (.ref p) (upd H1 p (.lst xs))
theorem zL {x1} (h:PA X es t):PE X (.Tuple es x1 pos) (ML t):=by
 intro aa s σ H Q I hq
 refine wpAny_Tuple_spliced (bC (h pos aa s σ H _ I hq) fun us s1 ⟨xs,H1,I1,r,z,q⟩=>⟨by rw [← r.length]; exact z,?_⟩)
 have hf:H1 s1.heap.objs.size=none:=I1.hok.fresh (N3 _)
 refine ⟨.ref s1.heap.objs.size,upd H1 s1.heap.objs.size (.tup xs),I1.laid (t':=s1.toks) (fun b u e=>N7 _ e) (N3 _) ?_,rfl,q _ hf⟩
 exact ⟨z,us,r,⟨_,Oj _ rfl,rfl,_,rfl⟩⟩
theorem zM (h:PA X es t):PE X (.List es pos) (MM t):=by
 intro aa s σ H Q I hq
 refine wpAny_List_spliced (bC (h pos aa s σ H _ I hq) fun us s1 ⟨xs,H1,I1,r,z,q⟩=>⟨by rw [← r.length]; exact z,?_⟩)
 have hf:H1 s1.heap.objs.size=none:=I1.hok.fresh (N3 _)
 refine ⟨.ref s1.heap.objs.size,upd H1 s1.heap.objs.size (.lst xs),I1.laid (t':=s1.toks) (fun b u e=>N7 _ e) (N3 _) ?_,rfl,q _ hf⟩
 exact ⟨z,us,0,r,Oj _ rfl⟩
end
noncomputable abbrev Sp:=List V→Hp→VK→XK→Prop
noncomputable abbrev Hq:=List Env→Hp→Shared→XK→Value→Shared→Prop
structure DJ (P:Program) (w:World) (K:NZ) (mg:Str→Option Value) (base:Heap) (A:Around) (outer:List Env) (s:Shared) (H:Hp):Prop where
 frames:A.frames=some outer
 mod:Mod K mg base
 bs:∀ b o,base.get? b=some o→s.heap.get? b=some o∧H b=none
 bsz:base.objs.size≤s.heap.objs.size
 jx:s.heap.FunFrames base outer
 frf:∀ b∈frs outer,H b=none
 hok:jw P w H s.heap
 bare:AllBare s.gens
noncomputable def CE (outer:List Env) (P:Program) (w:World) (H:Hp) (s:Shared) (Q:VK) (u:Value) (s':Shared):Prop :=
 ∃ v H',s'.os=s.os∧AllBare s'.gens∧Un (frs outer) [] H H' s.heap s'.heap∧jw P w H' s'.heap∧RelV v u∧Q v H'
noncomputable def CR (CX:Hq) (outer:List Env) (P:Program) (w:World) (H:Hp) (s:Shared) (Q:VK) (E:XK) (r:Result) (s':Shared):Prop :=
 match r with
 | .ok (.ret u)=>CE outer P w H s Q u s'
 | .ok _=>False
 | .error e=>CX outer H s E e s'
structure bx (P:Program) (w:World) (K:NZ) (mg:Str→Option Value) (base:Heap) (CX:Hq) (k:Nat) (f:Addr) (fd:FuncData) (ps:List Str) (sp:Sp):Prop where
 len:∀ vs H Q E,sp vs H Q E→vs.length=ps.length
 run:∀ (A:Around) (outer:List Env) (s:Shared) (H:Hp) (args:Args) (us:List Value) (vs:List V) (Q:VK) (E:XK),ic k A→DJ P w K mg base A outer s H→BindsTo s fd args (ps.zip us)→Vals vs us→sp vs H Q E →
  codeAny (model P w) A (.call (.ref f) args) (CR CX outer P w H s Q E) s
theorem bx.mono {K:NZ} (F:bx P w K mg base CX j f fd ps sp) (h:j≤k) :
 bx P w K mg base CX k f fd ps sp:=⟨F.len,fun A outer s H args us vs Q E hr=>F.run A outer s H args us vs Q E (hr.mono h)⟩
section
theorem Inv.DK (I:Inv X aa σ H s):DJ X.prog X.w X.K X.mg X.base X.A X.stack s H :=
 ⟨I.ok.frames,I.ok.mod,I.bs,Od I.ok.bsz I.sz,I.stack,I.vh,I.hok,I.bare⟩
theorem Inv.after (I:Inv X aa σ H s) (h:CE X.stack X.prog X.w H s Q u s'):EP X aa σ Q u s':=by
 obtain ⟨v,H',os,bare,un,hok,r,q⟩:=h
 obtain ⟨hh,g,d,t,os'⟩:=s'
 obtain rfl:os'=s.os:=os
 exact ⟨v,H',I.call (h':=hh) (g':=g) (d':=d) (t':=t) (ch:=[]) un hok bare (fun b z=>absurd z (by simp)),r,q⟩
end
noncomputable def Binds (K:NZ) (fd:FuncData) (ps:List Str) (ds:List Value):Prop :=
 ∀ (s:Shared) (us:List Value),K.In s.heap→(us++ds).length=ps.length→BindsTo s fd ⟨us,[]⟩ (ps.zip (us++ds))
theorem Binds.all {K:NZ} (h:∀ us:List Value,us.length=ps.length→bindArgs fd ⟨us,[]⟩=pure (ps.zip us)):Binds K fd ps []:=fun s us _ hl=>by
 rw [O7] at hl ⊢
 exact .of_eq (h us hl)
section
variable {X:Cx} {CX:Hq} {k:Nat} {f C:Addr} {fd:FuncData} {ps:List Str} {sp:Sp} {dvs:List V} {ds:List Value} {E:XK} {x m:Str} {p pos apos:Pos} {e o:Expr} {es:List Expr} {ta:TE} {t:TA}
structure Mk (K:NZ) (C f:Addr):Prop where
 makes:PySem.W.makesIn K C=true
 init:Ql K (.ref C) "__init__"=some (some (.ref f))
 fn:PySem.W.isFn K (.ref f)=true
 kp:PX K (.ref C)=true
end
section
variable {X:Cx} {CX:Hq} {k:Nat} {f C:Addr} {fd:FuncData} {ps ks:List Str} {sp:Sp} {E:XK} {x m:Str} {p pos apos kpos:Pos} {e o:Expr} {es:List Expr} {kws:List Keyword} {te ta:TE} {t tk:TA} {nm:Option Str}
structure MN (K:NZ) (fd:FuncData) (ps ks:List Str) (g:List Value→List Value→List Value) (gV:List V→List V→List V):Prop where
 to:∀ (s:Shared) (us ws:List Value),K.In s.heap→(g us ws).length=ps.length→BindsTo s fd ⟨us,ks.zip ws⟩ (ps.zip (g us ws))
 rel:∀ {vs:List V} {us:List Value} {zs:List V} {ws:List Value},Vals vs us→Vals zs ws→Vals (gV vs zs) (g us ws)
end
structure aG (N P:List Str) (sc:Scope):Prop where
 kind:sc.kind=.function
 co:sc.isCoroutine=false
 gen:sc.isGenerator=false
 nd:N.Nodup
 pre:N.take P.length=P
 par:∀ x∈P,sc.names.lookup x=some .local∨sc.names.lookup x=some .cell
 nofree:∀ y∈sc.names,y.2≠.free
theorem nh {kindOf:Str→Option NameKind}:∀ {binds:List (Str×Value)} {m:Str→Option Value},(∀ v,(x,v)∉binds)→bindL kindOf binds m x=m x
 | [],_,_=>rfl
 | (n,v)::r,m,h=>by
  unfold bindL
  rw [nh fun w hw=>h w (Ob _ hw)]
  split
  ·have:x≠n:=by rintro rfl; exact h v N9
   simp [this]
  ·rfl
theorem ni {kindOf:Str→Option NameKind}:∀ {binds:List (Str×Value)} {m:Str→Option Value},(∀ v,(x,v)∉binds)→bindC kindOf binds m x=m x
 | [],_,_=>rfl
 | (n,v)::r,m,h=>by
  unfold bindC
  rw [ni fun w hw=>h w (Ob _ hw)]
  split
  ·rfl
  ·have:x≠n:=by rintro rfl; exact h v N9
   simp [this]
theorem nj {kindOf:Str→Option NameKind}:∀ {P:List Str} {vs:List Value} {i:Nat} {m:Str→Option Value},P.Nodup→P[i]?=some x→vs[i]?=some v→kindOf x=some .local →
 bindL kindOf (P.zip vs) m x=some v
 | [],_,_,_,_,h,_,_=>by simp at h
 | _::_,[],_,_,_,_,h,_=>by simp at h
 | p::P,w::vs,0,m,nd,h1,h2,hk=>by
  simp at h1 h2; subst h1; subst h2
  show bindL kindOf ((p,w)::P.zip vs) m p=_
  unfold bindL
  rw [nh fun v hv=>(Pd.mp nd).1 (SE hv).1,if_pos hk]
  simp
 | p::P,w::vs,i+1,m,nd,h1,h2,hk=>by
  show bindL kindOf ((p,w)::P.zip vs) m x=_
  unfold bindL
  exact nj (i:=i) (Pd.mp nd).2 (by simpa using h1) (by simpa using h2) hk
theorem nk {kindOf:Str→Option NameKind}:∀ {P:List Str} {vs:List Value} {i:Nat} {m:Str→Option Value},P.Nodup→P[i]?=some x→vs[i]?=some v→kindOf x≠some .local →
 bindC kindOf (P.zip vs) m x=some v
 | [],_,_,_,_,h,_,_=>by simp at h
 | _::_,[],_,_,_,_,h,_=>by simp at h
 | p::P,w::vs,0,m,nd,h1,h2,hk=>by
  simp at h1 h2; subst h1; subst h2
  show bindC kindOf ((p,w)::P.zip vs) m p=_
  unfold bindC
  rw [ni fun v hv=>(Pd.mp nd).1 (SE hv).1,if_neg hk]
  simp
 | p::P,w::vs,i+1,m,nd,h1,h2,hk=>by
  show bindC kindOf ((p,w)::P.zip vs) m x=_
  unfold bindC
  exact nk (i:=i) (Pd.mp nd).2 (by simpa using h1) (by simpa using h2) hk
noncomputable def start (N:List Str) (vs:List V):St:=vs.map some++Of (N.length - vs.length) none
noncomputable def qt (CX:Hq) (P:Program) (w:World) (K:NZ) (mg:Str→Option Value) (base:Heap) (N:List Str) (qual:Str) (scope:Scope) (f:Addr) (cd:Value) (A:Around) (outer:List Env) (s:Shared) (H:Hp) (E:XK):Cx where
 prog:=P
 w:=w
 K:=K
 mg:=mg
 base:=base
 A:=A.deeper (envOfC qual scope s.heap.objs.size f cd)
 N:=N
 s₀:=s
 H₀:=H
 env:=envOfC qual scope s.heap.objs.size f cd
 outer:=outer
 stack:=envOfC qual scope s.heap.objs.size f cd::outer
 ex:=[]
 calm:=true
 fn:=fun _=>true
 pn:=[]
 xe:=fun e s'=>wpAny (model P w) (A.deeper (envOfC qual scope s.heap.objs.size f cd)) (leaving (envOfC qual scope s.heap.objs.size f cd) e) (fun _ s''=>CX outer H s E e s'') (fun e' s''=>CX outer H s E e' s'') s'
theorem qu {sc:Scope} (h:sc.names.lookup x=some .cell):∃ c,(cellsFrom n sc.names []).lookup x=some c:=by
 have q:=PySem.W.cellsFrom_some sc.names n [] (.inl h)
 exact Option.isSome_iff_exists.mp q
theorem xM {K:NZ}
 (S:aG N ps scope) (hd:A.handled=none) (e0:DJ P w K mg base A outer s H) (hl:vs.length=ps.length) (r:Vals vs us)
 (x:InCallC s s.heap.objs.size (bindL (envOfC qual scope s.heap.objs.size f cd).kindOf (ps.zip us) fun _=>none) (cellsFrom (s.heap.objs.size+1) scope.names []) (bindC (envOfC qual scope s.heap.objs.size f cd).kindOf (ps.zip us) fun _=>none) s1) :
 Inv (qt CX P w K mg base N qual scope f cd A outer s H E) [] (start N vs) H s1:=by
 have hpl:ps.length≤N.length:=by have:=congrArg QJ S.pre; rw [Pc] at this; lia
 obtain ⟨h1,tk,rfl,hk⟩:=x.done
 have noA:∀ b:Addr,b∉(qt CX P w K mg base N qual scope f cd A outer s H E).ex:=fun b z=>absurd (show b∈([]:List Addr) from z) (by simp)
 refine ⟨⟨e0.mod,S.kind,rfl,rfl,N3 _,fun y z c h1 h2=>?_,fun y hy=>?_,fun y c _ h=>?_,fun _=>hd,Around.frames_deeper e0.frames,.inr ⟨rfl,rfl⟩,fun b z=>absurd z (noA b),e0.bs,e0.bsz,fun b _ _=>noA b,fun b z=>absurd z (noA b),e0.jx,e0.frf⟩,
  rfl,e0.bare,Un.kept hk,⟨_,x.toInCall.ns,fun i y v h1 h2 h3=>?_⟩,fun y c h=>⟨_,x.cell y c h⟩,e0.hok.fresh (N3 _),fun y c h=>?_,fun p hp=>absurd (show p∈([]:List (Addr×Obj)) from hp) (by simp),e0.hok.kept hk,?_⟩
 ·exact name_of_addr x.apart (Ro h1) (Ro h2)
 ·have hy:scope.names.lookup y=some .cell∨scope.names.lookup y=some .free:=hy
  rcases hy with hy | hy
  ·exact qu hy
  ·exact absurd rfl (S.nofree _ (Ro hy))
 ·exact Qq (x.above y c (Ro h))
 ·have hi:i<vs.length:=by
   unfold start at h2
   by_cases hi:i<vs.length
   ·exact hi
   ·rw [QT (by simpa using hi)] at h2
    rw [Tv] at h2
    split at h2 <;> cases h2
  have ha:vs[i]?=some v:=by
   unfold start at h2
   rw [Qf (by simpa using hi),Oc] at h2
   cases e:vs[i]? with
   | none=>rw [e] at h2; cases h2
   | some a=>rw [e] at h2; cases h2; rfl
  obtain ⟨u,hu,rv⟩:=r.get ha
  have hp:ps[i]?=some y:=by
   rw [← S.pre,R0 (by lia)]; exact h1
  have ndP:ps.Nodup:=by rw [← S.pre]; exact S.nd.sublist (Sq _ _)
  refine ⟨u,rv,?_⟩
  rcases S.par y (Pe hp) with k | k
  ·exact .inl ⟨k,nj ndP hp hu k⟩
  ·obtain ⟨c,e⟩:=qu (n:=s.heap.objs.size+1) k
   refine .inr ⟨.inl k,c,e,?_⟩
   have q:=x.cell y c e
   rw [nk ndP hp hu (by show scope.names.lookup y≠_; rw [k]; decide)] at q
   exact q
 ·exact e0.hok.fresh (Qq (x.above y c (Ro h)))
 ·unfold start
  show _=N.length
  rw [OH,N6,List.length_replicate]
  lia
theorem zN {K:NZ} {dV kV doc pm cdv ct oc:Value}
 (lk:K.lookup f=some ⟨oc,od,.func (P4 name qual params body scope dV kV doc pm an cdv ct),osl⟩) (hcd:SM K cdv qual=true) (S:aG N ps scope)
  (len:∀ vs H Q E,sp vs H Q E→vs.length=ps.length)
  (hbody:∀ (A:Around) (outer:List Env) (s:Shared) (H:Hp) (vs:List V) (Q:VK) (E:XK),ic k (A.deeper (envOfC qual scope s.heap.objs.size f cdv))→sp vs H Q E →
    ∃ t,tu (qt CX P w K mg base N qual scope f cdv A outer s H E) body t∧t { nx:=fun _ H'=>Q .non H',rt:=Q } (start N vs) H) :
  bx P w K mg base CX (k+1) f (P4 name qual params body scope dV kV doc pm an cdv ct) ps sp:=by
  refine ⟨len,fun A outer s H args us vs Q E hr e0 hb r qk=>?_⟩
  have hl:=len _ _ _ _ qk
  have KX:K.In s.heap:=e0.mod.kin.keeps fun b o e=>(e0.bs b o e).1
  have lim:s.heap.NoLimit:=e0.mod.nolimit.keeps fun b o e=>(e0.bs b o e).1
  have hkind:∀ y∈ps.zip us,scope.names.lookup y.1=some .local∨(scope.names.lookup y.1=some .cell∧((cellsFrom (s.heap.objs.size+1) scope.names []).lookup y.1).isSome=true):=fun ⟨n,v⟩ hy=>by
   rcases S.par n (SE hy).1 with q | q
   ·exact .inl q
   ·exact .inr ⟨q,PySem.W.cellsFrom_some _ _ _ (.inl q)⟩
  refine codeAny_call_function hr.depth (KX _ _ lk) rfl S.co S.gen rfl (PySem.W.codeRec_of KX hcd) (hb _ _ _ _ ?_)
  refine wpAny_newFunctionEnv_cells S.kind hkind fun env he s1 x=>?_
  subst he
  refine ⟨lim.keeps x.toInCall.keep,codeAny_func ?_⟩
  obtain ⟨t,ht,hq⟩:=hbody A outer s H vs Q E (hr.deeper _) qk
  have I:Inv (qt CX P w K mg base N qual scope f cdv A outer s H E) [] (start N vs) H s1:=xM S hr.hd e0 hl r x
  refine OP (ht [] s1 (start N vs) H _ I hq) (fun fl s' hs=>?_) fun e s' hs=>hs
  have fin:∀ {σ':St} {H':Hp} {v:V} {u:Value},Inv (qt CX P w K mg base N qual scope f cdv A outer s H E) [] σ' H' s'→RelV v u→Q v H'→CE outer P w H s Q u s' :=
   fun {σ' H' v u} J rv q=>⟨v,H',J.os,J.bare,J.base,J.hok,rv,q⟩
  cases fl with
  | ret u =>
   obtain ⟨v,σ',H',J,rv,q⟩:=hs
   exact fin J rv q
  | next =>
   obtain ⟨σ',H',J,q⟩:=hs
   exact fin (v:=V.non) (u:=O4) J rfl q
  | brk =>
   obtain ⟨_,_,_,q⟩:=hs
   exact O2 q
  | cont =>
   obtain ⟨_,_,_,q⟩:=hs
   exact O2 q
section
variable {id T:String}
noncomputable def Ny (r:List V→Hp→VK→Prop) (t:TA):TE:=fun σ H Q=>t σ H fun vs H1=>r vs H1 Q
theorem zO (hc:gj X (.builtin id) r) (hg:Gl X x) (hm:X.mg x=none) (hv:bootBuiltins x=some (.builtin id)) (ha:PA X (e::es) t) (hn:x≠"__name__":=by decide) (hdb:(x == ("__debug__":Str))=false:=by decide)
 (he:starEach (e::es) X.env=(false,eval e X.env)::starEach es X.env:=by rfl) (hpl:(backTo pos (starEach es X.env)).any (·.1)=false:=by rfl):PE X (.Call (.Name x p) (e::es) [] pos) (Ny r t):=by
 intro aa s σ H Q I h
 refine PU (dG I hg hm hv ?_ hn hdb)
 exact Ti (bC (ha pos aa s σ H _ I h) fun us s1 ⟨vs,H1,I1,r1,q1⟩=>hc aa s1 σ H1 vs us Q I1 r1 q1) he hpl
theorem nv (hc:gj X (.type T) r) (hg:Gl X x) (hm:X.mg x=none) (hv:bootBuiltins x=some (.type T)) (ha:PA X (e::es) t) (hn:x≠"__name__":=by decide) (hdb:(x == ("__debug__":Str))=false:=by decide)
 (he:starEach (e::es) X.env=(false,eval e X.env)::starEach es X.env:=by rfl) (hpl:(backTo pos (starEach es X.env)).any (·.1)=false:=by rfl):PE X (.Call (.Name x p) (e::es) [] pos) (Ny r t):=by
 intro aa s σ H Q I h
 refine PU (dG I hg hm hv ?_ hn hdb)
 exact Rk (bC (ha pos aa s σ H _ I h) fun us s1 ⟨vs,H1,I1,r1,q1⟩=>hc aa s1 σ H1 vs us Q I1 r1 q1) he hpl
end
end L2
namespace HT
open PySem PyProof.Rows
noncomputable def lexLt:List Int→List Int→Bool
 | [],[]=>false
 | [],_::_=>true
 | _::_,[]=>false
 | x::xs,y::ys=>if x=y then lexLt xs ys else decide (x<y)
theorem cC (x y) (xs ys):lexLt (x::xs) (y::ys)=if x=y then lexLt xs ys else decide (x<y):=rfl
theorem ig:lexLt [] []=false:=rfl
theorem gm (y) (ys):lexLt [] (y::ys)=true:=rfl
theorem gn (x) (xs):lexLt (x::xs) []=false:=rfl
theorem zP (A:Around) (s) (a) (t:Tok) (c) (u:Tok):∃ e,Oz A s (.int a t) (.int c u) e∧(e=true↔a=c) :=
 ⟨(a == c),Oz.int_int a t c u,by simp⟩
theorem zQ (A:Around) (s) (a) (t:Tok) (c) (u:Tok) (prog) (w) (E) (Q) (h:Q (.bool (decide (a<c))) s) :
 wpAny (model prog w) A (richCompare .Lt (.int a t) (.int c u)) Q E s :=
 (PyProof.Rows.lt_int h:wpAny (model prog w) A (compareOp .Lt (.int a t) (.int c u)) Q E s)
section
open PySem.SeqAt
open PySem.AutoSeq1 (wpAny_loadPart')
open PySem.MeetsSeq PySem.MeetsSeq2 PySem.MeetsSeq3
theorem ir (l b) (items items2) (n n2) (dd dd2) (sl sl2) (ns ms) (hi:IntsAre items.toList ns) (hj:IntsAre items2.toList ms) :
 Meets (Builtin.«tuple.__lt__» ⟨[.ref l,.ref b],[]⟩)
  (fun _ R s=>s.heap.get? l=some { cls:=.type "tuple",dict:=dd,data:=.seq items n,slots:=sl }∧s.heap.get? b=some { cls:=.type "tuple",dict:=dd2,data:=.seq items2 n2,slots:=sl2 } ∧
    R (.ok (.ret (.bool (lexLt ns ms)))) s) :=
 .of_wp fun prog w A R s h=>by
  obtain ⟨hp,g,d,tk,os⟩:=s; obtain ⟨hl,hb,h⟩:=h
  have f2:=AutoSeq1.sub_tuple_tuple
  have z1:items.size=ns.length:=by rw [← hi.length]; simp
  have z2:items2.size=ms.length:=by rw [← hj.length]; simp
  wp_walk using wpAny_loadPart' hl,wpAny_loadPart' hb,wpAny_forIn_list _ (fun rest b s'=>b.1=none∧s'=⟨hp,g,d,tk,os⟩∧∃ (vs ws:List Value) (ns' ms':List Int),rest=vs.zip ws ∧
   IntsAre vs ns'∧IntsAre ws ms'∧ns'.length+items2.size=ms'.length+items.size∧R (.ok (.ret (.bool (lexLt ns' ms')))) ⟨hp,g,d,tk,os⟩) _
  case turn =>
   rintro ⟨y,x⟩ rest b s' ⟨hb',rfl,vs,ws,ns',ms',hz,hvi,hwi,hlen,hR⟩
   cases hvi with
   | nil=>rw [List.zip_nil_left] at hz; cases hz
   | cons a t hvi' =>
    cases hwi with
    | nil=>rw [List.zip_nil_right] at hz; cases hz
    | cons c u hwi' =>
     rw [Sk] at hz
     injection hz with hyx hrest
     injection hyx with hy hx
     subst hy hx
     rw [cC] at hR
     simp only [OF] at hlen
     obtain ⟨e,he,hiff⟩:=zP A.in1 ⟨hp,g,d,tk,os⟩ a t c u
     refine NX (he prog w _ _ ?_)
     cases e with
     | true =>
      rw [if_pos (hiff.mp rfl)] at hR
      wp_walk
      exact ⟨rfl,rfl,_,_,_,_,hrest,hvi',hwi',by lia,hR⟩
     | false =>
      rw [if_neg (fun q=>absurd (hiff.mpr q) Oe)] at hR
      have hri:=zQ A.in1 ⟨hp,g,d,tk,os⟩ a t c u prog w
      wp_walk using hri
      exact ⟨_,rfl,by simpa using hR⟩
  case fin =>
   rintro ⟨b1,b2⟩ s' ⟨hb',rfl,vs,ws,ns',ms',hz,hvi,hwi,hlen,hR⟩
   simp only at hb'
   subst hb'
   have hv:lexLt ns' ms'=decide (items.size<items2.size):=by
    cases hvi with
    | nil =>
     cases hwi with
     | nil =>
      simp only [PV] at hlen
      rw [ig]
      exact (decide_eq_false (by lia)).symm
     | cons c u hw =>
      simp only [PV,OF] at hlen
      rw [gm]
      exact (decide_eq_true (by lia)).symm
    | cons a t hv =>
     cases hwi with
     | nil =>
      simp only [PV,OF] at hlen
      rw [gn]
      exact (decide_eq_false (by lia)).symm
     | cons c u hw =>
      rw [Sk] at hz
      cases hz
   rw [hv] at hR
   wp_walk
   exact ⟨_,rfl,by simpa [Builtin.Tuple.tupleCompareSizes] using hR⟩
  case h =>
   exact ⟨rfl,rfl,items.toList,items2.toList,ns,ms,rfl,hi,hj,by lia,h⟩
end
section
theorem tN (hl:IsTup s.heap l items) (hb:IsTup s.heap b items2) (hi:IntsAre items.toList ns) (hj:IntsAre items2.toList ms)
 (hu:A.units<cLine) (h:Q (.bool (lexLt ns ms)) s):wpAny (model prog w) A (compareOp .Lt (.ref l) (.ref b)) Q E s:=by
 obtain ⟨⟨cls,dd,data,sl⟩,ho,hc,n,hd⟩:=id hl
 obtain ⟨⟨cls2,dd2,data2,sl2⟩,ho2,hc2,n2,hd2⟩:=id hb
 simp only at hc hd hc2 hd2
 subst hc hd hc2 hd2
 exact richCompare_meets_room (op:=.Lt) ⟨_,ho,rfl⟩ ⟨_,ho2,rfl⟩ TJ PySem.F.entry_tuple_lt (PySem.F.args_tuple_lt_2 _ _) (ir l b items items2 n n2 dd dd2 sl sl2 ns ms hi hj)
  ⟨ho,ho2,show Value.bool (lexLt ns ms)≠Value.notImplemented∧Q (.bool (lexLt ns ms)) s from ⟨(fun x=>nomatch x),h⟩⟩ hu
noncomputable def cg (n d:Nat):Option Int→Nat
 | none=>d
 | some v=>if v<0 then (v+(n:Int)).toNat else min v.toNat n
theorem Hr (n d) (hd:d≤n) (o):cg n d o≤n:=by
 cases o with
 | none=>exact hd
 | some v =>
  show (if v<0 then (v+(n:Int)).toNat else min v.toNat n)≤n
  by_cases hv:v<0
  ·rw [if_pos hv]; lia
  ·rw [if_neg hv]; exact Nat.min_le_right _ _
theorem vA (v) (n d:Nat):(if v<0 then max (v+(n:Int)) 0 else min v (n:Int))=((cg n d (some v):Nat):Int):=by
 show (if v<0 then max (v+(n:Int)) 0 else min v (n:Int))=(((if v<0 then (v+(n:Int)).toNat else min v.toNat n):Nat):Int)
 by_cases hv:v<0
 ·simp only [if_pos hv]; lia
 ·simp only [if_neg hv]; lia
theorem tO (lo hi) (n:Nat):Tp lo hi 1 (n:Int)=(((cg n 0 lo:Nat):Int),((cg n n hi:Nat):Int)):=by
 have h1:¬ ((1:Int)<0):=by lia
 unfold Tp
 simp only [h1,if_false]
 refine Prod.ext ?_ ?_
 ·cases lo with
  | none=>rfl
  | some v=>exact vA v n 0
 ·cases hi with
  | none=>rfl
  | some v=>exact vA v n n
theorem tP (i j:Nat):RY (i:Int) (j:Int) 1=j - i:=by
 unfold RY
 have h1:(1:Int)>0:=by lia
 simp only [h1,if_true,Int.ediv_one]
 split <;> lia
theorem kT (p:IsPart v o) (h:Q o s):wpAny (model prog w) A (Builtin.Slice.slicePartIndex v) Q E s:=by
 cases p with
 | none=>exact slicePart_none h
 | int i t=>exact slicePart_int h
theorem fC {sl:Addr} {vl vu:Value} {lo hi:Option Int} {n:Nat} {Q:Int×Int×Nat→Shared→Prop} (hs:s.heap.IsSliceOf sl vl vu .none) (pl:IsPart vl lo) (pu:IsPart vu hi)
 (h:Q (((cg n 0 lo:Nat):Int),1,cg n n hi - cg n 0 lo) s):wpAny (model prog w) A (Builtin.Slice.sliceApplied (.ref sl) (pure (n:Int))) Q E s:=by
 obtain ⟨os,hos,hcs,hds⟩:=id hs
 unfold Builtin.Slice.sliceApplied Builtin.Slice.sliceFields
 refine NX (NX (P5 hos hds (x:=vl) rfl (NX (P5 hos hds (x:=vu) rfl (NX (P5 hos hds (x:=.none) rfl (N1 ?_)))))))
 refine NX (slicePart_none ?_)
 show wpAny _ _ (if ((1:Int) == 0)=true then _ else _) _ _ s
 rw [if_neg (by decide)]
 refine NX (kT pl (NX (kT pu (NX (N1 ?_)))))
 show wpAny _ _ (match Tp lo hi 1 (n:Int) with | (lo,hi)=>pure (lo,(1:Int),RY lo hi 1)) _ _ s
 rw [tO lo hi n]
 show wpAny _ _ (pure (((cg n 0 lo:Nat):Int),(1:Int),RY ((cg n 0 lo:Nat):Int) ((cg n n hi:Nat):Int) 1)) _ _ s
 rw [tP]
 exact N1 h
theorem zR (xs:Array Value) (i k:Nat):((OQ k).filterMap fun (m:Nat)=>xs[((i:Int)+(m:Int) * 1).toNat]?).toArray=((xs.toList.drop i).take k).toArray:=by
 have e:(fun (m:Nat)=>xs[((i:Int)+(m:Int) * 1).toNat]?)=fun m=>xs[i+m]?:=by
  funext m
  have:((i:Int)+(m:Int) * 1).toNat=i+m:=by lia
  rw [this]
 rw [e]
 have:=pick_run xs i k
 rw [TY] at this
 have e2:((fun x=>xs[x]?)∘fun x=>i+x)=fun m=>xs[i+m]?:=rfl
 rw [e2] at this
 rw [this]
theorem iU {lo hi:Option Int} (ht:IsTup s.heap t items) (hs:s.heap.IsSliceOf sl vl vu .none) (pl:IsPart vl lo) (pu:IsPart vu hi)
 (hw:¬ (cg items.size 0 lo=0∧cg items.size items.size hi=items.size))
 (h:Q (.ref s.heap.objs.size) { s with heap:=s.heap.push { cls:=.type "tuple",data:=.seq ((items.toList.drop (cg items.size 0 lo)).take (cg items.size items.size hi - cg items.size 0 lo)).toArray } })
 (hsz:items.size≤sizeLine):wpAny (model prog w) A (getItem (.ref t) (.ref sl)) Q E s:=by
 have htake:sizeOk (.seq ((items.toList.drop (cg items.size 0 lo)).take (cg items.size items.size hi - cg items.size 0 lo)).toArray):=by
  show ((items.toList.drop (cg items.size 0 lo)).take (cg items.size items.size hi - cg items.size 0 lo)).toArray.size≤sizeLine
  rw [Ot,Pc,List.length_drop,OU]
  lia
 have hj:cg items.size items.size hi≤items.size:=Hr _ _ (N3 _) hi
 obtain ⟨os,hos,hcs,hds⟩:=id hs
 have hTs:s.TypeIs (.ref sl) "slice":=⟨os,hos,hcs⟩
 unfold getItem
 try with_reducible refine OS ?_
 first | refine NX (N1 ?_) | skip
 refine NX (T4 ht.typeIs (by decide) ?_)
 refine NX (Qg (name:=NY "__getitem__") ht.typeIs QN
  (PD QN ht.typeIs entry_tuple_getitem ?_ (args_tuple_getitem _ _)))
 show wpAny _ _ (Builtin.Tuple.tupleItemsOf (.ref t) >>= _) _ _ s
 refine NX (tupleItemsOf_ ht ?_)
 refine NX (Qo hTs ?_)
 rw [if_pos (by decide)]
 refine NX (fC hs pl pu ?_)
 have hno:¬ ((((cg items.size 0 lo:Nat):Int) == 0 && (1:Int) == 1 && (cg items.size items.size hi - cg items.size 0 lo) == items.size)=true):=by
  intro q
  rw [Rt,Rt] at q
  have q1:((cg items.size 0 lo:Nat):Int)=0:=eq_of_beq q.1.1
  have q2:cg items.size items.size hi - cg items.size 0 lo=items.size:=eq_of_beq q.2
  exact hw ⟨by lia,by lia⟩
 show wpAny _ _ (if (((cg items.size 0 lo:Nat):Int) == 0 && (1:Int) == 1 && (cg items.size items.size hi - cg items.size 0 lo) == items.size)=true then _ else _) _ _ s
 rw [if_neg hno,zR]
 first
  | exact NX (m:=R3 _) (O6 (N1 ⟨_,rfl,N1 h⟩) htake)
  | exact NX (m:=R3 _) (O6 (NX (N1 (N1 ⟨_,rfl,N1 h⟩))) htake)
  | exact NX (NX (m:=R3 _) (O6 (N1 (N1 ⟨_,rfl,N1 h⟩)) htake))
  | exact NX (NX (m:=R3 _) (O6 (N1 ⟨_,rfl,N1 h⟩) htake))
end
end HT
namespace L2
open PySem PySem.Spec PyProof.Rows
noncomputable abbrev TO:=St→Hp→(Option Int→Hp→Prop)→Prop
noncomputable def PO (X:Cx) (e:Option Expr) (t:TO):Prop :=
 ∀ (aa:List (Addr×Obj)) (s:Shared) (σ:St) (H:Hp) (Q:Option Int→Hp→Prop),Inv X aa σ H s→t σ H Q →
  wpAny (model X.prog X.w) X.A (evalPart e X.env) (fun u s'=>∃ o H',Inv X aa σ H' s'∧IsPart u o∧Q o H') X.xe s
noncomputable def DL:TO:=fun _ H Q=>Q none H
noncomputable def Kv (t:TE):TO:=fun σ H Q=>t σ H fun x H1=>∃ i,x=.int i∧Q (some i) H1
theorem intsAre_of:∀ {us:List Value},Vals (ns.map V.int) us→IntsAre us ns:=by
 induction ns with
 | nil=>intro us r; rw [QG] at r; cases r; exact .nil
 | cons n ns ih =>
  intro us r
  rw [N5] at r
  cases r with
  | cons r1 r2 =>
   obtain ⟨t,e⟩:=r1
   subst e
   exact .cons n t (ih r2)
section
variable {lo hi:Option Expr}
theorem DM:PO X none DL:=by
 intro aa s σ H Q I h
 rw [evalPart_none]
 exact N1 ⟨none,H,I,.none,h⟩
theorem DN (h:PE X e te):PO X (some e) (Kv te):=by
 intro aa s σ H Q I hw
 rw [evalPart_some]
 refine bC (h aa s σ H _ I hw) fun u s1 ⟨x,H1,I1,r1,q1⟩=>?_
 obtain ⟨i,rfl,q⟩:=q1
 obtain ⟨t,rfl⟩:=r1
 exact ⟨some i,H1,I1,.int i t,q⟩
noncomputable def Dr (X:Cx) (r:V→Option Int→Option Int→Hp→VK→Prop):Prop :=
 ∀ (aa:List (Addr×Obj)) (s:Shared) (σ:St) (H:Hp) (x:V) (v vl vu:Value) (lo hi:Option Int) (sl:Addr) (Q:VK),Inv X aa σ H s→RelV x v→s.heap.IsSliceOf sl vl vu .none→IsPart vl lo→IsPart vu hi→r x lo hi H Q →
  ∃ T id,typeLookup (.type T) "__getitem__"=pure (some (.builtin id))∧s.TypeIs v T∧wpAny (model X.prog X.w) X.A (getItem v (.ref sl)) (EP X aa σ Q) X.xe s
theorem Dr.or (h:Dr X r) (h':Dr X r'):Dr X (fun x lo hi H Q=>r x lo hi H Q∨r' x lo hi H Q):=by
 intro aa s σ H x v vl vu lo hi sl Q I rx hs pl pu q
 rcases q with q | q
 ·exact h aa s σ H x v vl vu lo hi sl Q I rx hs pl pu q
 ·exact h' aa s σ H x v vl vu lo hi sl Q I rx hs pl pu q
noncomputable def NR (r:V→Option Int→Option Int→Hp→VK→Prop) (te:TE) (tl th:TO):TE:=fun σ H Q=>te σ H fun x H1=>tl σ H1 fun l H2=>th σ H2 fun u H3=>r x l u H3 Q
theorem zS (hr:Dr X r) (he:PE X e te) (hl:PO X lo tl) (hu:PO X hi th):PE X (.Subscript e (.Slice lo hi none p2) pos) (NR r te tl th):=by
 intro aa s σ H Q I h
 refine Subscript_ (bC (he aa s σ H _ I h) fun v s1 ⟨x,H1,I1,r1,q1⟩=>?_)
 refine wpAny_Slice (bC (hl aa s1 σ H1 _ I1 q1) fun vl s2 ⟨l,H2,I2,pl,q2⟩=>bC (hu aa s2 σ H2 _ I2 q2) fun vu s3 ⟨u,H3,I3,pu,q3⟩=>?_)
 rw [evalPart_none]
 refine N1 ?_
 have I4:Inv X aa σ H3 { s3 with heap:=s3.heap.push { cls:=.type "slice",data:=.fields #[vl,vu,.none] } }:=I3.kept (t':=s3.toks) fun b ob q=>N7 _ q
 obtain ⟨T,id,hT,ht,hg⟩:=hr aa { s3 with heap:=s3.heap.push { cls:=.type "slice",data:=.fields #[vl,vu,.none] } } σ H3 x v vl vu l u s3.heap.objs.size Q I4 r1 (Heap.IsSliceOf.new ..) pl pu q3
 show wpAny (model X.prog X.w) X.A (subscriptTail e (.Slice lo hi none p2) v (.ref s3.heap.objs.size)) (EP X aa σ Q) X.xe { s3 with heap:=s3.heap.push { cls:=.type "slice",data:=.fields #[vl,vu,.none] } }
 exact tail_any (ops:=[.ref s3.heap.objs.size,v]) ht hT hg (by walk_at "u")
noncomputable def oG (xs:List V) (lo hi:Option Int):List V:=(xs.drop (HT.cg xs.length 0 lo)).take (HT.cg xs.length xs.length hi - HT.cg xs.length 0 lo)
theorem j0 (xs) (lo hi):(oG xs lo hi).length≤xs.length:=by
 unfold oG
 rw [Pc,List.length_drop]
 lia
noncomputable def MO (K:NZ):V→Option Int→Option Int→Hp→VK→Prop:=fun x lo hi H Q=>∃ a xs,x=.ref a∧cV K H a xs ∧
 ¬ (HT.cg xs.length 0 lo=0∧HT.cg xs.length xs.length hi=xs.length)∧∀ p,H p=none→Q (.ref p) (upd H p (.tup (oG xs lo hi)))
theorem Hs:Dr X (MO X.K):=by
 intro aa s σ H x v vl vu lo hi sl Q I rx hs pl pu h
 obtain ⟨a,xs,rfl,hx,hw,q⟩:=h
 cases rx
 obtain ⟨its,r,ht,hz⟩:=I.tuple hx
 have hlen:its.toArray.size=xs.length:=by rw [Ot]; exact r.length.symm
 refine ⟨"tuple",_,QN.lookup,ht.typeIs,?_⟩
 refine HT.iU ht hs pl pu (by rw [hlen]; exact hw) ?_ (by rw [hlen]; exact hz)
 rw [hlen]
 refine ⟨.ref s.heap.objs.size,_,I.laid (t':=s.toks) (o:=.tup (oG xs lo hi)) (fun b ob q=>N7 _ q) (N3 _) ?_,rfl,q _ (I.hok.fresh (N3 _))⟩
 exact ⟨Od (j0 xs lo hi) hz,_,(r.drop (HT.cg xs.length 0 lo)).take (HT.cg xs.length xs.length hi - HT.cg xs.length 0 lo),IsTup.new _ _⟩
theorem Vals.vB (r:Vals xs us):us=[]↔xs=[]:=by
 cases r with
 | nil=>simp
 | cons _ _=>simp
end
noncomputable def JV (n:Nat) (i:Int):Option Nat:=if 0≤i then (if i<n then some i.toNat else none) else if -(n:Int)≤i then some (i+n).toNat else none
noncomputable def jB {α:Type} (xs:List α) (i:Int):Option α:=(JV xs.length i).bind fun j=>xs[j]?
theorem DO (h:JV n i=some j):seqIndex? i n=some j∧j<n∧ -(n:Int)≤i∧i<n:=by
 unfold JV at h
 by_cases h0:0≤i
 ·rw [if_pos h0] at h
  by_cases h1:i<n
  ·rw [if_pos h1] at h
   have e:i.toNat=j:=PF h
   exact ⟨by rw [seqIndex_of h0 h1,e],by lia,by lia,h1⟩
  ·rw [if_neg h1] at h; cases h
 ·rw [if_neg h0] at h
  by_cases h1: -(n:Int)≤i
  ·rw [if_pos h1] at h
   have e:(i+n).toNat=j:=PF h
   exact ⟨by rw [seqIndex_neg (by lia) h1,e],by lia,h1,by lia⟩
  ·rw [if_neg h1] at h; cases h
theorem vC (h:jB xs i=some v):∃ j,seqIndex? i xs.length=some j∧xs[j]?=some v∧j<xs.length∧ -(xs.length:Int)≤i∧i<xs.length:=by
 unfold jB at h
 cases e:JV xs.length i with
 | none=>rw [e] at h; cases h
 | some j =>
  rw [e] at h
  obtain ⟨h1,h2,h3,h4⟩:=DO e
  exact ⟨j,h1,h,h2,h3,h4⟩
noncomputable def iV (b:Expr):Prop:=∀ o i,subscripted b false o i=operate [o,i] (getItem o i)
noncomputable def F3 (X:Cx) (r:R2):Prop :=
 ∀ (value slice:Expr) (aa:List (Addr×Obj)) (s:Shared) (σ:St) (H:Hp) (x y:V) (v u:Value) (Q:VK),Inv X aa σ H s→RelV x v→RelV y u→r x y H Q →
  subscripted slice false v u=operate [v,u] (getItem v u)→wpAny (model X.prog X.w) X.A (subscriptTail value slice v u) (EP X aa σ Q) X.xe s
noncomputable def MQ (X:Cx) (id:String) (r:V→List V→Hp→VK→Prop):Prop :=
 ∀ (aa:List (Addr×Obj)) (s:Shared) (σ:St) (H:Hp) (x:V) (xs:List V) (v:Value) (us:List Value) (Q:VK),Inv X aa σ H s→RelV x v→Vals xs us→r x xs H Q →
  wpAny (model X.prog X.w) X.A (call (.builtin id) (v::us)) (EP X aa σ Q) X.xe s
section
theorem F3.or (h:F3 X r) (h':F3 X r'):F3 X (fun x y H Q=>r x y H Q∨r' x y H Q):=by
 intro value slice aa s σ H x y v u Q I rx ry q hs
 rcases q with q | q
 ·exact h value slice aa s σ H x y v u Q I rx ry q hs
 ·exact h' value slice aa s σ H x y v u Q I rx ry q hs
theorem F4 (hr:F3 X r) (ha:PE X a ta) (hb:PE X b tb) (hs:iV b):PE X (.Subscript a b pos) (Mf r ta tb):=by
 intro aa s σ H Q I h
 exact Subscript_ (G6 ha hb I h fun v u s2 x y H2 I2 rx ry q=>hr a b aa s2 σ H2 x y v u Q I2 rx ry q (hs _ _))
noncomputable def MR (K:NZ):R2:=fun x y H Q=>∃ p xs i v,x=.ref p∧y=.int i∧gh K H p xs∧jB xs i=some v∧Q v H
noncomputable def MS (K:NZ):R2:=fun x y H Q=>∃ p xs i v,x=.ref p∧y=.int i∧cV K H p xs∧jB xs i=some v∧Q v H
theorem vD:F3 X (MR X.K):=by
 intro value slice aa s σ H x y v u Q I rx ry h hs
 obtain ⟨p,xs,i,z,rfl,rfl,hq,he,q⟩:=h
 cases rx
 obtain ⟨t,rfl⟩:=ry
 obtain ⟨its,r,pl,hz⟩:=I.list hq
 obtain ⟨j,h1,h2,h3,h4,h5⟩:=vC he
 obtain ⟨w,ew,rw'⟩:=r.get h2
 have hl:=r.length
 have hn:=oF
 have fin:EP X aa σ Q w s:=⟨z,H,I,rw',q⟩
 by_cases h0:0≤i
 ·have hj:i.toNat=j:=by
   rw [seqIndex_of h0 h5] at h1
   exact PF h1
  exact item_listR pl.isList h0 (by lia) (by rw [hj]; simpa using ew) fin hs
 ·have hj:(i+(its.toArray.size:Int)).toNat=j:=by
   rw [seqIndex_neg (by lia) h4] at h1
   rw [Ot,← hl]
   exact PF h1
  exact subscriptTail_builtinR (x:=w) pl.isList.typeIs T6.lookup
   (wpAny_getItem_list_neg (Q:=fun r s'=>r=w∧EP X aa σ Q r s') pl.isList (by lia) (by rw [Ot] <;> lia) (by lia) (by rw [hj]; simpa using ew) ⟨rfl,fin⟩) hs
theorem Ht:F3 X (MS X.K):=by
 intro value slice aa s σ H x y v u Q I rx ry h hs
 obtain ⟨p,xs,i,z,rfl,rfl,hq,he,q⟩:=h
 cases rx
 obtain ⟨t,rfl⟩:=ry
 obtain ⟨its,r,pl,hz⟩:=I.tuple hq
 obtain ⟨j,h1,h2,h3,h4,h5⟩:=vC he
 obtain ⟨w,ew,rw'⟩:=r.get h2
 have hl:=r.length
 have hn:=oF
 have fin:EP X aa σ Q w s:=⟨z,H,I,rw',q⟩
 exact subscriptTail_builtinR (x:=w) pl.typeIs slot_tuple_getitem.lookup
  (getItem_tuple (j:=j) (Q:=fun r s'=>r=w∧EP X aa σ Q r s') pl (by lia) (by lia) (by rw [Ot,← hl]; exact h1) (by simpa using ew) ⟨rfl,fin⟩) hs
theorem oH (lo hi) (n):(sliceBounds lo hi none n).1=((HT.cg n 0 lo:Nat):Int)∧(sliceBounds lo hi none n).2.1=((HT.cg n n hi:Nat):Int)∧(sliceBounds lo hi none n).2.2=1:=by
 refine ⟨?_,?_,rfl⟩
 ·cases lo with
  | none=>simp [sliceBounds,HT.cg]
  | some i =>
   simp only [sliceBounds,HT.cg,Option.getD_none,show (1:Int)>0 by decide,if_true]
   by_cases h:i<0
   ·simp only [h,if_true] <;> lia
   ·simp only [h,if_false] <;> lia
 ·cases hi with
  | none=>simp [sliceBounds,HT.cg]
  | some i =>
   simp only [sliceBounds,HT.cg,Option.getD_none,show (1:Int)>0 by decide,if_true]
   by_cases h:i<0
   ·simp only [h,if_true] <;> lia
   ·simp only [h,if_false] <;> lia
theorem mH (its:List Value) (lo hi):slicePick its.toArray lo hi none=((its.drop (HT.cg its.length 0 lo)).take (HT.cg its.length its.length hi - HT.cg its.length 0 lo)).toArray:=by
 obtain ⟨h1,h2,h3⟩:=oH lo hi its.toArray.size
 unfold slicePick
 rw [h1,h2,h3]
 simp only [sliceRange_one,pick_run,Ot] <;> rfl
noncomputable def MT (K:NZ):V→Option Int→Option Int→Hp→VK→Prop:=fun x lo hi H Q=>∃ a xs,x=.ref a∧gh K H a xs∧∀ p,H p=none→Q (.ref p) (upd H p (.lst (oG xs lo hi)))
theorem DP:Dr X (MT X.K):=by
 intro aa s σ H x v vl vu lo hi sl Q I rx hs pl pu h
 obtain ⟨a,xs,rfl,hx,q⟩:=h
 cases rx
 obtain ⟨its,r,ht,hz⟩:=I.list hx
 have hlen:=r.length
 refine ⟨"list",_,T6.lookup,ht.isList.typeIs,?_⟩
 refine wpAny_getItem_list_slice ht.isList hs pl pu .none (by simp) ?_ (by rw [Ot] <;> lia)
 rw [mH,← hlen]
 refine ⟨.ref s.heap.objs.size,_,I.laid (t':=s.toks) (o:=.lst (oG xs lo hi)) (fun b ob q=>N7 _ q) (N3 _) ?_,rfl,q _ (I.hok.fresh (N3 _))⟩
 exact ⟨Od (j0 xs lo hi) hz,_,0,(r.drop (HT.cg xs.length 0 lo)).take (HT.cg xs.length xs.length hi - HT.cg xs.length 0 lo),Oj _ rfl⟩
theorem oJ:gj X (.builtin "len") (fun xs H Q=>∃ p ys,xs=[.ref p]∧(gh X.K H p ys∨cV X.K H p ys)∧Q (.int ys.length) H):=by
 intro aa s σ H xs us Q I r h
 obtain ⟨p,ys,rfl,hq,q⟩:=h
 obtain ⟨u,rfl,rx⟩:=vals1 r
 cases rx
 have hn:=oF
 rcases hq with hq | hq
 ·obtain ⟨its,r',pl,hz⟩:=I.list hq
  have hlen:=r'.length
  exact Calls.call_len_list pl.isList (by simp only [Ot] <;> lia) ⟨.int ys.length,H,I.tok _,⟨s.toks+1,by rw [Ot,hlen]⟩,q⟩
 ·obtain ⟨its,r',pl,hz⟩:=I.tuple hq
  have hlen:=r'.length
  exact len_tuple pl (by simp only [Ot] <;> lia) ⟨.int ys.length,H,I.tok _,⟨s.toks+1,by rw [Ot,hlen]⟩,q⟩
theorem oM:gj X (.type "list") (fun xs H Q=>∃ p ys,xs=[.ref p]∧(gh X.K H p ys∨cV X.K H p ys)∧∀ l,H l=none→Q (.ref l) (upd H l (.lst ys))):=by
 intro aa s σ H xs us Q I r h
 obtain ⟨p,ys,rfl,hq,q⟩:=h
 obtain ⟨u,rfl,rx⟩:=vals1 r
 cases rx
 have fin:∀ (its:List Value),Vals ys its→ys.length≤sizeLine→∀ (h':Heap) (c':Nat),(∀ b o',s.heap.get? b=some o'→h'.get? b=some o') →
  h'.get? s.heap.objs.size=some { cls:=.type "list",dict:=none,data:=.seq its.toArray c',slots:= #[] }→EP X aa σ Q (.ref s.heap.objs.size) { s with heap:=h' }:=fun its r' hz h' c' kp e =>
  ⟨.ref s.heap.objs.size,_,I.laid (t':=s.toks) kp (N3 _) (show bh X.prog X.w _ h' _ (.lst ys) from ⟨hz,its,c',r',e⟩),rfl,q _ (I.hok.fresh (N3 _))⟩
 rcases hq with hq | hq
 ·obtain ⟨its,r',pl,hz⟩:=I.list hq
  have hlen:=r'.length
  obtain ⟨o,ho,hc,n,hd⟩:=pl.isList
  exact call_list_seq p (.inl rfl) ho hc hd (fun h' c' kp e=>fin its r' hz h' c' kp e) (by simp only [Ot] <;> lia)
 ·obtain ⟨its,r',pl,hz⟩:=I.tuple hq
  have hlen:=r'.length
  obtain ⟨o,ho,hc,n,hd⟩:=pl
  exact call_list_seq p (.inr rfl) ho hc hd (fun h' c' kp e=>fin its r' hz h' c' kp e) (by simp only [Ot] <;> lia)
theorem mJ:gj X (.type "tuple") (fun xs H Q=>∃ p ys,xs=[.ref p]∧((gh X.K H p ys∧∀ l,H l=none→Q (.ref l) (upd H l (.tup ys)))∨(cV X.K H p ys∧Q (.ref p) H))):=by
 intro aa s σ H xs us Q I r h
 obtain ⟨p,ys,rfl,h⟩:=h
 obtain ⟨u,rfl,rx⟩:=vals1 r
 cases rx
 rcases h with ⟨hq,q⟩ | ⟨hq,q⟩
 ·obtain ⟨its,r',pl,hz⟩:=I.list hq
  have hlen:=r'.length
  refine call_tuple_list pl.isList (fun h' kp=>?_) (by simp only [Ot] <;> lia)
  have I1:Inv X aa σ H { s with heap:=h' }:=I.kept (t':=s.toks) kp
  have I2:Inv X aa σ (upd H h'.objs.size (.tup ys)) { s with heap:=h'.push { cls:=.type "tuple",data:=.seq its.toArray } } :=
   I1.laid (t':=s.toks) (fun b o e=>N7 _ e) (N3 _) (show bh X.prog X.w _ _ _ (.tup ys) from ⟨hz,its,r',IsTup.new _ _⟩)
  exact ⟨.ref h'.objs.size,_,I2,rfl,q _ (I1.hok.fresh (N3 _))⟩
 ·obtain ⟨its,r',pl,hz⟩:=I.tuple hq
  exact call_tuple_same pl ⟨.ref p,H,I,rfl,q⟩
noncomputable def MU (K:NZ) (T:String) (x:V) (H:Hp):Prop:=match x with
 | .str _=>T="str"
 | .int _=>T="int"
 | .ref p=>(T="list"∧∃ xs,gh K H p xs)∨(T="tuple"∧∃ o,K.lookup p=some o∧o.cls=.type "tuple"∧o.dict=none) ∨
  (T="dict"∧((∃ kvs,H p=some (.dK kvs))∨∃ kvs,H p=some (.dT kvs)))∨(T="set"∧∃ S n,H p=some (.set S n))
 | _=>False
theorem zT (I:Inv X aa σ H s) (r:RelV x v) (ty:MU X.K T x H) :
 s.TypeIs v T∧∀ a,v=.ref a→∃ ob,s.heap.get? a=some ob∧ob.dict=none:=by
 cases x with
 | str z =>
  obtain ⟨t,rfl⟩:=r
  cases (show T="str" from ty)
  exact ⟨typeIs_str s z t,fun _ e=>nomatch e⟩
 | int i =>
  obtain ⟨t,rfl⟩:=r
  cases (show T="int" from ty)
  exact ⟨Rf s i t,fun _ e=>nomatch e⟩
 | ref p =>
  cases r
  rcases ty with ⟨rfl,xs,hq⟩ | ⟨rfl,o,hk,hc,hd⟩ | ⟨rfl,hk⟩ | ⟨rfl,S,n,hk⟩
  ·obtain ⟨its,_,pl,_⟩:=I.list hq
   refine ⟨pl.isList.typeIs,fun a e=>?_⟩
   cases e
   obtain ⟨o,n,e,c,hd,_⟩:=pl
   exact ⟨o,e,hd⟩
  ·refine ⟨⟨o,I.oB p o hk,hc⟩,fun a e=>?_⟩
   cases e
   exact ⟨o,I.oB _ o hk,hd⟩
  ·have z:∃ o,s.heap.get? p=some o∧o.ExactDict:=by
    rcases hk with ⟨kvs,hk⟩ | ⟨kvs,hk⟩
    ·obtain ⟨_,_,_,_,o,_,_,e,ex,_⟩:=I.hok p _ hk
     exact ⟨o,e,ex⟩
    ·obtain ⟨_,_,_,_,o,_,_,e,ex,_⟩:=I.hok p _ hk
     exact ⟨o,e,ex⟩
   obtain ⟨o,e,ex⟩:=z
   refine ⟨⟨o,e,ex.1⟩,fun a e2=>?_⟩
   cases e2
   exact ⟨o,e,ex.2.1⟩
  ·obtain ⟨o,_,_,_,e,ex,_⟩:=I.hok p _ hk
   refine ⟨⟨o,e,ex.1⟩,fun a e2=>?_⟩
   cases e2
   exact ⟨o,e,ex.2.1⟩
 | _=>exact O2 ty
noncomputable def MV (K:NZ) (T:String) (r:V→List V→Hp→VK→Prop) (to:TE):TE:=fun σ H Q=>to σ H fun x H1=>MU K T x H1∧r x [] H1 Q
noncomputable def NS (K:NZ) (T:String) (r:V→List V→Hp→VK→Prop) (to:TE) (t:TA):TE:=fun σ H Q=>to σ H fun x H1=>MU K T x H1∧t σ H1 fun xs H2=>r x xs H2 Q
variable {T id:String}
theorem Hu (pa:PlainAttrs T) (slot:Slot T name id) (hty:typeOf (.builtin id)=pure (.type "method_descriptor")) (hm:MQ X id r) (ho:PE X o to)
 (hbase:attributeBase o name X.env (eval o X.env)=eval o X.env:=by rfl) (hline:(apos.endLine == cpos.line)=true:=by rfl):PE X (.Call (.Attribute o name apos) [] [] cpos) (MV X.K T r to):=by
 intro aa s σ H Q I h
 refine wpAny_Call_method0_late hbase hline (bC (ho aa s σ H _ I h) fun v s1 ⟨x,H1,I1,r1,ty,q1⟩=>?_)
 obtain ⟨h1,h2⟩:=zT I1 r1 ty
 exact ⟨T,id,pa,slot,hty,h1,h2,TH rfl (PySem.evalArgs_none (hm aa s1 σ H1 x [] v [] Q I1 r1 .nil q1))⟩
theorem F5 (pa:PlainAttrs T) (slot:Slot T name id) (hty:typeOf (.builtin id)=pure (.type "method_descriptor")) (hm:MQ X id r) (ho:PE X o to) (ha:PA X (e::es) t)
 (hbase:attributeBase o name X.env (eval o X.env)=eval o X.env:=by rfl)
 (hfew:((backTo cpos (starEach (e::es) X.env)).all (fun x=> !x.1) && (backToKw cpos (keywordEach [] X.env)).all (fun x=>x.1.isSome)
   && decide ((e::es).length+([]:List Keyword).length+(if ([]:List Keyword).isEmpty then 0 else 1)<30))=true:=by rfl)
 (hline:(apos.endLine == cpos.line)=true:=by rfl) (hs:starEach (e::es) X.env=(false,eval e X.env)::starEach es X.env:=by rfl) (hplain:(backTo cpos (starEach es X.env)).any (·.1)=false:=by rfl) :
 PE X (.Call (.Attribute o name apos) (e::es) [] cpos) (NS X.K T r to t):=by
 intro aa s σ H Q I h
 refine wpAny_Call_method_late hbase hfew hline rfl (bC (ho aa s σ H _ I h) fun v s1 ⟨x,H1,I1,r1,ty,q1⟩=>?_)
 obtain ⟨h1,h2⟩:=zT I1 r1 ty
 refine ⟨T,id,pa,slot,hty,h1,h2,?_⟩
 have hA:=ha cpos aa s1 σ H1 _ I1 q1
 rw [hs] at hA ⊢
 refine TH (by show (false || (backTo cpos (starEach es X.env)).any (·.1))=false; rw [hplain] <;> rfl) (Calls.evalArgs_plain ?_)
 exact bC hA fun us s2 ⟨vs,H2,I2,r2,q2⟩=>hm aa s2 σ H2 x vs v us Q I2 r1 r2 q2
end
noncomputable def Nz (X:Cx) (id:String) (r:V→List V→Hp→VK→Prop):Prop :=
 ∀ (aa:List (Addr×Obj)) (s:Shared) (σ:St) (H:Hp) (x:V) (xs:List V) (v:Value) (us:List Value) (Q:VK),Inv X aa σ H s→RelV x v→Vals xs us→r x xs H Q →
  wpAny (model X.prog X.w) X.A (call (.builtin id) (v::us)) (EP X aa σ Q) X.xe s
theorem Vals.one:∀ {x:V} {us:List Value},Vals [x] us→∃ u,us=[u]∧RelV x u
 | _,_,.cons r .nil=>⟨_,rfl,r⟩
theorem Vals.rep (h:Vals xs us):∀ k:Nat,Vals (Of k xs).flatten (Of k us).flatten
 | 0=>.nil
 | k+1=>by
  rw [PZ,PZ,QB,QB]
  exact Vals.append h (Vals.rep h k)
theorem foldl_rep (its):∀ (k:Nat) (acc:List Value),
 Rh (fun x1 x2=>x1++x2) acc.toArray (Of k its.toArray)=(acc++(Of k its).flatten).toArray
 | 0,acc=>by simp
 | k+1,acc=>by
  have e:acc.toArray++its.toArray=(acc++its).toArray:=by simp
  have e2:(acc++its)++(Of k its).flatten=acc++(Of (k+1) its).flatten:=by
   rw [PZ,QB,Om]
  rw [← e2,← foldl_rep its k (acc++its),← e,PZ,Pr]
section
theorem Inv.tQ {its its':List Value} (I:Inv X aa σ H s) (hH:H l=some (.lst xs))
 (e:s.heap.get? l=some { cls:=.type "list",data:=.seq its.toArray n }) (hf:f its.toArray=its'.toArray) (hv:Vals ys its') (hz:ys.length≤sizeLine) :
 Inv X aa σ (upd H l (.lst ys)) { s with heap:=s.heap.update l (OJ f),toks:=t' }:=by
 have q:=PySem.IsL.update e f
 rw [hf] at q
 refine I.write (x:=l) (e:=l) (by rw [hH]; exact trivial) (.inl rfl) (fun b' u hb hu=>(R6 s.heap (OJ f) (Ou hb)).trans hu) ⟨_,q⟩ ?_
 exact ⟨hz,its',_,hv,q⟩
theorem Inv.DQ (I:Inv X aa σ H s) (hv:Vals ys its) (hz:ys.length≤sizeLine) :
 Inv X aa σ (upd H s.heap.objs.size (.lst ys)) { s with heap:=s.heap.push { cls:=.type "list",data:=.seq its.toArray },toks:=t' } :=
 I.laid (fun _ _ q=>N7 _ q) (N3 _) ⟨hz,its,0,hv,Oj _ rfl⟩
theorem Inv.fresh (I:Inv X aa σ H s):H s.heap.objs.size=none:=I.hok.fresh (N3 _)
theorem Inv.qv (I:Inv X aa σ H s) (hH:H l=some (.lst xs)):xs.length≤sizeLine∧∃ (its:List Value) (n:Nat),Vals xs its∧xs.length=its.length∧s.heap.get? l=some { cls:=.type "list",data:=.seq its.toArray n }:=by
 obtain ⟨z,its,n,r,e⟩:=I.hok l _ hH
 exact ⟨z,its,n,r,r.length,e⟩
theorem zU (h:n≤sizeLine):Tr n=false:=by
 unfold Tr
 exact decide_eq_false (by lia)
end
section
noncomputable def DR:V→List V→Hp→VK→Prop:=fun x vs H Q=>∃ l xs y,x=.ref l∧vs=[y]∧H l=some (.lst xs)∧xs.length<sizeLine∧Q .non (upd H l (.lst (xs++[y])))
theorem ny:Nz X "list.append" DR:=by
 intro aa s σ H x vs v us Q I rx rv h
 obtain ⟨l,xs,y,rfl,rfl,hH,hz,q⟩:=h
 cases rx
 obtain ⟨u,rfl,ru⟩:=rv.one
 obtain ⟨z,its,n,r,hl,e⟩:=I.qv hH
 refine Rg F.slot_list_append ⟨_,e,rfl⟩ F.entry_list_append (F.args_list_append_2 _ _) (PySem.list_append l its.toArray n u (by rw [Ot]; lia)) ⟨e,?_⟩
 refine ⟨.non,_,I.tQ (its':=its++[u]) hH e (by simp) (r.append (.cons ru .nil)) ?_,rfl,q⟩
 rw [OH,R8]
 lia
noncomputable def MW:R2:=fun x y H Q=>∃ l k xs,x=.ref l∧y=.int k∧H l=some (.lst xs)∧ -(2 ^ 63)≤k∧k<2 ^ 63∧xs.length * k.toNat≤sizeLine ∧
 ∀ p,H p=none→Q (.ref p) (upd H p (.lst (Of k.toNat xs).flatten))
theorem len_rep {α:Type} (xs:List α) (k):(Of k xs).flatten.length=k * xs.length:=by
 induction k with
 | zero=>simp
 | succ k ih=>rw [PZ,QB,OH,ih,RH,Nat.add_comm]
theorem Hw:fK X (binaryOp .Mult) MW:=by
 intro aa s σ H x y v u Q I rx ry h
 obtain ⟨l,k,xs,rfl,rfl,hH,h1,h2,hz,q⟩:=h
 cases rx
 obtain ⟨t,rfl⟩:=ry
 obtain ⟨z,its,n,r,hl,e⟩:=I.qv hH
 have hlen:its.toArray.size * k.toNat≤sizeLine:=by rw [Ot,← hl]; exact hz
 have hcap:¬ its.toArray.size * k.toNat>(2 ^ 63 - 1) / 8:=by
  have:(sizeLine:Nat)≤(2 ^ 63 - 1) / 8:=by decide
  lia
 have hfit:¬ (!Builtin.List.listFitsIndex k)=true:=by
  rw [fitsIndex_both h1 h2]
  exact Oe
 have hlong:¬ Tr (its.toArray.size * k.toNat)=true:=by
  rw [zU hlen]
  exact Oe
 have hnew:Rh (fun x1 x2=>x1++x2) #[] (Of (if its.toArray.isEmpty=true then 0 else k.toNat) its.toArray)=(Of k.toNat its).flatten.toArray:=by
  have f0:∀ m:Nat,Rh (fun x1 x2=>x1++x2) #[] (Of m its.toArray)=(Of m its).flatten.toArray:=fun m=>by
   have:=foldl_rep its m []
   rw [P1] at this
   exact this
  rw [f0]
  cases its with
  | nil=>simp
  | cons a r'=>rw [if_neg (by simp)]
 refine wpAny_binaryOp_repeat_ref (T:="list") (U:="int") (by decide) ⟨_,e,rfl⟩ (fun s'=>Rf s' k t) noFill_list_mul F.fills_int_mul SH repeat_list F.slot_int_index.lookup
  (Rg SH (Rf s k t) F.entry_int_rmul (F.args_int_rmul_2 _ _) (int___rmul___int_list k t l its.toArray n)
    ⟨e,rfl,⟨_,e,rfl⟩,Rg F.slot_list_mul ⟨_,e,rfl⟩ F.entry_list_mul (F.args_list_mul_2 _ _) (AutoListH.list___mul___list_int_3 l its.toArray n k t hfit hcap hlong) ⟨e,?_⟩⟩)
 rw [hnew]
 exact ⟨.ref _,_,I.DQ (t':=s.toks) (r.rep k.toNat) (by rw [len_rep,RI]; exact hz),rfl,q _ I.fresh⟩
end
section
end
section
end
section
variable {κ:Type} [DecidableEq κ]
noncomputable def kU (kvs:List (κ×V)) (k:κ):Option V:=(kvs.find? fun kv=>decide (kv.1=k)).map (·.2)
noncomputable def putK (kvs:List (κ×V)) (k:κ) (v:V):List (κ×V) :=
 if (kvs.any fun kv=>decide (kv.1=k))=true then kvs.map (fun kv=>if kv.1=k then (kv.1,v) else kv) else kvs++[(k,v)]
theorem kW {p:κ×V} {r:List (κ×V)} {k:κ} (e:p.1=k):kU (p::r) k=some p.2:=by simp [kU,PJ,e]
theorem kX {p:κ×V} {r:List (κ×V)} {k:κ} (e:¬ p.1=k):kU (p::r) k=kU r k:=by simp [kU,PJ,e]
theorem qw (k:κ):∀ kvs:List (κ×V),(kvs.any fun kv=>decide (kv.1=k))=(kU kvs k).isSome
 | []=>rfl
 | p::r=>by
  rw [List.any_cons]
  by_cases e:p.1=k
  ·simp only [kW e,decide_eq_true e,Bool.true_or,Option.isSome_some]
  ·rw [kX e,decide_eq_false e,Bool.false_or]; exact qw k r
theorem qx (kvs) (k:κ) (v):(putK kvs k v).length≤kvs.length+1:=by
 unfold putK
 split
 ·rw [N6]; lia
 ·rw [OH,OF,PV]; lia
theorem j8.jC (r:j8 o u):o.isSome=u.isSome:=by
 cases o with
 | none=>cases u with
  | none=>rfl
  | some _=>exact (show False from r).elim
 | some _=>cases u with
  | none=>exact (show False from r).elim
  | some _=>rfl
theorem j8.getD (r:j8 o u) (rd:RelV d d'):RelV (o.getD d) (u.getD d'):=by
 cases o with
 | none=>cases u with
  | none=>exact rd
  | some _=>exact (show False from r).elim
 | some _=>cases u with
  | none=>exact (show False from r).elim
  | some _=>exact r
theorem KV.val (r:KV kvs vs) (k:κ):j8 (kU kvs k) (valueAt vs k):=by
 unfold KV at r
 induction r with
 | nil=>exact P6
 | @cons p q ps qs h t ih =>
  obtain ⟨h1,h2⟩:=h
  by_cases e:p.1=k
  ·have e':q.1=k:=h1.symm.trans e
   have b:valueAt (q::qs) k=some q.2:=by simp [valueAt,PJ,e']
   rw [kW e,b]; exact h2
  ·have e':¬ q.1=k:=fun z=>e (h1.trans z)
   have b:valueAt (q::qs) k=valueAt qs k:=by simp [valueAt,PJ,e']
   rw [kX e,b]; exact ih
theorem KV.any (r:KV kvs vs) (k:κ):(kvs.any fun kv=>decide (kv.1=k))=vs.any fun kv=>decide (kv.1=k):=by
 unfold KV at r
 induction r with
 | nil=>rfl
 | cons h t ih=>rw [List.any_cons,List.any_cons,ih,h.1]
theorem KV.repl (r:KV kvs vs) (k:κ) (ry:RelV y u) :
 KV (kvs.map fun kv=>if kv.1=k then (kv.1,y) else kv) (vs.map fun kv=>if kv.1=k then (kv.1,u) else kv):=by
 unfold KV at r ⊢
 induction r with
 | nil=>exact .nil
 | @cons p q ps qs h t ih =>
  rw [N5,N5]
  refine .cons ?_ ih
  obtain ⟨h1,h2⟩:=h
  by_cases e:p.1=k
  ·rw [if_pos e,if_pos (h1.symm.trans e)]; exact ⟨h1,ry⟩
  ·rw [if_neg e,if_neg (fun z=>e (h1.trans z))]; exact ⟨h1,h2⟩
theorem KV.put (r:KV kvs vs) (k:κ) (ry:RelV y u):KV (putK kvs k y) (stored vs k u):=by
 unfold putK stored
 rw [r.any k]
 by_cases e:(vs.any fun kv=>decide (kv.1=k))=true
 ·rw [if_pos e,if_pos e]; exact r.repl k ry
 ·rw [if_neg e,if_neg e]; exact Td r ⟨rfl,ry⟩
theorem KV.length {kvs:List (κ×V)} {vs:List (κ×Value)} (r:KV kvs vs):kvs.length=vs.length:=Pk r
end
theorem qy (r:RelV (kV k) u):(bV P w).is k u=true:=by
 cases k with
 | inl i=>obtain ⟨t,e⟩:=(show ∃ t,u=RO i t from r); subst e; exact ql P w i t
 | inr x=>obtain ⟨t,e⟩:=(show ∃ t,u=RN x t from r); subst e; exact qm P w x t
theorem nC:∀ {ks:List Key} {us:List Value},Vals (ks.map kV) us→ItemsAre (bV P w) ks us
 | [],_,r=>by rw [QG] at r; cases r; exact .nil
 | k::ks,_,r=>by
  rw [N5] at r
  cases r with
  | cons h t=>exact .cons (qy h) (nC t)
noncomputable abbrev KT:List (List Key×Addr×V)→List (List Key×Addr×Value)→Prop:=Paired fun p q=>p.1=q.1∧p.2.1=q.2.1∧RelV p.2.2 q.2.2
noncomputable def atT (kvs:List (List Key×Addr×V)) (k:List Key):Option V:=(kvs.find? fun kv=>decide (kv.1=k)).map (·.2.2)
noncomputable def oN (k:List Key) (v:V) (x:List Key×Addr×V):List Key×Addr×V:=if x.1=k then (x.1,x.2.1,v) else x
noncomputable def qz (kvs:List (List Key×Addr×V)) (k:List Key) (b:Addr) (v:V):List (List Key×Addr×V) :=
 if (atT kvs k).isSome=true then kvs.map (oN k v) else kvs++[(k,b,v)]
theorem qA (kvs) (k) (b) (v):(qz kvs k b v).length≤kvs.length+1:=by
 unfold qz
 split
 ·rw [N6]; lia
 ·rw [OH,OF,PV]; lia
theorem KT.val (r:KT kvs xs) (k):j8 (atT kvs k) ((atKey xs k).map (·.2)):=by
 induction r with
 | nil=>exact P6
 | @cons p q ps qs h t ih =>
  obtain ⟨h1,_,h2⟩:=h
  by_cases e:p.1=k
  ·have e':q.1=k:=h1.symm.trans e
   have b:atKey (q::qs) k=some q.2:=by simp [atKey,PJ,e']
   have b2:atT (p::ps) k=some p.2.2:=by simp [atT,PJ,e]
   rw [b2,b]; exact h2
  ·have e':¬ q.1=k:=fun z=>e (h1.trans z)
   have b:atKey (q::qs) k=atKey qs k:=by simp [atKey,PJ,e']
   have b2:atT (p::ps) k=atT ps k:=by simp [atT,PJ,e]
   rw [b2,b]; exact ih
theorem KT.repl (r:KT kvs xs) (k) (ry:RelV y u) :
 KT (kvs.map (oN k y)) (xs.map (putAt k u)):=by
 induction r with
 | nil=>exact .nil
 | @cons p q ps qs h t ih =>
  rw [N5,N5]
  refine .cons ?_ ih
  obtain ⟨h1,h2,h3⟩:=h
  unfold putAt oN
  by_cases e:p.1=k
  ·rw [if_pos e,if_pos (h1.symm.trans e)]; exact ⟨h1,h2,ry⟩
  ·rw [if_neg e,if_neg (fun z=>e (h1.trans z))]; exact ⟨h1,h2,h3⟩
theorem KT.put (r:KT kvs xs) (k) (ry:RelV y u) :
 KT (qz kvs k b y) (storedH xs k b u):=by
 have e:(atT kvs k).isSome=(atKey xs k).isSome:=by
  rw [(r.val k).jC,QA]
 unfold qz storedH
 rw [e]
 by_cases q:(atKey xs k).isSome=true
 ·rw [if_pos q,if_pos q]; exact r.repl k ry
 ·rw [if_neg q,if_neg q]; exact Td r ⟨rfl,rfl,ry⟩
section
theorem zV (ok:jw P w H h) (e:Rd H a u):bh P w H h a u:=e.ok ok
theorem nD (ok:jw P w H h) (e:Rd H a (.dK kvs)):kvs.length≤sizeLine∧(a == sysModules)=false∧∃ vs,KV kvs vs∧h.DictOf (bV P w) a vs :=
 show bh P w H h a (.dK kvs) from zV ok e
theorem Kw (ok:jw P w H h) (e:H a=some (.dK kvs)):kvs.length≤sizeLine∧(a == sysModules)=false∧∃ vs,KV kvs vs∧h.DictOf (bV P w) a vs:=nD ok (.inl e)
end
section
theorem kY (I:Inv X aa σ H s) (e:cV X.K H a (ks.map kV)):(tupleKind (bV X.prog X.w)).is s.heap ks a:=by
 obtain ⟨its,r,⟨o,h1,h2,n,h3⟩,_⟩:=I.tuple e
 exact ⟨o,its.toArray,n,h1,h2,h3,by simpa using nC r⟩
theorem qB (I:Inv X aa σ H s) (e:Rd H a (.dT kvs)) (hk:∀ x∈kvs,cV X.K H x.2.1 (x.1.map kV)):kvs.length≤sizeLine∧(a == sysModules)=false ∧
 ∃ xs,KT kvs xs∧s.heap.DictOfH (tupleKind (bV X.prog X.w)) a xs:=by
 obtain ⟨z,y,xs,r,o,es,ep,h1,h2,h3,h4,h5⟩:=(show bh X.prog X.w H s.heap a (.dT kvs) from zV I.hok e)
 refine ⟨z,y,xs,r,o,es,ep,h1,h2,h3,h4,?_,h5⟩
 have all:∀ {l:List (List Key×Addr×V)} {m:List (List Key×Addr×Value)},KT l m→(∀ x∈l,cV X.K H x.2.1 (x.1.map kV))→∀ x∈m,(tupleKind (bV X.prog X.w)).is s.heap x.1 x.2.1:=by
  intro l m q
  induction q with
  | nil=>intro _ x hx; exact nomatch hx
  | @cons p q ps qs hq t ih =>
   intro hl x hx
   rcases Og.mp hx with e | hx
   ·subst e
    rw [← hq.1,← hq.2.1]
    exact kY I (hl p N9)
   ·exact ih (fun y hy=>hl y (Ob _ hy)) x hx
 exact all r hk
end
noncomputable def oO (K:NZ) (H:Hp) (a:Addr) (y:V) (r:Option V):Prop :=
 (∃ kvs k,Rd H a (.dK kvs)∧y=kV k∧r=kU kvs k)∨∃ kvs k b,Rd H a (.dT kvs)∧(∀ x∈kvs,cV K H x.2.1 (x.1.map kV))∧y=.ref b∧cV K H b (k.map kV)∧r=atT kvs k
noncomputable def DS (K:NZ) (H:Hp) (a:Addr) (y v:V) (H':Hp):Prop :=
 (∃ kvs k,H a=some (.dK kvs)∧y=kV k∧kvs.length<sizeLine∧H'=upd H a (.dK (putK kvs k v))) ∨
 ∃ kvs k b,H a=some (.dT kvs)∧(∀ x∈kvs,cV K H x.2.1 (x.1.map kV))∧y=.ref b∧cV K H b (k.map kV)∧kvs.length<sizeLine∧H'=upd H a (.dT (qz kvs k b v))
section
theorem Inv.big (I:Inv X aa σ H s):sysModules<s.heap.objs.size:=by
 have h:mainGlobals<s.heap.objs.size:=(I.mod.glob.keeps I.bk).lt
 exact Nat.lt_trans (by decide) h
theorem nE (hu:A.units+1<cLine) (I:Inv X aa σ H s) (g:oO X.K H a y (some v)) (ry:RelV y u) (h:∀ w' s',Inv X aa σ H s'→RelV v w'→Q w' s') :
 wpAny (model X.prog X.w) A (getItem (.ref a) u) Q E s:=by
 rcases g with ⟨kvs,k,e,ey,l⟩ | ⟨kvs,k,b,e,hk,ey,eb,l⟩
 ·subst ey
  obtain ⟨z,hd,vs,rel,dd⟩:=nD I.hok e
  obtain ⟨w',hw,rw'⟩:=j8.some_of (v:=v) (o:=valueAt vs k) (by rw [l]; exact rel.val k)
  exact wpAny_getItem_of (qy ry) dd.mapOf hw (h w' _ (I.tok _) rw')
 ·subst ey
  cases (show u=Ox b from ry)
  obtain ⟨z,hd,xs,rel,dd⟩:=qB I e hk
  obtain ⟨w',hw,rw'⟩:=j8.some_of (v:=v) (o:=(atKey xs k).map (·.2)) (by rw [l]; exact rel.val k)
  obtain ⟨p,hp,hp2⟩:=Oh.mp hw
  refine wpAny_getItem_heap (Sg hu) (kY I eb) dd hp ?_
  rw [hp2]
  exact h w' _ (I.tok _) rw'
theorem MX (hu:A.units+1<cLine) (I:Inv X aa σ H s) (g:oO X.K H a y o) (ry:RelV y u) (h:∀ s',Inv X aa σ H s'→Q (.bool o.isSome) s') :
 wpAny (model X.prog X.w) A (compareOp .In u (.ref a)) Q E s:=by
 rcases g with ⟨kvs,k,e,ey,l⟩ | ⟨kvs,k,b,e,hk,ey,eb,l⟩
 ·subst ey
  obtain ⟨z,hd,vs,rel,dd⟩:=nD I.hok e
  refine wpAny_in_of (qy ry) hd dd.mapOf ?_
  rw [← (rel.val k).jC,← l]
  exact h _ (I.tok _)
 ·subst ey
  cases (show u=Ox b from ry)
  obtain ⟨z,hd,xs,rel,dd⟩:=qB I e hk
  refine wpAny_in_heap (Sg hu) (kY I eb) hd dd ?_
  have q:=(rel.val k).jC
  rw [QA] at q
  rw [← q,← l]
  exact h _ (I.tok _)
theorem vE (I:Inv X aa σ H s) (mu:J6 (H a)) (hs:Pj a s.heap h') (he:∃ q,h'.get? a=some q) (new:bh X.prog X.w (upd H a ob) h' a ob) :
 Inv X aa σ (upd H a ob) { s with heap:=h',toks:=t' } :=
 I.write (x:=a) (e:=a) mu (.inl rfl) (fun b q hb z=>(hs.2 b hb).trans z) he new
theorem Hx (z:kvs.length≤sizeLine) (hd:(a == sysModules)=false) (rel:KV kvs vs) (dd:h'.DictOf (bV P w) a vs) :
 bh P w H' h' a (.dK kvs):=⟨z,hd,vs,rel,dd⟩
theorem nF (hu:A.units+1<cLine) (I:Inv X aa σ H s) (g:DS X.K H a y v H') (ry:RelV y u) (rv:RelV v r) (h:∀ s',Inv X aa σ H' s'→Q () s') :
 wpAny (model X.prog X.w) A (setItem (.ref a) u r) Q E s:=by
 rcases g with ⟨kvs,k,e,ey,l,eH⟩ | ⟨kvs,k,b,e,hk,ey,eb,l,eH⟩
 ·subst ey eH
  obtain ⟨z,hd,vs,rel,dd⟩:=Kw I.hok e
  have hz:vs.length≤sizeLine:=by rw [← rel.length]; exact z
  have hl:(putK kvs k v).length≤sizeLine:=by have:=qx kvs k v; lia
  refine wpAny_setItem_pairs (hsz:=hz) (qy ry) dd fun h' dd' hs=>h _ ?_
  have he:∃ q,h'.get? a=some q:=let ⟨q,_,_,hq,_⟩:=dd'; ⟨q,hq⟩
  exact vE I (by rw [e]; exact P6) hs he (Hx hl hd (rel.put k rv) dd')
 ·subst ey eH
  cases (show u=Ox b from ry)
  obtain ⟨z,hd,xs,rel,dd⟩:=qB I (.inl e) hk
  have hz:xs.length≤sizeLine:=by rw [← Pk rel]; exact z
  have hl:(qz kvs k b v).length≤sizeLine:=by have:=qA kvs k b v; lia
  refine wpAny_setItem_heap (hsz:=hz) (Sg hu) (kY I eb) dd fun h' dd' hs=>h _ ?_
  obtain ⟨q,es,ep,hq,h2,h3,h4,_,h5⟩:=dd'
  exact vE I (by rw [e]; exact P6) hs ⟨q,hq⟩ ⟨hl,hd,_,rel.put k rv,q,es,ep,hq,h2,h3,h4,h5⟩
end
section
end
noncomputable def DT (i:Expr):Prop:=∀ ov iv,subscripted i false ov iv=operate [ov,iv] (getItem ov iv)
theorem DU {T id:String}
 (hl:typeLookup (.type T) "__getitem__"=pure (some (.builtin id))) (hs:DT slice)
 (h:wpAny (model prog w) A (eval value env) (fun o s₁=>wpAny (model prog w) A (eval slice env) (fun i s₂=>s₂.TypeIs o T∧wpAny (model prog w) A (getItem o i) Q E s₂) E s₁) E s) :
 wpAny (model prog w) A (eval (.Subscript value slice pos) env) Q E s:=by
 refine Subscript_ (OP h (fun o s₁ h₁=>OP h₁ (fun i s₂ h₂=>?_) fun _ _ x=>x) fun _ _ x=>x)
 obtain ⟨hT,h₂⟩:=h₂
 unfold subscriptTail
 refine NX ?_
 rw [getitemInPython_of_ne hT.not_modules]
 refine NX (SA hT hl ?_)
 have fin:wpAny (model prog w) A (subscripted slice false o i) (fun r s₃=>wpAny (model prog w) A (letTemporaryGo value o r >>= fun _=>pure r) Q E s₃) E s₂:=by
  rw [hs o i]
  exact wpAny_operating (OP h₂ (fun r s₃ h₃=>NX (wpAny_letTemporaryGo (N1 h₃))) fun _ _ x=>x)
 first
  | exact N1 (NX fin)
  | exact NX (N1 (NX fin))
  | exact NX fin
theorem qC (I:Inv X aa σ H s) (g:oO X.K H a y o):s.TypeIs (.ref a) "dict":=by
 rcases g with ⟨kvs,k,e,_,_⟩ | ⟨kvs,k,b,e,hk,_,_,_⟩
 ·obtain ⟨_,_,vs,_,dd⟩:=nD I.hok e
  exact dd.typeIs
 ·obtain ⟨_,_,xs,_,dd⟩:=qB I e hk
  exact dd.typeIs
noncomputable def Kx (X:Cx) (td ty:TE):TE:=fun σ H Q=>td σ H fun x H1=>ty σ H1 fun y H2=>∃ a v,x=.ref a∧oO X.K H2 a y (some v)∧Q v H2
noncomputable def MY (X:Cx) (ty td:TE):TE:=fun σ H Q=>ty σ H fun y H1=>td σ H1 fun x H2=>∃ a o,x=.ref a∧oO X.K H2 a y o∧Q (.bl o.isSome) H2
noncomputable def Ky (X:Cx) (td ty tv:TE):TS:=fun D σ H=>tv σ H fun v H1=>td σ H1 fun x H2=>ty σ H2 fun y H3=>∃ a H4,x=.ref a∧DS X.K H3 a y v H4∧D.nx σ H4
noncomputable def Kz (X:Cx) (td ty tv:TE) (rd:V→V→Hp→VK→Prop):TS:=fun D σ H=>td σ H fun x H1=>ty σ H1 fun y H2=>∃ a v,x=.ref a∧oO X.K H2 a y (some v) ∧
 tv σ H2 fun y2 H3=>rd v y2 H3 fun z H4=>∃ H5,DS X.K H4 a y z H5∧D.nx σ H5
section
theorem vF (hu:X.A.units+1<cLine) (ho:PE X o td) (hi:PE X i ty) (hs:DT i):PE X (.Subscript o i pos) (Kx X td ty):=by
 intro aa s σ H Q I h
 refine DU PySem.F.slot_dict_getitem.lookup hs (bC (ho aa s σ H _ I h) fun u s1 ⟨x,H1,I1,rx,q1⟩=>bC (hi aa s1 σ H1 _ I1 q1) fun iv s2 ⟨y,H2,I2,ry,a,v,ex,g,q2⟩=>?_)
 subst ex
 obtain rfl:u=Ox a:=rx
 exact ⟨qC I2 g,nE hu I2 g ry fun w' s3 I3 rw'=>⟨v,H2,I3,rw',q2⟩⟩
theorem Hy (hu:X.A.units+1<cLine) (hi:PE X i ty) (ho:PE X o td):PC X .In i o (MY X ty td):=by
 intro aa s σ H Q I h
 refine bC (hi aa s σ H _ I h) fun iv s1 ⟨y,H1,I1,ry,q1⟩=>bC (ho aa s1 σ H1 _ I1 q1) fun u s2 ⟨x,H2,I2,rx,a,ov,ex,g,q2⟩=>?_
 subst ex
 obtain rfl:u=Ox a:=rx
 exact MX hu I2 g ry fun s3 I3=>⟨.bl ov.isSome,H2,I3,rfl,q2⟩
theorem DV (hu:X.A.units+1<cLine) (ho:PE X o td) (hi:PE X i ty) (hv:PE X value tv) (hs:swapsWith value (some (.Subscript o i pos')) pos.line X.env=pure false) :
 PS X (.Assign [.Subscript o i pos'] value pos) (Ky X td ty tv):=by
 intro aa s σ H D I h
 refine wpAny_Assign_Subscript (bC (hv aa s σ H _ I h) fun r s1 ⟨v,H1,I1,rv,q1⟩=>bC (ho aa s1 σ H1 _ I1 q1) fun u s2 ⟨x,H2,I2,rx,q2⟩=>bC (hi aa s2 σ H2 _ I2 q2) fun iv s3 ⟨y,H3,I3,ry,a,H4,ex,g,q3⟩=>?_) hs
 subst ex
 obtain rfl:u=Ox a:=rx
 exact nF hu I3 g ry rv fun s4 I4=>⟨σ,H4,I4,q3⟩
theorem DW (hu:X.A.units+1<cLine) (ho:PE X o td) (hi:PE X i ty) (hv:PE X value tv) (hop:Ks X op rd)
 (ha:∀ ov iv new,augStore i ov iv new=(do holding [new,ov,iv] (setItem ov iv new); release [new,ov,iv] []; pure .next)):PS X (.AugAssign (.Subscript o i tpos) op value pos) (Kz X td ty tv rd):=by
 intro aa s σ H D I h
 refine wpAny_AugAssign_SubscriptAny (bC (ho aa s σ H _ I h) fun u s1 ⟨x,H1,I1,rx,q1⟩=>bC (hi aa s1 σ H1 _ I1 q1) fun iv s2 ⟨y,H2,I2,ry,a,v,ex,g,q2⟩=>?_) ha
 subst ex
 obtain rfl:u=Ox a:=rx
 refine nE hu I2 g ry fun w' s3 I3 rw'=>bC (hv aa s3 σ H2 _ I3 q2) fun w2 s4 ⟨y2,H3,I4,ry2,q3⟩=>bC (hop aa s4 σ H3 v y2 w' w2 _ I4 rw' ry2 q3) fun w3 s5 ⟨z,H4,I5,rz,H5,g5,q4⟩=>?_
 exact nF hu I5 g5 ry rz fun s6 I6=>⟨σ,H5,I6,q4⟩
end
theorem zW (h:Heap) (hb:sysModules<h.objs.size):bh P w H (h.push { cls:=.type "dict",data:=.dict #[] }) h.objs.size (.dK []) :=
 ⟨OO _,beq_eq_false_iff_ne.mpr (Ou (OB hb)),[],.nil,Heap.DictOf.new h⟩
theorem zX (h:Heap) (hb:sysModules<h.objs.size):bh P w H (h.push { cls:=.type "dict",data:=.dict #[] }) h.objs.size (.dT []) :=
 ⟨OO _,beq_eq_false_iff_ne.mpr (Ou (OB hb)),[],.nil,_,#[],0,Oj _ rfl,⟨rfl,rfl,rfl⟩,rfl,rfl,List.nodup_nil⟩
noncomputable def Hz:TE:=fun _ H Q=>∀ p,H p=none→Q (.ref p) (upd H p (.dK []))
noncomputable def HA:TE:=fun _ H Q=>∀ p,H p=none→Q (.ref p) (upd H p (.dT []))
section
theorem zY:PE X (.Dict [] [] pos) Hz:=fun aa s σ H Q I h =>
 wpAny_Dict_empty ⟨.ref s.heap.objs.size,_,I.laid (a:=s.heap.objs.size) (o:=.dK []) (t':=s.toks) (fun _ _ q=>N7 _ q) (N3 _) (zW s.heap I.big),rfl,h _ (I.hok.fresh (N3 _))⟩
theorem zZ:PE X (.Dict [] [] pos) HA:=fun aa s σ H Q I h =>
 wpAny_Dict_empty ⟨.ref s.heap.objs.size,_,I.laid (a:=s.heap.objs.size) (o:=.dT []) (t':=s.toks) (fun _ _ q=>N7 _ q) (N3 _) (zX s.heap I.big),rfl,h _ (I.hok.fresh (N3 _))⟩
end
structure M1 (X:Cx) (o:Expr) (m:Str) (apos:Pos) (e:Expr) (cpos:Pos):Prop where
 base:attributeBase o m X.env (eval o X.env)=eval o X.env
 few:((backTo cpos (starEach [e] X.env)).all (fun x=> !x.1) && (backToKw cpos (keywordEach [] X.env)).all (fun x=>x.1.isSome)
  && decide (([e]:List Expr).length+([]:List Keyword).length+(if ([]:List Keyword).isEmpty then 0 else 1)<30))=true
 line:(apos.endLine == cpos.line)=true
 trees:backTo cpos (starEach [e] X.env)=[(false,eval e X.env)]
structure M2 (X:Cx) (o:Expr) (m:Str) (apos:Pos) (e f:Expr) (cpos:Pos):Prop where
 base:attributeBase o m X.env (eval o X.env)=eval o X.env
 few:((backTo cpos (starEach [e,f] X.env)).all (fun x=> !x.1) && (backToKw cpos (keywordEach [] X.env)).all (fun x=>x.1.isSome)
  && decide (([e,f]:List Expr).length+([]:List Keyword).length+(if ([]:List Keyword).isEmpty then 0 else 1)<30))=true
 line:(apos.endLine == cpos.line)=true
 trees:backTo cpos (starEach [e,f] X.env)=[(false,eval e X.env),(false,eval f X.env)]
noncomputable def MZ (H:Hp) (a:Addr):Prop:=(∃ kvs,Rd H a (.dK kvs))∨∃ kvs,Rd H a (.dT kvs)
theorem HB (I:Inv X aa σ H s) (d:MZ H a) :
 s.TypeIs (.ref a) "dict"∧(∀ b,Ox a=.ref b→∃ ob,s.heap.get? b=some ob∧ob.dict=none)∧(a == sysModules)=false:=by
 rcases d with ⟨kvs,e⟩ | ⟨kvs,e⟩
 ·obtain ⟨_,hd,vs,_,dd⟩:=nD I.hok e
  refine ⟨dd.typeIs,fun b q=>?_,hd⟩
  cases q
  obtain ⟨ob,_,_,h1,h2,_⟩:=dd
  exact ⟨ob,h1,h2.2.1⟩
 ·obtain ⟨_,hd,xs,_,ob,es,ep,h1,h2,_⟩:=(show bh X.prog X.w H s.heap a (.dT kvs) from zV I.hok e)
  refine ⟨⟨ob,h1,h2.1⟩,fun b q=>?_,hd⟩
  cases q
  exact ⟨ob,h1,h2.2.1⟩
section
theorem HC (hu:A.units+1<cLine) (I:Inv X aa σ H s) (g:oO X.K H a y o) (ry:RelV y u) (rd:RelV d r) (h:∀ w' s',Inv X aa σ H s'→RelV (o.getD d) w'→Q w' s') :
 wpAny (model X.prog X.w) A (call (.builtin "dict.get") [.ref a,u,r]) Q E s:=by
 rcases g with ⟨kvs,k,e,ey,l⟩ | ⟨kvs,k,b,e,hk,ey,eb,l⟩
 ·subst ey
  obtain ⟨z,hd,vs,rel,dd⟩:=nD I.hok e
  refine call_meetsIn TL dd.typeIs PySem.F.entry_dict_get (PySem.F.args_dict_get_3 _ _ _) (meets_dict_get_default (bV X.prog X.w) a (qy ry) hd r) ⟨_,dd.mapOf,h _ _ (I.tok _) ?_⟩
  rw [l]
  exact (rel.val k).getD rd
 ·subst ey
  cases (show u=Ox b from ry)
  obtain ⟨z,hd,xs,rel,dd⟩:=qB I e hk
  refine call_meetsIn TL dd.typeIs PySem.F.entry_dict_get (PySem.F.args_dict_get_3 _ _ _) (meetsH_dict_get_default (tupleKind (bV X.prog X.w)) a b hd r) ⟨Sg hu,k,xs,kY I eb,dd,h _ _ (I.tok _) ?_⟩
  rw [l]
  exact (rel.val k).getD rd
end
noncomputable def HD (X:Cx) (td ty tx:TE):TE:=fun σ H Q=>td σ H fun x H1=>∃ a,x=.ref a∧MZ H1 a∧ty σ H1 fun y H2=>tx σ H2 fun z H3=>∃ o,oO X.K H3 a y o∧Q (o.getD z) H3
section
theorem z0 (hu:X.A.units+1<cLine) (ho:PE X o td) (he:PE X e ty) (hf:PE X f tx) (m:M2 X o "get" apos e f cpos):PE X (.Call (.Attribute o "get" apos) [e,f] [] cpos) (HD X td ty tx):=by
 intro aa s σ H Q I h
 refine wpAny_Call_method m.base m.few m.line PySem.F.plainAttrs_dict TL PySem.F.type_dict_get (bC (ho aa s σ H _ I h) fun u s1 ⟨x,H1,I1,rx,a,ex,d,q1⟩=>?_)
 subst ex
 obtain rfl:u=Ox a:=rx
 obtain ⟨t1,t2,_⟩:=HB I1 d
 refine ⟨t1,t2,?_⟩
 rw [m.trees]
 refine TH rfl (Calls.evalArgs_plain (T3 (bC (he aa s1 σ H1 _ I1 q1) fun iv s2 ⟨y,H2,I2,ry,q2⟩ =>
  T3 (bC (hf aa s2 σ H2 _ I2 q2) fun fv s3 ⟨z,H3,I3,rz,ov,g,q3⟩=>Calls.spliced_nil ?_))))
 exact HC hu I3 g ry rz fun w' s4 I4 rw'=>⟨_,H3,I4,rw',q3⟩
end
section
end
section
end
end L2
namespace Att
open PySem PySem.W PySem.Calls PyProof.Rows
theorem j9:∀ (ns:List Int) (vs:List Value),WellAll P h vs (ns.map WData.int)→IntsAre vs ns:=by
 intro ns
 induction ns with
 | nil =>
  intro vs w
  rw [QG] at w
  cases w
  exact .nil
 | cons n ns ih =>
  intro vs w
  rw [N5] at w
  cases w with
  | cons a b =>
   cases a
   exact .cons _ _ (ih _ b)
theorem xN {l:OpenLaw} (hn:l.most=some n)
 (hpre:l.row.toRowW.claim.pre args=true) (hwl:WellAll P h vals args) :
 ∃ a vs ns,vals=[Ox a]∧args=[WData.list (ns.map WData.int)]∧h.get? a=some { cls:=.type "list",data:=.seq vs.toArray }∧IntsAre vs ns∧ns.length≤n:=by
 have hsh:WShape.hasAll [] args [.list .int]=true:=(pre_splitW hpre).1
 have hc:l.pre.holds [] { args:=args }=true:=(pre_splitW hpre).2
 obtain ⟨d,r,rfl,h1,h2⟩:=hasAllW_cons hsh
 obtain rfl:=hasAllW_nil h2
 obtain ⟨xs,rfl,h3⟩:=hasW_list h1
 obtain ⟨ns,rfl⟩:=items_int h3
 have hlen:ns.length≤n:=by
  unfold OpenLaw.pre at hc
  have h4:(WTm.not (.lt (.lit (.int (n:Int))) (.len (.arg 0)))).holds [] { args:=[.list (ns.map .int)] }=true:=by
   have h4:=(holds_andW hc).1
   rw [hn] at h4
   exact h4
  have h5:=condW_of h4 (w_not (w_lt w_lit (w_len_list (w_arg rfl))))
  rw [N6] at h5
  refine Nat.le_of_not_lt fun q=>?_
  have q':(n:Int)<((ns.length:Nat):Int):=by lia
  first
   | (rw [decide_eq_true q'] at h5; exact absurd h5 (by decide))
   | (simp at h5; lia)
 cases hwl with
 | cons w1 w2 =>
  cases w2
  cases w1 with
  | list ho hall=>exact ⟨_,_,ns,rfl,rfl,ho,j9 ns _ hall,hlen⟩
theorem xO (l:OpenLaw) (args):l.row.toRowW.claim.post args (.bool true) args=true :=
 postW_of (r:=l.row.toRowW) (X:=(true == true))
  (show WShape.has [] (.bool true) .bool=true by first | rfl | decide | simp [WShape.has,WShape.arms,WShape.armsAll])
  (show (WTm.eq .res (.lit (.bool true))).value [] { args:=args,res:=some (.bool true),after:=args }=some (.bool (true == true)) from w_eq_bool (w_res rfl) w_lit) rfl
theorem qD {l:OpenLaw}
 (hn:l.most=some n) (hdf:d.params.defaults=[])
 (call:∀ (w:World) (s₀ s₁:Shared) (mg mb:Str→Option Value) (fa:Addr) (o:Obj) (pm cd doc:Value) (a:Addr) (vs:List Value) (ns:List Int),
   Ground q loose [] XP w s₀ mg mb s₁.heap→YP w s₁.heap →
   s₁.heap.get? fa=some o→o.data=.func (docDef d.name d.params d.body d.scope pm cd doc)→s₁.heap.CodeRec cd d.name→mg d.name=some (.ref fa) →
   s₁.heap.get? a=some { cls:=.type "list",data:=.seq vs.toArray }→IntsAre vs ns→ns.length≤n→s₁.gens= #[] →
   codeAny (model l.prog w) callerA (.call (.ref fa) ⟨[.ref a],[]⟩) (fun r s'=>r=.ok (.ret (.bool true))∧OldK s₁.heap s'.heap∧s'.os=s₁.os∧AllBare s'.gens) s₁) :
 WalkO q loose XP YP l.row.toRowW d [] (fun f vs=>PySem.call f vs):=by
 intro w s₀ s₁ mg mb G Y fa o pm cd doc dV kV ho hd hcd hD hmg hg args vals as hpre hlay hrd hwl hlo
 obtain rfl:dV=.none:=Dflts.none hD hdf
 obtain rfl:kV=.none:=Dflts.noKw hD
 obtain ⟨a,vs,ns,rfl,rfl,hobj,hints,hlen⟩:=xN hn hpre hwl
 refine enter_call (Q9 (call w s₀ s₁ mg mb fa o pm cd doc a vs ns G Y ho (fd_plain hd) hcd hmg hobj hints hlen hg) fun r s' hq=>?_)
 obtain ⟨rfl,h2,h3,h4⟩:=hq
 exact ⟨.inl ⟨.bool true,.bool true,[],rfl,fun _=>rfl,.bool true,xO l _,fun _=>⟨Rr,fun _ hm=>(nomatch hm)⟩⟩,h2,h3,h4⟩
section
end
end Att
namespace L2
open PySem PySem.Spec PyProof.Rows
theorem nG:∀ {vs:List Value} {ns:List Int},IntsAre vs ns→Vals (ns.map V.int) vs
 | _,_,.nil=>.nil
 | _,_,.cons n t h=>.cons ⟨t,rfl⟩ (nG h)
noncomputable def HE (H:Hp):Prop:=∀ b,H b=none∨∃ o xs,H b=some (.frz o (.lst xs))
theorem Aa {K:NZ}
 (KX:K.In s₁.heap) (hns:s₁.heap.Ns mainGlobals mg) (hb:s₁.heap.Ns builtinsNs mb) (hbb:∀ x:Str,x≠"__name__"→mb x=bootBuiltins x) (hlim:s₁.heap.NoLimit) (hg:s₁.gens= #[])
 (ha:s₁.heap.get? a=some { cls:=.type "list",data:=.seq vs.toArray }) (hi:IntsAre vs ns) (hl:ns.length≤sizeLine) (hr:ic k callerA)
 (F:∀ base:Heap,K.In base→base.Ns mainGlobals mg→bx P w K mg base CX k fa fd [x] sp) (hbind:∀ (s:Shared) (u:Value),BindsTo s fd ⟨[u],[]⟩ [(x,u)])
 (qk:∀ H:Hp,HE H→gh K H a (ns.map V.int)→sp [.ref a] H (fun v _=>v=.bl true) fun _ _ _=>False)
 (hCX:∀ H e s',CX [] H s₁ (fun _ _ _=>False) e s'→False) :
 codeAny (model P w) callerA (.call (.ref fa) ⟨[.ref a],[]⟩) (fun r s'=>r=.ok (.ret (.bool true))∧OldK s₁.heap s'.heap∧s'.os=s₁.os∧AllBare s'.gens) s₁:=by
 have rv:=nG hi
 have lenV:=hi.length
 have core:∀ H:Hp,HE H→gh K H a (ns.map V.int)→jw P w H s₁.heap→(∀ b,H b≠none→b=a)→(H a≠none→K.lookup a=none) →
  codeAny (model P w) callerA (.call (.ref fa) ⟨[.ref a],[]⟩) (fun r s'=>r=.ok (.ret (.bool true))∧OldK s₁.heap s'.heap∧s'.os=s₁.os∧AllBare s'.gens) s₁:=by
  intro H hO hS hok hA hK
  have base_of:∀ {b:Addr} {o:Obj},s₁.heap.get? b=some o→H b=none→(oA s₁.heap H).get? b=some o:=fun e n=>zz e n
  have noA:∀ {b:Addr} {o:Obj} {es:Array DictEntry} {ep:Nat},s₁.heap.get? b=some o→o.data=.dict es ep→H b=none:=fun {b o es ep} e d=>by
   cases q:H b with
   | none=>rfl
   | some u =>
    have e':b=a:=hA b (by rw [q]; simp)
    subst e'
    rw [ha] at e; cases e
    have d':Data.seq vs.toArray _=Data.dict es ep:=d
    cases d'
  have nsK:∀ {b:Addr} {m:Str→Option Value},s₁.heap.Ns b m→(oA s₁.heap H).Ns b m:=fun {b m} ⟨o,es,ep,e,d,r⟩=>⟨o,es,ep,base_of e (noA e d),d,r⟩
  have hKb:K.In (oA s₁.heap H):=fun b o e=>base_of (KX b o e) (by
   cases q:H b with
   | none=>rfl
   | some u =>
    have e':b=a:=hA b (by rw [q]; simp)
    subst e'
    rw [hK (by rw [q]; simp)] at e; cases e)
  have hM:Mod K mg (oA s₁.heap H):=⟨hKb,nsK hns,⟨mb,nsK hb,hbb⟩,let ⟨mc,h1,h2⟩:=hlim; ⟨mc,nsK h1,h2⟩⟩
  have e0:DJ P w K mg (oA s₁.heap H) callerA [] s₁ H:=⟨rfl,hM,fun b o e=>DA e,Nat.le_of_eq (xE _ _),trivial,fun b hb=>absurd (show b∈([]:List Addr) from hb) (by simp),hok,.of_eq hg⟩
  refine Q9 ((F _ hKb (nsK hns)).run callerA [] s₁ H ⟨[.ref a],[]⟩ [.ref a] [.ref a] _ _ hr e0 (hbind s₁ (.ref a)) (.cons rfl .nil) (qk H hO hS)) fun r s' h=>?_
  cases r with
  | error e=>exact (hCX H e s' h).elim
  | ok fl =>
   cases fl with
   | next=>exact O2 h
   | brk=>exact O2 h
   | cont=>exact O2 h
   | ret u =>
    obtain ⟨v,H',os,bare,un,hok',r',q⟩:=h
    have q':v=.bl true:=q
    subst q'
    obtain rfl:u=Value.bool true:=r'
    refine ⟨rfl,OldK.of_keep fun b o e=>?_,os,bare⟩
    cases q:H b with
    | none=>exact un.keep b o e q (by intro z; exact absurd (show b∈([]:List Addr) from z) (by simp)) (by simp)
    | some u =>
     rcases hO b with z | ⟨ob,xs,z⟩
     ·rw [q] at z; cases z
     ·have z2:=un.frzs b ob _ z
      obtain ⟨e1,_⟩:=hok b _ z
      obtain ⟨e2,_⟩:=hok' b _ z2
      rw [e] at e1; cases e1
      exact e2
 cases hk:K.lookup a with
 | some o =>
  have e:=KX a o hk
  rw [ha] at e
  cases e
  refine core (fun _=>none) (fun _=>.inl rfl) (.inr ⟨_,vs.toArray,_,hk,rfl,rfl,rfl,by rw [Ot,lenV]; exact hl,by simpa using rv⟩) (fun b u z=>by have z':(none:Option HO)=some u:=z; cases z') (fun b z=>absurd rfl z) fun z=>absurd rfl z
 | none =>
  refine core (fun b=>if b=a then some (.frz { cls:=.type "list",data:=.seq vs.toArray } (.lst (ns.map V.int))) else none) (fun b=>?_) (.inl (.inr ⟨{ cls:=.type "list",data:=.seq vs.toArray },if_pos rfl⟩)) (fun b u z=>?_) (fun b z=>?_) fun _=>hk
  ·by_cases hb:b=a
   ·exact .inr ⟨_,_,if_pos hb⟩
   ·exact .inl (if_neg hb)
  ·by_cases hb:b=a
   ·have z':=(if_pos hb).symm.trans z
    cases z'
    subst hb
    exact ⟨ha,by rw [N6]; exact hl,vs,_,rv,ha⟩
   ·have z':=(if_neg hb).symm.trans z
    cases z'
  ·by_cases hb:b=a
   ·exact hb
   ·exact absurd (if_neg hb) z
noncomputable abbrev cF {K:NZ} {h:Heap} (_:K.In h):NZ:=K
theorem DX {l:PySem.W.OpenLaw} {K:Params→NZ} {CX:World→Hq} {sp:World→Sp}
 (hn:l.most=some n) (hn2:n≤sizeLine) (hdf:d.params.defaults=[]) (hr:ic k callerA)
 (hY:∀ (w:World) (h:Heap),YP w h→(K w.params).In h)
 (F:∀ (w:World) (mg:Str→Option Value) (fa:Addr) (h:Heap),(K w.params).In h→h.Ns mainGlobals mg→mg d.name=some (.ref fa) →
   ∃ fd:FuncData,(∀ (s:Shared) (u:Value),BindsTo s fd ⟨[u],[]⟩ [(x,u)]) ∧
    ∀ base:Heap,(K w.params).In base→base.Ns mainGlobals mg→bx l.prog w (K w.params) mg base (CX w) k fa fd [x] (sp w))
 (qk:∀ (w:World) (H:Hp) (a:Addr) (ns:List Int),ns.length≤n→HE H→gh (K w.params) H a (ns.map V.int)→sp w [.ref a] H (fun v _=>v=.bl true) fun _ _ _=>False)
 (hCX:∀ (w:World) (H:Hp) (s:Shared) (e:Value) (s':Shared),CX w [] H s (fun _ _ _=>False) e s'→False) :
 PySem.W.WalkO q loose XP YP l.row.toRowW d [] (fun f vs=>PySem.call f vs):=by
 refine Att.qD hn hdf fun w s₀ s₁ mg mb fa o pm cd doc a vs ns G Y ho hd hcd hmg hobj hints hlen hg=>?_
 have KX:=hY w _ Y
 obtain ⟨fd,hb,hF⟩:=F w mg fa _ KX G.T.g hmg
 exact Aa KX G.T.g G.T.b G.T.builtins G.T.nolimit hg hobj hints (Od hlen hn2) hr hF hb (fun H hO hS=>qk w H a ns hlen hO hS) fun H e s'=>hCX w H s₁ e s'
end L2
namespace L2
open PySem PySem.Spec PyProof.Rows
noncomputable def eO (s:Stmt):Arguments:=match s with
 | .FunctionDef _ a _ _ _ _ _ _ _ _=>a
 | _=>{ posonlyargs:=[],args:=[],vararg:=none,kwonlyargs:=[],kw_defaults:=[],kwarg:=none,defaults:=[] }
noncomputable def az (s:Stmt):List Stmt:=match s with
 | .FunctionDef _ _ b _ _ _ _ _ _ _=>b
 | _=>[]
noncomputable def ah (s:Stmt):Scope:=match s with
 | .FunctionDef _ _ _ _ _ _ sc _ _ _=>sc
 | _=>{ kind:=.function,names:=[],isGenerator:=false,isCoroutine:=false }
structure fL (K:NZ) (x qual:Str) (st:Stmt) (f:Addr) (fd:FuncData):Prop where
 ex:∃ (oc:Value) (od:Option Addr) (kV doc pm:Value) (an:Option Addr) (cdv ct:Value) (osl:Array (Option Value)),
  fd=P4 x qual (eO st) (az st) (ah st) .none kV doc pm an cdv ct∧K.lookup f=some ⟨oc,od,.func fd,osl⟩∧SM K cdv qual=true
 kp:PX K (.ref f)=true
section
variable {K:NZ}
theorem fL.binds {st:Stmt} (F:fL K x qual st f fd)
 (h:∀ (kV doc pm:Value) (an:Option Addr) (cdv ct:Value) (us:List Value),us.length=ps.length→bindArgs (P4 x qual (eO st) (az st) (ah st) .none kV doc pm an cdv ct) ⟨us,[]⟩=pure (ps.zip us)):Binds K fd ps []:=by
 obtain ⟨oc,od,kV,doc,pm,an,cdv,ct,osl,rfl,lk,hcd⟩:=F.ex
 exact .all (h kV doc pm an cdv ct)
theorem HF {st:Stmt} {kV doc pm cdv ct:Value} (l:K.lookup f=some ⟨oc,od,.func (P4 x qual (eO st) (az st) (ah st) .none kV doc pm an cdv ct),osl⟩)
 (c:SM K cdv qual=true) (k:PX K (.ref f)=true):fL K x qual st f (P4 x qual (eO st) (az st) (ah st) .none kV doc pm an cdv ct):=⟨⟨oc,od,kV,doc,pm,an,cdv,ct,osl,rfl,l,c⟩,k⟩
end
theorem KA (hr:ic k A):A.units+1<cLine:=Qj (Nat.add_le_add_left (by decide:1≤64) _) hr.units
theorem xP (h:n≤1000):n<sizeLine:=Qj h (by decide)
section
end
noncomputable def aD (H H':Hp):Prop:=∀ b o,H b=some o→H' b=some o
theorem aD.refl (H):aD H H:=fun _ _ h=>h
theorem aD.trans (a:aD H H1) (b:aD H1 H2):aD H H2:=fun c o h=>b c o (a c o h)
theorem aD.free (e:aD H H') (h:H' l=Option.none):H l=Option.none:=by
 cases q:H l with
 | none=>rfl
 | some o =>
  rw [e l o q] at h
  cases h
theorem aD.seq {K:NZ} (e:aD H H') (h:gh K H a xs):gh K H' a xs:=by
 rcases h with (h | ⟨o,h⟩) | h
 ·exact .inl (.inl (e _ _ h))
 ·exact .inl (.inr ⟨o,e _ _ h⟩)
 ·exact .inr h
section
end
section
variable {κ:Type} [DecidableEq κ]
end
end L2
namespace EV
open PySem PySem.Spec PyProof.Rows L2
inductive D where
 | non | bl (b:Bool) | int (i:Int) | str (x:Str) | tup (ds:List D) | lst (ds:List D) | exc (C:Addr)
 | fdK (ks:List Key) (ds:List D) | fdT (ks:List (List Key)) (ds:List D) | adr (a:Addr)
noncomputable def tR (a C:Addr):Heap→Prop:=fun h=>∃ o,h.get? a=some o∧o.cls=.ref C∧∃ vs,o.data=.fields vs
mutual
def Rep (K:NZ) (H:Hp):D→V→Prop
 | .non,v=>v=.non
 | .bl b,v=>v=.bl b
 | .int i,v=>v=.int i
 | .str x,v=>v=.str x
 | .tup ds,v=>∃ a xs,v=.ref a∧cV K H a xs∧au K H ds xs
 | .lst ds,v=>∃ a xs,v=.ref a∧gh K H a xs∧au K H ds xs
 | .exc C,v=>∃ a,v=.ref a∧H a=some (.ext (tR a C))
 | .fdK ks ds,v=>∃ a ys o,v=.ref a∧H a=some (.frz o (.dK ys))∧ys.map (·.1)=ks∧au K H ds (ys.map (·.2))
 | .fdT ks ds,v=>∃ a ys o,v=.ref a∧H a=some (.frz o (.dT ys))∧ys.map (·.1)=ks∧(∀ y∈ys,cV K H y.2.1 (y.1.map kV))∧au K H ds (ys.map (·.2.2))
 | .adr a,v=>v=.ref a
def au (K:NZ) (H:Hp):List D→List V→Prop
 | [],xs=>xs=[]
 | d::ds,xs=>∃ x r,xs=x::r∧Rep K H d x∧au K H ds r
end
theorem av {K:NZ} (e:aD H H') (h:cV K H a xs):cV K H' a xs:=by
 rcases h with (h | ⟨o,h⟩) | h
 ·exact .inl (.inl (e _ _ h))
 ·exact .inl (.inr ⟨o,e _ _ h⟩)
 ·exact .inr h
mutual
theorem Rep.mono {K:NZ} {H H':Hp} (e:aD H H'):∀ (d:D) {v:V},Rep K H d v→Rep K H' d v
 | .non,_,h=>by simpa [Rep] using h
 | .bl b,_,h=>by simpa [Rep] using h
 | .int i,_,h=>by simpa [Rep] using h
 | .str x,_,h=>by simpa [Rep] using h
 | .tup ds,_,h=>by
  simp only [Rep] at h ⊢
  obtain ⟨a,xs,e1,h1,h2⟩:=h
  exact ⟨a,xs,e1,av e h1,au.mono e ds h2⟩
 | .lst ds,_,h=>by
  simp only [Rep] at h ⊢
  obtain ⟨a,xs,e1,h1,h2⟩:=h
  exact ⟨a,xs,e1,e.seq h1,au.mono e ds h2⟩
 | .exc C,_,h=>by
  simp only [Rep] at h ⊢
  obtain ⟨a,e1,h1⟩:=h
  exact ⟨a,e1,e _ _ h1⟩
 | .fdK ks ds,_,h=>by
  simp only [Rep] at h ⊢
  obtain ⟨a,ys,o,e1,h1,h2,h3⟩:=h
  exact ⟨a,ys,o,e1,e _ _ h1,h2,au.mono e ds h3⟩
 | .fdT ks ds,_,h=>by
  simp only [Rep] at h ⊢
  obtain ⟨a,ys,o,e1,h1,h2,h3,h4⟩:=h
  exact ⟨a,ys,o,e1,e _ _ h1,h2,fun y hy=>av e (h3 y hy),au.mono e ds h4⟩
 | .adr a,_,h=>by simpa [Rep] using h
theorem au.mono {K:NZ} {H H':Hp} (e:aD H H'):∀ (ds:List D) {xs:List V},au K H ds xs→au K H' ds xs
 | [],_,h=>by simpa [au] using h
 | d::ds,_,h=>by
  simp only [au] at h ⊢
  obtain ⟨x,r,e1,h1,h2⟩:=h
  exact ⟨x,r,e1,Rep.mono e d h1,au.mono e ds h2⟩
end
section
variable {K:NZ}
theorem ay:Rep K H (.int i) v↔v=.int i:=by simp only [Rep]
theorem eY:Rep K H (.bl i) v↔v=.bl i:=by simp only [Rep]
theorem bO:Rep K H .non v↔v=.non:=by simp only [Rep]
theorem fN:Rep K H (.str i) v↔v=.str i:=by simp only [Rep]
theorem aH:Rep K H (.tup ds) v↔∃ a xs,v=.ref a∧cV K H a xs∧au K H ds xs:=by simp only [Rep]
theorem aV:Rep K H (.lst ds) v↔∃ a xs,v=.ref a∧gh K H a xs∧au K H ds xs:=by simp only [Rep]
theorem iW:Rep K H (.fdK ks ds) v↔∃ a ys o,v=.ref a∧H a=some (.frz o (.dK ys))∧ys.map (·.1)=ks∧au K H ds (ys.map (·.2)):=by simp only [Rep]
theorem iX:Rep K H (.fdT ks ds) v↔∃ a ys o,v=.ref a∧H a=some (.frz o (.dT ys))∧ys.map (·.1)=ks∧(∀ y∈ys,cV K H y.2.1 (y.1.map kV))∧au K H ds (ys.map (·.2.2)):=by simp only [Rep]
theorem dY:Rep K H (.adr a) v↔v=.ref a:=by simp only [Rep]
theorem DY:Rep K H (.exc C) v↔∃ a,v=.ref a∧H a=some (.ext (tR a C)):=by simp only [Rep]
theorem aA:au K H [] xs↔xs=[]:=by simp only [au]
theorem aC:au K H (d::ds) xs↔∃ x r,xs=x::r∧Rep K H d x∧au K H ds r:=by simp only [au]
theorem au.length:∀ {ds:List D} {xs:List V},au K H ds xs→ds.length=xs.length
 | [],_,h=>by rw [aA] at h; subst h; rfl
 | d::ds,_,h=>by
  rw [aC] at h
  obtain ⟨x,r,rfl,_,h2⟩:=h
  simp [au.length h2]
theorem au.get:∀ {ds:List D} {xs:List V} {i:Nat} {d:D},au K H ds xs→ds[i]?=some d→∃ x,xs[i]?=some x∧Rep K H d x
 | [],_,_,_,_,e=>by simp at e
 | d::ds,_,i,d',h,e=>by
  rw [aC] at h
  obtain ⟨x,r,rfl,h1,h2⟩:=h
  cases i with
  | zero=>simp at e; subst e; exact ⟨x,by simp,h1⟩
  | succ i =>
   obtain ⟨y,e2,h3⟩:=au.get (i:=i) (d:=d') h2 (by simpa using e)
   exact ⟨y,by simpa using e2,h3⟩
theorem au.get':∀ {ds:List D} {xs:List V} {i:Nat} {x:V},au K H ds xs→xs[i]?=some x→∃ d,ds[i]?=some d∧Rep K H d x:=fun {ds xs i x} h e=>by
 have hl:=h.length
 have hi:i<xs.length:=(Oa.mp e).1
 obtain ⟨y,e2,h2⟩:=h.get (i:=i) (d:=ds[i]'(by lia)) (by simp)
 rw [e] at e2; cases e2
 exact ⟨_,by simp,h2⟩
theorem au.append:∀ {ds es:List D} {xs ys:List V},au K H ds xs→au K H es ys→au K H (ds++es) (xs++ys)
 | [],_,_,_,h,g=>by rw [aA] at h; subst h; exact g
 | d::ds,_,_,_,h,g=>by
  rw [aC] at h
  obtain ⟨x,r,rfl,h1,h2⟩:=h
  exact aC.mpr ⟨x,r++_,rfl,h1,au.append h2 g⟩
theorem au.drop:∀ (n:Nat) {ds:List D} {xs:List V},au K H ds xs→au K H (ds.drop n) (xs.drop n)
 | 0,_,_,h=>h
 | n+1,[],_,h=>by rw [aA] at h; subst h; exact aA.mpr rfl
 | n+1,d::ds,_,h=>by
  rw [aC] at h
  obtain ⟨x,r,rfl,h1,h2⟩:=h
  exact au.drop n h2
theorem au.take:∀ (n:Nat) {ds:List D} {xs:List V},au K H ds xs→au K H (ds.take n) (xs.take n)
 | 0,_,_,h=>aA.mpr rfl
 | n+1,[],_,h=>by rw [aA] at h; subst h; exact aA.mpr rfl
 | n+1,d::ds,_,h=>by
  rw [aC] at h
  obtain ⟨x,r,rfl,h1,h2⟩:=h
  exact aC.mpr ⟨x,r.take n,rfl,h1,au.take n h2⟩
theorem au.one (h:Rep K H d v):au K H [d] [v]:=aC.mpr ⟨v,[],rfl,h,aA.mpr rfl⟩
theorem au.cons (h:Rep K H d v) (t:au K H ds xs):au K H (d::ds) (v::xs):=aC.mpr ⟨v,xs,rfl,h,t⟩
theorem jD:∀ (ns:List Int),au K H (ns.map D.int) (ns.map V.int)
 | []=>aA.mpr rfl
 | n::ns=>.cons (ay.mpr rfl) (jD ns)
end
inductive Sh where
 | v (d:D) | l (ds:List D) | la (a:Addr) (ds:List D) | t (ss:List Sh) | ls (ss:List Sh)
noncomputable def pl (p:Addr) (xs:List V):HO:=.ext fun h=>xs.length≤sizeLine∧∃ (its:List Value) (n:Nat),Vals xs its∧h.get? p=some { cls:=.type "list",data:=.seq its.toArray n }
mutual
def aN (K:NZ) (H Hf:Hp):Sh→V→List (Addr×List V)→Prop
 | .v d,v,fp=>Rep K Hf d v∧fp=[]
 | .l ds,v,fp=>∃ p xs,v=.ref p∧H p=some (pl p xs)∧Hf p=none∧au K Hf ds xs∧fp=[(p,xs)]
 | .la p ds,v,fp=>∃ xs,v=.ref p∧H p=some (pl p xs)∧Hf p=none∧au K Hf ds xs∧fp=[(p,xs)]
 | .t ss,v,fp=>∃ a xs,v=.ref a∧cV K Hf a xs∧aq K H Hf ss xs fp
 | .ls ss,v,fp=>∃ p xs fq,v=.ref p∧H p=some (pl p xs)∧Hf p=none∧aq K H Hf ss xs fq∧fp=(p,xs)::fq
def aq (K:NZ) (H Hf:Hp):List Sh→List V→List (Addr×List V)→Prop
 | [],xs,fp=>xs=[]∧fp=[]
 | s::ss,xs,fp=>∃ x r f1 f2,xs=x::r∧aN K H Hf s x f1∧aq K H Hf ss r f2∧fp=f1++f2
end
noncomputable def Ab (H:Hp) (q:Addr):Prop:=∃ xs,H q=some (pl q xs)
mutual
theorem aN.mv {K:NZ} {H Hf H' aj:Hp} (sf:aD Hf aj):∀ (s:Sh) {v:V} {fp:List (Addr×List V)},(∀ q∈fp,H q.1=some (pl q.1 q.2)→Hf q.1=none→H' q.1=some (pl q.1 q.2)∧aj q.1=none)→aN K H Hf s v fp→aN K H' aj s v fp
 | .v d,_,_,_,h=>by simp only [aN] at h ⊢; exact ⟨h.1.mono sf d,h.2⟩
 | .l ds,_,_,hk,h=>by
  simp only [aN] at h ⊢
  obtain ⟨p,xs,e,h1,h2,h3,rfl⟩:=h
  obtain ⟨q1,q2⟩:=hk _ N9 h1 h2
  exact ⟨p,xs,e,q1,q2,h3.mono sf ds,rfl⟩
 | .la p ds,_,_,hk,h=>by
  simp only [aN] at h ⊢
  obtain ⟨xs,e,h1,h2,h3,rfl⟩:=h
  obtain ⟨q1,q2⟩:=hk _ N9 h1 h2
  exact ⟨xs,e,q1,q2,h3.mono sf ds,rfl⟩
 | .t ss,_,_,hk,h=>by
  simp only [aN] at h ⊢
  obtain ⟨a,xs,e,h1,h2⟩:=h
  exact ⟨a,xs,e,av sf h1,aq.mv sf ss hk h2⟩
 | .ls ss,_,_,hk,h=>by
  simp only [aN] at h ⊢
  obtain ⟨p,xs,fq,e,h1,h2,h3,rfl⟩:=h
  obtain ⟨q1,q2⟩:=hk _ N9 h1 h2
  exact ⟨p,xs,fq,e,q1,q2,aq.mv sf ss (fun q hq=>hk q (Ob _ hq)) h3,rfl⟩
theorem aq.mv {K:NZ} {H Hf H' aj:Hp} (sf:aD Hf aj):∀ (ss:List Sh) {xs:List V} {fp:List (Addr×List V)},(∀ q∈fp,H q.1=some (pl q.1 q.2)→Hf q.1=none→H' q.1=some (pl q.1 q.2)∧aj q.1=none)→aq K H Hf ss xs fp→aq K H' aj ss xs fp
 | [],_,_,_,h=>by simpa only [aq] using h
 | s::ss,_,_,hk,h=>by
  simp only [aq] at h ⊢
  obtain ⟨x,r,f1,f2,e,h1,h2,rfl⟩:=h
  exact ⟨x,r,f1,f2,e,aN.mv sf s (fun q hq=>hk q (PB _ hq)) h1,aq.mv sf ss (fun q hq=>hk q (OR _ hq)) h2,rfl⟩
end
inductive Sl where
 | un
 | va (d:D)
 | ow (ds:List D)
 | oT (kvs:List (List Key×D))
 | oK (kvs:List (Key×D))
 | aw (a:Addr) (ds:List D)
 | aT (a:Addr) (kvs:List (List Key×D))
 | aK (a:Addr) (kvs:List (Key×D))
 | fo (s:Sh)
noncomputable def mD (K:NZ) (H:Hp) {κ:Type}:List (κ×D)→List (κ×V)→Prop:=Paired fun a b=>a.1=b.1∧Rep K H a.2 b.2
theorem mD.mono {K:NZ} (e:aD H H') (h:mD K H ks xs):mD K H' ks xs :=
 Paired.GQ h fun a b z=>⟨z.1,Rep.mono e _ z.2⟩
noncomputable def kZ (K:NZ) (H:Hp):List (List Key×D)→List (List Key×Addr×V)→Prop:=Paired fun a b=>a.1=b.1∧cV K H b.2.1 (a.1.map kV)∧Rep K H a.2 b.2.2
theorem kZ.mono {K:NZ} (e:aD H H') (h:kZ K H ks xs):kZ K H' ks xs :=
 Paired.GQ h fun a b z=>⟨z.1,av e z.2.1,Rep.mono e _ z.2.2⟩
noncomputable def aX (K:NZ) (fr:Addr→Prop) (H Hf:Hp):Sl→V→Prop
 | .un,_=>False
 | .va d,v=>Rep K Hf d v
 | .ow ds,v=>∃ p xs,v=.ref p∧fr p∧H p=some (.lst xs)∧Hf p=none∧au K Hf ds xs
 | .oT kvs,v=>∃ p xs,v=.ref p∧fr p∧H p=some (.dT xs)∧Hf p=none∧kZ K Hf kvs xs
 | .oK kvs,v=>∃ p xs,v=.ref p∧fr p∧H p=some (.dK xs)∧Hf p=none∧mD K Hf kvs xs
 | .aw a ds,v=>∃ p xs,v=.ref p∧(fr p∧p=a)∧H p=some (.lst xs)∧Hf p=none∧au K Hf ds xs
 | .aT a kvs,v=>∃ p xs,v=.ref p∧(fr p∧p=a)∧H p=some (.dT xs)∧Hf p=none∧kZ K Hf kvs xs
 | .aK a kvs,v=>∃ p xs,v=.ref p∧(fr p∧p=a)∧H p=some (.dK xs)∧Hf p=none∧mD K Hf kvs xs
 | .fo s,v=>∃ fp,aN K H Hf s v fp∧(fp.map (·.1)).Nodup∧∀ a∈fp,fr a.1
noncomputable def Sl.owned:Sl→Bool
 | .ow _=>true | .oT _=>true | .oK _=>true | .aw _ _=>true | .aT _ _=>true | .aK _ _=>true | _=>false
structure bq (H Hf H' aj:Hp):Prop where
 s:aD H H'
 f:aD Hf aj
 b:aD aj H'
 n:∀ b,Hf b=none→H b≠none→(∀ xs,H b≠some (.tup xs))→aj b=none
theorem bq.refl (b:aD Hf H):bq H Hf H Hf:=⟨.refl _,.refl _,b,fun _ h _ _=>h⟩
theorem bq.trans (a:bq H Hf H1 aM) (b:bq H1 aM H2 cE):bq H Hf H2 cE :=
 ⟨a.s.trans b.s,a.f.trans b.f,b.b,fun c h1 h2 h3=>by
   cases q:H c with
   | none=>exact absurd q h2
   | some o =>
    have e:=a.s c o q
    exact b.n c (a.n c h1 h2 h3) (by rw [e]; simp) (by intro xs; rw [e,← q]; exact h3 xs)⟩
theorem bq.new (b:aD Hf H) (hp:H p=none):bq H Hf (upd H p o) (upd Hf p o):=by
 have hf:Hf p=none:=b.free hp
 refine ⟨fun c u h=>?_,fun c u h=>?_,fun c u h=>?_,fun c h1 h2 _=>?_⟩
 ·rw [ak (aB h hp)]; exact h
 ·rw [ak (aB h hf)]; exact h
 ·by_cases e:c=p
  ·subst e; rw [ai] at h ⊢; exact h
  ·rw [ak e] at h ⊢; exact b c u h
 ·by_cases e:c=p
  ·subst e; exact absurd hp h2
  ·rw [ak e]; exact h1
theorem bq.gc (b:aD Hf H) (hp:H p=none):bq H Hf (upd H p o) Hf :=
 ⟨(bq.new b hp (o:=o)).s,.refl _,fun c u h=>(bq.new b hp (o:=o)).s c u (b c u h),fun _ h _ _=>h⟩
inductive At {α:Type}:List α→Nat→α→Prop where
 | z {x:α} {l:List α}:At (x::l) 0 x
 | s {x y:α} {l:List α} {i:Nat}:At l i x→At (y::l) (i+1) x
theorem At.get (h:At l i x):l[i]?=some x:=by
 induction h with
 | z=>rfl
 | s _ ih=>simpa using ih
theorem At.mem (h:At l i x):x∈l:=Pe h.get
inductive SSet {α:Type}:List α→Nat→α→List α→Prop where
 | z {x r:α} {l:List α}:SSet (x::l) 0 r (r::l)
 | s {r y:α} {l l':List α} {i:Nat}:SSet l i r l'→SSet (y::l) (i+1) r (y::l')
theorem SSet.eq (h:SSet l i r l'):l'=l.set i r:=by
 induction h with
 | z=>rfl
 | s _ ih=>simp [ih]
structure cW (K:NZ) (H₀ dQ:Hp) (σ:L2.St) (H Hf:Hp) (ρ:List Sl):Prop where
 bas:bq H₀ dQ H Hf
 len:σ.length=ρ.length
 at_:∀ (i:Nat) (r:Sl),ρ[i]?=some r→r≠.un→∃ v,σ[i]?=some (some v)∧aX K (fun p=>H₀ p=none) H Hf r v
 sep:∀ (i j:Nat) (r r':Sl) (p:Addr),i≠j→ρ[i]?=some r→ρ[j]?=some r'→r.owned=true→r'.owned=true→σ[i]?=some (some (.ref p))→σ[j]?≠some (some (.ref p))
structure KC (P:Program) (w:World) (outer:List Env) (H:Hp) (s:Shared) (a C:Addr) (H':Hp) (s':Shared):Prop where
 os:s'.os=s.os
 bare:AllBare s'.gens
 un:Un (frs outer) [] H H' s.heap s'.heap
 hok:jw P w H' s'.heap
 new:s.heap.get? a=none
 free:H' a=none
 fly:∃ (t:Addr) (B:Heap),Heap.FlyingW B outer a (.ref C) (.ref t) s'.heap∧(∀ b o,s.heap.get? b=some o→b∉frs outer→∃ o',s'.heap.get? b=some o'∧B.get? b=some o') ∧
  ∀ b o,H' b≠none→s'.heap.get? b=some o→B.get? b=some o
noncomputable def dP (P:Program) (w:World):Hq:=fun outer H s E e s'=>∃ a C H',e=.ref a∧KC P w outer H s a C H' s'∧E (.ref C) (some a) H'
set_option genInjectivity false in
structure Ctx (P:Program) (w:World) (K:NZ) (mg:Str→Option Value) (base:Heap) (k:Nat) (N:List Str) (sc:Scope) (bk:Bool) where
 X:Cx
 eP:X.prog=P
 ew:X.w=w
 eK:X.K=K
 emg:X.mg=mg
 eb:X.base=base
 eN:X.N=N
 esc:X.env.scope=sc
 calm:X.calm=true
 top:bk=false→X.stack=X.env::X.outer∧X.env.frame=some X.env.locals∧X.ex=[]
 cb:bk=false→∀ (aa:List (Addr×Obj)) (σ:L2.St) (H:Hp) (s:Shared),Inv X aa σ H s→∀ (x:Str) (c:Addr),X.env.cells.lookup x=some c→X.s₀.heap.objs.size≤c
 fn:∀ x,bk=false∨sc.names.lookup x=some .local→X.fn x=true∨X.env.scope.names.lookup x=some .local
 room:ic k X.A
 nd:N.Nodup
 vis:∀ x∈N,Loc sc x
 Hf:Hp
 B:Hp
 RX:Addr→List Sl→Prop
 exc:∀ (C a:Addr) (aa:List (Addr×Obj)) (σ:L2.St) (H aj:Hp) (ρ:List Sl) (s:Shared) (H':Hp) (s':Shared),Inv X aa σ H s→cW X.K B Hf σ H aj ρ→RX C ρ→KC X.prog X.w X.stack H s a C H' s'→aD H H'→X.xe (.ref a) s'
 RM:Addr→List Sl→Prop
 mde:∀ (C a:Addr) (aa:List (Addr×Obj)) (σ:L2.St) (H aj:Hp) (ρ:List Sl) (s:Shared) (h':Heap) (us:List Value),Inv X aa σ H s→cW X.K B Hf σ H aj ρ→RM C ρ→Heap.MadeExcOf s.heap h' a (.ref C) us→X.xe (.ref a) { s with heap:=h' }
noncomputable def Sl.F6:Sl→Bool | .fo _=>true | _=>false
noncomputable abbrev qf {α:Type} (fr:Addr→Prop) (H Hf:Hp) (o:α→HO) (R:α→Prop) (v:V):Prop:=∃ (p:Addr) (xs:α),v=.ref p∧fr p∧H p=some (o xs)∧Hf p=none∧R xs
theorem qf.JW (h:qf fr H Hf o R v) (hk:∀ p,v=.ref p→∀ u,(∀ ys,u≠.tup ys)→H p=some u→Hf p=none→H' p=some u∧aj p=none) (ho:∀ xs ys,o xs≠.tup ys) (hR:∀ xs,R xs→R' xs):qf fr H' aj o R' v:=by
 obtain ⟨p,xs,e,f,h1,h2,h3⟩:=h
 exact ⟨p,xs,e,f,(hk p e _ (ho xs) h1 h2).1,(hk p e _ (ho xs) h1 h2).2,hR xs h3⟩
theorem qf.JX (h:qf fr H Hf o R v) (hf:∀ p,fr p→fr' p):qf fr' H Hf o R v :=
 let ⟨p,xs,e,f,h⟩:=h; ⟨p,xs,e,hf p f,h⟩
theorem aX.mv {K:NZ} {B:Addr→Prop} (sf:aD Hf aj) (hk:∀ q o,¬ B q→H q=some o→(∀ xs,o≠.tup xs)→Hf q=none→H' q=some o∧aj q=none):∀ {r:Sl} {v:V},
 (r.F6=true→∀ q,B q→¬ Ab H q)→(r.owned=true→∀ q,v=.ref q→¬ B q)→aX K fr H Hf r v→aX K fr H' aj r v
 | .un,_,_,_,h=>h
 | .va d,_,_,_,h=>Rep.mono sf d h
 | .ow ds,_,_,hv,h=>qf.JW h (fun p e o z ho hf=>hk p o (hv rfl p e) ho z hf) (fun _ _ z=>by cases z) fun _ h=>h.mono sf
 | .oT kvs,_,_,hv,h=>qf.JW h (fun p e o z ho hf=>hk p o (hv rfl p e) ho z hf) (fun _ _ z=>by cases z) fun _ h=>h.mono sf
 | .oK kvs,_,_,hv,h=>qf.JW h (fun p e o z ho hf=>hk p o (hv rfl p e) ho z hf) (fun _ _ z=>by cases z) fun _ h=>h.mono sf
 | .aw a ds,_,_,hv,h=>qf.JW h (fun p e o z ho hf=>hk p o (hv rfl p e) ho z hf) (fun _ _ z=>by cases z) fun _ h=>h.mono sf
 | .aT a kvs,_,_,hv,h=>qf.JW h (fun p e o z ho hf=>hk p o (hv rfl p e) ho z hf) (fun _ _ z=>by cases z) fun _ h=>h.mono sf
 | .aK a kvs,_,_,hv,h=>qf.JW h (fun p e o z ho hf=>hk p o (hv rfl p e) ho z hf) (fun _ _ z=>by cases z) fun _ h=>h.mono sf
 | .fo s,_,hB,_,⟨fp,h1,h2,h3⟩=>⟨fp,aN.mv sf s (fun q _ e1 e2=>hk q.1 _ (fun b=>hB rfl q.1 b ⟨q.2,e1⟩) e1 (by intro ys z; cases z) e2) h1,h2,h3⟩
theorem aX.cz {K:NZ} (g:bq H Hf H' aj) (h:aX K fr H Hf r v):aX K fr H' aj r v :=
 aX.mv (B:=fun _=>False) g.f (fun q o _ e1 e2 e3=>⟨g.s _ _ e1,g.n q e3 (by rw [e1]; simp) fun xs z=>e2 xs (by rw [e1] at z; exact PF z)⟩) (fun _ _ z=>z.elim) (fun _ _ _ z=>z) h
theorem aX.weak {K:NZ} (hf:∀ p,fr p→fr' p):∀ {r:Sl} {v:V},aX K fr H Hf r v→aX K fr' H Hf r v
 | .un,_,h=>h
 | .va d,_,h=>h
 | .ow ds,_,h=>qf.JX h hf
 | .oT ds,_,h=>qf.JX h hf
 | .oK ds,_,h=>qf.JX h hf
 | .aw a ds,_,h=>qf.JX h fun p f=>⟨hf p f.1,f.2⟩
 | .aT a ds,_,h=>qf.JX h fun p f=>⟨hf p f.1,f.2⟩
 | .aK a ds,_,h=>qf.JX h fun p f=>⟨hf p f.1,f.2⟩
 | .fo s,_,⟨fp,h1,h2,h3⟩=>⟨fp,h1,h2,fun a ha=>hf _ (h3 a ha)⟩
section
variable {K:NZ}
noncomputable def Ctx.fr (c:Ctx P w K mg base k N sc bk) (p:Addr):Prop:=c.B p=none
noncomputable abbrev bu (c:Ctx P w K mg base k N sc bk) (σ:L2.St) (H Hf:Hp) (ρ:List Sl):Prop:=cW c.X.K c.B c.Hf σ H Hf ρ
theorem cW.cz (S:cW K H₀ dQ σ H Hf ρ) (g:bq H Hf H' aj):cW K H₀ dQ σ H' aj ρ :=
 ⟨S.bas.trans g,S.len,fun i r h hr=>let ⟨v,e,q⟩:=S.at_ i r h hr; ⟨v,e,q.cz g⟩,S.sep⟩
theorem cW.sb (S:cW K H₀ dQ σ H Hf ρ):aD Hf H:=S.bas.b
theorem cW.va (S:cW K H₀ dQ σ H Hf ρ) {i:Nat} (h:ρ[i]?=some (.va d)):∃ v,σ[i]?=some (some v)∧Rep K Hf d v:=S.at_ i _ h (by simp)
theorem cW.set (S:cW K H₀ dQ σ H Hf ρ) (g:bq H Hf H1 aM) (hr:aX K (fun p=>H p=none) H1 aM r v) :
 cW K H₀ dQ (σ.set i (some v)) H1 aM (ρ.set i r):=by
 have S1:=S.cz g
 have fr0:∀ p,H p=none→H₀ p=none:=fun p h=>S.bas.s.free h
 have fresh:∀ p,r.owned=true→v=.ref p→H p=none:=fun p ho e=>by
  subst e
  cases r with
  | un=>cases ho
  | va d=>cases ho
  | ow ds=>obtain ⟨p',xs,e,h,_⟩:=hr; cases e; exact h
  | oT ds=>obtain ⟨p',xs,e,h,_⟩:=hr; cases e; exact h
  | oK ds=>obtain ⟨p',xs,e,h,_⟩:=hr; cases e; exact h
  | aw a ds=>obtain ⟨p',xs,e,h,_⟩:=hr; cases e; exact h.1
  | aT a ds=>obtain ⟨p',xs,e,h,_⟩:=hr; cases e; exact h.1
  | aK a ds=>obtain ⟨p',xs,e,h,_⟩:=hr; cases e; exact h.1
  | fo s=>cases ho
 have old:∀ (j:Nat) (r':Sl) (p:Addr),ρ[j]?=some r'→r'.owned=true→σ[j]?=some (some (.ref p))→H p≠none:=fun j r' p h ho hs=>by
  obtain ⟨v',e,q⟩:=S.at_ j r' h (by rintro rfl; cases ho)
  rw [hs] at e; cases e
  cases r' with
  | un=>cases ho
  | va d=>cases ho
  | ow ds=>obtain ⟨p',xs,e,_,h,_⟩:=q; cases e; rw [h]; simp
  | oT ds=>obtain ⟨p',xs,e,_,h,_⟩:=q; cases e; rw [h]; simp
  | oK ds=>obtain ⟨p',xs,e,_,h,_⟩:=q; cases e; rw [h]; simp
  | aw a ds=>obtain ⟨p',xs,e,_,h,_⟩:=q; cases e; rw [h]; simp
  | aT a ds=>obtain ⟨p',xs,e,_,h,_⟩:=q; cases e; rw [h]; simp
  | aK a ds=>obtain ⟨p',xs,e,_,h,_⟩:=q; cases e; rw [h]; simp
  | fo s=>cases ho
 refine ⟨S1.bas,by simp [S.len],fun j r' hj hu=>?_,fun j j' r1 r2 p hne h1 h2 o1 o2 e1 e2=>?_⟩
 ·by_cases q:j=i
  ·subst q
   have hi:j<ρ.length:=by
    have:=(Oa.mp hj).1
    simpa using this
   rw [Pa hi] at hj; cases hj
   exact ⟨v,Pa (by rw [S.len]; exact hi),hr.weak fr0⟩
  ·rw [Pb (Ou q)] at hj ⊢
   exact S1.at_ j r' hj hu
 ·have hlt:∀ {j:Nat} {r:Sl},(ρ.set i r)[j]?=some r→j<ρ.length:=fun {j r} h=>by
   have:=(Oa.mp h).1
   simpa using this
  by_cases q1:j=i
  ·subst q1
   have hi:j<ρ.length:=by have:=(Oa.mp h1).1; simpa using this
   rw [Pa hi] at h1; cases h1
   rw [Pa (by rw [S.len]; exact hi)] at e1
   rw [Pb hne] at h2 e2
   exact old j' r2 p h2 o2 e2 (fresh p o1 (by simpa using e1))
  ·by_cases q2:j'=i
   ·subst q2
    have hi:j'<ρ.length:=by have:=(Oa.mp h2).1; simpa using this
    rw [Pa hi] at h2; cases h2
    rw [Pa (by rw [S.len]; exact hi)] at e2
    rw [Pb (Ou hne)] at h1 e1
    exact old j r1 p h1 o1 e1 (fresh p o2 (by simpa using e2))
   ·rw [Pb (Ou q1)] at h1 e1
    rw [Pb (Ou q2)] at h2 e2
    exact S.sep j j' r1 r2 p hne h1 h2 o1 o2 e1 e2
theorem cW.weak (S:cW K H₀ dQ σ H Hf ρ) (hl:ρ'.length=ρ.length) (h:∀ (i:Nat) (r:Sl),ρ'[i]?=some r→r≠.un→ρ[i]?=some r):cW K H₀ dQ σ H Hf ρ' :=
 ⟨S.bas,by rw [S.len,hl],fun i r e hu=>S.at_ i r (h i r e hu) hu,fun i j r r' p hne h1 h2 o1 o2=>S.sep i j r r' p hne (h i r h1 (by rintro rfl; cases o1)) (h j r' h2 (by rintro rfl; cases o2)) o1 o2⟩
end
section
variable {P:Program} {w:World} {K:NZ} {mg:Str→Option Value} {base:Heap} {k:Nat} {N:List Str} {sc:Scope} {bk:Bool}
noncomputable def bE (X:Cx) (e:Expr):TE:=fun σ H Q=>∀ aa s,Inv X aa σ H s→wpAny (model X.prog X.w) X.A (eval e X.env) (EP X aa σ Q) X.xe s
theorem cU:PE X e (bE X e):=fun aa s σ H Q I h=>h aa s I
theorem bH (h:PE X e t) (q:t σ H Q):bE X e σ H Q:=fun aa s I=>h aa s σ H Q I q
noncomputable def bT (X:Cx) (e:Expr):TT:=fun σ H Q=>∀ aa s,Inv X aa σ H s→wpAny (model X.prog X.w) X.A (isTrue e X.env (eval e X.env)) (TP X aa σ Q) X.xe s
theorem F7:PT X e (bT X e):=fun aa s σ H Q I h=>h aa s I
theorem vG (h:PT X e t) (q:t σ H Q):bT X e σ H Q:=fun aa s I=>h aa s σ H Q I q
noncomputable def bA (X:Cx) (es:List Expr):TA:=fun σ H Q=>∀ pos aa s,Inv X aa σ H s→wpAny (model X.prog X.w) X.A (spliced (backTo pos (starEach es X.env))) (AP X aa σ Q) X.xe s
theorem Ds:PA X es (bA X es):=fun pos aa s σ H Q I h=>h pos aa s I
theorem nH (h:PA X es t) (q:t σ H Q):bA X es σ H Q:=fun pos aa s I=>h pos aa s σ H Q I q
noncomputable def bS (X:Cx) (st:Stmt):TS:=fun D σ H=>∀ aa s,Inv X aa σ H s→wpAny (model X.prog X.w) X.A (exec st X.env) (SP X aa D) X.xe s
theorem NT {st:Stmt}:PS X st (bS X st):=fun aa s σ H D I h=>h aa s I
theorem dZ {st:Stmt} (h:PS X st t) {D:Ends} (q:t D σ H):bS X st D σ H:=fun aa s I=>h aa s σ H D I q
noncomputable def HG (X:Cx) (st:List Stmt):TS:=fun D σ H=>∀ aa s,Inv X aa σ H s→wpAny (model X.prog X.w) X.A (execs st X.env) (SP X aa D) X.xe s
theorem qE {st:List Stmt}:tu X st (HG X st):=fun aa s σ H D I h=>h aa s I
theorem Ac {st:List Stmt} (h:tu X st t) {D:Ends} (q:t D σ H):HG X st D σ H:=fun aa s I=>h aa s σ H D I q
noncomputable def bG (X:Cx) (tg:Expr):TG:=fun v σ H Q=>∀ aa s u,Inv X aa σ H s→RelV v u→wpAny (model X.prog X.w) X.A (assign tg X.env u) (fun _ s'=>∃ σ' H',Inv X aa σ' H' s'∧Q σ' H') X.xe s
theorem NB:PG X tg (bG X tg):=fun aa s σ H v u Q I r h=>h aa s u I r
theorem vH (h:PG X tg t) (q:t v σ H Q):bG X tg v σ H Q:=fun aa s u I r=>h aa s σ H v u Q I r q
variable (c:Ctx P w K mg base k N sc bk)
noncomputable def dw (e:Expr) (ρ:List Sl) (R:Sl→Prop):Prop :=
 ∀ (σ:L2.St) (H Hf:Hp) (Q:VK),bu c σ H Hf ρ→(∀ r v H' aj,R r→aX c.X.K (fun p=>H p=none) H' aj r v→bq H Hf H' aj→Q v H')→bE c.X e σ H Q
noncomputable def aF (e:Expr) (ρ:List Sl) (R:D→Prop):Prop :=
 ∀ (σ:L2.St) (H Hf:Hp) (Q:VK),bu c σ H Hf ρ→(∀ d v H' aj,R d→Rep c.X.K aj d v→bq H Hf H' aj→Q v H')→bE c.X e σ H Q
noncomputable def jE (e:Expr) (ρ:List Sl) (R:Bool→Prop):Prop :=
 ∀ (σ:L2.St) (H Hf:Hp) (Q:Bool→Hp→Prop),bu c σ H Hf ρ→(∀ b H' aj,R b→bq H Hf H' aj→Q b H')→bT c.X e σ H Q
noncomputable def qF (es:List Expr) (ρ:List Sl) (R:List D→Prop):Prop :=
 ∀ (σ:L2.St) (H Hf:Hp) (Q:List V→Hp→Prop),bu c σ H Hf ρ→(∀ ds vs H' aj,R ds→au c.X.K aj ds vs→bq H Hf H' aj→Q vs H')→bA c.X es σ H Q
structure Pt where
 rt:Sl→Prop
 bk:List Sl→Prop:=fun _=>False
 ct:List Sl→Prop:=fun _=>False
structure Ad (nx:List Sl→Prop) (p:Pt) (D:Ends):Prop where
 nx:∀ σ H Hf ρ,bu c σ H Hf ρ→nx ρ→D.nx σ H
 rt:∀ r v H Hf,bq c.B c.Hf H Hf→aX c.X.K c.fr H Hf r v→p.rt r→D.rt v H
 bk:∀ σ H Hf ρ,bu c σ H Hf ρ→p.bk ρ→D.bk σ H
 ct:∀ σ H Hf ρ,bu c σ H Hf ρ→p.ct ρ→D.ct σ H
noncomputable def fu (st:Stmt) (ρ:List Sl) (nx:List Sl→Prop) (p:Pt):Prop :=
 ∀ (σ:L2.St) (H Hf:Hp) (D:Ends),bu c σ H Hf ρ→Ad c nx p D→bS c.X st D σ H
noncomputable def aY (st:List Stmt) (ρ:List Sl) (nx:List Sl→Prop) (p:Pt):Prop :=
 ∀ (σ:L2.St) (H Hf:Hp) (D:Ends),bu c σ H Hf ρ→Ad c nx p D→HG c.X st D σ H
noncomputable def mK (tg:Expr) (d:D) (ρ:List Sl) (R:List Sl→Prop):Prop :=
 ∀ (σ:L2.St) (H Hf:Hp) (v:V) (Q:L2.St→Hp→Prop),bu c σ H Hf ρ→Rep c.X.K Hf d v→(∀ σ' H' aj ρ',bu c σ' H' aj ρ'→bq H Hf H' aj→R ρ'→Q σ' H')→bG c.X tg v σ H Q
variable {c}
noncomputable def Sl.fz:Sl→Option D
 | .va d=>some d
 | .ow ds=>some (.lst ds)
 | _=>none
noncomputable def DZ (R:D→Prop) (r:Sl):Prop:=∃ d,r.fz=some d∧R d
theorem HH (e:r.fz=some d) (h:aX K (fun p=>H p=none) H' aj r v) (g:bq H Hf H' aj) :
 ∃ cE,Rep K cE d v∧bq H Hf H' cE:=by
 cases r with
 | un=>cases e
 | va d'=>cases e; exact ⟨aj,h,g⟩
 | oT _=>cases e
 | oK _=>cases e
 | aw _ _=>cases e
 | aT _ _=>cases e
 | aK _ _=>cases e
 | fo _=>cases e
 | ow ds =>
  cases e
  obtain ⟨p,xs,rfl,hp,h1,h2,h3⟩:=h
  have sf:aD aj (upd aj p (.lst xs)):=fun b o e=>by rw [ak (aB e h2)]; exact e
  have sb:aD (upd aj p (.lst xs)) H':=fun b o e=>by
   by_cases q:b=p
   ·subst q; rw [ai] at e; rw [h1]; exact e
   ·rw [ak q] at e; exact g.b b o e
  refine ⟨upd aj p (.lst xs),aV.mpr ⟨p,xs,rfl,.inl (.inl ai),h3.mono sf⟩,g.s,g.f.trans sf,sb,fun b q1 q2 q3=>?_⟩
  have e:=g.n b q1 q2 q3
  by_cases q:b=p
  ·subst q; exact absurd hp q2
  ·rw [ak q]; exact e
theorem e_x (h:dw c e ρ (DZ R)):aF c e ρ R:=fun σ H Hf Q S q =>
 h σ H Hf Q S fun r v H' aj ⟨d,e1,rd⟩ rs g=>let ⟨cE,h1,g2⟩:=HH e1 rs g; q d v H' cE rd h1 g2
theorem F8 (h:aF c e ρ fun d=>R (.va d)):dw c e ρ R:=fun σ H Hf Q S q =>
 h σ H Hf Q S fun d v H' aj rd h1 g=>q (.va d) v H' aj rd h1 g
theorem aF.imp (h:aF c e ρ R) (hi:∀ d,R d→R' d):aF c e ρ R':=fun σ H Hf Q S q=>h σ H Hf Q S fun d v H' aj rd=>q d v H' aj (hi d rd)
theorem dw.imp (h:dw c e ρ R) (hi:∀ d,R d→R' d):dw c e ρ R':=fun σ H Hf Q S q=>h σ H Hf Q S fun d v H' aj rd=>q d v H' aj (hi d rd)
theorem jE.imp (h:jE c e ρ R) (hi:∀ d,R d→R' d):jE c e ρ R':=fun σ H Hf Q S q=>h σ H Hf Q S fun d H' aj rd=>q d H' aj (hi d rd)
theorem vI (hN:At N i x) (hs:At ρ i (.va d)) (hR:R d)
 (hd:(x == ("__debug__":Str))=false:=by decide) (hcd:(x == ("__classdict__":Str))=false:=by decide) :
 aF c (.Name x pos) ρ R:=fun σ H Hf Q S q=>by
 obtain ⟨v,e,r⟩:=S.va hs.get
 exact bH (tF (X:=c.X) (i:=i) (by rw [c.eN]; exact hN.get) (by rw [c.esc]; rcases c.vis x hN.mem with h | h; exact .inl h; exact .inr (.inl h)) hd hcd) ⟨v,e,q d v H Hf hR r (.refl S.sb)⟩
theorem KD (hR:R (.int i)):aF c (.Constant (.int i) j pos) ρ R:=fun σ H Hf Q S q =>
 bH zA (q _ _ H Hf hR (ay.mpr rfl) (.refl S.sb))
theorem M0 (hR:R (.bl i)):aF c (.Constant (.bool i) j pos) ρ R:=fun σ H Hf Q S q =>
 bH FZ (q _ _ H Hf hR (eY.mpr rfl) (.refl S.sb))
theorem tS (hm:mg x=some (.int i t)) (hR:R (.int i)) (hg:sc.names.lookup x=some .globalImplicit:=by walk_at "u") (hd:(x == ("__debug__":Str))=false:=by decide) :
 aF c (.Name x pos) ρ R:=fun σ H Hf Q S q =>
 bH (vn (X:=c.X) (v:=.int i) (u:=.int i t) (by unfold Gl ON; rw [c.esc]; exact hg) (by rw [c.emg]; exact hm) ⟨t,rfl⟩ hd) (q _ _ H Hf hR (ay.mpr rfl) (.refl S.sb))
noncomputable def Mg (K:NZ) (r:R2) (p:D→D→(Sl→Prop)→Prop):Prop :=
 ∀ (x y:D) (v u:V) (H Hf:Hp) (Q:VK) (R:Sl→Prop),aD Hf H→Rep K Hf x v→Rep K Hf y u→p x y R →
  (∀ z v' H' aj,R z→aX K (fun p=>H p=none) H' aj z v'→bq H Hf H' aj→Q v' H')→r v u H Q
theorem oQ (ho:fK c.X (binaryOp op) r) (hd:Mg c.X.K r p)
 (h:aF c a ρ fun x=>aF c b ρ fun y=>p x y R):dw c (.BinOp a op b pos) ρ R:=fun σ H Hf Q S q =>
 bH (zI ho cU cU) (h σ H Hf _ S fun x v1 H1 aM h1 r1 g1=>h1 σ H1 aM _ (S.cz g1) fun y v2 H2 cE h2 r2 g2 =>
  hd x y v1 v2 H2 cE Q R g2.b (Rep.mono g2.f x r1) r2 h2 fun z v' H' aj hz rz g3 =>
   q z v' H' aj hz (rz.weak fun p hp=>(g1.trans g2).s.free hp) ((g1.trans g2).trans g3))
theorem nI {f:Int→Int→Int}:Mg K (rI C fun i j=>.int (f i j)) fun x y R=>∃ i j,x=.int i∧y=.int j∧C i j∧R (.va (.int (f i j))):=by
 rintro x y v u H Hf Q R s rx ry ⟨i,j,rfl,rfl,hC,hR⟩ q
 rw [ay] at rx ry
 exact ⟨i,j,rx,ry,hC,q (.va (.int (f i j))) _ H Hf hR (show Rep K Hf (.int (f i j)) _ from ay.mpr rfl) (.refl s)⟩
theorem Ae {f:Int→Int→Int}:Mg K (vo fun i j=>.int (f i j)) fun x y R=>∃ i j,x=.int i∧y=.int j∧R (.va (.int (f i j))):=by
 rintro x y v u H Hf Q R s rx ry ⟨i,j,rfl,rfl,hR⟩ q
 rw [ay] at rx ry
 exact ⟨i,j,rx,ry,q (.va (.int (f i j))) _ H Hf hR (show Rep K Hf (.int (f i j)) _ from ay.mpr rfl) (.refl s)⟩
theorem iY (h:dw c e ρ fun r=>∃ d,r=.va d∧R d):aF c e ρ R:=e_x (h.imp fun r ⟨d,e,hr⟩=>⟨d,by subst e; rfl,hr⟩)
noncomputable def j3:D→D→Bool
 | .non,.non=>true | .non,.int _=>true | .int _,.non=>true | .non,.bl _=>true | .bl _,.non=>true | .non,.str _=>true | .str _,.non=>true
 | .int _,.int _=>true | .bl _,.bl _=>true | .str _,.str _=>true | .int _,.str _=>true | .str _,.int _=>true | .bl _,.str _=>true | .str _,.bl _=>true
 | _,_=>false
noncomputable instance:DecidableEq D:=fun _ _=>Classical.propDecidable _
inductive k6:Nat→D→D→Prop where
 | sc {n:Nat} {x y:D} (h:j3 x y=true):k6 n x y
 | tup {n:Nat} {ds es:List D} (h:∀ (i:Nat) (d e:D),ds[i]?=some d→es[i]?=some e→k6 n d e):k6 (n+1) (.tup ds) (.tup es)
 | lst {n:Nat} {ds es:List D} (h:∀ (i:Nat) (d e:D),ds[i]?=some d→es[i]?=some e→k6 n d e):k6 (n+1) (.lst ds) (.lst es)
 | ln {n:Nat} {ds:List D}:k6 n (.lst ds) .non
 | nl {n:Nat} {ds:List D}:k6 n .non (.lst ds)
 | tn {n:Nat} {ds:List D}:k6 n (.tup ds) .non
 | nt {n:Nat} {ds:List D}:k6 n .non (.tup ds)
noncomputable def oR (ds es:List D):Prop:=∀ (i:Nat) (d e:D),ds[i]?=some d→es[i]?=some e→k6 40 d e
noncomputable def KG (x y:D):Prop:=j3 x y=true∨∃ ds es,((x=.tup ds∧y=.tup es)∨(x=.lst ds∧y=.lst es))∧oR ds es
section
variable {a b:Expr} {pos:Pos} {ρ:List Sl} {R:D→Prop}
structure Sd (A B:Prop):Prop where
 s:A
 r:B
structure nJ (A B:Prop) (x:Bool):Prop where
 t:x=true→A
 f:x=false→B
theorem KH (h1:A):nJ A B true:=⟨fun _=>h1,fun h=>by cases h⟩
theorem KI (h1:B):nJ A B false:=⟨fun h=>(by cases h),fun _=>h1⟩
theorem D0 (h1:p→A) (h2:¬ p→B):nJ A B (@decide p i):=⟨fun h=>h1 (of_decide_eq_true h),fun h=>h2 (of_decide_eq_false h)⟩
theorem D9 (h:nJ B A x):nJ A B (!x):=⟨fun e=>h.f (by simpa using e),fun e=>h.t (by simpa using e)⟩
noncomputable def Ea (x y:D) (T:Bool→Prop):Prop:=KG x y∧T (decide (x=y))
theorem Eb (h:T (decide (i=j))):Ea (.int i) (.int j) T:=⟨.inl rfl,by
 have e:decide (D.int i=D.int j)=decide (i=j):=by simp
 rw [e]; exact h⟩
theorem Ec (h:Sd (oR ds es) (T (decide (ds=es)))):Ea (.lst ds) (.lst es) T:=⟨.inr ⟨ds,es,.inr ⟨rfl,rfl⟩,h.s⟩,by
 have e:decide (D.lst ds=D.lst es)=decide (ds=es):=by simp
 rw [e]; exact h.r⟩
noncomputable def I2 (k:Int→Int→Prop):D→D→Prop:=fun x y=>∃ i j,x=.int i∧y=.int j∧k i j
theorem i2 {k:Int→Int→Prop} (h:k i j):I2 k (.int i) (.int j):=⟨i,j,rfl,rfl,h⟩
noncomputable def I1 (k:Int→Prop):D→Prop:=fun x=>∃ i,x=.int i∧k i
theorem i1 {k:Int→Prop} (h:k i):I1 k (.int i):=⟨i,rfl,h⟩
noncomputable def B1 (k:Bool→Prop):D→Prop:=fun x=>∃ i,x=.bl i∧k i
theorem b1 {k:Bool→Prop} (h:k i):B1 k (.bl i):=⟨i,rfl,h⟩
theorem KJ (h:aF c a ρ fun x=>aF c b ρ fun y=>I2 (fun i j=>R (.int (i - j))) x y):aF c (.BinOp a .Sub b pos) ρ R :=
 iY (oQ G9 Ae (h.imp fun x hx=>hx.imp fun y ⟨i,j,e1,e2,r⟩=>⟨i,j,e1,e2,_,rfl,r⟩))
noncomputable def MulOk (i j:Int):Prop:=IntMulOk i j
noncomputable def Af (j:Int):Prop:=0<j∧j.natAbs.log2<9000
theorem Ed:fK c.X (binaryOp .Mult) (rI MulOk fun i j=>.int (i * j)):=JU fun _ _ _ _ _ _ _ hc q=>mul_int q hc
theorem Ag:fK c.X (binaryOp .FloorDiv) (rI (fun _ j=>Af j) fun i j=>.int (i / j)):=JU fun i j _ _ _ _ _ hc q=>by
 have h1:(0:Int)<j:=hc.1
 exact floordiv_int (by lia) (by rw [Int.fdiv_eq_ediv_of_nonneg i (by lia)]; exact q) (.inl (PyProof.noPylong_of_log2 hc.2))
theorem KL (h:aF c a ρ fun x=>aF c b ρ fun y=>I2 (fun i j=>Sd (MulOk i j) (R (.int (i * j)))) x y):aF c (.BinOp a .Mult b pos) ρ R :=
 iY (oQ Ed nI (h.imp fun x hx=>hx.imp fun y ⟨i,j,e1,e2,⟨hc,r⟩⟩=>⟨i,j,e1,e2,hc,_,rfl,r⟩))
theorem HJ (h:aF c a ρ fun x=>aF c b ρ fun y=>I2 (fun i j=>Sd (Af j) (R (.int (i / j)))) x y):aF c (.BinOp a .FloorDiv b pos) ρ R :=
 iY (oQ Ag nI (h.imp fun x hx=>hx.imp fun y ⟨i,j,e1,e2,⟨hc,r⟩⟩=>⟨i,j,e1,e2,hc,_,rfl,r⟩))
theorem KN (h:aF c a ρ fun x=>aF c b ρ fun y=>I2 (fun i j=>Sd (0<j) (R (.int (i % j)))) x y):aF c (.BinOp a .Mod b pos) ρ R :=
 iY (oQ Hg nI (h.imp fun x hx=>hx.imp fun y ⟨i,j,e1,e2,⟨hc,r⟩⟩=>⟨i,j,e1,e2,hc,_,rfl,r⟩))
theorem KO (h:aF c a ρ fun x=>aF c b ρ fun y=>I2 (fun i j=>Sd (tK i j) (R (.int (i ^ j.toNat)))) x y):aF c (.BinOp a .Pow b pos) ρ R :=
 iY (oQ Hh nI (h.imp fun x hx=>hx.imp fun y ⟨i,j,e1,e2,⟨hc,r⟩⟩=>⟨i,j,e1,e2,hc,_,rfl,r⟩))
theorem KP (h:aF c a ρ (I1 fun i=>R (.int (-i)))):aF c (.UnaryOp .USub a pos) ρ R:=fun σ H Hf Q S q =>
 bH (Kl Ho cU) (h σ H Hf _ S fun x v H' aj hx r g=>by
  obtain ⟨i,rfl,hR⟩:=hx
  rw [ay] at r
  exact ⟨i,r,q _ _ H' aj hR (ay.mpr rfl) g⟩)
noncomputable def Ah (K:NZ) (r:R2) (p:D→D→(Bool→Prop)→Prop):Prop :=
 ∀ (x y:D) (v u:V) (H Hf:Hp) (Q:VK) (R:Bool→Prop),aD Hf H→Rep K Hf x v→Rep K Hf y u→p x y R→(∀ b,R b→Q (.bl b) H)→r v u H Q
theorem KQ (ho:fK c.X (compareOp op) r) (hd:Ah c.X.K r p) (h:aF c a ρ fun x=>aF c b ρ fun y=>p x y fun z=>R (.bl z))
 (hm:behindInMarks op b=false):aF c (.Compare a [op] [b] pos) ρ R:=fun σ H Hf Q S q =>
 bH (DH ho cU cU hm) (h σ H Hf _ S fun x v1 H1 aM h1 r1 g1=>h1 σ H1 aM _ (S.cz g1) fun y v2 H2 cE h2 r2 g2 =>
  hd x y v1 v2 H2 cE Q _ g2.b (Rep.mono g2.f x r1) r2 h2 fun z hz=>q _ _ H2 cE hz (eY.mpr rfl) (g1.trans g2))
theorem qG (ho:fK c.X (compareOp op) r) (hd:Ah c.X.K r p) (h:aF c a ρ fun x=>aF c b ρ fun y=>p x y T)
 (hm:behindInMarks op b=false):jE c (.Compare a [op] [b] pos) ρ T:=fun σ H Hf Q S q =>
 vG (DI ho cU cU hm) (h σ H Hf _ S fun x v1 H1 aM h1 r1 g1=>h1 σ H1 aM _ (S.cz g1) fun y v2 H2 cE h2 r2 g2 =>
  hd x y v1 v2 H2 cE _ T g2.b (Rep.mono g2.f x r1) r2 h2 fun z hz=>⟨z,rfl,q _ H2 cE hz (g1.trans g2)⟩)
theorem Ai {f:Int→Int→Bool}:Ah K (vo fun i j=>.bl (f i j)) fun x y R=>I2 (fun i j=>R (f i j)) x y:=by
 rintro x y v u H Hf Q R s rx ry ⟨i,j,rfl,rfl,hR⟩ q
 rw [ay] at rx ry
 exact ⟨i,j,rx,ry,q _ hR⟩
theorem vJ (h:j3 x y=true) (rx:Rep K H x v) (ry:Rep K H y u):DG v u=true∧decide (v=u)=decide (x=y):=by
 cases x <;> cases y <;> simp [j3] at h <;> simp only [ay,eY,bO,fN] at rx ry <;> subst rx <;> subst ry <;> simp [DG]
theorem M3 (h:aF c a ρ fun x=>aF c b ρ fun y=>I2 (fun i j=>T (decide (i<j))) x y):jE c (.Compare a [.Lt] [b] pos) ρ T:=qG Ko Ai h (jA b)
theorem M4 (h:aF c a ρ fun x=>aF c b ρ fun y=>I2 (fun i j=>T (decide (j<i))) x y):jE c (.Compare a [.Gt] [b] pos) ρ T:=qG Kp Ai h (jA b)
theorem M5 (h:aF c a ρ fun x=>aF c b ρ fun y=>I2 (fun i j=>T (decide (j≤i))) x y):jE c (.Compare a [.GtE] [b] pos) ρ T:=qG Kq Ai h (jA b)
end
end
section
variable {K:NZ} {c:Ctx P w K mg base k N sc bk}
variable {es rest:List Expr}
noncomputable def bW (X:Cx) (e:Expr):TT:=fun σ H Q=>∀ whole aa s,Inv X aa σ H s→wpAny (model X.prog X.w) X.A (isTrue e X.env whole) (TP X aa σ Q) X.xe s
theorem NC:PW X e (bW X e):=fun whole aa s σ H Q I h=>h whole aa s I
theorem vK (h:PW X e t) (q:t σ H Q):bW X e σ H Q:=fun whole aa s I=>h whole aa s σ H Q I q
noncomputable def F9 (c:Ctx P w K mg base k N sc bk) (e:Expr) (ρ:List Sl) (R:Bool→Prop):Prop :=
 ∀ (σ:L2.St) (H Hf:Hp) (Q:Bool→Hp→Prop),bu c σ H Hf ρ→(∀ b H' aj,R b→bq H Hf H' aj→Q b H')→bW c.X e σ H Q
theorem ND (h:F9 c e ρ T):jE c e ρ T:=fun σ H Hf Q S q aa s I=>h σ H Hf Q S q _ aa s I
theorem HK (h:jE c a ρ T):F9 c (.BoolOp .And [a] pos) ρ T:=fun σ H Hf Q S q=>vK (pw_and1 F7) (h σ H Hf Q S q)
theorem KR (h:jE c a ρ T):F9 c (.BoolOp .Or [a] pos) ρ T:=fun σ H Hf Q S q=>vK (pw_or1 F7) (h σ H Hf Q S q)
theorem w_and (h:jE c a ρ (nJ (F9 c (.BoolOp .And (b::rest) pos) ρ T) (T false))):F9 c (.BoolOp .And (a::b::rest) pos) ρ T:=fun σ H Hf Q S q =>
 vK (pw_and F7 NC) (h σ H Hf _ S fun x H' aj hx g=>by
  cases x with
  | true=>exact hx.t rfl σ H' aj Q (S.cz g) fun y H2 cE hy g2=>q y H2 cE hy (g.trans g2)
  | false=>exact q false H' aj (hx.f rfl) g)
theorem w_or (h:jE c a ρ (nJ (T true) (F9 c (.BoolOp .Or (b::rest) pos) ρ T))):F9 c (.BoolOp .Or (a::b::rest) pos) ρ T:=fun σ H Hf Q S q =>
 vK (pw_or F7 NC) (h σ H Hf _ S fun x H' aj hx g=>by
  cases x with
  | false=>exact hx.f rfl σ H' aj Q (S.cz g) fun y H2 cE hy g2=>q y H2 cE hy (g.trans g2)
  | true=>exact q true H' aj (hx.t rfl) g)
theorem KS (h:jE c a ρ fun x=>T (!x)):jE c (.UnaryOp .Not a pos) ρ T:=fun σ H Hf Q S q =>
 vG (GV F7) (h σ H Hf _ S fun x H' aj hx g=>q _ H' aj hx g)
theorem KU (h:aF c a ρ R):aF c (.BoolOp op [a] pos) ρ R:=fun σ H Hf Q S q=>bH (GW cU) (h σ H Hf Q S q)
theorem KW (h:aF c a ρ (B1 (nJ (aF c (.BoolOp .And (b::rest) pos) ρ R) (R (.bl false))))):aF c (.BoolOp .And (a::b::rest) pos) ρ R:=fun σ H Hf Q S q =>
 bH (GX cU cU) (h σ H Hf _ S fun x v H' aj ⟨k,e,h1⟩ r g=>by
  subst e
  rw [eY] at r
  refine ⟨k,r,?_⟩
  cases k with
  | true=>rw [if_pos rfl]; exact h1.t rfl σ H' aj Q (S.cz g) fun y v2 H2 cE hy r2 g2=>q y v2 H2 cE hy r2 (g.trans g2)
  | false=>rw [if_neg Oe]; exact q _ _ H' aj (h1.f rfl) (eY.mpr rfl) g)
theorem Ef {R:Sl→Prop} (h:jE c t ρ (nJ (dw c a ρ R) (dw c b ρ R))):dw c (.IfExp t a b pos) ρ R:=fun σ H Hf Q S q =>
 bH (zB F7 cU cU) (h σ H Hf _ S fun x H' aj hx g=>by
  cases x with
  | true=>rw [if_pos rfl]; exact hx.t rfl σ H' aj Q (S.cz g) fun y v2 H2 cE hy r2 g2=>q y v2 H2 cE hy (r2.weak fun p hp=>g.s.free hp) (g.trans g2)
  | false=>rw [if_neg Oe]; exact hx.f rfl σ H' aj Q (S.cz g) fun y v2 H2 cE hy r2 g2=>q y v2 H2 cE hy (r2.weak fun p hp=>g.s.free hp) (g.trans g2))
theorem Eg (h:jE c t ρ (nJ (aF c a ρ R) (aF c b ρ R))):aF c (.IfExp t a b pos) ρ R :=
 iY (Ef (h.imp fun x hx=>⟨fun e=>F8 ((hx.t e).imp fun d h=>⟨d,rfl,h⟩),fun e=>F8 ((hx.f e).imp fun d h=>⟨d,rfl,h⟩)⟩))
theorem KY (h:aF c e ρ (B1 T)) (he:∀ (env:Env) whole,isTrue e env whole=(do let v ← whole; standAt e.pos; holding [v] (truthy v)):=by intro _ _; walk_at "u"):jE c e ρ T:=fun σ H Hf Q S q =>
 vG (GU cU (he _)) (h σ H Hf _ S fun x v H' aj ⟨k,e,h1⟩ r g=>by
  subst e; rw [eY] at r
  exact ⟨k,r,q k H' aj h1 g⟩)
theorem k7 {R:List D→Prop} (h:R []):qF c [] ρ R:=fun σ H Hf Q S q=>nH dH (q [] [] H Hf h (aA.mpr rfl) (.refl S.sb))
theorem cX {R:List D→Prop} (h:aF c e ρ fun d=>qF c es ρ fun ds=>R (d::ds)) (hs:∀ env,starEach (e::es) env=(false,eval e env)::starEach es env:=by intro _; walk_at "u"):qF c (e::es) ρ R:=fun σ H Hf Q S q =>
 nH (bN cU Ds (hs _)) (h σ H Hf _ S fun d v H1 aM h1 r1 g1=>h1 σ H1 aM _ (S.cz g1) fun ds vs H2 cE h2 r2 g2=>q _ _ H2 cE h2 (.cons (Rep.mono g2.f d r1) r2) (g1.trans g2))
theorem Ga (h:qF c es ρ fun ds=>Sd (ds.length≤sizeLine) (R (.tup ds))):aF c (.Tuple es j pos) ρ R:=fun σ H Hf Q S q =>
 bH (zL Ds) (h σ H Hf _ S fun ds vs H' aj ⟨hl,hR⟩ r g=>⟨by rw [← r.length]; exact hl,fun p hp=>by
  have g2:=bq.new g.b hp (o:=.tup vs)
  exact q _ _ _ _ hR (aH.mpr ⟨p,vs,rfl,.inl (.inl ai),r.mono g2.f⟩) (g.trans g2)⟩)
theorem Gb {R:Sl→Prop} (h:qF c es ρ fun ds=>Sd (ds.length≤sizeLine) (R (.ow ds))):dw c (.List es pos) ρ R:=fun σ H Hf Q S q =>
 bH (zM Ds) (h σ H Hf _ S fun ds vs H' aj ⟨hl,hR⟩ r g=>⟨by rw [← r.length]; exact hl,fun p hp=>by
  have g2:=bq.gc g.b hp (o:=.lst vs)
  exact q _ _ _ _ hR ⟨p,vs,rfl,g.s.free hp,ai,g.b.free hp,r⟩ (g.trans g2)⟩)
variable {st:Stmt}
theorem tT (h:nx ρ):aY c [] ρ nx p:=fun σ H Hf D S o=>Ac DB (o.nx σ H Hf ρ S h)
theorem aP (h:fu c st ρ (fun ρ'=>aY c sts ρ' nx p) p):aY c (st::sts) ρ nx p:=fun σ H Hf D S o =>
 Ac (zC NT qE) (h σ H Hf { D with nx:=HG c.X sts D } S ⟨fun σ' H' aj ρ' S' q=>q σ' H' aj D S' o,o.rt,o.bk,o.ct⟩)
theorem d7 (h:dw c e ρ p.rt):fu c (.Return (some e) pos) ρ nx p:=fun σ H Hf D S o =>
 dZ (zD cU) (h σ H Hf _ S fun r v H' aj hr rs g=>o.rt r v H' aj (S.bas.trans g) (rs.weak fun p hp=>S.bas.s.free hp) hr)
theorem Aj (hN:At N i x) (hi:At ρ i r) (hu:r.owned=true) (h:p.rt r)
 (hd:(x == ("__debug__":Str))=false:=by decide) (hcd:(x == ("__classdict__":Str))=false:=by decide) :
 fu c (.Return (some (.Name x pos2)) pos) ρ nx p:=fun σ H Hf D S o=>by
 obtain ⟨v,e,rs⟩:=S.at_ i r hi.get (by rintro rfl; cases hu)
 exact dZ (zD (tF (X:=c.X) (i:=i) (by rw [c.eN]; exact hN.get) (by rw [c.esc]; rcases c.vis x hN.mem with h | h; exact .inl h; exact .inr (.inl h)) hd hcd)) ⟨v,e,o.rt r v H Hf S.bas rs h⟩
theorem KZ (h:jE c t ρ (nJ (aY c A ρ nx p) (aY c B ρ nx p))):fu c (.If t A B pos) ρ nx p:=fun σ H Hf D S o =>
 dZ (Kd F7 qE qE) (h σ H Hf _ S fun x H' aj hx g=>by
  cases x with
  | true=>rw [if_pos rfl]; exact hx.t rfl σ H' aj D (S.cz g) o
  | false=>rw [if_neg Oe]; exact hx.f rfl σ H' aj D (S.cz g) o)
noncomputable def Nx (ρ:List Sl) (i:Nat) (R:List Sl→Prop) (r:Sl):Prop:=∃ ρ',SSet ρ i r ρ'∧R ρ'
theorem oS {R:List Sl→Prop} (h:SSet ρ i r ρ') (hr:R ρ'):Nx ρ i R r:=⟨ρ',h,hr⟩
theorem qH (hN:At N i x) (h:dw c e ρ (Nx ρ i nx))
 (hs:∀ env,swapsWith e (some (.Name x pos2)) pos.line env=pure false:=by intro _; walk_at "u") (hf:bk=false∨sc.names.lookup x=some .local:=by first | exact .inl rfl | exact .inr (by walk_at "u")):fu c (.Assign [.Name x pos2] e pos) ρ nx p:=fun σ H Hf D S o =>
 dZ (G2 (X:=c.X) (i:=i) (by rw [c.eN]; exact c.nd) (by rw [c.eN]; exact hN.get) (by rw [c.esc]; exact c.vis x hN.mem) cU (hs _) (c.fn x hf)) (h σ H Hf _ S fun r v H' aj ⟨ρ',hs,hx⟩ rs g=>o.nx _ H' aj _ (hs.eq ▸ S.set g rs) hx)
theorem cj {R:List Sl→Prop} (hN:At N i x) (h:Nx ρ i R (.va d)) (hf:bk=false∨sc.names.lookup x=some .local:=by first | exact .inl rfl | exact .inr (by walk_at "u")):mK c (.Name x pos) d ρ R:=fun σ H Hf v Q S r q=>by
 obtain ⟨ρ',hs,h⟩:=h
 exact vH (oE (X:=c.X) (i:=i) (by rw [c.eN]; exact c.nd) (by rw [c.eN]; exact hN.get) (by rw [c.esc]; exact c.vis x hN.mem) (c.fn x hf)) (q _ H Hf _ (hs.eq ▸ S.set (.refl S.sb) (r:=.va d) r) (.refl S.sb) h)
noncomputable def tU (c:Ctx P w K mg base k N sc bk) (ts:List Expr) (ds:List D) (ρ:List Sl) (R:List Sl→Prop):Prop :=
 ∀ (σ:L2.St) (H Hf:Hp) (vs:List V) (Q:L2.St→Hp→Prop),bu c σ H Hf ρ→au c.X.K Hf ds vs→(∀ σ' H' aj ρ',bu c σ' H' aj ρ'→bq H Hf H' aj→R ρ'→Q σ' H') →
  ∀ aa s us,Inv c.X aa σ H s→Vals vs us→wpAny (model c.X.prog c.X.w) c.X.A (assignInOrder ((assignEach ts c.X.env).map (·.2)) us) (fun _ s'=>∃ σ' H',Inv c.X aa σ' H' s'∧Q σ' H') c.X.xe s
theorem HL {R:List Sl→Prop} (h:R ρ):tU c [] [] ρ R:=fun σ H Hf vs Q S r q aa s us I rv=>by
 rw [aA] at r; subst r
 exact DC aa s σ H [] us Q I rv ⟨rfl,q σ H Hf ρ S (.refl S.sb) h⟩
theorem Eh {R:List Sl→Prop} (hN:At N i x) (h:Nx ρ i (fun ρ'=>tU c ts ds ρ' R) (.va d))
 (hs:∀ env,(assignEach (.Name x pos::ts) env).map (·.2)=assign (.Name x pos) env::(assignEach ts env).map (·.2):=by intro _; walk_at "u") (hf:bk=false∨sc.names.lookup x=some .local:=by first | exact .inl rfl | exact .inr (by walk_at "u")):tU c (.Name x pos::ts) (d::ds) ρ R:=fun σ H Hf vs Q S r q aa s us I rv=>by
 obtain ⟨ρ',hs',h⟩:=h
 rw [aC] at r
 obtain ⟨v,vr,rfl,r1,r2⟩:=r
 have hp:F1 c.X ts (fun vs' σ' H' Q'=>∀ aa s us,Inv c.X aa σ' H' s→Vals vs' us→wpAny (model c.X.prog c.X.w) c.X.A (assignInOrder ((assignEach ts c.X.env).map (·.2)) us) (fun _ s'=>∃ σ'' H'',Inv c.X aa σ'' H'' s'∧Q' σ'' H'') c.X.xe s) :=
  fun aa s σ H vs us Q I r h=>h aa s us I r
 refine zE (oE (X:=c.X) (i:=i) (by rw [c.eN]; exact c.nd) (by rw [c.eN]; exact hN.get) (by rw [c.esc]; exact c.vis x hN.mem) (c.fn x hf)) hp (hs _) aa s σ H _ us Q I rv ⟨v,vr,rfl,?_⟩
 have S1:=S.set (i:=i) (.refl S.sb) (r:=.va d) (v:=v) r1
 rw [← hs'.eq] at S1
 exact h _ H Hf vr Q S1 r2 q
theorem Ge {R:List Sl→Prop} (he:d=.tup ds) (hl:ds.length=ts.length) (h:tU c ts ds ρ R)
 (hn:∀ env,(assignEach ts env).length=ts.length:=by intro _; walk_at "u") (hst:∀ env,(assignEach ts env).findIdx? (·.1)=none:=by intro _; walk_at "u"):mK c (.Tuple ts j pos) d ρ R:=fun σ H Hf v Q S r q=>by
 subst he
 rw [aH] at r
 obtain ⟨a,xs,rfl,h1,h2⟩:=r
 have hp:F1 c.X ts (fun vs' σ' H' Q'=>∀ aa s us,Inv c.X aa σ' H' s→Vals vs' us→wpAny (model c.X.prog c.X.w) c.X.A (assignInOrder ((assignEach ts c.X.env).map (·.2)) us) (fun _ s'=>∃ σ'' H'',Inv c.X aa σ'' H'' s'∧Q' σ'' H'') c.X.xe s) :=
  fun aa s σ H vs us Q I r h=>h aa s us I r
 refine vH (G0 (X:=c.X) (k:=j) (n:=ts.length) c.calm hp (hn _) (hst _)) ⟨a,xs,rfl,av S.sb h1,by rw [← h2.length,hl],?_⟩
 exact h σ H Hf xs Q S h2 fun σ' H' aj ρ' S' g' hR=>q σ' H' aj ρ' S' g' hR
theorem K0 (h:aF c e ρ fun d=>mK c tg d ρ nx) (hs:∀ env,swapsWithSole [tg] e pos.line env=pure false:=by intro _; walk_at "u") (hw:∀ env,swappedStores [tg] e env=pure none:=by intro _; walk_at "u") (h1:∀ env,(assignEach [tg] env).map (·.2)=[assign tg env]:=by intro _; walk_at "u"):fu c (.Assign [tg] e pos) ρ nx p:=fun σ H Hf D S o =>
 dZ (zF cU NB (hs _) (hw _) (h1 _)) (h σ H Hf _ S fun d v H' aj hx r g=>hx σ H' aj v _ (S.cz g) r fun σ' H2 cE ρ' S' _ hR=>o.nx σ' H2 cE ρ' S' hR)
theorem K1 {f:Int→Int→Int} (ho:fK c.X (inplaceOp op) (rI C fun i j=>.int (f i j))) (hN:At N i x) (hi:At ρ i (.va (.int m)))
 (h:aF c e ρ (I1 fun j=>Sd (C m j) (Nx ρ i nx (.va (.int (f m j)))))) (hf:bk=false∨sc.names.lookup x=some .local:=by first | exact .inl rfl | exact .inr (by walk_at "u")):fu c (.AugAssign (.Name x pos2) op e pos) ρ nx p:=fun σ H Hf D S o=>by
 obtain ⟨v,e1,r1⟩:=S.va hi.get
 rw [ay] at r1; subst r1
 have hip:Nv c.X op (rI C fun i j=>.int (f i j)):=fun aa s σ H x y v u Q I rx ry h=>ho aa s σ H x y v u Q I rx ry h
 refine dZ (G3 (X:=c.X) (i:=i) (by rw [c.eN]; exact c.nd) (by rw [c.eN]; exact hN.get) (by rw [c.esc]; exact c.vis x hN.mem) cU hip (c.fn x hf)) ⟨_,e1,h σ H Hf _ S fun d v H' aj ⟨j,ed,⟨hC,ρ',hs,hn⟩⟩ r g=>?_⟩
 subst ed; rw [ay] at r
 have S2:=S.set g (i:=i) (r:=.va (.int (f m j))) (show Rep c.X.K aj (.int (f m j)) (.int (f m j)) from ay.mpr rfl)
 rw [← hs.eq] at S2
 exact ⟨m,j,rfl,r,hC,o.nx _ H' aj _ S2 hn⟩
theorem HM (hN:At N i x) (hi:At ρ i (.va (.int m))) (h:aF c e ρ (I1 fun j=>Nx ρ i nx (.va (.int (m - j))))) (hf:bk=false∨sc.names.lookup x=some .local:=by first | exact .inl rfl | exact .inr (by walk_at "u")) :
 fu c (.AugAssign (.Name x pos2) .Sub e pos) ρ nx p :=
 K1 (C:=fun _ _=>True) (f:=fun i j=>i - j) (fun aa s σ H x y v u Q I rx ry ⟨i,j,e1,e2,_,q⟩=>DF aa s σ H x y v u Q I rx ry ⟨i,j,e1,e2,q⟩) hN hi (h.imp fun d ⟨j,e,q⟩=>⟨j,e,trivial,q⟩) hf
theorem vL (hq:c.X.xe=fun _ _=>False) (I:Nat→List Sl→Prop) (h0:I m₀ ρ)
 (h:∀ m ρ',I m ρ'→jE c t ρ' (nJ (aY c body ρ' (fun r=>∃ m',m'<m∧I m' r) { ct:=fun r=>∃ m',m'<m∧I m' r,bk:=nx,rt:=p.rt }) (nx ρ'))) :
 fu c (.While t body [] pos) ρ nx p:=fun σ H Hf D S o =>
 dZ (zG (by rw [hq]; exact PassesOwn.never) F7 qE) ⟨fun m σ H=>∃ Hf ρ',bu c σ H Hf ρ'∧I m ρ',⟨m₀,Hf,ρ,S,h0⟩,fun m σ H ⟨Hf,ρ',S,hI⟩=>h m ρ' hI σ H Hf _ S fun x H' aj hx g=>by
  cases x with
  | false=>rw [if_neg Oe]; exact o.nx σ H' aj ρ' (S.cz g) (hx.f rfl)
  | true =>
   rw [if_pos rfl]
   refine ⟨fun σ' H'=>∃ m',m'<m∧∃ Hf ρ',bu c σ' H' Hf ρ'∧I m' ρ',fun σ' H' ⟨m',hl,hh⟩=>⟨m',hl,hh⟩,?_⟩
   exact hx.t rfl σ H' aj _ (S.cz g) ⟨fun σ H Hf ρ S ⟨m',hl,hi⟩=>⟨m',hl,Hf,ρ,S,hi⟩,o.rt,fun σ H Hf ρ S q=>o.nx σ H Hf ρ S q,fun σ H Hf ρ S ⟨m',hl,hi⟩=>⟨m',hl,Hf,ρ,S,hi⟩⟩⟩
end
theorem gp (h:n≤1000):n≤sizeLine:=Qq (xP h)
theorem Ak (h:0<j) (h2:j.natAbs.log2<9000):Af j:=⟨h,h2⟩
inductive Res where
 | ok (r:Sl)
 | ex (C:Addr)
noncomputable abbrev Fn:=List D→Res→Prop
noncomputable def fO (K:NZ) (F:Fn):Sp:=fun vs H Q E=>∃ Hf ds r,aD Hf H∧au K Hf ds vs∧F ds r∧match r with
 | .ok sl=>∀ v H' aj,bq H Hf H' aj→aX K (fun p=>H p=none) H' aj sl v→Q v H'
 | .ex C=>∀ a H',aD H H'→E (.ref C) (some a) H'
structure cG (P:Program) (w:World) (K:NZ) (mg:Str→Option Value) (base:Heap) (k:Nat) (x:Str) (F:Fn):Prop where
 ex:∃ f fd ps,mg x=some (.ref f)∧PX K (.ref f)=true∧Binds K fd ps []∧bx P w K mg base (dP P w) k f fd ps (fO K F)
section
variable {K:NZ} {c:Ctx P w K mg base k N sc bk}
noncomputable def HN (c:Ctx P w K mg base k N sc bk) (ρ:List Sl) (R:Sl→Prop):Res→Prop
 | .ok sl=>R sl
 | .ex C=>c.RX C ρ
theorem Ei (h:cG P w K mg base j x F) (hj:j≤k):∃ f,mg x=some (.ref f)∧PX K (.ref f)=true ∧
 ∀ (aa:List (Addr×Obj)) (σ:L2.St) (H Hf:Hp) (s:Shared) (us:List Value) (vs:List V) (ds:List D) (r:Res) (Q:VK),Inv c.X aa σ H s→bu c σ H Hf ρ→Vals vs us→au c.X.K Hf ds vs→F ds r →
  (∀ sl v H' aj,r=.ok sl→aX c.X.K (fun p=>H p=none) H' aj sl v→bq H Hf H' aj→Q v H')→(∀ C,r=.ex C→c.RX C ρ)→wpAny (model c.X.prog c.X.w) c.X.A (call (.ref f) us) (EP c.X aa σ Q) c.X.xe s:=by
 obtain ⟨f,fd,ps,hm,hk,hb,hF⟩:=h.ex
 refine ⟨f,hm,hk,fun aa σ H Hf s us vs ds r Q I S rv rs hr q hx=>?_⟩
 have hF':bx c.X.prog c.X.w c.X.K c.X.mg c.X.base (dP c.X.prog c.X.w) k f fd ps (fO c.X.K F):=by rw [c.eP,c.ew,c.eK,c.emg,c.eb]; exact hF.mono hj
 have qk:fO c.X.K F vs H Q (fun cv ao H'=>∃ C,r=.ex C∧cv=.ref C∧aD H H'):=by
  refine ⟨Hf,ds,r,S.bas.b,rs,hr,?_⟩
  cases r with
  | ok sl=>exact fun v H' aj g rs2=>q sl v H' aj rfl rs2 g
  | ex C=>exact fun a H' s2=>⟨C,rfl,rfl,s2⟩
 have hl:us.length=ps.length:=by rw [← rv.length]; exact hF'.len _ _ _ _ qk
 have hb':Binds c.X.K fd ps []:=by rw [c.eK]; exact hb
 have hb2:=hb' s us I.oB (by simpa using hl)
 rw [O7] at hb2
 refine Rc (Q9 (hF'.run c.X.A c.X.stack s H ⟨us,[]⟩ us vs Q _ c.room I.DK hb2 rv qk) fun r' s' hq=>?_)
 cases r' with
 | error e =>
  obtain ⟨a,C,H',rfl,hE,C',e1,e2,sm⟩:=hq
  cases e2
  exact c.exc C a aa σ H Hf ρ s H' s' I S (hx C e1) hE sm
 | ok fl =>
  cases fl with
  | ret u=>exact I.after hq
  | next=>exact O2 hq
  | brk=>exact O2 hq
  | cont=>exact O2 hq
theorem x_call {R:Sl→Prop} (h:cG P w K mg base j x F) (hj:j≤k)
 (ha:qF c (e::es) ρ fun ds=>∃ r,F ds r∧HN c ρ R r)
 (hg:sc.names.lookup x=some .globalImplicit:=by walk_at "u") (hdb:(x == ("__debug__":Str))=false:=by decide) (he:∀ env,starEach (e::es) env=(false,eval e env)::starEach es env:=by intro _; walk_at "u")
 (hpl:∀ env,(backTo pos (starEach es env)).any (·.1)=false:=by intro _; walk_at "u"):dw c (.Call (.Name x p) (e::es) [] pos) ρ R:=fun σ H Hf Q S q aa s I=>by
 obtain ⟨f,hm,hk,run⟩:=Ei (c:=c) (ρ:=ρ) h hj
 refine PU (iT I (by unfold Gl ON; rw [c.esc]; exact hg) (by rw [c.emg]; exact hm) ?_ hdb)
 refine Si (h₀:=c.X.base) I.ok.mod.kin (by rw [c.eK]; exact hk) (bC (ha σ H Hf (fun vs H1=>∃ aM ds,(∃ r,F ds r∧HN c ρ R r)∧au c.X.K aM ds vs∧bq H Hf H1 aM) S (fun ds vs H1 aM hr rs g=>⟨aM,ds,hr,rs,g⟩) pos aa s I) fun us s1 hh=>z2 hh fun vs H1 hh=>w3 hh fun I1 rv hh=>z2 hh fun aM ds hh=>w3 hh fun hh rs g=>hh.elim fun r hh=>w2 hh fun hF hR=>⟨I1.oB,?_⟩) (he _) (hpl _)
 refine run aa σ H1 aM s1 us vs ds r Q I1 (S.cz g) rv rs hF (fun sl v H' aj e1 rs2 g2=>?_) fun C e1=>?_
 ·subst e1
  exact q sl v H' aj hR (rs2.weak fun p hp=>g.s.free hp) (g.trans g2)
 ·subst e1
  exact hR
theorem cY (h:cG P w K mg base j x F) (hj:j≤k)
 (ha:qF c (e::es) ρ fun ds=>∃ r,F ds r∧HN c ρ (DZ R) r)
 (hg:sc.names.lookup x=some .globalImplicit:=by walk_at "u") (hdb:(x == ("__debug__":Str))=false:=by decide) (he:∀ env,starEach (e::es) env=(false,eval e env)::starEach es env:=by intro _; walk_at "u")
 (hpl:∀ env,(backTo pos (starEach es env)).any (·.1)=false:=by intro _; walk_at "u"):aF c (.Call (.Name x p) (e::es) [] pos) ρ R:=e_x (x_call h hj ha hg hdb he hpl)
noncomputable def iw (N:List Str) (ds:List D):List Sl:=ds.map .va++Of (N.length - ds.length) .un
theorem Al (r:au K dQ ds vs) (sb:aD dQ H₀):cW K H₀ dQ (L2.start N vs) H₀ dQ (iw N ds):=by
 have hl:=r.length
 refine ⟨.refl sb,by simp [L2.start,iw,hl],fun i r' h hu=>?_,fun i j r1 r2 p hne h1 h2 o1 o2=>?_⟩
 ·by_cases q:i<ds.length
  ·have e:(iw N ds)[i]?=some (.va ds[i]):=by
    unfold iw
    rw [Qf (by simpa using q)]; simp [q]
   rw [e] at h; cases h
   obtain ⟨x,e2,rx⟩:=r.get (i:=i) (d:=ds[i]) (by simp)
   refine ⟨x,?_,rx⟩
   unfold L2.start
   rw [Qf (by simp; lia)]
   simp [e2]
  ·unfold iw at h
   rw [QT (by simp; lia)] at h
   have:=Pe h
   exact absurd (R1 this) hu
 ·exfalso
  unfold iw at h1
  by_cases q:i<(ds.map Sl.va).length
  ·rw [Qf q] at h1
   rw [Oc] at h1
   cases z:ds[i]? with
   | none=>rw [z] at h1; cases h1
   | some d=>rw [z] at h1; cases h1; cases o1
  ·rw [QT (by lia)] at h1
   have e3:=R1 (Pe h1)
   subst e3; cases o1
theorem cZ {st:Stmt} (Fu:fL K x qual st f fd) (Sc:aG N ps (ah st)) (Vi:∀ x∈N,Loc (ah st) x) (ar:∀ ds r,F ds r→ds.length=ps.length)
 (hok:∀ ds r,F ds r→∃ sl,r=.ok sl)
 (body:∀ (c:Ctx P w K mg base k N (ah st) false),c.X.xe=(fun _ _=>False)→∀ ds sl,F ds (.ok sl)→aY c (az st) (iw N ds) (fun _=>sl=.va .non) { rt:=fun r=>r=sl }) :
 bx P w K mg base (dP P w) (k+1) f fd ps (fO K F):=by
 obtain ⟨oc,od,kV,doc,pm,an,cdv,ct,osl,rfl,lk,hcd⟩:=Fu.ex
 refine zN lk hcd Sc (fun vs H Q E ⟨Hf,ds,r,_,rs,hF,_⟩=>by rw [← rs.length]; exact ar _ _ hF) fun A outer s H vs Q E hr ⟨Hf,ds,r,sb,rs,hF,hq⟩=>?_
 obtain ⟨sl,rfl⟩:=hok _ _ hF
 let X:Cx:=(qt (dP P w) P w K mg base N qual (ah st) f cdv A outer s H E).F0
 let c:Ctx P w K mg base k N (ah st) false :=
  { X:=X,eP:=rfl,ew:=rfl,eK:=rfl,emg:=rfl,eb:=rfl,eN:=rfl,esc:=rfl,calm:=rfl,top:=fun _=>⟨rfl,rfl,rfl⟩,cb:=fun _ _ _ _ _ I x c h=>I.ok.cab x c rfl h,fn:=fun _ _=>.inl rfl,B:=H,room:=hr,nd:=Sc.nd,vis:=Vi,Hf:=Hf,RX:=fun _ _=>False,
    exc:=fun _ _ _ _ _ _ _ _ _ _ _ _ h _ _=>h.elim,RM:=fun _ _=>False,mde:=fun _ _ _ _ _ _ _ _ _ _ _ _ h _=>h.elim }
 refine ⟨_,tu.F0 (t:=HG X (az st)) (qE (X:=X)),?_⟩
 refine body c rfl ds sl hF (L2.start N vs) H Hf _ (Al rs sb) ⟨fun σ H' aj ρ S e=>?_,fun r v H' aj g rv e=>?_,fun _ _ _ _ _ h=>h.elim,fun _ _ _ _ _ h=>h.elim⟩
 ·subst e
  exact hq .non H' aj S.bas (show Rep K aj .non .non from bO.mpr rfl)
 ·have e:r=sl:=e
  subst e
  exact hq v H' aj g rv
noncomputable def M6 (K:NZ) (r:List V→Hp→VK→Prop) (p:List D→(Sl→Prop)→Prop):Prop :=
 ∀ (ds:List D) (vs:List V) (H Hf:Hp) (Q:VK) (R:Sl→Prop),aD Hf H→au K Hf ds vs→p ds R→(∀ z v' H' aj,R z→aX K (fun p=>H p=none) H' aj z v'→bq H Hf H' aj→Q v' H')→r vs H Q
theorem K2 {id:String} {R:Sl→Prop} (hc:gj c.X (.type id) r) (hd:M6 c.X.K r q) (hm:mg x=none) (hv:bootBuiltins x=some (.type id))
 (ha:qF c (e::es) ρ fun ds=>q ds R) (hg:sc.names.lookup x=some .globalImplicit:=by walk_at "u") (hn:x≠"__name__":=by decide) (hdb:(x == ("__debug__":Str))=false:=by decide)
 (he:∀ env,starEach (e::es) env=(false,eval e env)::starEach es env:=by intro _; walk_at "u") (hpl:∀ env,(backTo pos (starEach es env)).any (·.1)=false:=by intro _; walk_at "u"):dw c (.Call (.Name x p) (e::es) [] pos) ρ R:=fun σ H Hf Q S qq =>
 bH (nv hc (by unfold Gl ON; rw [c.esc]; exact hg) (by rw [c.emg]; exact hm) hv Ds hn hdb (he _) (hpl _))
  (ha σ H Hf _ S fun ds vs H1 aM h1 rs g=>hd ds vs H1 aM Q R g.b rs h1 fun z v' H' aj hz rz g2=>qq z v' H' aj hz (rz.weak fun p hp=>g.s.free hp) (g.trans g2))
theorem qI (h:au K H [d] vs):∃ v,vs=[v]∧Rep K H d v:=by
 rw [aC] at h
 obtain ⟨x,r,rfl,h1,h2⟩:=h
 rw [aA] at h2; subst h2
 exact ⟨x,rfl,h1⟩
noncomputable def Am (K:NZ) (r:List V→Hp→VK→Prop) (p:List D→(D→Prop)→Prop):Prop :=
 ∀ (ds:List D) (vs:List V) (H Hf:Hp) (Q:VK) (R:D→Prop),aD Hf H→au K Hf ds vs→p ds R→(∀ d v H' aj,R d→Rep K aj d v→bq H Hf H' aj→Q v H')→r vs H Q
theorem vM {id:String} (hc:gj c.X (.builtin id) r) (hd:Am c.X.K r q) (hm:mg x=none) (hv:bootBuiltins x=some (.builtin id))
 (ha:qF c (e::es) ρ fun ds=>q ds R) (hg:sc.names.lookup x=some .globalImplicit) (hn:x≠"__name__") (hdb:(x == ("__debug__":Str))=false)
 (he:∀ env,starEach (e::es) env=(false,eval e env)::starEach es env) (hpl:∀ env,(backTo pos (starEach es env)).any (·.1)=false):aF c (.Call (.Name x p) (e::es) [] pos) ρ R:=fun σ H Hf Q S qq =>
 bH (zO hc (by unfold Gl ON; rw [c.esc]; exact hg) (by rw [c.emg]; exact hm) hv Ds hn hdb (he _) (hpl _))
  (ha σ H Hf _ S fun ds vs H1 aM h1 rs g=>hd ds vs H1 aM Q R g.b rs h1 fun z v' H' aj hz rz g2=>qq z v' H' aj hz rz (g.trans g2))
theorem K3 {id:String} (hc:gj c.X (.type id) r) (hd:Am c.X.K r q) (hm:mg x=none) (hv:bootBuiltins x=some (.type id))
 (ha:qF c (e::es) ρ fun ds=>q ds R) (hg:sc.names.lookup x=some .globalImplicit) (hn:x≠"__name__") (hdb:(x == ("__debug__":Str))=false)
 (he:∀ env,starEach (e::es) env=(false,eval e env)::starEach es env) (hpl:∀ env,(backTo pos (starEach es env)).any (·.1)=false):aF c (.Call (.Name x p) (e::es) [] pos) ρ R:=fun σ H Hf Q S qq =>
 bH (nv hc (by unfold Gl ON; rw [c.esc]; exact hg) (by rw [c.emg]; exact hm) hv Ds hn hdb (he _) (hpl _))
  (ha σ H Hf _ S fun ds vs H1 aM h1 rs g=>hd ds vs H1 aM Q R g.b rs h1 fun z v' H' aj hz rz g2=>qq z v' H' aj hz rz (g.trans g2))
section
end
end
end EV
namespace EV
open PySem PySem.Spec PySem.Calls PyProof.Rows L2
theorem HP (x:bh P w H h a o):∃ u,h.get? a=some u:=by
 cases o with
 | lst xs=>obtain ⟨_,_,_,_,e⟩:=x; exact ⟨_,e⟩
 | tup xs=>obtain ⟨_,_,_,ob,e,_⟩:=x; exact ⟨_,e⟩
 | dK kvs=>obtain ⟨_,_,_,_,o,_,_,e,_⟩:=x; exact ⟨_,e⟩
 | dT kvs=>obtain ⟨_,_,_,_,o,_,_,e,_⟩:=x; exact ⟨_,e⟩
 | set S n=>obtain ⟨o,_,_,_,e,_⟩:=x; exact ⟨_,e⟩
 | ins C dx fs=>obtain ⟨_,_,_,e,_⟩:=x; exact ⟨_,e⟩
 | own y=>exact x
 | xd fs=>obtain ⟨_,⟨_,_,_,e,_⟩,_⟩:=x; exact ⟨_,e⟩
 | rng lo hi=>obtain ⟨_,_,_,e⟩:=x; exact ⟨_,e⟩
 | frz ob u=>obtain ⟨e,_⟩:=x; exact ⟨_,e⟩
 | tbl ps=>exact ⟨_,x⟩
 | met f y=>exact ⟨_,x⟩
 | ext φ =>exact x.2.1
section
end
section
variable {K:NZ}
end
open PySem.W Builtin Builtin.ObjectAttr Builtin.Getset_descriptor
structure Mh (K:NZ) (C:Addr):Prop where
 ga:Ql K (.ref C) "__getattribute__"=some (some (.builtin "BaseException.__getattribute__"))
 hk:Ql K (.ref C) "__getattr__"=some none
 ca:Ql K (.ref C) "__class__"=some (some (.builtin "object.__class__"))
 gt:T7 K (.builtin "object.__class__") "__get__"=some (some (.builtin "getset_descriptor.__get__"))
 tk:PySem.W.takesIn K (.builtin "object.__class__")=some true
 mo:SQ K C (.type "object")=some true
 mb:SQ K C (.type "BaseException")=some true
section
variable {prog:Program} {w:World} {A:Around} {E:Value→Shared→Prop} {s:Shared} {K:NZ} {x C:Addr} {R:Result→Shared→Prop}
theorem vN (p:tR x C h):Looks M h (typeOf (.ref x)) (.ref C):=by
 obtain ⟨o,ho,hc,_⟩:=p
 rw [← hc]
 exact (Looks.ld ho).andThen .now
theorem mO (X:K.In s.heap) (L:Looks (model prog w) s.heap (typeOf (.ref x)) (.ref C)) (hm:SQ K C (.type "object")=some true)
 (h:R (.ok (.ret (.ref C))) s):codeAny (model prog w) A (.call (.builtin "getset_descriptor.__get__") ⟨[.builtin "object.__class__",.ref x,tp],[]⟩) R s:=by
 obtain ⟨hh,g,dr,t,os⟩:=s
 have L0:=L
 have L1:=looks_mroIn (M:=model prog w) X hm
 refine codeAny_call_builtin KF.slot_gs.plain KF.entry_gs (KF.slot_gs.check _ _ _ _ _ _ _ _ KF.type_class (KF.args_gs _ _ _) ?_)
 unfold Builtin.«getset_descriptor.__get__» descrGet
 rw [dga_obj]
 refine NX (N1 ?_)
 unfold descrGetter descrCheckInstance descrNameAndClass isInstance
 simp only [KF.owner_class]
 repeat lk
 refine ⟨Code.quiet_builtin _ (by decide +kernel),Ru KF.entry_class ?_⟩
 unfold Builtin.«object.__class__» shownTypeOf
 repeat lk
 exact h
theorem An (X:K.In h) (k:Mh K C):Looks M h (find (.ref x) (.ref C) "__class__") (.bind (.builtin "getset_descriptor.__get__") (.builtin "object.__class__")):=by
 have L1:=looks_findIn (M:=M) X k.ca
 have L2:Looks M h (getOf (some (.builtin "object.__class__"))) (some (.builtin "getset_descriptor.__get__")):=looks_specialIn X k.gt
 have L3:=looks_takesIn (M:=M) X k.tk
 unfold find
 refine L1.andThen (L2.andThen ?_)
 refine Looks.andThen (a:=some (.builtin "getset_descriptor.__get__",.builtin "object.__class__")) ?_ (Looks.tag .now)
 unfold dataDescriptor?
 exact L3.andThen .now
theorem xQ (X:K.In s.heap) (p:tR x C s.heap) (k:Mh K C) (h:Q (some (.ref C)) { s with toks:=s.toks+1 }):wpAny (model prog w) A (getAttr? (.ref x) "__class__") Q E s:=by
 obtain ⟨hh,g,d,t,os⟩:=s
 have L0:Looks (model prog w) hh (typeOf (.ref x)) (.ref C):=vN p
 have L1:=looks_findIn (M:=model prog w) X k.ga
 have L2:=looks_findIn (M:=model prog w) X k.hk
 have L3:=looks_mroIn (M:=model prog w) X k.mb
 have L4:=An (M:=model prog w) (x:=x) X k
 unfold getAttr? getAttrBy? getAttrBy
 refine NX (wpAny_mkText (NX (Qn (OS (NX (L0.at (NX (L1.at ?_))))))))
 dsimp only
 have hx2:(Value.builtin "BaseException.__getattribute__" == Value.builtin "object.__getattribute__")=false:=by decide +kernel
 rw [hx2,Bool.and_false,if_neg Oe]
 unfold getAttrByItsOwn hookBefore
 rw [if_pos (by rfl)]
 refine NX (L2.at ?_)
 refine NX (Qn (OS ?_))
 unfold callGetattribute
 rw [if_neg (by simp)]
 unfold boundAndCalled
 have f3:=PySem.F.attrBase_ValueError.ga.bind (.ref x)
 rw [f3]
 refine NX (N1 ?_)
 refine Rc (codeAny_call_builtin PySem.F.attrBase_ValueError.ga.plain PySem.F.entry_bexc_ga ?_)
 have hk:builtinKind "BaseException.__getattribute__"=some .slot:=by decide +kernel
 have hsplit:splitId "BaseException.__getattribute__"=some ("BaseException","__getattribute__"):=by decide +kernel
 have ha:=PySem.F.args_bexc_ga (.ref x) (RN "__class__" t)
 simp only [checkBuiltinCall,hk,hsplit]
 dsimp only [Pq,P1]
 have LI:Looks (model prog w) hh (isInstance (.ref x) (.type "BaseException")) true:=L0.andThen L3
 refine NX (LI.at ?_)
 rw [if_neg (by decide)]
 refine OP (Q:=fun _ s1=>s1=⟨hh,g,d,t+1,os⟩) (E:=fun _ _=>False) ?_ (fun _ s1 e1=>?_) (fun _ _ z=>z.elim)
 ·repeat (any_goals (first | assumption | rfl | wp_step))
 subst e1
 unfold «object.__getattribute__»
 repeat (first | with_reducible refine Rc ?_ | lk)
 refine mO X L0 k.mo ?_
 repeat lk
 exact h
theorem Ao (k:Mh K C):PySem.W.KitX K (.ref x) (.ref C) (tR x C) where
 ty:=fun _ _ _ p=>vN p
 it:=fun _ _ X _=>by
  have hdct:∃ cd,RC K C=some cd:=by
   obtain ⟨cd,h1,_⟩:=Tu.mp (show (RC K C).bind _=some true from k.mo)
   exact ⟨cd,h1⟩
  obtain ⟨cdD,hcD⟩:=hdct
  unfold RC at hcD
  split at hcD
  ·rename_i c' d' cd' sl' ho
   intro A' Q' E' s' k q
   unfold isType loadHead
   exact NX (wpAny_loadPart (k _ _ (X _ _ ho)) (N1 q))
  ·cases hcD
 ne:=fun h tp dd its n sl X htp=>by
  obtain ⟨cdD,hcD,_⟩:=Tu.mp (show (RC K C).bind _=some true from k.mo)
  refine Bool.eq_false_iff.mpr fun q=>?_
  have e:C=tp:=Ox.inj (beq_iff_eq.mp q)
  subst e
  unfold RC at hcD
  split at hcD
  ·rename_i c' d' cd' sl' ho
   have z:=(X _ _ ho).symm.trans htp
   cases z
  ·cases hcD
 ca:=fun X p h=>xQ X p k h
end
inductive xR (K:NZ):D→Value→Prop where
 | non:xR K .non (.type "NoneType")
 | bl {x:Bool}:xR K (.bl x) (.type "bool")
 | int {i:Int}:xR K (.int i) (.type "int")
 | str {x:Str}:xR K (.str x) (.type "str")
 | lst {ds:List EV.D}:xR K (.lst ds) (.type "list")
 | tup {ds:List EV.D}:xR K (.tup ds) (.type "tuple")
 | exc {C:Addr} (k:Mh K C):xR K (.exc C) (.ref C)
section
theorem Ej (I:Inv X aa σ H s) (sb:aD Hf H) (rx:RelV v u) (rd:Rep X.K Hf d v) (ty:xR X.K d t) (e:Pu X.K t cv=some b) (h:∀ tk,Q (.bool b) { s with toks:=tk }) :
 wpAny (model X.prog X.w) A (call (.builtin "isinstance") [u,cv]) Q E s:=by
 cases ty with
 | non=>rw [bO] at rd; subst rd; cases (show u=O4 from rx); exact QE PySem.W.kitx_none I.oB P6 e (fun z=>nomatch z) h
 | bl=>rw [eY] at rd; subst rd; cases (show u=Value.bool _ from rx); exact QE PySem.W.kitx_bool I.oB P6 e (fun z=>nomatch z) h
 | int=>rw [ay] at rd; subst rd; obtain ⟨t,q⟩:=(show ∃ t,u=RO _ t from rx); cases q; exact QE PySem.W.kitx_int I.oB P6 e (fun z=>nomatch z) h
 | str=>rw [fN] at rd; subst rd; obtain ⟨t,q⟩:=(show ∃ t,u=RN _ t from rx); cases q; exact QE PySem.W.kitx_str I.oB P6 e (fun z=>nomatch z) h
 | lst =>
  rw [aV] at rd
  obtain ⟨a,xs,rfl,h1,_⟩:=rd
  cases (show u=Ox a from rx)
  obtain ⟨its,_,p,_⟩:=I.list (sb.seq h1)
  obtain ⟨o,n1,p1,p2,_⟩:=p
  exact QE PySem.W.kitx_list I.oB ⟨o,p1,p2⟩ e (fun z=>nomatch z) h
 | tup =>
  rw [aH] at rd
  obtain ⟨a,xs,rfl,h1,_⟩:=rd
  cases (show u=Ox a from rx)
  obtain ⟨its,_,p,_⟩:=I.tuple (av sb h1)
  obtain ⟨o,p1,p2,_⟩:=p
  exact QE PySem.W.kitx_tuple I.oB ⟨o,p1,p2⟩ e (fun z=>nomatch z) h
 | @exc C k =>
  rw [DY] at rd
  obtain ⟨a,rfl,h1⟩:=rd
  cases (show u=Ox a from rx)
  have p:tR a C s.heap:=(show bh X.prog X.w H s.heap a (.ext (tR a C)) from I.hok a _ (sb _ _ h1)).1
  exact QE (Ao k) I.oB p e (fun z=>nomatch z) h
end
section
variable {K:NZ} {c:Ctx P w K mg base k N sc bk}
noncomputable def iZ (mg:Str→Option Value) (x:Str) (cv:Value):Prop:=(∃ C,cv=.ref C∧mg x=some (.ref C))∨(∃ T,cv=.type T∧mg x=none∧bootBuiltins x=some (.type T)∧x≠"__name__")
theorem xS:bootBuiltins "isinstance"=some (.builtin "isinstance"):=by decide +kernel
theorem oU (hm:mg "isinstance"=none) (hc:iZ mg x cv) (h:aF c e ρ fun d=>∃ t b,xR K d t∧Pu K t cv=some b∧R (.bl b))
 (hgi:sc.names.lookup (NY "isinstance")=some .globalImplicit:=by walk_at "u") (hgx:sc.names.lookup x=some .globalImplicit:=by walk_at "u") (hdx:(x == ("__debug__":Str))=false:=by decide)
 (he:∀ env,starEach [e,.Name x cp] env=(false,eval e env)::starEach [.Name x cp] env:=by intro _; walk_at "u") (he2:∀ env,starEach [.Name x cp] env=[(false,eval (.Name x cp) env)]:=by intro _; walk_at "u")
 (hpl:∀ env,(backTo pos (starEach [.Name x cp] env)).any (·.1)=false:=by intro _; walk_at "u"):aF c (.Call (.Name "isinstance" np) [e,.Name x cp] [] pos) ρ R:=fun σ H Hf Q S q aa s I=>by
 refine PU (dG I (by unfold Gl ON; rw [c.esc]; exact hgi) (by rw [c.emg]; exact hm) xS ?_ (by decide) (by decide))
 have hx:∀ (s1:Shared) (H1:Hp) (Q':Value→Shared→Prop),Inv c.X aa σ H1 s1→Q' cv s1→wpAny (model c.X.prog c.X.w) c.X.A (eval (.Name x cp) c.X.env) Q' c.X.xe s1:=fun s1 H1 Q' I1 q'=>by
  rcases hc with ⟨C,rfl,hm'⟩ | ⟨T,rfl,hm',hb,hn⟩
  ·exact iT I1 (by unfold Gl ON; rw [c.esc]; exact hgx) (by rw [c.emg]; exact hm') q' hdx
  ·exact dG I1 (by unfold Gl ON; rw [c.esc]; exact hgx) (by rw [c.emg]; exact hm') hb q' hn hdx
 refine Ti (spliced_more (h σ H Hf (fun v H1=>∃ d aM,(∃ t b,xR K d t∧Pu K t cv=some b∧R (.bl b))∧Rep c.X.K aM d v∧bq H Hf H1 aM) S (fun d v H' aj hR r g=>⟨d,aj,hR,r,g⟩) aa s I |> (bC · fun u s1 hh=>z2 hh fun v H1 hh=>w3 hh fun I1 rv hh=>z2 hh fun d aM hh=>w3 hh fun hh rd g=>z2 hh fun t b hh=>w3 hh fun ty ek hR=>?_)) (he _)) (he _) (hpl _)
 refine spliced_more (hx s1 H1 _ I1 (spliced_none ?_)) (he2 _)
 refine Ej I1 g.b rv rd (by rw [c.eK]; exact ty) (by rw [c.eK]; exact ek) fun tk=>?_
 exact ⟨.bl b,H1,I1.tok tk,rfl,q _ _ H1 aM hR (eY.mpr rfl) g⟩
end
section
variable {X:Cx}
theorem oV (I:Inv X aa σ H s) (sb:aD Hf H):∀ (n:Nat) (d e:D) (v:V),k6 n d e→Rep X.K Hf d v→Rep X.K Hf e v→d=e:=by
 intro n
 induction n with
 | zero =>
  intro d e v h r1 r2
  cases h with
  | sc h=>cases d <;> cases e <;> simp [j3] at h <;> simp_all [Rep]
  | ln=>rw [bO] at r2; subst r2; rw [aV] at r1; obtain ⟨_,_,e,_⟩:=r1; cases e
  | nl=>rw [bO] at r1; subst r1; rw [aV] at r2; obtain ⟨_,_,e,_⟩:=r2; cases e
  | tn=>rw [bO] at r2; subst r2; rw [aH] at r1; obtain ⟨_,_,e,_⟩:=r1; cases e
  | nt=>rw [bO] at r1; subst r1; rw [aH] at r2; obtain ⟨_,_,e,_⟩:=r2; cases e
 | succ n ih =>
  have els:∀ (ds es:List D) (xs:List V),(∀ (i:Nat) (d e:D),ds[i]?=some d→es[i]?=some e→k6 n d e)→au X.K Hf ds xs→au X.K Hf es xs→ds=es:=fun ds es xs h q1 q2=>by
   apply Sv
   intro i
   cases a:ds[i]? with
   | none =>
    have:ds.length≤i:=by simpa using a
    symm
    rw [List.getElem?_eq_none_iff,q2.length,← q1.length]; exact this
   | some d =>
    obtain ⟨x,ex,rx⟩:=q1.get a
    obtain ⟨e,ee,re⟩:=q2.get' ex
    rw [ee,ih d e x (h i d e a ee) rx re]
  intro d e v h r1 r2
  cases h with
  | sc h=>cases d <;> cases e <;> simp [j3] at h <;> simp_all [Rep]
  | ln=>rw [bO] at r2; subst r2; rw [aV] at r1; obtain ⟨_,_,e,_⟩:=r1; cases e
  | nl=>rw [bO] at r1; subst r1; rw [aV] at r2; obtain ⟨_,_,e,_⟩:=r2; cases e
  | tn=>rw [bO] at r2; subst r2; rw [aH] at r1; obtain ⟨_,_,e,_⟩:=r1; cases e
  | nt=>rw [bO] at r1; subst r1; rw [aH] at r2; obtain ⟨_,_,e,_⟩:=r2; cases e
  | tup h =>
   rw [aH] at r1 r2
   obtain ⟨a,xs,rfl,p1,q1⟩:=r1
   obtain ⟨a',ys,e',p2,q2⟩:=r2
   cases e'
   have:=I.jy (av sb p1) (av sb p2)
   subst this
   rw [els _ _ _ h q1 q2]
  | lst h =>
   rw [aV] at r1 r2
   obtain ⟨a,xs,rfl,p1,q1⟩:=r1
   obtain ⟨a',ys,e',p2,q2⟩:=r2
   cases e'
   have:=I.qp (sb.seq p1) (sb.seq p2)
   subst this
   rw [els _ _ _ h q1 q2]
theorem oW {α:Type} [BEq α] [LawfulBEq α] {a b:α} {i:Decidable (a=b)}:(a == b)=@decide (a=b) i:=by
 by_cases h:a=b
 ·subst h; simp
 ·simp [h]
theorem all_range {ds es:List D} (hn:ds.length=n) (hm:es.length=m) (h:n=m):((OQ n).all fun j=>decide (ds[j]?=es[j]?))=decide (ds=es):=by
 rw [Ry,List.all_eq_true]
 simp only [SN,decide_eq_true_eq]
 constructor
 ·intro q
  apply Sv
  intro i
  by_cases hi:i<n
  ·exact q i hi
  ·rw [PR (by lia),PR (by lia)]
 ·rintro rfl; intro _ _; rfl
theorem vO (h:j3 x y=true) (r1:Rep X.K Hf x v) (r2:Rep X.K Hf y v') (e1:RelV v u) (e2:RelV v' u'):Oz A s u u' (decide (x=y)):=by
 cases x <;> cases y <;> simp [j3] at h <;> simp only [ay,eY,bO,fN] at r1 r2 <;> subst r1 <;> subst r2
 case non.non=>cases e1; cases e2; simpa using Oz.same _
 case non.bl b=>cases e1; cases e2; simpa using Oz.none_bool (A:=A) (s:=s) b
 case non.int i=>cases e1; obtain ⟨t,rfl⟩:=e2; simpa using Oz.none_int (A:=A) (s:=s) i t
 case non.str i=>cases e1; obtain ⟨t,rfl⟩:=e2; simpa using Oz.none_str (A:=A) (s:=s) i t
 case bl.non b=>cases e1; cases e2; simpa using Oz.bool_none (A:=A) (s:=s) b
 case bl.bl a b=>cases e1; cases e2; have q:=Oz.bool_bool (A:=A) (s:=s) a b; rw [oW (i:=inferInstance)] at q; simpa using q
 case bl.str a b=>cases e1; obtain ⟨t,rfl⟩:=e2; simpa using Oz.bool_str (A:=A) (s:=s) a b t
 case int.non a=>obtain ⟨t,rfl⟩:=e1; cases e2; simpa using Oz.int_none (A:=A) (s:=s) a t
 case int.int a b=>obtain ⟨t,rfl⟩:=e1; obtain ⟨t',rfl⟩:=e2; have q:=Oz.int_int (A:=A) (s:=s) a t b t'; rw [oW (i:=inferInstance)] at q; simpa using q
 case int.str a b=>obtain ⟨t,rfl⟩:=e1; obtain ⟨t',rfl⟩:=e2; simpa using Oz.int_str (A:=A) (s:=s) a t b t'
 case str.non a=>obtain ⟨t,rfl⟩:=e1; cases e2; simpa using Oz.str_none (A:=A) (s:=s) a t
 case str.bl a b=>obtain ⟨t,rfl⟩:=e1; cases e2; simpa using Oz.str_bool (A:=A) (s:=s) a t b
 case str.int a b=>obtain ⟨t,rfl⟩:=e1; obtain ⟨t',rfl⟩:=e2; simpa using Oz.str_int (A:=A) (s:=s) a t b t'
 case str.str a b=>obtain ⟨t,rfl⟩:=e1; obtain ⟨t',rfl⟩:=e2; have q:=Oz.str_str (A:=A) (s:=s) a t b t'; rw [oW (i:=inferInstance)] at q; simpa using q
theorem in1_units (A:Around):A.in1.units=A.units+1:=rfl
theorem vP:decide (D.tup ds=D.tup es)=decide (ds=es):=by simp
theorem kF:decide (D.lst ds=D.lst es)=decide (ds=es):=by simp
theorem oX (I:Inv X aa σ H s) {A:Around} (h:∀ (i:Nat) (d e:D),ds[i]?=some d→es[i]?=some e→k6 n d e)
 (ih:∀ (d e:D) (v v':V) (u u':Value) (A:Around),k6 n d e→Rep X.K Hf d v→Rep X.K Hf e v'→RelV v u→RelV v' u'→A.units+n<cLine→Oz A s u u' (decide (d=e)))
 (q1:au X.K Hf ds xs) (q2:au X.K Hf es ys) (r1:Vals xs us) (r2:Vals ys ws) (hu:A.in1.units+n<cLine) :
 ∀ j (h1:j<us.toArray.size) (h2:j<ws.toArray.size),Oz A.in1 s us.toArray[j] ws.toArray[j] (decide (ds[j]?=es[j]?)):=fun j h1 h2=>by
 have l1:=q1.length
 have l2:=q2.length
 have m1:=r1.length
 have m2:=r2.length
 simp only [Ot] at h1 h2
 have hd:ds[j]?=some ds[j]:=Ov (by lia)
 have he:es[j]?=some es[j]:=Ov (by lia)
 obtain ⟨x,ex,rx⟩:=q1.get hd
 obtain ⟨y,ey,ry⟩:=q2.get he
 obtain ⟨u,eu,ru⟩:=r1.get ex
 obtain ⟨u',eu',ru'⟩:=r2.get ey
 have z1:us.toArray[j]=u:=by
  have:=Ov h1
  rw [this] at eu
  simpa using eu
 have z2:ws.toArray[j]=u':=by
  have:=Ov h2
  rw [this] at eu'
  simpa using eu'
 rw [z1,z2,hd,he]
 have q:=ih _ _ x y u u' A.in1 (h j _ _ hd he) rx ry ru ru' hu
 simpa using q
theorem xT (I:Inv X aa σ H s) (sb:aD Hf H):∀ (n:Nat) (d e:D) (v v':V) (u u':Value) (A:Around),k6 n d e→Rep X.K Hf d v→Rep X.K Hf e v'→RelV v u→RelV v' u'→A.units+n<cLine→Oz A s u u' (decide (d=e)):=by
 have non:∀ (n:Nat) (d e:D) (v v':V) (u u':Value) (A:Around),A.units<cLine→Rep X.K Hf d v→Rep X.K Hf e v'→RelV v u→RelV v' u' →
  ((∃ ds,d=.lst ds∧e=.non)∨(∃ ds,d=.non∧e=.lst ds)∨(∃ ds,d=.tup ds∧e=.non)∨(∃ ds,d=.non∧e=.tup ds))→Oz A s u u' (decide (d=e)):=by
  intro n d e v v' u u' A hu r1 r2 e1 e2 h
  rcases h with ⟨ds,rfl,rfl⟩ | ⟨ds,rfl,rfl⟩ | ⟨ds,rfl,rfl⟩ | ⟨ds,rfl,rfl⟩
  ·rw [bO] at r2; subst r2; rw [aV] at r1; obtain ⟨a,xs,rfl,p,_⟩:=r1; cases e1; cases e2
   obtain ⟨its,_,q,_⟩:=I.list (sb.seq p)
   simpa using Oz.list_none (A:=A) q.isList hu
  ·rw [bO] at r1; subst r1; rw [aV] at r2; obtain ⟨a,xs,rfl,p,_⟩:=r2; cases e1; cases e2
   obtain ⟨its,_,q,_⟩:=I.list (sb.seq p)
   simpa using Oz.none_list (A:=A) q.isList hu
  ·rw [bO] at r2; subst r2; rw [aH] at r1; obtain ⟨a,xs,rfl,p,_⟩:=r1; cases e1; cases e2
   obtain ⟨its,_,q,_⟩:=I.tuple (av sb p)
   simpa using Oz.tuple_none (A:=A) (show s.heap.IsTuple a its.toArray from q) hu
  ·rw [bO] at r1; subst r1; rw [aH] at r2; obtain ⟨a,xs,rfl,p,_⟩:=r2; cases e1; cases e2
   obtain ⟨its,_,q,_⟩:=I.tuple (av sb p)
   simpa using Oz.none_tuple (A:=A) (show s.heap.IsTuple a its.toArray from q) hu
 intro n
 induction n with
 | zero =>
  intro d e v v' u u' A h r1 r2 e1 e2 hu
  cases h with
  | sc h=>exact vO h r1 r2 e1 e2
  | ln=>exact non 0 _ _ _ _ _ _ A (by lia) r1 r2 e1 e2 (.inl ⟨_,rfl,rfl⟩)
  | nl=>exact non 0 _ _ _ _ _ _ A (by lia) r1 r2 e1 e2 (.inr (.inl ⟨_,rfl,rfl⟩))
  | tn=>exact non 0 _ _ _ _ _ _ A (by lia) r1 r2 e1 e2 (.inr (.inr (.inl ⟨_,rfl,rfl⟩)))
  | nt=>exact non 0 _ _ _ _ _ _ A (by lia) r1 r2 e1 e2 (.inr (.inr (.inr ⟨_,rfl,rfl⟩)))
 | succ n ih =>
  intro d e v v' u u' A h r1 r2 e1 e2 hu
  cases h with
  | sc h=>exact vO h r1 r2 e1 e2
  | ln=>exact non 0 _ _ _ _ _ _ A (by lia) r1 r2 e1 e2 (.inl ⟨_,rfl,rfl⟩)
  | nl=>exact non 0 _ _ _ _ _ _ A (by lia) r1 r2 e1 e2 (.inr (.inl ⟨_,rfl,rfl⟩))
  | tn=>exact non 0 _ _ _ _ _ _ A (by lia) r1 r2 e1 e2 (.inr (.inr (.inl ⟨_,rfl,rfl⟩)))
  | nt=>exact non 0 _ _ _ _ _ _ A (by lia) r1 r2 e1 e2 (.inr (.inr (.inr ⟨_,rfl,rfl⟩)))
  | @tup _ ds es h =>
   have hh:=k6.tup h
   have r1':=r1; have r2':=r2
   rw [aH] at r1 r2
   obtain ⟨a,xs,rfl,p1,q1⟩:=r1
   obtain ⟨b,ys,rfl,p2,q2⟩:=r2
   cases e1; cases e2
   by_cases hab:a=b
   ·subst hab
    have:=oV I sb _ _ _ _ hh r1' r2'
    rw [this]
    simpa using Oz.same _
   ·obtain ⟨us,v1,t1,_⟩:=I.tuple (av sb p1)
    obtain ⟨ws,v2,t2,_⟩:=I.tuple (av sb p2)
    have key:=QM.tuples (A:=A) (s:=s) (show s.heap.IsTuple a us.toArray from t1) (show s.heap.IsTuple b ws.toArray from t2) (by lia) (oX I h ih q1 q2 v1 v2 (by rw [in1_units]; lia))
    have hl1:us.toArray.size=ds.length:=by simp [← v1.length,q1.length]
    have hl2:ws.toArray.size=es.length:=by simp [← v2.length,q2.length]
    have e:((OQ (min us.toArray.size ws.toArray.size)).all (fun j=>decide (ds[j]?=es[j]?)) && us.toArray.size == ws.toArray.size)=decide (D.tup ds=D.tup es):=by
     rw [vP,hl1,hl2]
     by_cases hl:ds.length=es.length
     ·rw [hl,Nat.min_self]
      simp only [beq_self_eq_true,Bool.and_true]
      exact all_range hl rfl rfl
     ·have:¬ ds=es:=fun z=>hl (by rw [z])
      simp [hl,this]
    rw [e] at key
    exact .of_refs hab key
  | @lst _ ds es h =>
   have hh:=k6.lst h
   have r1':=r1; have r2':=r2
   rw [aV] at r1 r2
   obtain ⟨a,xs,rfl,p1,q1⟩:=r1
   obtain ⟨b,ys,rfl,p2,q2⟩:=r2
   cases e1; cases e2
   by_cases hab:a=b
   ·subst hab
    have:=oV I sb _ _ _ _ hh r1' r2'
    rw [this]
    simpa using Oz.same _
   ·obtain ⟨us,v1,t1,_⟩:=I.list (sb.seq p1)
    obtain ⟨ws,v2,t2,_⟩:=I.list (sb.seq p2)
    have hl1:us.toArray.size=ds.length:=by simp [← v1.length,q1.length]
    have hl2:ws.toArray.size=es.length:=by simp [← v2.length,q2.length]
    by_cases hl:ds.length=es.length
    ·have key:=QM.lists (A:=A) (s:=s) t1.isList t2.isList (by rw [hl1,hl2,hl]) (by lia) (oX I h ih q1 q2 v1 v2 (by rw [in1_units]; lia))
     rw [hl1,all_range rfl hl.symm rfl,← kF] at key
     exact .of_refs hab key
    ·have key:=QM.lists_lengths (A:=A) (s:=s) t1.isList t2.isList (by rw [hl1,hl2]; simpa using hl) (by lia)
     have e:decide (D.lst ds=D.lst es)=false:=by
      rw [kF]; exact decide_eq_false fun z=>hl (by rw [z])
     rw [e]
     exact .of_refs hab key
theorem qJ (I:Inv X aa σ H s) (sb:aD Hf H) (hu:A.units+50<cLine) (hk:(d=.tup ds∧e=.tup es)∨(d=.lst ds∧e=.lst es)) (h:oR ds es)
 (r1:Rep X.K Hf d v) (r2:Rep X.K Hf e v') (e1:RelV v u) (e2:RelV v' u'):QM A s u u' (decide (d=e))∧SX A s u u' (!decide (d=e)):=by
 have ih:=xT I sb 40
 rcases hk with ⟨rfl,rfl⟩ | ⟨rfl,rfl⟩
 ·rw [aH] at r1 r2
  obtain ⟨a,xs,rfl,p1,q1⟩:=r1
  obtain ⟨b,ys,rfl,p2,q2⟩:=r2
  cases e1; cases e2
  obtain ⟨us,v1,t1,_⟩:=I.tuple (av sb p1)
  obtain ⟨ws,v2,t2,_⟩:=I.tuple (av sb p2)
  have els:=oX (A:=A) I h ih q1 q2 v1 v2 (by rw [in1_units]; lia)
  have key:=QM.tuples (A:=A) (s:=s) (show s.heap.IsTuple a us.toArray from t1) (show s.heap.IsTuple b ws.toArray from t2) (by lia) els
  have key2:=SX.tuples (A:=A) (s:=s) (show s.heap.IsTuple a us.toArray from t1) (show s.heap.IsTuple b ws.toArray from t2) (by lia) els
  have hl1:us.toArray.size=ds.length:=by simp [← v1.length,q1.length]
  have hl2:ws.toArray.size=es.length:=by simp [← v2.length,q2.length]
  have e:((OQ (min us.toArray.size ws.toArray.size)).all (fun j=>decide (ds[j]?=es[j]?)) && us.toArray.size == ws.toArray.size)=decide (D.tup ds=D.tup es):=by
   rw [vP,hl1,hl2]
   by_cases hl:ds.length=es.length
   ·rw [hl,Nat.min_self]
    simp only [beq_self_eq_true,Bool.and_true]
    exact all_range hl rfl rfl
   ·have:¬ ds=es:=fun z=>hl (by rw [z])
    simp [hl,this]
  rw [e] at key key2
  exact ⟨key,key2⟩
 ·rw [aV] at r1 r2
  obtain ⟨a,xs,rfl,p1,q1⟩:=r1
  obtain ⟨b,ys,rfl,p2,q2⟩:=r2
  cases e1; cases e2
  obtain ⟨us,v1,t1,_⟩:=I.list (sb.seq p1)
  obtain ⟨ws,v2,t2,_⟩:=I.list (sb.seq p2)
  have hl1:us.toArray.size=ds.length:=by simp [← v1.length,q1.length]
  have hl2:ws.toArray.size=es.length:=by simp [← v2.length,q2.length]
  by_cases hl:ds.length=es.length
  ·have els:=oX (A:=A) I h ih q1 q2 v1 v2 (by rw [in1_units]; lia)
   have key:=QM.lists (A:=A) (s:=s) t1.isList t2.isList (by rw [hl1,hl2,hl]) (by lia) els
   have key2:=SX.lists (A:=A) (s:=s) t1.isList t2.isList (by rw [hl1,hl2,hl]) (by lia) els
   rw [hl1,all_range rfl hl.symm rfl,← kF] at key key2
   exact ⟨key,key2⟩
  ·have key:=QM.lists_lengths (A:=A) (s:=s) t1.isList t2.isList (by rw [hl1,hl2]; simpa using hl) (by lia)
   have key2:=SX.lists_lengths (A:=A) (s:=s) t1.isList t2.isList (by rw [hl1,hl2]; simpa using hl) (by lia)
   have e:decide (D.lst ds=D.lst es)=false:=by
    rw [kF]; exact decide_eq_false fun z=>hl (by rw [z])
   rw [e]
   exact ⟨key,key2⟩
end
section
variable {K:NZ} {c:Ctx P w K mg base k N sc bk}
noncomputable def Ek (K:NZ) (neg:Bool):R2:=fun v u H Q=>∃ x y Hf,aD Hf H∧Rep K Hf x v∧Rep K Hf y u∧KG x y∧Q (.bl (if neg then !decide (x=y) else decide (x=y))) H
theorem Aq:fK c.X (compareOp .Eq) (Ek c.X.K false):=fun aa s σ H v u v' u' Q I rv ru ⟨x,y,Hf,sb,rx,ry,ok,q⟩=>by
 rcases ok with h | ⟨ds,es,hk,hi⟩
 ·obtain ⟨z1,z2⟩:=vJ h rx ry
  exact Km aa s σ H v u v' u' Q I rv ru ⟨z1,by rw [z2]; exact q⟩
 ·exact (qJ I sb (by have:=c.room.un; lia) hk hi rx ry rv ru).1 _ _ _ _ ⟨.bl (decide (x=y)),H,I,rfl,q⟩
theorem HQ:fK c.X (compareOp .NotEq) (Ek c.X.K true):=fun aa s σ H v u v' u' Q I rv ru ⟨x,y,Hf,sb,rx,ry,ok,q⟩=>by
 rcases ok with h | ⟨ds,es,hk,hi⟩
 ·obtain ⟨z1,z2⟩:=vJ h rx ry
  exact Kn aa s σ H v u v' u' Q I rv ru ⟨z1,by rw [z2]; exact q⟩
 ·exact (qJ I sb (by have:=c.room.un; lia) hk hi rx ry rv ru).2 _ _ _ _ ⟨.bl (!decide (x=y)),H,I,rfl,q⟩
theorem Ar:Ah K (Ek K false) fun x y R=>Ea x y R:=fun x y v u H Hf Q R s rx ry ⟨h1,h2⟩ q=>⟨x,y,Hf,s,rx,ry,h1,q _ h2⟩
theorem HR:Ah K (Ek K true) fun x y R=>Ea x y fun b=>R (!b):=fun x y v u H Hf Q R s rx ry ⟨h1,h2⟩ q=>⟨x,y,Hf,s,rx,ry,h1,q _ h2⟩
theorem M7 (h:aF c a ρ fun x=>aF c b ρ fun y=>Ea x y T):jE c (.Compare a [.Eq] [b] pos) ρ T:=qG Aq Ar h (jA b)
theorem M8 (h:aF c a ρ fun x=>aF c b ρ fun y=>Ea x y fun b=>T (!b)):jE c (.Compare a [.NotEq] [b] pos) ρ T:=qG HQ HR h (jA b)
theorem M9 (h:aF c a ρ fun x=>aF c b ρ fun y=>Ea x y fun b=>R (.bl b)):aF c (.Compare a [.Eq] [b] pos) ρ R:=KQ Aq Ar h (jA b)
end
section
variable {P:Program} {w:World} {K:NZ} {mg:Str→Option Value} {base:Heap} {k:Nat} {N:List Str} {sc:Scope} {bk:Bool} {c:Ctx P w K mg base k N sc bk} {ρ:List Sl} {pos:Pos} {a b e:Expr} {es:List Expr} {R:D→Prop} {T:Bool→Prop}
noncomputable def D.row:D→Option (List D)
 | .lst ds=>some ds
 | .tup ds=>some ds
 | _=>none
theorem i6 (e:d.row=some ds) (h:Rep K H d v):∃ p xs,v=.ref p∧au K H ds xs∧((d=.lst ds∧gh K H p xs)∨(d=.tup ds∧cV K H p xs)):=by
 cases d with
 | lst _=>cases e; rw [aV] at h; obtain ⟨p,xs,rfl,h1,h2⟩:=h; exact ⟨p,xs,rfl,h2,.inl ⟨rfl,h1⟩⟩
 | tup _=>cases e; rw [aH] at h; obtain ⟨p,xs,rfl,h1,h2⟩:=h; exact ⟨p,xs,rfl,h2,.inr ⟨rfl,h1⟩⟩
 | _=>cases e
noncomputable def JY (x y:D) (R:D→Prop):Prop:=∃ ds i d,x.row=some ds∧y=.int i∧jB ds i=some d∧R d
theorem k8 (h:jB ds i=some d) (hR:R d):JY (.lst ds) (.int i) R:=⟨ds,i,d,rfl,rfl,h,hR⟩
theorem i7 (h:jB ds i=some d) (hR:R d):JY (.tup ds) (.int i) R:=⟨ds,i,d,rfl,rfl,h,hR⟩
theorem Au (h:au K H ds xs) (e:jB ds i=some d):∃ x,jB xs i=some x∧Rep K H d x:=by
 unfold jB at e ⊢
 rw [← h.length]
 obtain ⟨j,e1,e2⟩:=Tu.mp e
 obtain ⟨x,e3,rx⟩:=h.get e2
 exact ⟨x,by rw [e1]; exact e3,rx⟩
theorem K4 (h:aF c a ρ fun x=>aF c b ρ fun y=>JY x y R) (hs:iV b:=by intro _ _; walk_at "u"):aF c (.Subscript a b pos) ρ R:=fun σ H Hf Q S q =>
 bH (F4 (F3.or vD Ht) cU cU hs) (h σ H Hf _ S fun x v H1 aM h1 r1 g1=>h1 σ H1 aM _ (S.cz g1) fun y u H2 cE ⟨ds,i,d,e1,e2,e3,hR⟩ r2 g2=>by
  subst e2
  rw [ay] at r2; subst r2
  obtain ⟨p,xs,rfl,hr,hk⟩:=i6 e1 (Rep.mono g2.f x r1)
  obtain ⟨z,ez,rz⟩:=Au hr e3
  have fin:=q d z H2 cE hR rz (g1.trans g2)
  rcases hk with ⟨_,hk⟩ | ⟨_,hk⟩
  ·exact .inl ⟨p,xs,i,z,rfl,rfl,g2.b.seq hk,ez,fin⟩
  ·exact .inr ⟨p,xs,i,z,rfl,rfl,av g2.b hk,ez,fin⟩)
theorem vQ (sb:aD Hf H) {d:D} (h:(d=.lst ds∧gh K Hf p xs)∨(d=.tup ds∧cV K Hf p xs)):gh K H p xs∨cV K H p xs:=h.elim (fun z=>.inl (sb.seq z.2)) fun z=>.inr (av sb z.2)
theorem Av:Am K (fun xs H Q=>∃ p ys,xs=[.ref p]∧(gh K H p ys∨cV K H p ys)∧Q (.int ys.length) H) (fun ds R=>∃ x,ds=[x]∧∃ ys,x.row=some ys∧R (.int ys.length)):=by
 rintro ds vs H Hf Q R s rs ⟨x,rfl,ys,e,hR⟩ q
 obtain ⟨v,rfl,rv⟩:=qI rs
 obtain ⟨p,xs,rfl,hr,hk⟩:=i6 e rv
 exact ⟨p,xs,rfl,vQ s hk,q _ _ H Hf hR (by rw [hr.length]; exact ay.mpr rfl) (.refl s)⟩
theorem e_len (hm:mg "len"=none) (h:aF c e ρ fun x=>∃ ys,x.row=some ys∧R (.int ys.length)) (hg:sc.names.lookup (NY "len")=some .globalImplicit:=by walk_at "u")
 (he:∀ env,starEach [e] env=(false,eval e env)::starEach [] env:=by intro _; walk_at "u"):aF c (.Call (.Name "len" p) [e] [] pos) ρ R :=
 vM oJ Av hm PySem.boot_len (cX (h.imp fun d hd=>k7 ⟨d,rfl,hd⟩) he) hg (by decide) (by decide) he (by intro _; walk_at "u")
theorem Aw {R:Sl→Prop} (hm:mg "list"=none) (h:aF c e ρ fun x=>∃ ys,x.row=some ys∧R (.ow ys)) (hg:sc.names.lookup (NY "list")=some .globalImplicit:=by walk_at "u")
 (he:∀ env,starEach [e] env=(false,eval e env)::starEach [] env:=by intro _; walk_at "u"):dw c (.Call (.Name "list" p) [e] [] pos) ρ R :=
 K2 oM (q:=fun ds R=>∃ x ys,ds=[x]∧x.row=some ys∧R (.ow ys)) (fun ds vs H Hf Q R s rs ⟨x,ys,e1,e2,hR⟩ q=>by
  subst e1
  obtain ⟨v,rfl,rv⟩:=qI rs
  obtain ⟨p,xs,rfl,hr,hk⟩:=i6 e2 rv
  exact ⟨p,xs,rfl,vQ s hk,fun l hl=>by
   have g2:=bq.gc s hl (o:=.lst xs)
   exact q _ _ _ _ hR ⟨l,xs,rfl,hl,ai,s.free hl,hr⟩ g2⟩) hm PyProof.Rows.boot_list (cX (h.imp fun d ⟨ys,h1,h2⟩=>k7 ⟨d,ys,rfl,h1,h2⟩) he) hg (by decide) (by decide) he (by intro _; walk_at "u")
theorem i8 (hm:mg "tuple"=none) (h:aF c e ρ fun x=>∃ ys,x.row=some ys∧R (.tup ys)) (hg:sc.names.lookup (NY "tuple")=some .globalImplicit:=by walk_at "u")
 (he:∀ env,starEach [e] env=(false,eval e env)::starEach [] env:=by intro _; walk_at "u"):aF c (.Call (.Name "tuple" p) [e] [] pos) ρ R :=
 K3 mJ (q:=fun ds R=>∃ x ys,ds=[x]∧x.row=some ys∧R (.tup ys)) (fun ds vs H Hf Q R s rs ⟨x,ys,e1,e2,hR⟩ q=>by
  subst e1
  obtain ⟨v,rfl,rv⟩:=qI rs
  obtain ⟨p,xs,rfl,hr,hk⟩:=i6 e2 rv
  rcases hk with ⟨_,hk⟩ | ⟨_,hk⟩
  ·exact ⟨p,xs,rfl,.inl ⟨s.seq hk,fun l hl=>by
    have g2:=bq.new s hl (o:=.tup xs)
    exact q _ _ _ _ hR (aH.mpr ⟨l,xs,rfl,.inl (.inl ai),hr.mono g2.f⟩) g2⟩⟩
  ·exact ⟨p,xs,rfl,.inr ⟨av s hk,q _ _ H Hf hR (aH.mpr ⟨p,xs,rfl,hk,hr⟩) (.refl s)⟩⟩) hm PyProof.Rows.boot_tuple (cX (h.imp fun d ⟨ys,h1,h2⟩=>k7 ⟨d,ys,rfl,h1,h2⟩) he) hg (by decide) (by decide) he (by intro _; walk_at "u")
noncomputable def Gf (K:NZ):R2:=fun x y H Q=>∃ l b xs zs,x=.ref l∧y=.ref b∧gh K H l xs∧gh K H b zs∧xs.length+zs.length≤sizeLine∧∀ p,H p=none→Q (.ref p) (upd H p (.lst (xs++zs)))
theorem El:fK X (binaryOp .Add) (Gf X.K):=by
 intro aa s σ H x y v u Q I rx ry h
 obtain ⟨l,b,xs,zs,rfl,rfl,hH,hB,hz,q⟩:=h
 cases rx
 cases ry
 obtain ⟨its,r,hl,z⟩:=I.list hH
 obtain ⟨its2,r2,hl2,z2⟩:=I.list hB
 have e1:=r.length
 have e2:=r2.length
 obtain ⟨⟨cls,dd,data,sl⟩,n,p1,p2,p3,p4⟩:=hl
 obtain ⟨⟨cls2,dd2,data2,sl2⟩,n',q1,q2,q3,q4⟩:=hl2
 simp only at p2 p3 p4 q2 q3 q4
 subst p2 p3 p4 q2 q3 q4
 have ea:its.toArray++its2.toArray=(its++its2).toArray:=by simp
 refine SW ⟨_,p1,rfl⟩ ⟨_,q1,rfl⟩ noFill_list_add seq_list_add PySem.F.slot_list_add PySem.F.entry_list_add (PySem.F.args_list_add_2 _ _) (list_addW l b its.toArray its2.toArray n n' none none sl sl2 (by simp; lia)) ⟨p1,q1,?_⟩
 rw [ea]
 exact ⟨.ref _,_,I.DQ (t':=s.toks) (r.append r2) (by rw [OH]; lia),rfl,q _ I.fresh⟩
noncomputable def Ax (K:NZ):R2:=fun x y H Q=>∃ a b xs ys,x=.ref a∧y=.ref b∧cV K H a xs∧cV K H b ys∧xs.length+ys.length≤sizeLine ∧
 (xs=[]→Q (.ref b) H)∧(ys=[]→Q (.ref a) H)∧∀ p,H p=none→Q (.ref p) (upd H p (.tup (xs++ys)))
theorem Ay:fK X (binaryOp .Add) (Ax X.K):=by
 intro aa s σ H x y v u Q I rx ry h
 obtain ⟨t,b,xs,ys,rfl,rfl,hH,hB,hz,c1,c2,q⟩:=h
 cases rx
 cases ry
 obtain ⟨vs,r,ht,z⟩:=I.tuple hH
 obtain ⟨ws,r2,hb,z2⟩:=I.tuple hB
 obtain ⟨⟨cls,dd,data,sl⟩,ho,hc,n,hd⟩:=id ht
 obtain ⟨⟨cls2,dd2,data2,sl2⟩,ho2,hc2,n2,hd2⟩:=id hb
 simp only at hc hd hc2 hd2
 subst hc hd hc2 hd2
 have e:vs.toArray++ws.toArray=(vs++ws).toArray:=by simp
 have e1:=r.length
 have e2:=r2.length
 by_cases hv:vs=[]
 ·exact SW ⟨_,ho,rfl⟩ ⟨_,ho2,rfl⟩ Ud seq_tuple_add Tz Tt (Tq _ _)
   (tuple_addW0 t b vs.toArray ws.toArray n n2 dd dd2 sl sl2 (by simp [hv])) ⟨ho,ho2,⟨.ref b,H,I,rfl,c1 (by rw [Vals.vB r] at hv; exact hv)⟩⟩
 ·by_cases hw:ws=[]
  ·exact SW ⟨_,ho,rfl⟩ ⟨_,ho2,rfl⟩ Ud seq_tuple_add Tz Tt (Tq _ _)
    (tuple_addW1 t b vs.toArray ws.toArray n n2 dd dd2 sl sl2 (by simpa using hv) (by simp [hw])) ⟨ho,ho2,⟨.ref t,H,I,rfl,c2 (by rw [Vals.vB r2] at hw; exact hw)⟩⟩
  ·refine SW ⟨_,ho,rfl⟩ ⟨_,ho2,rfl⟩ Ud seq_tuple_add Tz Tt (Tq _ _)
    (tuple_addW2 t b vs.toArray ws.toArray n n2 dd dd2 sl sl2 (by simpa using hv) (by simpa using hw) (by rw [Ot,Ot]; lia)) ⟨ho,ho2,?_⟩
   rw [e]
   refine ⟨.ref s.heap.objs.size,_,I.laid (t':=s.toks) (o:=.tup (xs++ys)) (fun b ob q=>N7 _ q) (N3 _) ?_,rfl,q _ (I.hok.fresh (N3 _))⟩
   exact ⟨by rw [OH]; exact hz,_,r.append r2,IsTup.new _ _⟩
inductive k9:D→D→(Sl→Prop)→Prop where
 | int {i j:Int} {R:Sl→Prop} (h:R (.va (.int (i+j)))):k9 (.int i) (.int j) R
 | lst {ds es:List D} {R:Sl→Prop} (h:Sd (ds.length+es.length≤sizeLine) (R (.ow (ds++es)))):k9 (.lst ds) (.lst es) R
 | tup {ds es:List D} {R:Sl→Prop} (h:Sd (ds.length+es.length≤sizeLine) (R (.va (.tup (ds++es))))):k9 (.tup ds) (.tup es) R
 | str {x y:Str} {R:Sl→Prop} (h:Sd (x.length+y.length≤sizeLine) (R (.va (.str (x++y))))):k9 (.str x) (.str y) R
theorem j4 (h:au K H ds []):ds=[]:=by
 have:=h.length; cases ds with
 | nil=>rfl
 | cons _ _=>simp at this
theorem Em:Mg K (fun x y H Q=>(((vo fun i j=>V.int (i+j)) x y H Q∨Gf K x y H Q)∨Ax K x y H Q)∨∃ i j,x=.str i∧y=.str j∧i.length+j.length≤sizeLine∧Q (.str (i++j)) H) k9:=by
 rintro x y v u H Hf Q R s rx ry h q
 cases h with
 | @int i j _ h =>
  rw [ay] at rx ry
  exact .inl (.inl (.inl ⟨i,j,rx,ry,q (.va (.int (i+j))) _ H Hf h (show Rep K Hf (.int (i+j)) _ from ay.mpr rfl) (.refl s)⟩))
 | @lst ds es _ h =>
  rw [aV] at rx ry
  obtain ⟨a,xs,rfl,h1,h2⟩:=rx
  obtain ⟨b,ys,rfl,h3,h4⟩:=ry
  refine .inl (.inl (.inr ⟨a,b,xs,ys,rfl,rfl,s.seq h1,s.seq h3,by rw [← h2.length,← h4.length]; exact h.s,fun p hp=>?_⟩))
  exact q (.ow (ds++es)) _ _ _ h.r ⟨p,xs++ys,rfl,hp,ai,s.free hp,h2.append h4⟩ (bq.gc s hp)
 | @tup ds es _ h =>
  rw [aH] at rx ry
  obtain ⟨a,xs,rfl,h1,h2⟩:=rx
  obtain ⟨b,ys,rfl,h3,h4⟩:=ry
  refine .inl (.inr ⟨a,b,xs,ys,rfl,rfl,av s h1,av s h3,by rw [← h2.length,← h4.length]; exact h.s,fun e=>?_,fun e=>?_,fun p hp=>?_⟩)
  ·subst e
   have:=j4 h2
   subst this
   exact q (.va (.tup ([]++es))) _ H Hf h.r (show Rep K Hf (.tup ([]++es)) _ from aH.mpr ⟨b,ys,rfl,h3,h4⟩) (.refl s)
  ·subst e
   have:=j4 h4
   subst this
   exact q (.va (.tup (ds++[]))) _ H Hf h.r (show Rep K Hf (.tup (ds++[])) _ from aH.mpr ⟨a,xs,rfl,h1,by rw [O7]; exact h2⟩) (.refl s)
  ·have g:=bq.new s hp (o:=.tup (xs++ys))
   exact q (.va (.tup (ds++es))) _ _ _ h.r (show Rep K _ (.tup (ds++es)) _ from aH.mpr ⟨p,xs++ys,rfl,.inl (.inl ai),(h2.append h4).mono g.f⟩) g
 | @str x y _ h =>
  rw [fN] at rx ry
  exact .inr ⟨x,y,rx,ry,h.s,q (.va (.str (x++y))) _ H Hf h.r (show Rep K Hf (.str (x++y)) _ from fN.mpr rfl) (.refl s)⟩
theorem Az {R:Sl→Prop} (h:aF c a ρ fun x=>aF c b ρ fun y=>k9 x y R):dw c (.BinOp a .Add b pos) ρ R :=
 oQ (fK.or (fK.or (fK.or G8 El) Ay) tM) Em h
noncomputable def cutD {α:Type} (xs:List α) (lo hi:Option Int):List α:=(xs.drop (HT.cg xs.length 0 lo)).take (HT.cg xs.length xs.length hi - HT.cg xs.length 0 lo)
theorem qK (h:au K H ds xs) (lo hi):au K H (cutD ds lo hi) (oG xs lo hi):=by
 unfold cutD oG
 rw [h.length]
 exact (h.drop _).take _
noncomputable def bP (X:Cx) (e:Option Expr):TO:=fun σ H Q=>∀ aa s,Inv X aa σ H s→wpAny (model X.prog X.w) X.A (evalPart e X.env) (fun u s'=>∃ o H',Inv X aa σ H' s'∧IsPart u o∧Q o H') X.xe s
theorem K5 {X:Cx} {e:Option Expr}:PO X e (bP X e):=fun aa s σ H Q I h=>h aa s I
noncomputable def Dt (c:Ctx P w K mg base k N sc bk) (e:Option Expr) (ρ:List Sl) (R:Option Int→Prop):Prop :=
 ∀ (σ:L2.St) (H Hf:Hp) (Q:Option Int→Hp→Prop),bu c σ H Hf ρ→(∀ o H' aj,R o→bq H Hf H' aj→Q o H')→bP c.X e σ H Q
theorem HU {R:Option Int→Prop} (h:R none):Dt c none ρ R:=fun σ H Hf Q S q aa s I=>DM aa s σ H Q I (q none H Hf h (.refl S.sb))
theorem HV {R:Option Int→Prop} (h:aF c e ρ (I1 fun i=>R (some i))):Dt c (some e) ρ R:=fun σ H Hf Q S q aa s I =>
 DN cU aa s σ H Q I (h σ H Hf _ S fun d v H' aj ⟨i,e,hR⟩ r g=>by subst e; rw [ay] at r; exact ⟨i,r,q _ H' aj hR g⟩)
noncomputable def K6 (K:NZ):V→Option Int→Option Int→Hp→VK→Prop:=fun x lo hi H Q=>∃ a xs,x=.ref a∧cV K H a xs ∧
 (HT.cg xs.length 0 lo=0∧HT.cg xs.length xs.length hi=xs.length)∧Q (.ref a) H
theorem ie {lo hi:Option Int} (ht:IsTup s.heap t items) (hs:s.heap.IsSliceOf sl vl vu .none) (pl:IsPart vl lo) (pu:IsPart vu hi)
 (hw:HT.cg items.size 0 lo=0∧HT.cg items.size items.size hi=items.size) (h:Q (.ref t) s):wpAny (model prog w) A (getItem (.ref t) (.ref sl)) Q E s:=by
 obtain ⟨os,hos,hcs,hds⟩:=id hs
 have hTs:s.TypeIs (.ref sl) "slice":=⟨os,hos,hcs⟩
 unfold getItem
 try with_reducible refine OS ?_
 first | refine NX (N1 ?_) | skip
 refine NX (T4 ht.typeIs (by decide) ?_)
 refine NX (Qg (name:=NY "__getitem__") ht.typeIs QN
  (PD QN ht.typeIs entry_tuple_getitem ?_ (args_tuple_getitem _ _)))
 show wpAny _ _ (Builtin.Tuple.tupleItemsOf (.ref t) >>= _) _ _ s
 refine NX (tupleItemsOf_ ht ?_)
 refine NX (Qo hTs ?_)
 rw [if_pos (by decide)]
 refine NX (HT.fC hs pl pu ?_)
 have hyes:((((HT.cg items.size 0 lo:Nat):Int) == 0 && (1:Int) == 1 && (HT.cg items.size items.size hi - HT.cg items.size 0 lo) == items.size)=true):=by
  rw [hw.1,hw.2]; simp
 show wpAny _ _ (if (((HT.cg items.size 0 lo:Nat):Int) == 0 && (1:Int) == 1 && (HT.cg items.size items.size hi - HT.cg items.size 0 lo) == items.size)=true then _ else _) _ _ s
 rw [if_pos hyes]
 obtain ⟨⟨cls,dd,data,sl'⟩,ho,hc,n,hd⟩:=id ht
 simp only at hc hd
 subst hc hd
 unfold Builtin.Tuple.tupleIsExact
 wp_walk using R4 ho
 exact ⟨_,rfl,N1 h⟩
theorem AA:Dr X (K6 X.K):=by
 intro aa s σ H x v vl vu lo hi sl Q I rx hs pl pu h
 obtain ⟨a,xs,rfl,hx,hw,q⟩:=h
 cases rx
 obtain ⟨its,r,ht,hz⟩:=I.tuple hx
 have hlen:its.toArray.size=xs.length:=by rw [Ot]; exact r.length.symm
 refine ⟨"tuple",_,QN.lookup,ht.typeIs,?_⟩
 exact ie ht hs pl pu (by rw [hlen]; exact hw) ⟨.ref a,H,I,rfl,q⟩
inductive HW:D→Option Int→Option Int→(Sl→Prop)→Prop where
 | lst {ds:List D} {lo hi:Option Int} {R:Sl→Prop} (h:R (.ow (cutD ds lo hi))):HW (.lst ds) lo hi R
 | tup {ds:List D} {lo hi:Option Int} {R:Sl→Prop} (h:R (.va (.tup (cutD ds lo hi)))):HW (.tup ds) lo hi R
theorem xU {lo hi:Option Int} (h:HT.cg xs.length 0 lo=0∧HT.cg xs.length xs.length hi=xs.length):cutD xs lo hi=xs:=by
 unfold cutD; rw [h.1,h.2]; simp
theorem vR {lo hi:Option Expr} {R:Sl→Prop} (h:aF c e ρ fun x=>Dt c lo ρ fun l=>Dt c hi ρ fun u=>HW x l u R):dw c (.Subscript e (.Slice lo hi none p2) pos) ρ R:=fun σ H Hf Q S q =>
 bH (zS (Dr.or (Dr.or DP Hs) AA) cU K5 K5) (h σ H Hf _ S fun x v H1 aM h1 r1 g1=>h1 σ H1 aM _ (S.cz g1) fun l H2 cE h2 g2=>h2 σ H2 cE _ (S.cz (g1.trans g2)) fun u H3 Hf3 h3 g3=>by
  have r3:=Rep.mono g3.f x (Rep.mono g2.f x r1)
  have g:=(g1.trans g2).trans g3
  cases h3 with
  | lst h =>
   rw [aV] at r3
   obtain ⟨a,xs,rfl,k1,k2⟩:=r3
   refine .inl (.inl ⟨a,xs,rfl,g3.b.seq k1,fun p hp=>?_⟩)
   exact q _ _ _ _ h ⟨p,_,rfl,g.s.free hp,ai,g3.b.free hp,qK k2 l u⟩ (g.trans (bq.gc g3.b hp))
  | tup h =>
   rw [aH] at r3
   obtain ⟨a,xs,rfl,k1,k2⟩:=r3
   by_cases hw:HT.cg xs.length 0 l=0∧HT.cg xs.length xs.length u=xs.length
   ·refine .inr ⟨a,xs,rfl,av g3.b k1,hw,?_⟩
    refine q _ _ _ _ h (show Rep c.X.K Hf3 _ _ from aH.mpr ⟨a,xs,rfl,k1,?_⟩) g
    rw [xU (by rw [k2.length]; exact hw)]; exact k2
   ·refine .inl (.inr ⟨a,xs,rfl,av g3.b k1,hw,fun p hp=>?_⟩)
    have g4:=bq.new g3.b hp (o:=.tup (oG xs l u))
    exact q _ _ _ _ h (show Rep c.X.K _ _ _ from aH.mpr ⟨p,_,rfl,.inl (.inl ai),(qK k2 l u).mono g4.f⟩) (g.trans g4))
theorem AB (a:bq H₀ dQ H1 aM) (b:bq H₀ aM H Hf):bq H₀ dQ H Hf :=
 ⟨b.s,a.f.trans b.f,b.b,fun c h1 h2 h3=>b.n c (a.n c h1 h2 h3) h2 h3⟩
theorem cW.re (a:bq H₀ dQ H1 aM) (S:cW K H₀ aM σ H Hf ρ):cW K H₀ dQ σ H Hf ρ:=⟨AB a S.bas,S.len,S.at_,S.sep⟩
theorem cW.anew (S:cW K H₀ dQ σ H Hf ρ):cW K H₀ Hf σ H Hf ρ:=⟨⟨S.bas.s,.refl _,S.bas.b,fun _ h _ _=>h⟩,S.len,S.at_,S.sep⟩
noncomputable def Ctx.at_ (c:Ctx P w K mg base k N sc bk) {H1 aM:Hp} (a:bq c.B c.Hf H1 aM):Ctx P w K mg base k N sc bk :=
 { X:=c.X,eP:=c.eP,ew:=c.ew,eK:=c.eK,emg:=c.emg,eb:=c.eb,eN:=c.eN,esc:=c.esc,calm:=c.calm,top:=c.top,cb:=c.cb,fn:=c.fn,room:=c.room,nd:=c.nd,vis:=c.vis,B:=c.B,Hf:=aM,RX:=c.RX,RM:=c.RM,
   exc:=fun C x aa σ H aj ρ s H' s' I S h X sm=>c.exc C x aa σ H aj ρ s H' s' I (S.re a) h X sm,mde:=fun C x aa σ H aj ρ s h' us I S h hx=>c.mde C x aa σ H aj ρ s h' us I (S.re a) h hx }
theorem Ad.at_ {nx:List Sl→Prop} {p:Pt} {D:Ends} {H1 aM:Hp} (a:bq c.B c.Hf H1 aM) (o:Ad c nx p D):Ad (c.at_ a) nx p D :=
 ⟨fun σ H Hf ρ S q=>o.nx σ H Hf ρ (cW.re a S) q,fun r v H Hf g rv q=>o.rt r v H Hf (AB a g) rv q,fun σ H Hf ρ S q=>o.bk σ H Hf ρ (cW.re a S) q,fun σ H Hf ρ S q=>o.ct σ H Hf ρ (cW.re a S) q⟩
noncomputable def bI (X:Cx) (tg iter:Expr):TI:=fun σ H R=>∀ aa s,Inv X aa σ H s→wpAny (model X.prog X.w) X.A (eval iter X.env) (fun v s1=>wpAny (model X.prog X.w) X.A (pyIter v) (MF X aa σ tg R) X.xe s1) X.xe s
theorem NU {X:Cx} {tg iter:Expr}:PI X tg iter (bI X tg iter):=fun aa s σ H R I h=>h aa s I
structure jF (K:NZ) (J:It) (ds:List D) (dQ:Hp):Prop where
 go:∀ i d H Hf,aD dQ Hf→aD Hf H→ds[i]?=some d→J.go i H∧∀ x H',J.yld i H x H'→∃ aj,bq H Hf H' aj∧Rep K aj d x
 stop:∀ i H Hf,aD dQ Hf→aD Hf H→ds.length≤i→J.stop i H
noncomputable def Gg (c:Ctx P w K mg base k N sc bk) (tg iter:Expr) (ρ:List Sl) (R:List D→Prop):Prop :=
 ∀ (σ:L2.St) (H Hf:Hp) (Q:It→Hp→Prop),bu c σ H Hf ρ→(∀ ds J H' aj,R ds→bq H Hf H' aj→jF c.X.K J ds aj→Q J H')→bI c.X tg iter σ H Q
theorem xV {K:NZ} {ds:List D} {xs:List V} {p:Addr} {dQ:Hp} (h:gh K dQ p xs) (r:au K dQ ds xs):jF K (MG K p) ds dQ where
 go:=fun i d H Hf s1 s2 e=>by
  obtain ⟨x,ex,rx⟩:=r.get e
  refine ⟨⟨xs,x,(s1.trans s2).seq h,ex⟩,fun y H' ⟨e1,e2⟩=>?_⟩
  subst e1
  have:=e2 xs ((s1.trans s2).seq h)
  rw [ex] at this; cases this
  exact ⟨Hf,.refl s2,Rep.mono s1 d rx⟩
 stop:=fun i H Hf s1 s2 e=>⟨xs,(s1.trans s2).seq h,by rw [← r.length]; exact e⟩
theorem AD {K:NZ} {ds:List D} {xs:List V} {p:Addr} {dQ:Hp} (h:cV K dQ p xs) (r:au K dQ ds xs):jF K (MH K p) ds dQ where
 go:=fun i d H Hf s1 s2 e=>by
  obtain ⟨x,ex,rx⟩:=r.get e
  refine ⟨⟨xs,x,av (s1.trans s2) h,ex⟩,fun y H' ⟨e1,e2⟩=>?_⟩
  subst e1
  have:=e2 xs (av (s1.trans s2) h)
  rw [ex] at this; cases this
  exact ⟨Hf,.refl s2,Rep.mono s1 d rx⟩
 stop:=fun i H Hf s1 s2 e=>⟨xs,av (s1.trans s2) h,by rw [← r.length]; exact e⟩
noncomputable def Na (K:NZ) (tl:TE):TI:=fun σ H R=>tl σ H fun x H1=>∃ a,x=.ref a∧(((∃ xs,gh K H1 a xs)∧R (MG K a) H1)∨((∃ xs,cV K H1 a xs)∧R (MH K a) H1))
theorem HX (hl:PE X l tl):PI X tg l (Na X.K tl):=by
 intro aa s σ H R I h
 refine bC (hl aa s σ H _ I h) fun v s1 ⟨x,H1,I1,r1,q1⟩=>?_
 obtain ⟨a,e,h⟩:=q1
 subst e
 cases r1
 rcases h with ⟨⟨xs,hq⟩,q⟩ | ⟨⟨xs,hq⟩,q⟩
 ·obtain ⟨its,rv,p,hz⟩:=I1.list hq
  refine Sn p.isList ?_
  refine ⟨s1.heap.objs.size,[s1.heap.objs.size],_,_,H1,rfl,I1.kept (t':=s1.toks) fun b o e=>N7 _ e,xG a _,⟨_,Oj _ rfl,rfl,rfl⟩,fun b hb=>?_,q⟩
  have e:b=s1.heap.objs.size:=by simpa using hb
  subst e
  exact I1.mG (N3 _) (I1.hok.fresh (N3 _))
 ·obtain ⟨its,rv,p,hz⟩:=I1.tuple hq
  refine TV (show s1.heap.IsTuple a its.toArray from p) ?_
  refine ⟨s1.heap.objs.size,[s1.heap.objs.size],_,_,H1,rfl,I1.kept (t':=s1.toks) fun b o e=>N7 _ e,tG a _,⟨_,Oj _ rfl,rfl,rfl⟩,fun b hb=>?_,q⟩
  have e:b=s1.heap.objs.size:=by simpa using hb
  subst e
  exact I1.mG (N3 _) (I1.hok.fresh (N3 _))
theorem bX {R:List D→Prop} (h:aF c e ρ fun d=>∃ ds,d.row=some ds∧R ds):Gg c tg e ρ R:=fun σ H Hf Q S q aa s I =>
 HX cU aa s σ H Q I (h σ H Hf _ S fun d v H' aj ⟨ds,er,hR⟩ r g=>by
  obtain ⟨p,xs,rfl,hr,hk⟩:=i6 er r
  refine ⟨p,rfl,?_⟩
  rcases hk with ⟨_,hk⟩ | ⟨_,hk⟩
  ·exact .inl ⟨⟨xs,g.b.seq hk⟩,q ds _ H' aj hR g (xV hk hr)⟩
  ·exact .inr ⟨⟨xs,av g.b hk⟩,q ds _ H' aj hR g (AD hk hr)⟩)
noncomputable def qL (lo:Int) (n:Nat):List D:=(OQ n).map fun (i:Nat)=>D.int (lo+(i:Int))
theorem AE {K:NZ} {lo:Int} {n:Nat} {dQ:Hp}:jF K (Me lo n) (qL lo n) dQ where
 go:=fun i d H Hf s1 s2 e=>by
  unfold qL at e
  rw [Oc] at e
  obtain ⟨j,e1,e2⟩:=Oh.mp e
  have hi:i<n:=by
   have:=(Oa.mp e1).1
   simpa using this
  have:j=i:=by
   rw [Q3 hi] at e1; cases e1; rfl
  subst this
  refine ⟨hi,fun x H' ⟨e3,e4⟩=>?_⟩
  subst e3 e4 e2
  exact ⟨Hf,.refl s2,ay.mpr rfl⟩
 stop:=fun i H Hf s1 s2 e=>by
  show n≤i
  simpa [qL] using e
noncomputable def AF (i:Int):Prop:= -(2 ^ 62)≤i∧i<2 ^ 62
theorem fD {R:List D→Prop} (hm:mg "range"=none) (h:aF c e ρ (I1 fun j=>Sd (AF j) (R (qL 0 j.toNat)))) (hg:sc.names.lookup (NY "range")=some .globalImplicit:=by walk_at "u")
 (hs:∀ env,starEach [e] env=(false,eval e env)::starEach [] env:=by intro _; walk_at "u"):Gg c tg (.Call (.Name "range" p) [e] [] pos) ρ R:=fun σ H Hf Q S q aa s I =>
 xH (by unfold Gl ON; rw [c.esc]; exact hg) (by rw [c.emg]; exact hm) (bN cU dH (hs _)) (hs _) aa s σ H Q I (h σ H Hf _ S fun d v H' aj ⟨j,ed,⟨hj,hR⟩⟩ r g=>by
  subst ed; rw [ay] at r; subst r
  exact ⟨j,rfl,hj.1,hj.2,q _ _ H' aj hR g AE⟩)
theorem cJ {tg iter:Expr} {body:List Stmt} {nx:List Sl→Prop} {p:Pt} (hq:c.X.xe=fun _ _=>False)
 (h:Gg c tg iter ρ fun ds=>∃ I:Nat→List Sl→Prop,I 0 ρ ∧
   (∀ c':Ctx P w K mg base k N sc bk,c'.X=c.X→c'.RX=c.RX→c'.RM=c.RM→∀ i d ρ',ds[i]?=some d→I i ρ'→mK c' tg d ρ' fun ρ''=>aY c' body ρ'' (I (i+1)) { rt:=p.rt,bk:=nx,ct:=I (i+1) })∧∀ ρ',I ds.length ρ'→nx ρ')
 (hs:∀ env x,foldedSetIterable iter env x=pure x:=by intro _ _; walk_at "u"):fu c (.For tg iter body [] pos) ρ nx p:=fun σ H Hf D S o =>
 dZ (G5 (by rw [hq]; exact PassesOwn.never) c.calm NU NB qE (hs _)) (h σ H Hf _ S fun ds J H1 aM ⟨I,h0,hb,he⟩ g io=>by
  have S1:=S.cz g
  have gb:bq c.B c.Hf H1 aM:=S1.bas
  refine ⟨fun i m σ H=>m=ds.length - i∧i≤ds.length∧∃ Hf ρ',bu (c.at_ gb) σ H Hf ρ'∧I i ρ',⟨_,rfl,OO _,aM,ρ,S1.anew,h0⟩,?_⟩
  rintro i m σ H ⟨rfl,hi,Hf,ρ',S',hI⟩
  by_cases hlt:i<ds.length
  ·have ed:ds[i]?=some ds[i]:=Ov hlt
   obtain ⟨hgo,hy⟩:=io.go i _ H Hf S'.bas.f S'.bas.b ed
   refine .inr ⟨hgo,fun σ' H'=>∃ aj ρ'',bu (c.at_ gb) σ' H' aj ρ''∧I (i+1) ρ'',fun σ' H' ⟨aj,ρ'',S'',hI'⟩=>⟨_,by omega,rfl,hlt,aj,ρ'',S'',hI'⟩,fun x H' hx=>?_⟩
   obtain ⟨aj,g',rx⟩:=hy x H' hx
   refine hb (c.at_ gb) rfl rfl rfl i _ ρ' ed hI σ H' aj x _ (S'.cz g') rx fun σ2 H2 cE ρ2 S2 _ hbody=>?_
   exact hbody σ2 H2 cE _ S2 ⟨fun σ H Hf ρ S q=>⟨Hf,ρ,S,q⟩,(o.at_ gb).rt,fun σ H Hf ρ S q=>(o.at_ gb).nx σ H Hf ρ S q,fun σ H Hf ρ S q=>⟨Hf,ρ,S,q⟩⟩
  ·have e:i=ds.length:=by omega
   subst e
   exact .inl ⟨io.stop _ H Hf S'.bas.f S'.bas.b (N3 _),(o.at_ gb).nx σ H Hf ρ' S' (he ρ' hI)⟩)
end
section
end
section
end
section
variable {K:NZ}
end
section
variable {K:NZ} {R:D→Prop}
theorem Gh (h:R d):DZ R (.va d):=⟨d,rfl,h⟩
theorem cK (h:R (.lst ds)):DZ R (.ow ds):=⟨.lst ds,rfl,h⟩
theorem HY (h:aF c a ρ fun x=>aF c b ρ fun y=>k9 x y (DZ R)):aF c (.BinOp a .Add b pos) ρ R:=e_x (Az h)
theorem qF.imp {R R':List D→Prop} (h:qF c es ρ R) (hi:∀ d,R d→R' d):qF c es ρ R':=fun σ H Hf Q S q=>h σ H Hf Q S fun d v H' aj rd=>q d v H' aj (hi d rd)
theorem HZ (h:qF c es ρ fun ds=>Sd (ds.length≤sizeLine) (R (.lst ds))):aF c (.List es pos) ρ R:=e_x (Gb (h.imp fun ds hd=>⟨hd.s,cK hd.r⟩))
theorem AG {lo hi:Option Expr} (h:aF c e ρ fun x=>Dt c lo ρ fun l=>Dt c hi ρ fun u=>HW x l u (DZ R)):aF c (.Subscript e (.Slice lo hi none p2) pos) ρ R:=e_x (vR h)
theorem AH {R:Sl→Prop} (h:R (.va (.int (i+j)))):k9 (.int i) (.int j) R:=.int h
theorem AI {ds es:List D} {R:Sl→Prop} (h:Sd (ds.length+es.length≤sizeLine) (R (.ow (ds++es)))):k9 (.lst ds) (.lst es) R:=.lst h
theorem AJ {ds es:List D} {R:Sl→Prop} (h:Sd (ds.length+es.length≤sizeLine) (R (.va (.tup (ds++es))))):k9 (.tup ds) (.tup es) R:=.tup h
theorem Ia {b:Bool} (ty:xR K d t) (e:Pu K t cv=some b) (h:R (.bl b)):∃ t b,xR K d t∧Pu K t cv=some b∧R (.bl b):=⟨t,b,ty,e,h⟩
theorem qM (h:aF c a ρ fun x=>aF c b ρ fun y=>JY x y R) (hs:iV b:=by with_unfolding_all exact fun _ _=>rfl):aF c (.Subscript a b pos) ρ R:=K4 h hs
theorem AK {x:D} {Q:List D→Prop} (e:x.row=some ds) (h:Q ds):∃ ys,x.row=some ys∧Q ys:=⟨ds,e,h⟩
theorem aS {F:Fn} {R:Sl→Prop} (h:F ds (.ok sl)) (r:R sl):∃ r,F ds r∧HN c ρ R r:=⟨_,h,r⟩
end
section
variable {K:NZ}
end
noncomputable def del (H:Hp) (p:Addr):Hp:=fun b=>if b=p then none else H b
theorem i9:del H p p=none:=if_pos rfl
theorem ck (h:b≠p):del H p b=H b:=if_neg h
theorem AL (h:H₀ p=none) (s:aD H₀ H):aD H₀ (del H p):=fun b o e=>by
 rw [ck (aB e h)]; exact s b o e
theorem ja (h:del H p b=some o):b≠p∧H b=some o:=by
 by_cases e:b=p
 ·subst e; rw [i9] at h; cases h
 ·rw [ck e] at h; exact ⟨e,h⟩
theorem gQ (sb:aD Hf H) (hp:Hf p=none):bq (del H p) Hf (upd H p o) Hf :=
 ⟨fun b u e=>by obtain ⟨h1,h2⟩:=ja e; rw [ak h1]; exact h2,.refl _,fun b u e=>by rw [ak (aB e hp)]; exact sb b u e,fun _ h _ _=>h⟩
section
variable {K:NZ}
theorem aX.qN (ho:r.owned=true) (h:aX K fr H Hf r v):∃ p o,v=.ref p∧fr p∧H p=some o∧Hf p=none∧¬ Ab H p:=by
 have nf:∀ {p:Addr} {u:HO},H p=some u→(∀ φ,u≠.ext φ)→¬ Ab H p:=fun e k ⟨z,e2⟩=>by rw [e] at e2; exact k _ (PF e2)
 cases r with
 | un=>cases ho
 | va d=>cases ho
 | fo s=>cases ho
 | ow ds=>obtain ⟨p,xs,rfl,f,h1,h2,_⟩:=h; exact ⟨p,_,rfl,f,h1,h2,nf h1 (by intro _ z; cases z)⟩
 | oT ds=>obtain ⟨p,xs,rfl,f,h1,h2,_⟩:=h; exact ⟨p,_,rfl,f,h1,h2,nf h1 (by intro _ z; cases z)⟩
 | oK ds=>obtain ⟨p,xs,rfl,f,h1,h2,_⟩:=h; exact ⟨p,_,rfl,f,h1,h2,nf h1 (by intro _ z; cases z)⟩
 | aw a ds=>obtain ⟨p,xs,rfl,f,h1,h2,_⟩:=h; exact ⟨p,_,rfl,f.1,h1,h2,nf h1 (by intro _ z; cases z)⟩
 | aT a ds=>obtain ⟨p,xs,rfl,f,h1,h2,_⟩:=h; exact ⟨p,_,rfl,f.1,h1,h2,nf h1 (by intro _ z; cases z)⟩
 | aK a ds=>obtain ⟨p,xs,rfl,f,h1,h2,_⟩:=h; exact ⟨p,_,rfl,f.1,h1,h2,nf h1 (by intro _ z; cases z)⟩
theorem aX.qO (ho:r.owned=true) (h:aX K fr H Hf r v):∃ p o,v=.ref p∧fr p∧H p=some o∧Hf p=none :=
 let ⟨p,o,a,b,c,d,_⟩:=h.qN ho; ⟨p,o,a,b,c,d⟩
theorem aX.K7 (nf:¬ Ab H p) (hv:r.owned=true→v≠.ref p) (h:aX K fr H Hf r v):aX K fr (del H p) Hf r v :=
 aX.mv (B:=fun q=>q=p) (.refl _) (fun q o hq e1 _ e3=>⟨by rw [ck hq]; exact e1,e3⟩) (fun _ q e=>by subst e; exact nf) (fun ho q z e=>by subst e; exact hv ho z) h
theorem cW.own (S:cW K H₀ dQ σ H Hf ρ) {i:Nat} (hi:ρ[i]?=some r) (ho:r.owned=true):∃ p,σ[i]?=some (some (.ref p))∧aX K (fun p=>H₀ p=none) H Hf r (.ref p):=by
 obtain ⟨v,e,q⟩:=S.at_ i r hi (by rintro rfl; cases ho)
 obtain ⟨p,o,rfl,_⟩:=q.qO ho
 exact ⟨p,e,q⟩
theorem cW.upd (S:cW K H₀ dQ σ H Hf ρ) (hi:ρ[i]?=some r) (ho:r.owned=true) (hp:σ[i]?=some (some (.ref p))) (g:bq (del H p) Hf H1 aM)
 (hr:aX K (fun q=>q=p) H1 aM r' (.ref p)) (ho':r'.owned=true):cW K H₀ dQ σ H1 aM (ρ.set i r'):=by
 obtain ⟨p',ep,q⟩:=S.own hi ho
 rw [hp] at ep; cases ep
 obtain ⟨_,o,e,fp,hHp,hfp,nfz⟩:=q.qN ho
 cases e
 have hlt:i<ρ.length:=(Oa.mp hi).1
 refine ⟨⟨(AL fp S.bas.s).trans g.s,S.bas.f.trans g.f,g.b,fun b h1 h2 h3=>?_⟩,by simp [S.len],fun j r1 hj hu=>?_,fun j j' r1 r2 q' hne h1 h2 o1 o2=>?_⟩
 ·have hb:b≠p:=fun z=>by subst z; exact h2 fp
  cases z:H₀ b with
  | none=>exact absurd z h2
  | some o1 =>
   have e1:=S.bas.s b o1 z
   refine g.n b (S.bas.n b h1 h2 h3) (by rw [ck hb,e1]; simp) fun xs=>?_
   rw [ck hb,e1,← z]; exact h3 xs
 ·by_cases e:j=i
  ·subst e
   rw [Pa hlt] at hj; cases hj
   exact ⟨_,hp,hr.weak fun q' z=>by subst z; exact fp⟩
  ·rw [Pb (Ou e)] at hj
   obtain ⟨v,e1,e2⟩:=S.at_ j r1 hj hu
   exact ⟨v,e1,(e2.K7 (p:=p) nfz fun ow z=>by subst z; exact S.sep i j _ _ p (Ou e) hi hj ho ow hp e1).cz g⟩
 ·have out:∀ {j:Nat} {r1:Sl},(ρ.set i r')[j]?=some r1→r1.owned=true→∃ r2,ρ[j]?=some r2∧r2.owned=true:=fun {j r1} hj how=>by
   by_cases e:j=i
   ·subst e; exact ⟨r,hi,ho⟩
   ·rw [Pb (Ou e)] at hj; exact ⟨r1,hj,how⟩
  obtain ⟨r3,a1,a2⟩:=out h1 o1
  obtain ⟨r4,b1,b2⟩:=out h2 o2
  exact S.sep j j' r3 r4 q' hne a1 b1 a2 b2
end
section
variable {K:NZ} {c:Ctx P w K mg base k N sc bk}
theorem Ctx.kc (c:Ctx P w K mg base k N sc bk) (hN:At N i x) (hd:(x == ("__debug__":Str))=false) (hcd:(x == ("__classdict__":Str))=false):PE c.X (.Name x px) (J8 i) :=
 tF (X:=c.X) (i:=i) (by rw [c.eN]; exact hN.get) (by rw [c.esc]; rcases c.vis x hN.mem with h | h; exact .inl h; exact .inr (.inl h)) hd hcd
noncomputable def Sl.getL:Sl→Option (List D) | .ow ds=>some ds | .aw _ ds=>some ds | _=>none
noncomputable def Sl.putL:Sl→List D→Sl | .ow _,es=>.ow es | .aw a _,es=>.aw a es | s,_=>s
theorem c6 {r:Sl} (h:r.getL=some ds):r.owned=true:=by cases r <;> first | rfl | cases h
theorem iy {r:Sl} {ds es:List D} (h:r.getL=some ds):(r.putL es).owned=true:=by cases r <;> first | rfl | cases h
theorem Ib {p:Addr} (h:r.getL=some ds) (q:aX K fr H Hf r (.ref p)):∃ xs,H p=some (.lst xs)∧Hf p=none∧au K Hf ds xs:=by
 cases r with
 | ow es=>cases h; obtain ⟨_,xs,e,_,h1,h2,h3⟩:=q; cases e; exact ⟨xs,h1,h2,h3⟩
 | aw a es=>cases h; obtain ⟨_,xs,e,_,h1,h2,h3⟩:=q; cases e; exact ⟨xs,h1,h2,h3⟩
 | _=>cases h
theorem lg {ds es:List D} {p:Addr} (h:r.getL=some ds) (q:aX K fr H Hf r (.ref p)) (h1:H1 p=some (.lst ys)) (h2:aM p=none) (h3:au K aM es ys) :
 aX K (fun q=>q=p) H1 aM (r.putL es) (.ref p):=by
 cases r with
 | ow _=>exact ⟨p,ys,rfl,rfl,h1,h2,h3⟩
 | aw a _=>obtain ⟨_,xs,e,f,_⟩:=q; cases e; exact ⟨p,ys,rfl,⟨rfl,f.2⟩,h1,h2,h3⟩
 | _=>cases h
theorem tV (hN:At N i x) (hi:At ρ i r) (hr:r.getL=some ds) (h:aF c e ρ fun d=>Sd (ds.length<sizeLine) (Nx ρ i nx (r.putL (ds++[d]))))
 (hs:∀ env,swapsWith (.Call (.Attribute (.Name x px) "append" ap) [e] [] cp) none pos.line env=pure false:=by intro _; walk_at "u") (hd:(x == ("__debug__":Str))=false:=by decide) (hcd:(x == ("__classdict__":Str))=false:=by decide)
 (hbase:∀ env,attributeBase (.Name x px) "append" env (eval (.Name x px) env)=eval (.Name x px) env:=by intro _; walk_at "u")
 (hfew:∀ env,((backTo cp (starEach [e] env)).all (fun x=> !x.1) && (backToKw cp (keywordEach [] env)).all (fun x=>x.1.isSome)
   && decide (([e]:List Expr).length+([]:List Keyword).length+(if ([]:List Keyword).isEmpty then 0 else 1)<30))=true:=by intro _; walk_at "u")
 (hline:(ap.endLine == cp.line)=true:=by walk_at "u") (he:∀ env,starEach [e] env=(false,eval e env)::starEach [] env:=by intro _; walk_at "u") (hpl:∀ env,(backTo cp (starEach [] env)).any (·.1)=false:=by intro _; walk_at "u") :
 fu c (.Expr (.Call (.Attribute (.Name x px) "append" ap) [e] [] cp) pos) ρ nx p:=fun σ H Hf D S o=>by
 obtain ⟨q,eq,rq⟩:=S.own hi.get (c6 hr)
 obtain ⟨xs,h1,h2,h3⟩:=Ib hr rq
 refine dZ (kE (F5 PySem.F.plainAttrs_list PySem.F.slot_list_append PySem.F.type_list_append ny (c.kc hN hd hcd) (bN cU dH (he _)) (hbase _) (hfew _) hline (he _) (hpl _)) (hs _)) ⟨_,eq,.inl ⟨rfl,xs,.inl (.inl h1)⟩,?_⟩
 refine h σ H Hf _ S fun d v H' aj ⟨hz,ρ',hs',hn⟩ rd g=>?_
 have S':=S.cz g
 have e1:H' q=some (.lst xs):=g.s _ _ h1
 have e2:aj q=none:=g.n q h2 (by rw [h1]; simp) (by intro ys; rw [h1]; simp)
 refine ⟨q,xs,v,rfl,rfl,e1,by rw [← h3.length]; exact hz,?_⟩
 refine o.nx _ _ aj ρ' ?_ hn
 rw [hs'.eq]
 have rq':=rq.cz g
 exact S'.upd hi.get (c6 hr) eq (gQ g.b e2) (lg hr rq' ai e2 ((h3.mono g.f).append (.one rd))) (iy hr)
end
section
variable {κ β:Type} [DecidableEq κ]
noncomputable def bz (kvs:List (κ×β)) (k:κ):Option β:=(kvs.find? fun kv=>decide (kv.1=k)).map (·.2)
noncomputable def putD (kvs:List (κ×β)) (k:κ) (v:β):List (κ×β) :=
 if (bz kvs k).isSome=true then kvs.map (fun kv=>if kv.1=k then (kv.1,v) else kv) else kvs++[(k,v)]
theorem br {q:κ×β} {r:List (κ×β)} {k:κ} (e:q.1=k):bz (q::r) k=some q.2:=by simp [bz,PJ,e]
theorem aU {q:κ×β} {r:List (κ×β)} {k:κ} (e:¬ q.1=k):bz (q::r) k=bz r k:=by simp [bz,PJ,e]
end
noncomputable def D.xW:D→Option Key | .int i=>some (.inl i) | .str x=>some (.inr x) | _=>none
noncomputable def D.keys:List D→Option (List Key)
 | []=>some []
 | d::r=>match d.xW,D.keys r with | some k,some ks=>some (k::ks) | _,_=>none
theorem jb {K:NZ} (h:d.xW=some k) (r:Rep K H d v):v=kV k:=by
 cases d with
 | int i=>cases h; exact ay.mp r
 | str x=>cases h; exact fN.mp r
 | _=>cases h
theorem gR {K:NZ}:∀ {ds:List D} {ks:List Key} {xs:List V},D.keys ds=some ks→au K H ds xs→xs=ks.map kV
 | [],ks,xs,h,r=>by cases h; rw [aA.mp r]; rfl
 | d::ds,ks,xs,h,r=>by
  obtain ⟨x,t,rfl,r1,r2⟩:=aC.mp r
  unfold D.keys at h
  cases e1:d.xW with
  | none=>rw [e1] at h; cases h
  | some k =>
   cases e2:D.keys ds with
   | none=>rw [e1,e2] at h; cases h
   | some ks' =>
    rw [e1,e2] at h; cases h
    rw [jb e1 r1,gR e2 r2]; rfl
noncomputable def Sl.Gi:Sl→Bool | .oK _=>true | .aK _ _=>true | .oT _=>true | .aT _ _=>true | _=>false
theorem qP {r:Sl} (h:r.Gi=true):r.owned=true:=by cases r <;> first | rfl | cases h
noncomputable def Sl.tW:Sl→Option (List (Key×D)) | .oK kvs=>some kvs | .aK _ kvs=>some kvs | _=>none
noncomputable def Sl.qQ:Sl→List (Key×D)→Sl | .oK _,es=>.oK es | .aK a _,es=>.aK a es | s,_=>s
noncomputable def Sl.xX:Sl→Option (List (List Key×D)) | .oT kvs=>some kvs | .aT _ kvs=>some kvs | _=>none
noncomputable def Sl.AM:Sl→List (List Key×D)→Sl | .oT _,es=>.oT es | .aT a _,es=>.aT a es | s,_=>s
theorem lu {r:Sl} (h:r.tW=some kvs):r.owned=true:=by cases r <;> first | rfl | cases h
theorem ly {r:Sl} (h:r.tW=some kvs):(r.qQ es).owned=true:=by cases r <;> first | rfl | cases h
theorem tX {r:Sl} (h:r.xX=some kvs):(r.AM es).owned=true:=by cases r <;> first | rfl | cases h
section
variable {K:NZ} {fr:Addr→Prop} {H Hf H1 aM:Hp} {r:Sl} {p:Addr}
theorem xY (h:r.tW=some kvs) (q:aX K fr H Hf r (.ref p)):∃ xs,H p=some (.dK xs)∧Hf p=none∧mD K Hf kvs xs:=by
 cases r with
 | oK es=>cases h; obtain ⟨_,xs,e,_,h1,h2,h3⟩:=q; cases e; exact ⟨xs,h1,h2,h3⟩
 | aK a es=>cases h; obtain ⟨_,xs,e,_,h1,h2,h3⟩:=q; cases e; exact ⟨xs,h1,h2,h3⟩
 | _=>cases h
theorem En (h:r.xX=some kvs) (q:aX K fr H Hf r (.ref p)):∃ xs,H p=some (.dT xs)∧Hf p=none∧kZ K Hf kvs xs:=by
 cases r with
 | oT es=>cases h; obtain ⟨_,xs,e,_,h1,h2,h3⟩:=q; cases e; exact ⟨xs,h1,h2,h3⟩
 | aT a es=>cases h; obtain ⟨_,xs,e,_,h1,h2,h3⟩:=q; cases e; exact ⟨xs,h1,h2,h3⟩
 | _=>cases h
theorem qR (h:r.tW=some kvs) (q:aX K fr H Hf r (.ref p)) (h1:H1 p=some (.dK ys)) (h2:aM p=none) (h3:mD K aM es ys):aX K (fun q=>q=p) H1 aM (r.qQ es) (.ref p):=by
 cases r with
 | oK _=>exact ⟨p,ys,rfl,rfl,h1,h2,h3⟩
 | aK a _=>obtain ⟨_,xs,e,f,_⟩:=q; cases e; exact ⟨p,ys,rfl,⟨rfl,f.2⟩,h1,h2,h3⟩
 | _=>cases h
theorem AN (h:r.xX=some kvs) (q:aX K fr H Hf r (.ref p)) (h1:H1 p=some (.dT ys)) (h2:aM p=none) (h3:kZ K aM es ys):aX K (fun q=>q=p) H1 aM (r.AM es) (.ref p):=by
 cases r with
 | oT _=>exact ⟨p,ys,rfl,rfl,h1,h2,h3⟩
 | aT a _=>obtain ⟨_,xs,e,f,_⟩:=q; cases e; exact ⟨p,ys,rfl,⟨rfl,f.2⟩,h1,h2,h3⟩
 | _=>cases h
noncomputable def AO (K:NZ) (Hf:Hp):Option D→Option V→Prop
 | none,none=>True
 | some d,some v=>Rep K Hf d v
 | _,_=>False
theorem mD.val (h:mD K Hf kvs xs) (k:Key):AO K Hf (bz kvs k) (kU xs k):=by
 unfold mD at h
 induction h with
 | nil=>exact P6
 | @cons a b as bs h t ih =>
  by_cases e:a.1=k
  ·rw [br e,kW (h.1.symm.trans e)]; exact h.2
  ·rw [aU e,kX (fun z=>e (h.1.trans z))]; exact ih
theorem AO.isSome (h:AO K Hf o u):o.isSome=u.isSome:=by
 cases o <;> cases u <;> first | rfl | exact h.elim
theorem mD.put (h:mD K Hf kvs xs) (k:Key) (rd:Rep K Hf d v):mD K Hf (putD kvs k d) (putK xs k v):=by
 have e:=(h.val k).isSome
 unfold putD putK
 rw [e,qw]
 by_cases q:(kU xs k).isSome=true
 ·rw [if_pos q,if_pos q]
  unfold mD at h ⊢
  clear e q
  induction h with
  | nil=>exact .nil
  | @cons a b as bs h t ih =>
   rw [N5,N5]
   refine .cons ?_ ih
   by_cases e:a.1=k
   ·rw [if_pos e,if_pos (h.1.symm.trans e)]; exact ⟨h.1,rd⟩
   ·rw [if_neg e,if_neg (fun z=>e (h.1.trans z))]; exact h
 ·rw [if_neg q,if_neg q]; exact Td h ⟨rfl,rd⟩
theorem kZ.val (h:kZ K Hf kvs xs) (k):AO K Hf (bz kvs k) (atT xs k):=by
 unfold kZ at h
 induction h with
 | nil=>exact P6
 | @cons a b as bs h t ih =>
  by_cases e:a.1=k
  ·have z:L2.atT (b::bs) k=some b.2.2:=by simp [L2.atT,PJ,h.1.symm.trans e]
   rw [br e,z]; exact h.2.2
  ·have z:L2.atT (b::bs) k=L2.atT bs k:=by
    have:¬ b.1=k:=fun z=>e (h.1.trans z)
    simp [L2.atT,PJ,this]
   rw [aU e,z]; exact ih
theorem kZ.put (h:kZ K Hf kvs xs) (k) (hb:cV K Hf b (k.map kV)) (rd:Rep K Hf d v):kZ K Hf (putD kvs k d) (qz xs k b v):=by
 have e:=(h.val k).isSome
 unfold putD qz
 rw [e]
 by_cases q:(atT xs k).isSome=true
 ·rw [if_pos q,if_pos q]
  unfold kZ at h ⊢
  clear e q
  induction h with
  | nil=>exact .nil
  | @cons a b' as bs h t ih =>
   rw [N5,N5]
   refine .cons ?_ ih
   unfold oN
   by_cases e:a.1=k
   ·rw [if_pos e,if_pos (h.1.symm.trans e)]; exact ⟨h.1,h.2.1,rd⟩
   ·rw [if_neg e,if_neg (fun z=>e (h.1.trans z))]; exact h
 ·rw [if_neg q,if_neg q]; exact Td h ⟨rfl,hb,rd⟩
theorem kZ.AQ (h:kZ K Hf kvs xs):∀ x∈xs,cV K Hf x.2.1 (x.1.map kV):=by
 unfold kZ at h
 induction h with
 | nil=>intro x hx; cases hx
 | @cons a b as bs h t ih =>
  intro x hx
  rcases Og.mp hx with e | hx
  ·subst e; rw [← h.1]; exact h.2.1
  ·exact ih x hx
inductive Gj:Sl→D→Option D→Prop
 | k {r:Sl} {kvs:List (Key×D)} {d:D} {k:Key} (h:r.tW=some kvs) (hk:d.xW=some k):Gj r d (bz kvs k)
 | t {r:Sl} {kvs:List (List Key×D)} {ds:List D} {k:List Key} (h:r.xX=some kvs) (hk:D.keys ds=some k):Gj r (.tup ds) (bz kvs k)
inductive Eo:Sl→D→D→Sl→Prop
 | k {r:Sl} {kvs:List (Key×D)} {d e:D} {k:Key} (h:r.tW=some kvs) (hk:d.xW=some k) (hz:kvs.length<sizeLine):Eo r d e (r.qQ (putD kvs k e))
 | t {r:Sl} {kvs:List (List Key×D)} {ds:List D} {e:D} {k:List Key} (h:r.xX=some kvs) (hk:D.keys ds=some k) (hz:kvs.length<sizeLine):Eo r (.tup ds) e (r.AM (putD kvs k e))
theorem Eo.owned' (h:Eo r d e r'):r'.owned=true:=by cases h with | k h _ _=>exact ly h | t h _ _=>exact tX h
theorem Gj.get (h:Gj r d o) (q:aX K fr H Hf r (.ref p)) (rv:Rep K Hf d v) (sb:aD Hf H):∃ u,oO K H p v u∧AO K Hf o u:=by
 cases h with
 | k h hk =>
  obtain ⟨xs,h1,_,h3⟩:=xY h q
  rw [jb hk rv]
  exact ⟨_,.inl ⟨xs,_,.inl h1,rfl,rfl⟩,h3.val _⟩
 | t h hk =>
  obtain ⟨xs,h1,_,h3⟩:=En h q
  obtain ⟨a,ys,rfl,h4,h5⟩:=aH.mp rv
  have:=gR hk h5
  subst this
  exact ⟨_,.inr ⟨xs,_,a,.inl h1,fun x hx=>av sb (h3.AQ x hx),rfl,av sb h4,rfl⟩,h3.val _⟩
theorem mD.length (h:mD K Hf kvs xs):kvs.length=xs.length:=Pk h
theorem kZ.length (h:kZ K Hf kvs xs):kvs.length=xs.length:=Pk h
theorem Eo.put (h:Eo r d e r') (q:aX K fr H Hf r (.ref p)) (rv:Rep K Hf d v) (ry:Rep K Hf e y) (sb:aD Hf H) :
 ∃ o,DS K H p v y (upd H p o)∧aX K (fun q=>q=p) (upd H p o) Hf r' (.ref p):=by
 cases h with
 | k h hk hz =>
  obtain ⟨xs,h1,h2,h3⟩:=xY h q
  rw [jb hk rv]
  exact ⟨_,.inl ⟨xs,_,h1,rfl,by rw [← h3.length]; exact hz,rfl⟩,qR h q ai h2 (h3.put _ ry)⟩
 | t h hk hz =>
  obtain ⟨xs,h1,h2,h3⟩:=En h q
  obtain ⟨a,ys,rfl,h4,h5⟩:=aH.mp rv
  have:=gR hk h5
  subst this
  exact ⟨_,.inr ⟨xs,_,a,h1,fun x hx=>av sb (h3.AQ x hx),rfl,av sb h4,by rw [← h3.length]; exact hz,rfl⟩,AN h q ai h2 (h3.put _ h4 ry)⟩
end
section
variable {K:NZ} {c:Ctx P w K mg base k N sc bk}
theorem Ctx.hu (c:Ctx P w K mg base k N sc bk):c.X.A.units+1<cLine:=KA c.room
theorem vS {R:Sl→Prop} (h:R (.oK [])):dw c (.Dict [] [] pos) ρ R:=fun σ H Hf Q S q =>
 bH zY fun p hp=>q (.oK []) (.ref p) _ Hf h ⟨p,[],rfl,hp,ai,S.sb.free hp,.nil⟩ (bq.gc S.sb hp)
theorem Ep {R:Sl→Prop} (h:R (.oT [])):dw c (.Dict [] [] pos) ρ R:=fun σ H Hf Q S q =>
 bH zZ fun p hp=>q (.oT []) (.ref p) _ Hf h ⟨p,[],rfl,hp,ai,S.sb.free hp,.nil⟩ (bq.gc S.sb hp)
theorem Ic (hN:At N i x) (hi:At ρ i r) (h:aF c e ρ fun dk=>aF c f ρ fun df=>∃ o,Gj r dk o∧R (o.getD df)) (hd:(x == ("__debug__":Str))=false:=by decide) (hcd:(x == ("__classdict__":Str))=false:=by decide) (ho:r.Gi=true:=by rfl)
 (m1:∀ env,attributeBase (.Name x px) "get" env (eval (.Name x px) env)=eval (.Name x px) env:=by intro _; walk_at "u")
 (m2:∀ env,((backTo cp (starEach [e,f] env)).all (fun x=> !x.1) && (backToKw cp (keywordEach [] env)).all (fun x=>x.1.isSome)
   && decide (([e,f]:List Expr).length+([]:List Keyword).length+(if ([]:List Keyword).isEmpty then 0 else 1)<30))=true:=by intro _; walk_at "u")
 (m3:(ap.endLine == cp.line)=true:=by walk_at "u") (m4:∀ env,backTo cp (starEach [e,f] env)=[(false,eval e env),(false,eval f env)]:=by intro _; walk_at "u") :
 aF c (.Call (.Attribute (.Name x px) "get" ap) [e,f] [] cp) ρ R:=fun σ H Hf Q S q=>by
 obtain ⟨p,ep,rp⟩:=S.own hi.get (qP ho)
 have Ia:MZ H p:=by
  cases r with
  | oK kvs=>obtain ⟨xs,h1,_⟩:=xY (r:=.oK kvs) rfl rp; exact .inl ⟨xs,.inl h1⟩
  | aK a kvs=>obtain ⟨xs,h1,_⟩:=xY (r:=.aK a kvs) rfl rp; exact .inl ⟨xs,.inl h1⟩
  | oT kvs=>obtain ⟨xs,h1,_⟩:=En (r:=.oT kvs) rfl rp; exact .inr ⟨xs,.inl h1⟩
  | aT a kvs=>obtain ⟨xs,h1,_⟩:=En (r:=.aT a kvs) rfl rp; exact .inr ⟨xs,.inl h1⟩
  | _=>cases ho
 refine bH (z0 c.hu (c.kc hN hd hcd) cU cU ⟨m1 _,m2 _,m3,m4 _⟩) ⟨_,ep,p,rfl,Ia,h σ H Hf _ S fun dk v H1 aM h1 rv g1=>h1 σ H1 aM _ (S.cz g1) fun df y H2 cE ⟨o,lk,hR⟩ ry g2=>?_⟩
 obtain ⟨u,dg,rel⟩:=lk.get (rp.cz (g1.trans g2)) (Rep.mono g2.f _ rv) g2.b
 refine ⟨u,dg,?_⟩
 cases o with
 | none=>cases u with
  | none=>exact q df y H2 cE hR ry (g1.trans g2)
  | some _=>exact rel.elim
 | some d=>cases u with
  | none=>exact rel.elim
  | some v'=>exact q d v' H2 cE hR rel (g1.trans g2)
theorem Ie (hN:At N i x) (hi:At ρ i r) (h:aF c e ρ fun dv=>aF c b ρ fun dk=>∃ r',Eo r dk dv r'∧Nx ρ i nx r') (ho:r.owned=true:=by rfl)
 (hs:∀ env,swapsWith e (some (.Subscript (.Name x px) b tp)) pos.line env=pure false:=by intro _; walk_at "u") (hd:(x == ("__debug__":Str))=false:=by decide) (hcd:(x == ("__classdict__":Str))=false:=by decide) :
 fu c (.Assign [.Subscript (.Name x px) b tp] e pos) ρ nx p:=fun σ H Hf D S o=>by
 obtain ⟨p,ep,rp⟩:=S.own hi.get ho
 refine dZ (DV c.hu (c.kc hN hd hcd) cU cU (hs _)) (h σ H Hf _ S fun dv v H1 aM h1 rv g1=>⟨_,ep,h1 σ H1 aM _ (S.cz g1) fun dk y H2 cE ⟨r',pt,ρ',hs',hn⟩ ry g2=>?_⟩)
 have g:=g1.trans g2
 obtain ⟨ob,dp,rp'⟩:=pt.put (rp.cz g) ry (Rep.mono g2.f _ rv) g.b
 refine ⟨p,_,rfl,dp,o.nx _ _ cE ρ' ?_ hn⟩
 rw [hs'.eq]
 obtain ⟨_,_,e0,_,_,hf⟩:=(rp.cz g).qO ho
 cases e0
 exact (S.cz g).upd hi.get ho ep (gQ g.b hf) rp' pt.owned'
theorem vU (hN:At N i x) (hi:At ρ i r) (h:aF c b ρ fun dk=>∃ m:Int,Gj r dk (some (.int m))∧aF c e ρ (I1 fun j=>∃ r',Eo r dk (.int (m+j)) r'∧Nx ρ i nx r')) (ho:r.owned=true:=by rfl)
 (ha:∀ ov iv new,augStore b ov iv new=(do holding [new,ov,iv] (setItem ov iv new); release [new,ov,iv] []; pure .next):=by intro _ _ _; walk_at "u") (hd:(x == ("__debug__":Str))=false:=by decide) (hcd:(x == ("__classdict__":Str))=false:=by decide) :
 fu c (.AugAssign (.Subscript (.Name x px) b tp) .Add e pos) ρ nx p:=fun σ H Hf D S o=>by
 obtain ⟨p,ep,rp⟩:=S.own hi.get ho
 have hop:Ks c.X .Add (vo fun i j=>.int (i+j)):=DE
 refine dZ (DW c.hu (c.kc hN hd hcd) cU cU hop ha) ⟨_,ep,h σ H Hf _ S fun dk y H1 aM ⟨m,lk,h1⟩ ry g1=>?_⟩
 obtain ⟨u,dg,rel⟩:=lk.get (rp.cz g1) ry g1.b
 cases u with
 | none=>exact rel.elim
 | some u =>
  have eu:u=V.int m:=(ay (K:=c.X.K) (H:=aM)).mp rel
  subst eu
  refine ⟨p,_,rfl,dg,h1 σ H1 aM _ (S.cz g1) fun dj y2 H2 cE ⟨j,ej,r',pt,ρ',hs',hn⟩ ry2 g2=>?_⟩
  subst ej
  rw [ay.mp ry2]
  have g:=g1.trans g2
  obtain ⟨ob,dp,rp'⟩:=pt.put (rp.cz g) (Rep.mono g2.f _ ry) (v:=y) (y:=.int (m+j)) (ay.mpr rfl) g.b
  refine ⟨m,j,rfl,rfl,_,dp,o.nx _ _ cE ρ' ?_ hn⟩
  rw [hs'.eq]
  obtain ⟨_,_,e0,_,_,hf⟩:=(rp.cz g).qO ho
  cases e0
  exact (S.cz g).upd hi.get ho ep (gQ g.b hf) rp' pt.owned'
theorem Gk (hN:At N i x) (hi:At ρ i r) (h:aF c e ρ fun dk=>∃ o,Gj r dk o∧T o.isSome) (ho:r.owned=true:=by rfl) (hm:behindInMarks CmpOp.In (.Name x px)=false:=by walk_at "u")
 (hd:(x == ("__debug__":Str))=false:=by decide) (hcd:(x == ("__classdict__":Str))=false:=by decide):jE c (.Compare e [.In] [.Name x px] pos) ρ T:=fun σ H Hf Q S q=>by
 obtain ⟨p,ep,rp⟩:=S.own hi.get ho
 refine vG (GS (Hy c.hu cU (c.kc hN hd hcd)) hm) (h σ H Hf _ S fun dk y H1 aM ⟨o,lk,hT⟩ ry g=>⟨_,ep,?_⟩)
 obtain ⟨u,dg,rel⟩:=lk.get (rp.cz g) ry g.b
 refine ⟨p,u,rfl,dg,u.isSome,rfl,q _ H1 aM ?_ g⟩
 rw [← rel.isSome]; exact hT
end
noncomputable abbrev j5:Value→Shared→Prop:=fun _ _=>False
section
variable {prog:Program} {w:World} {A:Around} {R:Result→Shared→Prop} {s:Shared}
theorem oY {elt target iter:Expr} {ifs:List Expr} {scope:Scope} {pos:Pos} {it acc:Value} {env:Env} (I:Nat→Shared→Prop)
 (turn:∀ n s,I n s→wpAny (model prog w) A (pyNext it) (fun r s₁=>match r with
   | none=>R (.ok .next) s₁
   | some v=>wpAny (model prog w) A (letOwnedTupleGo target it v) (fun _ s₁'=>wpAny (model prog w) A (assign target env v) (fun _ s₂ =>
    wpAny (model prog w) A (forIn ifs true fun c r=>if r=true then do let ok ← isTrue c env (eval c env); pure (OY ok) else pure (OY r)) (fun ok s₃ =>
     if ok=true then wpAny (model prog w) A (eval elt env) (fun x s₄ =>
      wpAny (model prog w) A (call (.builtin "list.append") [acc,x]) (fun _ s₅=>∃ m,m<n∧I m s₅) j5 s₄) j5 s₃
     else ∃ m,m<n∧I m s₃) j5 s₂) j5 s₁') j5 s₁) j5 s)
 (n:Nat) (h:I n s) :
 codeAny (model prog w) A (.compLoop (.ListComp elt [⟨target,iter,ifs,0⟩] scope pos) 0 it acc env) R s:=by
 refine codeAny_loop rfl I (fun n s hI=>?_) n h
 show wpAny _ A ((compTurn (.ListComp elt [⟨target,iter,ifs,0⟩] scope pos) 0 it acc env).onRaise (fun x=>do noteFrame x env; theTreesLotGoes x)) _ _ s
 refine wpAny_noted ?_
 rw [compTurn_list]
 refine NX (SO (NX (OP (turn n s hI) (fun r s₁ h₁=>?_) fun _ _ f=>f.elim)))
 cases r with
 | none=>exact N1 h₁
 | some v =>
  refine NX (OP h₁ (fun _ s₁' h₁'=>?_) fun _ _ f=>f.elim)
  refine NX (OP h₁' (fun _ s₂ h₂=>NX (OP h₂ (fun ok s₃ h₃=>?_) fun _ _ f=>f.elim)) fun _ _ f=>f.elim)
  cases ok with
  | false=>exact N1 ⟨rfl,h₃⟩
  | true =>
   exact NX (NX (OP h₃ (fun x s₄ h₄=>NX (OP h₄ (fun _ s₅ h₅=>N1 (N1 ⟨rfl,h₅⟩)) fun _ _ f=>f.elim)) fun _ _ f=>f.elim))
theorem j6:∀ (ifs:List Expr),Q false s →
 wpAny (model prog w) A (forIn ifs false fun c r=>if r=true then do let ok ← isTrue c env (eval c env); pure (OY ok) else pure (OY r)) Q E s
 | [],h=>N1 h
 | t::ts,h=>by
  simp only [SG,OV,if_false]
  exact NX (N1 (j6 ts h))
theorem tY
 (h:wpAny (model prog w) A (isTrue t env (eval t env)) (fun b s'=>if b=true then wpAny (model prog w) A (forIn ts true fun c r=>if r=true then do let ok ← isTrue c env (eval c env); pure (OY ok) else pure (OY r)) Q E s' else Q false s') E s) :
 wpAny (model prog w) A (forIn (t::ts) true fun c r=>if r=true then do let ok ← isTrue c env (eval c env); pure (OY ok) else pure (OY r)) Q E s:=by
 simp only [SG,if_true]
 refine NX (NX (OP h (fun b s' hb=>N1 ?_) fun _ _ x=>x))
 cases b with
 | true=>exact hb
 | false=>exact j6 ts hb
end
noncomputable def bJ (scope sc:Scope):Scope:={ scope with names:=scope.names.map fun (n,k)=>if (k == .free && sc.kind == .function && sc.names.lookup n == some .cell) then (n,.cell) else (n,k) }
theorem qS (h:env.scope=sc):relabel scope env=bJ scope sc:=by
 subst h; rfl
noncomputable def Sl.tag (a:Addr):Sl→Sl
 | .ow ds=>.aw a ds | .oT ds=>.aT a ds | .oK ds=>.aK a ds
 | .aw b ds=>.aw b ds | .aT b ds=>.aT b ds | .aK b ds=>.aK b ds | .fo s=>.fo s
 | .un=>.un | .va d=>.va d
inductive zw (t:Str→Addr) (nm:List (Str×NameKind)) (N:List Str) (ρ:List Sl):List Str→List Sl→Prop
 | nil:zw t nm N ρ [] []
 | un {y:Str} {M:List Str} {r:List Sl}:zw t nm N ρ M r→zw t nm N ρ (y::M) (.un::r)
 | fr {y:Str} {i:Nat} {s s':Sl} {M:List Str} {r:List Sl} (hN:At N i y) (hs:At ρ i s) (hy:(y,Qa)∈nm) (ht:s.tag (t y)=s'):zw t nm N ρ M r→zw t nm N ρ (y::M) (s'::r)
theorem zw.len (h:zw t nm N ρ M r):M.length=r.length:=by
 induction h with
 | nil=>rfl
 | un t ih=>simp [ih]
 | fr hN hs hy ht t ih=>simp [ih]
inductive Er:List Sl→List Sl→Prop
 | nil:Er [] []
 | un {r:Sl} {a b:List Sl}:Er a b→Er (.un::a) (r::b)
 | same {r:Sl} {a b:List Sl}:Er a b→Er (r::a) (r::b)
theorem Er.weak (h:Er a b):a.length=b.length∧∀ (i:Nat) (r:Sl),a[i]?=some r→r≠.un→b[i]?=some r:=by
 induction h with
 | nil=>exact ⟨rfl,fun i r e=>by simp at e⟩
 | un t ih=>exact ⟨by simp [ih.1],fun i r e hu=>by cases i with | zero=>simp at e; exact absurd e.symm hu | succ i=>simpa using ih.2 i r (by simpa using e) hu⟩
 | same t ih=>exact ⟨by simp [ih.1],fun i r e hu=>by cases i with | zero=>simpa using e | succ i=>simpa using ih.2 i r (by simpa using e) hu⟩
section
variable {K:NZ}
noncomputable def mP (c:Ctx P w K mg base k N sc bk):List Expr→List Sl→(Bool→Prop)→Prop
 | [],_,T=>T true
 | t::ts,ρ,T=>jE c t ρ (nJ (mP c ts ρ T) (T false))
theorem nK (hq:c.X.xe=j5):∀ (ifs:List Expr) {H Hf:Hp} {s:Shared},bu c σ H Hf ρ→mP c ifs ρ T→(∀ b H' aj,T b→bq H Hf H' aj→Q b H')→Inv c.X aa σ H s →
 wpAny (model c.X.prog c.X.w) c.X.A (forIn ifs true fun t r=>if r=true then do let ok ← isTrue t c.X.env (eval t c.X.env); pure (OY ok) else pure (OY r)) (TP c.X aa σ Q) j5 s
 | [],H,Hf,s,S,h,q,I=>wpAny_tests_nil ⟨H,I,q true H Hf h (.refl S.sb)⟩
 | t::ts,H,Hf,s,S,h,q,I=>by
  have h0:=h σ H Hf (fun b H'=>∃ aj,nJ (mP c ts ρ T) (T false) b∧bq H Hf H' aj) S (fun b H' aj hb g=>⟨aj,hb,g⟩) aa s I
  rw [hq] at h0
  refine tY (bC h0 fun b s' ⟨H',I',aj,hb,g⟩=>?_)
  cases b with
  | true=>exact nK hq ts (S.cz g) (hb.t rfl) (fun b H2 cE hT g2=>q b H2 cE hT (g.trans g2)) I'
  | false=>exact ⟨H',I',q false H' aj (hb.f rfl) g⟩
end
theorem lz:∀ (names:List (Str×NameKind)) (cs:List (Str×Addr)),(∀ x∈names,x.2=.free→∃ a,env.cells.lookup x.1=some a) →
 ∃ cl,(forIn names cs (fun (x:Str×NameKind) (r:List (Str×Addr))=>(if (x.2 == Qa)=true then do let a ← cellOf env x.1; pure (OY ((x.1,a)::r)) else pure (OY r):Sem (ForInStep (List (Str×Addr))))))=(pure cl:Sem (List (Str×Addr))) ∧
  (∀ y a,cl.lookup y=some a→cs.lookup y=some a∨env.cells.lookup y=some a∧(y,Qa)∈names)∧(∀ y a,(y,Qa)∈names∨(∃ b,cs.lookup y=some b∧env.cells.lookup y=some b)→env.cells.lookup y=some a→cl.lookup y=some a)
 | [],cs,_=>⟨cs,rfl,fun y a e=>.inl e,fun y a h e=>by
  rcases h with h | ⟨b,h1,h2⟩
  ·cases h
  ·rw [e] at h2; cases h2; exact h1⟩
 | (n,kd)::r,cs,h=>by
  by_cases hk:kd=.free
  ·subst hk
   obtain ⟨a,ea⟩:=h (n,.free) N9 rfl
   obtain ⟨cl,e1,e2,e3⟩:=lz r ((n,a)::cs) fun x hx=>h x (Ob _ hx)
   refine ⟨cl,?_,fun y b e=>?_,fun y b hy e=>?_⟩
   ·rw [SG]
    simp only [beq_self_eq_true,if_true,cellOf,ea,pure_bind]
    exact e1
   ·rcases e2 y b e with z | ⟨z1,z2⟩
    ·rw [Ue] at z
     cases q:(y == n) with
     | true =>
      rw [q] at z; cases z
      have:y=n:=by simpa using q
      subst this
      exact .inr ⟨ea,N9⟩
     | false=>rw [q] at z; exact .inl z
    ·exact .inr ⟨z1,Ob _ z2⟩
   ·refine e3 y b ?_ e
    rcases hy with hy | ⟨b',h1,h2⟩
    ·rcases Og.mp hy with z | z
     ·cases z; exact .inr ⟨a,by simp,ea⟩
     ·exact .inl z
    ·refine .inr ⟨b',?_,h2⟩
     rw [Ue]
     cases q:(y == n) with
     | true =>
      have:y=n:=by simpa using q
      subst this
      rw [ea] at h2; exact h2
     | false=>exact h1
  ·have hb:(kd == Qa)=false:=by simpa using hk
   obtain ⟨cl,e1,e2,e3⟩:=lz r cs fun x hx=>h x (Ob _ hx)
   refine ⟨cl,?_,fun y b e=>?_,fun y b hy e=>?_⟩
   ·rw [SG]
    simp only [hb,OV,if_false,pure_bind]
    exact e1
   ·rcases e2 y b e with z | ⟨z1,z2⟩
    ·exact .inl z
    ·exact .inr ⟨z1,Ob _ z2⟩
   ·refine e3 y b ?_ e
    rcases hy with hy | hy
    ·rcases Og.mp hy with z | z
     ·cases z; exact absurd rfl hk
     ·exact .inl z
    ·exact .inr hy
theorem Es (h:∀ x∈scope.names,x.2=.free→∃ a,env.cells.lookup x.1=some a) :
 ∃ cl,closureFor scope env=pure cl∧(∀ y a,cl.lookup y=some a→env.cells.lookup y=some a∧(y,Qa)∈scope.names)∧(∀ y a,(y,Qa)∈scope.names→env.cells.lookup y=some a→cl.lookup y=some a):=by
 obtain ⟨cl,e1,e2,e3⟩:=lz scope.names [] h
 refine ⟨cl,?_,fun y a e=>?_,fun y a hy e=>e3 y a (.inl hy) e⟩
 ·unfold closureFor
  have e1':=congrArg (· >>= fun cs=>(pure cs:Sem _)) e1
  simp only [pure_bind] at e1'
  exact e1'
 ·rcases e2 y a e with z | z
  ·simp at z
  ·exact z
section
variable {P:Program} {w:World} {K:NZ} {mg:Str→Option Value} {base:Heap} {k:Nat} {N:List Str} {sc:Scope} {bk:Bool} {c:Ctx P w K mg base k N sc bk} {ρ:List Sl} {pos:Pos}
noncomputable def vV (c:Ctx P w K mg base k N sc bk) (tg:Expr) (ifs:List Expr) (elt:Expr) (ρ0:List Sl) (d:D) (o:Option D):Prop :=
 mK c tg d ρ0 fun ρ1=>Er ρ0 ρ1∧mP c ifs ρ1 (nJ (aF c elt ρ1 fun e=>o=some e) (o=none))
theorem jc {nm:List (Str×NameKind)}:∀ {y:Str} {kd:NameKind},(nm.map fun (x:Str×NameKind)=>match x with | (n,k)=>(if (k == .free && sc.kind == .function && sc.names.lookup n == some .cell)=true then (n,NameKind.cell) else (n,k))).lookup y=some kd→∃ k0,(y,k0)∈nm∧(kd=k0∨kd=.cell∧k0=.free):=by
 induction nm with
 | nil=>intro y kd h; simp at h
 | cons x r ih =>
  obtain ⟨n,k0⟩:=x
  intro y kd h
  rw [N5,Ue] at h
  by_cases e:(k0 == .free && sc.kind == .function && sc.names.lookup n == some .cell)=true
  ·simp only [e,if_true] at h
   cases q:(y == n) with
   | true =>
    rw [q] at h; cases h
    have:y=n:=by simpa using q
    subst this
    have hf:k0=.free:=by simp only [Rt,beq_iff_eq] at e; exact e.1.1
    exact ⟨k0,N9,.inr ⟨rfl,hf⟩⟩
   | false=>rw [q] at h; obtain ⟨k1,h1,h2⟩:=ih h; exact ⟨k1,Ob _ h1,h2⟩
  ·simp only [e,OV,if_false] at h
   cases q:(y == n) with
   | true =>
    rw [q] at h; cases h
    have:y=n:=by simpa using q
    subst this
    exact ⟨k0,N9,.inl rfl⟩
   | false=>rw [q] at h; obtain ⟨k1,h1,h2⟩:=ih h; exact ⟨k1,Ob _ h1,h2⟩
theorem zw.start {σ:L2.St} (h:zw t nm N ρ M r) (hσ:∀ (i:Nat) (s:Sl),ρ[i]?=some s→s≠.un→∃ v,σ[i]?=some (some v)) :
 ∃ σ0:L2.St,σ0.length=r.length∧∀ (j:Nat) (s:Sl),r[j]?=some s→(s=.un∧σ0[j]?=some none)∨∃ (i:Nat) (y:Str) (v:V) (s0:Sl),M[j]?=some y∧(y,Qa)∈nm∧N[i]?=some y∧ρ[i]?=some s0∧s=s0.tag (t y)∧s0≠.un∧σ[i]?=some (some v)∧σ0[j]?=some (some v):=by
 induction h with
 | nil=>exact ⟨[],rfl,fun j s e=>by simp at e⟩
 | un t ih =>
  obtain ⟨σ0,hl,h0⟩:=ih
  refine ⟨none::σ0,by simp [hl],fun j s e=>?_⟩
  cases j with
  | zero=>simp at e; exact .inl ⟨e.symm,by simp⟩
  | succ j =>
   rcases h0 j s (by simpa using e) with ⟨h1,h2⟩ | ⟨i,y,v,s0,h1,h2,h3,h4,h5,h6,h7,h8⟩
   ·exact .inl ⟨h1,by simpa using h2⟩
   ·exact .inr ⟨i,y,v,s0,by simpa using h1,h2,h3,h4,h5,h6,h7,by simpa using h8⟩
 | @fr y i s' s'' M r hN hs hy ht t ih =>
  obtain ⟨σ0,hl,h0⟩:=ih
  by_cases hu:s'=.un
  ·refine ⟨none::σ0,by simp [hl],fun j s e=>?_⟩
   cases j with
   | zero=>simp at e; subst hu; exact .inl ⟨e.symm.trans ht.symm,by simp⟩
   | succ j =>
    rcases h0 j s (by simpa using e) with ⟨h1,h2⟩ | ⟨i,y,v,s0,h1,h2,h3,h4,h5,h6,h7,h8⟩
    ·exact .inl ⟨h1,by simpa using h2⟩
    ·exact .inr ⟨i,y,v,s0,by simpa using h1,h2,h3,h4,h5,h6,h7,by simpa using h8⟩
  ·obtain ⟨v,ev⟩:=hσ i s' hs.get hu
   refine ⟨some v::σ0,by simp [hl],fun j s e=>?_⟩
   cases j with
   | zero=>simp at e; subst e; exact .inr ⟨i,y,v,s',by simp,hy,hN.get,hs.get,ht.symm,hu,ev,by simp⟩
   | succ j =>
    rcases h0 j s (by simpa using e) with ⟨h1,h2⟩ | ⟨i,y,v,s0,h1,h2,h3,h4,h5,h6,h7,h8⟩
    ·exact .inl ⟨h1,by simpa using h2⟩
    ·exact .inr ⟨i,y,v,s0,by simpa using h1,h2,h3,h4,h5,h6,h7,by simpa using h8⟩
noncomputable def Sl.adr:Sl→Option Addr | .aw a _=>some a | .aT a _=>some a | .aK a _=>some a | _=>none
theorem nL {s:Sl}:(s.tag a).owned=s.owned:=by cases s <;> rfl
theorem Et {s:Sl} (h:s.owned=true):∃ b,(s.tag a).adr=some b:=by cases s <;> first | exact ⟨_,rfl⟩ | cases h
theorem vW (hv:s.owned=true→v=.ref a) (h:aX K fr H Hf s v):aX K fr H Hf (s.tag a) v:=by
 cases s with
 | ow ds=>obtain ⟨p,xs,e,f,r⟩:=h; exact ⟨p,xs,e,⟨f,by have:=hv rfl; rw [e] at this; cases this; rfl⟩,r⟩
 | oT ds=>obtain ⟨p,xs,e,f,r⟩:=h; exact ⟨p,xs,e,⟨f,by have:=hv rfl; rw [e] at this; cases this; rfl⟩,r⟩
 | oK ds=>obtain ⟨p,xs,e,f,r⟩:=h; exact ⟨p,xs,e,⟨f,by have:=hv rfl; rw [e] at this; cases this; rfl⟩,r⟩
 | _=>exact h
theorem vX (hb:s.adr=some b) (h:aX K fr H Hf s (.ref p)):p=b:=by
 cases s with
 | aw a ds=>cases hb; obtain ⟨q,xs,e,f,r⟩:=h; cases e; exact f.2
 | aT a ds=>cases hb; obtain ⟨q,xs,e,f,r⟩:=h; cases e; exact f.2
 | aK a ds=>cases hb; obtain ⟨q,xs,e,f,r⟩:=h; cases e; exact f.2
 | _=>cases hb
theorem cW.apart (S:cW K H₀ dQ σ H Hf ρ) (h0:H₀ a=none) (hf:Hf a=none) (nf:¬ Ab H a) (ha:∀ (i:Nat) (r:Sl),ρ[i]?=some r→r.owned=true→σ[i]?≠some (some (.ref a))):cW K H₀ dQ σ (L2.upd H a o) Hf ρ :=
 ⟨⟨fun b u e=>by rw [L2.ak (aB e h0)]; exact S.bas.s b u e,S.bas.f,fun b u e=>by rw [L2.ak (aB e hf)]; exact S.bas.b b u e,S.bas.n⟩,S.len,fun i r hi hu=>by
   obtain ⟨v,e,q⟩:=S.at_ i r hi hu
   refine ⟨v,e,?_⟩
   have hg:bq (del H a) Hf (L2.upd H a o) Hf:=gQ S.bas.b hf
   exact (q.K7 (p:=a) nf fun ow z=>by subst z; exact ha i r hi ow e).cz hg,S.sep⟩
theorem oZ (g:bq H1 aM H' aj) (h1:H1 a=none) (hf:aj a=none):bq H1 aM (upd H' a o) aj :=
 ⟨fun b u e=>by rw [ak (aB e h1)]; exact g.s b u e,g.f,fun b u e=>by rw [ak (aB e hf)]; exact g.b b u e,g.n⟩
theorem vY {elt tg iter:Expr} {ifs:List Expr} {scope:Scope} {N':List Str} {ρ0:(Str→Addr)→List Sl} {R:Sl→Prop} (hq:c.X.xe=j5) (hfr:∀ t,zw t scope.names N ρ N' (ρ0 t))
 (h:Gg c tg iter ρ fun ds=>Sd (ds.length≤sizeLine) (∃ os:List (Option D),os.length=ds.length ∧
   (∀ c':Ctx P w K mg base k N' (bJ scope sc) true,c'.X.xe=j5→∀ (t:Str→Addr) (i:Nat) (d:D) (o:Option D),ds[i]?=some d→os[i]?=some o→vV c' tg ifs elt (ρ0 t) d o)∧R (.ow (os.filterMap id))))
 (hk:scope.kind=.function:=by walk_at "u") (hnc:∀ x∈scope.names,x.2≠.cell:=by decide +kernel) (hnl:∀ x∈scope.names,x.2=.local→scope.names.lookup x.1=some .local:=by decide +kernel)
 (hfree:∀ x∈scope.names,x.2=.free→sc.names.lookup x.1=some .cell:=by decide +kernel) (hnd:N'.Nodup:=by decide +kernel) (hv:∀ x∈N',Loc (bJ scope sc) x:=by unfold L2.Loc; decide +kernel)
 (hvf:∀ x∈scope.names,x.2=.free→(bJ scope sc).names.lookup x.1=some .cell:=by decide +kernel)
 (hs:∀ env v,foldedSetIterable iter env v=pure v:=by intro _ _; walk_at "u")
 {σ:L2.St} {H Hf:Hp} (S:bu c σ H Hf ρ) {aa:List (Addr×Obj)} {s:Shared} (I:Inv c.X aa σ H s) {use:Option (Value→Sem Unit)} {QQ:Value→Shared→Prop}
 (kont:∀ (s':Shared) (H' aj:Hp) (a C:Addr) (r:Sl),R r→(∃ m,s'.heap.Ns C m)→C∉c.X.fs→fM c.X aa H' C→aX c.X.K (fun p=>H p=none) H' aj r (.ref a)→bq H Hf H' aj→(∀ h5,Pj C s'.heap h5→Inv c.X aa σ H' { s' with heap:=h5 })→compPost (model c.X.prog c.X.w) c.X.A j5 use QQ (.ref a) C (.ok .next) s') :
 wpAny (model c.X.prog c.X.w) c.X.A (comprehension (.ListComp elt [⟨tg,iter,ifs,0⟩] scope pos) scope c.X.env (firstIterPos [⟨tg,iter,ifs,0⟩] pos) (newList []) (firstAsync [⟨tg,iter,ifs,0⟩]) (firstIter [⟨tg,iter,ifs,0⟩] c.X.env) use) QQ j5 s:=by
 have hI:=h σ H Hf (fun J H1=>∃ ds aM,Sd (ds.length≤sizeLine) (∃ os:List (Option D),os.length=ds.length ∧
  (∀ c':Ctx P w K mg base k N' (bJ scope sc) true,c'.X.xe=j5→∀ (t:Str→Addr) (i:Nat) (d:D) (o:Option D),ds[i]?=some d→os[i]?=some o→vV c' tg ifs elt (ρ0 t) d o)∧R (.ow (os.filterMap id)))∧bq H Hf H1 aM∧jF c.X.K J ds aM) S (fun ds J H' aj hR g io=>⟨ds,aj,hR,g,io⟩) aa s I
 rw [hq] at hI
 have hcells:∀ x∈scope.names,x.2=.free→∃ a,c.X.env.cells.lookup x.1=some a:=fun x hx hf=>I.ok.has x.1 (.inl (by unfold ON; rw [c.esc]; exact hfree x hx hf))
 obtain ⟨cl,hclos,zp,hcl2⟩:=Es hcells
 refine wpAny_comprehension_free (cl:=cl) (use:=use) rfl (hs _) hclos hk hnl ?_
 refine bC (show wpAny _ _ (eval iter c.X.env) _ _ _ from hI) fun v s1 h1=>bC h1 fun itv s2 hh=>z5 hh fun it fp tn J H1 hh=>w6 hh fun e0 I1 Tn t0 hfp hh=>z2 hh fun ds aM hh=>w3 hh fun hz g io=>?_
 obtain ⟨hz,os,hh⟩:=hz
 refine w3 hh fun hol hb hR=>?_
 subst e0
 have hcell':∀ y∈scope.names,y.2≠.cell:=hnc
 refine O6 (wpAny_newFunctionEnv hcell' (by intro y hy; simp at hy) (fun h4 hns hsb=>?_) hk)
 dsimp only at hns hsb ⊢
 generalize hDe:s2.heap.objs.size=Da at *
 have k3:∀ b u,s2.heap.get? b=some u→(s2.heap.push { cls:=.type "list",dict:=none,data:=.seq ([]:List Value).toArray }).get? b=some u:=fun b u e=>N7 _ e
 generalize hH3:s2.heap.push { cls:=.type "list",dict:=none,data:=.seq ([]:List Value).toArray }=h3 at *
 have hCe:h3.objs.size=Da+1:=by rw [← hH3,Qm,hDe]
 have hgD:h3.get? Da=some { cls:=.type "list",dict:=none,data:=.seq ([]:List Value).toArray }:=by rw [← hH3,← hDe]; exact Oj _ rfl
 have vg:H1 Da=none:=by rw [← hDe]; exact I1.hok.fresh (N3 _)
 have I3:Inv c.X aa σ (upd H1 Da (.lst [])) { s2 with heap:=h3,toks:=s2.toks }:=I1.laid (a:=Da) (o:=.lst []) (t':=s2.toks) k3 (by rw [hDe]; exact N3 _) ⟨OO _,[],0,.nil,hgD⟩
 have fpne:∀ b∈fp,b≠Da:=fun b hb z=>by
  obtain ⟨o,e,_⟩:=Tn.obj _ _ t0 b hb
  subst z
  exact absurd (N8 e) (by rw [hDe]; exact PK _)
 have fplt:∀ b∈fp,b<h3.objs.size:=fun b hb=>by
  obtain ⟨o,e,_⟩:=Tn.obj _ _ t0 b hb
  exact N8 (k3 b o e)
 let s3:Shared:={ s2 with heap:=h3,toks:=s2.toks }
 let H2:Hp:=upd H1 Da (.lst [])
 let X':Cx:={ prog:=c.X.prog,w:=c.X.w,K:=c.X.K,mg:=c.X.mg,base:=c.X.base,A:=c.X.A,N:=N',s₀:=s3,H₀:=H2,env:=compEnvC scope cl h3.objs.size c.X.env,outer:=c.X.stack,stack:=c.X.stack,ex:=fp,fn:=fun _=>false,calm:=true,pn:=[],xe:=j5 }
 have S1:=S.cz g
 have S2:bu c σ H2 aM ρ:=S1.cz (bq.gc g.b vg)
 obtain ⟨t,ht⟩:∃ t:Str→Addr,∀ (i:Nat) (y:Str) (p:Addr),N[i]?=some y→σ[i]?=some (some (.ref p))→t y=p:=by
  classical
  refine ⟨fun y=>if h:∃ (i:Nat) (p:Addr),N[i]?=some y∧σ[i]?=some (some (.ref p)) then h.choose_spec.choose else 0,fun i y p e1 e2=>?_⟩
  have h:∃ (i:Nat) (p:Addr),N[i]?=some y∧σ[i]?=some (some (.ref p)):=⟨i,p,e1,e2⟩
  show (if h:_ then _ else _)=p
  rw [dif_pos h]
  obtain ⟨e3,e4⟩:=h.choose_spec.choose_spec
  have hi:h.choose<N.length:=(Oa.mp e3).1
  have e5:h.choose=i:=(List.getElem?_inj hi c.nd).mp (e3.trans e1.symm)
  have e6:=(congrArg (fun z=>σ[z]?) e5).symm.trans e4
  rw [show σ[i]?=some (some (.ref p)) from e2] at e6
  have e4:=e6
  exact (V.ref.inj (PF (PF e4))).symm
 have hfr:=hfr t
 generalize hρ:ρ0 t=ρt at hfr
 obtain ⟨σ0,hσl,hσ0⟩:=hfr.start (σ:=σ) fun i s e hu=>let ⟨v,e2,_⟩:=S2.at_ i s e hu; ⟨v,e2⟩
 have k4:∀ b u,h3.get? b=some u→h4.get? b=some u:=fun b u e=>hsb.extBut b u (OB (N8 e)) (N7 _ e)
 have hsc:X'.env.scope=bJ scope sc:=qS c.esc
 have okX:X'.Ok:={
  mod:=I3.ok.mod
  kind:=hk
  glob:=I3.ok.glob
  blt:=I3.ok.blt
  above:=N3 _
  inj:=fun x y a e1 e2=>I3.ok.inj x y a (zp x a e1).1 (zp y a e2).1
  has:=fun x hx=>by
   have key:(x,Qa)∈scope.names:=by
    have hx':(bJ scope sc).names.lookup x=some .cell∨(bJ scope sc).names.lookup x=some .free:=by
     unfold ON at hx; rw [hsc] at hx; exact hx
    rcases hx' with hx' | hx'
    ·obtain ⟨k0,h1,h2⟩:=jc hx'
     rcases h2 with h2 | ⟨_,h2⟩
     ·subst h2; exact absurd rfl (hnc _ h1)
     ·subst h2; exact h1
    ·obtain ⟨k0,h1,h2⟩:=jc hx'
     rcases h2 with h2 | ⟨h2,_⟩
     ·subst h2; exact h1
     ·cases h2
   obtain ⟨a,ea⟩:=hcells _ key rfl
   exact ⟨a,hcl2 x a key ea⟩
  cab:=fun x a hf=>by cases hf
  hd:=fun _=>I3.ok.hd c.calm
  frames:=I3.ok.frames
  stk:=.inl rfl
  exf:=fun b hb=>⟨OB (fplt b hb),fun x a ea=>(hfp b hb).2.2.2.2.1 x a (zp x a ea).1⟩
  bs:=I3.bs
  bsz:=Od I3.ok.bsz I3.sz
  noex:=fun b o e hb=>by
   rcases (hfp b hb).2.2.2.1 with z | z
   ·exact I3.ok.noex b o e z
   ·exact absurd (O0 (N8 e) (Od I3.ok.bsz z)) (PK _)
  exfs:=fun b hb m=>by
   rcases Og.mp (I3.tE b m) with z | z
   ·exact (hfp b hb).2.1 z
   ·exact (hfp b hb).2.2.1 z
  jx:=I3.stack
  frf:=I3.vh }
 have I4:Inv X' [] σ0 H2 { s2 with heap:=h4,toks:=s2.toks+([]:List (Str×Value)).length }:={
  ok:=okX
  os:=rfl
  bare:=I3.bare
  base:=Un.kept k4
  loc:=⟨_,hns,fun j y v hy hv' _=>by
   have hj:j<ρt.length:=by
    have:=(Oa.mp hv').1
    rw [hσl] at this; exact this
   rcases hσ0 j ρt[j] (Ov hj) with ⟨_,z⟩ | hh
   ·rw [z] at hv'; cases hv'
   ·refine z4 hh fun i y' v' s0 hh=>w8 hh fun h1 h2 h3' h4' hs5 hs6 h5 h6=>?_
    rw [h6] at hv'; cases hv'
    have hy':N'[j]?=some y:=hy
    rw [h1] at hy'; cases hy'
    obtain ⟨m0,hm0,hl⟩:=I3.loc
    have hkc:c.X.env.kindOf y=some .cell:=by unfold ON; rw [c.esc]; exact hfree _ h2 rfl
    obtain ⟨u,r,lk⟩:=hl i y v (by rw [c.eN]; exact h3') h5 (.inr (.inl hkc))
    refine ⟨u,r,?_⟩
    rcases lk with ⟨q1,_⟩ | ⟨_,a,e1,e2⟩
    ·rw [hkc] at q1; cases q1
    ·refine .inr ⟨.inl ?_,a,hcl2 _ a h2 e1,?_⟩
     ·show List.lookup y X'.env.scope.names=_
      rw [hsc]; exact hvf _ h2 rfl
     ·obtain ⟨oc,e3,e4⟩:=e2
      exact ⟨oc,k4 _ _ e3,e4⟩⟩
  cell:=fun x a ea=>by
   obtain ⟨v',oc,e3,e4⟩:=I3.cell x a (zp x a ea).1
   exact ⟨v',oc,k4 _ _ e3,e4⟩
  free:=I3.hok.fresh (N3 _)
  freeC:=fun x a ea=>I3.freeC x a (zp x a ea).1
  pin:=fun q hq'=>by simp at hq'; cases hq'
  hok:=I3.hok.kept k4
  len:=by rw [hσl]; exact hfr.len.symm }
 let c':Ctx P w K mg base k N' (bJ scope sc) true :=
  { X:=X',eP:=c.eP,ew:=c.ew,eK:=c.eK,emg:=c.emg,eb:=c.eb,eN:=rfl,esc:=hsc,calm:=rfl,top:=fun z=>(by cases z),cb:=fun z=>(by cases z),fn:=fun x hx=>.inr (by rw [hsc]; exact hx.resolve_left (fun z=>by cases z)),room:=c.room,nd:=hnd,vis:=hv,
    Hf:=c.Hf,B:=c.B,RX:=fun _ _=>False,exc:=fun _ _ _ _ _ _ _ _ _ _ _ _ h _ _=>h.elim,RM:=fun _ _=>False,mde:=fun _ _ _ _ _ _ _ _ _ _ _ _ h _=>h.elim }
 have hN0:N'.length=ρt.length:=hfr.len
 have S4:bu c' σ0 H2 aM ρt:=by
  refine ⟨S2.bas,hσl,fun j r hj hu=>?_,fun j j' r r' p hne e1 e2 o1 o2 f1 f2=>?_⟩
  ·rcases hσ0 j r hj with ⟨z,_⟩ | hh
   ·exact absurd z hu
   ·refine z4 hh fun i y v s0 hh=>w8 hh fun h1 h2 h3' h4' hs5 hs6 h5 h6=>?_
    obtain ⟨v',e3,q3⟩:=S2.at_ i s0 h4' hs6
    rw [h5] at e3; cases e3
    subst hs5
    exact ⟨v,h6,vW (fun ow=>by
     obtain ⟨p,_,rfl,_⟩:=q3.qO ow
     rw [ht i y p h3' h5]) q3⟩
  ·have u1:r≠.un:=by rintro rfl; cases o1
   have u2:r'≠.un:=by rintro rfl; cases o2
   rcases hσ0 j r e1 with ⟨z,_⟩ | hh
   ·exact u1 z
   rcases hσ0 j' r' e2 with ⟨z,_⟩ | hh'
   ·exact u2 z
   refine z4 hh fun i y v s0 hh=>w8 hh fun h1 h2 h3' h4' hs5 hs6 h5 h6=>z4 hh' fun i' y' v' s0' hh'=>w8 hh' fun h1' h2' h3'' h4'' hs5' hs6' h5' h6'=>?_
   rw [f1] at h6; cases h6
   rw [f2] at h6'; cases h6'
   have hii:i≠i':=fun z=>by
    subst z
    rw [h3'] at h3''; cases h3''
    have a1:j<N'.length:=(Oa.mp h1).1
    exact hne ((List.getElem?_inj a1 hnd).mp (h1.trans h1'.symm))
   subst hs5; subst hs5'
   rw [nL] at o1 o2
   exact S2.sep i i' s0 s0' p hii h4' h4'' o1 o2 h5 h5'
 have howA:∀ (j:Nat) (r:Sl),ρt[j]?=some r→r.owned=true→∃ b,r.adr=some b∧b≠Da:=fun j r hj ho=>by
  rcases hσ0 j r hj with ⟨z,_⟩ | hh
  ·subst z; cases ho
  ·refine z4 hh fun i y v s0 hh=>w8 hh fun h1 h2 h3' h4' hs5 hs6 h5 h6=>?_
   subst hs5
   rw [nL] at ho
   obtain ⟨b,eb⟩:=Et (a:=t y) ho
   refine ⟨b,eb,fun z=>?_⟩
   obtain ⟨v',e3,q3⟩:=S1.at_ i s0 h4' hs6
   obtain ⟨p,o,e4,_,e5,_⟩:=q3.qO ho
   subst e4
   have q4:=vW (a:=t y) (fun _=>by rw [ht i y p h3' e3]) q3
   have:=vX eb q4
   rw [this,z,vg] at e5; cases e5
 have hB0:c.B Da=none:=S1.bas.s.free vg
 have fps:∀ {H':Hp},(∀ b∈fp,H' b=none)→∀ b∈fp,fM X' [] H' b:=fun hn b hb =>
  ⟨hn b hb,OB (fplt b hb),okX.exfs b hb,.inl hb,fun x a ea=>(hfp b hb).2.2.2.2.1 x a (zp x a ea).1,fun p hp=>by cases hp⟩
 have fin:∀ (s':Shared) (σ':L2.St) (H' aj:Hp) (vs:List V),Inv X' [] σ' H' s'→bq H1 aM H' aj→H' Da=some (.lst vs)→aj Da=none→au c.X.K aj (os.filterMap id) vs →
  compPost (model c.X.prog c.X.w) c.X.A j5 use QQ (.ref Da) h3.objs.size (.ok .next) s':=fun s' σ' H' aj vs I' g' hD hfD hr=>by
  obtain ⟨m,hm,_⟩:=I'.loc
  have hCX:h3.objs.size∉c.X.fs:=I3.J7 (N3 _)
  have hCf:fM c.X aa H' h3.objs.size:=by
   refine ⟨I'.free,fun z=>?_,hCX,.inr I3.sz,fun x a ea z=>?_,fun p hp z=>?_⟩
   ·obtain ⟨m0,hm0,_⟩:=I3.loc
    obtain ⟨o,_,_,e,_⟩:=hm0
    exact absurd (N8 e) (by rw [← z]; exact PK _)
   ·obtain ⟨v',oc,e,_⟩:=I3.cell x a ea
    exact absurd (N8 e) (by rw [z]; exact PK _)
   ·exact absurd (N8 (I3.pin p hp).1) (by rw [z]; exact PK _)
  refine kont s' H' aj Da h3.objs.size (.ow (os.filterMap id)) hR ⟨m,hm⟩ hCX hCf ⟨Da,vs,rfl,g.s.free vg,hD,hfD,hr⟩ (g.trans g') fun h5 zq=>?_
  have ub:Un (frs c.X.stack) fp H2 H' s3.heap h5:=by
   have u:=I'.base
   have ne:∀ b o,s3.heap.get? b=some o→b≠h3.objs.size:=fun b o e=>OB (N8 e)
   refine ⟨fun b o e n hf hx=>(zq.2 b (ne b o e)).trans (u.keep b o e n hf hx),fun b o e n hf hx=>?_,u.free,fun b o e hx=>?_,u.tups,u.frzs,u.tbls⟩
   ·obtain ⟨sl,e2⟩:=u.slot b o e n hf hx
    exact ⟨sl,(zq.2 b (ne b o e)).trans e2⟩
   ·obtain ⟨o',e2⟩:=u.there b o e hx
    exact ⟨o',(zq.2 b (ne b o e)).trans e2⟩
  have hokf:jw c.X.prog c.X.w H' h5:=fun b u e=>(I'.hok b u e).stay (fun a o ha e2=>by
   refine (zq.2 a ?_).trans e2
   intro z; subst z
   have hfree':H' h3.objs.size=none:=I'.free
   rcases ha with z | z
   ·subst z; rw [hfree'] at e; cases e
   ·rw [hfree'] at z; cases z) (fun _ z=>z) fun _ _ z=>z
  exact I3.FY (ch:=fp) I'.os ub hokf I'.bare fun b hb=>⟨(hfp b hb).2.2.2.1,(hfp b hb).2.1,(hfp b hb).2.2.2.2.1,(hfp b hb).2.2.2.2.2⟩
 have loop:codeAny (model c.X.prog c.X.w) c.X.A (.compLoop (.ListComp elt [⟨tg,iter,ifs,0⟩] scope pos) 0 (.ref it) (.ref Da) X'.env) (compPost (model c.X.prog c.X.w) c.X.A j5 use QQ (.ref Da) h3.objs.size) { s2 with heap:=h4,toks:=s2.toks+([]:List (Str×Value)).length }:=by
  refine oY (fun n s'=>∃ (i:Nat) (σ':L2.St) (H' aj:Hp) (vs:List V),n=ds.length - i∧i≤ds.length∧Inv X' [] σ' H' s'∧tn i s'.heap∧bu c' σ' H' aj ρt∧bq H1 aM H' aj∧H' Da=some (.lst vs)∧aj Da=none∧au c.X.K aj ((os.take i).filterMap id) vs∧vs.length≤i∧∀ b∈fp,H' b=none) ?_ ds.length
   ⟨0,σ0,H2,aM,[],by simp,OO _,I4,Tn.keep _ _ _ t0 fun b hb o e=>k4 b o (k3 b o e),S4,bq.gc g.b vg,ai,g.b.free vg,by simpa using aA.mpr rfl,N3 _,fun b hb=>by show upd H1 Da _ b=none; rw [ak (fpne b hb)]; exact (hfp b hb).1⟩
  refine fun n s5 hh=>z5 hh fun i σ5 H5 Hf5 vs hh=>w6 hh fun en hi I5 t5 S5 hh=>w6 hh fun g5 hD5 hfD5 hr5 hlv fr5=>?_
  subst en
  by_cases hlt:i<ds.length
  ·have ed:ds[i]?=some ds[i]:=Ov hlt
   have eo:os[i]?=some (os[i]'(by rw [hol]; exact hlt)):=Ov _
   generalize ds[i]=d at ed
   generalize os[i]'(by rw [hol]; exact hlt)=o at eo
   obtain ⟨hgo,hy⟩:=io.go i d H5 Hf5 g5.f g5.b ed
   refine bC (Tn.item X' rfl rfl rfl rfl i [] s5 σ5 H5 j5 I5 (fps fr5) t5 hgo) fun r s6 hh=>hh.elim fun u hh=>w2 hh fun hr h6=>?_
   subst hr
   refine bC h6 fun _ s7 hh=>z2 hh fun x H7 hh=>w5 hh fun I7 rx y7 t7 fr7=>?_
   obtain ⟨Hf7,g7,rx7⟩:=hy x H7 y7
   have I7':=I7.pinned (fps fr7) (Tn.obj _ _ t7)
   have S7:bu c' σ5 H7 Hf7 ρt:=S5.cz g7
   have hasg0:=hb c' rfl t i d o ed eo
   rw [hρ] at hasg0
   have hasg:=hasg0 σ5 H7 Hf7 x (fun σ2 H2'=>∃ cE ρ1,bu c' σ2 H2' cE ρ1∧bq H7 Hf7 H2' cE∧Er ρt ρ1∧mP c' ifs ρ1 (nJ (aF c' elt ρ1 fun e=>o=some e) (o=none))) S7 rx7 (fun σ2 H2' cE ρ1 S' g' hw=>⟨cE,ρ1,S',g',hw⟩) _ s7 u I7' rx
   refine bC (show wpAny _ _ _ _ j5 _ from hasg) fun _ s8 hh=>z2 hh fun σ8 H8 hh=>w2 hh fun I8 hh=>z2 hh fun Hf8 ρ8 hh=>w4 hh fun S8 g8 w8 hC8=>?_
   refine bC (nK (c:=c') rfl ifs S8 hC8 (Q:=fun b H'=>∃ aj,nJ (aF c' elt ρ8 fun e=>o=some e) (o=none) b∧bq H8 Hf8 H' aj) (fun b H' aj hb' g'=>⟨aj,hb',g'⟩) I8) fun b s9 hh=>hh.elim fun H9 hh=>w2 hh fun I9 hh=>hh.elim fun Hf9 hh=>w2 hh fun hb9 g9=>?_
   have g79:=(g7.trans g8).trans g9
   have hD9:H9 Da=some (.lst vs):=g79.s _ _ hD5
   have hfD9:Hf9 Da=none:=g79.n Da hfD5 (by rw [hD5]; simp) (by intro ys; rw [hD5]; simp)
   have keepT:∀ {σ':L2.St} {H':Hp} {s':Shared},Inv X' ([]++jz fp s7.heap) σ' H' s'→tn (i+1) s'.heap∧∀ b∈fp,H' b=none:=fun {σ' H' s'} I' =>
    ⟨Tn.keep _ _ _ t7 fun b hb' ob e=>(I'.pin (b,ob) (OR _ (OR _ (dX hb' e)))).1,fun b hb'=>by
      obtain ⟨ob,e,_⟩:=Tn.obj _ _ t7 b hb'
      exact (I'.pin (b,ob) (OR _ (OR _ (dX hb' e)))).2.1⟩
   have wk:∀ {σ':L2.St} {H' aj:Hp},bu c' σ' H' aj ρ8→bu c' σ' H' aj ρt:=fun S'=>cW.weak S' w8.weak.1 w8.weak.2
   have tk:(os.take (i+1)).filterMap id=(os.take i).filterMap id++o.toList:=by
    rw [T9,eo,List.filterMap_append]
    cases o <;> rfl
   cases b with
   | false =>
    have eo':=hb9.f rfl
    subst eo'
    rw [if_neg Oe]
    obtain ⟨t9,fr9⟩:=keepT I9
    exact ⟨_,Nat.sub_lt_sub_left hlt (QC i),i+1,σ8,H9,Hf9,vs,rfl,hlt,I9.fy,t9,wk (S8.cz g9),g5.trans g79,hD9,hfD9,by rw [tk]; simpa using hr5.mono g79.f,Nat.le_succ_of_le hlv,fr9⟩
   | true =>
    rw [if_pos rfl]
    have hev:=hb9.t rfl σ8 H9 Hf9 (fun v H'=>∃ aj e,o=some e∧Rep c.X.K aj e v∧bq H9 Hf9 H' aj) (S8.cz g9) (fun e v H' aj he r g'=>⟨aj,e,he,r,g'⟩) _ s9 I9
    refine bC (show wpAny _ _ _ _ j5 _ from hev) fun u2 s10 hh=>z2 hh fun v2 H10 hh=>w3 hh fun I10 r10 hh=>z2 hh fun Hf10 e hh=>w3 hh fun eo' re g10=>?_
    subst eo'
    have hD10:H10 Da=some (.lst vs):=g10.s _ _ hD9
    have hfD10:Hf10 Da=none:=g10.n Da hfD9 (by rw [hD9]; simp) (by intro ys; rw [hD9]; simp)
    have app:=ny (X:=X') _ s10 σ8 H10 (.ref Da) [v2] (.ref Da) [u2] (fun _ H'=>H'=upd H10 Da (.lst (vs++[v2]))) I10 rfl (.cons r10 .nil) ⟨Da,vs,v2,rfl,rfl,hD10,O0 (Qj hlv hlt) hz,rfl⟩
    refine bC (show wpAny _ _ _ _ j5 _ from app) fun _ s11 ⟨_,H11,I11,_,e11⟩=>?_
    subst e11
    obtain ⟨t11,fr11⟩:=keepT I11
    have S10:bu c' σ8 H10 Hf10 ρ8:=(S8.cz g9).cz g10
    have gA:bq H1 aM (upd H10 Da (.lst (vs++[v2]))) Hf10:=oZ ((g5.trans g79).trans g10) vg hfD10
    refine ⟨_,Nat.sub_lt_sub_left hlt (QC i),i+1,σ8,_,Hf10,vs++[v2],rfl,hlt,I11.fy,t11,?_,gA,ai,hfD10,?_,by rw [OH]; exact Sx hlv,fr11⟩
    ·refine (wk S10).apart hB0 hfD10 (fun ⟨_,z⟩=>by rw [hD10] at z; cases z) fun j r hj ho=>fun z=>?_
     obtain ⟨b,eb,nb⟩:=howA j r hj ho
     obtain ⟨v',e3,q3⟩:=(wk S10).at_ j r hj (by rintro rfl; cases ho)
     rw [z] at e3; cases e3
     exact nb (vX eb q3).symm
    ·rw [tk]
     exact (hr5.mono (g79.f.trans g10.f)).append (by simpa using au.one re)
  ·have e:i=ds.length:=Nat.le_antisymm hi (Nat.le_of_not_lt hlt)
   subst e
   refine bC (Tn.done X' rfl rfl rfl rfl ds.length [] s5 σ5 H5 j5 I5 (fps fr5) t5 (io.stop _ H5 Hf5 g5.f g5.b (N3 _))) fun r s6 ⟨hr,I6⟩=>?_
   subst hr
   refine fin s6 σ5 H5 Hf5 vs I6 g5 hD5 hfD5 ?_
   rw [QY (by rw [hol]; exact N3 _)] at hr5
   exact hr5
 exact codeAny_compStart_list loop (Tn.self _ 0 _ _ _ (Tn.keep _ _ _ t0 fun b hb o e=>k4 b o (k3 b o e)) loop)
theorem c7 {elt tg iter:Expr} {ifs:List Expr} {scope:Scope} {N':List Str} {ρ0:(Str→Addr)→List Sl} {R:Sl→Prop} (hq:c.X.xe=j5) (hfr:∀ t,zw t scope.names N ρ N' (ρ0 t))
 (h:Gg c tg iter ρ fun ds=>Sd (ds.length≤sizeLine) (∃ os:List (Option D),os.length=ds.length ∧
   (∀ c':Ctx P w K mg base k N' (bJ scope sc) true,c'.X.xe=j5→∀ (t:Str→Addr) (i:Nat) (d:D) (o:Option D),ds[i]?=some d→os[i]?=some o→vV c' tg ifs elt (ρ0 t) d o)∧R (.ow (os.filterMap id))))
 (hk:scope.kind=.function:=by walk_at "u") (hnc:∀ x∈scope.names,x.2≠.cell:=by decide +kernel) (hnl:∀ x∈scope.names,x.2=.local→scope.names.lookup x.1=some .local:=by decide +kernel)
 (hfree:∀ x∈scope.names,x.2=.free→sc.names.lookup x.1=some .cell:=by decide +kernel) (hnd:N'.Nodup:=by decide +kernel) (hv:∀ x∈N',Loc (bJ scope sc) x:=by unfold L2.Loc; decide +kernel)
 (hvf:∀ x∈scope.names,x.2=.free→(bJ scope sc).names.lookup x.1=some .cell:=by decide +kernel)
 (hs:∀ env v,foldedSetIterable iter env v=pure v:=by intro _ _; walk_at "u"):dw c (.ListComp elt [⟨tg,iter,ifs,0⟩] scope pos) ρ R:=fun σ H Hf Q S q aa s I=>by
 rw [hq]
 rw [show (eval (.ListComp elt [⟨tg,iter,ifs,0⟩] scope pos) c.X.env)=comprehension (.ListComp elt [⟨tg,iter,ifs,0⟩] scope pos) scope c.X.env (firstIterPos [⟨tg,iter,ifs,0⟩] pos) (newList []) (firstAsync [⟨tg,iter,ifs,0⟩]) (firstIter [⟨tg,iter,ifs,0⟩] c.X.env) from rfl]
 exact vY hq hfr h hk hnc hnl hfree hnd hv hvf hs S I fun s' H' aj a C r hr ⟨m,hm⟩ _ _ hrep g hJ=>⟨m,hm,fun h5 zq=>⟨.ref a,H',hJ h5 zq,rfl,q r _ H' aj hr hrep g⟩⟩
theorem o4:Pj a h h:=⟨rfl,fun _ _=>rfl⟩
theorem Eu (I:Inv X aa σ H s) (hC:fM X aa H C) (hsb:Pj C s.heap h5):Inv X aa σ H { s with heap:=h5 }:=by
 refine I.FY (ch:=[C]) rfl ⟨fun b o e _ _ hx=>?_,fun b o e _ _ hx=>⟨o.slots,?_⟩,fun b o e n _=>n,fun b o e hx=>⟨o,?_⟩,fun b xs e=>e,fun b o u e=>e,fun b ps e=>⟨#[],by simpa using e⟩⟩ (fun b u e=>(I.hok b u e).stay (fun a o ha e2=>?_) (fun _ z=>z) fun _ _ z=>z) I.bare fun b hb=>?_
 ·exact (hsb.2 b (fun z=>hx (by rw [z]; exact N9))).trans e
 ·exact (hsb.2 b (fun z=>hx (by rw [z]; exact N9))).trans e
 ·exact (hsb.2 b (fun z=>hx (by rw [z]; exact N9))).trans e
 ·refine (hsb.2 a ?_).trans e2
  intro z; subst z
  rcases ha with z | z
  ·subst z; rw [hC.1] at e; cases e
  ·rw [hC.1] at z; cases z
 ·have:b=C:=by simpa using hb
  subst this
  exact ⟨hC.2.2.2.1,hC.2.1,hC.2.2.2.2.1,hC.2.2.2.2.2⟩
theorem Ig {elt tg iter:Expr} {ifs:List Expr} {scope:Scope} {N':List Str} {ρ0:(Str→Addr)→List Sl} {nx:List Sl→Prop} {p:Pt} {x:Str} {pos2 posA:Pos} {i:Nat} (hN:At N i x) (hq:c.X.xe=j5) (hfr:∀ t,zw t scope.names N ρ N' (ρ0 t))
 (h:Gg c tg iter ρ fun ds=>Sd (ds.length≤sizeLine) (∃ os:List (Option D),os.length=ds.length ∧
   (∀ c':Ctx P w K mg base k N' (bJ scope sc) true,c'.X.xe=j5→∀ (t:Str→Addr) (i:Nat) (d:D) (o:Option D),ds[i]?=some d→os[i]?=some o→vV c' tg ifs elt (ρ0 t) d o)∧Nx ρ i nx (.ow (os.filterMap id))))
 (hsw:(pos2.line == pos.line && !scope.names.any fun (n,k)=>n == x && (k == NameKind.local || k == NameKind.cell))=true:=by decide +kernel) (hl:sc.names.lookup x=some .local:=by walk_at "u")
 (hk:scope.kind=.function:=by walk_at "u") (hnc:∀ x∈scope.names,x.2≠.cell:=by decide +kernel) (hnl:∀ x∈scope.names,x.2=.local→scope.names.lookup x.1=some .local:=by decide +kernel)
 (hfree:∀ x∈scope.names,x.2=.free→sc.names.lookup x.1=some .cell:=by decide +kernel) (hnd:N'.Nodup:=by decide +kernel) (hv:∀ x∈N',Loc (bJ scope sc) x:=by unfold L2.Loc; decide +kernel)
 (hvf:∀ x∈scope.names,x.2=.free→(bJ scope sc).names.lookup x.1=some .cell:=by decide +kernel)
 (hs:∀ env v,foldedSetIterable iter env v=pure v:=by intro _ _; walk_at "u"):fu c (.Assign [.Name x pos2] (.ListComp elt [⟨tg,iter,ifs,0⟩] scope pos) posA) ρ nx p:=fun σ H Hf D S o aa s I=>by
 have hsw':swapsWith (.ListComp elt [⟨tg,iter,ifs,0⟩] scope pos) (some (.Name x pos2)) posA.line c.X.env=pure true:=by
  have e1:c.X.env.blockKind=.function:=by unfold Env.blockKind; rw [show c.X.env.scope.kind=.function from I.ok.kind]; rfl
  have e2:c.X.env.kindOf x=some .local:=by unfold ON; rw [c.esc]; exact hl
  show pure (c.X.env.blockKind == ScopeKind.function && c.X.env.kindOf x == some NameKind.local && pos2.line == pos.line && !scope.names.any fun (n,k)=>n == x && (k == NameKind.local || k == NameKind.cell))=pure true
  rw [e1,e2]; exact congrArg pure hsw
 rw [hq,exec_Assign_Name_used x pos2 _ posA hsw']
 refine NX (SO ?_)
 refine NX ?_
 rw [show (evalThenUse (.ListComp elt [⟨tg,iter,ifs,0⟩] scope pos) c.X.env (assign (.Name x pos2) c.X.env))=(do let _ ← comprehension (.ListComp elt [⟨tg,iter,ifs,0⟩] scope pos) scope c.X.env (firstIterPos [⟨tg,iter,ifs,0⟩] pos) (newList []) (firstAsync [⟨tg,iter,ifs,0⟩]) (firstIter [⟨tg,iter,ifs,0⟩] c.X.env) (some (assign (.Name x pos2) c.X.env)); pure ()) from rfl]
 refine NX (vY hq hfr h hk hnc hnl hfree hnd hv hvf hs S I fun s' H' aj a C r hr ⟨m,hm⟩ hCX hCf hrep g hJ=>?_)
 have J:=hJ s'.heap o4
 obtain ⟨oC,es,ep,e1,e2,e3,e4⟩:=hm
 have fps:∀ b∈[C],fM c.X aa H' b:=fun b hb=>by rw [Ol.mp hb]; exact hCf
 have hob:∀ b∈[C],∃ o,s'.heap.get? b=some o∧∀ v:Option Value,o.data≠.cell v:=fun b hb=>by
  rw [Ol.mp hb]; exact ⟨oC,e1,fun v z=>by rw [e2] at z; cases z⟩
 have J2:=J.pinned fps hob
 have hmem:(C,oC)∈jz [C] s'.heap:=dX N9 e1
 obtain ⟨ρ',hset,hx⟩:=hr
 have st:=vH (oE (X:=c.X) (i:=i) (pos:=pos2) (by rw [c.eN]; exact c.nd) (by rw [c.eN]; exact hN.get) (by rw [c.esc]; exact c.vis x hN.mem) (c.fn x (.inr hl))) (v:=.ref a) (σ:=σ) (H:=H') (Q:=fun σ' H''=>D.nx σ' H'') (o.nx _ H' aj _ (hset.eq ▸ S.set g hrep) hx) _ s' (.ref a) J2 rfl
 rw [hq] at st
 refine bC st fun _ s'' ⟨σ',H'',I'',dn⟩=>?_
 have pC:=I''.pin (C,oC) (OR _ (OR _ hmem))
 refine ⟨m,⟨oC,es,ep,pC.1,e2,e3,e4⟩,fun h' hsb=>?_⟩
 have I3:Inv c.X aa σ' H'' s'':=I''.fy
 have I4:=Eu I3 (C:=C) ⟨pC.2.1,hCf.2⟩ hsb
 exact N1 (N1 ⟨_,_,I4,dn⟩)
end
mutual
def D.nl:D→Prop
 | .lst _=>False
 | .fdK _ _=>False
 | .fdT _ _=>False
 | .tup ds=>D.qg ds
 | _=>True
def D.qg:List D→Prop
 | []=>True
 | d::ds=>d.nl∧D.qg ds
end
theorem vZ:∀ {ds:List D},D.qg ds↔∀ d∈ds,d.nl
 | []=>by simp [D.qg]
 | d::ds=>by simp [D.qg,vZ (ds:=ds)]
theorem dR {α:Type} {f:α→D} {l:List α} (h:∀ x∈l,(f x).nl):D.qg (l.map f):=vZ.mpr fun d hd=>by
 obtain ⟨x,hx,rfl⟩:=Oo.mp hd
 exact h x hx
theorem lB:(D.int i).nl:=by simp [D.nl]
theorem Ew (l:List Int):D.qg (l.map D.int):=dR fun x _=>lB
theorem tZ (h:D.qg ds):(D.tup ds).nl:=by simpa [D.nl] using h
noncomputable def HO.mt:HO→Prop | .lst _=>True | .dK _=>True | .dT _=>True | _=>False
theorem xZ {K:NZ} (hp:Hf p=some o) (hm:HO.mt o) (h:cV K Hf a xs):cV K (del Hf p) a xs:=by
 rcases h with (h | ⟨o',h⟩) | h
 ·exact .inl (.inl (by rw [ck (by rintro rfl; rw [hp] at h; cases h; exact hm)]; exact h))
 ·exact .inl (.inr ⟨o',by rw [ck (by rintro rfl; rw [hp] at h; cases h; exact hm)]; exact h⟩)
 ·exact .inr h
mutual
theorem t6 {K:NZ} {Hf:Hp} {p:Addr} {o:HO} (hp:Hf p=some o) (hm:HO.mt o):∀ (d:D) {v:V},d.nl→Rep K Hf d v→Rep K (del Hf p) d v
 | .non,_,_,h=>by simpa [Rep] using h
 | .bl _,_,_,h=>by simpa [Rep] using h
 | .int _,_,_,h=>by simpa [Rep] using h
 | .str _,_,_,h=>by simpa [Rep] using h
 | .adr _,_,_,h=>by simpa [Rep] using h
 | .tup ds,v,f,h=>by
  simp only [Rep] at h ⊢
  obtain ⟨a,xs,e,h1,h2⟩:=h
  exact ⟨a,xs,e,xZ hp hm h1,o5 hp hm ds (by simpa [D.nl] using f) h2⟩
 | .lst _,_,f,_=>by simp [D.nl] at f
 | .fdK _ _,_,f,_=>by simp [D.nl] at f
 | .fdT _ _,_,f,_=>by simp [D.nl] at f
 | .exc C,_,_,h=>by
  simp only [Rep] at h ⊢
  obtain ⟨a,e,h⟩:=h
  exact ⟨a,e,by rw [ck (by rintro rfl; rw [hp] at h; cases h; exact hm)]; exact h⟩
theorem o5 {K:NZ} {Hf:Hp} {p:Addr} {o:HO} (hp:Hf p=some o) (hm:HO.mt o):∀ (ds:List D) {xs:List V},D.qg ds→au K Hf ds xs→au K (del Hf p) ds xs
 | [],_,_,h=>by simpa [au] using h
 | d::ds,xs,f,h=>by
  simp only [au] at h ⊢
  simp only [D.qg] at f
  obtain ⟨x,r,e,h1,h2⟩:=h
  exact ⟨x,r,e,t6 hp hm d f.1 h1,o5 hp hm ds f.2 h2⟩
end
noncomputable def Sl.nl:Sl→Prop
 | .va d=>d.nl
 | .ow ds=>D.qg ds
 | _=>False
theorem aX.Nb {K:NZ} {H H' aj:Hp} (hp:aj p=some oz) (hm:HO.mt oz) (h0:H p=some o) (f:r.nl) (h:aX K (fun p=>H p=none) H' aj r v):aX K (fun p=>H p=none) H' (del aj p) r v:=by
 cases r with
 | va d=>exact t6 hp hm d f h
 | ow ds =>
  obtain ⟨q,xs,rfl,fq,h1,h2,h3⟩:=h
  refine ⟨q,xs,rfl,fq,h1,?_,o5 hp hm ds f h3⟩
  rw [ck (by rintro rfl; rw [h0] at fq; cases fq)]; exact h2
 | _=>exact f.elim
section
variable {P:Program} {w:World} {K:NZ} {mg:Str→Option Value} {base:Heap} {k:Nat} {N:List Str} {sc:Scope} {bk:Bool} {c:Ctx P w K mg base k N sc bk} {ρ ρ':List Sl} {pos ap cp px tp:Pos} {a b e f:Expr} {es:List Expr} {R:D→Prop} {T:Bool→Prop} {nx:List Sl→Prop} {p:Pt} {x:Str} {i:Nat} {r:Sl} {ds:List D}
noncomputable def Sl.mQ:Sl→Option D
 | .ow ds=>some (.lst ds) | .aw _ ds=>some (.lst ds)
 | _=>none
theorem lC (h:r.mQ=some d):r.owned=true:=by cases r <;> first | rfl | cases h
theorem jd {κ:Type} {Hf:Hp} {kvs:List (κ×D)} {xs:List (κ×V)} (h:mD K Hf kvs xs):xs.map (·.1)=kvs.map (·.1)∧au K Hf (kvs.map (·.2)) (xs.map (·.2)):=by
 unfold mD at h
 induction h with
 | nil=>exact ⟨rfl,aA.mpr rfl⟩
 | cons h t ih=>exact ⟨by rw [N5,N5,ih.1,h.1],.cons h.2 ih.2⟩
theorem fE (h:kZ K Hf kvs xs):xs.map (·.1)=kvs.map (·.1)∧(∀ y∈xs,cV K Hf y.2.1 (y.1.map kV))∧au K Hf (kvs.map (·.2)) (xs.map (·.2.2)):=by
 refine ⟨?_,h.AQ,?_⟩
 ·unfold kZ at h
  induction h with
  | nil=>rfl
  | cons h t ih=>rw [N5,N5,ih,h.1]
 ·unfold kZ at h
  induction h with
  | nil=>exact aA.mpr rfl
  | cons h t ih=>exact .cons h.2.2 ih
theorem aX.mQ (h:r.mQ=some d) (q:aX K fr H Hf r v):∃ p o,v=.ref p∧fr p∧H p=some o∧Hf p=none∧HO.mt o∧Rep K (upd Hf p o) d v:=by
 have sf:∀ {p:Addr} {o:HO},Hf p=none→aD Hf (upd Hf p o):=fun hp b u e=>by rw [ak (aB e hp)]; exact e
 cases r with
 | ow ds=>cases h; obtain ⟨p,xs,rfl,f,h1,h2,h3⟩:=q; exact ⟨p,_,rfl,f,h1,h2,trivial,aV.mpr ⟨p,xs,rfl,.inl (.inl ai),h3.mono (sf h2)⟩⟩
 | aw a ds=>cases h; obtain ⟨p,xs,rfl,f,h1,h2,h3⟩:=q; exact ⟨p,_,rfl,f.1,h1,h2,trivial,aV.mpr ⟨p,xs,rfl,.inl (.inl ai),h3.mono (sf h2)⟩⟩
 | _=>cases h
theorem cW.kG (S:cW K H₀ dQ σ H Hf ρ) (h:ρ[i]?=some r) (hr:r.mQ=some d) :
 ∃ q o,H q=some o∧Hf q=none∧HO.mt o∧cW K H₀ dQ σ H (L2.upd Hf q o) (ρ.set i (.va d)):=by
 obtain ⟨q,ev,rq⟩:=S.own h (lC hr)
 obtain ⟨_,o,e0,fq,hq,tD,hm,rd⟩:=rq.mQ hr
 cases e0
 have hi:i<ρ.length:=(Oa.mp h).1
 have hown:=lC hr
 have sf:aD Hf (L2.upd Hf q o):=fun b u e=>by rw [L2.ak (aB e tD)]; exact e
 have sb:aD (L2.upd Hf q o) H:=fun b u e=>by
  by_cases z:b=q
  ·subst z; rw [L2.ai] at e; rw [hq]; exact e
  ·rw [L2.ak z] at e; exact S.sb b u e
 refine ⟨q,o,hq,tD,hm,⟨S.bas.s,S.bas.f.trans sf,sb,fun b h1 h2 h3=>?_⟩,by simp [S.len],fun j r' hj hu=>?_,fun j j' r1 r2 q' hne h1 h2 o1 o2=>?_⟩
 ·have e:=S.bas.n b h1 h2 h3
  by_cases z:b=q
  ·subst z; exact absurd fq h2
  ·rw [L2.ak z]; exact e
 ·by_cases z:j=i
  ·subst z
   rw [Pa hi] at hj
   cases hj
   exact ⟨_,ev,rd⟩
  ·rw [Pb (Ou z)] at hj
   obtain ⟨v,e1,e2⟩:=S.at_ j r' hj hu
   refine ⟨v,e1,?_⟩
   have key:r'.owned=true→v≠.ref q:=fun ho z=>by
    subst z
    exact S.sep i j _ _ q (Ou ‹_›) h hj hown ho ev e1
   exact aX.mv (B:=fun z=>z=q) sf (fun z u hz e1 _ e3=>⟨e1,by rw [L2.ak hz]; exact e3⟩) (by rintro _ z rfl ⟨ys,e9⟩; rw [hq] at e9; cases e9; exact hm) (fun ho z e=>by rintro rfl; exact key ho e) e2
 ·have out:∀ {j:Nat} {r:Sl},(ρ.set i (.va d))[j]?=some r→r.owned=true→ρ[j]?=some r:=fun {j r} hj ho=>by
   by_cases z:j=i
   ·subst z; rw [Pa hi] at hj; cases hj; cases ho
   ·rw [Pb (Ou z)] at hj; exact hj
  exact S.sep j j' r1 r2 q' hne (out h1 o1) (out h2 o2) o1 o2
theorem qT (sb:aD Hf H) (hq:H q=some o) (tD:Hf q=none) (g:bq H (upd Hf q o) H' aj):bq H Hf H' (del aj q) :=
 ⟨g.s,fun b o e=>by rw [ck (aB e tD)]; exact g.f b o (by rw [ak (aB e tD)]; exact e),fun b o e=>by obtain ⟨_,e2⟩:=ja e; exact g.b b o e2,fun b h1 h2 h3=>by
   by_cases z:b=q
   ·subst z; exact i9
   ·rw [ck z]; exact g.n b (by rw [ak z]; exact h1) h2 h3⟩
section
theorem K8 (i) (hi:At ρ i r) (hr:r.mQ=some d0) (hs:SSet ρ i (.va d0) ρ') (h:aF c e ρ' fun d=>Sd d.nl (R d)):aF c e ρ R:=fun σ H Hf Q S q=>by
 obtain ⟨a,o,ha,zu,hm,S1⟩:=S.kG hi.get hr
 rw [← hs.eq] at S1
 exact h σ H _ Q S1 fun d v H' aj ⟨fl,rd⟩ rv g=>q d v H' _ rd (t6 (g.f a _ ai) hm d fl rv) (qT S.sb ha zu g)
theorem v5 (i) {R:Sl→Prop} (hi:At ρ i r) (hr:r.mQ=some d0) (hs:SSet ρ i (.va d0) ρ') (h:dw c e ρ' fun d=>Sd d.nl (R d)):dw c e ρ R:=fun σ H Hf Q S q=>by
 obtain ⟨a,o,ha,zu,hm,S1⟩:=S.kG hi.get hr
 rw [← hs.eq] at S1
 exact h σ H _ Q S1 fun d v H' aj ⟨fl,rd⟩ rv g=>q d v H' _ rd (rv.Nb (g.f a _ ai) hm ha fl) (qT S.sb ha zu g)
theorem jG {st:List Stmt} (i) (hi:At ρ i r) (hr:r.mQ=some d0) (hs:SSet ρ i (.va d0) ρ') (h:aY c st ρ' nx p):aY c st ρ nx p:=fun σ H Hf D S o=>by
 obtain ⟨a,ob,ha,zu,hm,S1⟩:=S.kG hi.get hr
 rw [← hs.eq] at S1
 exact h σ H _ D S1 o
theorem K9 {st:Stmt} (i) (hi:At ρ i r) (hr:r.mQ=some d0) (hs:SSet ρ i (.va d0) ρ') (h:fu c st ρ' nx p):fu c st ρ nx p:=fun σ H Hf D S o=>by
 obtain ⟨a,ob,ha,zu,hm,S1⟩:=S.kG hi.get hr
 rw [← hs.eq] at S1
 exact h σ H _ D S1 o
end
theorem La (hN:At N i x) (hi:At ρ i r) (hr:r.mQ=some (.lst ds)) (hs:SSet ρ i (.va (.lst ds)) ρ') (h:aF c b ρ' fun y=>Sd y.nl (∃ j d,y=.int j∧jB ds j=some d∧Sd d.nl (R d))) (hx:At ρ' i (.va (.lst ds)))
 (hd:(x == ("__debug__":Str))=false:=by decide) (hcd:(x == ("__classdict__":Str))=false:=by decide) (hp:iV b:=by with_unfolding_all exact fun _ _=>rfl):aF c (.Subscript (.Name x p2) b pos) ρ R :=
 K8 i hi hr hs (K4 (vI hN hx (h.imp fun y ⟨_,j,d,e1,e2,e3⟩=>⟨ds,j,d,rfl,e1,e2,e3⟩) hd hcd) hp)
end
end EV
set_option maxHeartbeats 0
namespace EV
open PySem PySem.Spec PyProof.Rows L2
section
variable {P:Program} {w:World} {K:NZ} {mg:Str→Option Value} {base h:Heap}
noncomputable def aE (K:NZ) (mg:Str→Option Value) (x:Str) (st:Stmt):Prop:=∃ f fd,mg x=some (.ref f)∧fL K x x st f fd
theorem bg {st:Stmt} {kV doc pm cdv ct:Value} (KX:K.In h) (G:h.Ns mainGlobals mg) (a:O1 K mainGlobals x=some (some (.ref f)))
 (l:K.lookup f=some ⟨oc,od,.func (P4 x x (eO st) (az st) (ah st) .none kV doc pm an cdv ct),osl⟩) (c:SM K cdv x=true) (k:PX K (.ref f)=true):aE K mg x st :=
 ⟨f,_,PySem.W.mg_of KX G a,HF l c k⟩
theorem Ih (e:(t == Pg T)=false) (m:PySem.W.kitMeta T=true) (s:PySem.W.subIn K t (.type T)=some b):Pu K t (.type T)=some b:=by
 unfold Pu PySem.W.kitCls
 simp [e,m,s]
theorem lD (e:(t == t)=true):Pu K t t=some true:=by
 unfold Pu
 simp [e]
structure Txt (K:NZ) (mg:Str→Option Value):Prop where
 abs:mg "abs"=none
 len:mg "len"=none
 isin:mg "isinstance"=none
 range:mg "range"=none
 int:mg "int"=none
 bool:mg "bool"=none
 tuple:mg "tuple"=none
 list:mg "list"=none
 max:mg "max"=none
 min:mg "min"=none
 sum:mg "sum"=none
 sorted:mg "sorted"=none
 zip:mg "zip"=none
 enum:mg "enumerate"=none
 all:mg "all"=none
 any:mg "any"=none
 dict:mg "dict"=none
 ib:Pu K (.type "int") (.type "bool")=some false
theorem Txt.Lb (T:Txt K mg):iZ mg "int" (.type "int"):=.inr ⟨_,rfl,T.int,by decide +kernel,by decide +kernel⟩
theorem Txt.Ii (T:Txt K mg):iZ mg "bool" (.type "bool"):=.inr ⟨_,rfl,T.bool,by decide +kernel,by decide +kernel⟩
theorem Txt.Ey (T:Txt K mg):iZ mg "tuple" (.type "tuple"):=.inr ⟨_,rfl,T.tuple,by decide +kernel,by decide +kernel⟩
theorem Txt.Ij (T:Txt K mg):iZ mg "list" (.type "list"):=.inr ⟨_,rfl,T.list,by decide +kernel,by decide +kernel⟩
theorem Ik:Pu K (.type "int") (.type "int")=some true:=lD (by decide)
theorem Il:Pu K (.type "tuple") (.type "tuple")=some true:=lD (by decide)
theorem Im:Pu K (.type "list") (.type "list")=some true:=lD (by decide)
theorem Io (KX:K.In h) (G:h.Ns mainGlobals mg)
 (z1:O1 K mainGlobals "abs"=some none)
 (z2:O1 K mainGlobals "len"=some none)
 (z3:O1 K mainGlobals "isinstance"=some none)
 (z4:O1 K mainGlobals "range"=some none)
 (z5:O1 K mainGlobals "int"=some none)
 (z6:O1 K mainGlobals "bool"=some none)
 (z7:O1 K mainGlobals "tuple"=some none)
 (z8:O1 K mainGlobals "list"=some none)
 (z9:O1 K mainGlobals "max"=some none)
 (z10:O1 K mainGlobals "min"=some none)
 (z11:O1 K mainGlobals "sum"=some none)
 (z12:O1 K mainGlobals "sorted"=some none)
 (z13:O1 K mainGlobals "zip"=some none)
 (z14:O1 K mainGlobals "enumerate"=some none)
 (z15:O1 K mainGlobals "all"=some none)
 (z16:O1 K mainGlobals "any"=some none)
 (z17:O1 K mainGlobals "dict"=some none)
 (sib:PySem.W.subIn K (.type "int") (.type "bool")=some false):Txt K mg :=
 ⟨O5 KX G z1,O5 KX G z2,O5 KX G z3,O5 KX G z4,O5 KX G z5,O5 KX G z6,O5 KX G z7,O5 KX G z8,
  O5 KX G z9,O5 KX G z10,O5 KX G z11,O5 KX G z12,O5 KX G z13,O5 KX G z14,O5 KX G z15,O5 KX G z16,O5 KX G z17,
  Ih (by decide) (by decide) sib⟩
theorem bw {st:Stmt} (m:mg x=some (.ref f)) (Fu:fL K x x st f fd) (ok:bx P w K mg base (dP P w) k f fd ps (fO K F))
 (hb:∀ (kV doc pm:Value) (an:Option Addr) (cdv ct:Value) (us:List Value),us.length=ps.length→bindArgs (P4 x x (eO st) (az st) (ah st) .none kV doc pm an cdv ct) ⟨us,[]⟩=pure (ps.zip us)):cG P w K mg base k x F :=
 ⟨f,fd,ps,m,Fu.kp,Fu.binds hb,ok⟩
theorem jH {α:Type} (us:List α) (h:us.length=1):∃ a,us=[a]:=by match us,h with | [a],_=>exact ⟨a,rfl⟩
theorem mR {α:Type} (us:List α) (h:us.length=2):∃ a b,us=[a,b]:=by match us,h with | [a,b],_=>exact ⟨a,b,rfl⟩
theorem x6 {α:Type} (us:List α) (h:us.length=3):∃ a b c,us=[a,b,c]:=by match us,h with | [a,b,c],_=>exact ⟨a,b,c,rfl⟩
noncomputable def AR:Fn:=fun ds r=>∃ ns:List Int,ns.length≤63∧ds=[.lst (ns.map D.int)]∧r=.ok (.va (.bl true))
theorem Ip (H) (a) (ns:List Int) (hl:ns.length≤63) (hS:gh K H a (ns.map V.int)):fO K AR [.ref a] H (fun v _=>v=.bl true) fun _ _ _=>False :=
 ⟨H,[.lst (ns.map D.int)],.ok (.va (.bl true)),.refl H,.cons (aV.mpr ⟨a,_,rfl,hS,jD ns⟩) (aA.mpr rfl),⟨ns,hl,rfl,rfl⟩,fun v H' aj _ r=>(eY (K:=K) (H:=aj)).mp r⟩
theorem walk {l:PySem.W.OpenLaw} {K:Params→NZ} (hk:k≤20) (hn:l.most=some 63) (hdf:d.params.defaults=[])
 (hY:∀ (w:World) (h:Heap),YP w h→(K w.params).In h)
 (F:∀ (w:World) (mg:Str→Option Value) (fa:Addr) (h:Heap),(K w.params).In h→h.Ns mainGlobals mg→mg d.name=some (.ref fa) →
   ∃ fd:FuncData,(∀ (s:Shared) (u:Value),BindsTo s fd ⟨[u],[]⟩ [("_law_script",u)])∧∀ base:Heap,(K w.params).In base→base.Ns mainGlobals mg→bx l.prog w (K w.params) mg base (dP l.prog w) 20 fa fd ["_law_script"] (fO (K w.params) AR)) :
 PySem.W.WalkO q loose XP YP l.row.toRowW d [] (fun f vs=>PySem.call f vs) :=
 L2.DX (n:=63) (k:=20) (x:="_law_script") (CX:=fun w=>dP l.prog w) (sp:=fun w=>fO (K w.params) AR) hn (by decide) hdf ⟨rfl,by decide,by decide⟩ hY F (fun _ H a ns hl _ hS=>Ip H a ns hl hS) fun _ _ _ _ _ ⟨_,_,_,_,_,q⟩=>q
end
section
end
theorem qU (f:α→β) (xs) (lo hi):EV.cutD (xs.map f) lo hi=(EV.cutD xs lo hi).map f:=by
 unfold EV.cutD; simp only [N6,List.map_take,List.map_drop]
theorem eS (h0:0≤j) (h1:j<xs.length):jB xs j=xs[j.toNat]?:=by
 unfold jB JV
 rw [if_pos h0,if_pos h1]; rfl
theorem v7 {j:Int} (h0:j<0) (h1:0≤j+xs.length):jB xs j=xs[(j+xs.length).toNat]?:=by
 unfold jB JV
 rw [if_neg (by lia)]
 rw [if_pos (by lia)]; rfl
theorem qV (h:a.natAbs<2 ^ 63):Ph a≤64:=by
 unfold Ph
 by_cases z:a=0
 ·subst z; decide
 ·have e:(a == 0)=false:=by simpa using z
  rw [e,if_neg Oe]
  have:=(Nat.log2_lt (n:=a.natAbs) (k:=63) (by lia)).mpr h
  lia
theorem qW (h:a.natAbs<2 ^ 63):EV.MulOk a b:=IntMulOk.of_left (qV h)
theorem gS (h:(qL 0 n)[i]?=some d):i<n∧d=.int (i:Int):=by
 unfold qL at h
 simp only [Oc,Oh] at h
 obtain ⟨j,h1,rfl⟩:=h
 obtain ⟨hj,rfl⟩:=Oa.mp h1
 simp at hj
 exact ⟨hj,by simp⟩
section
variable {K:NZ}
end
end EV
namespace EV
open PySem PySem.Spec PySem.Calls PyProof.Rows L2
noncomputable def HO.dct:HO→Prop | .dK _=>True | .dT _=>True | _=>False
theorem o6 (I:Inv X aa σ H s) (hu:H a=some u) (nu:∀ xs,u≠.tup xs) (nw:∀ y,u≠.own y) (nt:∀ ps,u≠.tbl ps) (nf:∀ o z,X.H₀ a≠some (.frz o z))
 (hv:bh X.prog X.w H s.heap a v):Inv X aa σ (upd H a v) s:=by
 have hne:∀ {b:Addr} {z:HO},H b=some z→z≠u→b≠a:=fun e d q=>by subst q; rw [hu] at e; cases e; exact d rfl
 have hno:∀ {b:Addr},H b=none→b≠a:=fun e q=>by subst q; rw [hu] at e; cases e
 have hst:∀ {b:Addr} {z:HO},bh X.prog X.w H s.heap b z→bh X.prog X.w (upd H a v) s.heap b z:=fun q =>
  q.stay (fun _ _ _ e=>e) (fun b e=>by rw [ak (hne e (Ou (nw _)))]; exact e) fun b xs e=>by rw [ak (hne e (Ou (nu xs)))]; exact e
 have fr:=I.free
 exact {
  ok:=I.ok,os:=I.os,bare:=I.bare,loc:=I.loc,cell:=I.cell,len:=I.len
  base:=⟨I.base.keep,I.base.slot,fun b o h1 h2 h3=>by have e:=I.base.free b o h1 h2 h3; rw [ak (hno e)]; exact e,I.base.there,
   fun b xs e=>by have q:=I.base.tups b xs e; rw [ak (hne q (Ou (nu xs)))]; exact q,
   fun b o z e=>by
    have q:=I.base.frzs b o z e
    by_cases w:b=a
    ·subst w; exact absurd e (nf o z)
    ·rw [ak w]; exact q,
   fun b ps e=>by obtain ⟨m,q⟩:=I.base.tbls b ps e; exact ⟨m,by rw [ak (hne q (Ou (nt _)))]; exact q⟩⟩
  free:=by rw [ak (hno I.free)]; exact I.free
  freeC:=fun x c e=>by have q:=I.freeC x c e; rw [ak (hno q)]; exact q
  pin:=fun q hq=>by obtain ⟨h1,h2,h3⟩:=I.pin q hq; exact ⟨h1,by rw [ak (hno h2)]; exact h2,h3⟩
  hok:=fun b z e=>by
   by_cases w:b=a
   ·subst w; rw [ai] at e; cases e; exact hst hv
   ·rw [ak w] at e; exact hst (I.hok b z e) }
theorem Ez (I:Inv X aa σ H s) (hu:H a=some u) (hd:HO.dct u) :
 ∃ o,Inv X aa σ (upd H a (.frz o u)) s∧∀ o z,X.H₀ a≠some (.frz o z):=by
 obtain ⟨o,ho⟩:=HP (I.hok a u hu)
 have nf:∀ o z,X.H₀ a≠some (.frz o z):=fun o z e=>by
  have q:=I.base.frzs a o z e
  rw [hu] at q; cases q; exact hd
 exact ⟨o,o6 I hu (by rintro xs rfl; exact hd) (by rintro y rfl; exact hd) (by rintro ps rfl; exact hd) nf ⟨ho,I.hok a u hu⟩,nf⟩
theorem AS (I:Inv X aa σ H s) (hu:H a=some (.frz o u)) (nf:∀ o z,X.H₀ a≠some (.frz o z)):Inv X aa σ (upd H a u) s :=
 o6 I hu (by intro xs z; cases z) (by intro y z; cases z) (by intro ps z; cases z) nf (I.hok a _ hu).2
noncomputable def Sl.qX:Sl→Option D
 | .oK kvs=>some (.fdK (kvs.map (·.1)) (kvs.map (·.2))) | .aK _ kvs=>some (.fdK (kvs.map (·.1)) (kvs.map (·.2)))
 | .oT kvs=>some (.fdT (kvs.map (·.1)) (kvs.map (·.2))) | .aT _ kvs=>some (.fdT (kvs.map (·.1)) (kvs.map (·.2)))
 | _=>none
theorem lE {r:Sl} (h:r.qX=some d):r.owned=true:=by cases r <;> first | rfl | cases h
section
variable {K:NZ}
theorem aX.qX (h:r.qX=some d) (q:aX K fr H Hf r v):∃ p u,v=.ref p∧fr p∧H p=some u∧Hf p=none∧HO.dct u∧∀ o,Rep K (L2.upd Hf p (.frz o u)) d v:=by
 have sf:∀ {p:Addr} {o:HO},Hf p=none→aD Hf (L2.upd Hf p o):=fun hp b u e=>by rw [ak (aB e hp)]; exact e
 cases r with
 | oK ds=>cases h; obtain ⟨p,xs,rfl,f,h1,h2,h3⟩:=q; exact ⟨p,_,rfl,f,h1,h2,trivial,fun o=>iW.mpr ⟨p,xs,o,rfl,ai,(jd h3).1,(jd h3).2.mono (sf h2)⟩⟩
 | aK a ds=>cases h; obtain ⟨p,xs,rfl,f,h1,h2,h3⟩:=q; exact ⟨p,_,rfl,f.1,h1,h2,trivial,fun o=>iW.mpr ⟨p,xs,o,rfl,ai,(jd h3).1,(jd h3).2.mono (sf h2)⟩⟩
 | oT ds=>cases h; obtain ⟨p,xs,rfl,f,h1,h2,h3⟩:=q; exact ⟨p,_,rfl,f,h1,h2,trivial,fun o=>iX.mpr ⟨p,xs,o,rfl,ai,(fE h3).1,fun y hy=>av (sf h2) ((fE h3).2.1 y hy),(fE h3).2.2.mono (sf h2)⟩⟩
 | aT a ds=>cases h; obtain ⟨p,xs,rfl,f,h1,h2,h3⟩:=q; exact ⟨p,_,rfl,f.1,h1,h2,trivial,fun o=>iX.mpr ⟨p,xs,o,rfl,ai,(fE h3).1,fun y hy=>av (sf h2) ((fE h3).2.1 y hy),(fE h3).2.2.mono (sf h2)⟩⟩
 | _=>cases h
theorem cW.EA (S:cW K H₀ dQ σ H Hf ρ) (h:ρ[i]?=some r) (hr:r.qX=some d) :
 ∃ q u,H q=some u∧Hf q=none∧HO.dct u∧∀ o,cW K H₀ dQ σ (L2.upd H q (.frz o u)) (L2.upd Hf q (.frz o u)) (ρ.set i (.va d)):=by
 obtain ⟨q,ev,rq⟩:=S.own h (lE hr)
 obtain ⟨_,u,e0,fq,hq,tD,hd,rd⟩:=rq.qX hr
 cases e0
 have hi:i<ρ.length:=(Oa.mp h).1
 have hown:=lE hr
 refine ⟨q,u,hq,tD,hd,fun o=>⟨⟨fun b z e=>?_,fun b z e=>?_,fun b z e=>?_,fun b h1 h2 h3=>?_⟩,by simp [S.len],fun j r' hj hu=>?_,fun j j' r1 r2 q' hne h1 h2 o1 o2=>?_⟩⟩
 ·rw [L2.ak (aB e fq)]; exact S.bas.s b z e
 ·have e2:=S.bas.f b z e
  rw [L2.ak (aB e2 tD)]; exact e2
 ·by_cases w:b=q
  ·subst w; rw [L2.ai] at e ⊢; exact e
  ·rw [L2.ak w] at e ⊢; exact S.sb b z e
 ·have e:=S.bas.n b h1 h2 h3
  by_cases z:b=q
  ·subst z; exact absurd fq h2
  ·rw [L2.ak z]; exact e
 ·have sf:aD Hf (L2.upd Hf q (.frz o u)):=fun b z e=>by rw [L2.ak (aB e tD)]; exact e
  by_cases z:j=i
  ·subst z
   rw [Pa hi] at hj
   cases hj
   exact ⟨_,ev,rd o⟩
  ·rw [Pb (Ou z)] at hj
   obtain ⟨v,e1,e2⟩:=S.at_ j r' hj hu
   refine ⟨v,e1,?_⟩
   have key:r'.owned=true→v≠.ref q:=fun ho z=>by
    subst z
    exact S.sep i j _ _ q (Ou ‹_›) h hj hown ho ev e1
   exact aX.mv (B:=fun z=>z=q) sf (fun z w hz e1 _ e3=>⟨by rw [L2.ak hz]; exact e1,by rw [L2.ak hz]; exact e3⟩) (by rintro _ z rfl ⟨ys,e9⟩; rw [hq] at e9; cases e9; exact hd) (fun ho z e=>by rintro rfl; exact key ho e) e2
 ·have out:∀ {j:Nat} {r:Sl},(ρ.set i (.va d))[j]?=some r→r.owned=true→ρ[j]?=some r:=fun {j r} hj ho=>by
   by_cases z:j=i
   ·subst z; rw [Pa hi] at hj; cases hj; cases ho
   ·rw [Pb (Ou z)] at hj; exact hj
  exact S.sep j j' r1 r2 q' hne (out h1 o1) (out h2 o2) o1 o2
end
theorem x8 (sb:aD Hf H) (hq:H q=some u) (tD:Hf q=none) (g:bq (upd H q (.frz o u)) (upd Hf q (.frz o u)) H' aj):bq H Hf (upd H' q u) (del aj q) :=
 ⟨fun b z e=>by
   by_cases w:b=q
   ·subst w; rw [ai]; rw [hq] at e; exact e
   ·rw [ak w]; exact g.s b z (by rw [ak w]; exact e),
   fun b z e=>by rw [ck (aB e tD)]; exact g.f b z (by rw [ak (aB e tD)]; exact e),
   fun b z e=>by obtain ⟨w,e2⟩:=ja e; rw [ak w]; exact g.b b z e2,fun b h1 h2 h3=>by
   by_cases w:b=q
   ·subst w; exact i9
   ·rw [ck w]; exact g.n b (by rw [ak w]; exact h1) (by rw [ak w]; exact h2) fun xs=>by rw [ak w]; exact h3 xs⟩
theorem EB {K:NZ} (hp:Hf p=some (.frz o u)) (hd:HO.dct u) (h:cV K Hf a xs):cV K (del Hf p) a xs:=by
 rcases h with (h | ⟨o',h⟩) | h
 ·exact .inl (.inl (by rw [ck (by rintro rfl; rw [hp] at h; cases h)]; exact h))
 ·exact .inl (.inr ⟨o',by rw [ck (by rintro rfl; rw [hp] at h; cases h; exact hd)]; exact h⟩)
 ·exact .inr h
mutual
theorem AU {K:NZ} {Hf:Hp} {p:Addr} {o:Obj} {u:HO} (hp:Hf p=some (.frz o u)) (hd:HO.dct u):∀ (d:D) {v:V},d.nl→Rep K Hf d v→Rep K (del Hf p) d v
 | .non,_,_,h=>by simpa [Rep] using h
 | .bl _,_,_,h=>by simpa [Rep] using h
 | .int _,_,_,h=>by simpa [Rep] using h
 | .str _,_,_,h=>by simpa [Rep] using h
 | .adr _,_,_,h=>by simpa [Rep] using h
 | .tup ds,v,f,h=>by
  simp only [Rep] at h ⊢
  obtain ⟨a,xs,e,h1,h2⟩:=h
  exact ⟨a,xs,e,EB hp hd h1,o7 hp hd ds (by simpa [D.nl] using f) h2⟩
 | .lst _,_,f,_=>by simp [D.nl] at f
 | .fdK _ _,_,f,_=>by simp [D.nl] at f
 | .fdT _ _,_,f,_=>by simp [D.nl] at f
 | .exc C,_,_,h=>by
  simp only [Rep] at h ⊢
  obtain ⟨a,e,h⟩:=h
  exact ⟨a,e,by rw [ck (by rintro rfl; rw [hp] at h; cases h)]; exact h⟩
theorem o7 {K:NZ} {Hf:Hp} {p:Addr} {o:Obj} {u:HO} (hp:Hf p=some (.frz o u)) (hd:HO.dct u):∀ (ds:List D) {xs:List V},D.qg ds→au K Hf ds xs→au K (del Hf p) ds xs
 | [],_,_,h=>by simpa [au] using h
 | d::ds,xs,f,h=>by
  simp only [au] at h ⊢
  simp only [D.qg] at f
  obtain ⟨x,r,e,h1,h2⟩:=h
  exact ⟨x,r,e,AU hp hd d f.1 h1,o7 hp hd ds f.2 h2⟩
end
section
variable {K:NZ}
theorem AV (S:bu c σ H Hf ρ) (hi:At ρ i r) (hr:r.qX=some d0) (hs:SSet ρ i (.va d0) ρ')
 (h:∀ q u o,H q=some u→Hf q=none→HO.dct u→bu c σ (upd H q (.frz o u)) (upd Hf q (.frz o u)) ρ'→bE c.X e σ (upd H q (.frz o u)) fun v H'=>∃ aj,bq (upd H q (.frz o u)) (upd Hf q (.frz o u)) H' aj∧Q v (upd H' q u)):bE c.X e σ H Q:=by
 obtain ⟨q,u,hq,tD,hd,S1⟩:=S.EA hi.get hr
 intro aa s I
 obtain ⟨o,I1,nf⟩:=Ez I hq hd
 have S2:=S1 o
 rw [← hs.eq] at S2
 refine bC (h q u o hq tD hd S2 aa s I1) fun v s' ⟨x,H',I',rv,aj,g,hQ⟩=>⟨x,_,AS I' (g.s q _ ai) nf,rv,hQ⟩
theorem t8 (i) {R:Sl→Prop} (hi:At ρ i r) (hr:r.qX=some d0) (hs:SSet ρ i (.va d0) ρ') (h:dw c e ρ' fun d=>Sd d.nl (R d)):dw c e ρ R:=fun σ H Hf Q S q=>by
 refine AV S hi hr hs fun a u o ha zu hd S1=>h σ _ _ _ S1 fun r1 v H' aj ⟨fl,rd⟩ rv g=>⟨aj,g,?_⟩
 have hp:=g.f a _ ai
 refine q r1 v _ (del aj a) rd ?_ (x8 S.sb ha zu g)
 have hH:H' a=some (.frz o u):=g.s a _ ai
 cases r1 with
 | va d=>exact AU hp hd d fl rv
 | ow ds =>
  obtain ⟨b,xs,rfl,fb,h1,h2,h3⟩:=rv
  have nb:b≠a:=by rintro rfl; rw [show (upd H b (.frz o u)) b=_ from ai] at fb; cases fb
  exact ⟨b,xs,rfl,by rw [ak nb] at fb; exact fb,by rw [ak nb]; exact h1,by rw [ck nb]; exact h2,o7 hp hd ds fl h3⟩
 | _=>exact fl.elim
end
noncomputable def AW (h:Heap) (it d:Addr) (i n ep:Nat):Prop :=
 ∃ (x:Value) (f:Bool) (k v:Value),h.get? it=some { cls:=.type "dict_itemiterator",dict:=none,data:=.fields #[x,.bool f,.ref d,.int i 0,.int n 0,.int ep 0,k,v],slots:= #[] }∧(x=.none∨∃ a:Addr,x=rawInt a)
section
variable {s:Shared} {i n ep:Nat}
theorem o8:Tj "dict_itemiterator"=true:=by decide
theorem qY (h:Q (s.heap.get? a) s):wpAny M A (loadIfAlive a) Q E s:=fun Γ p z=>by
 show Sem.wp M Γ (Sem.loadIfAlive a Sem.pure) _ _ p s
 rw [Sem.wp_loadIfAlive,Sem.wp]
 exact h
theorem AX (hs:s.heap=h) (hit:h.get? it=some { cls:=.type "dict_itemiterator",dict:=none,data:=.fields #[x,.bool f,.ref d,.int i 0,.int n 0,.int ep 0,k,v],slots:= #[] }) (hx:x=.none∨∃ a:Addr,x=rawInt a)
 (hQ:∀ h',AW h' it d i n ep→h'.get? h.objs.size=some { cls:=.type "tuple",data:=.seq #[a,b] }→h'.objs.size=h.objs.size+1→(∀ c o,c≠it→h.get? c=some o→h'.get? c=some o)→Q (.ref h.objs.size) { s with heap:=h' }) :
 wpAny (model prog w) A (Tg (.ref it) 6 a b) Q E s:=by
 subst hs
 have lt:it<s.heap.objs.size:=N8 hit
 have ne:s.heap.objs.size≠it:=Ra lt
 unfold Tg
 refine NX (wpAny_newTuple ?_)
 have sZ:=N7 ({ cls:=.type "tuple",data:=.seq [a,b].toArray }:Obj) hit
 have htu:(s.heap.push { cls:=.type "tuple",data:=.seq [a,b].toArray }).get? s.heap.objs.size=some { cls:=.type "tuple",data:=.seq #[a,b] }:=Oj _ rfl
 have hsz:(s.heap.push { cls:=.type "tuple",data:=.seq [a,b].toArray }).objs.size=s.heap.objs.size+1:=Qm ..
 have hold:∀ c o,s.heap.get? c=some o→(s.heap.push { cls:=.type "tuple",data:=.seq [a,b].toArray }).get? c=some o:=fun c o e=>N7 _ e
 generalize (s.heap.push { cls:=.type "tuple",data:=.seq [a,b].toArray })=h2 at sZ htu hsz hold ⊢
 have free:wpAny (model prog w) A (do
  let old:=[← field (.ref it) 6,← field (.ref it) (6+1)]
  setField (.ref it) 6 a; setField (.ref it) (6+1) b
  setField (.ref it) 0 (rawInt s.heap.objs.size); setField (.ref it) 1 (.bool false)
  letGo old [.ref s.heap.objs.size]
  pure (Ox s.heap.objs.size)) Q E { s with heap:=h2 }:=by
  refine NX (P5 sZ rfl (x:=k) rfl (NX (P5 sZ rfl (x:=v) rfl ?_)))
  refine NX (Qz sZ (by simp) fun h3 e3 s3=>?_)
  refine NX (Qz e3 (by simp) fun h4 e4 s4=>?_)
  refine NX (Qz e4 (by simp) fun h5 e5 s5=>?_)
  refine NX (Qz e5 (by simp) fun h6 e6 s6=>?_)
  have keep:∀ c o,c≠it→h2.get? c=some o→h6.get? c=some o:=fun c o hc e=>s6.extBut c o hc (s5.extBut c o hc (s4.extBut c o hc (s3.extBut c o hc e)))
  refine NX (S9 (N1 (hQ h6 ⟨_,_,_,_,e6,.inr ⟨_,rfl⟩⟩ (keep _ _ ne htu) ?_ fun c o hc e=>keep c o hc (hold c o e))))
  rw [s6.1,s5.1,s4.1,s3.1,hsz]
 have told:∀ (h3:Heap) (x:Value) (f:Bool),h3.get? it=some { cls:=.type "dict_itemiterator",dict:=none,data:=.fields #[x,.bool f,.ref d,.int i 0,.int n 0,.int ep 0,k,v],slots:= #[] }→(x=.none∨∃ a:Addr,x=rawInt a) →
  Pj it h2 h3→Q (.ref s.heap.objs.size) { s with heap:=h3 }:=fun h3 x f e hx' s3 =>
  hQ h3 ⟨x,f,k,v,e,hx'⟩ (s3.extBut _ _ ne htu) (by rw [s3.1,hsz]) fun c o hc e=>s3.extBut c o hc (hold c o e)
 show wpAny _ _ (Um (.ref it) >>= _) _ _ _
 unfold Um
 refine NX (NX (P5 sZ rfl (x:=x) rfl ?_))
 rcases hx with rfl | ⟨a0,rfl⟩
 ·exact N1 free
 ·show wpAny _ _ (loadIfAlive (a0:Int).toNat >>= _) _ _ _
  refine NX (qY ?_)
  split
  ·exact N1 free
  ·refine NX ?_
   refine P5 sZ rfl (x:=.bool f) rfl ?_
   cases f with
   | true =>
    dsimp only
    rw [if_neg (by decide)]
    exact N1 (N1 (told h2 _ _ sZ (.inr ⟨a0,rfl⟩) (.refl ..)))
   | false =>
    dsimp only
    rw [if_pos (by decide)]
    refine NX (Qz sZ (by simp) fun h3 e3 s3=>?_)
    exact N1 (N1 (told h3 _ true e3 (.inr ⟨a0,rfl⟩) s3))
theorem AW.Iq (h:AW s.heap it d i n ep):s.TypeIs (.ref it) "dict_itemiterator":=let ⟨_,_,_,_,e,_⟩:=h; ⟨_,e,rfl⟩
theorem next_item (hit:AW s.heap it d i es.size ep) (hod:s.heap.get? d=some od) (hdd:od.data=.dict es ep) (hx:es[i]?=some e)
 (hQ:∀ h',AW h' it d (i+1) es.size ep→h'.get? s.heap.objs.size=some { cls:=.type "tuple",data:=.seq #[e.key,e.val] }→h'.objs.size=s.heap.objs.size+1→(∀ c o,c≠it→s.heap.get? c=some o→h'.get? c=some o)→Q (some (.ref s.heap.objs.size)) { s with heap:=h' }) :
 wpAny (model prog w) A (pyNext (.ref it)) Q E s:=by
 have hT:=hit.Iq
 obtain ⟨x,f,k,v,hat,hxx⟩:=hit
 have hlt:i<es.size:=(QV.mp hx).1
 unfold pyNext
 refine NX (Qn (Qg (name:=NY "__next__") hT QO (PD QO hT Ut ?_ (Uq _))))
 refine NX (N1 (NX (NX ?_)))
 first | refine NX (RQ hT (N1 ?_)) | refine NX (RU hT (N1 ?_))
 refine NX (SI hat rfl ?_)
 simp only [o8,if_true]
 show wpAny _ _ (if (Ox d == O4)=true then _ else _) _ _ _
 rw [if_neg (show ¬ (Ox d == O4)=true from Oe)]
 refine NX (N1 (NX (Q6 hod hdd ?_)))
 rw [if_neg (by simp)]
 refine NX (N1 (NX (Q8 hod hdd ?_)))
 rw [if_neg (by simp)]
 refine N1 ?_
 simp only [show ¬ ((i:Int)<0) from by lia,if_false,OW,hx]
 refine NX ?_
 first | refine NX (RQ hT (N1 ?_)) | refine NX (RU hT (N1 ?_))
 refine NX (Tw hT ?_)
 show wpAny _ _ (setField (.ref it) 3 (rawInt ((i:Int)+1)) >>= _) _ _ s
 refine NX (Qz hat (by simp) fun h1 e1 s1=>?_)
 have e1':h1.get? it=some { cls:=.type "dict_itemiterator",dict:=none,data:=.fields #[x,.bool f,.ref d,.int ((i+1:Nat):Int) 0,.int es.size 0,.int ep 0,k,v],slots:= #[] }:=by
  have q:((i+1:Nat):Int)=(i:Int)+1:=by lia
  rw [q]; simpa [rawInt] using e1
 have hT1:Shared.TypeIs { s with heap:=h1 } (.ref it) "dict_itemiterator":=⟨_,e1',rfl⟩
 refine NX (OS ?_)
 refine NX (Tw hT1 (NX (Tw hT1 ?_)))
 show wpAny _ _ (Tg (.ref it) 6 e.key e.val) _ _ { s with heap:=h1 }
 have z1:h1.objs.size=s.heap.objs.size:=s1.1
 refine AX (s:={ s with heap:=h1 }) rfl e1' hxx fun h2 g2 t2 z2 k2=>?_
 rw [z1] at t2 z2 ⊢
 exact N1 ⟨_,rfl,N1 (hQ h2 g2 t2 z2 fun c o hc q=>k2 c o hc (s1.extBut c o hc q))⟩
theorem next_end (hh:A.handled=none) (hit:AW s.heap it d i es.size ep) (hod:s.heap.get? d=some od) (hdd:od.data=.dict es ep) (hx:es.size≤i)
 (hQ:∀ h',Qe it s.heap h'→Q none { s with heap:=h' }):wpAny (model prog w) A (pyNext (.ref it)) Q E s:=by
 have hT:=hit.Iq
 obtain ⟨x,f,k,v,hat,hxx⟩:=hit
 unfold pyNext
 refine NX (Qn (Qg (name:=NY "__next__") hT QO (PD QO hT Ut ?_ (Uq _))))
 refine NX (N1 (NX (NX ?_)))
 first | refine NX (RQ hT (N1 ?_)) | refine NX (RU hT (N1 ?_))
 refine NX (SI hat rfl ?_)
 simp only [o8,if_true]
 show wpAny _ _ (if (Ox d == O4)=true then _ else _) _ _ _
 rw [if_neg (show ¬ (Ox d == O4)=true from Oe)]
 refine NX (N1 (NX (Q6 hod hdd ?_)))
 rw [if_neg (by simp)]
 refine NX (N1 (NX (Q8 hod hdd ?_)))
 rw [if_neg (by simp)]
 refine N1 ?_
 simp only [show ¬ ((i:Int)<0) from by lia,if_false,OW,Array.getElem?_eq_none hx]
 refine NX ?_
 first | refine NX (RQ hT (N1 ?_)) | refine NX (RU hT (N1 ?_))
 show wpAny _ _ (setField (.ref it) 2 .none >>= _) _ _ s
 refine NX (Rz hat rfl (by simp) (NX ?_))
 simp only [newExc,newTuple]
 refine NX (O6 ?_ (by size_fits))
 refine NX (m:=firstArgMember _ _) (wpAny_of_eq (a:=O4) (by first | rfl | (simp only [firstArgMember]; rfl)) ?_)
 refine O6 ?_ (by size_fits)
 simp only [raiseNew]
 refine NX (wpAny_handled ?_)
 rw [show A.in1.handled=none from hh]
 refine NX (N1 (wpAny_throw ?_))
 refine NX (Sw (T:="StopIteration") (b:=true) ⟨_,Oj _ rfl,rfl⟩ isSubtype_stop ?_)
 exact N1 (hQ _ (((Rp ..).extBut.push _).push _))
theorem EC (hit:AW s.heap it d i n ep) (h:∀ h',AW h' it d i n ep→Pj it s.heap h'→Q () { s with heap:=h' }):wpAny (model prog w) A (letOwnedTupleGo tg (.ref it) (.ref a)) Q E s:=by
 have stay:Q () s:=h s.heap hit (.refl ..)
 obtain ⟨x,f,k,v,hat,hxx⟩:=hit
 have part:wpAny (model prog w) A (do
  let o ← load it
  match o.cls,o.data with
  | .type n,.fields vs =>
   if (["enumerate","zip","dict_itemiterator","dict_reverseitemiterator","odict_iterator","itertools.zip_longest","itertools.pairwise"].contains n && vs[0]? == some (rawInt a))=true then do
    rule "for.unpacks-the-owned-tuple"
    updateField it 0 .none
   else pure ()
  | _,_=>pure ()) Q E s:=by
  refine NX (wpAny_load hat ?_)
  dsimp only
  split
  ·refine NX (Po ?_)
   show wpAny _ _ (setField (.ref it) 0 .none) Q E s
   exact Qz hat (by simp) fun h' e' s'=>h h' ⟨_,_,_,_,e',.inl rfl⟩ s'
  ·exact N1 stay
 unfold letOwnedTupleGo
 cases tg <;> first
  | exact N1 stay
  | exact part
end
noncomputable def bL:HO→List (V×V)
 | .dK ys=>ys.map fun y=>(kV y.1,y.2)
 | .dT ys=>ys.map fun y=>(.ref y.2.1,y.2.2)
 | _=>[]
theorem v8 (h:kP k v=true):RelV (kV k) v:=by
 rcases bF h with ⟨i,t,rfl,rfl⟩ | ⟨x,t,rfl,rfl⟩
 ·exact ⟨t,rfl⟩
 ·exact ⟨t,rfl⟩
theorem cH (ok:bh P w H h d u) (hd:HO.dct u) (ho:h.get? d=some o) :
 o.ExactDict∧∃ es ep,o.data=.dict es ep∧Paired (fun (a:V×V) (e:DictEntry)=>RelV a.1 e.key∧RelV a.2 e.val) (bL u) es.toList∧(d == sysModules)=false∧(bL u).length≤sizeLine:=by
 cases u with
 | dK ys =>
  obtain ⟨z,y,vs,kv,o',es,ep,h1,h2,h3,h4,h5,h6⟩:=ok
  rw [ho] at h1; cases h1
  refine ⟨h2,es,ep,h3,?_,y,by simpa [bL] using z⟩
  show Paired _ (ys.map _) _
  clear h3 h4 h6 z
  generalize es.toList=l at h5 ⊢
  unfold KV at kv
  induction kv generalizing l with
  | nil=>cases h5; exact .nil
  | @cons a b as bs q t ih =>
   cases h5 with
   | cons r t' t''=>exact .cons ⟨by show L2.RelV (kV a.1) _; rw [q.1]; exact v8 r,by rw [t']; exact q.2⟩ (ih hd _ t'')
 | dT ys =>
  obtain ⟨z,y,xs,kv,o',es,ep,h1,h2,h3,h4,h5⟩:=ok
  rw [ho] at h1; cases h1
  refine ⟨h2,es,ep,h3,?_,y,by simpa [bL] using z⟩
  rw [h4]
  show Paired _ (ys.map _) _
  clear h3 h4 h5 z
  induction kv with
  | nil=>exact .nil
  | @cons a b as bs q t ih =>
   rw [N5,N5]
   refine .cons ⟨?_,q.2.2⟩ (ih hd)
   show Ox b.2.1=Ox a.2.1
   rw [q.2.1]
 | _=>exact hd.elim
theorem c8:∀ {l:List α} {m:List β} {i:Nat} {a:α},Paired F l m→l[i]?=some a→∃ b,m[i]?=some b∧F a b
 | _,_,_,_,.nil,e=>by simp at e
 | _,_,0,_,.cons r _,e=>by simp at e; subst e; exact ⟨_,rfl,r⟩
 | _,_,i+1,a,.cons _ t,e=>by
  obtain ⟨b,h1,h2⟩:=c8 (i:=i) t (by simpa using e)
  exact ⟨b,by simpa using h1,h2⟩
noncomputable def Nc (d:Addr) (o:Obj) (u:HO):It :=
 ⟨fun i H=>H d=some (.frz o u)∧i<(bL u).length,fun i H x H'=>∃ p kv,(bL u)[i]?=some kv∧x=.ref p∧H p=none∧H'=upd H p (.tup [kv.1,kv.2]),fun i H=>H d=some (.frz o u)∧(bL u).length≤i⟩
theorem x9:entryFor table "dict_itemiterator.__iter__"=some Builtin.«dict_keyiterator.__iter__» :=entryFor_alias (id':="dict_keyiterator.__iter__") (by kernel_rfl) rfl (by decide +kernel) (by kernel_rfl)
theorem uc {P:Program} {w:World} {K:NZ} {tg:Expr} {d it:Addr} {o:Obj} {u:HO} {es:Array DictEntry} {ep:Nat} (hd:HO.dct u) (hod:o.data=.dict es ep) (hne:it≠d) (hes:es.size=(bL u).length) :
 Turn P w K tg (Nc d o u) [it] it (fun i h=>AW h it d i es.size ep) where
 mem:=by simp
 obj:=fun i h st b hb=>by
  have e:b=it:=by simpa using hb
  subst e
  obtain ⟨x,f,k,v,e,_⟩:=st
  exact ⟨_,e,fun v z=>by
   have z':Tf _=Data.cell v:=z
   cases z'⟩
 keep:=fun i h h' st k=>by
  obtain ⟨x,f,kk,v,e,hx⟩:=st
  exact ⟨x,f,kk,v,k it (by simp) _ e,hx⟩
 item:=by
  intro X hP hw hK hc i aa s σ H E I hf st hg
  subst hP hw hK
  obtain ⟨hH,hi⟩:=hg
  obtain ⟨f0,f1,f2,f3,f4,f5⟩:=hf it (by simp)
  obtain ⟨ho,ok⟩:=(show bh X.prog X.w H s.heap d (.frz o u) from I.hok d _ hH)
  obtain ⟨_,es',ep',e1,e2,_⟩:=cH ok hd ho
  rw [hod] at e1; cases e1
  obtain ⟨e,he,re⟩:=c8 e2 (Ov hi)
  have he':es[i]?=some e:=by simpa using he
  refine next_item st ho hod he' fun h1 g1 t1 z1 k1=>?_
  have hil:it<s.heap.objs.size:=by
   obtain ⟨_,_,_,_,q,_⟩:=st
   exact N8 q
  have Hp:H s.heap.objs.size=none:=I.hok.fresh (N3 _)
  have hit0:it≠s.heap.objs.size:=OB hil
  generalize hkv:(bL u)[i]=kv at re
  have IA:Inv X aa σ (upd H s.heap.objs.size (.tup [kv.1,kv.2])) { s with heap:=s.heap.push { cls:=.type "tuple",data:=.seq #[e.key,e.val] },toks:=s.toks } :=
   I.laid (a:=s.heap.objs.size) (o:=.tup [kv.1,kv.2]) (fun _ _ q=>N7 _ q) (N3 _) ⟨by show 2≤sizeLine; decide,[e.key,e.val],.cons re.1 (.cons re.2 .nil),_,Oj _ rfl,rfl,0,rfl⟩
  have g0:upd H s.heap.objs.size (.tup [kv.1,kv.2]) it=none:=by rw [ak hit0]; exact f0
  have I1:Inv X aa σ (upd H s.heap.objs.size (.tup [kv.1,kv.2])) { s with heap:=h1,toks:=s.toks }:=IA.turned (fun b o hb q=>by
   by_cases z:b=s.heap.objs.size
   ·subst z
    rw [Oj _ rfl] at q; cases q; exact t1
   ·have lt:b<s.heap.objs.size:=by
     have:=N8 q
     rw [Qm] at this
     exact Nat.lt_of_le_of_ne (Nat.le_of_lt_succ this) z
    refine k1 b o hb ?_
    rw [Heap.get?_push_ne _ _ _ z] at q; exact q) g0 f1 f3 f4 f5
  refine ⟨_,rfl,EC (s:={ s with heap:=h1 }) g1 fun h2 g2 s2=>?_⟩
  refine ⟨.ref s.heap.objs.size,_,I1.turned (t':=s.toks) (fun b o hb q=>(s2.2 b hb).trans q) g0 f1 f3 f4 f5,rfl,⟨_,kv,by rw [Ov hi,hkv],rfl,Hp,rfl⟩,g2,fun b hb=>?_⟩
  have e:b=it:=by simpa using hb
  rw [e]; exact g0
 done:=by
  intro X hP hw hK hc i aa s σ H E I hf st hg
  subst hP hw hK
  obtain ⟨hH,hi⟩:=hg
  obtain ⟨f0,f1,f2,f3,f4,f5⟩:=hf it (by simp)
  obtain ⟨ho,ok⟩:=(show bh X.prog X.w H s.heap d (.frz o u) from I.hok d _ hH)
  exact next_end (I.ok.hd hc) st ho hod (by lia) fun h' eb=>⟨rfl,I.turned (t':=s.toks) (fun b o hb e=>eb b o hb e) f0 f1 f3 f4 f5⟩
 self:=by
  intro A i s Q E st h
  have hT:=st.Iq
  refine T5 hT Uw (PD Uw hT x9 ?_ (F.args_dict_itemiterator_iter_1 _))
  show wpAny _ _ (ret (.ref it)) _ _ s
  exact N1 ⟨_,rfl,"dict_itemiterator",_,hT,QO.lookup,h⟩
section
theorem qZ (d) (hd:(d == sysModules)=false) :
 MeetsIn prog w (Builtin.«dict.items» ⟨[.ref d],[]⟩) (fun _ R s=>s.TypeIs (.ref d) "dict"∧R (.ok (.ret (.ref s.heap.objs.size))) { s with heap:=s.heap.push { cls:=.type "dict_items",data:=.fields #[.ref d] } }) :=
 .of_wp fun A R s ⟨hT,h⟩=>by
  unfold Builtin.«dict.items»
  refine NX ?_
  unfold Builtin.Dict.noArgs
  refine NX (wpAny_notOrdered_dict hT (show wpAny _ _ (pure d) _ _ s from N1 ?_))
  show wpAny _ _ (R9 d >>= _) _ _ s
  unfold R9
  rw [if_neg (by rw [hd]; exact Oe)]
  exact NX (N1 (NX (O6 (N1 ⟨_,rfl,h⟩))))
theorem ya (hv:s.heap.IsItemsView v d) (hod:s.heap.get? d=some od) (hdd:od.data=.dict es ep)
 (hQ:Q (.ref s.heap.objs.size) { s with heap:=s.heap.push { cls:=.type "dict_itemiterator",data:=.fields #[.none,.bool false,.ref d,.int 0 0,.int es.size 0,.int ep 0,.none,.none] } }) :
 wpAny (model prog w) A (pyIter (.ref v)) Q E s:=by
 obtain ⟨ov,hov,hcv,hdv⟩:=id hv
 refine T5 hv.typeIs F.slot_dict_items_iter (PD F.slot_dict_items_iter hv.typeIs F.entry_dict_items_iter ?_ (F.args_dict_items_iter_1 _))
 unfold Builtin.«dict_items.__iter__»
 refine NX (N1 (NX ?_))
 unfold Builtin.Dict_items.dictOf
 refine NX (P5 hov hdv (x:=.ref d) rfl (N1 (NX ?_)))
 unfold Builtin.Dict_items.newIterator
 refine NX (Q6 hod hdd (NX (Q8 hod hdd ?_)))
 simp only [o8,if_true]
 refine O6 (N1 ⟨_,rfl,"dict_itemiterator",_,⟨_,Oj _ rfl,rfl⟩,QO.lookup,?_⟩)
  (by simp only [sizeOk,Uo,Ot,OH,OF,PV,sizeLine_eq]; lia)
 simpa [rawInt,Uo] using hQ
end
noncomputable def yb:Key→D | .inl i=>.int i | .inr x=>.str x
noncomputable def D.pairs:D→Option (List D)
 | .fdK ks ds=>some (S0 (fun k d=>D.tup [yb k,d]) ks ds)
 | .fdT ks ds=>some (S0 (fun k d=>D.tup [.tup (k.map yb),d]) ks ds)
 | _=>none
section
variable {K:NZ} {Hf:Hp}
theorem q8:Rep K Hf (yb k) (kV k):=by
 cases k with
 | inl i=>exact ay.mpr rfl
 | inr x=>exact fN.mpr rfl
theorem nM:∀ {ks:List Key},au K Hf (ks.map yb) (ks.map kV)
 | []=>aA.mpr rfl
 | k::ks=>.cons q8 nM
noncomputable def nN (K:NZ) (Hf:Hp) (d:D) (kv:V×V):Prop:=∃ k e,d=.tup [k,e]∧Rep K Hf k kv.1∧Rep K Hf e kv.2
theorem v9:∀ {ys:List (Key×V)} {vs:List D},au K Hf vs (ys.map (·.2))→Paired (nN K Hf) (S0 (fun k d=>D.tup [yb k,d]) (ys.map (·.1)) vs) (ys.map fun y=>(kV y.1,y.2))
 | [],vs,h=>by
  cases vs with
  | nil=>exact .nil
  | cons d ds=>obtain ⟨x,r,e,_⟩:=aC.mp h; cases e
 | y::ys,vs,h=>by
  cases vs with
  | nil=>rw [aA] at h; cases h
  | cons d ds =>
   obtain ⟨x,r,e,h1,h2⟩:=aC.mp h
   cases e
   exact .cons ⟨_,_,rfl,q8,h1⟩ (v9 h2)
theorem wc:∀ {ys:List (List Key×Addr×V)} {vs:List D},(∀ y∈ys,cV K Hf y.2.1 (y.1.map kV))→au K Hf vs (ys.map (·.2.2))→Paired (nN K Hf) (S0 (fun k d=>D.tup [.tup (k.map yb),d]) (ys.map (·.1)) vs) (ys.map fun y=>(.ref y.2.1,y.2.2))
 | [],vs,_,h=>by
  cases vs with
  | nil=>exact .nil
  | cons d ds=>obtain ⟨x,r,e,_⟩:=aC.mp h; cases e
 | y::ys,vs,hk,h=>by
  cases vs with
  | nil=>rw [aA] at h; cases h
  | cons d ds =>
   obtain ⟨x,r,e,h1,h2⟩:=aC.mp h
   cases e
   exact .cons ⟨_,_,rfl,aH.mpr ⟨_,_,rfl,hk y N9,nM⟩,h1⟩ (wc (fun z hz=>hk z (Ob _ hz)) h2)
theorem yc (hp:d.pairs=some ds) (h:Rep K Hf d v):∃ a o u,v=.ref a∧Hf a=some (.frz o u)∧HO.dct u∧Paired (nN K Hf) ds (bL u):=by
 cases d with
 | fdK ks vs =>
  cases hp
  obtain ⟨a,ys,o,rfl,h1,h2,h3⟩:=iW.mp h
  subst h2
  exact ⟨a,o,_,rfl,h1,trivial,v9 h3⟩
 | fdT ks vs =>
  cases hp
  obtain ⟨a,ys,o,rfl,h1,h2,h3,h4⟩:=iX.mp h
  subst h2
  exact ⟨a,o,_,rfl,h1,trivial,wc h3 h4⟩
 | _=>cases hp
theorem ud {ds:List D} {a:Addr} {o:Obj} {u:HO} (h:Hf a=some (.frz o u)) (hp:Paired (nN K Hf) ds (bL u)):jF K (Nc a o u) ds Hf where
 go:=fun i d H aM s1 s2 e=>by
  obtain ⟨kv,ekv,k,dd,rfl,r1,r2⟩:=c8 hp e
  refine ⟨⟨s2 _ _ (s1 _ _ h),(Oa.mp ekv).1⟩,fun x H' ⟨p,kv',e1,e2,e3,e4⟩=>?_⟩
  rw [ekv] at e1; cases e1
  subst e2 e4
  have g:=bq.new s2 e3 (o:=.tup [kv.1,kv.2])
  exact ⟨upd aM p (.tup [kv.1,kv.2]),g,aH.mpr ⟨p,_,rfl,.inl (.inl ai),.cons (Rep.mono (s1.trans g.f) _ r1) (.cons (Rep.mono (s1.trans g.f) _ r2) (aA.mpr rfl))⟩⟩
 stop:=fun i H aM s1 s2 e=>⟨s2 _ _ (s1 _ _ h),by rw [← Pk hp]; exact e⟩
end
section
variable {K:NZ}
end
end EV
namespace SR
open PySem PyProof.Rows
noncomputable def cL:Bool→Keyed→Array Keyed→Nat→Nat→Nat→StateT SortSt Sem (Option Nat):=sortPriv% PySem.Builtin.gallop
noncomputable def cB:Nat→StateT SortSt Sem Unit:=sortPriv% PySem.Builtin.setMinGallop
noncomputable def dS (left:Bool) (key:Keyed) (arr:Array Keyed) (base i:Nat):StateT SortSt Sem (Option Bool):=do
 let x ← elem' arr (base+i)
 if left then lt' x key else return (← lt' key x).map (!·)
noncomputable abbrev q9:=Option (Option Nat)×Nat×Nat
noncomputable def lF (bey:Nat→StateT SortSt Sem (Option Bool)) (n lo hi:Nat):StateT SortSt Sem (Option Nat):=do
 let __s ← forIn [0:n] ((none,lo,hi):q9) fun _ __s =>
  if __s.snd.fst≥__s.snd.snd then pure (Pw (none,__s.snd.fst,__s.snd.snd))
  else do
   let __x ← bey (__s.snd.fst+(__s.snd.snd - __s.snd.fst) / 2)
   match __x with
   | some more=>if more=true then pure (OY (none,__s.snd.fst+(__s.snd.snd - __s.snd.fst) / 2+1,__s.snd.snd)) else pure (OY (none,__s.snd.fst,__s.snd.fst+(__s.snd.snd - __s.snd.fst) / 2))
   | _=>pure (Pw (some none,__s.snd.fst,__s.snd.snd))
 match __s.fst with
 | some r=>pure r
 | none=>pure (some __s.snd.snd)
noncomputable def AY (bey:Nat→StateT SortSt Sem (Option Bool)) (n hint maxofs:Nat):StateT SortSt Sem q9 :=
 forIn [0:n] ((none,0,1):q9) fun _ __s =>
  if __s.snd.snd≥maxofs then pure (Pw (none,__s.snd.fst,__s.snd.snd))
  else do
   let __x ← bey (hint+__s.snd.snd)
   match __x with
   | some more=>if (!more)=true then pure (Pw (none,__s.snd.fst,__s.snd.snd)) else pure (OY (none,__s.snd.snd,2 * __s.snd.snd+1))
   | _=>pure (Pw (some none,__s.snd.fst,__s.snd.snd))
noncomputable def AZ (bey:Nat→StateT SortSt Sem (Option Bool)) (n hint maxofs:Nat):StateT SortSt Sem q9 :=
 forIn [0:n] ((none,0,1):q9) fun _ __s =>
  if __s.snd.snd≥maxofs then pure (Pw (none,__s.snd.fst,__s.snd.snd))
  else do
   let __x ← bey (hint - __s.snd.snd)
   match __x with
   | some found=>if found=true then pure (Pw (none,__s.snd.fst,__s.snd.snd)) else pure (OY (none,__s.snd.snd,2 * __s.snd.snd+1))
   | _=>pure (Pw (some none,__s.snd.fst,__s.snd.snd))
local macro_rules | `(tactic| walk_at "dl gallop")=>do
 let i:=QH (Qx `PySem.Builtin.List.W1All `PySem.Builtin.gallop)
 `(tactic| delta $i)
theorem ue (left) (key) (arr) (base n hint):cL left key arr base n hint=(do
 let __x ← dS left key arr base hint
 match __x with
 | some right =>
  if right=true then do
   let __s ← AY (dS left key arr base) n hint (n - hint)
   match __s.fst with
   | some r=>pure r
   | none=>lF (dS left key arr base) n (hint+__s.snd.fst+1) (hint+min __s.snd.snd (n - hint))
  else do
   let __s ← AZ (dS left key arr base) n hint (hint+1)
   match __s.fst with
   | some r=>pure r
   | none=>lF (dS left key arr base) n (hint+1 - min __s.snd.snd (hint+1)) (hint - __s.snd.fst)
 | _=>pure none):=by
 unfold cL
 walk_at "dl gallop"
 unfold AY AZ lF dS
 dsimp only
 congr 1
 funext x
 cases x with
 | none=>rfl
 | some right =>
  dsimp only
  cases right with
  | true =>
   rw [if_pos rfl,if_pos rfl]
   congr 1
   funext c
   obtain ⟨r,l,o⟩:=c
   cases r with
   | some r=>rfl
   | none =>
    dsimp only
    congr 1
    funext c
    obtain ⟨r,l,o⟩:=c
    cases r <;> rfl
  | false =>
   rw [if_neg Oe,if_neg Oe]
   congr 1
   funext c
   obtain ⟨r,l,o⟩:=c
   cases r with
   | some r=>rfl
   | none =>
    dsimp only
    congr 1
    funext c
    obtain ⟨r,l,o⟩:=c
    cases r <;> rfl
section
noncomputable def iS (prog:Program) (w:World) (A:Around) (s:Shared) (κ:SortKind) (rk:Keyed→Int) (L:List Keyed):Prop :=
 ∀ x∈L,∀ y∈L,∀ (E:Value→Shared→Prop) (Q:Bool→Shared→Prop),Q (decide (rk x<rk y)) s→wpAny (model prog w) A (keyLt' κ x.1 y.1) Q E s
noncomputable def R (rk:Keyed→Int) (xs:Array Keyed) (i:Nat):Int:=match xs[i]? with | some p=>rk p | none=>0
theorem dU (h:xs[i]?=some p):R rk xs i=rk p:=by unfold R; rw [h]
theorem b9 (h:xs[i]?=ys[j]?):R rk xs i=R rk ys j:=by unfold R; rw [h]
theorem lG {st:SortSt} (hC:iS prog w A s κ rk L) (hk:kindOf st=κ) (hx:x∈L) (hy:y∈L) (h:Q (some (decide (rk x<rk y))) st):wpS (model prog w) A E s (lt' x y) Q st:=by
 rw [lt'_eq]
 refine N2 (Pz ?_)
 rw [hk]
 refine N2 (Qu (Qn (hC x hx y hy _ _ ⟨rfl,?_⟩)))
 exact N4 h
theorem aQ {st:SortSt} (hi:arr[i]?=some p) (h:Q p st):wpS (model prog w) A E s (elem' arr i) Q st:=by
 rw [elem'_eq,hi]; exact N4 h
theorem yd {st:SortSt} (hC:iS prog w A s κ rk L) (hk:kindOf st=κ) (hi:(arrOf st)[i]?=some p) (hj:(arrOf st)[j]?=some q) (hp:p∈L) (hq:q∈L)
 (h:Q (some (decide (R rk (arrOf st) i<R rk (arrOf st) j))) st):wpS (model prog w) A E s (ltAt' i j) Q st:=by
 rw [ltAt'_eq]
 refine N2 (Pz ?_)
 show wpS _ _ _ _ (do let x ← elem' (arrOf st) i; let y ← elem' (arrOf st) j; lt' x y) Q st
 refine N2 (aQ hi (N2 (aQ hj (lG hC hk hp hq ?_))))
 rw [dU hi,dU hj] at h
 exact h
theorem uf {st:SortSt} (hC:iS prog w A s κ rk L) (hk:kindOf st=κ) (hkey:key∈L) (hi:arr[base+i]?=some p) (hp:p∈L)
 (hb:(if left=true then rk p<rk key else rk p≤rk key)↔i<k) (h:Q (some (decide (i<k))) st):wpS (model prog w) A E s (dS left key arr base i) Q st:=by
 unfold dS
 refine N2 (aQ hi ?_)
 cases left with
 | true =>
  simp only [if_true] at hb ⊢
  refine lG hC hk hp hkey ?_
  rw [decide_eq_decide.mpr hb]; exact h
 | false =>
  simp only [OV,if_false] at hb ⊢
  refine N2 (lG hC hk hkey hp (N4 ?_))
  have e:(!decide (rk key<rk p))=decide (i<k):=by
   rw [← decide_not]; exact decide_eq_decide.mpr (by rw [← hb]; omega)
  rw [Option.map_some,e]; exact h
theorem lH {st:SortSt} {n lo hi k:Nat} (hb:∀ i,i<n→∀ (Q:Option Bool→SortSt→Prop),Q (some (decide (i<k))) st→wpS (model prog w) A E s (bey i) Q st)
 (h1:lo≤k) (h2:k≤hi) (h3:hi≤n) (h:Q (some k) st):wpS (model prog w) A E s (lF bey n lo hi) Q st:=by
 unfold lF
 refine N2 (OL (O8 (I:=fun x c st'=>st'=st∧∃ l r,c=(none,l,r)∧l≤k∧k≤r∧r≤n∧r - l≤n - x) (Q:=fun c st'=>st'=st∧∃ l,c=(none,l,k)) ?step ?fin ⟨rfl,lo,hi,rfl,h1,h2,h3,by omega⟩) ?post)
 case fin =>
  rintro c st' ⟨rfl,l,r,rfl,a1,a2,a3,a4⟩
  have:r=k:=by omega
  subst this
  exact ⟨rfl,l,rfl⟩
 case step =>
  rintro x c st' _ hx ⟨rfl,l,r,rfl,a1,a2,a3,a4⟩
  dsimp only
  by_cases hge:l≥r
  ·rw [if_pos hge]
   have:r=k:=by omega
   subst this
   exact N4 ⟨rfl,l,rfl⟩
  ·rw [if_neg hge]
   refine N2 (hb _ (by omega) _ ?_)
   dsimp only
   by_cases hm:l+(r - l) / 2<k
   ·rw [decide_eq_true hm,if_pos rfl]
    exact N4 ⟨rfl,_,_,rfl,by omega,by omega,by omega,by omega⟩
   ·rw [decide_eq_false hm,if_neg Oe]
    exact N4 ⟨rfl,_,_,rfl,by omega,by omega,by omega,by omega⟩
 case post =>
  rintro c st' ⟨rfl,l,rfl⟩
  exact N4 h
theorem fP {st:SortSt} (hC:iS prog w A s κ rk L) (hk:kindOf st=κ) (hkey:key∈L) (harr:∀ i,i<n→∃ p,arr[base+i]?=some p∧p∈L)
 (hb:∀ i,i<n→((if left=true then R rk arr (base+i)<rk key else R rk arr (base+i)≤rk key)↔i<k)) (hkn:k≤n) (hh:hint<n) (h:Q (some k) st):wpS (model prog w) A E s (cL left key arr base n hint) Q st:=by
 have bey:∀ i,i<n→∀ (Q:Option Bool→SortSt→Prop),Q (some (decide (i<k))) st→wpS (model prog w) A E s (dS left key arr base i) Q st:=fun i hi Q hQ=>by
  obtain ⟨p,e,hp⟩:=harr i hi
  refine uf hC hk hkey e hp ?_ hQ
  have:=hb i hi
  rw [dU e] at this
  exact this
 rw [ue]
 refine N2 (bey hint hh _ ?_)
 dsimp only
 by_cases hr:hint<k
 ·rw [decide_eq_true hr,if_pos rfl]
  unfold AY
  refine N2 (OL (O8 (I:=fun x c st'=>st'=st∧∃ l o,c=(none,l,o)∧hint+l<k∧x<o) (Q:=fun c st'=>st'=st∧∃ l o,c=(none,l,o)∧hint+l<k∧(k≤hint+o∨n - hint≤o)) ?step ?fin ⟨rfl,0,1,rfl,hr,by omega⟩) ?post)
  case fin =>
   rintro c st' ⟨rfl,l,o,rfl,a1,a2⟩
   exact ⟨rfl,l,o,rfl,a1,.inr (by omega)⟩
  case step =>
   rintro x c st' _ hx ⟨rfl,l,o,rfl,a1,a2⟩
   dsimp only
   by_cases hge:o≥n - hint
   ·rw [if_pos hge]; exact N4 ⟨rfl,l,o,rfl,a1,.inr hge⟩
   ·rw [if_neg hge]
    refine N2 (bey _ (by omega) _ ?_)
    dsimp only
    by_cases hm:hint+o<k
    ·rw [decide_eq_true hm]; simp only [RE,OV,if_false]
     exact N4 ⟨rfl,o,2 * o+1,rfl,hm,by omega⟩
    ·rw [decide_eq_false hm]; simp only [Bool.not_false,if_true]
     exact N4 ⟨rfl,l,o,rfl,a1,.inl (by omega)⟩
  case post =>
   rintro c st' ⟨rfl,l,o,rfl,a1,a2⟩
   dsimp only
   exact lH bey (by omega) (by omega) (by omega) h
 ·rw [decide_eq_false hr,if_neg Oe]
  unfold AZ
  refine N2 (OL (O8 (I:=fun x c st'=>st'=st∧∃ l o,c=(none,l,o)∧l≤hint∧k≤hint - l∧x<o) (Q:=fun c st'=>st'=st∧∃ l o,c=(none,l,o)∧l≤hint∧k≤hint - l∧(hint+1≤k+o∨hint+1≤o)) ?step ?fin ⟨rfl,0,1,rfl,by omega,by omega,by omega⟩) ?post)
  case fin =>
   rintro c st' ⟨rfl,l,o,rfl,a1,a2,a3⟩
   exact ⟨rfl,l,o,rfl,a1,a2,.inr (by omega)⟩
  case step =>
   rintro x c st' _ hx ⟨rfl,l,o,rfl,a1,a2,a3⟩
   dsimp only
   by_cases hge:o≥hint+1
   ·rw [if_pos hge]; exact N4 ⟨rfl,l,o,rfl,a1,a2,.inr hge⟩
   ·rw [if_neg hge]
    refine N2 (bey _ (by omega) _ ?_)
    dsimp only
    by_cases hm:hint - o<k
    ·rw [decide_eq_true hm,if_pos rfl]
     exact N4 ⟨rfl,l,o,rfl,a1,a2,.inl (by omega)⟩
    ·rw [decide_eq_false hm,if_neg Oe]
     exact N4 ⟨rfl,o,2 * o+1,rfl,by omega,by omega,by omega⟩
  case post =>
   rintro c st' ⟨rfl,l,o,rfl,a1,a2,a3⟩
   dsimp only
   exact lH bey (by omega) (by omega) (by omega) h
end
noncomputable def lI:Array Keyed→Array Keyed→StateT SortSt Sem (Array Keyed):=sortPriv% PySem.Builtin.mergeLo
theorem fQ {st:SortSt} (h:Q () (Qs (kindOf st) (arrOf st) (pendingOf st) g (failedOf st))):wpS M A E s (cB g) Q st :=
 PY (f:=fun st=>Qs (kindOf st) (arrOf st) (pendingOf st) g (failedOf st)) h
section
variable {rk:Keyed→Int} {a b:Array Keyed}
noncomputable def A0 (rk:Keyed→Int) (xs:List Keyed):Prop:=xs.Pairwise fun p q=>rk p≤rk q
theorem we (h:xs.length≤1):A0 rk xs:=by
 cases xs with
 | nil=>exact Rr
 | cons x xs =>
  cases xs with
  | nil=>exact QX _ _
  | cons y ys=>simp at h
noncomputable def Res (rk:Keyed→Int) (a b r:Array Keyed):Prop:=r.toList.Perm (a.toList++b.toList)∧A0 rk r.toList
structure WL (rk:Keyed→Int) (a b:Array Keyed) (out:Array Keyed) (ia ib:Nat):Prop where
 pa:ia≤a.size
 pb:ib≤b.size
 pm:out.toList.Perm (a.toList.take ia++b.toList.take ib)
 sr:A0 rk out.toList
 ha:∀ p∈out.toList,∀ (j:Nat) (q:Keyed),ia≤j→a[j]?=some q→rk p≤rk q
 hb:∀ p∈out.toList,∀ (j:Nat) (q:Keyed),ib≤j→b[j]?=some q→rk p≤rk q
noncomputable def Up (rk:Keyed→Int) (a:Array Keyed):Prop:=∀ (i j:Nat) (p q:Keyed),i≤j→a[i]?=some p→a[j]?=some q→rk p≤rk q
theorem jI (h:Up rk a):A0 rk a.toList:=by
 unfold A0
 rw [To]
 intro i j hi hj hij
 exact h i j _ _ (Qq hij) (by simp at hi ⊢) (by simp at hj ⊢)
theorem Ir (h:A0 rk a.toList):Up rk a:=fun i j p q hij e1 e2=>by
 rw [← OT] at e1 e2
 obtain ⟨h1,r1⟩:=Oa.mp e1
 obtain ⟨h2,r2⟩:=Oa.mp e2
 subst r1 r2
 rcases Nat.lt_or_eq_of_le hij with z | z
 ·exact (To.mp h) i j h1 h2 z
 ·subst z; exact Pn _
theorem bM (h1:A0 rk xs) (h2:A0 rk ys) (h3:∀ p∈xs,∀ q∈ys,rk p≤rk q):A0 rk (xs++ys):=List.pairwise_append.mpr ⟨h1,h2,h3⟩
theorem d8 (xs:Array Keyed) (i j):(xs.extract i j).toList=(xs.toList.take j).drop i:=by
 rw [List.drop_take]; simp [List.extract_eq_take_drop]
theorem gT (xs:Array Keyed) (i):(xs.extract i xs.size).toList=xs.toList.drop i:=by
 rw [d8,QY (by simp)]
theorem je (xs:Array Keyed) (i):(xs.extract i i).toList=[]:=by
 rw [d8,List.drop_take]; simp
theorem wg {xs:Array Keyed} (h:q∈(xs.extract i j).toList):∃ k,i≤k∧k<j∧xs[k]?=some q:=by
 obtain ⟨n,hn⟩:=Q0 h
 rw [OT,R7] at hn
 split at hn
 ·rename_i z
  exact ⟨i+n,by lia,by lia,hn⟩
 ·cases hn
theorem WL.jJ (h:WL rk a b out ia ib) (ua:Up rk a) (e:ib=b.size):Res rk a b (out++a.extract ia a.size++b.extract ib b.size):=by
 subst e
 have e0:(out++a.extract ia a.size++b.extract b.size b.size).toList=out.toList++a.toList.drop ia:=by
  rw [Pf,Pf,gT,gT,List.drop_of_length_le (show b.toList.length≤b.size by simp),O7]
 refine ⟨?_,?_⟩
 ·rw [e0]
  have hp:=h.pm
  rw [QY (show b.toList.length≤b.size by simp)] at hp
  refine (hp.append_right _).trans ?_
  have:(a.toList.take ia++b.toList++a.toList.drop ia).Perm (a.toList.take ia++a.toList.drop ia++b.toList):=by
   rw [Om,Om]
   exact QZ _ Qy
  rw [PN] at this
  exact this
 ·rw [e0]
  refine bM h.sr ((jI ua).sublist (Ub _ _)) fun p hp q hq=>?_
  obtain ⟨n,hn⟩:=Q0 hq
  rw [Q5] at hn
  exact h.ha p hp (ia+n) q (by lia) (by rw [← OT]; exact hn)
theorem WL.jK (h:WL rk a b out ia ib) (ub:Up rk b) (e:ia=a.size):Res rk a b (out++a.extract ia a.size++b.extract ib b.size):=by
 subst e
 have e0:(out++a.extract a.size a.size++b.extract ib b.size).toList=out.toList++b.toList.drop ib:=by
  rw [Pf,Pf,gT,gT,List.drop_of_length_le (show a.toList.length≤a.size by simp),O7]
 refine ⟨?_,?_⟩
 ·rw [e0]
  have hp:=h.pm
  rw [QY (show a.toList.length≤a.size by simp)] at hp
  refine (hp.append_right _).trans ?_
  rw [Om,PN]
 ·rw [e0]
  refine bM h.sr ((jI ub).sublist (Ub _ _)) fun p hp q hq=>?_
  obtain ⟨n,hn⟩:=Q0 hq
  rw [Q5] at hn
  exact h.hb p hp (ib+n) q (by lia) (by rw [← OT]; exact hn)
theorem WL.last (h:WL rk a b out ia ib) (ub:Up rk b) (e:ia+1=a.size) (hl:∀ (j:Nat) (p q:Keyed),a[ia]?=some p→b[j]?=some q→rk q≤rk p) :
 Res rk a b (out++b.extract ib b.size++a.extract ia a.size):=by
 have e0:(out++b.extract ib b.size++a.extract ia a.size).toList=out.toList++(b.toList.drop ib++a.toList.drop ia):=by
  rw [Pf,Pf,gT,gT,Om]
 refine ⟨?_,?_⟩
 ·rw [e0]
  refine (h.pm.append_right _).trans ?_
  have:(a.toList.take ia++b.toList.take ib++(b.toList.drop ib++a.toList.drop ia)).Perm (a.toList.take ia++a.toList.drop ia++(b.toList.take ib++b.toList.drop ib)):=by
   rw [Om,Om]
   refine QZ _ ?_
   rw [← Om]
   exact Qy
  rw [PN,PN] at this
  exact this
 ·rw [e0]
  have ml:∀ q∈b.toList.drop ib,∃ j,ib≤j∧b[j]?=some q:=fun q hq=>by
   obtain ⟨n,hn⟩:=Q0 hq
   rw [Q5] at hn
   exact ⟨ib+n,by lia,by rw [← OT]; exact hn⟩
  have ml2:∀ q∈a.toList.drop ia,a[ia]?=some q:=fun q hq=>by
   obtain ⟨n,hn⟩:=Q0 hq
   rw [Q5] at hn
   have:=(Oa.mp hn).1
   have hn0:n=0:=by simp at this; lia
   subst hn0
   rw [← OT]; exact hn
  refine bM h.sr (bM ((jI ub).sublist (Ub _ _)) ?_ fun p hp q hq=>?_) fun p hp q hq=>?_
  ·exact we (by simp; lia)
  ·obtain ⟨j,_,e1⟩:=ml p hp
   exact hl j q p (ml2 q hq) e1
  ·rcases OA.mp hq with z | z
   ·obtain ⟨j,h1,e1⟩:=ml q z
    exact h.hb p hp j q h1 e1
   ·exact h.ha p hp ia q (N3 _) (ml2 q z)
theorem cM {xs:Array Keyed} (h:xs[i]?=some p):xs.toList.take (i+1)=xs.toList.take i++[p]:=by
 rw [T9,OT,h]; rfl
theorem WL.gq {out:Array Keyed} {ia ib:Nat} {p:Keyed} (h:WL rk a b out ia ib) (ub:Up rk b) (e:b[ib]?=some p) (hl:∀ (j:Nat) (q:Keyed),ia≤j→a[j]?=some q→rk p≤rk q):WL rk a b (out.push p) ia (ib+1) where
 pa:=h.pa
 pb:=(QV.mp e).1
 pm:=by
  rw [OM,cM e,← Om]
  exact h.pm.append_right _
 sr:=by
  rw [OM]
  exact bM h.sr (QX _ _) fun q hq r hr=>by
   rw [Ol.mp hr]; exact h.hb q hq ib p (N3 _) e
 ha:=fun q hq j r hj er=>by
  rw [OM] at hq
  rcases OA.mp hq with z | z
  ·exact h.ha q z j r hj er
  ·rw [Ol.mp z]; exact hl j r hj er
 hb:=fun q hq j r hj er=>by
  rw [OM] at hq
  rcases OA.mp hq with z | z
  ·exact h.hb q z j r (by lia) er
  ·rw [Ol.mp z]; exact ub ib j p r (by lia) e er
theorem WL.gr {out:Array Keyed} {ia ib:Nat} {p:Keyed} (h:WL rk a b out ia ib) (ua:Up rk a) (e:a[ia]?=some p) (hl:∀ (j:Nat) (q:Keyed),ib≤j→b[j]?=some q→rk p≤rk q):WL rk a b (out.push p) (ia+1) ib where
 pa:=(QV.mp e).1
 pb:=h.pb
 pm:=by
  rw [OM,cM e]
  refine (h.pm.append_right _).trans ?_
  rw [Om,Om]
  exact QZ _ Qy
 sr:=by
  rw [OM]
  exact bM h.sr (QX _ _) fun q hq r hr=>by
   rw [Ol.mp hr]; exact h.ha q hq ia p (N3 _) e
 hb:=fun q hq j r hj er=>by
  rw [OM] at hq
  rcases OA.mp hq with z | z
  ·exact h.hb q z j r hj er
  ·rw [Ol.mp z]; exact hl j r hj er
 ha:=fun q hq j r hj er=>by
  rw [OM] at hq
  rcases OA.mp hq with z | z
  ·exact h.ha q z j r (by lia) er
  ·rw [Ol.mp z]; exact ua ia j p r (by lia) e er
theorem WL.rg (h:WL rk a b out ia ib) (ua:Up rk a):∀ (k:Nat),ia+k≤a.size→(∀ (i j:Nat) (p q:Keyed),ia≤i→i<ia+k→ib≤j→a[i]?=some p→b[j]?=some q→rk p≤rk q)→WL rk a b (out++a.extract ia (ia+k)) (ia+k) ib
 | 0,_,_=>by
  have:out++a.extract ia (ia+0)=out:=by
   apply Qt
   rw [Pf,Nat.add_zero,je,O7]
  rw [this]; exact h
 | k+1,hk,hl=>by
  have ih:=h.rg ua k (by lia) fun i j p q h1 h2=>hl i j p q h1 (by lia)
  have e:a[ia+k]?=some (a[ia+k]'(by lia)):=OC _
  have z:=ih.gr ua e fun j q hj eq=>hl _ j _ q (by lia) (by lia) hj e eq
  have:out++a.extract ia (ia+(k+1))=(out++a.extract ia (ia+k)).push (a[ia+k]'(by lia)):=by
   apply Qt
   simp only [Pf,OM,d8]
   rw [show ia+(k+1)=(ia+k)+1 by lia,cM e,Uv (by simp; lia),Om]
  rw [this]; exact z
theorem WL.ri (h:WL rk a b out ia ib) (ub:Up rk b):∀ (k:Nat),ib+k≤b.size→(∀ (i j:Nat) (p q:Keyed),ib≤i→i<ib+k→ia≤j→b[i]?=some p→a[j]?=some q→rk p≤rk q)→WL rk a b (out++b.extract ib (ib+k)) ia (ib+k)
 | 0,_,_=>by
  have:out++b.extract ib (ib+0)=out:=by
   apply Qt
   rw [Pf,Nat.add_zero,je,O7]
  rw [this]; exact h
 | k+1,hk,hl=>by
  have ih:=h.ri ub k (by lia) fun i j p q h1 h2=>hl i j p q h1 (by lia)
  have e:b[ib+k]?=some (b[ib+k]'(by lia)):=OC _
  have z:=ih.gq ub e fun j q hj eq=>hl _ j _ q (by lia) (by lia) hj e eq
  have:out++b.extract ib (ib+(k+1))=(out++b.extract ib (ib+k)).push (b[ib+k]'(by lia)):=by
   apply Qt
   simp only [Pf,OM,d8]
   rw [show ib+(k+1)=(ib+k)+1 by lia,cM e,Uv (by simp; lia),Om]
  rw [this]; exact z
end
section
variable {prog:Program} {w:World} {A:Around} {E:Value→Shared→Prop} {s:Shared} {L:List Keyed} {κ:SortKind} {rk:Keyed→Int} {a b:Array Keyed}
theorem lJ (f:Nat→Int) (c):∀ n,(∀ i j,i≤j→j<n→f i≤f j)→∃ k,k≤n∧∀ i,i<n→(f i≤c↔i<k)
 | 0,_=>⟨0,N3 _,fun i hi=>by lia⟩
 | n+1,hm=>by
  obtain ⟨k,h1,h2⟩:=lJ f c n fun i j hij hj=>hm i j hij (by lia)
  by_cases hc:f n≤c
  ·refine ⟨n+1,N3 _,fun i hi=>⟨fun _=>hi,fun _=>?_⟩⟩
   exact OI (hm i n (by lia) (by lia)) hc
  ·refine ⟨k,by lia,fun i hi=>?_⟩
   by_cases hin:i<n
   ·exact h2 i hin
   ·have:i=n:=by lia
    subst this
    exact ⟨fun z=>absurd z hc,fun z=>by lia⟩
theorem lK (f:Nat→Int) (c):∀ n,(∀ i j,i≤j→j<n→f i≤f j)→∃ k,k≤n∧∀ i,i<n→(f i<c↔i<k)
 | 0,_=>⟨0,N3 _,fun i hi=>by lia⟩
 | n+1,hm=>by
  obtain ⟨k,h1,h2⟩:=lK f c n fun i j hij hj=>hm i j hij (by lia)
  by_cases hc:f n<c
  ·refine ⟨n+1,N3 _,fun i hi=>⟨fun _=>hi,fun _=>?_⟩⟩
   exact Sm (hm i n (by lia) (by lia)) hc
  ·refine ⟨k,by lia,fun i hi=>?_⟩
   by_cases hin:i<n
   ·exact h2 i hin
   ·have:i=n:=by lia
    subst this
    exact ⟨fun z=>absurd z hc,fun z=>by lia⟩
theorem Lc (h:Up rk a) (hij:i≤j) (hj:j<a.size):R rk a i≤R rk a j:=by
 have e1:a[i]?=some (a[i]'(by lia)):=OC _
 have e2:a[j]?=some a[j]:=OC _
 rw [dU e1,dU e2]
 exact h i j _ _ hij e1 e2
structure cN (st st':SortSt):Prop where
 k:kindOf st'=kindOf st
 a:arrOf st'=arrOf st
 p:pendingOf st'=pendingOf st
 f:failedOf st'=failedOf st
theorem cN.refl (st:SortSt):cN st st:=⟨rfl,rfl,rfl,rfl⟩
theorem cN.min {st st':SortSt} (h:cN st st') (g):cN st (Qs (kindOf st') (arrOf st') (pendingOf st') g (failedOf st')):=⟨h.k,h.a,h.p,h.f⟩
theorem cN.trans (h:cN s1 s2) (g:cN s2 s3):cN s1 s3:=⟨g.k.trans h.k,g.a.trans h.a,g.p.trans h.p,g.f.trans h.f⟩
theorem rm {st:SortSt} (hC:iS prog w A s κ rk L) (hk:kindOf st=κ) (hkey:key∈L) (mx:∀ (i:Nat) (p:Keyed),xs[i]?=some p→p∈L) (ux:Up rk xs) (n) (hn:base+n≤xs.size) (hh:hint<n)
 (h:∀ k,k≤n→(∀ (i:Nat) (p:Keyed),i<k→xs[base+i]?=some p→rk p≤rk key)→(∀ (i:Nat) (p:Keyed),k≤i→base+i<base+n→xs[base+i]?=some p→rk key<rk p)→Q (some k) st) :
 wpS (model prog w) A E s (cL false key xs base n hint) Q st:=by
 obtain ⟨k,h1,h2⟩:=lJ (fun i=>R rk xs (base+i)) (rk key) n fun i j hij hj=>Lc ux (by lia) (by lia)
 refine fP hC hk hkey (fun i hi=>⟨xs[base+i]'(by lia),OC _,mx _ _ (OC _)⟩) (fun i hi=>by simp only [OV,if_false]; exact h2 i hi) h1 hh (h k h1 (fun i p hi e=>?_) fun i p hi hb e=>?_)
 ·have:=(h2 i (by lia)).mpr hi
  rw [dU e] at this; exact this
 ·have:=mt (h2 i (by lia)).mp (by lia)
  rw [dU e] at this; lia
theorem rA {st:SortSt} (hC:iS prog w A s κ rk L) (hk:kindOf st=κ) (hkey:key∈L) (mx:∀ (i:Nat) (p:Keyed),xs[i]?=some p→p∈L) (ux:Up rk xs) (n) (hn:base+n≤xs.size) (hh:hint<n)
 (h:∀ k,k≤n→(∀ (i:Nat) (p:Keyed),i<k→xs[base+i]?=some p→rk p<rk key)→(∀ (i:Nat) (p:Keyed),k≤i→base+i<base+n→xs[base+i]?=some p→rk key≤rk p)→Q (some k) st) :
 wpS (model prog w) A E s (cL true key xs base n hint) Q st:=by
 obtain ⟨k,h1,h2⟩:=lK (fun i=>R rk xs (base+i)) (rk key) n fun i j hij hj=>Lc ux (by lia) (by lia)
 refine fP hC hk hkey (fun i hi=>⟨xs[base+i]'(by lia),OC _,mx _ _ (OC _)⟩) (fun i hi=>by simp only [if_true]; exact h2 i hi) h1 hh (h k h1 (fun i p hi e=>?_) fun i p hi hb e=>?_)
 ·have:=(h2 i (by lia)).mpr hi
  rw [dU e] at this; exact this
 ·have:=mt (h2 i (by lia)).mp (by lia)
  rw [dU e] at this; lia
structure mS (rk:Keyed→Int) (a b out:Array Keyed) (ia ib:Nat):Prop where
 w:WL rk a b out ia ib
 la:ia+1<a.size
 lb:ib<b.size
end
section
local macro_rules | `(tactic| walk_at "dl mergeLo")=>do
 let i:=QH (Qx `PySem.Builtin.List.W1All `PySem.Builtin.mergeLo)
 `(tactic| delta $i)
noncomputable abbrev A1:=Option (Array Keyed)×Array Keyed×Nat×Nat×Nat×Nat×Nat
noncomputable def Gm (a b out:Array Keyed) (ia ib:Nat):Array Keyed:=out++a.extract ia a.size++b.extract ib b.size
noncomputable def Du (a b out:Array Keyed) (ia ib:Nat):Array Keyed:=out++b.extract ib b.size++a.extract ia a.size
noncomputable def wj (a b:Array Keyed) (mg ac bc ia ib:Nat) (out:Array Keyed):StateT SortSt Sem (ForInStep A1):=do
 let p ← elem' a ia
 if (ia+1+1 == a.size)=true then pure (.done (some (Du a b (out.push p) (ia+1) ib),out.push p,ia+1,ib,mg,ac,bc))
 else if (decide (ac<7) && decide (bc<7))=true then pure (.done (none,out.push p,ia+1,ib,mg,ac,bc))
 else pure (.yield (none,out.push p,ia+1,ib,mg,ac,bc))
noncomputable def wm (a b:Array Keyed) (mg ac bc ia ib:Nat) (out:Array Keyed):StateT SortSt Sem (ForInStep A1):=do
 let q ← elem' b ib
 if (ib+1 == b.size)=true then pure (.done (some (Gm a b (out.push q) ia (ib+1)),out.push q,ia,ib+1,mg,ac,bc))
 else do
  let p ← elem' a ia
  let x ← cL true p b (ib+1) (b.size - (ib+1)) 0
  match x with
  | some k=>(if k>0 then
   (if (ib+1+k == b.size)=true then pure (.done (some (Gm a b (out.push q++b.extract (ib+1) (ib+1+k)) ia (ib+1+k)),out.push q++b.extract (ib+1) (ib+1+k),ia,ib+1+k,mg,ac,k))
    else wj a b mg ac k ia (ib+1+k) (out.push q++b.extract (ib+1) (ib+1+k)))
   else wj a b mg ac k ia (ib+1) (out.push q))
  | _=>pure (.done (some (Gm a b (out.push q) ia (ib+1)),out.push q,ia,ib+1,mg,ac,bc))
noncomputable def wo (a b:Array Keyed) (mg ac bc ia ib:Nat) (out:Array Keyed):StateT SortSt Sem (ForInStep A1):=do
 cB mg
 let q ← elem' b ib
 let x ← cL false q a ia (a.size - ia) 0
 match x with
 | some k=>(if k>0 then
  (if (ia+k+1 == a.size)=true then pure (.done (some (Du a b (out++a.extract ia (ia+k)) (ia+k) ib),out++a.extract ia (ia+k),ia+k,ib,mg,k,bc))
   else if (ia+k == a.size)=true then pure (.done (some (Gm a b (out++a.extract ia (ia+k)) (ia+k) ib),out++a.extract ia (ia+k),ia+k,ib,mg,k,bc))
   else wm a b mg k bc (ia+k) ib (out++a.extract ia (ia+k)))
  else wm a b mg k bc ia ib out)
 | _=>pure (.done (some (Gm a b out ia ib),out,ia,ib,mg,ac,bc))
noncomputable def A2 (a b:Array Keyed) (c:A1):StateT SortSt Sem (ForInStep A1) :=
 if c.2.2.2.2.1>1 then wo a b (c.2.2.2.2.1 - 1) c.2.2.2.2.2.1 c.2.2.2.2.2.2 c.2.2.1 c.2.2.2.1 c.2.1 else wo a b c.2.2.2.2.1 c.2.2.2.2.2.1 c.2.2.2.2.2.2 c.2.2.1 c.2.2.2.1 c.2.1
noncomputable abbrev Iu:=Option (Array Keyed)×Array Keyed×Nat×Nat×Nat×Nat
noncomputable def A3 (a b:Array Keyed) (mg:Nat) (c:Iu):StateT SortSt Sem (ForInStep Iu):=do
 let q ← elem' b c.2.2.2.1
 let p ← elem' a c.2.2.1
 let x ← lt' q p
 match x with
 | some y=>(if y=true then (do
  let q ← elem' b c.2.2.2.1
  if (c.2.2.2.1+1 == b.size)=true then pure (.done (some (Gm a b (c.2.1.push q) c.2.2.1 (c.2.2.2.1+1)),c.2.1.push q,c.2.2.1,c.2.2.2.1+1,0,c.2.2.2.2.2+1))
  else if c.2.2.2.2.2+1≥mg then pure (.done (none,c.2.1.push q,c.2.2.1,c.2.2.2.1+1,0,c.2.2.2.2.2+1))
  else pure (.yield (none,c.2.1.push q,c.2.2.1,c.2.2.2.1+1,0,c.2.2.2.2.2+1)))
  else (do
   let p ← elem' a c.2.2.1
   if (c.2.2.1+1+1 == a.size)=true then pure (.done (some (Du a b (c.2.1.push p) (c.2.2.1+1) c.2.2.2.1),c.2.1.push p,c.2.2.1+1,c.2.2.2.1,c.2.2.2.2.1+1,0))
   else if c.2.2.2.2.1+1≥mg then pure (.done (none,c.2.1.push p,c.2.2.1+1,c.2.2.2.1,c.2.2.2.2.1+1,0))
   else pure (.yield (none,c.2.1.push p,c.2.2.1+1,c.2.2.2.1,c.2.2.2.2.1+1,0))))
 | _=>pure (.done (some (Gm a b c.2.1 c.2.2.1 c.2.2.2.1),c.2.1,c.2.2.1,c.2.2.2.1,c.2.2.2.2.1,c.2.2.2.2.2))
noncomputable abbrev ED:=Option (Array Keyed)×Array Keyed×Nat×Nat×Nat
noncomputable def o9 (a b:Array Keyed) (c:ED):StateT SortSt Sem (ForInStep ED):=do
 let s ← forIn [:a.size+b.size] ((none,c.2.1,c.2.2.1,c.2.2.2.1,0,0):Iu) fun _ s=>A3 a b c.2.2.2.2 s
 match s.1 with
 | some r=>pure (.done (some r,s.2.1,s.2.2.1,s.2.2.2.1,c.2.2.2.2))
 | none=>do
  liftM (rule "list.sort.gallop")
  let t ← forIn [:a.size+b.size] ((none,s.2.1,s.2.2.1,s.2.2.2.1,c.2.2.2.2+1,s.2.2.2.2.1,s.2.2.2.2.2):A1) fun _ t=>A2 a b t
  match t.1 with
  | some r=>pure (.done (some r,t.2.1,t.2.2.1,t.2.2.2.1,t.2.2.2.2.1))
  | none=>do
   cB (t.2.2.2.2.1+1)
   pure (.yield (none,t.2.1,t.2.2.1,t.2.2.2.1,t.2.2.2.2.1+1))
theorem rB (a b):lI a b=(do
 liftM (rule "list.sort.merge-lo")
 let p ← elem' b 0
 if (1 == b.size)=true then pure (Gm a b #[p] 0 1)
 else if (0+1 == a.size)=true then pure (Du a b #[p] 0 1)
 else do
  let st ← get
  let s ← forIn [:a.size+b.size] ((none,#[p],0,1,gallopOf st):ED) fun _ c=>o9 a b c
  match s.1 with
  | some r=>pure r
  | none=>liftM (unsupported (α:=Array Keyed) "internal:list.sort.merge-bound")):=by
 unfold lI
 walk_at "dl mergeLo"
 dsimp only
 refine congrArg _ (funext fun _=>?_)
 refine congrArg _ (funext fun p=>?_)
 refine congrArg _ (congrArg _ ?_)
 refine congrArg _ (funext fun st=>?_)
 have e:∀ (f g:Nat→ED→StateT SortSt Sem (ForInStep ED)) (c:ED) (k:ED→StateT SortSt Sem (Array Keyed)),f=g→(forIn [:a.size+b.size] c f >>= k)=(forIn [:a.size+b.size] c g >>= k):=fun _ _ _ _ h=>by rw [h]
 refine (e _ _ _ _ (funext fun _=>funext fun c=>?_)).trans (congrArg _ (funext fun s=>?_))
 ·obtain ⟨o,out,ia,ib,mg⟩:=c
  unfold o9
  dsimp only
  have e2:∀ (f g:Nat→Iu→StateT SortSt Sem (ForInStep Iu)) (c:Iu) (k l:Iu→StateT SortSt Sem (ForInStep ED)),f=g→k=l→(forIn [:a.size+b.size] c f >>= k)=(forIn [:a.size+b.size] c g >>= l):=fun _ _ _ _ _ h h2=>by rw [h,h2]
  refine e2 _ _ _ _ _ (funext fun _=>funext fun c=>?_) (funext fun s=>?_)
  ·rfl
  ·obtain ⟨o,out,ia,ib,ac,bc⟩:=s
   cases o with
   | some r=>rfl
   | none =>
    dsimp only
    refine congrArg _ (funext fun _=>?_)
    have e3:∀ (f g:Nat→A1→StateT SortSt Sem (ForInStep A1)) (c:A1) (k l:A1→StateT SortSt Sem (ForInStep ED)),f=g→k=l→(forIn [:a.size+b.size] c f >>= k)=(forIn [:a.size+b.size] c g >>= l):=fun _ _ _ _ _ h h2=>by rw [h,h2]
    refine e3 _ _ _ _ _ (funext fun _=>funext fun c=>?_) (funext fun s=>?_)
    ·rfl
    ·obtain ⟨o,s⟩:=s
     cases o <;> rfl
 ·obtain ⟨o,s⟩:=s
  cases o <;> rfl
end
theorem some_at {xs:Array Keyed} (h:i<xs.size):∃ p,xs[i]?=some p:=⟨xs[i],OC h⟩
section
noncomputable def EE (rk:Keyed→Int) (a b:Array Keyed) (n:Nat) (o:Option (Array Keyed)) (ia ib:Nat) (out:Array Keyed):Prop:=(∃ r,o=some r∧Res rk a b r)∨(o=none∧mS rk a b out ia ib∧n≤ia+ib)
noncomputable def EF (rk:Keyed→Int) (a b:Array Keyed) (n:Nat):ForInStep A1→Prop
 | .done c=>EE rk a b n c.1 c.2.2.1 c.2.2.2.1 c.2.1
 | .yield c=>c.1=none∧mS rk a b c.2.1 c.2.2.1 c.2.2.2.1∧n≤c.2.2.1+c.2.2.2.1
theorem nO {st:SortSt} (lA:∀ {out:Array Keyed} {ia ib:Nat},WL rk a b out ia ib→ia+1=a.size→Res rk a b (Du a b out ia ib)) (W:WL rk a b out ia ib) (ua:Up rk a) (la:ia+1<a.size) (lb:ib<b.size) (ep:a[ia]?=some p)
 (hl:∀ (j:Nat) (r:Keyed),ib≤j→b[j]?=some r→rk p≤rk r) (hn:n≤ia+1+ib) (hQ:∀ x,EF rk a b n x→Q x st):wpS (model prog w) A E s (wj a b mg ac bc ia ib out) Q st:=by
 unfold wj
 have W4:=W.gr ua ep hl
 refine N2 (aQ ep ?_)
 by_cases e9:ia+1+1=a.size
 ·rw [if_pos (by simpa using e9)]
  exact N4 (hQ _ (.inl ⟨_,rfl,lA W4 e9⟩))
 rw [if_neg (by simpa using e9)]
 have hL:mS rk a b (out.push p) (ia+1) ib:=⟨W4,Nat.lt_of_le_of_ne la e9,lb⟩
 split
 ·exact N4 (hQ _ (.inr ⟨rfl,hL,hn⟩))
 ·exact N4 (hQ _ ⟨rfl,hL,hn⟩)
theorem pe {xs:Array Keyed} {i j:Nat} (h:i≤j) (e:xs[j]?=some p):xs[i+(j - i)]?=some p:=by rw [TQ h]; exact e
theorem nP {st:SortSt} (hC:iS prog w A s κ rk L) (hk:kindOf st=κ) (ma:∀ (i:Nat) (p:Keyed),a[i]?=some p→p∈L) (mb:∀ (i:Nat) (p:Keyed),b[i]?=some p→p∈L)
 (lA:∀ {out:Array Keyed} {ia ib:Nat},WL rk a b out ia ib→ia+1=a.size→Res rk a b (Du a b out ia ib)) (W:WL rk a b out ia ib) (ua:Up rk a) (ub:Up rk b) (la:ia+1<a.size) (lb:ib<b.size) (eq:b[ib]?=some q)
 (hl:∀ (j:Nat) (r:Keyed),ia≤j→a[j]?=some r→rk q≤rk r) (hn:n≤ia+ib+2) (hQ:∀ x,EF rk a b n x→Q x st):wpS (model prog w) A E s (wm a b mg ac bc ia ib out) Q st:=by
 unfold wm
 have W2:=W.gq ub eq hl
 refine N2 (aQ eq ?_)
 by_cases e5:ib+1=b.size
 ·rw [if_pos (by simpa using e5)]
  exact N4 (hQ _ (.inl ⟨_,rfl,W2.jJ ua e5⟩))
 rw [if_neg (by simpa using e5)]
 obtain ⟨p,ep⟩:=some_at (xs:=a) (i:=ia) (by lia)
 refine N2 (aQ ep ?_)
 refine N2 (rA hC hk (ma _ _ ep) mb ub _ (by lia) (by lia) fun k hj1 hj2 hj3=>?_)
 dsimp only
 have W3:=W2.ri ub k (by lia) fun i j r p' z1 z2 z3 e6 e7=>OI (Qd (hj2 (i - (ib+1)) r (by lia) (pe z1 e6))) (ua ia j p p' z3 ep e7)
 have bwd:∀ (j:Nat) (r:Keyed),ib+1+k≤j→b[j]?=some r→rk p≤rk r:=fun j r hj e6=>hj3 (j - (ib+1)) r (by lia) (by have:=(QV.mp e6).1; lia) (pe (Od (Q7 _ _) hj) e6)
 by_cases hj0:k>0
 ·rw [if_pos hj0]
  by_cases e8:ib+1+k=b.size
  ·rw [if_pos (by simpa using e8)]
   exact N4 (hQ _ (.inl ⟨_,rfl,W3.jJ ua e8⟩))
  rw [if_neg (by simpa using e8)]
  exact nO lA W3 ua la (by lia) ep bwd (by lia) hQ
 ·rw [if_neg hj0]
  exact nO lA W2 ua la (by lia) ep (fun j r hj e6=>bwd j r (by lia) e6) (by lia) hQ
theorem nQ {st:SortSt} (hC:iS prog w A s κ rk L) (hk:kindOf st=κ) (ma:∀ (i:Nat) (p:Keyed),a[i]?=some p→p∈L) (mb:∀ (i:Nat) (p:Keyed),b[i]?=some p→p∈L)
 (lA:∀ {out:Array Keyed} {ia ib:Nat},WL rk a b out ia ib→ia+1=a.size→Res rk a b (Du a b out ia ib)) (ua:Up rk a) (ub:Up rk b) (hL:mS rk a b out ia ib) (hn:n≤ia+ib) (hQ:∀ x st',cN st st'→EF rk a b n x→Q x st') :
 wpS (model prog w) A E s (wo a b mg ac bc ia ib out) Q st:=by
 unfold wo
 have W:=hL.w
 have la:=hL.la
 have lb:=hL.lb
 obtain ⟨q,eq⟩:=some_at (xs:=b) lb
 refine N2 (fQ ?_)
 have GK:=fun x=>hQ x _ ((cN.refl st).min mg)
 refine N2 (aQ eq ?_)
 refine N2 (rm hC (by exact hk) (mb _ _ eq) ma ua _ (by lia) (by lia) fun k hk1 hk2 hk3=>?_)
 dsimp only
 have Wk:=W.rg ua k (by lia) fun i j p r z1 z2 z3 e3 e4=>OI (hk2 (i - ia) p (by lia) (pe z1 e3)) (ub ib j q r z3 eq e4)
 have fwd:∀ (j:Nat) (r:Keyed),ia+k≤j→a[j]?=some r→rk q≤rk r:=fun j r hj e3=>Qd (hk3 (j - ia) r (by lia) (by have:=(QV.mp e3).1; lia) (pe (Od (Q7 _ _) hj) e3))
 by_cases hk0:k>0
 ·rw [if_pos hk0]
  by_cases e3:ia+k+1=a.size
  ·rw [if_pos (by simpa using e3)]
   exact N4 (GK _ (.inl ⟨_,rfl,lA Wk e3⟩))
  rw [if_neg (by simpa using e3)]
  by_cases e4:ia+k=a.size
  ·rw [if_pos (by simpa using e4)]
   exact N4 (GK _ (.inl ⟨_,rfl,Wk.jK ub e4⟩))
  rw [if_neg (by simpa using e4)]
  exact nP hC (by exact hk) ma mb lA Wk ua ub (by lia) lb eq fwd (by lia) GK
 ·rw [if_neg hk0]
  exact nP hC (by exact hk) ma mb lA W ua ub la lb eq (fun j r hj e3=>fwd j r (by lia) e3) (by lia) GK
theorem ye {st:SortSt} (hC:iS prog w A s κ rk L) (hk:kindOf st=κ) (ma:∀ (i:Nat) (p:Keyed),a[i]?=some p→p∈L) (mb:∀ (i:Nat) (p:Keyed),b[i]?=some p→p∈L)
 (lA:∀ {out:Array Keyed} {ia ib:Nat},WL rk a b out ia ib→ia+1=a.size→Res rk a b (Du a b out ia ib)) (ua:Up rk a) (ub:Up rk b) (hL:mS rk a b c.2.1 c.2.2.1 c.2.2.2.1) (hn:n≤c.2.2.1+c.2.2.2.1+1)
 (hQ:∀ o ia ib out z y,EE rk a b n o ia ib out→Q (.done (o,out,ia,ib,z)) st∧(o=none→Q (.yield (none,out,ia,ib,y)) st)):wpS (model prog w) A E s (A3 a b mg c) Q st:=by
 obtain ⟨_,out,ia,ib,ac,bc⟩:=c
 unfold A3
 dsimp only at hL hn ⊢
 have W:=hL.w
 have la:=hL.la
 have lb:=hL.lb
 obtain ⟨q,eq⟩:=some_at (xs:=b) lb
 obtain ⟨p,ep⟩:=some_at (xs:=a) (Nat.lt_of_succ_lt la)
 refine N2 (aQ eq (N2 (aQ ep (N2 (lG hC hk (mb _ _ eq) (ma _ _ ep) ?_)))))
 dsimp only
 by_cases hw:rk q<rk p
 ·rw [decide_eq_true hw,if_pos rfl]
  have W1:=W.gq ub eq fun j r hj e=>OI (Qd hw) (ua ia j p r hj ep e)
  refine N2 (aQ eq ?_)
  by_cases e3:ib+1=b.size
  ·rw [if_pos (by simpa using e3)]
   exact N4 (hQ _ _ _ _ _ (0,0) (.inl ⟨_,rfl,W1.jJ ua e3⟩)).1
  rw [if_neg (by simpa using e3)]
  have z:=hQ none ia (ib+1) (out.push q) (0,bc+1) (0,bc+1) (.inr ⟨rfl,⟨W1,la,by lia⟩,by lia⟩)
  split
  ·exact N4 z.1
  ·exact N4 (z.2 rfl)
 ·rw [decide_eq_false hw,if_neg Oe]
  have W1:=W.gr ua ep fun j r hj e=>OI (Int.not_lt.mp hw) (ub ib j q r hj eq e)
  refine N2 (aQ ep ?_)
  by_cases e3:ia+1+1=a.size
  ·rw [if_pos (by simpa using e3)]
   exact N4 (hQ _ _ _ _ _ (0,0) (.inl ⟨_,rfl,lA W1 e3⟩)).1
  rw [if_neg (by simpa using e3)]
  have z:=hQ none (ia+1) ib (out.push p) (ac+1,0) (ac+1,0) (.inr ⟨rfl,⟨W1,by lia,lb⟩,by lia⟩)
  split
  ·exact N4 z.1
  ·exact N4 (z.2 rfl)
theorem ug {st:SortSt} (hC:iS prog w A s κ rk L) (hk:kindOf st=κ) (ma:∀ (i:Nat) (p:Keyed),a[i]?=some p→p∈L) (mb:∀ (i:Nat) (p:Keyed),b[i]?=some p→p∈L)
 (lA:∀ {out:Array Keyed} {ia ib:Nat},WL rk a b out ia ib→ia+1=a.size→Res rk a b (Du a b out ia ib)) (ua:Up rk a) (ub:Up rk b) (hL:mS rk a b c.2.1 c.2.2.1 c.2.2.2.1) (hn:n≤c.2.2.1+c.2.2.2.1+1)
 (h1:∀ r z st',cN st st'→Res rk a b r→Q (.done (some r,z)) st') (h2:∀ ia ib out g st',cN st st'→mS rk a b out ia ib→n≤ia+ib→Q (.yield (none,out,ia,ib,g)) st'):wpS (model prog w) A E s (o9 a b c) Q st:=by
 unfold o9
 refine N2 (OL (O8 (I:=fun y c st'=>st'=st∧c.1=none∧mS rk a b c.2.1 c.2.2.1 c.2.2.2.1∧n+y≤c.2.2.1+c.2.2.2.1+1) (Q:=fun c st'=>st'=st∧EE rk a b n c.1 c.2.2.1 c.2.2.2.1 c.2.1) ?step ?fin ⟨rfl,rfl,hL,hn⟩) ?post)
 case fin =>
  rintro c st' ⟨rfl,hc,hL',hx⟩
  exact ⟨rfl,.inr ⟨hc,hL',by have:=hL'.la; have:=hL'.lb; lia⟩⟩
 case step =>
  rintro y c st' _ hy ⟨rfl,_,hL',hx⟩
  refine ye (n:=n+y) hC hk ma mb lA ua ub hL' hx fun o ia ib out z y hR=>⟨?_,?_⟩
  ·refine ⟨rfl,?_⟩
   rcases hR with hR | ⟨q1,q2,q3⟩
   ·exact .inl hR
   ·exact .inr ⟨q1,q2,Od (Q7 _ _) q3⟩
  ·rintro rfl
   rcases hR with ⟨_,q,_⟩ | ⟨q1,q2,q3⟩
   ·cases q
   ·exact ⟨rfl,rfl,q2,Sx q3⟩
 case post =>
  rintro ⟨o,out,ia,ib,ac,bc⟩ st' ⟨rfl,hR⟩
  dsimp only at hR ⊢
  rcases hR with ⟨r,rfl,hr⟩ | ⟨rfl,hL2,hn2⟩
  ·exact N4 (h1 r _ _ (.refl _) hr)
  refine N2 (Qu (Po ⟨rfl,?_⟩))
  refine N2 (OL (O8 (I:=fun y c st''=>cN st' st''∧c.1=none∧mS rk a b c.2.1 c.2.2.1 c.2.2.2.1∧n≤c.2.2.1+c.2.2.2.1) (Q:=fun c st''=>cN st' st''∧EE rk a b n c.1 c.2.2.1 c.2.2.2.1 c.2.1) ?gstep ?gfin ⟨.refl _,rfl,hL2,hn2⟩) ?gpost)
  case gfin=>exact fun c st'' ⟨q1,q2,q3,q4⟩=>⟨q1,.inr ⟨q2,q3,q4⟩⟩
  case gstep =>
   rintro y c st'' _ _ ⟨q1,q2,q3,q4⟩
   have key:wpS (model prog w) A E s (A2 a b c) (fun x st3=>cN st'' st3∧EF rk a b n x) st'':=by
    unfold A2
    split
    ·exact nQ hC (q1.k.trans hk) ma mb lA ua ub q3 q4 fun x st3 k h=>⟨k,h⟩
    ·exact nQ hC (q1.k.trans hk) ma mb lA ua ub q3 q4 fun x st3 k h=>⟨k,h⟩
   refine OL key fun x st3 ⟨k,h⟩=>?_
   cases x with
   | done c=>exact ⟨q1.trans k,h⟩
   | yield c=>exact ⟨q1.trans k,h⟩
  case gpost =>
   rintro ⟨o,out,ia,ib,g,ac,bc⟩ st'' ⟨q1,hR⟩
   dsimp only at hR ⊢
   rcases hR with ⟨r,rfl,hr⟩ | ⟨rfl,hL3,hn3⟩
   ·exact N4 (h1 r _ _ q1 hr)
   ·exact N2 (fQ (N4 (h2 _ _ _ _ _ (q1.min _) hL3 hn3)))
theorem rC {st:SortSt} (hC:iS prog w A s κ rk L) (hk:kindOf st=κ) (ma:∀ (i:Nat) (p:Keyed),a[i]?=some p→p∈L) (mb:∀ (i:Nat) (p:Keyed),b[i]?=some p→p∈L) (ua:Up rk a) (ub:Up rk b) (na:1≤a.size) (nb:1≤b.size)
 (h0:∀ p q,a[0]?=some p→b[0]?=some q→rk q≤rk p) (hl:∀ (j:Nat) (p q:Keyed),a[a.size - 1]?=some p→b[j]?=some q→rk q≤rk p) (h:∀ r st',Res rk a b r→cN st st'→Q r st'):wpS (model prog w) A E s (lI a b) Q st:=by
 have lastA:∀ {out:Array Keyed} {ia ib:Nat},WL rk a b out ia ib→ia+1=a.size→Res rk a b (Du a b out ia ib):=fun hw e=>hw.last ub e fun j p q e1 e2=>hl j p q (by rw [← e]; exact e1) e2
 obtain ⟨q0,eq0⟩:=some_at (xs:=b) (i:=0) nb
 obtain ⟨p0,ep0⟩:=some_at (xs:=a) (i:=0) na
 have W0:WL rk a b #[q0] 0 1:=by
  have z:WL rk a b #[] 0 0:=⟨OO _,OO _,by simp,Rr,by simp,by simp⟩
  exact z.gq ub eq0 fun j q _ e=>OI (h0 p0 q0 ep0 eq0) (ua 0 j p0 q (OO _) ep0 e)
 rw [rB]
 refine N2 (Qu (Po ⟨rfl,?_⟩))
 refine N2 (aQ eq0 ?_)
 by_cases e1:1=b.size
 ·rw [if_pos (by simpa using e1)]
  exact N4 (h _ _ (W0.jJ ua e1) (.refl _))
 rw [if_neg (by simpa using e1)]
 by_cases e2:0+1=a.size
 ·rw [if_pos (by simpa using e2)]
  exact N4 (h _ _ (lastA W0 e2) (.refl _))
 rw [if_neg (by simpa using e2)]
 refine N2 (Pz ?_)
 refine N2 (OL (O8 (I:=fun x c st'=>cN st st'∧c.1=none∧mS rk a b c.2.1 c.2.2.1 c.2.2.2.1∧x+1≤c.2.2.1+c.2.2.2.1) (Q:=fun c st'=>cN st st'∧∃ r,c.1=some r∧Res rk a b r) ?step ?fin ⟨.refl _,rfl,⟨W0,by dsimp only; lia,by dsimp only; lia⟩,by dsimp only; lia⟩) ?post)
 case fin =>
  rintro c st' ⟨hK,hc,hL,hx⟩
  have h1:=hL.la
  have h2:=hL.lb
  lia
 case post =>
  rintro c st' ⟨hK,r,hc,hr⟩
  rw [hc]
  exact N4 (h r st' hr hK)
 case step =>
  rintro x c st1 _ hx ⟨hK,_,hL,hn⟩
  exact ug (n:=x+2) hC (hK.k.trans hk) ma mb lastA ua ub hL (Sx hn) (fun r z st' k hr=>⟨hK.trans k,r,rfl,hr⟩) fun ia ib out g st' k q1 q2=>⟨hK.trans k,rfl,q1,q2⟩
end
noncomputable def lM:Array Keyed→Array Keyed→StateT SortSt Sem (Array Keyed):=sortPriv% PySem.Builtin.mergeHi
local macro_rules | `(tactic| walk_at "dl mergeHi")=>do
 let i:=QH (Qx `PySem.Builtin.List.W1All `PySem.Builtin.mergeHi)
 `(tactic| delta $i)
section
variable {rk:Keyed→Int} {a b:Array Keyed}
structure WH (rk:Keyed→Int) (a b:Array Keyed) (out:Array Keyed) (na nb:Nat):Prop where
 pa:na≤a.size
 pb:nb≤b.size
 pm:out.toList.Perm (a.toList.drop na++b.toList.drop nb)
 sr:A0 rk out.toList.reverse
 ha:∀ p∈out.toList,∀ (j:Nat) (q:Keyed),j<na→a[j]?=some q→rk q≤rk p
 hb:∀ p∈out.toList,∀ (j:Nat) (q:Keyed),j<nb→b[j]?=some q→rk q≤rk p
theorem dz (xs:Array Keyed) (i):(xs.extract 0 i).toList=xs.toList.take i:=by rw [d8,List.drop_zero]
theorem jf {xs:Array Keyed} (h:q∈xs.toList.take i):∃ j,j<i∧xs[j]?=some q:=by
 obtain ⟨n,hn⟩:=Q0 h
 have hl:=(Oa.mp hn).1
 rw [Pc] at hl
 rw [R0 (by lia)] at hn
 exact ⟨n,by lia,by rw [← OT]; exact hn⟩
theorem WH.res (h:WH rk a b out na nb) (x) (hx:x.toList.Perm (a.toList.take na++b.toList.take nb)) (hs:A0 rk x.toList):Res rk a b (x++out.reverse):=by
 have e0:(x++out.reverse).toList=x.toList++out.toList.reverse:=by simp
 refine ⟨?_,?_⟩
 ·rw [e0]
  refine (hx.append ((Ss _).trans h.pm)).trans ?_
  have:(a.toList.take na++b.toList.take nb++(a.toList.drop na++b.toList.drop nb)).Perm (a.toList.take na++a.toList.drop na++(b.toList.take nb++b.toList.drop nb)):=by
   rw [Om,Om]
   refine QZ _ ?_
   rw [← Om,← Om]
   exact List.Perm.append_right _ Qy
  rw [PN,PN] at this
  exact this
 ·rw [e0]
  refine bM hs h.sr fun p hp q hq=>?_
  have hq':q∈out.toList:=by simpa using hq
  rcases OA.mp (hx.mem_iff.mp hp) with z | z
  ·obtain ⟨j,h1,e⟩:=jf z
   exact h.ha q hq' j p h1 e
  ·obtain ⟨j,h1,e⟩:=jf z
   exact h.hb q hq' j p h1 e
theorem WH.jK (h:WH rk a b out na nb) (ub:Up rk b) (e:na=0):Res rk a b (a.extract 0 na++b.extract 0 nb++out.reverse):=by
 subst e
 refine h.res _ ?_ ?_
 ·simp [dz]
 ·have:(a.extract 0 0++b.extract 0 nb).toList=b.toList.take nb:=by rw [Pf,dz,dz]; simp
  rw [this]; exact (jI ub).sublist (Sq _ _)
theorem WH.jJ (h:WH rk a b out na nb) (ua:Up rk a) (e:nb=0):Res rk a b (a.extract 0 na++b.extract 0 nb++out.reverse):=by
 subst e
 refine h.res _ ?_ ?_
 ·simp [dz]
 ·have:(a.extract 0 na++b.extract 0 0).toList=a.toList.take na:=by rw [Pf,dz,dz]; simp
  rw [this]; exact (jI ua).sublist (Sq _ _)
theorem WH.first (h:WH rk a b out na nb) (ua:Up rk a) (e:nb=1) (hf:∀ (j:Nat) (p q:Keyed),a[j]?=some p→b[0]?=some q→rk q≤rk p) :
 Res rk a b (b.extract 0 nb++a.extract 0 na++out.reverse):=by
 subst e
 have e1:(b.extract 0 1++a.extract 0 na).toList=b.toList.take 1++a.toList.take na:=by rw [Pf,dz,dz]
 refine h.res _ ?_ ?_
 ·rw [e1]; exact Qy
 ·rw [e1]
  refine bM ?_ ((jI ua).sublist (Sq _ _)) fun p hp q hq=>?_
  ·exact we (by simp; lia)
  ·obtain ⟨j,h1,e2⟩:=jf hp
   obtain ⟨j2,h2,e3⟩:=jf hq
   have:j=0:=by lia
   subst this
   exact hf j2 q p e3 e2
theorem nR {xs:Array Keyed} (hi:1≤i) (h:xs[i - 1]?=some p):xs.toList.drop (i - 1)=p::xs.toList.drop i:=by
 rw [← OT] at h
 obtain ⟨h1,h2⟩:=Oa.mp h
 rw [RW h1,h2,show i - 1+1=i by lia]
theorem WH.gr {out:Array Keyed} {na nb:Nat} {p:Keyed} (h:WH rk a b out na nb) (ua:Up rk a) (hn:1≤na) (e:a[na - 1]?=some p) (hl:∀ (j:Nat) (q:Keyed),j<nb→b[j]?=some q→rk q≤rk p):WH rk a b (out.push p) (na - 1) nb where
 pa:=by have:=h.pa; lia
 pb:=h.pb
 pm:=by
  rw [OM,nR hn e]
  refine (h.pm.append_right _).trans ?_
  rw [Pq]
  exact Qy
 sr:=by
  rw [OM,TR]
  exact bM (QX _ _) h.sr fun r hr q hq=>by
   have hr':r=p:=by simpa using hr
   rw [hr']
   exact h.ha q (by simpa using hq) (na - 1) p (by lia) e
 ha:=fun q hq j r hj er=>by
  rw [OM] at hq
  rcases OA.mp hq with z | z
  ·exact h.ha q z j r (by lia) er
  ·rw [Ol.mp z]; exact ua j (na - 1) r p (by lia) er e
 hb:=fun q hq j r hj er=>by
  rw [OM] at hq
  rcases OA.mp hq with z | z
  ·exact h.hb q z j r hj er
  ·rw [Ol.mp z]; exact hl j r hj er
theorem WH.gq {out:Array Keyed} {na nb:Nat} {p:Keyed} (h:WH rk a b out na nb) (ub:Up rk b) (hn:1≤nb) (e:b[nb - 1]?=some p) (hl:∀ (j:Nat) (q:Keyed),j<na→a[j]?=some q→rk q≤rk p):WH rk a b (out.push p) na (nb - 1) where
 pa:=h.pa
 pb:=by have:=h.pb; lia
 pm:=by
  rw [OM,nR hn e]
  refine (h.pm.append_right _).trans ?_
  rw [Om]
  exact QZ _ Qy
 sr:=by
  rw [OM,TR]
  exact bM (QX _ _) h.sr fun r hr q hq=>by
   have hr':r=p:=by simpa using hr
   rw [hr']
   exact h.hb q (by simpa using hq) (nb - 1) p (by lia) e
 hb:=fun q hq j r hj er=>by
  rw [OM] at hq
  rcases OA.mp hq with z | z
  ·exact h.hb q z j r (by lia) er
  ·rw [Ol.mp z]; exact ub j (nb - 1) r p (by lia) er e
 ha:=fun q hq j r hj er=>by
  rw [OM] at hq
  rcases OA.mp hq with z | z
  ·exact h.ha q z j r hj er
  ·rw [Ol.mp z]; exact hl j r hj er
theorem wu {xs:Array Keyed} (h:m<n) (e:xs[m]?=some p):(xs.extract m n).reverse=(xs.extract (m+1) n).reverse.push p:=by
 apply Qt
 rw [OM,Q2,Q2,d8,d8]
 rw [← OT] at e
 obtain ⟨h1,h2⟩:=Oa.mp e
 have h3:m<(xs.toList.take n).length:=by rw [Pc]; lia
 rw [RW h3,List.reverse_cons,List.getElem_take,h2]
theorem rD (xs ys:Array Keyed) (p):xs++ys.push p=(xs++ys).push p:=by
 apply Qt; simp
theorem WH.rg (h:WH rk a b out na nb) (ua:Up rk a):∀ (k m:Nat),m+k=na→(∀ (i j:Nat) (p q:Keyed),m≤i→i<na→j<nb→a[i]?=some p→b[j]?=some q→rk q≤rk p)→WH rk a b (out++(a.extract m na).reverse) m nb
 | 0,m,hm,_=>by
  have e:m=na:=by lia
  subst e
  have:out++(a.extract m m).reverse=out:=by
   apply Qt
   rw [Pf,Q2,je,List.reverse_nil,O7]
  rw [this]; exact h
 | k+1,m,hm,hl=>by
  have hp:=h.pa
  have ih:=h.rg ua k (m+1) (by lia) fun i j p q h1 h2=>hl i j p q (by lia) h2
  have e:a[m+1 - 1]?=some (a[m]'(by lia)):=OC (show m<a.size by lia)
  have z:=ih.gr ua (by lia) e fun j q hj eq=>hl m j _ q (N3 _) (by lia) hj (OC (show m<a.size by lia)) eq
  rw [wu (show m<na by lia) (OC (show m<a.size by lia)),rD]
  exact z
theorem WH.ri (h:WH rk a b out na nb) (ub:Up rk b):∀ (k m:Nat),m+k=nb→(∀ (i j:Nat) (p q:Keyed),m≤i→i<nb→j<na→b[i]?=some p→a[j]?=some q→rk q≤rk p)→WH rk a b (out++(b.extract m nb).reverse) na m
 | 0,m,hm,_=>by
  have e:m=nb:=by lia
  subst e
  have:out++(b.extract m m).reverse=out:=by
   apply Qt
   rw [Pf,Q2,je,List.reverse_nil,O7]
  rw [this]; exact h
 | k+1,m,hm,hl=>by
  have hp:=h.pb
  have ih:=h.ri ub k (m+1) (by lia) fun i j p q h1 h2=>hl i j p q (by lia) h2
  have e:b[m+1 - 1]?=some (b[m]'(by lia)):=OC (show m<b.size by lia)
  have z:=ih.gq ub (by lia) e fun j q hj eq=>hl m j _ q (N3 _) (by lia) hj (OC (show m<b.size by lia)) eq
  rw [wu (show m<nb by lia) (OC (show m<b.size by lia)),rD]
  exact z
structure iu (rk:Keyed→Int) (a b out:Array Keyed) (na nb:Nat):Prop where
 w:WH rk a b out na nb
 la:1≤na
 lb:2≤nb
end
noncomputable abbrev A4:=Option (Array Keyed)×Nat×Nat×Array Keyed×Nat×Nat×Nat
noncomputable def Gn (a b out:Array Keyed) (na nb:Nat):Array Keyed:=a.extract 0 na++b.extract 0 nb++out.reverse
noncomputable def EG (a b out:Array Keyed) (na nb:Nat):Array Keyed:=b.extract 0 nb++a.extract 0 na++out.reverse
noncomputable def wz (a b:Array Keyed) (mg ac bc na nb:Nat) (out:Array Keyed):StateT SortSt Sem (ForInStep A4):=do
 let p ← elem' a (na - 1)
 if (na - 1 == 0)=true then pure (.done (some (Gn a b (out.push p) (na - 1) nb),na - 1,nb,out.push p,mg,ac,bc))
 else if (decide (ac<7) && decide (bc<7))=true then pure (.done (none,na - 1,nb,out.push p,mg,ac,bc))
 else pure (.yield (none,na - 1,nb,out.push p,mg,ac,bc))
noncomputable def wA (a b:Array Keyed) (mg ac bc na nb:Nat) (out:Array Keyed):StateT SortSt Sem (ForInStep A4):=do
 let q ← elem' b (nb - 1)
 if (nb - 1 == 1)=true then pure (.done (some (EG a b (out.push q) na (nb - 1)),na,nb - 1,out.push q,mg,ac,bc))
 else do
  let p ← elem' a (na - 1)
  let x ← cL true p b 0 (nb - 1) (nb - 1 - 1)
  match x with
  | some k=>(if nb - 1 - k>0 then
   (if (k == 1)=true then pure (.done (some (EG a b (out.push q++(b.extract k (nb - 1)).reverse) na k),na,k,out.push q++(b.extract k (nb - 1)).reverse,mg,ac,nb - 1 - k))
    else if (k == 0)=true then pure (.done (some (Gn a b (out.push q++(b.extract k (nb - 1)).reverse) na k),na,k,out.push q++(b.extract k (nb - 1)).reverse,mg,ac,nb - 1 - k))
    else wz a b mg ac (nb - 1 - k) na k (out.push q++(b.extract k (nb - 1)).reverse))
   else wz a b mg ac (nb - 1 - k) na (nb - 1) (out.push q))
  | _=>pure (.done (some (Gn a b (out.push q) na (nb - 1)),na,nb - 1,out.push q,mg,ac,bc))
noncomputable def wB (a b:Array Keyed) (mg ac bc na nb:Nat) (out:Array Keyed):StateT SortSt Sem (ForInStep A4):=do
 cB mg
 let q ← elem' b (nb - 1)
 let x ← cL false q a 0 na (na - 1)
 match x with
 | some k=>(if na - k>0 then
  (if (k == 0)=true then pure (.done (some (Gn a b (out++(a.extract k na).reverse) k nb),k,nb,out++(a.extract k na).reverse,mg,na - k,bc))
   else wA a b mg (na - k) bc k nb (out++(a.extract k na).reverse))
  else wA a b mg (na - k) bc na nb out)
 | _=>pure (.done (some (Gn a b out na nb),na,nb,out,mg,ac,bc))
noncomputable def A5 (a b:Array Keyed) (c:A4):StateT SortSt Sem (ForInStep A4) :=
 if c.2.2.2.2.1>1 then wB a b (c.2.2.2.2.1 - 1) c.2.2.2.2.2.1 c.2.2.2.2.2.2 c.2.1 c.2.2.1 c.2.2.2.1 else wB a b c.2.2.2.2.1 c.2.2.2.2.2.1 c.2.2.2.2.2.2 c.2.1 c.2.2.1 c.2.2.2.1
noncomputable abbrev Iv:=Option (Array Keyed)×Nat×Nat×Array Keyed×Nat×Nat
noncomputable def A6 (a b:Array Keyed) (mg:Nat) (c:Iv):StateT SortSt Sem (ForInStep Iv):=do
 let q ← elem' b (c.2.2.1 - 1)
 let p ← elem' a (c.2.1 - 1)
 let x ← lt' q p
 match x with
 | some y=>(if y=true then (do
  let p ← elem' a (c.2.1 - 1)
  if (c.2.1 - 1 == 0)=true then pure (.done (some (Gn a b (c.2.2.2.1.push p) (c.2.1 - 1) c.2.2.1),c.2.1 - 1,c.2.2.1,c.2.2.2.1.push p,c.2.2.2.2.1+1,0))
  else if c.2.2.2.2.1+1≥mg then pure (.done (none,c.2.1 - 1,c.2.2.1,c.2.2.2.1.push p,c.2.2.2.2.1+1,0))
  else pure (.yield (none,c.2.1 - 1,c.2.2.1,c.2.2.2.1.push p,c.2.2.2.2.1+1,0)))
  else (do
   let q ← elem' b (c.2.2.1 - 1)
   if (c.2.2.1 - 1 == 1)=true then pure (.done (some (EG a b (c.2.2.2.1.push q) c.2.1 (c.2.2.1 - 1)),c.2.1,c.2.2.1 - 1,c.2.2.2.1.push q,0,c.2.2.2.2.2+1))
   else if c.2.2.2.2.2+1≥mg then pure (.done (none,c.2.1,c.2.2.1 - 1,c.2.2.2.1.push q,0,c.2.2.2.2.2+1))
   else pure (.yield (none,c.2.1,c.2.2.1 - 1,c.2.2.2.1.push q,0,c.2.2.2.2.2+1))))
 | _=>pure (.done (some (Gn a b c.2.2.2.1 c.2.1 c.2.2.1),c.2.1,c.2.2.1,c.2.2.2.1,c.2.2.2.2.1,c.2.2.2.2.2))
noncomputable abbrev Dv:=Option (Array Keyed)×Nat×Nat×Array Keyed×Nat
noncomputable def jL (a b:Array Keyed) (c:Dv):StateT SortSt Sem (ForInStep Dv):=do
 let s ← forIn [:a.size+b.size] ((none,c.2.1,c.2.2.1,c.2.2.2.1,0,0):Iv) fun _ s=>A6 a b c.2.2.2.2 s
 match s.1 with
 | some r=>pure (.done (some r,s.2.1,s.2.2.1,s.2.2.2.1,c.2.2.2.2))
 | none=>do
  liftM (rule "list.sort.gallop")
  let t ← forIn [:a.size+b.size] ((none,s.2.1,s.2.2.1,s.2.2.2.1,c.2.2.2.2+1,s.2.2.2.2.1,s.2.2.2.2.2):A4) fun _ t=>A5 a b t
  match t.1 with
  | some r=>pure (.done (some r,t.2.1,t.2.2.1,t.2.2.2.1,t.2.2.2.2.1))
  | none=>do
   cB (t.2.2.2.2.1+1)
   pure (.yield (none,t.2.1,t.2.2.1,t.2.2.2.1,t.2.2.2.2.1+1))
theorem rE (a b):lM a b=(do
 liftM (rule "list.sort.merge-hi")
 let p ← elem' a (a.size - 1)
 if (a.size - 1 == 0)=true then pure (Gn a b #[p] (a.size - 1) b.size)
 else if (b.size == 1)=true then pure (EG a b #[p] (a.size - 1) b.size)
 else do
  let st ← get
  let s ← forIn [:a.size+b.size] ((none,a.size - 1,b.size,#[p],gallopOf st):Dv) fun _ c=>jL a b c
  match s.1 with
  | some r=>pure r
  | none=>liftM (unsupported (α:=Array Keyed) "internal:list.sort.merge-bound")):=by
 unfold lM
 walk_at "dl mergeHi"
 dsimp only
 refine congrArg _ (funext fun _=>?_)
 refine congrArg _ (funext fun p=>?_)
 refine congrArg _ (congrArg _ ?_)
 refine congrArg _ (funext fun st=>?_)
 have h1:∀ (c:Dv),jL a b c=jL a b c:=fun _=>rfl
 have e:∀ (f g:Nat→Dv→StateT SortSt Sem (ForInStep Dv)) (c:Dv) (k:Dv→StateT SortSt Sem (Array Keyed)),f=g→(forIn [:a.size+b.size] c f >>= k)=(forIn [:a.size+b.size] c g >>= k):=fun _ _ _ _ h=>by rw [h]
 refine (e _ _ _ _ (funext fun _=>funext fun c=>?_)).trans (congrArg _ (funext fun s=>?_))
 ·obtain ⟨o,na,nb,out,mg⟩:=c
  unfold jL
  dsimp only
  have e2:∀ (f g:Nat→Iv→StateT SortSt Sem (ForInStep Iv)) (c:Iv) (k l:Iv→StateT SortSt Sem (ForInStep Dv)),f=g→k=l→(forIn [:a.size+b.size] c f >>= k)=(forIn [:a.size+b.size] c g >>= l):=fun _ _ _ _ _ h h2=>by rw [h,h2]
  refine e2 _ _ _ _ _ (funext fun _=>funext fun c=>?_) (funext fun s=>?_)
  ·rfl
  ·obtain ⟨o,na,nb,out,ac,bc⟩:=s
   cases o with
   | some r=>rfl
   | none =>
    dsimp only
    refine congrArg _ (funext fun _=>?_)
    have e3:∀ (f g:Nat→A4→StateT SortSt Sem (ForInStep A4)) (c:A4) (k l:A4→StateT SortSt Sem (ForInStep Dv)),f=g→k=l→(forIn [:a.size+b.size] c f >>= k)=(forIn [:a.size+b.size] c g >>= l):=fun _ _ _ _ _ h h2=>by rw [h,h2]
    refine e3 _ _ _ _ _ (funext fun _=>funext fun c=>?_) (funext fun s=>?_)
    ·rfl
    ·obtain ⟨o,s⟩:=s
     cases o <;> rfl
 ·obtain ⟨o,s⟩:=s
  cases o <;> rfl
section
noncomputable def EH (rk:Keyed→Int) (a b:Array Keyed) (n:Nat) (o:Option (Array Keyed)) (na nb:Nat) (out:Array Keyed):Prop:=(∃ r,o=some r∧Res rk a b r)∨(o=none∧iu rk a b out na nb∧na+nb≤n)
noncomputable def EI (rk:Keyed→Int) (a b:Array Keyed) (n:Nat):ForInStep A4→Prop
 | .done c=>EH rk a b n c.1 c.2.1 c.2.2.1 c.2.2.2.1
 | .yield c=>c.1=none∧iu rk a b c.2.2.2.1 c.2.1 c.2.2.1∧c.2.1+c.2.2.1≤n
theorem nS {st:SortSt} (W:WH rk a b out na nb) (ua:Up rk a) (ub:Up rk b) (la:1≤na) (lb:2≤nb) (ep:a[na - 1]?=some p)
 (hl:∀ (j:Nat) (r:Keyed),j<nb→b[j]?=some r→rk r≤rk p) (hn:na - 1+nb≤n) (hQ:∀ x,EI rk a b n x→Q x st):wpS (model prog w) A E s (wz a b mg ac bc na nb out) Q st:=by
 unfold wz
 have W4:=W.gr ua la ep hl
 refine N2 (aQ ep ?_)
 by_cases e9:na - 1=0
 ·rw [if_pos (by simpa using e9)]
  exact N4 (hQ _ (.inl ⟨_,rfl,W4.jK ub e9⟩))
 rw [if_neg (by simpa using e9)]
 have hL:iu rk a b (out.push p) (na - 1) nb:=⟨W4,TF.mpr e9,lb⟩
 split
 ·exact N4 (hQ _ (.inr ⟨rfl,hL,hn⟩))
 ·exact N4 (hQ _ ⟨rfl,hL,hn⟩)
theorem nT {st:SortSt} (hC:iS prog w A s κ rk L) (hk:kindOf st=κ) (ma:∀ (i:Nat) (p:Keyed),a[i]?=some p→p∈L) (mb:∀ (i:Nat) (p:Keyed),b[i]?=some p→p∈L)
 (fB:∀ {out:Array Keyed} {na nb:Nat},WH rk a b out na nb→nb=1→Res rk a b (EG a b out na nb)) (W:WH rk a b out na nb) (ua:Up rk a) (ub:Up rk b) (la:1≤na) (lb:2≤nb) (eq:b[nb - 1]?=some q)
 (hl:∀ (j:Nat) (r:Keyed),j<na→a[j]?=some r→rk r≤rk q) (hn:na+nb≤n+2) (hQ:∀ x,EI rk a b n x→Q x st):wpS (model prog w) A E s (wA a b mg ac bc na nb out) Q st:=by
 unfold wA
 have W2:=W.gq ub (Nat.le_of_succ_le lb) eq hl
 have hpa:=W.pa
 have hpb:=W.pb
 refine N2 (aQ eq ?_)
 by_cases e5:nb - 1=1
 ·rw [if_pos (by simpa using e5)]
  exact N4 (hQ _ (.inl ⟨_,rfl,fB W2 e5⟩))
 rw [if_neg (by simpa using e5)]
 have lb1:2≤nb - 1:=by lia
 obtain ⟨p,ep⟩:=some_at (xs:=a) (i:=na - 1) (by lia)
 refine N2 (aQ ep ?_)
 refine N2 (rA hC hk (ma _ _ ep) mb ub _ (by lia) (by lia) fun k hj1 hj2 hj3=>?_)
 dsimp only
 have dn2:∀ (i:Nat) (r:Keyed),i<k→b[i]?=some r→rk r<rk p:=fun i r z1 e6=>hj2 i r z1 (by rw [Qp]; exact e6)
 by_cases hj0:nb - 1 - k>0
 ·rw [if_pos hj0]
  have W3:=W2.ri ub (nb - 1 - k) k (TQ hj1) fun i j r p' z1 z2 z3 e6 e7=>OI (ua j (na - 1) p' p (Sb z3) e7 ep) (hj3 i r z1 (Nat.add_lt_add_left z2 0) (by rw [Qp]; exact e6))
  by_cases e8:k=1
  ·rw [if_pos (by simpa using e8)]
   exact N4 (hQ _ (.inl ⟨_,rfl,fB W3 e8⟩))
  rw [if_neg (by simpa using e8)]
  by_cases e10:k=0
  ·rw [if_pos (by simpa using e10)]
   exact N4 (hQ _ (.inl ⟨_,rfl,W3.jJ ua e10⟩))
  rw [if_neg (by simpa using e10)]
  exact nS W3 ua ub la (by lia) ep (fun j r hj e6=>Qd (dn2 j r hj e6)) (by lia) hQ
 ·rw [if_neg hj0]
  exact nS W2 ua ub la lb1 ep (fun j r hj e6=>Qd (dn2 j r (by lia) e6)) (by lia) hQ
theorem nU {st:SortSt} (hC:iS prog w A s κ rk L) (hk:kindOf st=κ) (ma:∀ (i:Nat) (p:Keyed),a[i]?=some p→p∈L) (mb:∀ (i:Nat) (p:Keyed),b[i]?=some p→p∈L)
 (fB:∀ {out:Array Keyed} {na nb:Nat},WH rk a b out na nb→nb=1→Res rk a b (EG a b out na nb)) (ua:Up rk a) (ub:Up rk b) (hL:iu rk a b out na nb) (hn:na+nb≤n) (hQ:∀ x st',cN st st'→EI rk a b n x→Q x st') :
 wpS (model prog w) A E s (wB a b mg ac bc na nb out) Q st:=by
 unfold wB
 have W:=hL.w
 have la:=hL.la
 have lb:=hL.lb
 have hpa:=W.pa
 have hpb:=W.pb
 obtain ⟨q,eq⟩:=some_at (xs:=b) (i:=nb - 1) (by lia)
 refine N2 (fQ ?_)
 have GK:=fun x=>hQ x _ ((cN.refl st).min mg)
 refine N2 (aQ eq ?_)
 refine N2 (rm hC (by exact hk) (mb _ _ eq) ma ua _ (by lia) (by lia) fun k hk1 hk2 hk3=>?_)
 dsimp only
 have dn1:∀ (i:Nat) (p:Keyed),i<k→a[i]?=some p→rk p≤rk q:=fun i p z1 e3=>hk2 i p z1 (by rw [Qp]; exact e3)
 by_cases hk0:na - k>0
 ·rw [if_pos hk0]
  have Wk:=W.rg ua (na - k) k (TQ hk1) fun i j p r z1 z2 z3 e3 e4=>OI (ub j (nb - 1) r q (Sb z3) e4 eq) (Qd (hk3 i p z1 (Nat.add_lt_add_left z2 0) (by rw [Qp]; exact e3)))
  by_cases e4:k=0
  ·rw [if_pos (by simpa using e4)]
   exact N4 (GK _ (.inl ⟨_,rfl,Wk.jK ub e4⟩))
  rw [if_neg (by simpa using e4)]
  exact nT hC (by exact hk) ma mb fB Wk ua ub (TF.mpr e4) lb eq dn1 (by lia) GK
 ·rw [if_neg hk0]
  exact nT hC (by exact hk) ma mb fB W ua ub la lb eq (fun j r hj e3=>dn1 j r (by lia) e3) (by lia) GK
theorem yf {st:SortSt} (hC:iS prog w A s κ rk L) (hk:kindOf st=κ) (ma:∀ (i:Nat) (p:Keyed),a[i]?=some p→p∈L) (mb:∀ (i:Nat) (p:Keyed),b[i]?=some p→p∈L)
 (fB:∀ {out:Array Keyed} {na nb:Nat},WH rk a b out na nb→nb=1→Res rk a b (EG a b out na nb)) (ua:Up rk a) (ub:Up rk b) (hL:iu rk a b c.2.2.2.1 c.2.1 c.2.2.1) (hn:c.2.1+c.2.2.1≤n+1)
 (hQ:∀ o na nb out z y,EH rk a b n o na nb out→Q (.done (o,na,nb,out,z)) st∧(o=none→Q (.yield (none,na,nb,out,y)) st)):wpS (model prog w) A E s (A6 a b mg c) Q st:=by
 obtain ⟨_,na,nb,out,ac,bc⟩:=c
 unfold A6
 dsimp only at hL hn ⊢
 have W:=hL.w
 have la:=hL.la
 have lb:=hL.lb
 have hpa:=W.pa
 have hpb:=W.pb
 obtain ⟨q,eq⟩:=some_at (xs:=b) (i:=nb - 1) (by lia)
 obtain ⟨p,ep⟩:=some_at (xs:=a) (i:=na - 1) (by lia)
 refine N2 (aQ eq (N2 (aQ ep (N2 (lG hC hk (mb _ _ eq) (ma _ _ ep) ?_)))))
 dsimp only
 by_cases hw:rk q<rk p
 ·rw [decide_eq_true hw,if_pos rfl]
  have W1:=W.gr ua la ep fun j r hj e=>OI (ub j (nb - 1) r q (Sb hj) e eq) (Qd hw)
  refine N2 (aQ ep ?_)
  by_cases e3:na - 1=0
  ·rw [if_pos (by simpa using e3)]
   exact N4 (hQ _ _ _ _ _ (0,0) (.inl ⟨_,rfl,W1.jK ub e3⟩)).1
  rw [if_neg (by simpa using e3)]
  have z:=hQ none (na - 1) nb (out.push p) (ac+1,0) (ac+1,0) (.inr ⟨rfl,⟨W1,TF.mpr e3,lb⟩,by lia⟩)
  split
  ·exact N4 z.1
  ·exact N4 (z.2 rfl)
 ·rw [decide_eq_false hw,if_neg Oe]
  have W1:=W.gq ub (Nat.le_of_succ_le lb) eq fun j r hj e=>OI (ua j (na - 1) r p (Sb hj) e ep) (Int.not_lt.mp hw)
  refine N2 (aQ eq ?_)
  by_cases e3:nb - 1=1
  ·rw [if_pos (by simpa using e3)]
   exact N4 (hQ _ _ _ _ _ (0,0) (.inl ⟨_,rfl,fB W1 e3⟩)).1
  rw [if_neg (by simpa using e3)]
  have z:=hQ none na (nb - 1) (out.push q) (0,bc+1) (0,bc+1) (.inr ⟨rfl,⟨W1,la,by lia⟩,by lia⟩)
  split
  ·exact N4 z.1
  ·exact N4 (z.2 rfl)
theorem uh {st:SortSt} (hC:iS prog w A s κ rk L) (hk:kindOf st=κ) (ma:∀ (i:Nat) (p:Keyed),a[i]?=some p→p∈L) (mb:∀ (i:Nat) (p:Keyed),b[i]?=some p→p∈L)
 (fB:∀ {out:Array Keyed} {na nb:Nat},WH rk a b out na nb→nb=1→Res rk a b (EG a b out na nb)) (ua:Up rk a) (ub:Up rk b) (hL:iu rk a b c.2.2.2.1 c.2.1 c.2.2.1) (hn:c.2.1+c.2.2.1≤n+1) (hm:n+1≤a.size+b.size)
 (h1:∀ r z st',cN st st'→Res rk a b r→Q (.done (some r,z)) st') (h2:∀ na nb out g st',cN st st'→iu rk a b out na nb→na+nb≤n→Q (.yield (none,na,nb,out,g)) st'):wpS (model prog w) A E s (jL a b c) Q st:=by
 unfold jL
 refine N2 (OL (O8 (I:=fun y c st'=>st'=st∧c.1=none∧iu rk a b c.2.2.2.1 c.2.1 c.2.2.1∧y+c.2.1+c.2.2.1≤n+1) (Q:=fun c st'=>st'=st∧EH rk a b n c.1 c.2.1 c.2.2.1 c.2.2.2.1) ?step ?fin ⟨rfl,rfl,hL,by dsimp only; lia⟩) ?post)
 case fin =>
  rintro c st' ⟨rfl,hc,hL',hx⟩
  exact ⟨rfl,.inr ⟨hc,hL',by lia⟩⟩
 case step =>
  rintro y c st' _ hy ⟨rfl,_,hL',hx⟩
  refine yf (n:=n - y) hC hk ma mb fB ua ub hL' (by have:=hL'.la; have:=hL'.lb; lia) fun o na nb out z y hR=>⟨?_,?_⟩
  ·refine ⟨rfl,?_⟩
   rcases hR with hR | ⟨q1,q2,q3⟩
   ·exact .inl hR
   ·exact .inr ⟨q1,q2,by dsimp only; lia⟩
  ·rintro rfl
   rcases hR with ⟨_,q,_⟩ | ⟨q1,q2,q3⟩
   ·cases q
   ·exact ⟨rfl,rfl,q2,by have:=q2.la; have:=q2.lb; dsimp only; lia⟩
 case post =>
  rintro ⟨o,na,nb,out,ac,bc⟩ st' ⟨rfl,hR⟩
  dsimp only at hR ⊢
  rcases hR with ⟨r,rfl,hr⟩ | ⟨rfl,hL2,hn2⟩
  ·exact N4 (h1 r _ _ (.refl _) hr)
  refine N2 (Qu (Po ⟨rfl,?_⟩))
  refine N2 (OL (O8 (I:=fun y c st''=>cN st' st''∧c.1=none∧iu rk a b c.2.2.2.1 c.2.1 c.2.2.1∧c.2.1+c.2.2.1≤n) (Q:=fun c st''=>cN st' st''∧EH rk a b n c.1 c.2.1 c.2.2.1 c.2.2.2.1) ?gstep ?gfin ⟨.refl _,rfl,hL2,hn2⟩) ?gpost)
  case gfin=>exact fun c st'' ⟨q1,q2,q3,q4⟩=>⟨q1,.inr ⟨q2,q3,q4⟩⟩
  case gstep =>
   rintro y c st'' _ _ ⟨q1,q2,q3,q4⟩
   have key:wpS (model prog w) A E s (A5 a b c) (fun x st3=>cN st'' st3∧EI rk a b n x) st'':=by
    unfold A5
    split
    ·exact nU hC (q1.k.trans hk) ma mb fB ua ub q3 q4 fun x st3 k h=>⟨k,h⟩
    ·exact nU hC (q1.k.trans hk) ma mb fB ua ub q3 q4 fun x st3 k h=>⟨k,h⟩
   refine OL key fun x st3 ⟨k,h⟩=>?_
   cases x with
   | done c=>exact ⟨q1.trans k,h⟩
   | yield c=>exact ⟨q1.trans k,h⟩
  case gpost =>
   rintro ⟨o,na,nb,out,g,ac,bc⟩ st'' ⟨q1,hR⟩
   dsimp only at hR ⊢
   rcases hR with ⟨r,rfl,hr⟩ | ⟨rfl,hL3,hn3⟩
   ·exact N4 (h1 r _ _ q1 hr)
   ·exact N2 (fQ (N4 (h2 _ _ _ _ _ (q1.min _) hL3 hn3)))
theorem rF {st:SortSt} (hC:iS prog w A s κ rk L) (hk:kindOf st=κ) (ma:∀ (i:Nat) (p:Keyed),a[i]?=some p→p∈L) (mb:∀ (i:Nat) (p:Keyed),b[i]?=some p→p∈L) (ua:Up rk a) (ub:Up rk b) (na1:1≤a.size) (nb1:1≤b.size)
 (h0:∀ p q,a[0]?=some p→b[0]?=some q→rk q≤rk p) (hl:∀ (j:Nat) (p q:Keyed),a[a.size - 1]?=some p→b[j]?=some q→rk q≤rk p) (h:∀ r st',Res rk a b r→cN st st'→Q r st'):wpS (model prog w) A E s (lM a b) Q st:=by
 obtain ⟨p0,ep0⟩:=some_at (xs:=a) (i:=0) na1
 have firstB:∀ {out:Array Keyed} {na nb:Nat},WH rk a b out na nb→nb=1→Res rk a b (EG a b out na nb):=fun hw e=>hw.first ua e fun j p q e1 e2=>OI (h0 p0 q ep0 e2) (ua 0 j p0 p (OO _) ep0 e1)
 obtain ⟨pl,epl⟩:=some_at (xs:=a) (i:=a.size - 1) (by lia)
 have W0:WH rk a b #[pl] (a.size - 1) b.size:=by
  have z:WH rk a b #[] a.size b.size:=⟨N3 _,N3 _,by simp,Rr,by simp,by simp⟩
  exact z.gr ua na1 epl fun j q _ e=>hl j pl q epl e
 rw [rE]
 refine N2 (Qu (Po ⟨rfl,?_⟩))
 refine N2 (aQ epl ?_)
 by_cases e1:a.size - 1=0
 ·rw [if_pos (by simpa using e1)]
  exact N4 (h _ _ (W0.jK ub e1) (.refl _))
 rw [if_neg (by simpa using e1)]
 by_cases e2:b.size=1
 ·rw [if_pos (by simpa using e2)]
  exact N4 (h _ _ (firstB W0 e2) (.refl _))
 rw [if_neg (by simpa using e2)]
 refine N2 (Pz ?_)
 refine N2 (OL (O8 (I:=fun x c st'=>cN st st'∧c.1=none∧iu rk a b c.2.2.2.1 c.2.1 c.2.2.1∧x+c.2.1+c.2.2.1<a.size+b.size) (Q:=fun c st'=>cN st st'∧∃ r,c.1=some r∧Res rk a b r) ?step ?fin ⟨.refl _,rfl,⟨W0,by dsimp only; lia,by dsimp only; lia⟩,by dsimp only; lia⟩) ?post)
 case fin =>
  rintro c st' ⟨hK,hc,hL,hx⟩
  have h1:=hL.la
  lia
 case post =>
  rintro c st' ⟨hK,r,hc,hr⟩
  rw [hc]
  exact N4 (h r st' hr hK)
 case step =>
  rintro x c st1 _ hx ⟨hK,_,hL,hn⟩
  have l1:=hL.la
  have l2:=hL.lb
  exact uh (n:=a.size+b.size - x - 2) hC (hK.k.trans hk) ma mb firstB ua ub hL (by lia) (by lia) (fun r z st' k hr=>⟨hK.trans k,r,rfl,hr⟩) fun na nb out g st' k q1 q2=>⟨hK.trans k,rfl,q1,by have:=q1.la; dsimp only; lia⟩
end
noncomputable def Seg (rk:Keyed→Int) (xs:Array Keyed) (lo hi:Nat):Prop:=∀ i j,lo≤i→i≤j→j<hi→R rk xs i≤R rk xs j
noncomputable def Gp (rk:Keyed→Int) (xs:Array Keyed) (lo hi:Nat):Prop:=∀ i j,lo≤i→i≤j→j<hi→R rk xs j≤R rk xs i
structure Bs (κ:SortKind) (L:List Keyed) (st:SortSt):Prop where
 perm:(arrOf st).toList.Perm L
 kind:kindOf st=κ
 failed:failedOf st=none
structure Mv (st st':SortSt) (lo hi:Nat):Prop where
 out:∀ i,i<lo∨hi≤i→(arrOf st')[i]?=(arrOf st)[i]?
 pend:pendingOf st'=pendingOf st
section
variable {st st' st'':SortSt} {lo hi:Nat}
theorem Bs.size (h:Bs κ L st):(arrOf st).size=L.length:=by simpa using h.perm.length_eq
theorem Bs.at (h:Bs κ L st) (hi:i<L.length):∃ p,(arrOf st)[i]?=some p∧p∈L:=by
 have hs:=h.size
 refine ⟨(arrOf st)[i]'(by lia),OC _,h.perm.mem_iff.mp ?_⟩
 rw [TM]; exact Uc _
theorem Bs.arr (h:Bs κ L st) (hp:xs.toList.Perm (arrOf st).toList):Bs κ L (setArr st xs):=⟨hp.trans h.perm,h.kind,h.failed⟩
theorem Mv.refl:Mv st st lo hi:=⟨fun _ _=>rfl,rfl⟩
theorem Mv.trans (a:Mv st st' lo hi) (b:Mv st' st'' lo hi):Mv st st'' lo hi:=⟨fun i h=>(b.out i h).trans (a.out i h),b.pend.trans a.pend⟩
theorem A7 (hj:j≤xs.size) (k):R rk (mirror xs i j ((j - i) / 2)) k=if i≤k∧k<j then R rk xs (i+j - 1 - k) else R rk xs k:=by
 have e:=getElem?_mirror_all (i:=i) hj k
 by_cases h:i≤k∧k<j
 ·rw [if_pos h] at e ⊢; exact b9 e
 ·rw [if_neg h] at e ⊢; exact b9 e
theorem lN (hj:j≤(arrOf st).size) (h1:lo≤i) (h2:j≤hi):Mv st (setArr st (mirror (arrOf st) i j ((j - i) / 2))) lo hi :=
 ⟨fun k hk=>by
   have e:=getElem?_mirror_all (i:=i) hj k
   rw [if_neg (by lia)] at e; exact e,rfl⟩
theorem EJ (i) (xs):Seg rk xs i (i+1):=fun a b h1 h2 h3=>by
 have:a=b:=by lia
 subst this; exact Pn _
theorem A8 (h:Seg rk xs lo (lo+n)) (hn:1≤n) (hl:¬ R rk xs (lo+n)<R rk xs (lo+n - 1)):Seg rk xs lo (lo+(n+1)):=fun a b h1 h2 h3=>by
 by_cases hb:b<lo+n
 ·exact h a b h1 h2 hb
 ·have e:b=lo+n:=by lia
  subst e
  by_cases ha:a=lo+n
  ·subst ha; exact Pn _
  ·exact OI (h a (lo+n - 1) h1 (by lia) (by lia)) (Int.not_lt.mp hl)
theorem gu (h:Gp rk xs lo (lo+n)) (hn:1≤n) (hl:R rk xs (lo+n)≤R rk xs (lo+n - 1)):Gp rk xs lo (lo+(n+1)):=fun a b h1 h2 h3=>by
 by_cases hb:b<lo+n
 ·exact h a b h1 h2 hb
 ·have e:b=lo+n:=by lia
  subst e
  by_cases ha:a=lo+n
  ·subst ha; exact Pn _
  ·exact OI hl (h a (lo+n - 1) h1 (by lia) (by lia))
end
section
variable {st:SortSt} {lo nrem:Nat}
theorem lO (hC:iS prog w A s κ rk L) (hB:Bs κ L st) (hi:i<L.length) (hj:j<L.length) (h:Q (some (decide (R rk (arrOf st) i<R rk (arrOf st) j))) st):wpS (model prog w) A E s (ltAt' i j) Q st:=by
 obtain ⟨p,ep,hp⟩:=hB.at hi
 obtain ⟨q,eq,hq⟩:=hB.at hj
 exact yd hC hB.kind ep eq hp hq h
theorem eU (h:Q () (setArr st (mirror (arrOf st) i j ((j - i) / 2)))):wpS (model prog w) A E s (reverseSlice' i j) Q st :=
 PY (f:=fun s=>setArr s (mirror (arrOf s) i j ((j - i) / 2))) h
noncomputable abbrev Ld:=Option (Option Nat)×Nat
noncomputable def asc (lo a nrem:Nat):StateT SortSt Sem Ld :=
 forIn [a:nrem] ((none,a):Ld) fun _ c=>ltAt' (lo+c.2) (lo+c.2 - 1) >>= fun x=>match x with
  | some smaller=>if smaller=true then pure (Pw (none,c.2)) else pure (OY (none,c.2+1))
  | _=>pure (Pw (some none,c.2))
theorem wC (hC:iS prog w A s κ rk L) (hB:Bs κ L st) (hn:lo+nrem≤L.length) (h1:1≤a) (h2:a≤nrem) (hs:Seg rk (arrOf st) lo (lo+a))
 (h:∀ n,a≤n→n≤nrem→Seg rk (arrOf st) lo (lo+n)→(n=nrem∨R rk (arrOf st) (lo+n)<R rk (arrOf st) (lo+n - 1))→Q (none,n) st):wpS (model prog w) A E s (asc lo a nrem) Q st:=by
 unfold asc
 refine O8 (I:=fun x c st'=>st'=st∧c=(none,x)∧Seg rk (arrOf st) lo (lo+x)) ?step ?fin ⟨rfl,rfl,hs⟩
 case fin =>
  rintro c st' ⟨rfl,rfl,hs'⟩
  rw [show max a nrem=nrem by lia] at hs' ⊢
  exact h nrem h2 (N3 _) hs' (.inl rfl)
 case step =>
  rintro x c st' hax hxn ⟨rfl,rfl,hs'⟩
  refine N2 (lO hC hB (by dsimp only; lia) (by dsimp only; lia) ?_)
  dsimp only
  by_cases hl:R rk (arrOf st') (lo+x)<R rk (arrOf st') (lo+x - 1)
  ·rw [decide_eq_true hl,if_pos rfl]
   exact N4 (h x hax (by lia) hs' (.inr hl))
  ·rw [decide_eq_false hl,if_neg Oe]
   exact N4 ⟨rfl,rfl,A8 hs' (by lia) hl⟩
noncomputable abbrev Le:=Option (Option Nat)×Nat×Nat
noncomputable def Lf (lo n nrem:Nat):StateT SortSt Sem Le :=
 forIn [n:nrem] ((none,n,0):Le) fun _ c=>ltAt' (lo+c.2.1) (lo+c.2.1 - 1) >>= fun x=>match x with
  | some smaller=>if smaller=true then
   (if c.2.2>0 then reverseSlice' (lo+c.2.1 - (c.2.2+1)) (lo+c.2.1) >>= fun _=>pure (OY (none,c.2.1+1,0)) else pure (OY (none,c.2.1+1,0)))
   else ltAt' (lo+c.2.1 - 1) (lo+c.2.1) >>= fun y=>match y with
    | some larger=>if larger=true then pure (Pw (none,c.2.1,c.2.2)) else pure (OY (none,c.2.1+1,c.2.2+1))
    | _=>pure (Pw (some none,c.2.1,c.2.2))
  | _=>pure (Pw (some none,c.2.1,c.2.2))
theorem jg (hj:j≤xs.size) (he:∀ k,i≤k→k<j→R rk xs k=R rk xs (j - 1)) (k):R rk (mirror xs i j ((j - i) / 2)) k=R rk xs k:=by
 rw [A7 hj]
 split
 ·rw [he _ (by lia) (by lia),he k (by lia) (by lia)]
 ·rfl
theorem EK (hC:iS prog w A s κ rk L) (hB:Bs κ L st) (hn:lo+nrem≤L.length) (h1:1≤n) (h2:n≤nrem) (hs:Gp rk (arrOf st) lo (lo+n))
 (h:∀ m neq st',Bs κ L st'→Mv st st' lo (lo+nrem)→n≤m→m≤nrem→Gp rk (arrOf st') lo (lo+m)→neq+1≤m→(∀ i,lo+m - (neq+1)≤i→i<lo+m→R rk (arrOf st') i=R rk (arrOf st') (lo+m - 1))→Q (none,m,neq) st') :
 wpS (model prog w) A E s (Lf lo n nrem) Q st:=by
 unfold Lf
 refine O8 (I:=fun x c st'=>∃ neq,c=(none,x,neq)∧Bs κ L st'∧Mv st st' lo (lo+nrem)∧Gp rk (arrOf st') lo (lo+x)∧neq+1≤x∧(∀ i,lo+x - (neq+1)≤i→i<lo+x→R rk (arrOf st') i=R rk (arrOf st') (lo+x - 1))) ?step ?fin
  ⟨0,rfl,hB,.refl,hs,h1,fun i a1 a2=>by congr 1; lia⟩
 case fin =>
  rintro c st' ⟨neq,rfl,jZ,hM',hs',hq,he⟩
  rw [show max n nrem=nrem by lia] at hs' hq he ⊢
  exact h nrem neq st' jZ hM' h2 (N3 _) hs' hq he
 case step =>
  rintro x c st' hax hxn ⟨neq,rfl,jZ,hM',hs',hq,he⟩
  have hsz:=jZ.size
  refine N2 (lO hC jZ (by dsimp only; lia) (by dsimp only; lia) ?_)
  dsimp only
  by_cases hl:R rk (arrOf st') (lo+x)<R rk (arrOf st') (lo+x - 1)
  ·rw [decide_eq_true hl,if_pos rfl]
   by_cases hq0:neq>0
   ·rw [if_pos hq0]
    have key:=jg (rk:=rk) (xs:=arrOf st') (i:=lo+x - (neq+1)) (j:=lo+x) (by lia) he
    refine N2 (eU (N4 ⟨0,rfl,jZ.arr (QU.mp (RL _ _ _ _)),hM'.trans (lN (by lia) (by lia) (by lia)),?_,by lia,fun i a1 a2=>by congr 1; lia⟩))
    refine gu (fun a b z1 z2 z3=>?_) (by lia) ?_
    ·show R rk (mirror _ _ _ _) b≤R rk (mirror _ _ _ _) a
     rw [key,key]; exact hs' a b z1 z2 z3
    ·show R rk (mirror _ _ _ _) _≤R rk (mirror _ _ _ _) _
     rw [key,key]; lia
   ·rw [if_neg hq0]
    exact N4 ⟨0,rfl,jZ,hM',gu hs' (by lia) (by lia),by lia,fun i a1 a2=>by congr 1; lia⟩
  ·rw [decide_eq_false hl,if_neg Oe]
   refine N2 (lO hC jZ (by lia) (by lia) ?_)
   dsimp only
   by_cases hg:R rk (arrOf st') (lo+x - 1)<R rk (arrOf st') (lo+x)
   ·rw [decide_eq_true hg,if_pos rfl]
    exact N4 (h x neq st' jZ hM' hax (by lia) hs' hq he)
   ·rw [decide_eq_false hg,if_neg Oe]
    have heq:R rk (arrOf st') (lo+x)=R rk (arrOf st') (lo+x - 1):=by lia
    refine N4 ⟨neq+1,rfl,jZ,hM',gu hs' (by lia) (by lia),by lia,fun i a1 a2=>?_⟩
    rw [show lo+(x+1) - 1=lo+x by lia]
    by_cases hi:i=lo+x
    ·rw [hi]
    ·rw [heq]; exact he i (by lia) (by lia)
noncomputable def countRun':Nat→Nat→StateT SortSt Sem (Option Nat):=sortPriv% PySem.Builtin.countRun
theorem jh {Q:Option Nat→SortSt→Prop} (hC:iS prog w A s κ rk L) (hB:Bs κ L st) (hn:lo+nrem≤L.length) (h1:1≤n) (h2:n≤nrem) (hs:Gp rk (arrOf st) lo (lo+n))
 (h:∀ m st',Bs κ L st'→Mv st st' lo (lo+nrem)→1≤m→m≤nrem→Seg rk (arrOf st') lo (lo+m)→Q (some m) st') :
 wpS (model prog w) A E s (asc lo n nrem) (fun c st'=>c.1=none∧Q (some c.2) st') (setArr st (mirror (arrOf st) lo (lo+n) ((lo+n - lo) / 2))):=by
 have hsz:=hB.size
 have jZ:=hB.arr (QU.mp (RL (arrOf st) lo (lo+n) ((lo+n - lo) / 2)))
 refine wC hC jZ hn h1 h2 (fun a b z1 z2 z3=>?_) fun m m1 m2 ms _=>⟨rfl,h m _ jZ (lN (by lia) (N3 _) (by lia)) (by lia) m2 ms⟩
 show R rk (mirror _ _ _ _) a≤R rk (mirror _ _ _ _) b
 rw [A7 (by lia),A7 (by lia),if_pos (by lia),if_pos (by lia)]
 exact hs _ _ (by lia) (by lia) (by lia)
local macro_rules | `(tactic| walk_at "dl countRun")=>do
 let i:=QH (Qx `PySem.Builtin.List.W1All `PySem.Builtin.countRun)
 `(tactic| delta $i)
theorem wpS_countRun (hC:iS prog w A s κ rk L) (hB:Bs κ L st) (hn:lo+nrem≤L.length) (h1:1≤nrem)
 (h:∀ m st',Bs κ L st'→Mv st st' lo (lo+nrem)→1≤m→m≤nrem→Seg rk (arrOf st') lo (lo+m)→Q (some m) st'):wpS (model prog w) A E s (countRun' lo nrem) Q st:=by
 unfold countRun'
 walk_at "dl countRun"
 dsimp only
 have hsz:=hB.size
 refine N2 (show wpS _ _ _ _ (asc lo 1 nrem) _ _ from wC hC hB hn (N3 _) h1 (EJ lo _) fun n n1 n2 ns nor=>?_)
 dsimp only
 by_cases hnn:n=nrem
 ·rw [if_pos (by simpa using hnn)]
  exact N4 (h n st hB .refl n1 n2 ns)
 rw [if_neg (by simpa using hnn)]
 have hlt:=nor.resolve_left hnn
 have rest:∀ (st1:SortSt),Bs κ L st1→Mv st st1 lo (lo+nrem)→Gp rk (arrOf st1) lo (lo+(n+1))→wpS (model prog w) A E s (Lf lo (n+1) nrem) (fun c st2=>Bs κ L st2∧Mv st st2 lo (lo+nrem)∧c.1=none∧n+1≤c.2.1∧c.2.1≤nrem∧Gp rk (arrOf st2) lo (lo+c.2.1)∧c.2.2+1≤c.2.1∧(∀ i,lo+c.2.1 - (c.2.2+1)≤i→i<lo+c.2.1→R rk (arrOf st2) i=R rk (arrOf st2) (lo+c.2.1 - 1))) st1 :=
  fun st1 hB1 hM1 hs1=>EK hC hB1 hn (by lia) (by lia) hs1 fun m neq st2 a1 a2 a3 a4 a5 a6 a7=>⟨a1,hM1.trans a2,rfl,a3,a4,a5,a6,a7⟩
 by_cases hgt:n>1
 ·rw [if_pos hgt]
  refine N2 (lO hC hB (by lia) (by lia) ?_)
  dsimp only
  by_cases hrose:R rk (arrOf st) lo<R rk (arrOf st) (lo+n - 1)
  ·rw [decide_eq_true hrose,if_pos rfl]
   exact N4 (h n st hB .refl n1 n2 ns)
  ·rw [decide_eq_false hrose,if_neg Oe]
   have hall:∀ k,lo≤k→k<lo+n→R rk (arrOf st) k=R rk (arrOf st) (lo+n - 1):=fun k z1 z2=>by
    have a1:=ns lo k (N3 _) z1 z2
    have a2:=ns k (lo+n - 1) z1 (by lia) (by lia)
    lia
   have key:=jg (rk:=rk) (xs:=arrOf st) (i:=lo) (j:=lo+n) (by lia) hall
   refine N2 (eU ?_)
   refine N2 (Qu (Po ⟨rfl,?_⟩))
   refine N2 (OL (show wpS _ _ _ _ (Lf lo (n+1) nrem) _ _ from rest _ (hB.arr (QU.mp (RL _ _ _ _))) (lN (by lia) (N3 _) (by lia)) (gu (fun a b z1 z2 z3=>?_) (by lia) ?_)) fun c st2 hc=>?_)
   ·show R rk (mirror _ _ _ _) b≤R rk (mirror _ _ _ _) a
    rw [key,key,hall b (by lia) z3,hall a z1 (by lia)]; exact Pn _
   ·show R rk (mirror _ _ _ _) _≤R rk (mirror _ _ _ _) _
    rw [key,key]; lia
   ·obtain ⟨r,m,neq⟩:=c
    obtain ⟨b1,b2,b3,b4,b5,b6,b7,b8⟩:=hc
    dsimp only at b3 b4 b5 b6 b7 b8 ⊢
    rw [b3]
    dsimp only
    by_cases hq0:neq>0
    ·rw [if_pos hq0]
     have hsz2:=b1.size
     have key2:=jg (rk:=rk) (xs:=arrOf st2) (i:=lo+m - (neq+1)) (j:=lo+m) (by lia) b8
     refine N2 (eU (N2 (eU (N2 (OL (show wpS _ _ _ _ (asc lo m nrem) _ _ from jh (Q:=Q) hC (b1.arr (QU.mp (RL _ _ _ _))) hn (by lia) b5 (fun a b z1 z2 z3=>?_) fun k st3 c1 c2 c3 c4 c5=>h k st3 c1 ((b2.trans (lN (by lia) (by lia) (by lia))).trans c2) c3 c4 c5) fun c st4 hc=>?_)))))
     ·show R rk (mirror _ _ _ _) b≤R rk (mirror _ _ _ _) a
      rw [key2,key2]; exact b6 a b z1 z2 z3
     ·obtain ⟨r,k⟩:=c
      obtain ⟨e,hQ⟩:=hc
      dsimp only at e hQ ⊢
      rw [e]
      exact N4 hQ
    ·rw [if_neg hq0]
     refine N2 (eU (N2 (OL (show wpS _ _ _ _ (asc lo m nrem) _ _ from jh (Q:=Q) hC b1 hn (by lia) b5 b6 fun k st3 c1 c2 c3 c4 c5=>h k st3 c1 (b2.trans c2) c3 c4 c5) fun c st4 hc=>?_)))
     obtain ⟨r,k⟩:=c
     obtain ⟨e,hQ⟩:=hc
     dsimp only at e hQ ⊢
     rw [e]
     exact N4 hQ
 ·rw [if_neg hgt]
  have e1:n=1:=by lia
  subst e1
  refine N2 (Qu (Po ⟨rfl,?_⟩))
  refine N2 (OL (show wpS _ _ _ _ (Lf lo (1+1) nrem) _ _ from rest st hB .refl (gu (fun a b z1 z2 z3=>?_) (N3 _) (Qd hlt))) fun c st2 hc=>?_)
  ·have:a=b:=by lia
   subst this; exact Pn _
  ·obtain ⟨r,m,neq⟩:=c
   obtain ⟨b1,b2,b3,b4,b5,b6,b7,b8⟩:=hc
   dsimp only at b3 b4 b5 b6 b7 b8 ⊢
   rw [b3]
   dsimp only
   by_cases hq0:neq>0
   ·rw [if_pos hq0]
    have hsz2:=b1.size
    have key2:=jg (rk:=rk) (xs:=arrOf st2) (i:=lo+m - (neq+1)) (j:=lo+m) (by lia) b8
    refine N2 (eU (N2 (eU (N2 (OL (show wpS _ _ _ _ (asc lo m nrem) _ _ from jh (Q:=Q) hC (b1.arr (QU.mp (RL _ _ _ _))) hn (by lia) b5 (fun a b z1 z2 z3=>?_) fun k st3 c1 c2 c3 c4 c5=>h k st3 c1 ((b2.trans (lN (by lia) (by lia) (by lia))).trans c2) c3 c4 c5) fun c st4 hc=>?_)))))
    ·show R rk (mirror _ _ _ _) b≤R rk (mirror _ _ _ _) a
     rw [key2,key2]; exact b6 a b z1 z2 z3
    ·obtain ⟨r,k⟩:=c
     obtain ⟨e,hQ⟩:=hc
     dsimp only at e hQ ⊢
     rw [e]
     exact N4 hQ
   ·rw [if_neg hq0]
    refine N2 (eU (N2 (OL (show wpS _ _ _ _ (asc lo m nrem) _ _ from jh (Q:=Q) hC b1 hn (by lia) b5 b6 fun k st3 c1 c2 c3 c4 c5=>h k st3 c1 (b2.trans c2) c3 c4 c5) fun c st4 hc=>?_)))
    obtain ⟨r,k⟩:=c
    obtain ⟨e,hQ⟩:=hc
    dsimp only at e hQ ⊢
    rw [e]
    exact N4 hQ
end
section
variable {st:SortSt} {lo:Nat}
theorem Gq (hs:src<xs.size) (hd:d≤src) (k):R rk (bubble xs src d) k=if k=src - d then R rk xs src else if src - d<k∧k≤src then R rk xs (k - 1) else R rk xs k:=by
 have e:=getElem?_bubble hs d hd k
 by_cases h1:k=src - d
 ·rw [if_pos h1] at e ⊢; exact b9 e
 ·rw [if_neg h1] at e ⊢
  by_cases h2:src - d<k∧k≤src
  ·rw [if_pos h2] at e ⊢; exact b9 e
  ·rw [if_neg h2] at e ⊢; exact b9 e
theorem A9 (h:Q () (setArr st (bubble (arrOf st) i (i - j)))):wpS (model prog w) A E s (moveDown' i j) Q st :=
 PY (f:=fun s=>setArr s (bubble (arrOf s) i (i - j))) h
noncomputable def binarySort':Nat→Nat→Nat→StateT SortSt Sem Bool:=sortPriv% PySem.Builtin.binarySort
local macro_rules | `(tactic| walk_at "dl binarySort")=>do
 let i:=QH (Qx `PySem.Builtin.List.W1All `PySem.Builtin.binarySort)
 `(tactic| delta $i)
theorem wpS_binarySort (hC:iS prog w A s κ rk L) (hB:Bs κ L st) (hn:lo+n≤L.length) (hok:ok≤n) (hs:Seg rk (arrOf st) lo (lo+ok))
 (h:∀ st',Bs κ L st'→Mv st st' lo (lo+n)→Seg rk (arrOf st') lo (lo+n)→Q true st'):wpS (model prog w) A E s (binarySort' lo n ok) Q st:=by
 unfold binarySort'
 walk_at "dl binarySort"
 dsimp only
 refine N2 (OL (O8 (I:=fun k c st'=>c.1=none∧Bs κ L st'∧Mv st st' lo (lo+n)∧Seg rk (arrOf st') lo (lo+min k n)) (Q:=fun c st'=>c.1=none∧Bs κ L st'∧Mv st st' lo (lo+n)∧Seg rk (arrOf st') lo (lo+n)) ?step ?fin ?init) ?post)
 case post =>
  rintro ⟨c,u⟩ st' ⟨hc,jZ,hM',hs'⟩
  dsimp only at hc ⊢
  rw [hc]
  exact N4 (h st' jZ hM' hs')
 case init =>
  refine ⟨rfl,hB,.refl,fun a b z1 z2 z3=>?_⟩
  by_cases h1:ok=0
  ·have:a=b:=by lia
   subst this; exact Pn _
  ·exact hs a b z1 z2 (by lia)
 case fin =>
  rintro c st' ⟨hc,jZ,hM',hs'⟩
  rw [show min (max (max ok 1) n) n=n by lia] at hs'
  exact ⟨hc,jZ,hM',hs'⟩
 case step =>
  rintro k ⟨c,u⟩ st' hak hkn ⟨rfl,jZ,hM',hs'⟩
  rw [show min k n=k by lia] at hs'
  have hsz:=jZ.size
  refine N2 (OL (O8 (I:=fun x c st2=>st2=st'∧∃ l r,c=(none,l,r)∧l≤r∧r≤k∧r - l≤k - x∧(∀ i,i<l→R rk (arrOf st') (lo+i)≤R rk (arrOf st') (lo+k))∧(∀ i,r≤i→i<k→R rk (arrOf st') (lo+k)<R rk (arrOf st') (lo+i)))
   (Q:=fun c st2=>st2=st'∧∃ l r,c=(none,l,r)∧l≤k∧(∀ i,i<l→R rk (arrOf st') (lo+i)≤R rk (arrOf st') (lo+k))∧(∀ i,l≤i→i<k→R rk (arrOf st') (lo+k)<R rk (arrOf st') (lo+i))) ?istep ?ifin ⟨rfl,0,k,rfl,by lia,by lia,by lia,fun i hi=>by lia,fun i h1 h2=>by lia⟩) ?ipost)
  case ifin =>
   rintro c st2 ⟨rfl,l,r,rfl,a1,a2,a3,a4,a5⟩
   have:l=r:=by lia
   subst this
   exact ⟨rfl,l,l,rfl,a2,a4,a5⟩
  case istep =>
   rintro x c st2 _ hx ⟨rfl,l,r,rfl,a1,a2,a3,a4,a5⟩
   dsimp only
   by_cases hge:l≥r
   ·rw [if_pos hge]
    have:l=r:=by lia
    subst this
    exact N4 ⟨rfl,l,l,rfl,a2,a4,a5⟩
   ·rw [if_neg hge]
    refine N2 (lO hC jZ (by lia) (by lia) ?_)
    dsimp only
    by_cases hl:R rk (arrOf st2) (lo+k)<R rk (arrOf st2) (lo+(l+r) / 2)
    ·rw [decide_eq_true hl,if_pos rfl]
     refine N4 ⟨rfl,l,(l+r) / 2,rfl,by lia,by lia,by lia,a4,fun i h1 h2=>?_⟩
     exact Int.lt_of_lt_of_le hl (hs' _ _ (by lia) (by lia) (by lia))
    ·rw [decide_eq_false hl,if_neg Oe]
     refine N4 ⟨rfl,(l+r) / 2+1,r,rfl,by lia,by lia,by lia,fun i h1=>?_,a5⟩
     exact OI (hs' (lo+i) (lo+(l+r) / 2) (by lia) (by lia) (by lia)) (Int.not_lt.mp hl)
  case ipost =>
   rintro c st2 ⟨rfl,l,r,rfl,hlk,a4,a5⟩
   dsimp only
   have e1:lo+k - (lo+l)=k - l:=by lia
   refine N2 (A9 (N4 ⟨rfl,jZ.arr (QU.mp (bubble_perm _ _ _)),?_,?_⟩))
   ·refine hM'.trans ⟨fun i hi=>?_,rfl⟩
    have e:=getElem?_bubble (xs:=arrOf st2) (src:=lo+k) (by lia) (lo+k - (lo+l)) (by lia) i
    rw [if_neg (by lia),if_neg (by lia)] at e
    exact e
   ·rw [show min (k+1) n=k+1 by lia]
    intro i j hi hij hj
    show R rk (bubble (arrOf st2) (lo+k) (lo+k - (lo+l))) i≤R rk (bubble (arrOf st2) (lo+k) (lo+k - (lo+l))) j
    rw [Gq (by lia) (by lia),Gq (by lia) (by lia),e1]
    have sub:∀ i,lo≤i→lo+(i - lo)=i:=fun i hi=>by lia
    have f4:∀ i,lo≤i→i<lo+l→R rk (arrOf st2) i≤R rk (arrOf st2) (lo+k):=fun i h1 h2=>by have:=a4 (i - lo) (by lia); rwa [sub i h1] at this
    have f5:∀ i,lo+l≤i→i<lo+k→R rk (arrOf st2) (lo+k)<R rk (arrOf st2) i:=fun i h1 h2=>by have:=a5 (i - lo) (by lia) (by lia); rwa [sub i (by lia)] at this
    repeat' split
    all_goals first
     | (exfalso; lia)
     | exact Pn _
     | exact f4 _ (by lia) (by lia)
     | exact Qd (f5 _ (by lia) (by lia))
     | exact hs' _ _ (by lia) (by lia) (by lia)
theorem nV:∀ (l:List Keyed) (k sa:Nat) (A:Array Keyed),sa+k+l.length≤A.size→((l.zipIdx k).foldl (fun a (x:Keyed×Nat)=>a.setIfInBounds (sa+x.2) x.1) A).size=A.size ∧
 ∀ i:Nat,((l.zipIdx k).foldl (fun a (x:Keyed×Nat)=>a.setIfInBounds (sa+x.2) x.1) A)[i]?=if sa+k≤i∧i<sa+k+l.length then l[i - (sa+k)]? else A[i]?
 | [],k,sa,A,h=>⟨rfl,fun i=>by rw [if_neg (by simp only [PV]; lia)]; rfl⟩
 | x::l,k,sa,A,h=>by
  rw [OF] at h
  obtain ⟨h1,h2⟩:=nV l (k+1) sa (A.setIfInBounds (sa+k) x) (by rw [Array.size_setIfInBounds]; lia)
  rw [List.zipIdx_cons,Pr]
  refine ⟨by rw [h1,Array.size_setIfInBounds],fun i=>?_⟩
  rw [h2 i,OF]
  by_cases c1:sa+(k+1)≤i∧i<sa+(k+1)+l.length
  ·rw [if_pos c1,if_pos (by lia),show i - (sa+k)=i - (sa+(k+1))+1 by lia,List.getElem?_cons_succ]
  ·rw [if_neg c1]
   by_cases c2:i=sa+k
   ·subst c2
    rw [if_pos (by lia),Nat.sub_self,List.getElem?_cons_zero,Array.getElem?_setIfInBounds_self_of_lt (by lia)]
   ·rw [if_neg (by lia),Array.getElem?_setIfInBounds_ne (by lia)]
end
noncomputable def iz:Nat→StateT SortSt Sem Bool:=sortPriv% PySem.Builtin.mergeAt
local macro_rules | `(tactic| walk_at "dl mergeAt")=>do
 let i:=QH (Qx `PySem.Builtin.List.W1All `PySem.Builtin.mergeAt)
 `(tactic| delta $i)
section
variable {st:SortSt}
theorem EL (h:Q ⟨⟩ st1):wpS M A E s (set st1:StateT SortSt Sem PUnit) Q st:=by
 unfold wpS; rw [StateT.run_set]; exact N1 ⟨rfl,h⟩
theorem yg (hC:iS prog w A s κ rk L) (hk:kindOf st=κ) (hkey:key∈L) (mx:∀ (i:Nat) (p:Keyed),xs[i]?=some p→p∈L) (hn:base+n≤xs.size) (us:Seg rk xs base (base+n)) (hh:hint<n)
 (h:∀ k,k≤n→(∀ i,base≤i→i<base+k→R rk xs i≤rk key)→(∀ i,base+k≤i→i<base+n→rk key<R rk xs i)→Q (some k) st):wpS (model prog w) A E s (cL false key xs base n hint) Q st:=by
 obtain ⟨k,h1,h2⟩:=lJ (fun i=>R rk xs (base+i)) (rk key) n fun i j hij hj=>us _ _ (by lia) (by lia) (by lia)
 refine fP hC hk hkey (fun i hi=>⟨xs[base+i]'(by lia),OC _,mx _ _ (OC _)⟩) (fun i hi=>by simp only [OV,if_false]; exact h2 i hi) h1 hh (h k h1 (fun i hi hk=>?_) fun i hi hk=>?_)
 ·have:=(h2 (i - base) (by lia)).mpr (by lia)
  rwa [show base+(i - base)=i by lia] at this
 ·have:=mt (h2 (i - base) (by lia)).mp (by lia)
  rw [show base+(i - base)=i by lia] at this
  lia
theorem yh (hC:iS prog w A s κ rk L) (hk:kindOf st=κ) (hkey:key∈L) (mx:∀ (i:Nat) (p:Keyed),xs[i]?=some p→p∈L) (hn:base+n≤xs.size) (us:Seg rk xs base (base+n)) (hh:hint<n)
 (h:∀ k,k≤n→(∀ i,base≤i→i<base+k→R rk xs i<rk key)→(∀ i,base+k≤i→i<base+n→rk key≤R rk xs i)→Q (some k) st):wpS (model prog w) A E s (cL true key xs base n hint) Q st:=by
 obtain ⟨k,h1,h2⟩:=lK (fun i=>R rk xs (base+i)) (rk key) n fun i j hij hj=>us _ _ (by lia) (by lia) (by lia)
 refine fP hC hk hkey (fun i hi=>⟨xs[base+i]'(by lia),OC _,mx _ _ (OC _)⟩) (fun i hi=>by simp only [if_true]; exact h2 i hi) h1 hh (h k h1 (fun i hi hk=>?_) fun i hi hk=>?_)
 ·have:=(h2 (i - base) (by lia)).mpr (by lia)
  rwa [show base+(i - base)=i by lia] at this
 ·have:=mt (h2 (i - base) (by lia)).mp (by lia)
  rw [show base+(i - base)=i by lia] at this
  lia
theorem eV {xs:Array Keyed} (h:(xs.extract i j)[m]?=some p):xs[i+m]?=some p∧i+m<j:=by
 rw [R7] at h
 split at h
 ·exact ⟨h,by lia⟩
 ·cases h
theorem wD {lo hi i j:Nat} (h:Seg rk xs lo hi) (h1:lo≤i) (h2:j≤hi):Up rk (xs.extract i j):=fun a b p q hab e1 e2=>by
 obtain ⟨f1,g1⟩:=eV e1
 obtain ⟨f2,g2⟩:=eV e2
 have:=h (i+a) (i+b) (by lia) (by lia) (by lia)
 rwa [dU f1,dU f2] at this
theorem rG (hC:iS prog w A s κ rk L) (hB:Bs κ L st) (p1:(pendingOf st)[i]?=some (sa,na,pw)) (p2:(pendingOf st)[i+1]?=some (sa+na,nb,pw2)) (h1:1≤na) (h2:1≤nb) (hz:sa+na+nb≤L.length)
 (s1:Seg rk (arrOf st) sa (sa+na)) (s2:Seg rk (arrOf st) (sa+na) (sa+na+nb))
 (h:∀ st',Bs κ L st'→(∀ j,j<sa∨sa+na+nb≤j→(arrOf st')[j]?=(arrOf st)[j]?)→pendingOf st'=((pendingOf st).setIfInBounds i (sa,na+nb,pw)).eraseIdxIfInBounds (i+1)→Seg rk (arrOf st') sa (sa+na+nb)→Q true st') :
 wpS (model prog w) A E s (iz i) Q st:=by
 unfold iz
 walk_at "dl mergeAt"
 dsimp only
 refine N2 (Pz ?_)
 rw [p1,p2]
 dsimp only
 have hsz:=hB.size
 have mL:∀ (i:Nat) (p:Keyed),(arrOf st)[i]?=some p→p∈L:=fun i p e=>hB.perm.mem_iff.mp (by
  obtain ⟨h1,h2⟩:=QV.mp e
  rw [← h2,TM]; exact Uc _)
 refine N2 (EL ?_)
 obtain ⟨key,ek,hkL⟩:=hB.at (i:=sa+na) (by lia)
 refine N2 (aQ ek ?_)
 have rkey:R rk (arrOf st) (sa+na)=rk key:=dU ek
 refine N2 (yg hC hB.kind hkL mL (by show _≤(arrOf st).size; lia) s1 (by lia) fun k k1 k2 k3=>?_)
 dsimp only
 by_cases e0:na - k=0
 ·rw [if_pos (by simpa using e0)]
  refine N4 (h _ ⟨hB.perm,hB.kind,hB.failed⟩ (fun _ _=>rfl) rfl fun a b z1 z2 z3=>?_)
  by_cases hb:b<sa+na
  ·exact s1 a b z1 z2 hb
  ·by_cases ha:sa+na≤a
   ·exact s2 a b ha z2 z3
   ·refine OI (k2 a z1 (by lia)) ?_
    rw [← rkey]; exact s2 (sa+na) b (N3 _) (by lia) z3
 rw [if_neg (by simpa using e0)]
 obtain ⟨key2,ek2,hk2L⟩:=hB.at (i:=sa+k+(na - k) - 1) (by lia)
 have rkey2:R rk (arrOf st) (sa+na - 1)=rk key2:=by rw [← dU (rk:=rk) ek2]; congr 1; lia
 refine N2 (aQ ek2 ?_)
 refine N2 (yh hC (by exact hB.kind) hk2L mL (by show _≤(arrOf st).size; lia) s2 (by lia) fun m m1 m2 m3=>?_)
 dsimp only
 by_cases e1:m=0
 ·exfalso
  have a1:=m3 (sa+na) (by lia) (by lia)
  have a2:=k3 (sa+na - 1) (by lia) (by lia)
  rw [rkey2] at a2; rw [rkey] at a1; lia
 rw [if_neg (by simpa using e1)]
 have mx:∀ (i:Nat) (p:Keyed),((arrOf st).extract (sa+k) (sa+na))[i]?=some p→p∈L:=fun i p e=>mL _ p (eV e).1
 have my:∀ (i:Nat) (p:Keyed),((arrOf st).extract (sa+na) (sa+na+m))[i]?=some p→p∈L:=fun i p e=>mL _ p (eV e).1
 have ux:Up rk ((arrOf st).extract (sa+k) (sa+na)):=wD s1 (by lia) (N3 _)
 have uy:Up rk ((arrOf st).extract (sa+na) (sa+na+m)):=wD s2 (N3 _) (by lia)
 have zx:((arrOf st).extract (sa+k) (sa+na)).size=na - k:=by rw [Array.size_extract]; lia
 have zy:((arrOf st).extract (sa+na) (sa+na+m)).size=m:=by rw [Array.size_extract]; lia
 have h0:∀ p q,((arrOf st).extract (sa+k) (sa+na))[0]?=some p→((arrOf st).extract (sa+na) (sa+na+m))[0]?=some q→rk q≤rk p:=fun p q e2 e3=>by
  obtain ⟨f1,g1⟩:=eV e2
  obtain ⟨f2,g2⟩:=eV e3
  have a1:=k3 (sa+k+0) (by lia) (by lia)
  rw [dU f1] at a1
  have a2:rk q=rk key:=by rw [← rkey,← dU (rk:=rk) f2]; rfl
  lia
 have hl:∀ (j:Nat) (p q:Keyed),((arrOf st).extract (sa+k) (sa+na))[((arrOf st).extract (sa+k) (sa+na)).size - 1]?=some p→((arrOf st).extract (sa+na) (sa+na+m))[j]?=some q→rk q≤rk p:=fun j p q e2 e3=>by
  rw [zx] at e2
  obtain ⟨f1,g1⟩:=eV e2
  obtain ⟨f2,g2⟩:=eV e3
  have a1:=m2 (sa+na+j) (by lia) (by lia)
  rw [dU f2] at a1
  have a2:rk p=rk key2:=by rw [← rkey2,← dU (rk:=rk) f1]; congr 1; lia
  lia
 have fin:∀ (r:Array Keyed) (st2:SortSt),Res rk ((arrOf st).extract (sa+k) (sa+na)) ((arrOf st).extract (sa+na) (sa+na+m)) r→kindOf st2=kindOf st→arrOf st2=arrOf st→pendingOf st2=((pendingOf st).setIfInBounds i (sa,na+nb,pw)).eraseIdxIfInBounds (i+1)→failedOf st2=failedOf st →
  Q true (setArr st2 (Rh (fun a (x:Keyed×Nat)=>a.setIfInBounds (sa+k+x.2) x.1) (arrOf st2) r.toList.zipIdx)):=fun r st2 hr e2 e3 e4 e5=>by
  have hlen:r.toList.length=na - k+m:=by
   have:=hr.1.length_eq
   simp only [OH,OU,zx,zy] at this ⊢
   exact this
  obtain ⟨w1,w2⟩:=nV r.toList 0 (sa+k) (arrOf st) (by lia)
  generalize hW:Rh (fun a (x:Keyed×Nat)=>a.setIfInBounds (sa+k+x.2) x.1) (arrOf st) r.toList.zipIdx=W at w1 w2
  rw [e3,hW]
  have rW:∀ i,sa+k≤i→i<sa+na+m→R rk W i=R rk r (i - (sa+k)):=fun i z1 z2=>by
   refine b9 ?_
   rw [w2,if_pos (by lia),OT]; rfl
  have rO:∀ i,(i<sa+k∨sa+na+m≤i)→R rk W i=R rk (arrOf st) i:=fun i z=>by
   refine b9 ?_
   rw [w2,if_neg (by lia)]
  have elt:∀ i,sa+k≤i→i<sa+na+m→∃ t,sa+k≤t∧t<sa+na+m∧R rk W i=R rk (arrOf st) t:=fun i z1 z2=>by
   have hi:i - (sa+k)<r.size:=by rw [← OU]; lia
   have e6:r[i - (sa+k)]?=some r[i - (sa+k)]:=OC hi
   have hm:r[i - (sa+k)]∈r.toList:=by rw [TM]; exact Uc _
   rw [rW i z1 z2,dU e6]
   rcases OA.mp (hr.1.mem_iff.mp hm) with z | z
   ·obtain ⟨t,t1,t2,t3⟩:=wg z
    exact ⟨t,t1,by lia,(dU t3).symm⟩
   ·obtain ⟨t,t1,t2,t3⟩:=wg z
    exact ⟨t,by lia,by lia,(dU t3).symm⟩
  have ur:=Ir hr.2
  refine h _ ⟨?_,e2.trans hB.kind,e5.trans hB.failed⟩ (fun j hj=>?_) e4 fun a b z1 z2 z3=>?_
  ·
   refine List.Perm.trans ?_ hB.perm
   have eW:W.toList=(arrOf st).toList.take (sa+k)++r.toList++(arrOf st).toList.drop (sa+na+m):=by
    apply Sv
    intro j
    rw [OT,w2,Om,Rn,Rn,Pc,Q5,Rv (by rw [OU]; lia)]
    by_cases c1:j<sa+k
    ·rw [if_neg (by lia),if_pos c1,R0 c1,OT]
    ·rw [if_neg c1]
     by_cases c2:j - (sa+k)<r.toList.length
     ·rw [if_pos (by lia),if_pos c2]; rfl
     ·rw [if_neg (by lia),if_neg c2,OT]; congr 1; lia
   have eA:(arrOf st).toList=(arrOf st).toList.take (sa+k)++(((arrOf st).extract (sa+k) (sa+na)).toList++((arrOf st).extract (sa+na) (sa+na+m)).toList)++(arrOf st).toList.drop (sa+na+m):=by
    apply Sv
    intro j
    rw [Om,Om,Rn,Rn,Rn,Pc,OU,OU,OU,zx,zy,Q5,Rv (by lia)]
    by_cases c1:j<sa+k
    ·rw [if_pos c1,R0 c1]
    ·rw [if_neg c1]
     by_cases c2:j - (sa+k)<na - k
     ·rw [if_pos c2,OT,OT,R7,if_pos (by lia)]; congr 1; lia
     ·rw [if_neg c2]
      by_cases c3:j - (sa+k) - (na - k)<m
      ·rw [if_pos c3,OT,OT,R7,if_pos (by lia)]; congr 1; lia
      ·rw [if_neg c3]; congr 1; lia
   show W.toList.Perm _
   rw [eW]
   conv=>rhs; rw [eA]
   exact (QZ _ hr.1).append_right _
  ·show W[j]?=_
   rw [w2,if_neg (by lia)]
  ·show R rk W a≤R rk W b
   have kk:∀ t,sa+na≤t→t<sa+na+nb→rk key≤R rk (arrOf st) t:=fun t t1 t2=>by rw [← rkey]; exact s2 _ t (N3 _) t1 t2
   have kk2:∀ t,sa≤t→t<sa+na→R rk (arrOf st) t≤rk key2:=fun t t1 t2=>by rw [← rkey2]; exact s1 t _ t1 (by lia) (by lia)
   by_cases c1:a<sa+k
   ·rw [rO a (.inl c1)]
    have la:=k2 a z1 c1
    by_cases d1:b<sa+k
    ·rw [rO b (.inl d1)]; exact s1 a b z1 z2 (by lia)
    ·by_cases d2:b<sa+na+m
     ·obtain ⟨t,t1,t2,t3⟩:=elt b (by lia) d2
      rw [t3]
      by_cases d3:t<sa+na
      ·exact s1 a t z1 (by lia) d3
      ·exact OI la (kk t (by lia) (by lia))
     ·rw [rO b (.inr (by lia))]
      exact OI la (kk b (by lia) z3)
   ·by_cases c2:a<sa+na+m
    ·by_cases d2:b<sa+na+m
     ·rw [rW a (by lia) c2,rW b (by lia) d2]
      have f1:r[a - (sa+k)]?=some (r[a - (sa+k)]'(by rw [← OU]; lia)):=OC _
      have f2:r[b - (sa+k)]?=some (r[b - (sa+k)]'(by rw [← OU]; lia)):=OC _
      rw [dU f1,dU f2]
      exact ur _ _ _ _ (by lia) f1 f2
     ·obtain ⟨t,t1,t2,t3⟩:=elt a (by lia) c2
      rw [t3,rO b (.inr (by lia))]
      by_cases d3:t<sa+na
      ·exact OI (kk2 t (by lia) d3) (m3 b (by lia) z3)
      ·exact s2 t b (by lia) (by lia) z3
    ·rw [rO a (.inr (by lia)),rO b (.inr (by lia))]
     exact s2 a b (by lia) z2 z3
 have post:∀ (r:Array Keyed) (st2:SortSt),failedOf st2=failedOf st→(failedOf st2).isNone=true:=fun r st2 e=>by rw [e,hB.failed]; rfl
 by_cases hle:na - k≤m
 ·rw [if_pos hle]
  refine N2 (rC hC (by exact hB.kind) mx my ux uy (by show 1≤((arrOf st).extract (sa+k) (sa+na)).size; lia) (by show 1≤((arrOf st).extract (sa+na) (sa+na+m)).size; lia) h0 hl fun r st2 hr hK=>?_)
  refine N2 (PY (N2 (Pz ?_)))
  have e9:failedOf st2=none:=hK.f.trans hB.failed
  have z:=fin r st2 hr hK.k hK.a hK.p hK.f
  refine N4 ?_
  show Q (failedOf st2).isNone _
  rw [e9]; exact z
 ·rw [if_neg hle]
  refine N2 (rF hC (by exact hB.kind) mx my ux uy (by show 1≤((arrOf st).extract (sa+k) (sa+na)).size; lia) (by show 1≤((arrOf st).extract (sa+na) (sa+na+m)).size; lia) h0 hl fun r st2 hr hK=>?_)
  refine N2 (PY (N2 (Pz ?_)))
  have e9:failedOf st2=none:=hK.f.trans hB.failed
  have z:=fin r st2 hr hK.k hK.a hK.p hK.f
  refine N4 ?_
  show Q (failedOf st2).isNone _
  rw [e9]; exact z
end
noncomputable abbrev Lg:Nat→Nat→Nat→Nat:=sortPriv% PySem.Builtin.minRun
noncomputable def rH:StateT SortSt Sem Unit:=sortPriv% PySem.Builtin.sortRuns
local macro_rules | `(tactic| walk_at "dl sortRuns")=>do
 let i:=QH (Qx `PySem.Builtin.List.W1All `PySem.Builtin.sortRuns)
 `(tactic| delta $i)
noncomputable def fF (rk:Keyed→Int) (xs:Array Keyed):Nat→List (Nat×Nat×Nat)→Nat→Prop
 | a,[],b=>a=b
 | a,p::r,b=>p.1=a∧1≤p.2.1∧Seg rk xs a (a+p.2.1)∧fF rk xs (a+p.2.1) r b
section
theorem fF.le:∀ {ps:List (Nat×Nat×Nat)} {a b:Nat},fF rk xs a ps b→a+ps.length≤b
 | [],a,b,h=>by have:a=b:=h; simp; lia
 | p::r,a,b,h=>by
  obtain ⟨_,h1,_,h2⟩:=h
  have:=h2.le
  rw [OF]; lia
theorem fF.app:∀ {ps qs:List (Nat×Nat×Nat)} {a b:Nat},fF rk xs a (ps++qs) b↔∃ m,fF rk xs a ps m∧fF rk xs m qs b
 | [],qs,a,b=>⟨fun h=>⟨a,rfl,h⟩,fun ⟨m,h1,h2⟩=>by have:a=m:=h1; subst this; exact h2⟩
 | p::r,qs,a,b=>by
  constructor
  ·rintro ⟨h1,h2,h3,h4⟩
   obtain ⟨m,h5,h6⟩:=fF.app.mp h4
   exact ⟨m,⟨h1,h2,h3,h5⟩,h6⟩
  ·rintro ⟨m,⟨h1,h2,h3,h5⟩,h6⟩
   exact ⟨h1,h2,h3,fF.app.mpr ⟨m,h5,h6⟩⟩
theorem fF.congr:∀ {ps:List (Nat×Nat×Nat)} {a b:Nat},fF rk xs a ps b→(∀ i,a≤i→i<b→R rk ys i=R rk xs i)→fF rk ys a ps b
 | [],a,b,h,_=>h
 | p::r,a,b,h,e=>by
  obtain ⟨h1,h2,h3,h4⟩:=h
  have hl:=h4.le
  refine ⟨h1,h2,fun i j z1 z2 z3=>?_,h4.congr fun i z1 z2=>e i (by lia) z2⟩
  rw [e i z1 (by lia),e j (by lia) (by lia)]
  exact h3 i j z1 z2 z3
theorem fF.mod (f) (hf:∀ p,(f p).1=p.1∧(f p).2.1=p.2.1):∀ {ps:List (Nat×Nat×Nat)} {a b:Nat} (i:Nat),fF rk xs a ps b→fF rk xs a (ps.modify i f) b
 | [],a,b,i,h=>by simpa using h
 | p::r,a,b,0,h=>by
  obtain ⟨h1,h2,h3,h4⟩:=h
  rw [List.modify_zero_cons]
  refine ⟨(hf p).1.trans h1,by rw [(hf p).2]; exact h2,by rw [(hf p).2]; exact h3,by rw [(hf p).2]; exact h4⟩
 | p::r,a,b,i+1,h=>by
  obtain ⟨h1,h2,h3,h4⟩:=h
  rw [List.modify_succ_cons]
  exact ⟨h1,h2,h3,h4.mod f hf i⟩
theorem fF.two:∀ {ps:List (Nat×Nat×Nat)} {a b:Nat} (i:Nat),fF rk xs a ps b→i+1<ps.length→∃ s n pw m pw2,ps[i]?=some (s,n,pw)∧ps[i+1]?=some (s+n,m,pw2)∧1≤n∧1≤m∧a≤s∧s+n+m≤b∧Seg rk xs s (s+n)∧Seg rk xs (s+n) (s+n+m) ∧
 ∀ ys:Array Keyed,(∀ j,j<s∨s+n+m≤j→R rk ys j=R rk xs j)→Seg rk ys s (s+n+m)→fF rk ys a ((ps.set i (s,n+m,pw)).eraseIdx (i+1)) b
 | [],a,b,i,h,hi=>by simp at hi
 | [p],a,b,i,h,hi=>by simp at hi
 | p::q::r,a,b,0,h,hi=>by
  obtain ⟨h1,h2,h3,h4,h5,h6,h7⟩:=h
  obtain ⟨s,n,pw⟩:=p
  obtain ⟨s',m,pw2⟩:=q
  dsimp only at h1 h2 h3 h4 h5 h6 h7
  subst h1; subst h4
  have hl:=h7.le
  refine ⟨s,n,pw,m,pw2,rfl,rfl,h2,h5,N3 _,by lia,h3,h6,fun ys e hs=>?_⟩
  refine ⟨rfl,by dsimp only; lia,by dsimp only; rw [← SS]; exact hs,?_⟩
  dsimp only
  rw [← SS]
  exact h7.congr fun i z1 z2=>e i (.inr z1)
 | p::q::r,a,b,i+1,h,hi=>by
  obtain ⟨h1,h2,h3,h4⟩:=h
  obtain ⟨s,n,pw,m,pw2,e1,e2,a1,a2,a3,a4,a5,a6,a7⟩:=h4.two i (by simpa using hi)
  refine ⟨s,n,pw,m,pw2,by simpa using e1,by simpa using e2,a1,a2,by lia,a4,a5,a6,fun ys e hs=>?_⟩
  rw [List.set_cons_succ,List.eraseIdx_cons_succ]
  refine ⟨h1,h2,fun j j' z1 z2 z3=>?_,a7 ys e hs⟩
  rw [e j (.inl (by lia)),e j' (.inl (by lia))]
  exact h3 j j' z1 z2 z3
end
section
variable {st:SortSt}
theorem iA (hC:iS prog w A s κ rk L) (hB:Bs κ L st) (hc:fF rk (arrOf st) 0 (pendingOf st).toList b) (hb:b≤L.length) (hi:i+1<(pendingOf st).size)
 (h:∀ st',Bs κ L st'→fF rk (arrOf st') 0 (pendingOf st').toList b→(∀ j,b≤j→(arrOf st')[j]?=(arrOf st)[j]?)→(pendingOf st').size+1=(pendingOf st).size→Q true st'):wpS (model prog w) A E s (iz i) Q st:=by
 obtain ⟨sa,n,pw,m,pw2,e1,e2,a1,a2,a3,a4,a5,a6,a7⟩:=hc.two i (by rw [OU]; exact hi)
 rw [OT] at e1 e2
 refine rG hC hB e1 e2 a1 a2 (by lia) a5 a6 fun st' b1 b2 b3 b4=>h st' b1 ?_ (fun j hj=>b2 j (.inr (by lia))) ?_
 ·rw [b3,Ur,Array.toList_setIfInBounds]
  exact a7 _ (fun j hj=>b9 (b2 j hj)) b4
 ·rw [b3,← OU,Ur,Array.toList_setIfInBounds,List.length_eraseIdx,List.length_set,OU,if_pos hi]; lia
theorem wpS_sortRuns (hC:iS prog w A s κ rk L) (hB:Bs κ L st) (hp:pendingOf st= #[]) (h:∀ st',Bs κ L st'→Seg rk (arrOf st') 0 L.length→Q () st'):wpS (model prog w) A E s rH Q st:=by
 unfold rH
 walk_at "dl sortRuns"
 dsimp only
 refine N2 (Pz ?_)
 have hsz:=hB.size
 rw [hsz]
 obtain ⟨mr,hmr⟩:∃ mr,Lg L.length L.length 0=mr:=⟨_,rfl⟩
 delta Lg at hmr
 rw [hmr]
 refine N2 (OL (O8 (I:=fun x c st'=>c.1=none∧Bs κ L st'∧fF rk (arrOf st') 0 (pendingOf st').toList c.2∧c.2≤L.length∧(x≤c.2∨L.length≤c.2)) (Q:=fun c st'=>c.1=none∧Bs κ L st'∧fF rk (arrOf st') 0 (pendingOf st').toList L.length) ?step ?fin ?init) ?post)
 case init=>exact ⟨rfl,hB,by rw [hp]; rfl,OO _,.inl (N3 _)⟩
 case fin =>
  rintro ⟨c,lo⟩ st' ⟨rfl,jZ,hC',h1,h2⟩
  dsimp only at hC' h1 h2 ⊢
  have e:lo=L.length:=by
   rcases h2 with z | z
   ·lia
   ·lia
  subst e
  exact ⟨rfl,jZ,hC'⟩
 case step =>
  rintro x ⟨c,lo⟩ st' _ hx ⟨rfl,jZ,hC',h1,h2⟩
  dsimp only at hC' h1 h2 ⊢
  by_cases hge:lo≥L.length
  ·rw [if_pos hge]
   have e:lo=L.length:=by lia
   subst e
   exact N4 ⟨rfl,jZ,hC'⟩
  rw [if_neg hge]
  refine N2 (show wpS _ _ _ _ (countRun' lo (L.length - lo)) _ _ from wpS_countRun hC jZ (by lia) (by lia) fun m st1 hB1 hM1 m1 m2 ms=>?_)
  have hC1:fF rk (arrOf st1) 0 (pendingOf st1).toList lo:=by
   rw [hM1.pend]; exact hC'.congr fun i _ z=>b9 (hM1.out i (.inl z))
  dsimp only
  by_cases hmin:m<mr
  ·rw [if_pos (show m<_ from hmin)]
   refine N2 (Qu (Po ⟨rfl,?_⟩))
   have hf1:m≤min (L.length - lo) mr:=by lia
   have hf2:lo+min (L.length - lo) mr≤L.length:=by lia
   refine N2 (show wpS _ _ _ _ (binarySort' lo (min (L.length - lo) mr) m) _ _ from wpS_binarySort hC hB1 hf2 hf1 ms fun st2 hB2 hM2 hS2=>?_)
   have hC2:fF rk (arrOf st2) 0 (pendingOf st2).toList lo:=by
    rw [hM2.pend]; exact hC1.congr fun i _ z=>b9 (hM2.out i (.inl z))
   simp only [RE,OV,if_false]
   generalize hF:min (L.length - lo) mr=F at hf1 hf2 hS2
   have hF':=hF
   clear hM2 hM1
   refine N2 (Pz ?_)
   rcases hbk:(pendingOf st2).back? with _ | ⟨q1,q2,q3⟩
   ·dsimp only
    refine N2 (PY (N4 ⟨rfl,⟨hB2.perm,hB2.kind,hB2.failed⟩,?_,by dsimp only; lia,by dsimp only; lia⟩))
    show fF rk (arrOf st2) 0 ((pendingOf st2).push (lo,F,0)).toList (lo+(F))
    rw [OM]
    exact fF.app.mpr ⟨lo,hC2,rfl,by dsimp only; lia,hS2,rfl⟩
   ·dsimp only
    refine N2 (OL (O8 (I:=fun y c st'=>c.1=none∧Bs κ L st'∧fF rk (arrOf st') 0 (pendingOf st').toList lo∧Seg rk (arrOf st') lo (lo+(F))) (Q:=fun c st'=>c.1=none∧Bs κ L st'∧fF rk (arrOf st') 0 (pendingOf st').toList lo∧Seg rk (arrOf st') lo (lo+(F))) ?_ (fun _ _ z=>z) ⟨rfl,hB2,hC2,hS2⟩) ?_)
    ·rintro y ⟨c,u⟩ st3 _ hy ⟨rfl,vf,Dq,Dp⟩
     refine N2 (Pz ?_)
     by_cases hs1:(pendingOf st3).size>1
     ·rw [if_pos hs1]
      obtain ⟨⟨r1,r2,r3⟩,er⟩:∃ t,(pendingOf st3)[(pendingOf st3).size - 2]?=some t:=⟨_,OC (show (pendingOf st3).size - 2<(pendingOf st3).size by lia)⟩
      rw [er]
      dsimp only
      split
      ·exact N4 ⟨rfl,vf,Dq,Dp⟩
      ·refine N2 (show wpS _ _ _ _ (iz ((pendingOf st3).size - 2)) _ _ from iA hC vf Dq (by lia) (by lia) fun st4 hB4 hC4 ho4 hz4=>?_)
       simp only [RE,OV,if_false]
       exact N4 ⟨rfl,hB4,hC4,fun a b z1 z2 z3=>by rw [b9 (ho4 a z1),b9 (ho4 b (by lia))]; exact Dp a b z1 z2 z3⟩
     ·rw [if_neg hs1]
      exact N4 ⟨rfl,vf,Dq,Dp⟩
    ·rintro ⟨c,u⟩ st3 ⟨hc,vf,Dq,Dp⟩
     dsimp only at hc ⊢
     rw [hc]
     dsimp only
     refine N2 (PY (N2 (PY (N4 ⟨rfl,⟨vf.perm,vf.kind,vf.failed⟩,?_,by dsimp only; lia,by dsimp only; lia⟩))))
     show fF rk (arrOf st3) 0 (((pendingOf st3).modify ((pendingOf st3).size - 1) _).push (lo,F,0)).toList (lo+(F))
     rw [OM,Array.toList_modify]
     refine fF.app.mpr ⟨lo,?_,rfl,by dsimp only; lia,Dp,rfl⟩
     refine fF.mod _ (fun p=>?_) _ Dq
     exact ⟨rfl,rfl⟩
  ·rw [if_neg (show ¬ m<_ from hmin)]
   refine N2 (Pz ?_)
   rcases hbk:(pendingOf st1).back? with _ | ⟨q1,q2,q3⟩
   ·dsimp only
    refine N2 (PY (N4 ⟨rfl,⟨hB1.perm,hB1.kind,hB1.failed⟩,?_,by dsimp only; lia,by dsimp only; lia⟩))
    show fF rk (arrOf st1) 0 ((pendingOf st1).push (lo,m,0)).toList (lo+(m))
    rw [OM]
    exact fF.app.mpr ⟨lo,hC1,rfl,by dsimp only; lia,ms,rfl⟩
   ·dsimp only
    refine N2 (OL (O8 (I:=fun y c st'=>c.1=none∧Bs κ L st'∧fF rk (arrOf st') 0 (pendingOf st').toList lo∧Seg rk (arrOf st') lo (lo+(m))) (Q:=fun c st'=>c.1=none∧Bs κ L st'∧fF rk (arrOf st') 0 (pendingOf st').toList lo∧Seg rk (arrOf st') lo (lo+(m))) ?_ (fun _ _ z=>z) ⟨rfl,hB1,hC1,ms⟩) ?_)
    ·rintro y ⟨c,u⟩ st3 _ hy ⟨rfl,vf,Dq,Dp⟩
     refine N2 (Pz ?_)
     by_cases hs1:(pendingOf st3).size>1
     ·rw [if_pos hs1]
      obtain ⟨⟨r1,r2,r3⟩,er⟩:∃ t,(pendingOf st3)[(pendingOf st3).size - 2]?=some t:=⟨_,OC (show (pendingOf st3).size - 2<(pendingOf st3).size by lia)⟩
      rw [er]
      dsimp only
      split
      ·exact N4 ⟨rfl,vf,Dq,Dp⟩
      ·refine N2 (show wpS _ _ _ _ (iz ((pendingOf st3).size - 2)) _ _ from iA hC vf Dq (by lia) (by lia) fun st4 hB4 hC4 ho4 hz4=>?_)
       simp only [RE,OV,if_false]
       exact N4 ⟨rfl,hB4,hC4,fun a b z1 z2 z3=>by rw [b9 (ho4 a z1),b9 (ho4 b (by lia))]; exact Dp a b z1 z2 z3⟩
     ·rw [if_neg hs1]
      exact N4 ⟨rfl,vf,Dq,Dp⟩
    ·rintro ⟨c,u⟩ st3 ⟨hc,vf,Dq,Dp⟩
     dsimp only at hc ⊢
     rw [hc]
     dsimp only
     refine N2 (PY (N2 (PY (N4 ⟨rfl,⟨vf.perm,vf.kind,vf.failed⟩,?_,by dsimp only; lia,by dsimp only; lia⟩))))
     show fF rk (arrOf st3) 0 (((pendingOf st3).modify ((pendingOf st3).size - 1) _).push (lo,m,0)).toList (lo+(m))
     rw [OM,Array.toList_modify]
     refine fF.app.mpr ⟨lo,?_,rfl,by dsimp only; lia,Dp,rfl⟩
     refine fF.mod _ (fun p=>?_) _ Dq
     exact ⟨rfl,rfl⟩
 case post =>
  rintro ⟨c,lo⟩ st' ⟨hc,jZ,hC'⟩
  dsimp only at hc ⊢
  rw [hc]
  dsimp only
  have hl0:=hC'.le
  rw [OU] at hl0
  refine N2 (OL (O8 (I:=fun x c st2=>c.1=none∧Bs κ L st2∧fF rk (arrOf st2) 0 (pendingOf st2).toList L.length∧((pendingOf st2).size≤1∨(pendingOf st2).size+x≤L.length)) (Q:=fun c st2=>c.1=none∧Bs κ L st2∧fF rk (arrOf st2) 0 (pendingOf st2).toList L.length∧(pendingOf st2).size≤1) ?mstep ?mfin ⟨rfl,jZ,hC',.inr (by lia)⟩) ?mpost)
  case mfin =>
   rintro c2 st2 ⟨a1,a2,a3,a4⟩
   exact ⟨a1,a2,a3,by lia⟩
  case mpost =>
   rintro ⟨c2,u⟩ st2 ⟨a1,a2,a3,a4⟩
   dsimp only at a1 ⊢
   rw [a1]
   refine N4 (h st2 a2 ?_)
   rw [← OU] at a4
   match e:(pendingOf st2).toList,a4 with
   | [],_ =>
    rw [e] at a3
    have z:0=L.length:=a3
    intro i j _ _ hj; lia
   | [p],_ =>
    rw [e] at a3
    obtain ⟨b1,b2,b3,b4⟩:=a3
    have z:0+p.2.1=L.length:=b4
    rw [← z]; exact b3
  case mstep =>
   rintro x ⟨c2,u⟩ st2 _ hx ⟨a1,a2,a3,a4⟩
   refine N2 (Pz ?_)
   by_cases hs1:(pendingOf st2).size≤1
   ·rw [if_pos hs1]
    exact N4 ⟨rfl,a2,a3,hs1⟩
   ·rw [if_neg hs1]
    have key:∀ i,i+1<(pendingOf st2).size→wpS (model prog w) A E s (iz i) (fun r st3=>r=true∧Bs κ L st3∧fF rk (arrOf st3) 0 (pendingOf st3).toList L.length∧(pendingOf st3).size+1=(pendingOf st2).size) st2:=fun i hi =>
     iA hC a2 a3 (N3 _) hi fun st3 b1 b2 _ b3=>⟨rfl,b1,b2,b3⟩
    refine N2 (OL (show wpS _ _ _ _ (iz _) _ _ from key _ ?_) fun r st3 hr=>?_)
    ·unfold pendingOf at hs1 ⊢
     repeat' split
     all_goals lia
    ·obtain ⟨rfl,b1,b2,b3⟩:=hr
     simp only [RE,OV,if_false]
     exact N4 ⟨rfl,b1,b2,.inr (by lia)⟩
end
end SR
namespace SR
open PySem PyProof.Rows
section
noncomputable def dup (vs:List Value):List Keyed:=vs.map fun v=>(v,v)
theorem wF (vs):(vs.toArray.zip vs.toArray).toList=dup vs:=by
 unfold dup
 rw [Array.toList_zip]
 induction vs with
 | nil=>rfl
 | cons v vs ih=>simpa using ih
noncomputable def Ord (rk:Keyed→Int) (b:Bool) (out:List Value):Prop:=out.Pairwise fun x y=>if b then rk (y,y)≤rk (x,x) else rk (x,x)≤rk (y,y)
theorem rJ {xs:Array Keyed} (h:xs.toList.Perm (dup vs)):(xs.toList.map (·.2)).Perm vs∧∀ p∈xs.toList,p=(p.2,p.2):=by
 refine ⟨?_,fun p hp=>?_⟩
 ·have q:=h.map (·.2)
  have e:(dup vs).map (·.2)=vs:=by
   unfold dup
   rw [Ow]
   exact List.map_id' vs
  rwa [e] at q
 ·have:=h.mem_iff.mp hp
  simp only [dup,Oo] at this
  obtain ⟨v,_,rfl⟩:=this
  rfl
theorem EM {st:SortSt} (hp:(arrOf st).toList.Perm (dup vs)) (hs:Seg rk (arrOf st) 0 (dup vs).length) (b) :
 ((if b=true then ((arrOf st).map (·.2)).reverse else (arrOf st).map (·.2)).toList).Perm vs∧Ord rk b (if b=true then ((arrOf st).map (·.2)).reverse else (arrOf st).map (·.2)).toList:=by
 obtain ⟨h1,h2⟩:=rJ hp
 have up:((arrOf st).toList.map (·.2)).Pairwise fun x y=>rk (x,x)≤rk (y,y):=by
  rw [P8]
  refine To.mpr fun i j hi hj hij=>?_
  have l:=hp.length_eq
  simp only [OU] at hi hj l
  have z:=hs i j (OO _) (Qq hij) (by lia)
  have ei:(arrOf st)[i]?=some ((arrOf st).toList[i]'(by simpa using hi)):=by simp [hi]
  have ej:(arrOf st)[j]?=some ((arrOf st).toList[j]'(by simpa using hj)):=by simp [hj]
  rw [dU ei,dU ej] at z
  have e1:=h2 _ (OG (show i<(arrOf st).toList.length by simpa using hi))
  have e2:=h2 _ (OG (show j<(arrOf st).toList.length by simpa using hj))
  rw [e1,e2] at z
  exact z
 cases b with
 | false=>simp only [OV,if_false,Uk]; exact ⟨h1,up.imp fun h=>by simpa using h⟩
 | true =>
  simp only [if_true,Q2,Uk]
  refine ⟨(Ss _).trans h1,?_⟩
  unfold Ord
  rw [List.pairwise_reverse]
  exact up.imp fun h=>by simpa using h
noncomputable def Nd (prog:Program) (w:World) (A:Around) (s:Shared) (a:Addr) (vs:List Value) (κ:SortKind) (rk:Keyed→Int):Prop :=
 ∀ h':Heap,(∀ c o,c≠a→s.heap.get? c=some o→h'.get? c=some o) →
  (∀ (Q:SortKind→Shared→Prop) (E:Value→Shared→Prop),2≤vs.length→Q κ { s with heap:=h' }→wpAny (model prog w) A (keyKind' vs.toArray) Q E { s with heap:=h' })∧iS prog w A { s with heap:=h' } κ rk (dup vs)
theorem nW (ho:s.heap.get? a=some (seqObj "list" vs.toArray n)) (hk:Nd prog w A s a vs κ rk) (hz:vs.length≤sizeLine)
 (h:∀ out:Array Value,out.toList.Perm vs→Ord rk b out.toList→P (.done (.ret .none)) { s with heap:=sortedHeap s.heap a vs out }) :
 wpAny (model prog w) A (Builtin.«list.sort» ⟨[.ref a],[(NY "reverse",.bool b)]⟩) P E s:=by
 rw [list_sort_rev]
 have lta:a<s.heap.objs.size:=N8 ho
 refine NX (RG ho rfl (NX (Py ho rfl ?_ (by simpa using hz))))
 obtain ⟨e1,ho1⟩:∃ e1,(s.heap.update a (OJ fun _=> #[])).get? a=some (seqObj "list" #[] e1):=⟨_,SD ho (fun _=> #[])⟩
 have oth:∀ c o,c≠a→s.heap.get? c=some o→(s.heap.update a (OJ fun _=> #[])).get? c=some o:=fun c o hc q=>by rw [Qi _ _ _ _ hc]; exact q
 have sz1:(s.heap.update a (OJ fun _=> #[])).objs.size=s.heap.objs.size:=Ui ..
 refine NX (Rb ho1 rfl (NX (wpAny_newTuple ?_ (by simpa using hz))))
 refine NX (RB (OS ?_))
 show wpAny (model prog w) A _ P E { s with heap:=((s.heap.update a (OJ fun _=> #[])).push (seqObj "tuple" vs.toArray 0)).push (seqObj "list" #[] 0) }
 have ho6:(((s.heap.update a (OJ fun _=> #[])).push (seqObj "tuple" vs.toArray 0)).push (seqObj "list" #[] 0)).get? a=some (seqObj "list" #[] e1):=N7 _ (N7 _ ho1)
 obtain ⟨hkk,hC⟩:=hk (((s.heap.update a (OJ fun _=> #[])).push (seqObj "tuple" vs.toArray 0)).push (seqObj "list" #[] 0)) fun c o hc q=>N7 _ (N7 _ (oth c o hc q))
 have fin:∀ st':SortSt,(arrOf st').toList.Perm (dup vs)→Seg rk (arrOf st') 0 (dup vs).length →
  P (.done (.ret .none)) { s with heap:=sortedHeap s.heap a vs (if b then ((arrOf st').map (·.2)).reverse else (arrOf st').map (·.2)) }:=fun st' hp hs =>
  let ⟨q1,q2⟩:=EM hp hs b; h _ q1 q2
 have hstart:(if b=true then (vs.toArray.zip vs.toArray).reverse else vs.toArray.zip vs.toArray).toList.Perm (dup vs):=by
  cases b with
  | false=>rw [if_neg Oe,wF]
  | true=>rw [if_pos rfl,Q2,wF]; exact Ss _
 dsimp only
 have told:∀ t:Sem Fin,wpAny (model prog w) A t P E { s with heap:=((s.heap.update a (OJ fun _=> #[])).push (seqObj "tuple" vs.toArray 0)).push (seqObj "list" #[] 0) } →
  wpAny (model prog w) A (if b=true then (do let _ ← rule "list.sort.reverse"; t) else t) P E { s with heap:=((s.heap.update a (OJ fun _=> #[])).push (seqObj "tuple" vs.toArray 0)).push (seqObj "list" #[] 0) }:=fun t ht=>by
  split
  ·exact NX (Po ht)
  ·exact ht
 refine told _ ?_
 have hlen:∀ {xs:Array Keyed},xs.toList.Perm (dup vs)→(if b=true then (Array.map (fun x=>x.snd) xs).reverse else Array.map (fun x=>x.snd) xs).size≤sizeLine+1:=fun {xs} hp=>by
  have l:=hp.length_eq
  simp only [OU,dup,N6] at l
  split
  ·rw [Array.size_reverse,Array.size_map]; lia
  ·rw [Array.size_map]; lia
 by_cases h2:vs.toArray.size<2
 ·rw [if_pos h2,if_pos h2]
  refine NX (N1 ?_)
  rw [StateT.run_pure]
  refine NX (N1 ?_)
  dsimp only
  refine NX (Rb ho6 rfl (NX (Py ho6 rfl ?_ (hsz2:=hlen hstart))))
  simp only [bne_self_eq_false,OV,if_false]
  refine N1 (fin (Qs general' (if b=true then (vs.toArray.zip vs.toArray).reverse else vs.toArray.zip vs.toArray) #[] 7 none) hstart ?_)
  intro i j _ hij hj
  have hl:(dup vs).length<2:=by simpa [dup] using h2
  have:i=j:=by lia
  subst this; exact Pn _
 ·rw [if_neg h2,if_neg h2]
  refine NX (hkk _ _ (by simpa using h2) ?_)
  refine NX (OP (wpS_sortRuns (κ:=κ) (rk:=rk) (L:=dup vs) (st:=Qs κ (if b=true then (vs.toArray.zip vs.toArray).reverse else vs.toArray.zip vs.toArray) #[] 7 none)
   (Q:=fun _ st'=>(arrOf st').toList.Perm (dup vs)∧failedOf st'=none∧Seg rk (arrOf st') 0 (dup vs).length) hC ⟨hstart,rfl,rfl⟩ rfl fun st' a1 a2=>⟨a1.perm,a1.failed,a2⟩) ?_ fun _ _ e=>e)
  rintro ⟨⟨⟩,st'⟩ s' ⟨rfl,hp,hf,hs⟩
  dsimp only
  refine NX (Rb ho6 rfl (NX (Py ho6 rfl ?_ (hsz2:=hlen hp))))
  rw [hf]
  simp only [bne_self_eq_false,OV,if_false]
  exact N1 (fin st' hp hs)
end
section
variable {α:Type} {lt:α→α→Bool} {L:List α}
theorem filter_le:∀ {l:List α},(∀ z∈l,p z=true→q z=true)→(l.filter p).length≤(l.filter q).length
 | [],_=>N3 _
 | x::l,h=>by
  have ih:=filter_le (l:=l) fun z hz=>h z (Ob _ hz)
  have hx:=h x N9
  cases e:p x with
  | false =>
   rw [Rl (by simp [e])]
   by_cases e2:q x=true
   ·rw [Qw e2]; exact Nat.le_succ_of_le ih
   ·rw [Rl e2]; exact ih
  | true =>
   rw [Qw e,Qw (hx e)]
   exact Sx ih
theorem filter_lt:∀ {l:List α},(∀ z∈l,p z=true→q z=true)→(∃ z∈l,q z=true∧p z=false)→(l.filter p).length<(l.filter q).length
 | [],_,h=>by obtain ⟨z,h,_⟩:=h; cases h
 | x::l,h,g=>by
  have h':∀ z∈l,p z=true→q z=true:=fun z hz=>h z (Ob _ hz)
  have hx:=h x N9
  by_cases e:p x=true
  ·rw [Qw e,Qw (hx e)]
   obtain ⟨z,hz,z1,z2⟩:=g
   rcases Og.mp hz with rfl | hz
   ·rw [e] at z2; cases z2
   ·exact Nat.succ_lt_succ (filter_lt h' ⟨z,hz,z1,z2⟩)
  ·rw [Rl e]
   by_cases e2:q x=true
   ·rw [Qw e2]; exact Nat.lt_succ_of_le (filter_le h')
   ·rw [Rl e2]
    obtain ⟨z,hz,z1,z2⟩:=g
    rcases Og.mp hz with rfl | hz
    ·exact absurd z1 e2
    ·exact filter_lt h' ⟨z,hz,z1,z2⟩
structure Gr (lt:α→α→Bool) (L:List α):Prop where
 irr:∀ x∈L,lt x x=false
 tr:∀ x∈L,∀ y∈L,∀ z∈L,lt x y=true→lt y z=true→lt x z=true
 tot:∀ x∈L,∀ y∈L,x≠y→lt x y=true∨lt y x=true
noncomputable def rank (lt:α→α→Bool) (L:List α) (x:α):Int:=((L.filter fun z=>lt z x).length:Int)
theorem kH (h:Gr lt L) (hx:x∈L) (hy:y∈L) (e:lt x y=true):rank lt L x<rank lt L y:=by
 have q:=filter_lt (l:=L) (p:=fun z=>lt z x) (q:=fun z=>lt z y) (fun z hz hzx=>h.tr z hz x hx y hy hzx e) ⟨x,hx,e,h.irr x hx⟩
 unfold rank; lia
theorem EN (h:Gr lt L) (hx:x∈L) (hy:y∈L):decide (rank lt L x<rank lt L y)=lt x y:=by
 classical
 cases e:lt x y with
 | true=>exact decide_eq_true (kH h hx hy e)
 | false =>
  refine decide_eq_false fun z=>?_
  by_cases w:x=y
  ·subst w; exact absurd z (Int.lt_irrefl _)
  ·rcases h.tot x hx y hy w with q | q
   ·rw [e] at q; cases q
   ·have:=kH h hy hx q; lia
theorem gv (hp:n.Perm m):∀ {l:List α},Paired S l m→∃ l',l'.Perm l∧Paired S l' n:=by
 induction hp with
 | nil=>intro l h; exact ⟨l,.refl _,h⟩
 | cons x _ ih =>
  intro l h
  cases h with
  | cons r t=>obtain ⟨l',h1,h2⟩:=ih t; exact ⟨_::l',h1.cons _,.cons r h2⟩
 | swap x y l' =>
  intro l h
  cases h with
  | cons r t=>cases t with | cons r2 t2=>exact ⟨_,.swap _ _ _,.cons r2 (.cons r t2)⟩
 | trans _ _ ih1 ih2 =>
  intro l h
  obtain ⟨l1,h1,h2⟩:=ih2 h
  obtain ⟨l2,h3,h4⟩:=ih1 h2
  exact ⟨l2,h3.trans h1,h4⟩
theorem iB (h:Paired S l m):∀ u∈m,∃ x∈l,S x u:=by
 induction h with
 | nil=>intro u hu; cases hu
 | cons r t ih =>
  intro u hu
  rcases Og.mp hu with rfl | hu
  ·exact ⟨_,N9,r⟩
  ·obtain ⟨x,h1,h2⟩:=ih u hu; exact ⟨x,Ob _ h1,h2⟩
open Classical in
noncomputable def yi {β:Type} (S:α→Value→Prop) (lt:α→α→Bool) (L:List α) (p:Value×β):Int:=if h:∃ x,x∈L∧S x p.1 then rank lt L h.choose else 0
theorem kI (inj:∀ x y u,S x u→S y u→x=y) (hx:x∈L) (h:S x p.1):yi S lt L p=rank lt L x:=by
 have e:∃ x,x∈L∧S x p.1:=⟨x,hx,h⟩
 unfold yi
 rw [dif_pos e,inj _ _ _ e.choose_spec.2 h]
theorem rK (inj:∀ x y u,S x u→S y u→x=y) (h:Gr lt L) (nd:L.Nodup) (hL:Paired S L us) (hp:out.Perm us) (ho:Ord (yi S lt L) b out) :
 ∃ L',L'.Perm L∧L'.Pairwise (fun x y=>if b then lt y x=true else lt x y=true)∧Paired S L' out:=by
 obtain ⟨L',h1,h2⟩:=gv hp hL
 refine ⟨L',h1,?_,h2⟩
 have hm:∀ x∈L',x∈L:=fun x hx=>h1.mem_iff.mp hx
 have nd':L'.Nodup:=h1.nodup_iff.mpr nd
 clear h1 hp hL nd
 unfold Ord at ho
 induction h2 with
 | nil=>exact .nil
 | @cons x u xs us r t ih =>
  obtain ⟨q1,q2⟩:=Q4.mp ho
  obtain ⟨n1,n2⟩:=Pd.mp nd'
  refine .cons (fun y hy=>?_) (ih q2 (fun z hz=>hm z (Ob _ hz)) n2)
  have hx:=hm x N9
  have hyL:=hm y (Ob _ hy)
  obtain ⟨v,hv,sv⟩:∃ v∈us,S y v:=by
   clear ih ho q1 q2 n1 n2 hm nd'
   induction t with
   | nil=>cases hy
   | cons r t ih2 =>
    rcases Og.mp hy with rfl | hy
    ·exact ⟨_,N9,r⟩
    ·obtain ⟨v,h1,h2⟩:=ih2 hy; exact ⟨v,Ob _ h1,h2⟩
  have q:=q1 v hv
  rw [kI inj hx (p:=(u,u)) r,kI inj hyL (p:=(v,v)) sv] at q
  have ne:x≠y:=fun z=>n1 (z ▸ hy)
  cases b with
  | true =>
   simp only [if_true] at q ⊢
   rcases h.tot x hx y hyL ne with w | w
   ·have:=kH h hx hyL w; lia
   ·exact w
  | false =>
   simp only [OV,if_false] at q ⊢
   rcases h.tot x hx y hyL ne with w | w
   ·exact w
   ·have:=kH h hyL hx w; lia
end
section
theorem Ba (inj:∀ x y u,S x u→S y u→x=y) (h:Gr lt L) (hL:Paired S L us)
 (hk:∀ x∈L,∀ y∈L,∀ u v,S x u→S y v→∀ (E:Value→Shared→Prop) (Q:Bool→Shared→Prop),Q (lt x y) s→wpAny (model prog w) A (keyLt' κ u v) Q E s):iS prog w A s κ (yi S lt L) (dup us):=by
 intro p hp q hq E Q hQ
 simp only [dup,Oo] at hp hq
 obtain ⟨u,hu,rfl⟩:=hp
 obtain ⟨v,hv,rfl⟩:=hq
 obtain ⟨x,hx,sx⟩:=iB hL u hu
 obtain ⟨y,hy,sy⟩:=iB hL v hv
 refine hk x hx y hy u v sx sy E Q ?_
 rw [kI inj hx (p:=(u,u)) sx,kI inj hy (p:=(v,v)) sy,EN h hx hy] at hQ
 exact hQ
end
end SR
namespace SR
open PySem PySem.Calls PyProof.Rows L2 EV
theorem mT (a):Builtin.«list.sort» ⟨[.ref a],[(NY "key",.builtin "len")]⟩=(do
 let items ← Rm (.ref a)
 Qh (.ref a) fun _=> #[]
 let before ← seqEpoch a
 let held ← newTuple items.toList
 let keyStore ← newList []
 holding [held,keyStore] do
  rule "list.sort.key"
  for x in items do
   match ← (call (.builtin "len") [x]).attempt with
   | .ok k=>Qh keyStore (·.push k)
   | .error e =>
    rule "list.sort.key-raised"
    let made ← Rm keyStore
    Qh keyStore fun _=> #[]
    letGo made.toList.reverse [e]
    Qh (.ref a) fun _=>items; throw e
  let keys ← Rm keyStore
  let kind ← if items.size<2 then pure general' else keyKind' keys
  let ((),s) ← (if items.size<2 then pure () else sortRuns').run (Qs kind (keys.zip items) #[] 7 none)
  Qh keyStore fun _=> #[]
  letGo ((arrOf s).map (·.1)).toList (failedOf s).toList
  let touched:=(← seqEpoch a) != before
  Qh (.ref a) fun _=>(arrOf s).map (·.2)
  if let some e:=failedOf s then rule "list.sort.comparison-raised"; throw e
  if touched then rule "list.sort.modified"; raiseError "ValueError" "list modified during sort"
  ret .none):=by
 rfl
theorem iC (a v):argsOk "list.sort" ⟨[a],[(NY "key",v)]⟩:=by unfold argsOk; kernel_rfl
theorem kg (a v):argsOk "sorted" ⟨[a],[(NY "key",v)]⟩:=by unfold argsOk; kernel_rfl
section
noncomputable def intOf (p:Keyed):Int:=match p.1 with | .int m _=>m | _=>0
theorem wG:∀ {ks vs:List Value},ks.length=vs.length→(ks.zip vs).map (·.2)=vs
 | [],[],_=>rfl
 | k::ks,v::vs,h=>by rw [Sk,N5,wG (by simpa using h)]
 | [],_::_,h=>by simp at h
 | _::_,[],h=>by simp at h
theorem wH {ks vs:List Value} {ms:List Int} (h:IntsAre ks ms) {p:Keyed} (hp:p∈ks.zip vs):∃ m t,p.1=.int m t:=by
 obtain ⟨k,v⟩:=p
 exact h.all k (SE hp).1
theorem Bb (ho:s.heap.get? a=some (seqObj "list" vs.toArray n)) (hz:vs.length≤sizeLine)
 (hv:∀ v∈vs,∃ (l:Addr) (items:Array Value),v=.ref l∧l≠a∧s.heap.IsList l items∧items.size≤sizeLine)
 (h:∀ (out:Array Value) (h':Heap) (tk e:Nat),out.toList.Perm vs→h'.get? a=some (seqObj "list" out e)→(∀ c o,c≠a→s.heap.get? c=some o→h'.get? c=some o)→P (.done (.ret .none)) { s with heap:=h',toks:=tk }) :
 wpAny (model prog w) A (Builtin.«list.sort» ⟨[.ref a],[(NY "key",.builtin "len")]⟩) P E s:=by
 rw [mT]
 have lta:a<s.heap.objs.size:=N8 ho
 refine NX (RG ho rfl (NX (Py ho rfl ?_ (by simpa using hz))))
 obtain ⟨e1,ho1⟩:∃ e1,(s.heap.update a (OJ fun _=> #[])).get? a=some (seqObj "list" #[] e1):=⟨_,SD ho (fun _=> #[])⟩
 have oth:∀ c o,c≠a→s.heap.get? c=some o→(s.heap.update a (OJ fun _=> #[])).get? c=some o:=fun c o hc q=>by rw [Qi _ _ _ _ hc]; exact q
 refine NX (Rb ho1 rfl (NX (wpAny_newTuple ?_ (by simpa using hz))))
 refine NX (RB (OS ?_))
 generalize hkS:((s.heap.update a (OJ fun _=> #[])).push (seqObj "tuple" vs.toArray 0)).objs.size=kS
 have hks:(((s.heap.update a (OJ fun _=> #[])).push (seqObj "tuple" vs.toArray 0)).push (seqObj "list" #[] 0)).get? kS=some (seqObj "list" #[] 0):=by rw [← hkS]; exact Oj _ rfl
 have kne:∀ c,c<s.heap.objs.size→c≠kS:=fun c hc e=>by
  rw [← hkS,size_push',Ui] at e; lia
 have k1:∀ c o,c≠a→s.heap.get? c=some o→(((s.heap.update a (OJ fun _=> #[])).push (seqObj "tuple" vs.toArray 0)).push (seqObj "list" #[] 0)).get? c=some o:=fun c o hc q=>N7 _ (N7 _ (oth c o hc q))
 have ho6:(((s.heap.update a (OJ fun _=> #[])).push (seqObj "tuple" vs.toArray 0)).push (seqObj "list" #[] 0)).get? a=some (seqObj "list" #[] e1):=N7 _ (N7 _ ho1)
 dsimp only
 generalize (((s.heap.update a (OJ fun _=> #[])).push (seqObj "tuple" vs.toArray 0)).push (seqObj "list" #[] 0))=h1 at hks k1 ho6 ⊢
 have hak:a≠kS:=kne a lta
 refine NX (Po ?_)
 refine NX (OP (wpAny_forIn_array' _ (fun rest _ s'=>∃ (dn:List Value) (ks:List Value) (ms:List Int) (hh:Heap) (tk e:Nat),vs=dn++rest∧s'={ s with heap:=hh,toks:=tk }∧IntsAre ks ms∧ks.length=dn.length∧hh.get? kS=some (seqObj "list" ks.toArray e)∧∀ c o,c≠kS→h1.get? c=some o→hh.get? c=some o)
  (fun _ s'=>∃ (ks:List Value) (ms:List Int) (hh:Heap) (tk e:Nat),s'={ s with heap:=hh,toks:=tk }∧IntsAre ks ms∧ks.length=vs.length∧hh.get? kS=some (seqObj "list" ks.toArray e)∧∀ c o,c≠kS→h1.get? c=some o→hh.get? c=some o) ?turn ?fin _ _ ?beg) ?rest fun _ _ e=>e)
 case beg=>exact ⟨[],[],[],h1,_,0,rfl,rfl,.nil,rfl,hks,fun _ _ _ q=>q⟩
 case fin =>
  rintro _ s' ⟨dn,ks,ms,hh,tk,e,e1,e2,e3,e4,e5,e6⟩
  rw [O7] at e1
  exact ⟨ks,ms,hh,tk,e,e2,e3,by rw [e4,e1],e5,e6⟩
 case turn =>
  rintro v rest _ s' ⟨dn,ks,ms,hh,tk,e,ev,rfl,e3,e4,e5,e6⟩
  obtain ⟨l,items,rfl,hla,hli,hsz⟩:=hv v (by rw [ev]; simp)
  obtain ⟨o,q1,q2,q3⟩:=hli
  have hl':hh.IsList l items:=⟨o,e6 l o (kne l (N8 q1)) (k1 l o hla q1),q2,q3⟩
  refine NX (Qn (call_len_list hl' (by have:=oF; lia) ?_))
  dsimp only
  have hkl:ks.length≤sizeLine:=by rw [e4]; have:=congrArg QJ ev; simp at this; lia
  refine NX (Py e5 rfl ?_ (by simpa using hkl) (by simp; lia))
  refine N1 ⟨dn++[.ref l],ks++[.int items.size (tk+1)],ms++[(items.size:Int)],_,_,e+1,by rw [ev]; simp,rfl,e3.append (.cons _ _ .nil),by simp [e4],?_,fun c o hc q=>?_⟩
  ·have:=SD e5 (fun a=>a.push (.int items.size (tk+1)))
   simpa using this
  ·rw [Qi _ _ _ _ hc]; exact e6 c o hc q
 case rest =>
  rintro _ s' ⟨ks,ms,hh,tk,e,rfl,e3,e4,e5,e6⟩
  refine NX (RG e5 rfl ?_)
  have zl:(ks.toArray.zip vs.toArray).toList=ks.zip vs:=by rw [Array.toList_zip]
  have hoa:=e6 a _ hak ho6
  have pl:∀ {st':SortSt},(arrOf st').toList.Perm (ks.zip vs)→((arrOf st').map (·.2)).toList.Perm vs:=fun {st'} hp=>by
   rw [Uk]
   have:=hp.map (·.2)
   rwa [wG e4] at this
  have ho7:(hh.update kS (OJ fun _=>(#[]:Array Value))).get? a=some (seqObj "list" #[] e1):=by rw [Qi _ _ _ _ hak]; exact hoa
  have fin:∀ (out:Array Value),out.toList.Perm vs→P (.done (.ret .none)) { s with heap:=(hh.update kS (OJ fun _=>(#[]:Array Value))).update a (OJ fun _=>out),toks:=tk }:=fun out hp =>
   h out _ _ _ hp (SD ho7 (fun _=>out)) fun c o hc q=>by
    have lc:=N8 q
    rw [Qi _ _ _ _ hc,Qi _ _ _ _ (kne c lc)]
    exact e6 c o (kne c lc) (k1 c o hc q)
  have hkz:(ks.toArray:Array Value).size≤sizeLine:=by rw [Ot,e4]; exact hz
  have oz:∀ {out:Array Value},out.toList.Perm vs→out.size≤sizeLine+1:=fun {out} hp=>by
   have l:=hp.length_eq
   rw [OU] at l; lia
  by_cases h2:vs.toArray.size<2
  ·rw [if_pos h2,if_pos h2]
   refine NX (N1 ?_)
   rw [StateT.run_pure]
   refine NX (N1 ?_)
   dsimp only
   have p0:=pl (st':=Qs general' (ks.toArray.zip vs.toArray) #[] 7 none) (by show (ks.toArray.zip vs.toArray).toList.Perm _; rw [zl])
   refine NX (Py e5 rfl ?_ hkz)
   refine NX (S9 ?_)
   refine NX (Rb ho7 rfl (NX (Py ho7 rfl ?_ (hsz2:=oz p0))))
   simp only [bne_self_eq_false,OV,if_false]
   exact N1 (fin _ p0)
  ·rw [if_neg h2,if_neg h2]
   rw [ksk_kind (kz:=ms) e3 (by rw [Ot,e4]; simpa using h2)]
   refine NX (N1 ?_)
   have hC:iS prog w A { s with heap:=hh,toks:=tk } oneType' intOf (ks.zip vs):=fun x hx y hy E Q hQ=>by
    obtain ⟨m,t,ex⟩:=wH e3 hx
    obtain ⟨m',t',ey⟩:=wH e3 hy
    unfold intOf at hQ
    rw [ex,ey] at hQ ⊢
    rw [keyLt'_oneType]
    exact oneLt_int hQ
   refine NX (OP (wpS_sortRuns (κ:=oneType') (rk:=intOf) (L:=ks.zip vs) (st:=Qs oneType' (ks.toArray.zip vs.toArray) #[] 7 none)
    (Q:=fun _ st'=>(arrOf st').toList.Perm (ks.zip vs)∧failedOf st'=none) hC ⟨(by show (ks.toArray.zip vs.toArray).toList.Perm _; rw [zl]),rfl,rfl⟩ rfl fun st' a1 a2=>⟨a1.perm,a1.failed⟩) ?_ fun _ _ e=>e)
   rintro ⟨⟨⟩,st'⟩ s' ⟨rfl,hp,hf⟩
   dsimp only
   refine NX (Py e5 rfl ?_ hkz)
   refine NX (S9 ?_)
   refine NX (Rb ho7 rfl (NX (Py ho7 rfl ?_ (hsz2:=oz (pl hp)))))
   rw [hf]
   simp only [bne_self_eq_false,OV,if_false]
   exact N1 (fin _ (pl hp))
end
end SR
namespace EV
open PySem PySem.Spec PySem.Calls PyProof.Rows L2
theorem kJ:∀ l:List Int,HT.lexLt l l=false
 | []=>rfl
 | x::l=>by rw [HT.cC,if_pos rfl]; exact kJ l
theorem um:∀ {a b c:List Int},HT.lexLt a b=true→HT.lexLt b c=true→HT.lexLt a c=true
 | [],[],_,h,_=>by cases h
 | [],_::_,[],_,h=>by cases h
 | [],_::_,_::_,_,_=>rfl
 | _::_,[],_,h,_=>by cases h
 | _::_,_::_,[],_,h=>by cases h
 | x::a,y::b,z::c,h,g=>by
  rw [HT.cC] at h g ⊢
  by_cases e:x=y
  ·subst e
   rw [if_pos rfl] at h
   by_cases f:x=z
   ·subst f; rw [if_pos rfl] at g ⊢; exact um h g
   ·rw [if_neg f] at g ⊢; exact g
  ·rw [if_neg e] at h
   have h:=of_decide_eq_true h
   by_cases f:y=z
   ·subst f; rw [if_neg e]; exact decide_eq_true h
   ·rw [if_neg f] at g
    have g:=of_decide_eq_true g
    rw [if_neg (by lia)]; exact decide_eq_true (by lia)
theorem kK:∀ {a b:List Int},a≠b→HT.lexLt a b=true∨HT.lexLt b a=true
 | [],[],h=>absurd rfl h
 | [],_::_,_=>.inl rfl
 | _::_,[],_=>.inr rfl
 | x::a,y::b,h=>by
  rw [HT.cC,HT.cC]
  by_cases e:x=y
  ·subst e
   rw [if_pos rfl,if_pos rfl]
   exact kK fun z=>h (by rw [z])
  ·rw [if_neg e,if_neg (Ou e)]
   rcases Int.lt_or_gt_of_ne e with z | z
   ·exact .inl (decide_eq_true z)
   ·exact .inr (decide_eq_true z)
noncomputable abbrev aJ:=List Int×Int
noncomputable def cO (x y:aJ):Bool:=if x.1=y.1 then decide (x.2<y.2) else HT.lexLt x.1 y.1
theorem pq (L:List aJ):SR.Gr cO L where
 irr:=fun x _=>by unfold cO; rw [if_pos rfl]; exact decide_eq_false (Int.lt_irrefl _)
 tr:=fun x _ y _ z _ h g=>by
  unfold cO at *
  by_cases e:x.1=y.1
  ·rw [if_pos e] at h
   by_cases f:y.1=z.1
   ·rw [if_pos f] at g; rw [if_pos (e.trans f)]
    exact decide_eq_true (Int.lt_trans (of_decide_eq_true h) (of_decide_eq_true g))
   ·rw [if_neg f] at g; rw [if_neg (fun w=>f (e.symm.trans w)),e]; exact g
  ·rw [if_neg e] at h
   by_cases f:y.1=z.1
   ·rw [if_neg (fun w=>e (w.trans f.symm)),← f]; exact h
   ·rw [if_neg f] at g
    have q:=um h g
    rw [if_neg fun w=>by rw [w,kJ] at q; cases q]; exact q
 tot:=fun x _ y _ h=>by
  unfold cO
  by_cases e:x.1=y.1
  ·rw [if_pos e,if_pos e.symm]
   have:x.2≠y.2:=fun z=>h (Prod.ext e z)
   rcases Int.lt_or_gt_of_ne this with z | z
   ·exact .inl (decide_eq_true z)
   ·exact .inr (decide_eq_true z)
  ·rw [if_neg e,if_neg (Ou e)]
   exact kK e
noncomputable abbrev aO (t:aJ):D:=.tup [.tup (t.1.map .int),.int t.2]
section
variable {X:Cx}
noncomputable def kh (K:NZ) (Hf:Hp) (d:D) (u:Value):Prop:=∃ v,RelV v u∧Rep K Hf d v
theorem Bc (l m:List Int):k6 1 (.tup (l.map .int)) (.tup (m.map .int)):=.tup fun i d e h1 h2=>by
 simp only [Oc,Oh] at h1 h2
 obtain ⟨x,_,rfl⟩:=h1
 obtain ⟨y,_,rfl⟩:=h2
 exact .sc rfl
theorem ji:∀ {l:List Int} {ys:List V},au X.K Hf (l.map D.int) ys→ys=l.map V.int
 | [],ys,h=>aA.mp h
 | n::l,ys,h=>by
  obtain ⟨y,r,rfl,z1,z2⟩:=aC.mp h
  rw [ay] at z1; subst z1
  rw [ji z2]; rfl
theorem iD:∀ (l:List α) (r:List β) {Q:List β→Shared→Prop},Paired (fun a b=>∀ (Q:β→Shared→Prop),Q b s→wpAny M A (f a) Q E s) l r→Q r s→wpAny M A (l.mapM f) Q E s
 | _,_,Q,.nil,h=>by rw [List.mapM_nil]; exact N1 h
 | _,_,Q,.cons q t,h=>by
  rw [List.mapM_cons]
  exact NX (q _ (NX (iD _ _ t (N1 h))))
end
section
noncomputable abbrev EO (X:Cx) (A:Around):Cx:={ X with A:=A }
theorem Lh (ok:X.Ok) (h1:X.calm=true→A.handled=none) (h2:A.frames=some X.stack):(EO X A).Ok :=
 ⟨ok.mod,ok.kind,ok.glob,ok.blt,ok.above,ok.inj,ok.has,ok.cab,h1,h2,ok.stk,ok.exf,ok.bs,ok.bsz,ok.noex,ok.exfs,ok.jx,ok.frf⟩
theorem jM (I:Inv X aa σ H s) (h1:X.calm=true→A.handled=none) (h2:A.frames=some X.stack):Inv (EO X A) aa σ H s :=
 ⟨Lh I.ok h1 h2,I.os,I.bare,I.base,I.loc,I.cell,I.free,I.freeC,I.pin,I.hok,I.len⟩
theorem gw (ok:X.Ok) (I:Inv (EO X A) aa σ H s):Inv X aa σ H s :=
 ⟨ok,I.os,I.bare,I.base,I.loc,I.cell,I.free,I.freeC,I.pin,I.hok,I.len⟩
theorem ER {fp:List Addr} (h:∀ b∈fp,fM X aa H b) (n:∀ b∈fp,H' b=none):∀ b∈fp,fM X aa H' b:=fun b hb=>⟨n b hb,(h b hb).2⟩
theorem Be (hc:X.calm=true) (Tn:Turn X.prog X.w X.K (.Name nm np) J fp it tn) (io:jF X.K J ds Dz)
 (hS0:Hb S=none) (hSf:S∉fp) (hn:ds.length≤sizeLine) (okX:X.Ok) (h1:X.A.in1.handled=none) (h2:X.A.in1.frames=some X.stack)
 (fin:∀ (s':Shared) (H' aj:Hp) (xs:List V),Inv X aa σ H' s'→H' S=some (.lst xs)→aj S=none→au X.K aj ds xs→bq Hb Dz H' aj→R (.ok (.ret res)) s') :
 ∀ (k i:Nat) (s:Shared) (H Hf:Hp) (xs:List V),ds.length - i=k→i≤ds.length→Inv X aa σ H s→tn i s.heap→(∀ b∈fp,fM X aa H b)→H S=some (.lst xs)→Hf S=none→au X.K Hf (ds.take i) xs→bq Hb Dz H Hf →
  codeAny (model X.prog X.w) X.A (.builtin "list.extend.loop" ⟨[.ref S,.ref it,res],[]⟩) R s:=by
 intro k
 induction k with
 | zero =>
  intro i s H Hf xs hk hi I t hf hS hfS hr g
  have e:i=ds.length:=by omega
  subst e
  rw [OX] at hr
  refine Ru PySem.F.entry_extend_loop ?_
  rw [Sf RV _]
  show wpAny _ X.A.in1 (pyNext (.ref it) >>= _) _ _ s
  refine NX (OP (Tn.done (EO X X.A.in1) rfl rfl rfl hc _ aa s σ H _ (jM I (fun _=>h1) h2) hf t (io.stop _ H Hf g.f g.b (N3 _))) (fun r s' ⟨e,I'⟩=>?_) fun _ _ x=>x)
  subst e
  exact N1 (fin s' H Hf xs (gw okX I') hS hfS hr g)
 | succ k ih =>
  intro i s H Hf xs hk hi I t hf hS hfS hr g
  have lt:i<ds.length:=by omega
  have ed:ds[i]?=some ds[i]:=Ov lt
  obtain ⟨hgo,hy⟩:=io.go i ds[i] H Hf g.f g.b ed
  refine Ru PySem.F.entry_extend_loop ?_
  rw [Sf RV _]
  show wpAny _ X.A.in1 (pyNext (.ref it) >>= _) _ _ s
  refine NX (OP (Tn.item (EO X X.A.in1) rfl rfl rfl hc i aa s σ H _ (jM I (fun _=>h1) h2) hf t hgo) (fun r s1 ⟨u,e,hu⟩=>?_) fun _ _ x=>x)
  subst e
  show wpAny _ X.A.in1 (letOwnedTupleGo (.Name nm np) (.ref it) u >>= fun _=>(Qh (.ref S) (·.push u) >>= fun _=>again (.builtin "list.extend.loop" ⟨[.ref S,.ref it,res],[]⟩))) _ _ s1
  refine NX (OP hu (fun _ s2 ⟨x,H',I2,rx,y,t2,n2⟩=>?_) fun _ _ x=>x)
  have I2:=gw okX I2
  obtain ⟨aj,g',rd⟩:=hy x H' y
  have hS':H' S=some (.lst xs):=g'.s _ _ hS
  have hfS':aj S=none:=g'.n S hfS (by rw [hS]; simp) (by intro ys; rw [hS]; simp)
  obtain ⟨z,its,n,rv,el,eo⟩:=I2.qv hS'
  have hx:xs.length=i:=by rw [← hr.length,Pc]; omega
  have hz:(xs++[x]).length≤sizeLine:=by simp only [OH,OF,PV]; omega
  refine NX (Py eo rfl ?_ (by simp; omega) (by simp; omega))
  have ef:(fun a:Array Value=>a.push u) its.toArray=(its++[u]).toArray:=by simp
  have I3:=I2.tQ (f:=fun a=>a.push u) (t':=s2.toks) hS' eo ef (rv.append (.cons rx .nil)) hz
  refine N1 ⟨plainId_quiet RV _,ih (i+1) _ (upd H' S (.lst (xs++[x]))) aj (xs++[x]) (by omega) lt I3 (Tn.keep _ _ _ t2 fun b hb o e=>?_) (ER hf fun b hb=>?_) ai hfS' ?_ (oZ (g.trans g') hS0 hfS')⟩
  ·exact (R6 _ _ (fun w:S=b=>hSf (w ▸ hb))).trans e
  ·rw [ak (fun w:b=S=>hSf (w ▸ hb))]; exact n2 b hb
  ·rw [T9,ed]
   exact (hr.mono g'.f).append (au.one rd)
end
section
theorem yj (hT:s.TypeIs (.ref v) "dict_items") (hQ:Q false s):wpAny (model prog w) A (QS (.ref v)) Q E s:=by
 unfold QS
 refine NX (SA hT PySem.F.slot_dict_items_len.lookup ?_)
 have e:splitId "dict_items.__len__"=some ("dict_items","__len__"):=by decide +kernel
 dsimp only
 rw [e]
 dsimp only
 refine NX (Sw (b:=true) hT (by rw [isSubtype_type]; kernel_rfl) ?_)
 rw [if_neg (by decide)]
 exact NX (Qo hT (N1 hQ))
end
section
theorem ES (I:Inv X aa σ H s) (hv:s.heap.IsItemsView v d) (hH:H d=some (.frz o u)) (hd:HO.dct u) :
 wpAny (model X.prog X.w) A (pyIter (.ref v)) (fun itv s2=>∃ (it:Addr) (es:Array DictEntry) (ep:Nat),itv=.ref it∧s.heap.objs.size≤it∧Inv X aa σ H s2∧Turn X.prog X.w X.K tg (Nc d o u) [it] it (fun i h=>AW h it d i es.size ep)∧AW s2.heap it d 0 es.size ep∧(∀ b∈[it],fM X aa H b) ∧
  (∀ b o,s.heap.get? b=some o→s2.heap.get? b=some o)) E s:=by
 obtain ⟨ho,ok⟩:=(show bh X.prog X.w H s.heap d (.frz o u) from I.hok d _ hH)
 obtain ⟨hx,es,ep,hod,hp,hs,hz⟩:=cH ok hd ho
 refine ya hv ho hod ?_
 have hsz:es.size=(bL u).length:=by rw [Pk hp]; simp
 refine ⟨_,es,ep,rfl,N3 _,I.kept (t':=s.toks) fun b o e=>N7 _ e,uc (o:=o) (u:=u) (es:=es) (ep:=ep) hd hod (fun z=>?_) hsz,⟨.none,false,.none,.none,Oj _ rfl,.inl rfl⟩,fun b hb=>?_,fun b o e=>N7 _ e⟩
 ·have lt:=N8 ho
  rw [← z] at lt
  exact absurd lt (PK _)
 ·have e:b=s.heap.objs.size:=by simpa using hb
  subst e
  exact I.mG (N3 _) (I.hok.fresh (N3 _))
theorem nX (hc:X.calm=true) (h1:X.A.in1.handled=none) (h2:X.A.in1.frames=some X.stack) (I1:Inv X aa σ (upd H S (.lst [])) s) (sb:aD Hf H) (HS:H S=none) (hvS:S≠src) (hltS:S<s.heap.objs.size) (hn:ds.length≤sizeLine)
 (hT:(false || Pg T == Pg "list" || Pg T == Pg "tuple")=false) (ty:∀ s':Shared,(∀ b o,s.heap.get? b=some o→s'.heap.get? b=some o)→s'.TypeIs (.ref src) T)
 (hint:∀ (A:Around) (s':Shared) (Q:Bool→Shared→Prop) (E:Value→Shared→Prop),s'.TypeIs (.ref src) T→Q false s'→wpAny (model X.prog X.w) A (QS (.ref src)) Q E s')
 (iter:wpAny (model X.prog X.w) X.A.in1 (pyIter (.ref src)) (fun itv s2=>∃ (it:Addr) (tn:Nat→Heap→Prop) (J:It),itv=.ref it ∧
   s.heap.objs.size≤it∧Inv X aa σ (upd H S (.lst [])) s2∧Turn X.prog X.w X.K (.Name "x" ⟨0,0,0,0⟩) J [it] it tn∧tn 0 s2.heap∧(∀ b∈[it],fM X aa (upd H S (.lst [])) b)∧(∀ b o,s.heap.get? b=some o→s2.heap.get? b=some o)∧jF X.K J ds Hf) E s)
 (hR:∀ (s':Shared) (H' aj:Hp) (xs:List V),Inv X aa σ H' s'→H' S=some (.lst xs)→aj S=none→au X.K aj ds xs→bq H Hf H' aj→R (.ok (.ret res)) s') :
 wpAny (model X.prog X.w) X.A.in1 (RT (.ref S) (.ref src) res) (fun fin s'=>match fin with | .done f=>R (.ok f) s' | .again c=>c.quiet=true∧codeAny (model X.prog X.w) X.A c R s') E s:=by
 unfold RT
 have ne:Builtin.List.listSameRef (.ref S) (.ref src)=false:=by simp [Builtin.List.listSameRef,hvS]
 refine NX (Qo (ty s fun _ _ e=>e) ?_)
 rw [if_neg (by rw [ne,hT]; decide)]
 refine NX (OP iter (fun itv s2 hh=>z3 hh fun it tn J hh=>w8 hh fun e hit I2 Tn t0 hf k2 io=>?_) fun _ _ x=>x)
 subst e
 refine NX (OS (hint _ s2 _ _ (ty s2 k2) ?_))
 have hSne:it≠S:=Ra (O0 hltS hit)
 have g0:bq H Hf (upd H S (.lst [])) Hf:=bq.gc sb HS
 have fin:∀ s3:Shared,Inv X aa σ (upd H S (.lst [])) s3→tn 0 s3.heap→wpAny (model X.prog X.w) X.A.in1 (again (.builtin "list.extend.loop" ⟨[.ref S,.ref it,res],[]⟩)) (fun fin s'=>match fin with | .done f=>R (.ok f) s' | .again c=>c.quiet=true∧codeAny (model X.prog X.w) X.A c R s') E s3:=fun s3 I3 t3 =>
  N1 ⟨plainId_quiet RV _,Be (X:=X) (Hb:=H) (Dz:=Hf) hc Tn io HS (fun m=>hSne (Ol.mp m).symm) hn I1.ok h1 h2 hR ds.length 0 s3 _ Hf [] (by simp) (OO _) I3 t3 hf ai (sb.free HS) (aA.mpr rfl) g0⟩
 obtain ⟨_,its,n,rv,el,eo⟩:=I2.qv (l:=S) (xs:=[]) ai
 cases rv
 split
 ·refine NX (Po ?_)
  unfold Builtin.List.listTouch
  refine NX (NX (Py eo rfl ?_))
  have I3:=I2.tQ (f:=fun a=>a.push .none) (its':=[.none]) (ys:=[.non]) (t':=s2.toks) ai eo (by simp) (.cons rfl .nil) (by show 1≤sizeLine; decide)
  obtain ⟨_,its3,n3,rv3,el3,eo3⟩:=I3.qv (l:=S) (xs:=[.non]) ai
  cases rv3 with
  | cons r3 t3 =>
   cases t3
   cases r3
   refine Py eo3 rfl ?_
   have I4:=I3.tQ (f:=fun a=>a.pop) (its':=[]) (ys:=[]) (t':=s2.toks) ai eo3 (by simp) .nil (OO _)
   rw [kD,kD] at I4
   refine fin _ I4 (Tn.keep 0 _ _ t0 fun b hb o e=>?_)
   have hbS:S≠b:=fun w=>hSne (by rw [Ol.mp hb] at w; exact w.symm)
   exact (R6 _ _ hbS).trans ((R6 _ _ hbS).trans e)
 ·exact fin s2 I2 t0
theorem lP (hc:X.calm=true) (h1:X.A.in1.handled=none) (h2:X.A.in1.frames=some X.stack) (I:Inv X aa σ H s) (sb:aD Hf H) (hlt:src<s.heap.objs.size) (hn:ds.length≤sizeLine) (hT:(false || Pg T == Pg "list" || Pg T == Pg "tuple")=false)
 (ty:∀ s':Shared,(∀ b o,s.heap.get? b=some o→s'.heap.get? b=some o)→s'.TypeIs (.ref src) T)
 (hint:∀ (A:Around) (s':Shared) (Q:Bool→Shared→Prop) (E:Value→Shared→Prop),s'.TypeIs (.ref src) T→Q false s'→wpAny (model X.prog X.w) A (QS (.ref src)) Q E s')
 (iter:∀ (A:Around) (s1:Shared) (H1:Hp) (E:Value→Shared→Prop),Inv X aa σ H1 s1→aD Hf H1→(∀ b o,s.heap.get? b=some o→s1.heap.get? b=some o)→wpAny (model X.prog X.w) A (pyIter (.ref src)) (fun itv s2=>∃ (it:Addr) (tn:Nat→Heap→Prop) (J:It),itv=.ref it ∧
   s1.heap.objs.size≤it∧Inv X aa σ H1 s2∧Turn X.prog X.w X.K (.Name "x" ⟨0,0,0,0⟩) J [it] it tn∧tn 0 s2.heap∧(∀ b∈[it],fM X aa H1 b)∧(∀ b o,s1.heap.get? b=some o→s2.heap.get? b=some o)∧jF X.K J ds Hf) E s1)
 (hQ:∀ (us:List Value) (s':Shared) (H' aj:Hp) (xs:List V),Inv X aa σ H' s'→Vals xs us→au X.K aj ds xs→bq H Hf H' aj→ds.length≤sizeLine→Q us s'):wpAny (model X.prog X.w) X.A (collect (.ref src)) Q E s:=by
 unfold collect
 refine NX (wpAny_runValue (Ru PySem.F.entry_proto_collect ?_))
 rw [Sf PySem.F.plain_proto_collect _]
 show wpAny _ X.A.in1 (newList [] >>= fun l=>again (.builtin "list.__iadd__" ⟨[l,.ref src],[]⟩)) _ _ s
 have HS:H s.heap.objs.size=none:=I.hok.fresh (N3 _)
 have hvS:s.heap.objs.size≠src:=Ra hlt
 refine NX (O6 (N1 ⟨plainId_quiet PySem.F.plain_list_iadd _,Ru PySem.F.entry_list_iadd ?_⟩))
 rw [Sf PySem.F.plain_list_iadd _]
 generalize hS:s.heap.objs.size=S at *
 have I1:Inv X aa σ (upd H S (.lst [])) { s with heap:=s.heap.push { cls:=.type "list",data:=.seq ([]:List Value).toArray },toks:=s.toks }:=by
  have:=I.DQ (t':=s.toks) (ys:=[]) (its:=[]) .nil (OO _)
  rw [hS] at this
  exact this
 show wpAny _ X.A.in1 (RT (.ref S) (.ref src) (.ref S)) _ _ { s with heap:=s.heap.push { cls:=.type "list",data:=.seq ([]:List Value).toArray } }
 have k1:∀ b o,s.heap.get? b=some o→(s.heap.push { cls:=.type "list",data:=.seq ([]:List Value).toArray }).get? b=some o:=fun b o e=>N7 _ e
 generalize hs1:({ s with heap:=s.heap.push { cls:=.type "list",data:=.seq ([]:List Value).toArray } }:Shared)=s1
 replace I1:Inv X aa σ (upd H S (.lst [])) s1:=by rw [← hs1]; exact I1
 replace k1:∀ b o,s.heap.get? b=some o→s1.heap.get? b=some o:=by rw [← hs1]; exact k1
 have hltS:S<s1.heap.objs.size:=by rw [← hs1,← hS]; show _<(Heap.push _ _).objs.size; rw [Qm]; exact QC _
 refine nX (R:=fun r s'=>match r with
  | .ok (.ret v)=>wpAny (model X.prog X.w) X.A (do
   let .ref a:=v | unsupported "internal:collect"
   let o ← load a
   match o.data with
   | .seq xs _=>pure xs.toList
   | _=>unsupported "internal:collect") Q E s'
  | .ok _=>False
  | .error e=>E e s') hc h1 h2 I1 sb HS hvS hltS hn hT (fun s' k=>ty s' fun b o e=>k b o (k1 b o e)) hint (iter _ s1 _ _ I1 (bq.gc sb HS (o:=.lst [])).b k1) fun s' H' aj xs I' hS' _ hr g=>?_
 obtain ⟨_,its,n,rv,el,eo⟩:=I'.qv hS'
 exact NX (wpAny_load eo (N1 (hQ its s' H' aj xs I' rv hr g hn)))
end
noncomputable def Iw (te:TE):TE:=fun σ H Q=>te σ H fun x H1=>∃ d o u,x=.ref d∧H1 d=some (.frz o u)∧HO.dct u∧∀ v,H1 v=none→Q (.ref v) (upd H1 v (.ext fun h=>h.IsItemsView v d))
theorem Bf (he:PE X e te) (hbase:attributeBase e "items" X.env (eval e X.env)=eval e X.env) (hline:(ap.endLine == cp.line)=true):PE X (.Call (.Attribute e "items" ap) [] [] cp) (Iw te):=by
 intro aa s σ H Q I h
 refine wpAny_Call_method (T:="dict") (id:="dict.items") hbase rfl hline F.plainAttrs_dict F.slot_dict_items F.type_dict_items (bC (he aa s σ H _ I h) fun v s1 ⟨x,H1,I1,r1,d,o,u,ex,hH,hd,q⟩=>?_)
 subst ex
 cases r1
 obtain ⟨ho,ok⟩:=(show bh X.prog X.w H1 s1.heap d (.frz o u) from I1.hok d _ hH)
 obtain ⟨hx,es,ep,hod,hp,hs,hz⟩:=cH ok hd ho
 have hT:s1.TypeIs (.ref d) "dict":=⟨o,ho,hx.1⟩
 refine ⟨hT,fun b z=>by cases z; exact ⟨o,ho,hx.2.1⟩,?_⟩
 show wpAny _ _ (callWith cp (.builtin "dict.items") [.ref d] [] []) _ _ s1
 refine method_meetsIn F.slot_dict_items F.entry_dict_items rfl (PySem.evalArgs_none ⟨rfl,hT,F.args_dict_items_1 _,_,qZ d hs,hT,?_⟩)
 have Hv:H1 s1.heap.objs.size=none:=I1.hok.fresh (N3 _)
 have hve:(s1.heap.push { cls:=.type "dict_items",data:=.fields #[.ref d] }).IsItemsView s1.heap.objs.size d:=⟨_,Oj _ rfl,rfl,rfl⟩
 have I2:Inv X aa σ (upd H1 s1.heap.objs.size (.ext fun h=>h.IsItemsView s1.heap.objs.size d)) { s1 with heap:=s1.heap.push { cls:=.type "dict_items",data:=.fields #[.ref d] },toks:=s1.toks } :=
  I1.laid (a:=s1.heap.objs.size) (fun _ _ q=>N7 _ q) (N3 _) ⟨hve,⟨_,Oj _ rfl⟩,fun h1 h2 ⟨o,e,r⟩ k=>⟨o,k o e,r⟩⟩
 exact ⟨.ref s1.heap.objs.size,_,I2,rfl,q _ Hv⟩
section
variable {X:Cx} {aa:List (Addr×Obj)} {σ:L2.St} {H Hf:Hp} {s:Shared} {E:Value→Shared→Prop} {α:Type} {enc:α→D} {lt:α→α→Bool} {κ:SortKind}
theorem lQ {K:NZ}:∀ {L:List α} {xs:List V} {us:List Value},au K Hf (L.map enc) xs→Vals xs us→Paired (fun x u=>kh K Hf (enc x) u) L us
 | [],xs,us,h,v=>by rw [QG,aA] at h; subst h; cases v; exact .nil
 | t::L,xs,us,h,v=>by
  rw [N5] at h
  obtain ⟨x,r,rfl,h1,h2⟩:=aC.mp h
  cases v with
  | cons r1 r2=>exact .cons ⟨x,r1,h1⟩ (lQ h2 r2)
theorem lR {K:NZ}:∀ {L:List α} {us:List Value},Paired (fun x u=>kh K Hf (enc x) u) L us→∃ xs,au K Hf (L.map enc) xs∧Vals xs us
 | _,_,.nil=>⟨[],aA.mpr rfl,.nil⟩
 | _,_,.cons ⟨x,r1,h1⟩ t=>by
  obtain ⟨xs,h2,h3⟩:=lR t
  exact ⟨x::xs,.cons h1 h2,.cons r1 h3⟩
structure Li (X:Cx) (enc:α→D) (lt:α→α→Bool) (κ:SortKind):Prop where
 lin:∀ L:List α,SR.Gr lt L
 inj:∀ (aa:List (Addr×Obj)) (σ:L2.St) (H Hf:Hp) (s:Shared),Inv X aa σ H s→aD Hf H→∀ x y u,kh X.K Hf (enc x) u→kh X.K Hf (enc y) u→x=y
 kind:∀ (aa:List (Addr×Obj)) (σ:L2.St) (H Hf:Hp) (s:Shared) (A:Around) (E:Value→Shared→Prop),Inv X aa σ H s→aD Hf H→∀ (L:List α) (us:List Value),Paired (fun x u=>kh X.K Hf (enc x) u) L us→2≤us.length→∀ Q:SortKind→Shared→Prop,Q κ s→wpAny (model X.prog X.w) A (keyKind' us.toArray) Q E s
 cmp:∀ (aa:List (Addr×Obj)) (σ:L2.St) (H Hf:Hp) (s:Shared) (A:Around) (E:Value→Shared→Prop),Inv X aa σ H s→aD Hf H→A.units+10<cLine→∀ (x y:α) (u v:Value),kh X.K Hf (enc x) u→kh X.K Hf (enc y) v→∀ Q:Bool→Shared→Prop,Q (lt x y) s→wpAny (model X.prog X.w) A (keyLt' κ u v) Q E s
noncomputable def fR (lt:α→α→Bool) (b:Bool) (L:List α):Prop:=L.Pairwise fun x y=>if b then lt y x=true else lt x y=true
noncomputable abbrev jj (b:Bool) (L:List aJ):Prop:=fR cO b L
theorem Bg {Q:Value→Shared→Prop} (hs:Li X enc lt κ) (I:Inv X aa σ H s) (sb:aD Hf H) (hA:A.units+20<cLine) (hr:au X.K Hf (L.map enc) xs) (hv:Vals xs us) (hz:us.length≤sizeLine) (nd:L.Nodup)
 (hQ:∀ (L':List α) (xs':List V) (s':Shared),L'.Perm L→fR lt b L'→au X.K Hf (L'.map enc) xs'→xs'.length≤sizeLine→Inv X aa σ (upd H s.heap.objs.size (.lst xs')) s'→Q (.ref s.heap.objs.size) s') :
 wpAny (model X.prog X.w) A (newList us >>= fun l=>(holding [l] (call (.builtin "list.sort") [l] [(NY "reverse",.bool b)]) >>= fun _=>ret l)) (fun fin s'=>∃ v,fin=.done (.ret v)∧Q v s') E s:=by
 refine NX (RB ?_ hz)
 have ha:(s.heap.push (seqObj "list" us.toArray 0)).get? s.heap.objs.size=some (seqObj "list" us.toArray 0):=Oj _ rfl
 have I1:Inv X aa σ H { s with heap:=s.heap.push (seqObj "list" us.toArray 0),toks:=s.toks }:=I.kept fun b o e=>N7 _ e
 have Ha:H s.heap.objs.size=none:=I.hok.fresh (N3 _)
 obtain ⟨f0,f1,f2,f3,f4,f5⟩:=I.mG (H':=H) (N3 _) Ha
 have pL:=lQ hr hv
 refine NX (OS (TN slot_list_sort ⟨_,ha,rfl⟩ entry_list_sort (SR.nW (κ:=κ) (rk:=SR.yi (fun x u=>kh X.K Hf (enc x) u) lt L) (b:=b) ha ?_ hz fun out hp ho=>⟨_,rfl,?_⟩) (args_list_sort_rev _ _)))
 ·intro h' k
  have I2:=I1.turned (h':=h') (t':=s.toks) (it:=s.heap.objs.size) (fun b o hb e=>k b o hb e) f0 f1 f3 f4 f5
  refine ⟨fun Q E h2 hQ=>hs.kind _ _ _ _ _ _ _ I2 sb _ _ pL h2 _ hQ,SR.Ba (fun x y u h1 h2=>hs.inj _ _ _ _ _ I2 sb x y u h1 h2) (hs.lin L) pL fun x _ y _ u v hx hy E Q hQ=>hs.cmp _ _ _ _ _ _ _ I2 sb ?_ _ _ _ _ hx hy _ hQ⟩
  show A.units+1+10<cLine
  lia
 ·obtain ⟨L',p1,p2,p3⟩:=SR.rK (S:=fun x u=>kh X.K Hf (enc x) u) (fun x y u h1 h2=>hs.inj _ _ _ _ _ I sb x y u h1 h2) (hs.lin L) nd pL hp ho
  obtain ⟨xs',r',v'⟩:=lR p3
  obtain ⟨e,he⟩:=sortedHeap_at (vs:=us) (out:=out) ha
  have hl:out.toList.length=us.length:=hp.length_eq
  refine N1 ⟨_,rfl,hQ L' xs' _ p1 p2 r' ?_ ?_⟩
  ·have:=v'.length; lia
  ·refine I.laid (t':=s.toks) (fun b o q=>?_) (N3 _) ⟨by have:=v'.length; lia,out.toList,e,v',by simpa using he⟩
   have lt:=N8 q
   rw [sortedHeap_old (OB lt) (by rw [size_push']; exact So lt)]
   exact N7 _ q
end
section
end
section
variable {K:NZ}
end
section
end
section
variable {K:NZ}
end
end EV
namespace EV
open PySem PySem.Spec PyProof.Rows L2
noncomputable def trim (l:List Int):List Int:=(l.reverse.dropWhile fun x=>x == 0).reverse
theorem gU (l):trim (l++[0])=trim l:=by simp [trim]
theorem nY (l) (h:x≠0):trim (l++[x])=l++[x]:=by simp [trim,List.dropWhile_cons,h]
theorem jN {l:List Int} (h:m<l.length):l.take (m+1)=l.take m++[l.getD m 0]:=by
 rw [O3 h]; simp [O9,h]
theorem nZ (h:m<l.length) (z:l.getD m 0=0) (e:trim (l.take (m+1))=trim l):trim (l.take m)=trim l:=by
 rw [jN h,z,gU] at e; exact e
theorem jO (h:m<l.length) (z:l.getD m 0≠0) (e:trim (l.take (m+1))=trim l):l.take (m+1)=trim l:=by
 rw [← e,jN h,nY _ z]
theorem gx (l):(trim l).length≤l.length:=by
 unfold trim
 rw [TU]
 exact Od (List.dropWhile_sublist _).length_le (by simp)
theorem cy (l):trim (trim l)=trim l:=by
 unfold trim
 rw [List.reverse_reverse]
 congr 1
 generalize l.reverse=r
 induction r with
 | nil=>rfl
 | cons x r ih=>by_cases h:x == 0 <;> simp [List.dropWhile_cons,h,ih]
theorem Bh (l:List α) (h:m≤l.length):EV.cutD l none (some (m:Int))=l.take m:=by
 unfold EV.cutD HT.cg
 have e:¬ (m:Int)<0:=by lia
 simp only [e,if_false,OW]
 simp [Rv h]
section
variable {K:NZ}
end
noncomputable def encA (A:List aJ):List (List Key×D):=A.map fun t=>(t.1.map Oq,.int t.2)
theorem pA:∀ {l m:List Int},(l.map (Oq:Int→Key))=m.map Oq→l=m
 | [],[],_=>rfl
 | x::l,y::m,h=>by
  simp only [N5,List.cons.injEq,Oq.injEq] at h
  rw [h.1,pA h.2]
 | [],_::_,h=>by simp at h
 | _::_,[],h=>by simp at h
theorem pB (A) (l):bz (encA A) (l.map Oq)=(bz A l).map D.int:=by
 induction A with
 | nil=>rfl
 | cons t A ih =>
  by_cases e:t.1=l
  ·rw [br e]
   show bz ((t.1.map Oq,D.int t.2)::encA A) _=_
   rw [br (by rw [e])]; rfl
  ·rw [aU e,← ih]
   show bz ((t.1.map Oq,D.int t.2)::encA A) _=_
   rw [aU fun z=>e (pA z)]
theorem ET (A) (l) (n):putD (encA A) (l.map Oq) (.int n)=encA (putD A l n):=by
 unfold putD
 rw [pB]
 by_cases h:(bz A l).isSome=true
 ·rw [if_pos h,if_pos (by rw [QA]; exact h)]
  unfold encA
  rw [Ow,Ow]
  refine P7 fun t _=>?_
  simp only [SV]
  by_cases e:t.1=l
  ·rw [if_pos e,if_pos (by rw [e])]
  ·rw [if_neg e,if_neg fun z=>e (pA z)]
 ·rw [if_neg h,if_neg (by rw [QA]; exact h)]
  unfold encA
  simp
theorem fG:∀ l:List Int,D.keys (l.map D.int)=some (l.map Oq)
 | []=>rfl
 | x::l=>by
  simp only [N5]
  unfold D.keys
  rw [fG l]; rfl
theorem EU (A:List aJ) (l:List Int) (n:Int):(putD A l n).length≤A.length+1:=by
 unfold putD; split <;> simp
theorem EW (A):(encA A).length=A.length:=by simp [encA]
theorem rL (l:List Int) (n:Int) (h:(A.map (·.1)).Nodup):((putD A l n).map (·.1)).Nodup:=by
 unfold putD
 split
 ·rw [Ow]
  have e:(A.map ((·.1)∘fun kv:aJ=>if kv.1=l then (kv.1,n) else kv))=A.map (·.1):=P7 fun t _=>by
   simp only [SV]; split <;> rfl
  rw [e]; exact h
 ·rename_i q
  rw [OD,Qk]
  refine ⟨h,by simp,?_⟩
  intro a ha b hb
  simp at hb
  subst hb
  intro z
  subst z
  apply q
  obtain ⟨t,ht,e⟩:=Oo.mp ha
  unfold bz
  rw [QA,List.find?_isSome]
  exact ⟨t,ht,decide_eq_true e⟩
theorem keys_nodup {A:List aJ} (h:(A.map (·.1)).Nodup):A.Nodup:=by
 unfold Ri at *
 rw [P8] at h
 exact h.imp fun q z=>q (by rw [z])
noncomputable def fS (A:List aJ) (t:aJ):List aJ:=putD A (trim t.1) ((bz A (trim t.1)).getD 0+t.2)
noncomputable def aI (ts:List aJ):List aJ:=ts.foldl fS []
theorem rM (ts) (t):aI (ts++[t])=fS (aI ts) t:=by simp [aI]
theorem pD (ts:List aJ) (A):(ts.foldl fS A).length≤A.length+ts.length:=by
 induction ts generalizing A with
 | nil=>simp
 | cons t ts ih =>
  have h1:=ih (fS A t)
  have h2:=EU A (trim t.1) ((bz A (trim t.1)).getD 0+t.2)
  simp only [Pr,OF]
  unfold fS at *
  lia
theorem gW (ts):(aI ts).length≤ts.length:=by
 have:=pD ts []
 simpa [aI] using this
theorem d9 (ts):((aI ts).map (·.1)).Nodup:=by
 unfold aI
 have:∀ A:List aJ,(A.map (·.1)).Nodup→((ts.foldl fS A).map (·.1)).Nodup:=by
  induction ts with
  | nil=>exact fun A h=>h
  | cons t ts ih=>exact fun A h=>ih _ (rL _ _ h)
 exact this [] (by simp)
theorem EX (x):cO x x=false:=(pq [x]).irr x (by simp)
theorem Bj (h:cO x y=true) (g:cO y z=true):cO x z=true:=(pq [x,y,z]).tr x (by simp) y (by simp) z (by simp) h g
theorem lT:∀ {L M:List aJ},L.Perm M→jj true L→jj true M→L=M
 | [],M,h,_,_=>by rw [List.nil_perm] at h; exact h.symm
 | x::L,[],h,_,_=>by simp at h
 | x::L,y::M,h,h1,h2=>by
  unfold jj fR at h1 h2
  rw [Q4] at h1 h2
  by_cases e:x=y
  ·subst e
   rw [lT ((List.perm_cons _).mp h) h1.2 h2.2]
  ·exfalso
   have hx:x∈M:=by
    have:=h.subset (N9)
    rcases Og.mp this with z | z
    ·exact absurd z e
    ·exact z
   have hy:y∈L:=by
    have:=h.symm.subset (N9)
    rcases Og.mp this with z | z
    ·exact absurd z.symm e
    ·exact z
   have a:=h1.1 y hy
   have b:=h2.1 x hx
   simp only [if_true] at a b
   have:=Bj a b
   rw [EX] at this; cases this
noncomputable def yk (t:aJ):List aJ→List aJ
 | []=>[t]
 | x::r=>if cO x t=true then t::x::r else x::yk t r
noncomputable def fH (L:List aJ):List aJ:=L.foldr yk []
theorem lU (t):∀ L:List aJ,(yk t L).Perm (t::L)
 | []=>.refl _
 | x::r=>by
  unfold yk
  split
  ·exact .refl _
  ·exact ((lU t r).cons x).trans (.swap _ _ _)
theorem bD:∀ L:List aJ,(fH L).Perm L
 | []=>.refl _
 | t::L=>(lU t (fH L)).trans ((bD L).cons t)
theorem EY (h:x≠y):cO x y=true∨cO y x=true:=(pq [x,y]).tot x (by simp) y (by simp) h
theorem wI (t):∀ L:List aJ,t∉L→jj true L→jj true (yk t L)
 | [],_,_=>QX _ _
 | x::r,hn,h=>by
  have h':=h
  unfold jj fR at h'
  rw [Q4] at h'
  unfold yk
  by_cases e:cO x t=true
  ·rw [if_pos e]
   unfold jj fR
   rw [Q4]
   refine ⟨fun y hy=>?_,h⟩
   simp only [if_true]
   rcases Og.mp hy with rfl | z
   ·exact e
   ·have:=h'.1 y z
    simp only [if_true] at this
    exact Bj this e
  ·rw [if_neg e]
   unfold jj fR
   rw [Q4]
   refine ⟨fun y hy=>?_,wI t r (fun z=>hn (Ob _ z)) h'.2⟩
   rcases Og.mp ((lU t r).subset hy) with rfl | z
   ·simp only [if_true]
    rcases EY (x:=x) (y:=y) (fun z=>hn (by rw [z]; exact N9)) with q | q
    ·exact absurd q e
    ·exact q
   ·exact h'.1 y z
theorem gX:∀ {L:List aJ},L.Nodup→jj true (fH L)
 | [],_=>Rr
 | t::L,h=>by
  rw [Pd] at h
  exact wI t _ (fun z=>h.1 ((bD L).subset z)) (gX h.2)
theorem Bk (hn:L.Nodup) (hp:L'.Perm L) (hs:jj true L'):L'=fH L:=lT (hp.trans (bD L).symm) hs (gX hn)
noncomputable def nz (L:List aJ):List aJ:=L.filter fun t=>t.2 != 0
theorem Bl (hn:L.Nodup):nz (fH L)=fH (nz L) :=
 Bk (Th.filter _ hn) ((bD L).filter _) ((gX hn).filter _)
theorem encK (A):(Sl.oT (encA A)).qX=some (.fdT (A.map fun t=>t.1.map Oq) (A.map fun t=>.int t.2)):=by
 show some _=some _
 unfold encA
 rw [Ow,Ow]; rfl
theorem Bm (h:r.xX=some (encA A)) (l):Gj r (.tup (l.map .int)) ((bz A l).map D.int):=by
 rw [← pB]; exact .t h (fG l)
theorem Bo (hz:A.length<sizeLine):Eo (.oT (encA A)) (.tup (l.map .int)) (.int n) (.oT (encA (putD A l n))):=by
 rw [← ET]
 exact .t (r:=.oT (encA A)) rfl (fG l) (by rw [EW]; exact hz)
theorem rN (o:Option Int):(o.map D.int).getD (.int 0)=.int (o.getD 0):=by cases o <;> rfl
end EV
namespace EV
open PySem PySem.Spec PySem.Calls PyProof.Rows L2
section
theorem pF {L:List Addr} (I:Inv X aa σ H s) (k:∀ b o,b∉L→s.heap.get? b=some o→h'.get? b=some o) (hf:∀ b∈L,fM X aa H b):Inv X aa σ H { s with heap:=h',toks:=t' }:=by
 have nit:∀ b u,H b=some u→b∉L:=fun b u e z=>by rw [(hf b z).1] at e; cases e
 refine I.step (g':=s.gens) (d':=s.drawn) (ch:=L) (fun b hb=>?_) (fun b o _ _ hc e _=>k b o hc e) (fun b o _ _ hc e _=>⟨o.slots,k b o hc e⟩) (fun _ _ _ _ n=>n)
  (fun b o hc e=>⟨o,k b o hc e⟩) (fun _ _ e=>e) (fun _ _ _ e=>e) (fun b ps e=>⟨#[],by rw [e]; simp⟩) (fun m hm=>?_) (fun b u e=>?_) I.bare
 ·obtain ⟨_,f1,_,f3,f4,f5⟩:=hf b hb
  exact ⟨f3,f1,f4,f5⟩
 ·obtain ⟨o,es,ep,ho,r⟩:=hm
  exact ⟨o,es,ep,k _ o (fun z=>(hf _ z).2.1 rfl) ho,r⟩
 ·refine (I.hok b u e).stay (fun c v hc q=>k c v ?_ q) (fun _ q=>q) fun _ _ q=>q
  rcases hc with z | z
  ·rw [z]; exact nit b u e
  ·exact nit c _ z
end
section
variable {K:NZ}
end
end EV
namespace EV
open PySem PySem.Spec PyProof.Rows L2
theorem pG {A:List aJ} {l:List Int} {n:Int} {t:aJ} (h:t∈putD A l n):t.1=l∨t∈A:=by
 unfold putD at h
 split at h
 ·obtain ⟨u,hu,e⟩:=Oo.mp h
  split at e
  ·rename_i q; subst e; exact .inl q
  ·subst e; exact .inr hu
 ·rcases OA.mp h with q | q
  ·exact .inr q
  ·simp at q; subst q; exact .inl rfl
theorem jk (hl:∀ t∈ts,t.1.length≤n):∀ t∈aI ts,trim t.1=t.1∧t.1.length≤n:=by
 unfold aI
 suffices H:∀ A:List aJ,(∀ t∈A,trim t.1=t.1∧t.1.length≤n)→∀ t∈ts.foldl fS A,trim t.1=t.1∧t.1.length≤n from H [] (by simp)
 induction ts with
 | nil=>exact fun A h=>h
 | cons u ts ih =>
  refine fun A h=>ih (fun t ht=>hl t (Ob _ ht)) _ fun t ht=>?_
  rcases pG ht with e | e
  ·rw [e,cy]
   exact ⟨rfl,Od (gx _) (hl u N9)⟩
  ·exact h t e
noncomputable def bB (ts:List aJ):List aJ:=fH (nz (aI ts))
theorem wJ (h:(A.map (·.1)).Nodup):((nz A).map (·.1)).Nodup:=Ri.sublist (List.filter_sublist.map _) h
theorem n8 (ts):(bB ts).Perm (nz (aI ts)):=bD _
theorem lV (h:t∈bB ts):t∈aI ts∧t.2≠0:=by
 have:=(n8 ts).subset h
 unfold nz at this
 rw [Rw] at this
 exact ⟨this.1,by simpa using this.2⟩
theorem lW (ts):(bB ts).length≤ts.length:=by
 rw [(n8 ts).length_eq]
 exact Od (List.length_filter_le _ _) (gW ts)
theorem Bp (h:∀ t∈ts,t.1.length≤n):∀ t∈bB ts,t.1.length≤n:=fun t ht=>(jk h t (lV ht).1).2
end EV
namespace EV
open PySem PySem.Spec PySem.Calls PyProof.Rows L2
theorem EZ {K:NZ} {f:Int→Int→Int}:Am K (fun xs H Q=>∃ i j,xs=[.int i,.int j]∧Q (.int (f i j)) H) (fun ds R=>∃ i j:Int,ds=[.int i,.int j]∧R (.int (f i j))):=by
 rintro ds vs H Hf Q R s rs ⟨i,j,rfl,hR⟩ q
 obtain ⟨v,r,rfl,r1,r2⟩:=aC.mp rs
 obtain ⟨v',r',rfl,r1',r2'⟩:=aC.mp r2
 rw [aA] at r2'
 subst r2'
 rw [ay] at r1 r1'
 subst r1 r1'
 exact ⟨i,j,rfl,q _ _ H Hf hR (ay.mpr rfl) (.refl s)⟩
section
variable {K:NZ} {c:Ctx P w K mg base k N sc bk}
theorem boot_max:bootBuiltins "max"=some (.builtin "max"):=by decide +kernel
theorem Bq (hm:mg "max"=none) (h:aF c a ρ fun x=>aF c b ρ fun y=>I2 (fun i j=>R (.int (if j>i then j else i))) x y) (hg:sc.names.lookup (NY "max")=some .globalImplicit:=by walk_at "u")
 (he:∀ env,starEach [a,b] env=(false,eval a env)::starEach [b] env:=by intro _; walk_at "u") (he2:∀ env,starEach [b] env=(false,eval b env)::starEach [] env:=by intro _; walk_at "u")
 (hpl:∀ env,(backTo pos (starEach [b] env)).any (·.1)=false:=by intro _; walk_at "u"):aF c (.Call (.Name "max" p) [a,b] [] pos) ρ R :=
 vM (xK c.calm) (EZ (f:=fun i j=>if j>i then j else i)) hm boot_max (cX (h.imp fun x h1=>cX (h1.imp fun y ⟨i,j,e1,e2,hR⟩=>k7 ⟨i,j,by rw [e1,e2],hR⟩) he2) he) hg (by decide) (by decide) he hpl
theorem Gs (h:aF c a ρ fun x=>aF c b ρ fun y=>I2 (fun i j=>Sd (tK i j) (R (.int (i * 2 ^ j.toNat)))) x y):aF c (.BinOp a .LShift b pos) ρ R :=
 iY (oQ Hi nI (h.imp fun x hx=>hx.imp fun y ⟨i,j,e1,e2,⟨hc,r⟩⟩=>⟨i,j,e1,e2,hc,_,rfl,r⟩))
theorem Gu (h:aF c a ρ fun x=>aF c b ρ fun y=>I2 (fun i j=>Sd (0≤j) (R (.int (i / 2 ^ j.toNat)))) x y):aF c (.BinOp a .RShift b pos) ρ R :=
 iY (oQ Hj nI (h.imp fun x hx=>hx.imp fun y ⟨i,j,e1,e2,⟨hc,r⟩⟩=>⟨i,j,e1,e2,hc,_,rfl,r⟩))
theorem Br (h:aF c a ρ fun x=>aF c b ρ fun y=>I2 (fun i j=>R (.int (Builtin.bitAnd i j))) x y):aF c (.BinOp a .BitAnd b pos) ρ R :=
 iY (oQ Hl Ae (h.imp fun x hx=>hx.imp fun y ⟨i,j,e1,e2,r⟩=>⟨i,j,e1,e2,_,rfl,r⟩))
end
noncomputable abbrev Mi:=List (Key×D)→List D→(List (Key×D)→Prop)→Prop
noncomputable def Iz (K:NZ) (F:Mi):Sp:=fun vs H Q _=>∃ Hf p kvs xs us ds B,vs=.ref p::us∧aD Hf H∧H p=some (.dK xs)∧Hf p=none∧mD K Hf kvs xs∧au K Hf ds us∧F kvs ds B ∧
 ∀ kvs' H' aj xs',B kvs'→bq (del H p) Hf H' aj→H' p=some (.dK xs')→aj p=none→mD K aj kvs' xs'→Q .non H'
structure yl (P:Program) (w:World) (K:NZ) (mg:Str→Option Value) (base:Heap) (k:Nat) (x:Str) (F:Mi):Prop where
 ex:∃ f fd ps,mg x=some (.ref f)∧PX K (.ref f)=true∧Binds K fd ps []∧bx P w K mg base (dP P w) k f fd ps (Iz K F)
noncomputable def startM (q:Addr) (kvs:List (Key×D)) (N:List Str) (ds:List D):List Sl:=.aK q kvs::(ds.map .va++Of (N.length - (ds.length+1)) .un)
theorem ym {K:NZ} (r:au K Hf ds us) (sb:aD Hf H) (h1:H q=some (.dK xs)) (h2:Hf q=none) (h3:mD K Hf kvs xs) :
 cW K (del H q) Hf (L2.start N (.ref q::us)) H Hf (startM q kvs N ds):=by
 have hl:=r.length
 have rest:∀ (i:Nat) (r':Sl),(startM q kvs N ds)[i+1]?=some r'→r'≠.un→∃ d,ds[i]?=some d∧r'=.va d:=fun i r' h hu=>by
  have h':(ds.map Sl.va++Of (N.length - (ds.length+1)) Sl.un)[i]?=some r':=by simpa [startM] using h
  by_cases w:i<ds.length
  ·rw [Qf (by simpa using w),Oc,Ov w] at h'
   cases h'
   exact ⟨_,by simp,rfl⟩
  ·rw [QT (by simp; lia)] at h'
   exact absurd (R1 (Pe h')) hu
 refine ⟨⟨fun b o e=>(ja e).2,.refl _,sb,fun _ h _ _=>h⟩,by simp [L2.start,startM,hl],fun i r' h hu=>?_,fun i j r1 r2 p hne e1 e2 o1 o2=>?_⟩
 ·cases i with
  | zero =>
   have:r'=.aK q kvs:=by simpa [startM] using h.symm
   subst this
   exact ⟨.ref q,by simp [L2.start],q,xs,rfl,⟨i9,rfl⟩,h1,h2,h3⟩
  | succ i =>
   obtain ⟨d,hd,rfl⟩:=rest i r' h hu
   obtain ⟨x,e2,rx⟩:=r.get hd
   refine ⟨x,?_,rx⟩
   have hi:i<us.length:=(Oa.mp e2).1
   unfold L2.start
   rw [Qf (by simp; lia)]
   simp [e2]
 ·exfalso
  have own:∀ {i:Nat} {r:Sl},(startM q kvs N ds)[i]?=some r→r.owned=true→i=0:=fun {i r} h ho=>by
   cases i with
   | zero=>rfl
   | succ i =>
    obtain ⟨d,_,rfl⟩:=rest i r h (by rintro rfl; cases ho)
    cases ho
  exact hne ((own e1 o1).trans (own e2 o2).symm)
section
variable {K:NZ} {c:Ctx P w K mg base k N sc bk}
theorem Lj {st:Stmt} (Fu:fL K x qual st f fd) (Sc:aG N ps (ah st)) (Vi:∀ x∈N,Loc (ah st) x) (ar:∀ kvs ds B,F kvs ds B→ds.length+1=ps.length)
 (body:∀ (c:Ctx P w K mg base k N (ah st) false),c.X.xe=(fun _ _=>False)→∀ q kvs ds B,F kvs ds B→aY c (az st) (startM q kvs N ds) (fun ρ=>∃ kvs' r,B kvs'∧ρ=.aK q kvs'::r) { rt:=fun _=>False }) :
 bx P w K mg base (dP P w) (k+1) f fd ps (Iz K F):=by
 obtain ⟨oc,od,kV,doc,pm,an,cdv,ct,osl,rfl,lk,hcd⟩:=Fu.ex
 refine zN lk hcd Sc (fun vs H Q E hh=>z4 hh fun Hf q kvs xs hh=>z3 hh fun us ds B hh=>w8 hh fun e _ _ _ _ rs hF _=>by rw [e,OF,← rs.length]; exact ar _ _ _ hF) fun A outer s H vs Q E hr hh=>z4 hh fun Hf q kvs xs hh=>z3 hh fun us ds B hh=>w8 hh fun e sb h1 h2 h3 rs hF hq=>?_
 subst e
 let X:Cx:=(qt (dP P w) P w K mg base N qual (ah st) f cdv A outer s H E).F0
 let c:Ctx P w K mg base k N (ah st) false :=
  { X:=X,eP:=rfl,ew:=rfl,eK:=rfl,emg:=rfl,eb:=rfl,eN:=rfl,esc:=rfl,calm:=rfl,top:=fun _=>⟨rfl,rfl,rfl⟩,cb:=fun _ _ _ _ _ I x c h=>I.ok.cab x c rfl h,fn:=fun _ _=>.inl rfl,B:=del H q,room:=hr,nd:=Sc.nd,vis:=Vi,Hf:=Hf,RX:=fun _ _=>False,
    exc:=fun _ _ _ _ _ _ _ _ _ _ _ _ h _ _=>h.elim,RM:=fun _ _=>False,mde:=fun _ _ _ _ _ _ _ _ _ _ _ _ h _=>h.elim }
 refine ⟨_,tu.F0 (t:=HG X (az st)) (qE (X:=X)),?_⟩
 refine body c rfl q kvs ds B hF (L2.start N (.ref q::us)) H Hf _ (ym rs sb h1 h2 h3) ⟨fun σ H' aj ρ S ⟨kvs',r,hB,e⟩=>?_,fun r v H' aj g rv e=>e.elim,fun _ _ _ _ _ h=>h.elim,fun _ _ _ _ _ h=>h.elim⟩
 subst e
 obtain ⟨v,_,q',xs',_,⟨_,rfl⟩,a1,a2,a3⟩:=S.at_ 0 _ rfl (by simp)
 exact hq kvs' H' aj xs' hB S.bas a1 a2 a3
theorem wK (h:yl P w K mg base j x F) (hj:j≤k) (hN:At N i y) (hi:At ρ i r) (hr:r.tW=some kvs)
 (ha:qF c es ρ fun ds=>∃ B,F kvs ds B∧∀ kvs',B kvs'→Nx ρ i nx (r.qQ kvs'))
 (hg:sc.names.lookup x=some .globalImplicit:=by walk_at "u") (hdb:(x == ("__debug__":Str))=false:=by decide) (hd:(y == ("__debug__":Str))=false:=by decide) (hcd:(y == ("__classdict__":Str))=false:=by decide)
 (he:∀ env,starEach (.Name y py::es) env=(false,eval (.Name y py) env)::starEach es env:=by intro _; walk_at "u")
 (hpl:∀ env,(backTo cp (starEach es env)).any (·.1)=false:=by intro _; walk_at "u")
 (hs:∀ env,swapsWith (.Call (.Name x px) (.Name y py::es) [] cp) none pos.line env=pure false:=by intro _; walk_at "u"):fu c (.Expr (.Call (.Name x px) (.Name y py::es) [] cp) pos) ρ nx p:=fun σ H Hf D S o=>by
 obtain ⟨q,eq,rq⟩:=S.own hi.get (lu hr)
 obtain ⟨xs,h1,h2,h3⟩:=xY hr rq
 refine dZ (kE cU (hs _)) (show bE c.X _ σ H (fun _ H'=>D.nx σ H') from fun aa s I=>?_)
 obtain ⟨f,fd,ps,hm,hk,hb,hF⟩:=h.ex
 refine PU (iT I (by unfold Gl ON; rw [c.esc]; exact hg) (by rw [c.emg]; exact hm) ?_ hdb)
 have hA:bA c.X (.Name y py::es) σ H (fun vs H1=>∃ us aM ds B,vs=.ref q::us∧F kvs ds B∧(∀ kvs',B kvs'→Nx ρ i nx (r.qQ kvs'))∧au c.X.K aM ds us∧bq H Hf H1 aM) :=
  nH (bN (c.kc hN hd hcd) Ds (he _)) ⟨_,eq,ha σ H Hf _ S fun ds vs H1 aM ⟨B,hF,hn⟩ rs g=>⟨vs,aM,ds,B,rfl,hF,hn,rs,g⟩⟩
 refine Si (h₀:=c.X.base) I.ok.mod.kin (by rw [c.eK]; exact hk) (bC (hA cp aa s I) fun us s1 hh=>z2 hh fun vs H1 hh=>w3 hh fun I1 rv hh=>z4 hh fun us' aM ds B hh=>w5 hh fun ev hF' hn rs g=>⟨I1.oB,?_⟩) (he _) (hpl _)
 subst ev
 have S1:=S.cz g
 have rq1:=rq.cz g
 obtain ⟨xs1,a1,a2,a3⟩:=xY hr rq1
 have hF2:bx c.X.prog c.X.w c.X.K c.X.mg c.X.base (dP c.X.prog c.X.w) k f fd ps (Iz c.X.K F):=by rw [c.eP,c.ew,c.eK,c.emg,c.eb]; exact hF.mono hj
 have qk:Iz c.X.K F (.ref q::us') H1 (fun _ H'=>D.nx σ H') (fun _ _ _=>False):=by
  refine ⟨aM,q,kvs,xs1,us',ds,B,rfl,g.b,a1,a2,a3,rs,hF',fun kvs' H' aj xs' hB g2 b1 b2 b3=>?_⟩
  obtain ⟨ρ',hs',hn⟩:=hn kvs' hB
  refine o.nx σ H' aj ρ' ?_ hn
  rw [hs'.eq]
  exact S1.upd hi.get (lu hr) eq g2 (qR hr rq1 b1 b2 b3) (ly hr)
 have hl:us.length=ps.length:=by rw [← rv.length]; exact hF2.len _ _ _ _ qk
 have hb':Binds c.X.K fd ps []:=by rw [c.eK]; exact hb
 have hb2:=hb' s1 us I1.oB (by simpa using hl)
 rw [O7] at hb2
 refine Rc (Q9 (hF2.run c.X.A c.X.stack s1 H1 ⟨us,[]⟩ us _ _ _ c.room I1.DK hb2 rv qk) fun r' s' hq=>?_)
 cases r' with
 | error e =>
  obtain ⟨a,C,H',rfl,hE,h⟩:=hq
  exact h.elim
 | ok fl =>
  cases fl with
  | ret u=>exact I1.after hq
  | next=>exact O2 hq
  | brk=>exact O2 hq
  | cont=>exact O2 hq
end
theorem au.many {K:NZ} (h:au K H ds xs):∀ k:Nat,au K H (Of k ds).flatten (Of k xs).flatten
 | 0=>aA.mpr rfl
 | k+1=>by
  rw [PZ,PZ,QB,QB]
  exact h.append (au.many h k)
theorem au.set {K:NZ}:∀ {ds:List D} {xs:List V} (i:Nat) {d:D} {v:V},au K H ds xs→Rep K H d v→au K H (ds.set i d) (xs.set i v)
 | [],_,i,_,_,h,_=>by rw [aA] at h; subst h; exact aA.mpr rfl
 | e::ds,_,i,d,v,h,q=>by
  obtain ⟨x,r,rfl,h1,h2⟩:=aC.mp h
  cases i with
  | zero=>exact .cons q h2
  | succ i=>exact .cons h1 (au.set i h2 q)
theorem Bt {n k:Nat} {i:Int} (hi:i=k) (e:s.heap.get? l=some { cls:=.type "list",data:=.seq items n }) (hk:k<items.size) (hf:items.size<2 ^ 63)
 (hQ:Q () { s with heap:=s.heap.update l (OJ fun xs=>xs.setIfInBounds k v) }):wpAny (model prog w) A (setItem (.ref l) (.int i t) v) Q E s:=by
 have ht:s.TypeIs (.ref l) "list":=⟨_,e,rfl⟩
 have hx:items[k]?=some items[k]:=OC hk
 unfold setItem
 refine OS (NX (T4 ht (by decide) ?_))
 refine NX (Qg (name:=NY "__setitem__") ht PySem.slot_list_setitem (PD PySem.slot_list_setitem ht PySem.entry_list_setitem ?_ (PySem.args_list_setitem _ _ _)))
 show wpAny _ _ (Builtin.List.listSubscript? (.int i t) >>= _) _ _ s
 refine NX (wpAny_listSubscript_int (fitsIndex_of (show 0≤i by lia) (show i<2 ^ 63 by lia)) ?_)
 clear hf
 subst hi
 show wpAny _ _ ((seqItemAt l k >>= fun r=>pure (r.map fun x=>(k,x))) >>= _) _ _ s
 refine NX (NX (wpAny_seqItemAt e rfl (N1 ?_)))
 rw [hx]
 show wpAny _ _ (setSeqItemAt l k v >>= _) _ _ s
 refine NX (wpAny_setSeqItemAt e rfl ?_)
 first
  | exact NX (N1 (N1 ⟨O4,rfl,N1 hQ⟩))
  | exact N1 ⟨O4,rfl,N1 hQ⟩
noncomputable def Lk:GZ:=fun o i v H Q=>∃ l xs k,o=.ref l∧i=.int (k:Nat)∧H l=some (.lst xs)∧k<xs.length∧Q (upd H l (.lst (xs.set k v)))
theorem Bu:Ke X Lk:=by
 intro aa s σ H o i v ov iv u Q I r1 r2 r3 h
 obtain ⟨l,xs,k,rfl,rfl,hH,hk,q⟩:=h
 cases r1
 obtain ⟨t,rfl⟩:=r2
 obtain ⟨z,its,n,r,hl,e⟩:=I.qv hH
 have hbig:xs.length<2 ^ 63:=Qj z (by decide)
 refine Bt rfl e (by rw [Ot,← hl]; exact hk) (by rw [Ot,← hl]; exact hbig) ⟨_,I.tQ (its':=its.set k u) (t':=s.toks) hH e ?_ (Vals.set r3 k r) (by rw [List.length_set]; exact z),q⟩
 show its.toArray.setIfInBounds k u=(its.set k u).toArray
 simp
theorem E0:MQ X "int.bit_length" (fun x vs H Q=>∃ i,x=.int i∧vs=[]∧Q (.int (Ph i:Nat)) H):=by
 intro aa s σ H x xs v us Q I r1 r2 h
 obtain ⟨i,rfl,rfl,q⟩:=h
 obtain ⟨t,rfl⟩:=r1
 cases r2
 exact PyProof.Rows.call_int_bit_length ⟨.int (Ph i:Nat),H,I.tok _,⟨_,rfl⟩,q⟩
section
variable {K:NZ} {c:Ctx P w K mg base k N sc bk}
theorem IB (h:aF c e ρ (I1 fun i=>R (.int (Ph i:Nat)))) (hbase:∀ env,attributeBase e "bit_length" env (eval e env)=eval e env:=by intro _; walk_at "u") (hline:(ap.endLine == cp.line)=true:=by walk_at "u") :
 aF c (.Call (.Attribute e "bit_length" ap) [] [] cp) ρ R:=fun σ H Hf Q S q =>
 bH (Hu PySem.F.plainAttrs_int PySem.F.slot_int_bit_length PySem.F.type_int_bit_length E0 cU (hbase _) hline) (h σ H Hf _ S fun d v H' aj ⟨i,e,hR⟩ r g=>by
  subst e
  rw [ay] at r; subst r
  exact ⟨rfl,i,rfl,rfl,q _ _ H' aj hR (ay.mpr rfl) g⟩)
theorem Ll {R:Sl→Prop} (h:dw c a ρ fun r=>∃ ds,r=.ow ds∧aF c b ρ (I1 fun n=>Sd ((0≤n∧n<2 ^ 63)∧ds.length * n.toNat≤sizeLine) (R (.ow (Of n.toNat ds).flatten)))):dw c (.BinOp a .Mult b pos) ρ R:=fun σ H Hf Q S q =>
 bH (zI Hw cU cU) (h σ H Hf _ S fun r v H1 aM ⟨ds,er,h1⟩ rr g1=>h1 σ H1 aM _ (S.cz g1) fun dn u H2 cE ⟨n,en,⟨⟨n0,n1⟩,hz⟩,hR⟩ rn g2=>by
  subst er en
  rw [ay] at rn; subst rn
  obtain ⟨l,xs,rfl,fl,k1,k2,k3⟩:=rr
  have k1':=g2.s _ _ k1
  refine ⟨l,n,xs,rfl,rfl,k1',by lia,n1,by rw [← k3.length]; exact hz,fun p hp=>?_⟩
  have g3:=bq.gc (o:=.lst (Of n.toNat xs).flatten) g2.b hp
  exact q _ _ _ _ hR ⟨p,_,rfl,(g1.trans g2).s.free hp,ai,g2.b.free hp,(k3.mono g2.f).many _⟩ ((g1.trans g2).trans g3))
theorem IC (hN:At N i x) (hi:At ρ i r) (hr:r.getL=some ds) (h:aF c e ρ fun dv=>aF c b ρ fun dk=>∃ m:Nat,dk=.int m∧Sd (m<ds.length) (Nx ρ i nx (r.putL (ds.set m dv))))
 (hs:∀ env,swapsWithSole [.Subscript (.Name x px) b tp] e pos.line env=pure false:=by intro _; walk_at "u") (hw:∀ env,swappedStores [.Subscript (.Name x px) b tp] e env=pure none:=by intro _; walk_at "u")
 (h1:∀ env,(assignEach [.Subscript (.Name x px) b tp] env).map (·.2)=[assign (.Subscript (.Name x px) b tp) env]:=by intro _; walk_at "u")
 (ha:∀ env v,assign (.Subscript (.Name x px) b tp) env v=(do
   let ov ← holding [v] (eval (.Name x px) env)
   let iv ← holding [v,ov] (eval b env)
   standAt tp
   holding [v,ov,iv] (setItem ov iv v)
   release [v,ov,iv] []):=by intro _ _; walk_at "u")
 (hd:(x == ("__debug__":Str))=false:=by decide) (hcd:(x == ("__classdict__":Str))=false:=by decide):fu c (.Assign [.Subscript (.Name x px) b tp] e pos) ρ nx p:=fun σ H Hf D S o=>by
 obtain ⟨q,eq,rq⟩:=S.own hi.get (c6 hr)
 refine dZ (zF cU (G1 (c.kc hN hd hcd) cU Bu (ha _)) (hs _) (hw _) (h1 _)) (h σ H Hf _ S fun dv v H1 aM h2 rv g1=>⟨_,eq,h2 σ H1 aM _ (S.cz g1) fun dk y H2 cE ⟨m,em,hm,ρ',hs',hn⟩ ry g2=>?_⟩)
 subst em
 rw [ay] at ry; subst ry
 have g:=g1.trans g2
 obtain ⟨xs,k1,k2,k3⟩:=Ib hr (rq.cz g)
 refine ⟨q,xs,m,rfl,rfl,k1,by rw [← k3.length]; exact hm,o.nx _ _ cE ρ' ?_ hn⟩
 rw [hs'.eq]
 exact (S.cz g).upd hi.get (c6 hr) eq (gQ g.b k2) (lg hr (rq.cz g) ai k2 (k3.set m (Rep.mono g2.f _ rv))) (iy hr)
end
theorem iE {K:NZ}:∀ {ns:List Int} {xs:List V},au K H (ns.map D.int) xs→xs=ns.map V.int
 | [],xs,h=>by rw [QG,aA] at h; subst h; rfl
 | b::bs,xs,h=>by
  rw [N5,aC] at h
  obtain ⟨x,r,rfl,h1,h2⟩:=h
  rw [ay] at h1
  rw [h1,iE h2]; rfl
theorem gy {ns:List Int} {us:List Value} (h:Vals (ns.map V.int) us) (i:Nat) (v:Value) (e:us.toArray[i]?=some v):∃ t,v=.int (ns.getD i 0) t:=by
 have e':us[i]?=some v:=by simpa using e
 have hi:i<ns.length:=by
  have:=(Oa.mp e').1
  have l:=h.length
  rw [N6] at l
  omega
 obtain ⟨u,hu,r⟩:=h.get (i:=i) (x:=.int (ns.getD i 0)) (by simp [O9,hi])
 rw [e'] at hu; cases hu
 exact r
theorem lX (I:Inv X aa σ H s) (hq:gh X.K H p xs) :
 ∃ its:List Value,Vals xs its∧s.heap.IsList p its.toArray∧p<s.heap.objs.size:=by
 obtain ⟨its,rv,pl,hz⟩:=I.list hq
 exact ⟨its,rv,pl.isList,by obtain ⟨o,e,_⟩:=pl.isList; exact N8 e⟩
theorem n9 (I:Inv X aa σ H s) (hk:∀ b o,b∉[s.heap.objs.size]→(s.heap.push ob).get? b=some o→h'.get? b=some o):Inv X aa σ H { s with heap:=h',toks:=tk } :=
 I.kept (h':=h') (t':=tk) fun b u e=>hk b u (by simpa using OB (N8 e)) (N7 _ e)
theorem yo (hc:X.calm=true):gj X (.builtin "max") (fun xs H Q=>∃ (p:Addr) (ns:List Int),xs=[.ref p]∧ns≠[]∧gh X.K H p (ns.map V.int)∧∀ m∈ns,(∀ n∈ns,n≤m)→Q (.int m) H):=by
 intro aa s σ H xs us Q I r h
 obtain ⟨p,ns,rfl,hne,hq,q⟩:=h
 obtain ⟨u,rfl,rx⟩:=vals1 r
 cases rx
 obtain ⟨its,rv,pl,hlt⟩:=lX I hq
 have hn:its.toArray.size=ns.length:=by have l:=rv.length; rw [N6] at l; simp [l]
 have hpos:0<ns.length:=List.length_pos_iff.mpr hne
 refine call_max_walk (Sn pl ?_)
 have hh:X.A.in1.handled=none:=I.ok.hd hc
 refine ⟨_,_,_,_,_,_,_,rfl,Walks.list hh s.heap.objs.size p (OB hlt) its.toArray,⟨⟨_,Oj _ rfl,rfl,rfl⟩,pl.at fun o e=>N7 _ e⟩,?_,by rw [hn]; exact hpos,CmpOf.ints_gt (fun i=>ns.getD i 0) (gy rv),?_⟩
 ·intro b hb
  show b<(s.heap.push _).objs.size
  rw [Qm]
  simp only [Og,P0,or_false] at hb
  rcases hb with rfl | rfl
  ·exact QC _
  ·exact So hlt
 ·intro v h' tk hP hk
  obtain ⟨t,rfl⟩:=gy rv _ _ hP
  obtain ⟨b1,b2⟩:=argBest_gt (fun i=>ns.getD i 0) (its.toArray.size - 1)
  rw [hn] at b1 b2 ⊢
  have J:=n9 (s:=s) (tk:=tk) I hk
  refine ⟨.int _,H,J,⟨_,rfl⟩,q _ ?_ fun n hm=>?_⟩
  ·rw [O9,Ov (by omega)]
   exact OG _
  ·obtain ⟨j,hj,rfl⟩:=List.getElem_of_mem hm
   have:=b2 j (by omega)
   rw [show ns.getD j 0=ns[j] by simp [O9,hj]] at this
   exact this
theorem wL (ns:List Int):∀ j,j≤ns.length→preSum (fun i=>ns.getD i 0) j=(ns.take j).sum
 | 0,_=>rfl
 | j+1,h=>by
  show preSum (fun i=>ns.getD i 0) j+ns.getD j 0=_
  rw [wL ns j (by omega),O3 (by omega),QF]
  simp [O9,show j<ns.length by omega]
theorem yp (hc:X.calm=true):gj X (.builtin "sum") (fun xs H Q=>∃ (p:Addr) (ns:List Int),xs=[.ref p]∧gh X.K H p (ns.map V.int)∧Q (.int ns.sum) H):=by
 intro aa s σ H xs us Q I r h
 obtain ⟨p,ns,rfl,hq,q⟩:=h
 obtain ⟨u,rfl,rx⟩:=vals1 r
 cases rx
 obtain ⟨its,rv,pl,hlt⟩:=lX I hq
 have hn:its.toArray.size=ns.length:=by have l:=rv.length; rw [N6] at l; simp [l]
 refine call_sum_walkG (Sn pl ?_)
 have hh:X.A.in1.handled=none:=I.ok.hd hc
 refine ⟨_,_,_,_,_,_,fun i=>ns.getD i 0,rfl,Walks.list hh s.heap.objs.size p (OB hlt) its.toArray,⟨⟨_,Oj _ rfl,rfl,rfl⟩,pl.at fun o e=>N7 _ e⟩,?_,gy rv,?_⟩
 ·intro b hb
  show b<(s.heap.push _).objs.size
  rw [Qm]
  simp only [Og,P0,or_false] at hb
  rcases hb with rfl | rfl
  ·exact QC _
  ·exact So hlt
 ·intro h' tk t' hk
  rw [hn,wL ns _ (N3 _),OX]
  have J:=n9 (s:=s) (tk:=tk) I hk
  exact ⟨.int ns.sum,H,J,⟨_,rfl⟩,q⟩
section
variable {K:NZ} {c:Ctx P w K mg base k N sc bk}
theorem boot_sum:bootBuiltins "sum"=some (.builtin "sum"):=by decide +kernel
theorem yq {Z:List Int→Int→Prop} (hr:∀ (p:Addr) (ns:List Int) H Q,gh K H p (ns.map V.int)→(∀ m,Z ns m→Q (.int m) H)→ns≠[]→r [.ref p] H Q) :
 Am K r (fun ds R=>∃ ns:List Int,ns≠[]∧ds=[.lst (ns.map D.int)]∧∀ m,Z ns m→R (.int m)):=by
 rintro ds vs H Hf Q R s rs ⟨ns,hne,rfl,hR⟩ q
 obtain ⟨v,rfl,rv⟩:=qI rs
 rw [aV] at rv
 obtain ⟨a,xs,rfl,h1,h2⟩:=rv
 rw [iE h2] at h1
 exact hr a ns H Q (s.seq h1) (fun m hm=>q _ _ H Hf (hR m hm) (ay.mpr rfl) (.refl s)) hne
theorem ID (hm:mg "max"=none) (h:aF c e ρ fun x=>∃ ns:List Int,ns≠[]∧x=.lst (ns.map D.int)∧∀ m,(m∈ns∧∀ n∈ns,n≤m)→R (.int m)) (hg:sc.names.lookup (NY "max")=some .globalImplicit:=by walk_at "u")
 (he:∀ env,starEach [e] env=(false,eval e env)::starEach [] env:=by intro _; walk_at "u"):aF c (.Call (.Name "max" p) [e] [] pos) ρ R :=
 vM (yo c.calm) (yq (Z:=fun ns m=>m∈ns∧∀ n∈ns,n≤m) fun p ns H Q h q hne=>⟨p,ns,rfl,hne,h,fun m h1 h2=>q m ⟨h1,h2⟩⟩) hm boot_max
  (cX (h.imp fun d ⟨ns,hne,e,hR⟩=>k7 ⟨ns,hne,by rw [e],hR⟩) he) hg (by decide) (by decide) he (by intro _; walk_at "u")
theorem IE (hm:mg "sum"=none) (h:aF c e ρ fun x=>∃ ns:List Int,x=.lst (ns.map D.int)∧R (.int ns.sum)) (hg:sc.names.lookup (NY "sum")=some .globalImplicit:=by walk_at "u")
 (he:∀ env,starEach [e] env=(false,eval e env)::starEach [] env:=by intro _; walk_at "u"):aF c (.Call (.Name "sum" p) [e] [] pos) ρ R :=
 vM (yp c.calm) (q:=fun ds R=>∃ ns:List Int,ds=[.lst (ns.map D.int)]∧R (.int ns.sum)) (by
  rintro ds vs H Hf Q R s rs ⟨ns,rfl,hR⟩ q
  obtain ⟨v,rfl,rv⟩:=qI rs
  rw [aV] at rv
  obtain ⟨a,xs,rfl,h1,h2⟩:=rv
  rw [iE h2] at h1
  exact ⟨a,ns,rfl,s.seq h1,q _ _ H Hf hR (ay.mpr rfl) (.refl s)⟩) hm boot_sum (cX (h.imp fun d ⟨ns,e,hR⟩=>k7 ⟨ns,by rw [e],hR⟩) he) hg (by decide) (by decide) he (by intro _; walk_at "u")
end
section
variable {prog:Program} {w:World} {A:Around} {E:Value→Shared→Prop} {s:Shared}
variable {jt tp:Addr} {i:Nat} {items:Array Value}
theorem nextT (hh:A.handled=none) (h1:s.heap.IsTupleIter jt tp i) (h2:s.heap.IsTuple tp items)
 (hv:∀ v,items[i]?=some v→∀ h',h'.IsTupleIter jt tp (i+1)→Pj jt s.heap h'→Q v { s with heap:=h' })
 (hn:items[i]?=none→∀ h' e,Qe jt s.heap h'→(∃ o,h'.get? e=some o∧o.cls=.type "StopIteration")→E (.ref e) { s with heap:=h' }) :
 wpAny (model prog w) A (QW (.ref jt)) Q E s:=by
 obtain ⟨ob,hob,hcb,hdb⟩:=id h1
 obtain ⟨ot,hot,_,m,hdt⟩:=id h2
 unfold QW
 refine NX (Qg (name:=NY "__next__") h1.typeIs F.slot_tuple_iterator_next (PD F.slot_tuple_iterator_next h1.typeIs F.entry_tuple_iterator_next ?_ (F.args_tuple_iterator_next_1 _)))
 show wpAny _ _ (field (.ref jt) 0 >>= _) _ _ s
 refine NX (P5 hob hdb (x:=.ref tp) rfl ?_)
 show wpAny _ _ (if (Ox tp == O4)=true then _ else _) _ _ s
 rw [if_neg (show ¬ ((Ox tp == O4)=true) from Oe)]
 show wpAny _ _ (field (.ref jt) 1 >>= _) _ _ s
 refine NX (P5 hob hdb (x:=.int i 0) rfl ?_)
 show wpAny _ _ (seqItems? (.ref tp) >>= _) _ _ s
 refine NX (wpAny_seqItems hot hdt ?_)
 rw [OW]
 dsimp only
 cases hx:items[i]? with
 | some v =>
  have q:=hv v hx (s.heap.update jt (Obj.mapFields fun vs=>vs.setIfInBounds 1 (rawInt ((i:Int)+1)))) ⟨_,Heap.get?_update_self _ hob (Obj.isFreed_of_fields (Sj hdb _)),(Obj.cls_mapFields ..).trans hcb,by rw [Sj hdb]; simp [rawInt]⟩ (Rp ..)
  dsimp only
  exact NX (Rz hob hdb (by simp) (N1 ⟨v,rfl,N1 q⟩))
 | none =>
  dsimp only
  refine NX (Po (NX (Rz hob hdb (by simp) (show wpAny _ _ (newExc (.type "StopIteration") [] >>= _) _ _ _ from NX ?_))))
  simp only [newExc,newTuple]
  refine NX (O6 (NX (m:=firstArgMember _ _) (wpAny_of_eq (a:=O4) (by first | rfl | (simp only [firstArgMember]; rfl)) (O6 ?_ (by size_fits)))) (by size_fits))
  simp only [raiseNew]
  refine NX (wpAny_handled ?_)
  rw [show A.in1.handled=none from hh]
  exact NX (N1 (wpAny_throw (hn hx _ _ (((Rp ..).extBut.push _).push _) ⟨_,Oj _ rfl,rfl⟩)))
theorem IF (hh:A.handled=none) (jt tp:Addr) (hne:tp≠jt) (items:Array Value) :
 Draws prog w A jt [jt,tp] items.size (fun i v=>items[i]?=some v) (fun i h=>h.IsTupleIter jt tp i∧h.IsTuple tp items) where
 live:=fun _ _ ⟨⟨o,ho,_⟩,_⟩=>⟨o,ho⟩
 frame:=fun _ _ _ ⟨⟨o,e,r⟩,⟨o',e',r'⟩⟩ hk=>⟨⟨o,hk jt (by simp) o e,r⟩,o',hk tp (by simp) o' e',r'⟩
 item:=fun i s Q E hi ⟨s1,s2⟩ q=>nextT hh s1 s2 (fun v hv h' a b=>q v h' s.toks hv ⟨a,s2.extBut b.extBut hne⟩ b) fun hx=>by
  rw [OC hi] at hx; cases hx
 done:=fun s Q E ⟨s1,s2⟩ q=>nextT hh s1 s2 (fun v hv=>by simp at hv) fun _=>q
end
set_option maxHeartbeats 1000000 in
theorem rP (tp) (items) (n) (dc) (sl) :
 Meets (Builtin.«enumerate.__new__» ⟨[.type "enumerate",.ref tp],[]⟩) (fun _ R s=>s.heap.get? tp=some { cls:=.type "tuple",dict:=dc,data:=.seq items n,slots:=sl } ∧
  R (.ok (.ret (.ref (s.heap.push { cls:=.type "tuple_iterator",data:=.fields #[.ref tp,.int 0 0] }).objs.size)))
   { s with heap:=(s.heap.push { cls:=.type "tuple_iterator",data:=.fields #[.ref tp,.int 0 0] }).push { cls:=.type "enumerate",data:=.fields #[.none,.bool false,.ref s.heap.objs.size,rawInt 0,.none,.none] } }) :=
 .of_wp fun prog w A R ⟨hp,g,d,tk,os⟩ ⟨hl,h⟩=>by
  have hz:=sub_enumerate
  have hT:Heap.IsTuple (Shared.heap ⟨hp,g,d,tk,os⟩) tp items:=⟨_,hl,rfl,n,rfl⟩
  wp_walk using R4 hl
  refine wpAny_stack_any fun st=>N1 ?_
  split
  ·rename_i k _ _ _ _ _
   cases (k == Pg "enumerate") <;> (wp_walk using R4 hl,TV hT; exact ⟨_,rfl,h⟩)
  ·wp_walk using R4 hl,TV hT; exact ⟨_,rfl,h⟩
section
theorem uo (hT:s.heap.IsTuple tp items)
 (h:∀ h',IsEnum h' (s.heap.objs.size+1) s.heap.objs.size 0 .none→h'.IsTupleIter s.heap.objs.size tp 0→(∀ b o,s.heap.get? b=some o→h'.get? b=some o)→Q (.ref (s.heap.objs.size+1)) { s with heap:=h' }) :
 wpAny (model prog w) A (call (.type "enumerate") [.ref tp]) Q E s:=by
 obtain ⟨⟨c,dc,dt,sl⟩,hl,hc,n,hd⟩:=hT
 obtain rfl:c=.type "tuple":=hc
 obtain rfl:dt=.seq items n:=hd
 refine callType_new F.called_enumerate (by decide) (F.typeCall_enumerate_1 _) (F.newCall_enumerate_1 _) (fun ob=>F.args_object_init_2 ob _) F.entry_enumerate_new (rP tp items n dc sl) ⟨hl,?_⟩
 generalize e1:s.heap.push { cls:=.type "tuple_iterator",data:=.fields #[.ref tp,.int 0 0] }=g1
 have hz:g1.objs.size=s.heap.objs.size+1:=by rw [← e1]; exact Qm ..
 have hi:g1.get? s.heap.objs.size=some { cls:=.type "tuple_iterator",data:=.fields #[.ref tp,.int 0 0] }:=by rw [← e1]; exact Oj _ rfl
 have hb:∀ b o,s.heap.get? b=some o→g1.get? b=some o:=fun b o q=>by rw [← e1]; exact N7 _ q
 have he:IsEnum (g1.push { cls:=.type "enumerate",data:=.fields #[.none,.bool false,.ref s.heap.objs.size,rawInt 0,.none,.none] }) g1.objs.size s.heap.objs.size 0 .none:=Oj _ rfl
 rw [hz] at he
 show _∧_
 rw [hz]
 exact ⟨⟨_,he,rfl⟩,h _ he ⟨_,N7 _ hi,rfl,rfl⟩ fun b o q=>N7 _ (hb b o q)⟩
end
noncomputable def lY (ds:List D):List D:=ds.zipIdx.map fun x=>D.tup [.int x.2,x.1]
noncomputable def Nf (K:NZ) (t:Addr):It :=
 ⟨fun i H=>∃ xs x,cV K H t xs∧xs[i]?=some x,
  fun i H v H'=>∃ p x,v=.ref p∧H p=none∧H'=upd H p (.tup [.int (i:Nat),x])∧∀ xs,cV K H t xs→xs[i]?=some x,
  fun i H=>∃ xs,cV K H t xs∧xs.length≤i⟩
theorem E1 (I:Inv X aa σ H s) (h1:cV X.K H a xs) (h2:cV X.K H a ys):xs=ys:=I.jy h1 h2
theorem Bv {prog:Program} {w:World} {A:Around} (hh:A.handled=none) (j t:Addr) (items:Array Value) (i:Nat) (hx:items[i]?=none) :
 Draws prog w A j [j,t] i (fun _ _=>False) (fun k h=>k=i∧h.IsTupleIter j t i∧h.IsTuple t items) where
 live:=fun _ _ ⟨_,⟨o,ho,_⟩,_⟩=>⟨o,ho⟩
 frame:=fun _ _ _ ⟨ek,⟨o,e,r⟩,⟨o',e',r'⟩⟩ hk=>⟨ek,⟨o,hk j (by simp) o e,r⟩,o',hk t (by simp) o' e',r'⟩
 item:=fun k s Q E hi ⟨ek,_⟩ _=>absurd ek (OB hi)
 done:=fun s Q E ⟨_,s1,s2⟩ q=>nextT hh s1 s2 (fun v hv=>by rw [hx] at hv; cases hv) fun _=>q
theorem yr {P:Program} {w:World} {K:NZ} {elts:List Expr} {k:Nat} {pos:Pos} {e j t:Addr} (hne:e≠j) :
 Turn P w K (.Tuple elts k pos) (Nf K t) [e,j] e (fun i h=>(∃ old,IsEnum h e j i old)∧h.IsTupleIter j t i) where
 mem:=by simp
 obj:=fun i h ⟨⟨old,he⟩,⟨o1,e1,_,d1⟩⟩ b hb=>by
  simp only [Og,P0,or_false] at hb
  rcases hb with rfl | rfl
  ·exact ⟨_,he,fun v q=>by have q':Tf _=Data.cell v:=q; cases q'⟩
  ·exact ⟨_,e1,fun v q=>by rw [d1] at q; cases q⟩
 keep:=fun i h h' ⟨⟨old,he⟩,⟨o1,e1,r1⟩⟩ hk=>⟨⟨old,hk e (by simp) _ he⟩,⟨o1,hk j (by simp) _ e1,r1⟩⟩
 item:=by
  intro X hP hw hK hc i aa s σ H E I hf st hg
  subst hP hw hK
  obtain ⟨⟨old,he⟩,hj⟩:=st
  obtain ⟨xs,x,q1,hx⟩:=hg
  obtain ⟨its,rv,p1,z1⟩:=I.tuple q1
  obtain ⟨u,hu,ru⟩:=rv.get hx
  have pT:s.heap.IsTuple t its.toArray:=by obtain ⟨o,ho,hc',n,hd⟩:=p1; exact ⟨o,ho,hc',n,hd⟩
  have hjt:t≠j:=by
   obtain ⟨o,ho,hc',n,hd⟩:=pT
   obtain ⟨o',ho',hc'',_⟩:=hj
   rintro rfl
   rw [ho] at ho'; cases ho'
   rw [hc'] at hc''; exact absurd hc'' (by simp)
  have het:e≠t:=by
   obtain ⟨o,ho,hc',n,hd⟩:=pT
   rintro rfl
   rw [he] at ho; cases ho
   exact absurd hc' (by simp)
  have hi:i<its.toArray.size:=by
   have:i<its.length:=(Oa.mp hu).1
   simpa using this
  have hh:X.A.in1.handled=none:=I.ok.hd hc
  refine wpAny_pyNext_enum_itemD (IF hh j t hjt its.toArray) he ⟨hj,pT⟩ hi hne (by simp; exact ⟨hne,het⟩) fun x' h' tk hPx a1 a2 a3 a4 hk=>?_
  have ex:x'=u:=by
   have:its[i]?=some x':=by simpa using hPx
   rw [hu] at this; cases this; rfl
  subst ex
  have Hp:H s.heap.objs.size=none:=I.hok.fresh (N3 _)
  have IA:Inv X aa σ (upd H s.heap.objs.size (.tup [.int (i:Nat),x])) { s with heap:=s.heap.push { cls:=.type "tuple",data:=.seq #[.int (i:Nat) tk,x'] },toks:=tk+1 } :=
   I.laid (a:=s.heap.objs.size) (o:=.tup [.int (i:Nat),x]) (fun _ _ q=>N7 _ q) (N3 _) ⟨by show 2≤sizeLine; decide,[.int (i:Nat) tk,x'],.cons ⟨tk,rfl⟩ (.cons ru .nil),_,Oj _ rfl,rfl,0,rfl⟩
  have lt:∀ b∈[e,j],b<s.heap.objs.size:=fun b hb=>by
   obtain ⟨o1,e1,_⟩:=hj
   simp only [Og,P0,or_false] at hb
   rcases hb with rfl | rfl
   ·exact N8 he
   ·exact N8 e1
  have gf:∀ b∈[e,j],fM X aa (upd H s.heap.objs.size (.tup [.int (i:Nat),x])) b:=fun b hb=>⟨by rw [ak (OB (lt b hb))]; exact (hf b hb).1,(hf b hb).2⟩
  have I1:Inv X aa σ (upd H s.heap.objs.size (.tup [.int (i:Nat),x])) { s with heap:=h',toks:=tk+1 } :=
   pF (s:={ s with heap:=s.heap.push { cls:=.type "tuple",data:=.seq #[.int (i:Nat) tk,x'] },toks:=tk+1 }) (t':=tk+1) (h':=h') (L:=[e,j]) IA (fun b o hb q=>by
    simp only [Og,P0,or_false,not_or] at hb
    by_cases z:b=s.heap.objs.size
    ·subst z
     rw [Oj _ rfl] at q; cases q; exact a3
    ·refine hk b o hb.1 hb.2 ?_
     rw [Heap.get?_push_ne _ _ _ z] at q; exact q) gf
  refine ⟨_,rfl,wpAny_letOwnedTupleGo_enum (s:={ s with heap:=h',toks:=tk+1 }) a1 fun h2' hz' hs'=>?_⟩
  refine ⟨.ref s.heap.objs.size,_,pF (s:={ s with heap:=h',toks:=tk+1 }) (t':=tk+1) (h':=h2') (L:=[e,j]) I1 (fun b o hb q=>hs'.extBut b o (fun z=>hb (by simp [z])) q) gf,rfl,
   ⟨_,x,rfl,Hp,rfl,fun xs' h=>by rw [E1 I h q1]; exact hx⟩,⟨⟨x',?_⟩,a2.1.extBut hs'.extBut (Ou hne)⟩,fun b hb=>(gf b hb).1⟩
  have hz2:=hz'
  rw [show ((i:Int)+1)=((i+1:Nat):Int) by lia] at hz2
  exact hz2
 done:=by
  intro X hP hw hK hc i aa s σ H E I hf st hg
  subst hP hw hK
  obtain ⟨⟨old,he⟩,hj⟩:=st
  obtain ⟨xs,q1,hend⟩:=hg
  obtain ⟨its,rv,p1,z1⟩:=I.tuple q1
  have pT:s.heap.IsTuple t its.toArray:=by obtain ⟨o,ho,hc',n,hd⟩:=p1; exact ⟨o,ho,hc',n,hd⟩
  have hl:=rv.length
  have hx:its.toArray[i]?=none:=by simp; lia
  have hh:X.A.in1.handled=none:=I.ok.hd hc
  exact wpAny_pyNext_enum_endD (Bv hh j t its.toArray i hx) he ⟨rfl,hj,pT⟩ fun h' hk=>⟨rfl,pF (t':=s.toks) (L:=[e,j]) I (fun b o hb q=>hk b o (fun z=>hb (by simp [z])) q) hf⟩
 self:=fun A i s Q E ⟨⟨old,he⟩,_⟩ h=>wpAny_pyIter_enum he h
theorem yt {K:NZ} {Hf:Hp} {ds:List D} {xs:List V} {t:Addr} (h1:cV K Hf t xs) (r1:au K Hf ds xs):jF K (Nf K t) (lY ds) Hf where
 go:=fun i d H aM s1 s2 e=>by
  unfold lY at e
  rw [Oc,Oh] at e
  obtain ⟨⟨x,m⟩,ex,rfl⟩:=e
  rw [List.getElem?_zipIdx,Oh] at ex
  obtain ⟨x',ex,ee⟩:=ex
  cases ee
  obtain ⟨v1,f1,g1⟩:=r1.get ex
  have q1:=av (s1.trans s2) h1
  refine ⟨⟨xs,v1,q1,f1⟩,fun v H' ⟨p,y,e1,e2,e3,e4⟩=>?_⟩
  have z1:=e4 xs q1
  rw [f1] at z1; cases z1
  subst e1 e3
  have g:=bq.new s2 e2 (o:=.tup [.int (i:Nat),v1])
  rw [Qp]
  exact ⟨upd aM p (.tup [.int (i:Nat),v1]),g,aH.mpr ⟨p,_,rfl,.inl (.inl ai),.cons (ay.mpr rfl) (.cons (Rep.mono (s1.trans g.f) _ g1) (aA.mpr rfl))⟩⟩
 stop:=fun i H aM s1 s2 e=>⟨xs,av (s1.trans s2) h1,by
  rw [← r1.length]
  simpa [lY] using e⟩
theorem yu:bootBuiltins "enumerate"=some (.type "enumerate"):=by decide +kernel
noncomputable def Lm (K:NZ) (ta:TA):TI:=fun σ H R=>ta σ H fun vs H1=>∃ t xs,vs=[.ref t]∧cV K H1 t xs∧R (Nf K t) H1
theorem E2 (hg:Gl X "enumerate") (hm:X.mg "enumerate"=none) (ha:PA X [a] ta) (hs:starEach [a] X.env=[(false,eval a X.env)]) :
 PI X (.Tuple elts kt tpos) (.Call (.Name "enumerate" p) [a] [] pos) (Lm X.K ta):=by
 intro aa s σ H R I h
 refine Call_ (dG I hg hm yu (Rk (bC (ha pos aa s σ H _ I h) fun us s1 ⟨vs,H1,I1,r1,q1⟩=>?_) hs (by rfl)))
 obtain ⟨t,xs,e,q1,q⟩:=q1
 subst e
 obtain ⟨u,rfl,rx⟩:=vals1 r1
 cases rx
 obtain ⟨its,rv,p1,z1⟩:=I1.tuple q1
 have pT:s1.heap.IsTuple t its.toArray:=by obtain ⟨o,ho,hc',n,hd⟩:=p1; exact ⟨o,ho,hc',n,hd⟩
 refine uo pT fun h' a1 a2 hk=>wpAny_pyIter_enum a1 ?_
 refine ⟨s1.heap.objs.size+1,[s1.heap.objs.size+1,s1.heap.objs.size],_,_,H1,rfl,I1.kept (t':=s1.toks) hk,yr (Ra (QC _)),⟨⟨.none,a1⟩,a2⟩,fun b hb=>?_,q⟩
 have hb':s1.heap.objs.size≤b:=by
  simp only [Og,P0,or_false] at hb
  rcases hb with rfl | rfl
  ·exact Q7 _ _
  ·exact N3 _
 exact I1.mG hb' (I1.hok.fresh hb')
section
variable {K:NZ} {c:Ctx P w K mg base k N sc bk}
theorem IG (hm:mg "enumerate"=none) (h:aF c a ρ fun x=>∃ ds,x=.tup ds∧R (lY ds)) (hg:sc.names.lookup (NY "enumerate")=some .globalImplicit:=by walk_at "u")
 (hs:∀ env,starEach [a] env=(false,eval a env)::starEach [] env:=by intro _; walk_at "u"):Gg c (.Tuple elts kt tpos) (.Call (.Name "enumerate" p) [a] [] pos) ρ R:=fun σ H Hf Q S q aa s I =>
 E2 (by unfold Gl ON; rw [c.esc]; exact hg) (by rw [c.emg]; exact hm) (bN cU dH (hs _)) (by rw [hs]; rfl) aa s σ H Q I
  (h σ H Hf _ S fun x v1 H1 aM ⟨ds,e1,hR⟩ r1 g1=>by
    subst e1
    rw [aH] at r1
    obtain ⟨t,xs,rfl,s1,t1⟩:=r1
    exact ⟨t,xs,rfl,av g1.b s1,q _ _ H1 aM hR g1 (yt s1 t1)⟩)
end
noncomputable def II (lo:Int) (n:Nat):It:=⟨fun i _=>i<n,fun i H x H'=>H'=H∧x=.int (lo - i),fun i _=>n≤i⟩
noncomputable def Bw (lo:Int) (n:Nat):List D:=(OQ n).map fun (i:Nat)=>D.int (lo - (i:Int))
theorem yv {P:Program} {w:World} {K:NZ} {tg:Expr} (j:Addr) (lo:Int) (n:Nat):Turn P w K tg (II lo n) [j] j (fun i h=>IsRangeIter h j (lo+(i:Nat) * -1) ((n:Int) - (i:Nat)) (-1)) where
 mem:=Ol.mpr rfl
 obj:=fun i h st b hb=>by
  obtain rfl:b=j:=Ol.mp hb
  exact ⟨_,st,fun v z=>by have q:Tf _=Data.cell v:=z; cases q⟩
 keep:=fun i h h' st k=>k j (Ol.mpr rfl) _ st
 item:=by
  intro X hP hw hK hc i aa s σ H E I hf st hg
  subst hP hw hK
  obtain ⟨f0,f1,f2,f3,f4,f5⟩:=hf j (Ol.mpr rfl)
  have W:=Walks.range (prog:=X.prog) (w:=X.w) (I.ok.hd hc) j lo (-1) n
  refine W.item i s _ _ hg st fun v h' tk hv st' kk=>?_
  obtain ⟨t,rfl⟩:=hv
  have I1:Inv X aa σ H { s with heap:=h',toks:=tk }:=I.turned (fun b o hb e=>kk b o (by simpa using hb) e) f0 f1 f3 f4 f5
  have e:lo+(i:Int) * -1=lo - i:=by lia
  exact ⟨_,rfl,ng (s:={ s with heap:=h',toks:=tk }) (n:="range_iterator") st' rfl rfl (by decide) ⟨.int (lo - i),H,I1,⟨t,by rw [e]⟩,⟨rfl,rfl⟩,st',fun b hb=>(hf b hb).1⟩⟩
 done:=by
  intro X hP hw hK hc i aa s σ H E I hf st hg
  subst hP hw hK
  obtain ⟨f0,f1,f2,f3,f4,f5⟩:=hf j (Ol.mpr rfl)
  exact wpAny_pyNext_range_end (I.ok.hd hc) st (by have:n≤i:=hg; lia) fun h' eb=>⟨rfl,I.turned (t':=s.toks) (fun b o hb e=>eb b o hb e) f0 f1 f3 f4 f5⟩
 self:=fun _ _ _ _ _ st h=>wpAny_pyIter_rangeiter st h
theorem lZ {lo hi:Int}:R5 lo hi (-1)=((lo - hi).toNat:Int):=by
 unfold R5
 rw [if_neg (by decide)]
 split
 ·rw [show - (-1:Int)=1 by decide,Int.ediv_one]; lia
 ·lia
theorem small_down (ha: -(2 ^ 62)≤a) (ha':a<2 ^ 62) (hb: -(2 ^ 62)≤b) (hb':b<2 ^ 62):Builtin.Range.small a b (-1)=true:=by
 unfold Builtin.Range.small
 rw [lZ]
 simp only [Builtin.Range.rangeFitsLong,Rt,Bool.or_eq_true,decide_eq_true_eq,beq_iff_eq,show ¬ (-1:Int)>0 by decide,if_false]
 lia
noncomputable def Ln (ta:TA):TI:=fun σ H R=>ta σ H fun vs H1=>∃ i j:Int,vs=[.int i,.int j,.int (-1)]∧(-(2 ^ 62)≤i∧i<2 ^ 62∧ -(2 ^ 62)≤j∧j<2 ^ 62)∧R (II i (i - j).toNat) H1
theorem E3 (hg:Gl X "range") (hm:X.mg "range"=none) (ha:PA X [a,b,c] ta) (hs:starEach [a,b,c] X.env=[(false,eval a X.env),(false,eval b X.env),(false,eval c X.env)])
 (hs2:starEach [b,c] X.env=[(false,eval b X.env),(false,eval c X.env)]):PI X tg (.Call (.Name "range" p) [a,b,c] [] pos) (Ln ta):=by
 intro aa s σ H R I h
 refine Call_ (dG I hg hm boot_range (Rk (bC (ha pos aa s σ H _ I h) fun us s1 ⟨vs,H1,I1,r1,q1⟩=>?_) (by rw [hs,hs2]) (by rw [hs2]; rfl)))
 obtain ⟨i,j,e,⟨q1,q2,q3,q4⟩,q⟩:=q1
 subst e
 cases r1 with
 | cons r rr=>cases rr with
  | cons r' rr=>cases rr with
   | cons r'' rr =>
    cases rr
    obtain ⟨t,rfl⟩:=r
    obtain ⟨t',rfl⟩:=r'
    obtain ⟨t'',rfl⟩:=r''
    refine call_range_3 (by decide) ?_ (.inl (PyProof.noPylong_of_log2 (by decide +kernel)))
    refine wpAny_pyIter_range (IsRange.new ..) (small_down q1 q2 q3 q4) ?_
    have I2:Inv X aa σ H1 { s1 with heap:=s1.heap.push { cls:=.type "range",data:=.fields #[.int i t,.int j t',.int (-1) t''] },toks:=s1.toks }:=I1.kept fun b o e=>N7 _ e
    generalize s1.heap.push { cls:=.type "range",data:=.fields #[.int i t,.int j t',.int (-1) t''] }=g at I2 ⊢
    refine ⟨g.objs.size,[g.objs.size],_,_,H1,rfl,I2.kept (t':=s1.toks) fun b o e=>N7 _ e,yv _ i (i - j).toNat,?_,fun b hb=>?_,q⟩
    ·show IsRangeIter _ _ (i+((0:Nat):Int) * -1) ((((i - j).toNat:Nat):Int) - ((0:Nat):Int)) (-1)
     rw [show i+((0:Nat):Int) * -1=i by simp,show (((i - j).toNat:Nat):Int) - ((0:Nat):Int)=R5 i j (-1) by rw [lZ]; lia]
     exact Oj _ rfl
    ·obtain rfl:b=g.objs.size:=Ol.mp hb
     exact I2.mG (N3 _) (I2.hok.fresh (N3 _))
theorem Bx {K:NZ} {lo:Int} {n:Nat} {dQ:Hp}:jF K (II lo n) (Bw lo n) dQ where
 go:=fun i d H Hf s1 s2 e=>by
  unfold Bw at e
  rw [Oc] at e
  obtain ⟨j,e1,e2⟩:=Oh.mp e
  have hi:i<n:=by simpa using (Oa.mp e1).1
  have:j=i:=by rw [Q3 hi] at e1; cases e1; rfl
  subst this
  refine ⟨hi,fun x H' ⟨e3,e4⟩=>?_⟩
  subst e3 e4 e2
  exact ⟨Hf,.refl s2,ay.mpr rfl⟩
 stop:=fun i H Hf s1 s2 e=>show n≤i by simpa [Bw] using e
section
variable {K:NZ} {c:Ctx P w K mg base k N sc bk}
theorem IJ (hm:mg "range"=none) (h:aF c a ρ fun x=>aF c b ρ fun y=>aF c e ρ fun z=>∃ i j:Int,x=.int i∧y=.int j∧z=.int (-1)∧Sd (AF i) (Sd (AF j) (R (Bw i (i - j).toNat))))
 (hg:sc.names.lookup (NY "range")=some .globalImplicit:=by walk_at "u")
 (hs:∀ env,starEach [a,b,e] env=(false,eval a env)::starEach [b,e] env:=by intro _; walk_at "u") (hs2:∀ env,starEach [b,e] env=(false,eval b env)::starEach [e] env:=by intro _; walk_at "u")
 (hs3:∀ env,starEach [e] env=(false,eval e env)::starEach [] env:=by intro _; walk_at "u"):Gg c tg (.Call (.Name "range" p) [a,b,e] [] pos) ρ R:=fun σ H Hf Q S q aa s I =>
 E3 (by unfold Gl ON; rw [c.esc]; exact hg) (by rw [c.emg]; exact hm) (bN cU (bN cU (bN cU dH (hs3 _)) (hs2 _)) (hs _)) (by rw [hs,hs2,hs3]; rfl) (by rw [hs2,hs3]; rfl) aa s σ H Q I
  (h σ H Hf _ S fun x v1 H1 aM h1 r1 g1=>h1 σ H1 aM _ (S.cz g1) fun y v2 H2 cE h2 r2 g2=>h2 σ H2 cE _ (S.cz (g1.trans g2)) fun z v3 H3 Hf3 ⟨i,j,e1,e2,e3,⟨hi,⟨hj,hR⟩⟩⟩ r3 g3=>by
    subst e1 e2 e3; rw [ay] at r1 r2 r3; subst r1 r2 r3
    exact ⟨i,j,rfl,⟨hi.1,hi.2,hj.1,hj.2⟩,q _ _ H3 Hf3 hR ((g1.trans g2).trans g3) Bx⟩)
end
noncomputable abbrev ltI (x y:Int):Bool:=decide (x<y)
noncomputable def NF (d:Addr) (o:Obj) (ys:List (Key×V)):It :=
 ⟨fun i H=>H d=some (.frz o (.dK ys))∧i<ys.length,fun i H x H'=>H'=H∧∃ y,ys[i]?=some y∧x=kV y.1,fun i H=>H d=some (.frz o (.dK ys))∧ys.length≤i⟩
section
theorem pH (I:Inv X aa σ H s) (hH:H d=some (.frz o (.dK ys))):∃ (vs:List (Key×Value)) (es:Array DictEntry) (ep:Nat),o.data=.dict es ep∧KV ys vs∧s.heap.DictAt (bV X.prog X.w) d vs ep∧(d == sysModules)=false∧ys.length≤sizeLine:=by
 obtain ⟨ho,ok⟩:=(show bh X.prog X.w H s.heap d (.frz o (.dK ys)) from I.hok d _ hH)
 obtain ⟨z,y,vs,kv,o',es,ep,h1,h2,h3,h4,h5,h6⟩:=ok
 rw [ho] at h1; cases h1
 exact ⟨vs,es,ep,h3,kv,⟨o,es,ho,h2,h3,h4,h5,h6⟩,y,z⟩
end
theorem yw {P:Program} {w:World} {K:NZ} {tg:Expr} {d j:Addr} {o:Obj} {ys:List (Key×V)} {es:Array DictEntry} {ep:Nat} (hod:o.data=.dict es ep):Turn P w K tg (NF d o ys) [j] j (fun i h=>h.IsKeyIter j d i ys.length ep) where
 mem:=Ol.mpr rfl
 obj:=fun i h ⟨q,e,_,hd⟩ b hb=>by
  obtain rfl:b=j:=Ol.mp hb
  exact ⟨_,e,fun v z=>by rw [hd] at z; cases z⟩
 keep:=fun i h h' ⟨q,e,r⟩ k=>⟨q,k j (Ol.mpr rfl) _ e,r⟩
 item:=by
  intro X hP hw hK hc i aa s σ H E I hf st hg
  subst hP hw hK
  obtain ⟨f0,f1,f2,f3,f4,f5⟩:=hf j (Ol.mpr rfl)
  obtain ⟨hH,hi⟩:=hg
  obtain ⟨vs,es',ep',e1,kv,da,_⟩:=pH I hH
  rw [hod] at e1; cases e1
  have hl:ys.length=vs.length:=Pk kv
  obtain ⟨⟨ky,v⟩,hv,r1,r2⟩:=c8 kv (Ov hi)
  rw [hl] at st
  refine wpAny_pyNext_dict_item st da hv fun key h' hkey hit' hs'=>?_
  have I1:Inv X aa σ H { s with heap:=h',toks:=s.toks }:=I.turned (fun b o hb e=>hs'.extBut b o hb e) f0 f1 f3 f4 f5
  obtain ⟨q,e,qc,qd⟩:=id hit'
  rw [← hl] at hit'
  exact ⟨_,rfl,ng (s:={ s with heap:=h',toks:=s.toks }) (n:="dict_keyiterator") e qc qd (by decide) ⟨kV ky,H,I1,v8 hkey,⟨rfl,_,Ov hi,by rw [r1]⟩,hit',fun b hb=>(hf b hb).1⟩⟩
 done:=by
  intro X hP hw hK hc i aa s σ H E I hf st hg
  subst hP hw hK
  obtain ⟨f0,f1,f2,f3,f4,f5⟩:=hf j (Ol.mpr rfl)
  obtain ⟨hH,hi⟩:=hg
  obtain ⟨vs,es',ep',e1,kv,da,_⟩:=pH I hH
  rw [hod] at e1; cases e1
  have hl:ys.length=vs.length:=Pk kv
  rw [hl] at st
  exact wpAny_pyNext_dict_end (I.ok.hd hc) st da (PR (by lia)) fun h' eb=>⟨rfl,I.turned (t':=s.toks) (fun b o hb e=>eb b o hb e) f0 f1 f3 f4 f5⟩
 self:=fun _ _ _ _ _ st h=>wpAny_pyIter_keyiter st h
theorem yx {K:NZ} {Hf:Hp} {d:Addr} {o:Obj} {ys:List (Key×V)} {ns:List Int} (hH:Hf d=some (.frz o (.dK ys))) (hk:ys.map (·.1)=ns.map Oq):jF K (NF d o ys) (ns.map D.int) Hf where
 go:=fun i x H aM s1 s2 e=>by
  rw [Oc,Oh] at e
  obtain ⟨n,hn,rfl⟩:=e
  have hq:=congrArg (fun l=>l[i]?) hk
  simp only [Oc,hn,Option.map_some] at hq
  obtain ⟨y,hy,ey⟩:=Oh.mp hq
  refine ⟨⟨s2 _ _ (s1 _ _ hH),(Oa.mp hy).1⟩,fun v H' ⟨e1,y',e2,e3⟩=>?_⟩
  rw [hy] at e2; cases e2
  subst e1 e3
  exact ⟨aM,.refl s2,by rw [ey]; exact ay.mpr rfl⟩
 stop:=fun i H aM s1 s2 e=>⟨s2 _ _ (s1 _ _ hH),by
  have:=congrArg QJ hk
  simp only [N6] at this e
  lia⟩
section
theorem oh (hT:s.TypeIs (.ref v) "dict") (hQ:Q false s):wpAny (model prog w) A (QS (.ref v)) Q E s:=by
 unfold QS
 refine NX (SA hT PySem.F.slot_dict_len.lookup ?_)
 have e:splitId "dict.__len__"=some ("dict","__len__"):=by decide +kernel
 dsimp only
 rw [e]
 dsimp only
 refine NX (Sw (b:=true) hT (by rw [isSubtype_type]; kernel_rfl) ?_)
 rw [if_neg (by decide)]
 exact NX (Qo hT (N1 hQ))
end
section
variable {X:Cx} {aa:List (Addr×Obj)} {σ:L2.St} {H Hf:Hp} {s:Shared} {E:Value→Shared→Prop}
theorem rQ {K:NZ}:∀ {L:List Int} {us:List Value},Paired (fun x u=>kh K Hf (D.int x) u) L us→IntsAre us L
 | _,_,.nil=>.nil
 | _,_,.cons ⟨x,r1,h1⟩ t=>by
  rw [ay] at h1; subst h1
  obtain ⟨tk,rfl⟩:=r1
  exact .cons _ _ (rQ t)
theorem E4:Li X D.int ltI oneType' where
 lin:=fun L=>⟨fun x _=>by simp,fun x _ y _ z _ h g=>by simp only [decide_eq_true_eq] at *; lia,fun x _ y _ h=>by simp only [decide_eq_true_eq]; lia⟩
 inj:=fun _ _ _ _ _ _ _ x y u ⟨v,r1,h1⟩ ⟨v',r2,h2⟩=>by
  rw [ay] at h1 h2; subst h1 h2
  obtain ⟨t,rfl⟩:=r1
  obtain ⟨t',e⟩:=r2
  cases e; rfl
 kind:=fun _ _ _ _ _ _ _ _ _ L us p h2 Q hQ=>by
  rw [ksk_kind (kz:=L) (rQ p) (by simpa using h2)]
  exact N1 hQ
 cmp:=fun _ _ _ _ _ _ _ _ _ _ x y u v ⟨a,r1,h1⟩ ⟨b,r2,h2⟩ Q hQ=>by
  rw [ay] at h1 h2; subst h1 h2
  obtain ⟨t,rfl⟩:=r1
  obtain ⟨t',rfl⟩:=r2
  rw [keyLt'_oneType]
  exact oneLt_int hQ
theorem rR (hc:X.calm=true) (I:Inv X aa σ H s) (sb:aD Hf H) (hA:X.A.units+60<cLine) (hH:Hf d=some (.frz o (.dK ys))) (hk:ys.map (·.1)=ns.map Oq) (nd:ns.Nodup)
 (hQ:∀ (L':List Int) (xs':List V) (s':Shared) (H' aj:Hp) (a:Addr),L'.Perm ns→fR ltI b L'→au X.K aj (L'.map D.int) xs'→bq H Hf H' aj→H' a=none→Inv X aa σ (upd H' a (.lst xs')) s'→Q (.ref a) s') :
 wpAny (model X.prog X.w) X.A (call (.builtin "sorted") [.ref d] [(NY "reverse",.bool b)]) Q E s:=by
 refine call_function_entry_kw kind_sorted plain_sorted entry_sorted (args_sorted_rev _ _) ?_
 unfold Builtin.«sorted»
 refine NX (m:=checkCount "sorted" 1 1 _) (N1 ?_)
 have h1:X.A.in1.handled=none:=I.ok.hd hc
 have h2:X.A.in1.frames=some X.stack:=I.ok.frames
 obtain ⟨vs,es,ep,e1,kv,da,hs,hz⟩:=pH I (sb _ _ hH)
 have hl:ys.length=vs.length:=Pk kv
 have hn:(ns.map D.int).length=ys.length:=by have:=congrArg QJ hk; simp only [N6] at this ⊢; lia
 refine NX (lP (X:=EO X X.A.in1) (H:=H) (Hf:=Hf) (ds:=ns.map D.int) (T:="dict") hc h1 h2 (jM I (fun _=>h1) h2) sb da.lt_size (by lia) (by decide) (fun s' k=>(da.keep k).dictOf.typeIs) (fun A s' Q E q h=>oh q h) (fun A s1 H1 E I1 sb1 k1=>?_) fun us s' H' aj xs I' rv rr g hz'=>?_)
 ·refine wpAny_pyIter_dict hs (da.keep k1) ?_
  refine ⟨_,_,_,rfl,N3 _,I1.kept (t':=s1.toks) fun b o e=>N7 _ e,yw e1,⟨_,Oj _ rfl,rfl,?_⟩,fun b hb=>?_,fun b o e=>N7 _ e,yx hH hk⟩
  ·rw [hl]; rfl
  ·obtain rfl:b=s1.heap.objs.size:=Ol.mp hb
   exact I1.mG (N3 _) (I1.hok.fresh (N3 _))
 ·have I2:=gw I.ok I'
  have el:=rr.length
  have el2:=rv.length
  refine Bg (b:=b) E4 I2 g.b ?_ rr rv (by lia) nd fun L' xs' s2 p1 p2 p3 p4 I3=>hQ L' xs' s2 H' aj _ p1 p2 p3 g (I2.hok.fresh (N3 _)) I3
  show X.A.units+1+20<cLine
  lia
end
section
variable {K:NZ} {c:Ctx P w K mg base k N sc bk}
theorem uq (hm:mg "sorted"=none) (h:aF c e ρ fun d=>∃ (ns:List Int) (ds:List D),d=.fdK (ns.map Oq) ds∧Sd ns.Nodup (∀ L':List Int,L'.Perm ns→fR ltI true L'→R (.ow (L'.map D.int))))
 (hg:sc.names.lookup (NY "sorted")=some .globalImplicit:=by walk_at "u")
 (he:∀ env,starEach [e] env=(false,eval e env)::starEach [] env:=by intro _; walk_at "u")
 (hpl:∀ env,(backTo pos (starEach [e] env)).any (·.1)=false:=by intro _; walk_at "u") :
 dw c (.Call (.Name "sorted" np) [e] [⟨some "reverse",.Constant (.bool true) j kp1,kp⟩] pos) ρ R:=fun σ H Hf Q S q aa s I=>by
 have hgl:Gl c.X "sorted":=by unfold Gl ON; rw [c.esc]; exact hg
 refine PU (dG I hgl (by rw [c.emg]; exact hm) (show bootBuiltins "sorted"=some (.builtin "sorted") by decide +kernel) ?_ (by decide) (by decide))
 refine callWith_kw ?_ (by rw [he]; rfl) (hpl _)
 have hpa:=bN (X:=c.X) (e:=e) (es:=[]) cU dH (he _)
 refine bC (hpa pos aa s σ H (fun vs H1=>∃ x,vs=[x]∧∃ (ns:List Int) (ds:List D) (aM:Hp),Rep c.X.K aM (.fdK (ns.map Oq) ds) x∧ns.Nodup∧bq H Hf H1 aM∧∀ L':List Int,L'.Perm ns→fR ltI true L'→R (.ow (L'.map D.int))) I ?_) fun us s1 hh=>z2 hh fun vs H1 hh=>w3 hh fun I1 r1 hh=>hh.elim fun x hh=>w2 hh fun ex hh=>z3 hh fun ns ds aM hh=>w4 hh fun e1 e7 e8 e9=>?_
 ·exact h σ H Hf _ S fun d v H1 aM ⟨ns,ds,hp,⟨hn,hR⟩⟩ rv g=>⟨_,rfl,ns,ds,aM,by rw [← hp]; exact rv,hn,g,hR⟩
 ·subst ex
  obtain ⟨a0,ys,o,rfl,hs,hk,hr⟩:=iW.mp e1
  have eu:us=[.ref a0]:=by
   cases r1 with
   | cons q1 q2=>cases q2; cases q1; rfl
  subst eu
  refine kws_cons (bC (FZ (X:=c.X) (b:=true) (j:=j) (pos:=kp1) aa s1 σ _ (fun x H2=>x=.bl true∧H2=H1) I1 ⟨rfl,rfl⟩) fun kv s2 ⟨x,H2,I2,rx,e10,e11⟩=>kws_nil ?_)
  subst e10 e11
  have ek:kv=.bool true:=rx
  subst ek
  refine rR (b:=true) c.calm I2 e8.b ?_ hs hk e7 fun L' xs' s' H' aj a p1 p2 p3 g na I3=>?_
  ·have:=c.room.un
   lia
  ·have gg:=e8.trans g
   exact ⟨.ref a,_,I3,rfl,q (.ow (L'.map D.int)) _ _ aj (e9 L' p1 p2) ⟨a,xs',rfl,gg.s.free na,ai,g.b.free na,p3⟩ (gg.trans (bq.gc g.b na))⟩
end
theorem E5 {Q:Value→Shared→Prop} (ho:s.heap.get? l=some o) (hc:o.cls=.type "tuple") (hd:o.data=.seq its.toArray n) (hk:0≤k) (hk2:k<2 ^ 63) (hz:its.length * k.toNat≤sizeLine) (hne:its≠[])
 (h1:k=1→Q (.ref l) s) (h2:k≠1→Q (.ref s.heap.objs.size) { s with heap:=s.heap.push { cls:=.type "tuple",data:=.seq (Of k.toNat its).flatten.toArray } }) :
 wpAny (model prog w) A (Builtin.«tuple.__mul__» ⟨[.ref l,.int k u],[]⟩) (fun fin s'=>∃ v,fin=.done (.ret v)∧Q v s') E s:=by
 unfold Builtin.«tuple.__mul__»
 show wpAny _ _ (asIndex (.int k u) >>= _) _ _ s
 have ea:asIndex (.int k u)=pure k:=rfl
 rw [ea]
 refine NX (N1 ?_)
 have b1:(decide (k< -2 ^ 63) || decide (k≥2 ^ 63))=false:=by simp only [Bool.or_eq_false_iff,decide_eq_false_iff_not]; lia
 rw [if_neg (by rw [b1]; exact Oe)]
 dsimp only
 refine NX (show wpAny _ _ (seqItems? (.ref l) >>= _) _ _ s from NX (wpAny_seqItems ho hd (N1 ?_)))
 have hne':its.toArray.isEmpty=false:=by cases its with | nil=>exact absurd rfl hne | cons a r=>rfl
 rw [hne',Bool.false_or]
 by_cases e:k=1
 ·rw [if_pos (by simp [e])]
  refine NX (NX (Qo ⟨o,ho,hc⟩ (N1 ?_)))
  rw [if_pos (by decide)]
  exact NX (Po (N1 ⟨_,rfl,h1 e⟩))
 ·rw [if_neg (by simpa using e)]
  have h2':=h2 e
  by_cases e0:k=0
  ·subst e0
   rw [if_pos (by decide)]
   exact NX (O6 (N1 ⟨_,rfl,h2'⟩))
  ·have hpos:0<k:=by lia
   rw [if_neg (by simp; lia)]
   have hm:(its.toArray.size:Int) * k=((its.length * k.toNat:Nat):Int):=by
    rw [Int.natCast_mul,Int.toNat_of_nonneg hk,Ot]
   have hs:(sizeLine:Nat)≤(2 ^ 63 - 1) / 8:=by decide
   rw [hm,if_neg (by lia),if_neg (by unfold Builtin.Tuple.tupleTooMany; simp only [decide_eq_true_eq]; lia)]
   have ef:=foldl_rep its k.toNat []
   rw [P1] at ef
   show wpAny _ _ (newObj (.type "tuple") (.seq (Rh (fun x1 x2=>x1++x2) ([]:List Value).toArray (Of k.toNat its.toArray))) >>= _) _ _ _
   rw [ef]
   exact NX (O6 (N1 ⟨_,rfl,h2'⟩) (hd:=by
    show (Of k.toNat its).flatten.toArray.size≤sizeLine
    rw [Ot,len_rep,RI]; exact hz))
theorem uu:fillsNumberSlot (.type "tuple") "mul"=pure false:=PySem.fillsNumberSlot_seq (id:="tuple.__mul__") (r:=some (.builtin "tuple.__rmul__")) Uj.lookup (by decide +kernel) F.slot_tuple_rmul.lookup (by decide +kernel)
theorem uv:seqRepeat? (.type "tuple")=pure (some (.builtin "tuple.__mul__")):=by
 unfold seqRepeat?
 rw [PySem.seqSlot_of (T:="tuple") (name:="__mul__") (id:="tuple.__mul__") Uj.lookup (by decide +kernel),PySem.seqSlot_of (T:="tuple") (name:="__rmul__") (id:="tuple.__rmul__") F.slot_tuple_rmul.lookup (by decide +kernel)]
 rfl
theorem By (a) (t:Tok) (l) (o) (items) (n) :
 Meets (Builtin.«int.__rmul__» ⟨[.int a t,.ref l],[]⟩) (fun _ R s=>s.heap.get? l=some o∧o.cls=.type "tuple"∧o.data=.seq items n∧R (.ok (.ret Value.notImplemented)) s) :=
 .of_wp fun prog w A R ⟨hp,g,d,tk,os⟩ ⟨hl,hc,hd,h⟩=>by
  obtain ⟨c,dc,dt,sl⟩:=o
  obtain rfl:c=.type "tuple":=hc
  obtain rfl:dt=.seq items n:=hd
  wp_walk
  exact ⟨_,rfl,h⟩
noncomputable def Lo (K:NZ):R2:=fun x y H Q=>∃ l k xs,x=.ref l∧y=.int k∧cV K H l xs∧xs≠[]∧0≤k∧k<2 ^ 63∧xs.length * k.toNat≤sizeLine∧(k=1→Q (.ref l) H)∧(k≠1→∀ p,H p=none→Q (.ref p) (upd H p (.tup (Of k.toNat xs).flatten)))
theorem E6:fK X (binaryOp .Mult) (Lo X.K):=by
 intro aa s σ H x y v u Q I rx ry h
 obtain ⟨l,k,xs,rfl,rfl,hq,hne,h0,h1,hz,q1,q2⟩:=h
 cases rx
 obtain ⟨t,rfl⟩:=ry
 obtain ⟨its,r,pl,hz0⟩:=I.tuple hq
 obtain ⟨o,ho,hc,n,hd⟩:=pl
 have hl:=r.length
 refine wpAny_binaryOp_repeat_ref (T:="tuple") (U:="int") (by decide) ⟨o,ho,hc⟩ (fun s'=>Rf s' k t) uu F.fills_int_mul SH uv F.slot_int_index.lookup
  (Rg SH (Rf s k t) F.entry_int_rmul (F.args_int_rmul_2 _ _) (By k t l o _ _) ⟨ho,hc,hd,rfl,⟨o,ho,hc⟩,PD Uj ⟨o,ho,hc⟩ F.entry_tuple_mul (E5 (its:=its) ho hc hd h0 h1 (by rw [← hl]; exact hz) (by rintro rfl; cases r; exact hne rfl) (fun e=>?_) fun e=>?_) (F.args_tuple_mul_2 _ _)⟩)
 ·exact ⟨.ref l,H,I,rfl,q1 e⟩
 ·have Hp:H s.heap.objs.size=none:=I.hok.fresh (N3 _)
  have hz2:(Of k.toNat xs).flatten.length≤sizeLine:=by rw [len_rep,RI]; exact hz
  have IA:Inv X aa σ (upd H s.heap.objs.size (.tup (Of k.toNat xs).flatten)) { s with heap:=s.heap.push { cls:=.type "tuple",data:=.seq (Of k.toNat its).flatten.toArray },toks:=s.toks } :=
   I.laid (a:=s.heap.objs.size) (o:=.tup (Of k.toNat xs).flatten) (fun _ _ q=>N7 _ q) (N3 _) ⟨hz2,_,r.rep k.toNat,_,Oj _ rfl,rfl,0,rfl⟩
  exact ⟨.ref s.heap.objs.size,_,IA,rfl,q2 e _ Hp⟩
section
variable {K:NZ}
theorem IK (h:aF c a ρ fun x=>aF c b ρ fun y=>∃ ds n,x=.tup ds∧y=.int n∧Sd (ds≠[]∧0≤n∧n<2 ^ 63∧ds.length * n.toNat≤sizeLine) (R (.tup (Of n.toNat ds).flatten))):aF c (.BinOp a .Mult b pos) ρ R:=fun σ H Hf Q S q =>
 bH (zI E6 cU cU) (h σ H Hf _ S fun x v H1 aM h1 r1 g1=>h1 σ H1 aM _ (S.cz g1) fun y u H2 cE ⟨ds,n,e1,e2,⟨hne,n0,n1,hz⟩,hR⟩ r2 g2=>by
  subst e1 e2
  have r1':=Rep.mono g2.f _ r1
  obtain ⟨l,xs,rfl,k1,k2⟩:=aH.mp r1'
  rw [ay] at r2; subst r2
  have hl:=k2.length
  have g:=g1.trans g2
  refine ⟨l,n,xs,rfl,rfl,av g2.b k1,by rintro rfl; exact hne (List.eq_nil_of_length_eq_zero hl),n0,n1,by rw [← hl]; exact hz,fun e=>?_,fun _ p hp=>?_⟩
  ·subst e
   refine q _ _ H2 cE hR ?_ g
   rw [show (Of (1:Int).toNat ds).flatten=ds by simp]
   exact r1'
  ·have g3:=bq.new (o:=.tup (Of n.toNat xs).flatten) g2.b hp
   exact q _ _ _ _ hR (aH.mpr ⟨p,_,rfl,.inl (.inl ai),(k2.mono g3.f).many _⟩) (g.trans g3))
end
section
variable {K:NZ}
end
end EV
namespace EV
open PySem PySem.Spec PyProof.Rows L2
noncomputable def dig (b:Int):Nat→(Nat→Int)→Int
 | 0,_=>0
 | m+1,f=>f 0 * b ^ m+dig b m (fun i=>f (i+1))
noncomputable abbrev bU (p:List Int) (i:Nat):Int:=p.getD i 0
noncomputable def pk (b:Int) (p:List Int):Int:=dig b 6 (bU p)
theorem jl:∀ {m:Nat} {f g:Nat→Int},(∀ i,i<m→f i=g i)→dig b m f=dig b m g
 | 0,_,_,_=>rfl
 | m+1,f,g,h=>by
  unfold dig
  rw [h 0 (by lia),jl (m:=m) fun i hi=>h (i+1) (by lia)]
theorem wM:∀ (m:Nat) (f g:Nat→Int),dig b m (fun i=>f i+g i)=dig b m f+dig b m g
 | 0,_,_=>rfl
 | m+1,f,g=>by
  unfold dig
  rw [wM m (fun i=>f (i+1)) (fun i=>g (i+1)),QL]
  lia
theorem jm:∀ (m:Nat),dig b m (fun _=>0)=0
 | 0=>rfl
 | m+1=>by unfold dig; rw [jm m,QI]; rfl
theorem iF (hb:0<b):∀ (m:Nat) (f:Nat→Int),(∀ i,i<m→0≤f i∧f i<b)→0≤dig b m f∧dig b m f<b ^ m
 | 0,_,_=>⟨Pn _,by show (0:Int)<b ^ 0; rw [Int.pow_zero]; decide⟩
 | m+1,f,h=>by
  have h0:=h 0 (by lia)
  have ih:=iF hb m (fun i=>f (i+1)) fun i hi=>h (i+1) (by lia)
  have hp:0<b ^ m:=QK hb
  unfold dig
  rw [Int.pow_succ]
  have a1:0≤f 0 * b ^ m:=Int.mul_nonneg h0.1 (by lia)
  have a2:(f 0+1) * b ^ m≤b * b ^ m:=Us (by lia) (by lia)
  rw [QL,Te] at a2
  rw [Int.mul_comm (b ^ m) b]
  lia
theorem wN (hb:0<b):∀ (m:Nat) (f:Nat→Int),(∀ i,i<m→0≤f i∧f i<b)→∀ i,i<m→dig b m f / b ^ (m - 1 - i) % b=f i
 | 0,_,_,_,hi=>absurd hi (Nat.not_lt_zero _)
 | m+1,f,h,i,hi=>by
  have ih:=wN hb m (fun i=>f (i+1)) fun i hi=>h (i+1) (by lia)
  have bd:=iF hb m (fun i=>f (i+1)) fun i hi=>h (i+1) (by lia)
  have hp:0<b ^ m:=QK hb
  unfold dig
  cases i with
  | zero =>
   rw [show m+1 - 1 - 0=m by lia,S6,Int.add_mul_ediv_right _ _ (by lia),Int.ediv_eq_zero_of_lt bd.1 bd.2,RK]
   exact Int.emod_eq_of_lt (h 0 (by lia)).1 (h 0 (by lia)).2
  | succ i =>
   have e:b ^ m=b ^ (i+1) * b ^ (m - 1 - i):=by rw [← Int.pow_add]; congr 1; lia
   have hq:0<b ^ (m - 1 - i):=QK hb
   rw [show m+1 - 1 - (i+1)=m - 1 - i by lia,e,← RD,S6,Int.add_mul_ediv_right _ _ (by lia),Int.pow_succ,← RD,Int.add_mul_emod_self_right]
   exact ih i (by lia)
theorem jP (h:trim (x::p)=x::p):trim p=p:=by
 rcases List.eq_nil_or_concat p with rfl | ⟨r,z,rfl⟩
 ·rfl
 ·rw [List.concat_eq_append] at h ⊢
  by_cases e:z=0
  ·subst e
   rw [← Pq,gU] at h
   have:=congrArg QJ h
   have l:=gx (x::r)
   simp only [OF,OH,PV] at this l
   lia
  ·exact nY r e
theorem rS:∀ {p:List Int},trim p=p→p≠[]→(∀ x∈p,0≤x)→∃ i,i<p.length∧0<bU p i
 | [],_,h,_=>absurd rfl h
 | [x],h,_,h0=>by
  refine ⟨0,by simp,?_⟩
  have:x≠0:=by rintro rfl; simp [trim] at h
  have:=h0 x (by simp)
  show 0<x
  lia
 | x::y::p,h,_,h0=>by
  obtain ⟨i,hi,hq⟩:=rS (jP h) (by simp) fun z hz=>h0 z (Ob _ hz)
  exact ⟨i+1,by simp only [OF] at *; lia,by simpa [bU] using hq⟩
theorem wO (hb:0<b):∀ (m:Nat) (f:Nat→Int),(∀ i,i<m→0≤f i∧f i<b)→(∃ i,i<m∧0<f i)→0<dig b m f
 | 0,_,_,h=>by obtain ⟨i,hi,_⟩:=h; lia
 | m+1,f,h,⟨i,hi,hq⟩=>by
  have bd:=iF hb m (fun i=>f (i+1)) fun i hi=>h (i+1) (by lia)
  have hp:0<b ^ m:=QK hb
  unfold dig
  cases i with
  | zero =>
   have:=Int.mul_pos hq hp
   lia
  | succ i =>
   have:=wO hb m (fun i=>f (i+1)) (fun i hi=>h (i+1) (by lia)) ⟨i,by lia,hq⟩
   have:=Int.mul_nonneg (h 0 (by lia)).1 (show 0≤b ^ m by lia)
   lia
theorem BA (hb:0<b):∀ (m:Nat) (p q:List Int),trim p=p→trim q=q→p.length≤m→q.length≤m→(∀ x∈p,0≤x∧x<b)→(∀ x∈q,0≤x∧x<b)→HT.lexLt p q=true→dig b m (bU p)<dig b m (bU q)
 | m,[],[],_,_,_,_,_,_,h=>by cases h
 | m,[],y::q,_,tq,_,lq,_,hq,_=>by
  have e:dig b m (bU [])=0:=by
   rw [show bU ([]:List Int)=fun _=>0 from funext fun i=>by simp [bU]]; exact jm m
  rw [e]
  obtain ⟨i,hi,h0⟩:=rS tq (by simp) fun x hx=>(hq x hx).1
  refine wO hb m _ (fun j hj=>?_) ⟨i,by lia,h0⟩
  by_cases z:j<(y::q).length
  ·have:bU (y::q) j=(y::q)[j]:=by unfold bU; rw [O9,Ov z]; rfl
   rw [this]; exact hq _ (OG _)
  ·have:bU (y::q) j=0:=by simp only [bU,O9,PR (by lia:(y::q).length≤j)]; rfl
   rw [this]; lia
 | m,x::p,[],_,_,_,_,_,_,h=>by cases h
 | 0,x::p,y::q,_,_,lp,_,_,_,_=>by simp at lp
 | m+1,x::p,y::q,tp,tq,lp,lq,hp,hq,h=>by
  simp only [OF] at lp lq
  rw [HT.cC] at h
  have rd:∀ (r:List Int),(∀ z∈r,0≤z∧z<b)→∀ j,0≤bU r j∧bU r j<b:=fun r hr j=>by
   by_cases z:j<r.length
   ·have:bU r j=r[j]:=by unfold bU; rw [O9,Ov z]; rfl
    rw [this]; exact hr _ (OG _)
   ·have:bU r j=0:=by simp only [bU,O9,PR (by lia:r.length≤j)]; rfl
    rw [this]; lia
  have hp':∀ z∈p,0≤z∧z<b:=fun z hz=>hp z (Ob _ hz)
  have hq':∀ z∈q,0≤z∧z<b:=fun z hz=>hq z (Ob _ hz)
  unfold dig
  show x * b ^ m+dig b m (bU p)<y * b ^ m+dig b m (bU q)
  by_cases e:x=y
  ·rw [if_pos e] at h
   subst e
   have:=BA hb m p q (jP tp) (jP tq) (by lia) (by lia) hp' hq' h
   lia
  ·rw [if_neg e] at h
   have hxy:x<y:=of_decide_eq_true h
   have b1:=iF hb m (bU p) fun i _=>rd p hp' i
   have b2:=iF hb m (bU q) fun i _=>rd q hq' i
   have a2:(x+1) * b ^ m≤y * b ^ m:=Us (by lia) (by have hh:0<b ^ m:=QK hb; lia)
   rw [QL,Te] at a2
   lia
noncomputable def Bd (b:Int) (p:List Int):Prop:=p.length≤6∧∀ x∈p,0≤x∧x<b
theorem dI (z:j<p.length):bU p j=p[j]:=by unfold bU; rw [O9,Ov z]; rfl
theorem cP (z:p.length≤j):bU p j=0:=by unfold bU; rw [O9,PR z]; rfl
theorem Gv (hb:0<b) (h:Bd b p) (i):0≤bU p i∧bU p i<b:=by
 by_cases z:i<p.length
 ·rw [dI z]; exact h.2 _ (OG _)
 ·rw [cP (by lia)]; lia
theorem rT (p):∃ m,p=trim p++Of m 0:=by
 suffices H:∀ r:List Int,∃ m,r=Of m 0++r.dropWhile fun x=>x == 0 by
  obtain ⟨m,h⟩:=H p.reverse
  refine ⟨m,?_⟩
  have:=congrArg List.reverse h
  rw [List.reverse_reverse,TR,List.reverse_replicate] at this
  exact this
 intro r
 induction r with
 | nil=>exact ⟨0,rfl⟩
 | cons x r ih =>
  by_cases e:x=0
  ·subst e
   obtain ⟨m,h⟩:=ih
   refine ⟨m+1,?_⟩
   rw [PZ,List.dropWhile_cons_of_pos (by simp),Pq,← h]
  ·exact ⟨0,by rw [List.dropWhile_cons_of_neg (by simpa using e)]; rfl⟩
theorem eB (p) (i):bU (trim p) i=bU p i:=by
 obtain ⟨m,h⟩:=rT p
 by_cases z:i<(trim p).length
 ·have e:bU p i=bU (trim p++Of m 0) i:=by rw [← h]
  rw [e]
  unfold bU
  simp only [O9]
  rw [Qf z]
 ·rw [cP (by lia)]
  have e:bU p i=bU (trim p++Of m 0) i:=by rw [← h]
  rw [e]
  unfold bU
  simp only [O9]
  rw [QT (by lia),Tv]
  split <;> rfl
theorem E7 (b) (p):pk b (trim p)=pk b p:=jl fun i _=>eB p i
theorem rV (h:x∈trim p):x∈p:=by
 obtain ⟨m,e⟩:=rT p
 rw [e]; exact PB _ h
theorem pI (h:Bd b p):Bd b (trim p):=⟨Od (gx p) h.1,fun x hx=>h.2 x (rV hx)⟩
theorem BB (hb:0<b) (hp:Bd b p) (hq:Bd b q) (tp:trim p=p) (tq:trim q=q) (h:HT.lexLt p q=true):pk b p<pk b q:=BA hb 6 p q tp tq hp.1 hq.1 hp.2 hq.2 h
theorem uw (hb:0<b) (hp:Bd b p) (hq:Bd b q) (tp:trim p=p) (tq:trim q=q) (h:pk b p=pk b q):p=q:=by
 by_cases e:p=q
 ·exact e
 ·exfalso
  rcases kK e with z | z
  ·have:=BB hb hp hq tp tq z; lia
  ·have:=BB hb hq hp tq tp z; lia
noncomputable def Mj (b:Int) (key:Int):List Int:=trim ((OQ 6).map fun (i:Nat)=>key / b ^ (5 - i) % b)
theorem IL (hb:0<b) (h:Bd b p):Mj b (pk b p)=trim p:=by
 have e:((OQ 6).map fun (i:Nat)=>pk b p / b ^ (5 - i) % b)=p++Of (6 - p.length) 0:=by
  refine Sz (by simp; have:=h.1; lia) fun i h1 h2=>?_
  have hi:i<6:=by simpa using h1
  rw [Ug,TX]
  have:=wN hb 6 (bU p) (fun j _=>Gv hb h j) i hi
  rw [show 6 - 1 - i=5 - i by lia] at this
  rw [show pk b p=dig b 6 (bU p) from rfl,this]
  by_cases z:i<p.length
  ·rw [dI z,List.getElem_append_left z]
  ·rw [cP (by lia),List.getElem_append_right (by lia),List.getElem_replicate]
 unfold Mj
 rw [e]
 generalize 6 - p.length=m
 induction m with
 | zero=>simp
 | succ m ih=>rw [List.replicate_succ',← Om,gU]; exact ih
noncomputable def cI (B:List (Int×Int)):List (Key×D):=B.map fun x=>(.inl x.1,.int x.2)
theorem jn (B) (k):bz (cI B) (.inl k)=(bz B k).map D.int:=by
 induction B with
 | nil=>rfl
 | cons t B ih =>
  by_cases e:t.1=k
  ·rw [br e]
   show bz ((Oq t.1,D.int t.2)::cI B) _=_
   rw [br (by rw [e])]; rfl
  ·rw [aU e,← ih]
   show bz ((Oq t.1,D.int t.2)::cI B) _=_
   rw [aU fun z=>e (Oq.inj z)]
theorem rX (B) (k n):putD (cI B) (.inl k) (.int n)=cI (putD B k n):=by
 unfold putD
 rw [jn]
 by_cases h:(bz B k).isSome=true
 ·rw [if_pos h,if_pos (by rw [QA]; exact h)]
  unfold cI
  rw [Ow,Ow]
  refine P7 fun t _=>?_
  simp only [SV]
  by_cases e:t.1=k
  ·rw [if_pos e,if_pos (by rw [e])]
  ·rw [if_neg e,if_neg fun z=>e (Oq.inj z)]
 ·rw [if_neg h,if_neg (by rw [QA]; exact h)]
  unfold cI
  simp
noncomputable def gz (b:Int) (t:aJ):Int×Int:=(pk b t.1,t.2)
noncomputable def Gd (b:Int) (A:List aJ):Prop:=∀ t∈A,Bd b t.1∧trim t.1=t.1
theorem uz (hb:0<b) (h:Gd b A) (hp:Bd b p) (tp:trim p=p):bz (A.map (gz b)) (pk b p)=bz A p:=by
 induction A with
 | nil=>rfl
 | cons t A ih =>
  have ih:=ih fun x hx=>h x (Ob _ hx)
  have ht:=h t N9
  by_cases e:t.1=p
  ·rw [br e,N5,br (show (gz b t).1=pk b p by unfold gz; rw [e])]; rfl
  ·rw [aU e,N5,aU fun z=>e (uw hb ht.1 hp ht.2 tp z),ih]
theorem IM (hb:0<b) (h:Gd b A) (hp:Bd b p) (tp:trim p=p):putD (A.map (gz b)) (pk b p) n=(putD A p n).map (gz b):=by
 unfold putD
 rw [uz hb h hp tp]
 split
 ·rw [Ow,Ow]
  refine P7 fun t ht=>?_
  simp only [SV]
  by_cases e:t.1=p
  ·rw [if_pos e,if_pos (show (gz b t).1=pk b p by unfold gz; rw [e])]; rfl
  ·rw [if_neg e,if_neg (show ¬ (gz b t).1=pk b p from fun z=>e (uw hb (h t ht).1 hp (h t ht).2 tp z))]
 ·simp [gz]
theorem IP (h:Gd b A) (hp:Bd b p) (tp:trim p=p):Gd b (putD A p n):=fun t ht=>by
 rcases pG ht with e | e
 ·rw [e]; exact ⟨hp,tp⟩
 ·exact h t e
theorem pJ (h:∀ t∈ts,Bd b t.1):Gd b (aI ts):=by
 unfold aI
 suffices H:∀ A,Gd b A→Gd b (ts.foldl fS A) from H [] (fun _ h=>by cases h)
 induction ts with
 | nil=>exact fun A h=>h
 | cons u ts ih=>exact fun A hA=>ih (fun t ht=>h t (Ob _ ht)) _ (IP hA (pI (h u N9)) (cy _))
theorem IQ (hb:0<b) (h:∀ t∈ts,Bd b t.1) (ht:Bd b t.1) :
 putD ((aI ts).map (gz b)) (pk b t.1) ((bz ((aI ts).map (gz b)) (pk b t.1)).getD 0+t.2)=(aI (ts++[t])).map (gz b):=by
 rw [rM]
 unfold fS
 rw [← E7 b t.1,uz hb (pJ h) (pI ht) (cy _),IM hb (pJ h) (pI ht) (cy _)]
theorem rY:∀ {L M:List Int},L.Perm M→L.Pairwise (fun x y=>y<x)→M.Pairwise (fun x y=>y<x)→L=M
 | [],M,h,_,_=>by rw [List.nil_perm] at h; exact h.symm
 | x::L,[],h,_,_=>by simp at h
 | x::L,y::M,h,h1,h2=>by
  rw [Q4] at h1 h2
  by_cases e:x=y
  ·subst e
   rw [rY ((List.perm_cons _).mp h) h1.2 h2.2]
  ·exfalso
   have hx:x∈M:=(Og.mp (h.subset N9)).resolve_left e
   have hy:y∈L:=(Og.mp (h.symm.subset N9)).resolve_left (Ou e)
   have a:=h1.1 y hy
   have b:=h2.1 x hx
   lia
theorem pK {A:List aJ} (hk:(A.map (·.1)).Nodup) {t:aJ} (h:t∈A):bz A t.1=some t.2:=by
 induction A with
 | nil=>cases h
 | cons u A ih =>
  rw [N5,Pd] at hk
  rcases Og.mp h with rfl | h
  ·exact br rfl
  ·rw [aU fun e=>hk.1 (by rw [e]; exact List.mem_map_of_mem h)]
   exact ih hk.2 h
theorem BC (hb:0<b) (h:∀ t∈ts,Bd b t.1) (hp:L'.Perm (((aI ts).map (gz b)).map (·.1))) (hs:L'.Pairwise fun x y=>y<x):L'=(fH (aI ts)).map fun t=>pk b t.1:=by
 have hg:=pJ h
 have hk:=d9 ts
 generalize aI ts=A at *
 refine rY (hp.trans ?_) hs ?_
 ·rw [Ow]
  exact ((bD A).map _).symm
 ·rw [P8]
  have hs2:=gX (keys_nodup hk)
  have hm:∀ t∈fH A,t∈A:=fun t ht=>(bD A).subset ht
  have hk2:(fH A).Pairwise fun x y=>x.1≠y.1:=by
   have:=((bD A).map (·.1)).nodup_iff.mpr hk
   unfold Ri at this
   rwa [P8] at this
  unfold jj fR at hs2
  refine Th.imp_of_mem (R:=fun x y=>(if true then cO y x=true else cO x y=true)∧x.1≠y.1) (fun {x y} hx hy q=>?_) (hs2.and hk2)
  obtain ⟨q1,q2⟩:=q
  rw [if_pos rfl] at q1
  unfold cO at q1
  rw [if_neg (Ou q2)] at q1
  exact BB hb (hg _ (hm _ hy)).1 (hg _ (hm _ hx)).1 (hg _ (hm _ hy)).2 (hg _ (hm _ hx)).2 q1
noncomputable def E8 (b:Int) (p:List Int):Int:=p.foldl (fun a x=>a * b+x) 0
theorem BD (b) (p) (x):E8 b (p++[x])=E8 b p * b+x:=by unfold E8; rw [Ua]; rfl
theorem rZ (b):∀ (p:List Int) (a:Int),p.foldl (fun a x=>a * b+x) a=a * b ^ p.length+dig b p.length (bU p)
 | [],a=>by simp [dig]
 | x::p,a=>by
  rw [Pr,rZ b p]
  show (a * b+x) * b ^ p.length+_=a * b ^ (p.length+1)+(x * b ^ p.length+dig b p.length (bU p))
  rw [QL,Int.pow_succ,RD,Int.mul_comm b (b ^ p.length)]
  lia
theorem wQ (b) (p):E8 b p=dig b p.length (bU p):=by unfold E8; rw [rZ]; lia
theorem r6 (k):∀ (m:Nat) (f:Nat→Int),(∀ i,m≤i→f i=0)→dig b (m+k) f=dig b m f * b ^ k
 | 0,f,h=>by
  rw [Qp,jl (g:=fun _=>0) fun i _=>h i (OO _),jm]
  show 0=0 * b ^ k
  rw [QI]
 | m+1,f,h=>by
  rw [show m+1+k=(m+k)+1 by lia]
  unfold dig
  rw [r6 k m (fun i=>f (i+1)) fun i hi=>h (i+1) (by lia),QL,Int.pow_add,RD]
theorem IS (h:p.length≤6):E8 b p * b ^ (6 - p.length)=pk b p:=by
 rw [wQ,← r6 (6 - p.length) p.length (bU p) fun i hi=>cP hi]
 rw [show p.length+(6 - p.length)=6 by lia]
 rfl
theorem BE (hb:0<b) (h:∀ x∈p,0≤x∧x<b):0≤E8 b p∧E8 b p<b ^ p.length:=by
 rw [wQ]
 exact iF hb _ _ fun i hi=>by rw [dI hi]; exact h _ (OG _)
theorem Lp (hb:0<b) (h:Bd b p):0≤pk b p∧pk b p<b ^ 6:=iF hb _ _ fun i _=>Gv hb h i
theorem two_pos (W):(0:Int)<2 ^ W:=QK (by decide)
theorem gY (W):((2:Int) ^ W)=((2 ^ W:Nat):Int):=by rw [Int.natCast_pow]; rfl
theorem BF (hW:W≤10) (hn:n≤6):((2:Int) ^ W) ^ n≤2 ^ 60:=by
 rw [← Int.pow_mul,gY,gY]
 exact Int.ofNat_le.mpr (Sa (by decide) (Od (RA hW hn) (by decide)))
theorem wR (hW:W≤10) (hn:n≤6) (h0:0≤x) (h:x<((2:Int) ^ W) ^ n):x.natAbs<2 ^ 64:=by
 have:=BF hW hn
 have h60:(2:Int) ^ 60<2 ^ 64:=by decide
 have:x<((2 ^ 64:Nat):Int):=by rw [← gY]; lia
 lia
theorem yy (W) (h:0≤x):Builtin.bitAnd x (1 * 2 ^ W - 1)=x % 2 ^ W:=by
 have hp:=two_pos W
 have e0:(1:Int) * 2 ^ W - 1=((2 ^ W - 1:Nat):Int):=by
  have:0<2 ^ W:=Nat.pow_pos (by decide)
  rw [Te,gY]; lia
 rw [e0]
 show (match decide (0≤x),decide (0≤((2 ^ W - 1:Nat):Int)) with
  | true,true=>(((x.toNat &&& (((2 ^ W - 1:Nat):Int)).toNat:Nat)):Int)
  | true,false=>_ | false,true=>_ | false,false=>_)=_
 rw [decide_eq_true h,decide_eq_true (TZ _)]
 show ((x.toNat &&& (2 ^ W - 1):Nat):Int)=_
 rw [Nat.and_two_pow_sub_one_eq_mod,gY,Int.natCast_emod,Int.toNat_of_nonneg h]
noncomputable def cA (p q:List Int):List Int:=(OQ (max p.length q.length)).map fun k=>bU p k+bU q k
noncomputable def dJ (l r:aJ):aJ:=(cA l.1 r.1,l.2 * r.2)
noncomputable def aL (A B:List aJ):List aJ:=A.flatMap fun l=>B.map (dJ l)
theorem jo (p q):(cA p q).length=max p.length q.length:=by simp [cA]
theorem bY (p q) (i):bU (cA p q) i=bU p i+bU q i:=by
 by_cases z:i<max p.length q.length
 ·rw [dI (by rw [jo]; exact z)]; simp [cA]
 ·rw [cP (by rw [jo]; lia),cP (by lia),cP (by lia)]; rfl
theorem E9 (b) (p q):pk b (cA p q)=pk b p+pk b q:=by
 unfold pk
 rw [← wM]
 exact jl fun i _=>bY p q i
theorem gB (h:t∈aL A B):∃ l∈A,∃ r∈B,t=dJ l r:=by
 unfold aL at h
 obtain ⟨l,hl,h⟩:=Sy.mp h
 obtain ⟨r,hr,rfl⟩:=Oo.mp h
 exact ⟨l,hl,r,hr,rfl⟩
theorem oi (A B) (l):aL (A++[l]) B=aL A B++B.map (dJ l):=by
 unfold aL
 rw [List.flatMap_append,Su,Uh,O7]
theorem dB (A B):(aL A B).length=A.length * B.length:=by
 induction A with
 | nil=>simp [aL]
 | cons a A ih =>
  unfold aL at *
  rw [Su,OH,ih,N6,OF,RH]
  lia
end EV
namespace EV
open PySem PySem.Spec PySem.Calls PyProof.Rows L2
theorem BG {K:NZ}:∀ {kvs:List (Key×D)} {ys:List (Key×V)},ys.map (·.1)=kvs.map (·.1)→au K H (kvs.map (·.2)) (ys.map (·.2))→mD K H kvs ys
 | [],[],_,_=>.nil
 | [],y::ys,h,_=>by simp at h
 | x::kvs,[],h,_=>by simp at h
 | x::kvs,y::ys,h,r=>by
  rw [N5,N5] at h r
  obtain ⟨v,t,e,r1,r2⟩:=aC.mp r
  injection e with e1 e2
  injection h with h1 h2
  subst e1 e2
  exact .cons ⟨h1.symm,r1⟩ (BG h2 r2)
section
variable {K:NZ}
theorem IT (h:aF c a ρ fun x=>aF c b ρ fun y=>∃ (kvs:List (Key×D)) (kk:Key) (d:D),x=.fdK (kvs.map (·.1)) (kvs.map (·.2))∧y.xW=some kk∧bz kvs kk=some d∧R d) (hs:DT b:=by with_unfolding_all exact fun _ _=>rfl):aF c (.Subscript a b pos) ρ R:=fun σ H Hf Q S q =>
 bH (vF c.hu cU cU hs) (h σ H Hf _ S fun x v H1 aM h1 r1 g1=>h1 σ H1 aM _ (S.cz g1) fun y u H2 cE ⟨kvs,kk,d,e1,e2,e3,hR⟩ r2 g2=>by
  subst e1
  obtain ⟨p,ys,o,rfl,k1,k2,k3⟩:=iW.mp r1
  have kv:=(BG k2 k3).mono g2.f
  have rel:=kv.val kk
  rw [e3] at rel
  rw [jb e2 r2]
  cases z:kU ys kk with
  | none=>rw [z] at rel; exact rel.elim
  | some v =>
   rw [z] at rel
   exact ⟨p,v,rfl,.inl ⟨ys,kk,.inr ⟨o,g2.b _ _ (g2.f _ _ k1)⟩,rfl,z.symm⟩,q d v H2 cE hR rel (g1.trans g2)⟩)
end
end EV
namespace EV
open PySem PySem.Spec PyProof.Rows L2
theorem r8 {A:List aJ} {l:List Int} {n:Int} {t:aJ} (h:t∈putD A l n):t=(l,n)∨t∈A:=by
 unfold putD at h
 split at h
 ·obtain ⟨u,hu,e⟩:=Oo.mp h
  split at e
  ·rename_i q; subst e; exact .inl (by rw [q])
  ·subst e; exact .inr hu
 ·rcases OA.mp h with q | q
  ·exact .inr q
  ·simp at q; exact .inl q
theorem IU {A:List aJ} (h:∀ t∈A,t.2.natAbs≤c) (l):((bz A l).getD 0).natAbs≤c:=by
 unfold bz
 cases e:A.find? (fun kv=>decide (kv.1=l)) with
 | none=>exact OO _
 | some u=>exact h u (List.mem_of_find?_eq_some e)
theorem wU:∀ (ts A:List aJ) (c:Nat),(∀ t∈A,t.2.natAbs≤c)→(∀ t∈ts,t.2.natAbs≤m)→∀ t∈ts.foldl fS A,t.2.natAbs≤c+ts.length * m
 | [],A,c,h,_,t,ht=>by simpa using h t ht
 | u::ts,A,c,h,g,t,ht=>by
  have:=wU (m:=m) ts (fS A u) (c+m) (fun t' ht'=>by
   rcases r8 ht' with rfl | q
   ·have a:=IU h (trim u.1)
    have b:=g u N9
    show ((bz A (trim u.1)).getD 0+u.2).natAbs≤c+m
    omega
   ·have:=h t' q; omega) (fun t h=>g t (Ob _ h)) t ht
  rw [OF,RH]
  omega
theorem IV (h:∀ t∈ts,t.2.natAbs≤m):∀ t∈aI ts,t.2.natAbs≤ts.length * m:=fun t ht=>by
 have:=wU ts [] 0 (by simp) h t ht
 omega
theorem yz (l m:List Int):k6 (n+1) (.tup (l.map D.int)) (.tup (m.map D.int)):=.tup fun i d e h1 h2=>by
 simp only [Oc,Oh] at h1 h2
 obtain ⟨a,_,rfl⟩:=h1
 obtain ⟨b,_,rfl⟩:=h2
 exact .sc rfl
theorem r9 (x y):k6 (n+2) (aO x) (aO y):=.tup fun i d e h1 h2=>by
 rcases i with _ | _ | i
 ·simp at h1 h2; subst h1 h2; exact yz _ _
 ·simp at h1 h2; subst h1 h2; exact .sc rfl
 ·simp at h1
theorem BH (L M:List aJ):k6 (n+3) (.lst (L.map aO)) (.lst (M.map aO)):=.lst fun i d e h1 h2=>by
 simp only [Oc,Oh] at h1 h2
 obtain ⟨a,_,rfl⟩:=h1
 obtain ⟨b,_,rfl⟩:=h2
 exact r9 a b
theorem BI (es):oR [] es:=fun i d e h _=>by simp at h
theorem jQ (h:k6 40 d e) (t:oR ds es):oR (d::ds) (e::es):=fun i a b h1 h2=>by
 cases i with
 | zero=>simp at h1 h2; subst h1 h2; exact h
 | succ i=>exact t i a b (by simpa using h1) (by simpa using h2)
theorem yC (L M:List aJ):oR (L.map aO) (M.map aO):=fun i d e h1 h2=>by
 simp only [Oc,Oh] at h1 h2
 obtain ⟨a,_,rfl⟩:=h1
 obtain ⟨b,_,rfl⟩:=h2
 exact r9 a b
theorem sd (h:oR ds ds) (t:T true):Ea (.lst ds) (.lst ds) T:=Ec ⟨h,by rw [decide_eq_true rfl]; exact t⟩
section
variable {K:NZ}
theorem int_mk (KX:K.In h) (G:h.Ns mainGlobals mg) (a:O1 K mainGlobals x=some (some (.int i tk))):∃ tk:Tok,mg x=some (.int i tk):=⟨tk,PySem.W.mg_of KX G a⟩
theorem wV {st:Stmt} (m:mg x=some (.ref f)) (Fu:fL K x x st f fd) (ok:bx P w K mg base (dP P w) k f fd ps (Iz K F))
 (hb:∀ (kV doc pm:Value) (an:Option Addr) (cdv ct:Value) (us:List Value),us.length=ps.length→bindArgs (P4 x x (eO st) (az st) (ah st) .none kV doc pm an cdv ct) ⟨us,[]⟩=pure (ps.zip us)):yl P w K mg base k x F :=
 ⟨f,fd,ps,m,Fu.kp,Fu.binds hb,ok⟩
end
theorem iG (h:n≤100000):n<sizeLine:=Qj h (by decide)
theorem uA (h:n≤100000):n≤sizeLine:=Qq (iG h)
structure pM (P:Program) (w:World) (K:NZ) (mg:Str→Option Value) (base:Heap) (k:Nat) (f:Addr) (F:Fn):Prop where
 ex:∃ fd ps,PX K (.ref f)=true∧Binds K fd ps []∧bx P w K mg base (dP P w) k f fd ps (fO K F)
section
variable {K:NZ} {c:Ctx P w K mg base k N sc bk}
theorem cG.at_ (h:cG P w K mg base j x F):∃ f,mg x=some (.ref f)∧pM P w K mg base j f F:=by
 obtain ⟨f,fd,ps,a,b,c,d⟩:=h.ex
 exact ⟨f,a,fd,ps,b,c,d⟩
theorem uB (hm:mg x=some (.ref f)) (hR:R (.adr f)) (hg:sc.names.lookup x=some .globalImplicit:=by walk_at "u") (hd:(x == ("__debug__":Str))=false:=by decide) :
 aF c (.Name x pos) ρ R:=fun σ H Hf Q S q =>
 bH (vn (X:=c.X) (v:=.ref f) (u:=.ref f) (by unfold Gl ON; rw [c.esc]; exact hg) (by rw [c.emg]; exact hm) rfl hd) (q _ _ H Hf hR (dY.mpr rfl) (.refl S.sb))
theorem BJ (h:pM P w K mg base j f F) (hj:j≤k):PX K (.ref f)=true ∧
 ∀ (aa:List (Addr×Obj)) (σ:L2.St) (H Hf:Hp) (s:Shared) (us:List Value) (vs:List V) (ds:List D) (r:Res) (Q:VK),Inv c.X aa σ H s→bu c σ H Hf ρ→Vals vs us→au c.X.K Hf ds vs→F ds r →
  (∀ sl v H' aj,r=.ok sl→aX c.X.K (fun p=>H p=none) H' aj sl v→bq H Hf H' aj→Q v H')→(∀ C,r=.ex C→c.RX C ρ)→wpAny (model c.X.prog c.X.w) c.X.A (call (.ref f) us) (EP c.X aa σ Q) c.X.xe s:=by
 obtain ⟨fd,ps,hk,hb,hF⟩:=h.ex
 refine ⟨hk,fun aa σ H Hf s us vs ds r Q I S rv rs hr q hx=>?_⟩
 have hF':bx c.X.prog c.X.w c.X.K c.X.mg c.X.base (dP c.X.prog c.X.w) k f fd ps (fO c.X.K F):=by rw [c.eP,c.ew,c.eK,c.emg,c.eb]; exact hF.mono hj
 have qk:fO c.X.K F vs H Q (fun cv ao H'=>∃ C,r=.ex C∧cv=.ref C∧aD H H'):=by
  refine ⟨Hf,ds,r,S.bas.b,rs,hr,?_⟩
  cases r with
  | ok sl=>exact fun v H' aj g rs2=>q sl v H' aj rfl rs2 g
  | ex C=>exact fun a H' s2=>⟨C,rfl,rfl,s2⟩
 have hl:us.length=ps.length:=by rw [← rv.length]; exact hF'.len _ _ _ _ qk
 have hb':Binds c.X.K fd ps []:=by rw [c.eK]; exact hb
 have hb2:=hb' s us I.oB (by simpa using hl)
 rw [O7] at hb2
 refine Rc (Q9 (hF'.run c.X.A c.X.stack s H ⟨us,[]⟩ us vs Q _ c.room I.DK hb2 rv qk) fun r' s' hq=>?_)
 cases r' with
 | error e =>
  obtain ⟨a,C,H',rfl,hE,C',e1,e2,sm⟩:=hq
  cases e2
  exact c.exc C a aa σ H Hf ρ s H' s' I S (hx C e1) hE sm
 | ok fl =>
  cases fl with
  | ret u=>exact I.after hq
  | next=>exact O2 hq
  | brk=>exact O2 hq
  | cont=>exact O2 hq
theorem dW {R:Sl→Prop} (h:pM P w K mg base j f F) (hj:j≤k) (hN:At N i x) (hi:At ρ i (.va (.adr f)))
 (ha:qF c (e::es) ρ fun ds=>∃ r,F ds r∧HN c ρ R r)
 (hdb:(x == ("__debug__":Str))=false:=by decide) (hcd:(x == ("__classdict__":Str))=false:=by decide) (he:∀ env,starEach (e::es) env=(false,eval e env)::starEach es env:=by intro _; walk_at "u")
 (hpl:∀ env,(backTo pos (starEach es env)).any (·.1)=false:=by intro _; walk_at "u"):dw c (.Call (.Name x p) (e::es) [] pos) ρ R:=fun σ H Hf Q S q aa s I=>by
 obtain ⟨hk,run⟩:=BJ (c:=c) (ρ:=ρ) h hj
 obtain ⟨v0,e0,r0⟩:=S.va hi.get
 rw [dY] at r0
 subst r0
 refine PU (bC (c.kc hN hdb hcd aa s σ H (fun v H1=>v=.ref f∧H1=H) I ⟨_,e0,rfl,rfl⟩) fun fv s1 ⟨v,H1,I1,rv,e1,e2⟩=>?_)
 subst e1 e2
 have ef:fv=.ref f:=rv
 subst ef
 refine Si (h₀:=c.X.base) I1.ok.mod.kin (by rw [c.eK]; exact hk) (bC (ha σ _ Hf (fun vs H1=>∃ aM ds,(∃ r,F ds r∧HN c ρ R r)∧au c.X.K aM ds vs∧bq _ Hf H1 aM) S (fun ds vs H1 aM hr rs g=>⟨aM,ds,hr,rs,g⟩) pos aa s1 I1) fun us s2 ⟨vs,H2,I2,rv,aM,ds,⟨r,hF,hR⟩,rs,g⟩=>⟨I2.oB,?_⟩) (he _) (hpl _)
 refine run aa σ H2 aM s2 us vs ds r Q I2 (S.cz g) rv rs hF (fun sl v H' aj e1 rs2 g2=>?_) fun C e1=>?_
 ·subst e1
  exact q sl v H' aj hR (rs2.weak fun p hp=>g.s.free hp) (g.trans g2)
 ·subst e1
  exact hR
end
end EV
namespace EV
open PySem PySem.Spec PySem.Calls PyProof.Rows L2
section
theorem yD (hc:X.calm=true) (I:Inv X aa σ H s) (sb:aD Hf H) (hv:s.heap.IsItemsView v d) (hH:Hf d=some (.frz o u)) (hd:HO.dct u) (hp:Paired (nN X.K Hf) ds (bL u))
 (hQ:∀ (a:Addr) (s':Shared) (H' aj:Hp) (xs:List V),Inv X aa σ H' s'→H' a=some (.lst xs)→H a=none→aj a=none→au X.K aj ds xs→bq H Hf H' aj→Q (.ref a) s'):wpAny (model X.prog X.w) X.A (call (.type "list") [.ref v]) Q E s:=by
 obtain ⟨ho,ok⟩:=(show bh X.prog X.w H s.heap d (.frz o u) from I.hok d _ (sb _ _ hH))
 obtain ⟨_,_,_,_,_,_,hz⟩:=cH ok hd ho
 have h1:X.A.in1.handled=none:=I.ok.hd hc
 have h2:X.A.in1.frames=some X.stack:=I.ok.frames
 refine callType_codes (Q₁:=fun obj s₁=>obj=.ref s.heap.objs.size∧s₁={ s with heap:=s.heap.push { cls:=.type "list",data:=.seq #[] } }) F.called_list (F.typeCall_list_1 _) F.entry_list_init
  (code_list_new _ ⟨rfl,rfl⟩) fun obj s₁ h₁=>?_
 obtain ⟨rfl,rfl⟩:=h₁
 have hS:(s.heap.push { cls:=.type "list",data:=.seq #[] }).get? s.heap.objs.size=some { cls:=.type "list",data:=.seq #[] }:=Oj _ rfl
 refine ⟨⟨_,hS,rfl⟩,F.args_list_init_2 _ _,?_⟩
 show wpAny _ X.A.in1.in1 (do let old ← Rm (.ref s.heap.objs.size); Qh (.ref s.heap.objs.size) (fun _=> #[]); letGo old.toList.reverse; RT (.ref s.heap.objs.size) (.ref v) .none) _ _ _
 refine NX (RG hS rfl ?_)
 have HS:H s.heap.objs.size=none:=I.hok.fresh (N3 _)
 have I1:Inv X aa σ (upd H s.heap.objs.size (.lst [])) { s with heap:=s.heap.push { cls:=.type "list",data:=.seq ([]:List Value).toArray },toks:=s.toks }:=I.DQ (t':=s.toks) (ys:=[]) (its:=[]) .nil (OO _)
 refine NX (Py hS rfl ?_)
 have I2:=I1.tQ (f:=fun _=>(#[]:Array Value)) (its':=[]) (ys:=[]) (t':=s.toks) ai (n:=0) hS (by simp) .nil (OO _)
 rw [kD] at I2
 refine NX (S9 ?_)
 have k1:∀ b o,s.heap.get? b=some o→((s.heap.push { cls:=.type "list",data:=.seq ([]:List Value).toArray }).update s.heap.objs.size (OJ fun _=>(#[]:Array Value))).get? b=some o:=fun b o e=>by
  rw [Qi _ _ _ _ (OB (N8 e))]
  exact N7 _ e
 have up:∀ s':Shared,(∀ b o,s.heap.get? b=some o→s'.heap.get? b=some o)→s'.heap.IsItemsView v d:=fun s' k=>by obtain ⟨q,q1,q2⟩:=hv; exact ⟨q,k _ _ q1,q2⟩
 have hne:s.heap.objs.size≠v:=Ra (by obtain ⟨_,q,_⟩:=hv; exact N8 q)
 have g0:bq H Hf (upd H s.heap.objs.size (.lst [])) Hf:=bq.gc sb HS
 refine nX (X:=EO X X.A.in1) (T:="dict_items") (ds:=ds) (H:=H) (Hf:=Hf) (R:=wants (fun r s₂=>r=.none∧Q (.ref s.heap.objs.size) s₂) E) hc h1 h2 (jM I2 (fun _=>h1) h2) sb HS hne ?_ (by rw [Pk hp]; exact hz) (by decide) (fun s' k=>(up s' fun b o e=>k b o (k1 b o e)).typeIs) (fun A s' Q E q h=>yj q h) ?_ fun s' H' aj xs I' hS' hfS hr g=>⟨rfl,hQ _ s' H' aj xs (gw I.ok I') hS' HS hfS hr g⟩
 ·show _<(Heap.update _ _ _).objs.size
  rw [Ui]
  show _<(Heap.push _ _).objs.size
  rw [Qm]; exact QC _
 ·refine OP (ES (X:=EO X X.A.in1) (tg:=.Name "x" ⟨0,0,0,0⟩) (jM I2 (fun _=>h1) h2) (up _ k1) (g0.b _ _ hH) hd) (fun itv s2 hh=>z3 hh fun it es ep hh=>w7 hh fun e hit I3 Tn t0 hf k2=>?_) fun _ _ x=>x
  exact ⟨it,_,_,e,hit,I3,Tn,t0,hf,k2,ud hH hp⟩
end
section
variable {K:NZ} {c:Ctx P w K mg base k N sc bk}
theorem se (hm:mg "list"=none) (h:aF c e ρ fun d=>∃ ds,d.pairs=some ds∧R (.ow ds)) (hg:sc.names.lookup (NY "list")=some .globalImplicit:=by walk_at "u")
 (hb:∀ env,attributeBase e "items" env (eval e env)=eval e env:=by intro _; walk_at "u") (hl:(ap.endLine == cp.line)=true:=by walk_at "u") :
 dw c (.Call (.Name "list" np) [.Call (.Attribute e "items" ap) [] [] cp] [] pos) ρ R:=fun σ H Hf Q S q aa s I=>by
 have hgl:Gl c.X "list":=by unfold Gl ON; rw [c.esc]; exact hg
 refine PU (dG I hgl (by rw [c.emg]; exact hm) (show bootBuiltins "list"=some (.type "list") by decide +kernel) ?_ (by decide) (by decide))
 have hpa:=bN (X:=c.X) (e:=.Call (.Attribute e "items" ap) [] [] cp) (es:=[]) (Bf cU (hb _) hl) dH (by rfl)
 refine Rk (bC (hpa pos aa s σ H (fun vs H1=>∃ x,vs=[x]∧∃ (v d:Addr) (o:Obj) (u:HO) (ds:List D) (H0 Dz:Hp),x=.ref v∧H1=upd H0 v (.ext fun h=>h.IsItemsView v d)∧H0 v=none∧Dz d=some (.frz o u)∧HO.dct u∧Paired (nN c.X.K Dz) ds (bL u)∧bq H Hf H0 Dz∧R (.ow ds)) I ?_) fun us s1 hh=>z2 hh fun vs H1 hh=>w3 hh fun I1 r1 hh=>hh.elim fun x hh=>w2 hh fun ex hh=>z4 hh fun v d o u hh=>z3 hh fun ds H0 Dz hh=>w8 hh fun e1 e2 e3 e4 e5 e6 e8 e9=>?_) (by rfl) (by rfl)
 ·exact h σ H Hf _ S fun d v H1 aM ⟨ds,hp,hR⟩ rv g=>by
   obtain ⟨a,o,u,e1,e2,e3,e4⟩:=yc hp rv
   exact ⟨a,o,u,e1,g.b _ _ e2,e3,fun vw hv=>⟨_,rfl,vw,a,o,u,ds,H1,aM,rfl,rfl,hv,e2,e3,e4,g,hR⟩⟩
 ·subst ex e1 e2
  have eu:us=[.ref v]:=by
   cases r1 with
   | cons q1 q2=>cases q2; cases q1; rfl
  subst eu
  have g1:bq H0 Dz (upd H0 v (.ext fun h=>h.IsItemsView v d)) Dz:=bq.gc e8.b e3
  obtain ⟨hvw,_⟩:=(show bh c.X.prog c.X.w _ s1.heap v (.ext fun h=>h.IsItemsView v d) from I1.hok v _ ai)
  refine yD c.calm I1 g1.b hvw e4 e5 e6 fun a s' H' aj xs I' hS' na zu hr g=>?_
  have gg:=(e8.trans g1).trans g
  exact ⟨.ref a,H',I',rfl,q (.ow ds) _ _ aj e9 ⟨a,xs,rfl,e8.s.free (g1.s.free na),hS',zu,hr⟩ gg⟩
end
section
theorem BK {K:NZ}:∀ {ds:List D} {xs:List V} {us:List Value},au K Hf ds xs→Vals xs us→Paired (fun d u=>kh K Hf d u) ds us
 | [],xs,us,h,v=>by rw [aA] at h; subst h; cases v; exact .nil
 | t::L,xs,us,h,v=>by
  obtain ⟨x,r,rfl,h1,h2⟩:=aC.mp h
  cases v with
  | cons r1 r2=>exact .cons ⟨x,r1,h1⟩ (BK h2 r2)
theorem BL {K:NZ}:∀ {ds:List D} {us:List Value},Paired (fun d u=>kh K Hf d u) ds us→∃ xs,au K Hf ds xs∧Vals xs us
 | _,_,.nil=>⟨[],aA.mpr rfl,.nil⟩
 | _,_,.cons ⟨x,r1,h1⟩ t=>by
  obtain ⟨xs,h2,h3⟩:=BL t
  exact ⟨x::xs,.cons h1 h2,.cons r1 h3⟩
theorem uC (hc:X.calm=true) (I:Inv X aa σ H s) (sb:aD Hf H) (hl:gh X.K Hf l ys) (hr:au X.K Hf ds ys) (hd:∀ d∈ds,∃ es,d=.lst es)
 (hQ:∀ (ds':List D) (xs':List V) (s':Shared) (a:Addr),ds'.Perm ds→au X.K Hf ds' xs'→H a=none→Inv X aa σ (upd H a (.lst xs')) s'→Q (.ref a) s') :
 wpAny (model X.prog X.w) X.A (call (.builtin "sorted") [.ref l] [(NY "key",.builtin "len")]) Q E s:=by
 refine call_function_entry_kw kind_sorted plain_sorted entry_sorted (SR.kg _ _) ?_
 unfold Builtin.«sorted»
 refine NX (m:=checkCount "sorted" 1 1 _) (N1 ?_)
 obtain ⟨its,rv,p,hz⟩:=I.list (sb.seq hl)
 have el:=rv.length
 refine NX (collect_list p.isList ?_ (by lia))
 have I2:Inv X aa σ H { s with heap:=(s.heap.push (seqObj "list" #[] 0)).update s.heap.objs.size (OJ (· ++its.toArray)),toks:=s.toks }:=I.kept fun c o e=>by
  rw [Qi _ _ _ _ (OB (N8 e))]
  exact N7 _ e
 generalize (s.heap.push (seqObj "list" #[] 0)).update s.heap.objs.size (OJ (· ++its.toArray))=h0 at I2 ⊢
 refine NX (RB ?_ (by lia))
 have ha:(h0.push (seqObj "list" its.toArray 0)).get? h0.objs.size=some (seqObj "list" its.toArray 0):=Oj _ rfl
 have Ha:H h0.objs.size=none:=I2.hok.fresh (N3 _)
 have k2:∀ b o,h0.get? b=some o→(h0.push (seqObj "list" its.toArray 0)).get? b=some o:=fun b o e=>N7 _ e
 have I3:Inv X aa σ H { s with heap:=h0.push (seqObj "list" its.toArray 0),toks:=s.toks }:=I2.kept (t':=s.toks) k2
 have pL:=BK hr rv
 refine NX (OS (TN slot_list_sort ⟨_,ha,rfl⟩ entry_list_sort (SR.Bb ha (by lia) (fun v hv=>?_) fun out h' tk e hp he hk=>⟨_,rfl,?_⟩) (SR.iC _ _)))
 ·obtain ⟨d,hd',x,r1,h1⟩:=SR.iB pL v hv
  obtain ⟨es,rfl⟩:=hd d hd'
  obtain ⟨b,zs,rfl,q1,q2⟩:=aV.mp h1
  cases r1
  obtain ⟨its',rv',p',hz'⟩:=I3.list (sb.seq q1)
  have e':=rv'.length
  refine ⟨b,its'.toArray,rfl,?_,p'.isList,by simp only [Ot]; lia⟩
  rintro rfl
  obtain ⟨_,_,p2,_⟩:=I2.list (sb.seq q1)
  obtain ⟨o,q,_⟩:=p2.isList
  exact PK _ (N8 q)
 ·obtain ⟨ds',p1,p2⟩:=SR.gv hp pL
  obtain ⟨xs',r',v'⟩:=BL p2
  have hlen:out.toList.length=its.length:=hp.length_eq
  refine N1 ⟨_,rfl,hQ ds' xs' _ _ p1 r' Ha ?_⟩
  refine I2.laid (t':=tk) (a:=h0.objs.size) (fun b o q=>hk b o (OB (N8 q)) (k2 b o q)) (N3 _) ⟨by have:=v'.length; lia,out.toList,e,v',by simpa using he⟩
end
section
variable {K:NZ} {c:Ctx P w K mg base k N sc bk}
theorem yE (hm:mg "sorted"=none) (hml:mg "len"=none) (h:aF c e ρ fun d=>∃ ds,d=.lst ds∧Sd (∀ x∈ds,∃ es,x=.lst es) (∀ ds':List D,ds'.Perm ds→R (.ow ds')))
 (hg:sc.names.lookup (NY "sorted")=some .globalImplicit:=by walk_at "u") (hgl:sc.names.lookup (NY "len")=some .globalImplicit:=by walk_at "u")
 (he:∀ env,starEach [e] env=(false,eval e env)::starEach [] env:=by intro _; walk_at "u")
 (hpl:∀ env,(backTo pos (starEach [e] env)).any (·.1)=false:=by intro _; walk_at "u") :
 dw c (.Call (.Name "sorted" np) [e] [⟨some "key",.Name "len" kp1,kp⟩] pos) ρ R:=fun σ H Hf Q S q aa s I=>by
 have hgs:Gl c.X "sorted":=by unfold Gl ON; rw [c.esc]; exact hg
 have hgl':Gl c.X "len":=by unfold Gl ON; rw [c.esc]; exact hgl
 refine PU (dG I hgs (by rw [c.emg]; exact hm) (show bootBuiltins "sorted"=some (.builtin "sorted") by decide +kernel) ?_ (by decide) (by decide))
 refine callWith_kw ?_ (by rw [he]; rfl) (hpl _)
 have hpa:=bN (X:=c.X) (e:=e) (es:=[]) cU dH (he _)
 refine bC (hpa pos aa s σ H (fun vs H1=>∃ x,vs=[x]∧∃ (ds:List D) (aM:Hp),Rep c.X.K aM (.lst ds) x∧(∀ x∈ds,∃ es,x=.lst es)∧bq H Hf H1 aM∧∀ ds':List D,ds'.Perm ds→R (.ow ds')) I ?_) fun us s1 hh=>z2 hh fun vs H1 hh=>w3 hh fun I1 r1 hh=>hh.elim fun x hh=>w2 hh fun ex hh=>z2 hh fun ds aM hh=>w4 hh fun e1 e7 e8 e9=>?_
 ·exact h σ H Hf _ S fun d v H1 aM ⟨ds,hp,⟨hn,hR⟩⟩ rv g=>⟨_,rfl,ds,aM,by rw [← hp]; exact rv,hn,g,hR⟩
 ·subst ex
  obtain ⟨a0,ys,rfl,hs,hr⟩:=aV.mp e1
  have eu:us=[.ref a0]:=by
   cases r1 with
   | cons q1 q2=>cases q2; cases q1; rfl
  subst eu
  refine kws_cons (dG I1 hgl' (by rw [c.emg]; exact hml) (show bootBuiltins "len"=some (.builtin "len") by decide +kernel) ?_ (by decide) (by decide))
  refine kws_nil ?_
  exact uC c.calm I1 e8.b hs hr e7 fun ds' xs' s' a p1 p3 na I3=>⟨.ref a,_,I3,rfl,q (.ow ds') _ _ aM (e9 ds' p1) ⟨a,xs',rfl,e8.s.free na,ai,e8.b.free na,p3⟩ (e8.trans (bq.gc e8.b na))⟩
end
mutual
def Sh.d:Sh→D
 | .v d=>d
 | .l ds=>.lst ds
 | .la _ ds=>.lst ds
 | .t ss=>.tup (Sh.ds ss)
 | .ls ss=>.lst (Sh.ds ss)
def Sh.ds:List Sh→List D
 | []=>[]
 | s::ss=>s.d::Sh.ds ss
end
section
variable {K:NZ} {H Hf H' aj:Hp}
noncomputable abbrev Fp:=List (Addr×List V)
mutual
theorem aN.fz:∀ (s:Sh) {v:V} {fp:Fp},aN K H Hf s v fp→∀ a∈fp,H a.1=some (pl a.1 a.2)∧Hf a.1=none
 | .v d,_,_,h=>by simp only [aN] at h; obtain ⟨_,rfl⟩:=h; intro a ha; cases ha
 | .l ds,_,_,h=>by
  simp only [aN] at h
  obtain ⟨p,xs,e,h1,h2,h3,rfl⟩:=h
  intro a ha
  obtain rfl:=Ol.mp ha
  exact ⟨h1,h2⟩
 | .la p ds,_,_,h=>by
  simp only [aN] at h
  obtain ⟨xs,e,h1,h2,h3,rfl⟩:=h
  intro a ha
  obtain rfl:=Ol.mp ha
  exact ⟨h1,h2⟩
 | .t ss,_,_,h=>by
  simp only [aN] at h
  obtain ⟨a,xs,e,h1,h2⟩:=h
  exact aq.fz ss h2
 | .ls ss,_,_,h=>by
  simp only [aN] at h
  obtain ⟨p,xs,fq,e,h1,h2,h3,rfl⟩:=h
  intro a ha
  rcases Og.mp ha with rfl | ha
  ·exact ⟨h1,h2⟩
  ·exact aq.fz ss h3 a ha
theorem aq.fz:∀ (ss:List Sh) {xs:List V} {fp:Fp},aq K H Hf ss xs fp→∀ a∈fp,H a.1=some (pl a.1 a.2)∧Hf a.1=none
 | [],_,_,h=>by simp only [aq] at h; obtain ⟨_,rfl⟩:=h; intro a ha; cases ha
 | s::ss,_,_,h=>by
  simp only [aq] at h
  obtain ⟨x,r,f1,f2,e,h1,h2,rfl⟩:=h
  intro a ha
  rcases OA.mp ha with ha | ha
  ·exact aN.fz s h1 a ha
  ·exact aq.fz ss h2 a ha
end
mutual
theorem aN.rep (sf:aD Hf aj):∀ (s:Sh) {v:V} {fp:Fp},(∀ a∈fp,aj a.1=some (.lst a.2))→aN K H Hf s v fp→Rep K aj s.d v
 | .v d,_,_,_,h=>by simp only [aN] at h; exact h.1.mono sf d
 | .l ds,_,_,hk,h=>by
  simp only [aN] at h
  obtain ⟨p,xs,e,h1,h2,h3,rfl⟩:=h
  exact aV.mpr ⟨p,xs,e,.inl (.inl (hk _ N9)),h3.mono sf ds⟩
 | .la p ds,_,_,hk,h=>by
  simp only [aN] at h
  obtain ⟨xs,e,h1,h2,h3,rfl⟩:=h
  exact aV.mpr ⟨p,xs,e,.inl (.inl (hk _ N9)),h3.mono sf ds⟩
 | .t ss,_,_,hk,h=>by
  simp only [aN] at h
  obtain ⟨a,xs,e,h1,h2⟩:=h
  exact aH.mpr ⟨a,xs,e,av sf h1,aq.rep sf ss hk h2⟩
 | .ls ss,_,_,hk,h=>by
  simp only [aN] at h
  obtain ⟨p,xs,fq,e,h1,h2,h3,rfl⟩:=h
  exact aV.mpr ⟨p,xs,e,.inl (.inl (hk _ N9)),aq.rep sf ss (fun a ha=>hk a (Ob _ ha)) h3⟩
theorem aq.rep (sf:aD Hf aj):∀ (ss:List Sh) {xs:List V} {fp:Fp},(∀ a∈fp,aj a.1=some (.lst a.2))→aq K H Hf ss xs fp→au K aj (Sh.ds ss) xs
 | [],_,_,_,h=>by simp only [aq] at h; exact aA.mpr h.1
 | s::ss,_,_,hk,h=>by
  simp only [aq] at h
  obtain ⟨x,r,f1,f2,e,h1,h2,rfl⟩:=h
  exact aC.mpr ⟨x,r,e,aN.rep sf s (fun a ha=>hk a (PB _ ha)) h1,aq.rep sf ss (fun a ha=>hk a (OR _ ha)) h2⟩
end
noncomputable def ki (H:Hp) (fp:Fp):Hp:=fun a=>if a∈fp.map (·.1) then none else H a
noncomputable def fT (g:Addr→List V→HO):Fp→Hp→Hp
 | [],H=>H
 | p::fp,H=>upd (fT g fp H) p.1 (g p.1 p.2)
noncomputable def yF:Addr→List V→HO:=fun _ xs=>.lst xs
theorem dD (h:a∉fp.map (·.1)):ki H fp a=H a:=if_neg h
theorem kL (h:a∈fp.map (·.1)):ki H fp a=none:=if_pos h
theorem aR:∀ {fp:Fp},a∉fp.map (·.1)→fT g fp H a=H a
 | [],_=>rfl
 | p::fp,h=>by
  rw [N5,Og,not_or] at h
  show upd _ _ _ a=_
  rw [ak h.1,aR h.2]
theorem di:∀ {fp:Fp},(fp.map (·.1)).Nodup→∀ a∈fp,fT g fp H a.1=some (g a.1 a.2)
 | p::fp,nd,a,ha=>by
  rw [N5,Pd] at nd
  show upd _ _ _ a.1=_
  rcases Og.mp ha with rfl | ha
  ·exact ai
  ·rw [ak fun e=>nd.1 (by rw [← e]; exact Oo.mpr ⟨a,ha,rfl⟩)]
   exact di nd.2 a ha
theorem cu {fp:Fp} (h:a∈fp.map (·.1)):∃ p∈fp,p.1=a:=Oo.mp h
theorem BN (nd:(fp.map (·.1)).Nodup) (hz:∀ a∈fp,H a.1=some (pl a.1 a.2)∧Hf a.1=none) (g:bq (fT yF fp H) (fT yF fp Hf) H' aj):bq H Hf (fT pl fp H') (ki aj fp):=by
 refine ⟨fun b o e=>?_,fun b o e=>?_,fun b o e=>?_,fun b h1 h2 h3=>?_⟩
 ·by_cases m:b∈fp.map (·.1)
  ·obtain ⟨p,hp,rfl⟩:=cu m
   rw [di nd p hp,← (hz p hp).1]; exact e
  ·rw [aR m]; exact g.s b o (by rw [aR m]; exact e)
 ·have m:b∉fp.map (·.1):=fun m=>by obtain ⟨p,hp,rfl⟩:=cu m; rw [(hz p hp).2] at e; cases e
  rw [dD m]; exact g.f b o (by rw [aR m]; exact e)
 ·by_cases m:b∈fp.map (·.1)
  ·rw [kL m] at e; cases e
  ·rw [dD m] at e; rw [aR m]; exact g.b b o e
 ·by_cases m:b∈fp.map (·.1)
  ·exact kL m
  ·rw [dD m]; exact g.n b (by rw [aR m]; exact h1) (by rw [aR m]; exact h2) fun xs=>by rw [aR m]; exact h3 xs
end
section
theorem Gw:bh P w H h p (pl p xs)↔bh P w H h p (.lst xs):=by
 constructor
 ·exact fun q=>q.1
 ·rintro ⟨z,its,n,r,e⟩
  exact ⟨⟨z,its,n,r,e⟩,⟨_,e⟩,fun h1 h2 ⟨z,its,n,r,e⟩ k=>⟨z,its,n,r,k _ e⟩⟩
theorem pN (I:Inv X aa σ H s) (h:H a=some (.lst xs)):Inv X aa σ (upd H a (pl a xs)) s :=
 o6 I h (by intro _ z; cases z) (by intro _ z; cases z) (by intro _ z; cases z) (fun o z e=>by have q:=I.base.frzs a o z e; rw [h] at q; cases q) (Gw.mpr (I.hok a _ h))
theorem BO (I:Inv X aa σ H s) (h:H a=some (pl a xs)):Inv X aa σ (upd H a (.lst xs)) s :=
 o6 I h (by intro _ z; cases z) (by intro _ z; cases z) (by intro _ z; cases z) (fun o z e=>by have q:=I.base.frzs a o z e; rw [h] at q; cases q) (Gw.mp (I.hok a _ h))
theorem jq (I:Inv X aa σ H s):∀ {fp:Fp},(fp.map (·.1)).Nodup→(∀ a∈fp,H a.1=some (pl a.1 a.2))→Inv X aa σ (fT yF fp H) s
 | [],_,_=>I
 | p::fp,nd,h=>by
  rw [N5,Pd] at nd
  exact BO (jq I nd.2 fun a ha=>h a (Ob _ ha)) (by rw [aR nd.1]; exact h p N9)
theorem l0 (I:Inv X aa σ H s):∀ {fp:Fp},(fp.map (·.1)).Nodup→(∀ a∈fp,H a.1=some (.lst a.2))→Inv X aa σ (fT pl fp H) s
 | [],_,_=>I
 | p::fp,nd,h=>by
  rw [N5,Pd] at nd
  exact pN (l0 I nd.2 fun a ha=>h a (Ob _ ha)) (by rw [aR nd.1]; exact h p N9)
end
inductive JZ:List Sl→Prop where
 | nil:JZ []
 | cons {r:Sl} {l:List Sl} (h:r.F6=false):JZ l→JZ (r::l)
inductive kj:List Sl→Nat→Sh→Prop where
 | z {s:Sh} {l:List Sl}:JZ l→kj (.fo s::l) 0 s
 | s {r:Sl} {l:List Sl} {i:Nat} {s:Sh} (h:r.F6=false):kj l i s→kj (r::l) (i+1) s
theorem JZ.get (h:JZ l):∀ {j:Nat} {r:Sl},l[j]?=some r→r.F6=false:=by
 induction h with
 | nil=>intro j r e; simp at e
 | cons h _ ih =>
  intro j r e
  cases j with
  | zero=>simp at e; subst e; exact h
  | succ j=>exact ih (by simpa using e)
theorem kj.at_ {l:List Sl} {i:Nat} {s:Sh} (h:kj l i s):l[i]?=some (.fo s)∧∀ {j:Nat} {r:Sl},j≠i→l[j]?=some r→r.F6=false:=by
 induction h with
 | z h =>
  refine ⟨rfl,fun {j r} hj e=>?_⟩
  cases j with
  | zero=>exact absurd rfl hj
  | succ j=>exact h.get (by simpa using e)
 | s h _ ih =>
  refine ⟨by simpa using ih.1,fun {j r} hj e=>?_⟩
  cases j with
  | zero=>simp at e; subst e; exact h
  | succ j=>exact ih.2 (fun z=>hj (congrArg (· +1) z)) (by simpa using e)
section
variable {K:NZ}
theorem cW.Lq (S:cW K H₀ dQ σ H Hf ρ) (h:kj ρ i s) :
 ∃ fp:Fp,(fp.map (·.1)).Nodup∧(∀ a∈fp,H a.1=some (pl a.1 a.2)∧Hf a.1=none)∧cW K H₀ dQ σ (fT yF fp H) (fT yF fp Hf) (ρ.set i (.va s.d)):=by
 obtain ⟨hi,ho⟩:=h.at_
 obtain ⟨v,ev,fp,rf,nd,hfr⟩:=S.at_ i _ hi (by intro z; cases z)
 have hz:=aN.fz s rf
 have hlt:i<ρ.length:=(Oa.mp hi).1
 have none_in:∀ {b:Addr} {o:HO},Hf b=some o→b∉fp.map (·.1):=fun e m=>by obtain ⟨p,hp,rfl⟩:=cu m; rw [(hz p hp).2] at e; cases e
 have fr_in:∀ {b:Addr},b∈fp.map (·.1)→H₀ b=none:=fun m=>by obtain ⟨p,hp,rfl⟩:=cu m; exact hfr p hp
 have sf:aD Hf (fT yF fp Hf):=fun b o e=>by rw [aR (none_in e)]; exact e
 refine ⟨fp,nd,hz,⟨⟨fun b o e=>?_,S.bas.f.trans sf,fun b o e=>?_,fun b h1 h2 h3=>?_⟩,by simp [S.len],fun j r hj hu=>?_,fun j j' r r' q hne h1 h2 o1 o2=>?_⟩⟩
 ·rw [aR fun m=>by rw [fr_in m] at e; cases e]; exact S.bas.s b o e
 ·by_cases m:b∈fp.map (·.1)
  ·obtain ⟨p,hp,rfl⟩:=cu m
   rw [di nd p hp] at e ⊢; exact e
  ·rw [aR m] at e ⊢; exact S.sb b o e
 ·rw [aR fun m=>h2 (fr_in m)]; exact S.bas.n b h1 h2 h3
 ·by_cases q:j=i
  ·subst q
   rw [Pa hlt] at hj
   cases hj
   exact ⟨v,ev,aN.rep sf s (fun a ha=>di nd a ha) rf⟩
  ·rw [Pb (Ou q)] at hj
   obtain ⟨v,e1,e2⟩:=S.at_ j r hj hu
   refine ⟨v,e1,aX.mv (B:=fun a=>a∈fp.map (·.1)) sf (fun a o hm e1 _ e3=>⟨by rw [aR hm]; exact e1,by rw [aR hm]; exact e3⟩) (fun hf=>by rw [ho q hj] at hf; cases hf) (fun ow a e m=>?_) e2⟩
   subst e
   obtain ⟨_,_,e,_,_,_,nf⟩:=e2.qN ow
   cases e
   obtain ⟨p,hp,rfl⟩:=cu m
   exact nf ⟨p.2,(hz p hp).1⟩
 ·have out:∀ {j:Nat} {r:Sl},(ρ.set i (.va s.d))[j]?=some r→r.owned=true→ρ[j]?=some r:=fun {j r} hj ho=>by
   by_cases q:j=i
   ·subst q; rw [Pa hlt] at hj; cases hj; cases ho
   ·rw [Pb (Ou q)] at hj; exact hj
  exact S.sep j j' r r' q hne (out h1 o1) (out h2 o2) o1 o2
end
section
variable {K:NZ}
theorem IW (i) (h1:kj ρ i s) (hs:SSet ρ i (.va s.d) ρ') (h:jE c e ρ' T):jE c e ρ T:=fun σ H Hf Q S q aa s' I=>by
 obtain ⟨fp,nd,hz,S1⟩:=S.Lq h1
 rw [← hs.eq] at S1
 refine bC (h σ _ _ (fun b H'=>∃ aj,T b∧bq (fT yF fp H) (fT yF fp Hf) H' aj) S1 (fun b H' aj rd g=>⟨aj,rd,g⟩) aa s' (jq I nd fun a ha=>(hz a ha).1)) fun b s1 ⟨H1,I1,aM,rd,g⟩=>?_
 have hL:∀ a∈fp,H1 a.1=some (.lst a.2):=fun a ha=>g.s _ _ (di nd a ha)
 exact ⟨_,l0 I1 nd hL,q b _ (ki aM fp) rd (BN nd hz g)⟩
theorem pO {R:Sl→Prop} (h:dw c e ρ fun r=>∃ ds,r=.ow ds∧R (.fo (.l ds))):dw c e ρ R:=fun σ H Hf Q S q aa s I=>by
 refine bC (h σ H Hf (fun v H'=>∃ ds aj,aX c.X.K (fun p=>H p=none) H' aj (.ow ds) v∧bq H Hf H' aj∧R (.fo (.l ds))) S (fun r v H' aj ⟨ds,e,hR⟩ rs g=>⟨ds,aj,by rw [← e]; exact rs,g,hR⟩) aa s I) fun u s1 hh=>z2 hh fun v H1 hh=>w3 hh fun I1 rv hh=>z2 hh fun ds aM hh=>w3 hh fun hh g hR=>z2 hh fun a xs hh=>w5 hh fun ev fa h1 h2 h3=>?_
 subst ev
 exact ⟨_,_,pN I1 h1,rv,q (.fo (.l ds)) _ _ aM hR ⟨[(a,xs)],by simp only [aN]; exact ⟨a,xs,rfl,ai,h2,h3,rfl⟩,by simp,fun b hb=>by obtain rfl:=Ol.mp hb; exact fa⟩ (oZ g fa h2)⟩
noncomputable def Sl.sh:Sl→Option Sh | .va d=>some (.v d) | .fo s=>some s | _=>none
theorem IX {H H' aj:Hp} (e:r.sh=some s) (h:aX K (fun p=>H p=none) H' aj r v):∃ fp,aN K H' aj s v fp∧(fp.map (·.1)).Nodup∧∀ a∈fp,H a.1=none:=by
 cases r with
 | va d=>cases e; exact ⟨[],by simp only [aN]; exact ⟨h,trivial⟩,by simp,by intro a ha; cases ha⟩
 | fo s=>cases e; exact h
 | _=>cases e
noncomputable def BP (c:Ctx P w K mg base k N sc bk) (es:List Expr) (ρ:List Sl) (R:List Sh→Prop):Prop :=
 ∀ (σ:L2.St) (H Hf:Hp) (Q:List V→Hp→Prop),bu c σ H Hf ρ→(∀ ss vs fp H' aj,R ss→aq c.X.K H' aj ss vs fp→(fp.map (·.1)).Nodup→(∀ a∈fp,H a.1=none)→bq H Hf H' aj→Q vs H')→bA c.X es σ H Q
theorem wW {R:List Sh→Prop} (h:R []):BP c [] ρ R:=fun σ H Hf Q S q=>nH dH (q [] [] [] H Hf h (by simp [aq]) List.nodup_nil (by intro a ha; cases ha) (.refl S.sb))
theorem dM {R:List Sh→Prop} (h:dw c e ρ fun r=>∃ s,r.sh=some s∧BP c es ρ fun ss=>R (s::ss)) (hs:∀ env,starEach (e::es) env=(false,eval e env)::starEach es env:=by intro _; walk_at "u"):BP c (e::es) ρ R:=fun σ H Hf Q S q =>
 nH (bN cU Ds (hs _)) (h σ H Hf _ S fun r v H1 aM ⟨s,es,h1⟩ rs g1=>by
  obtain ⟨f1,r1,n1,fr1⟩:=IX es rs
  have z1:=aN.fz s r1
  refine h1 σ H1 aM _ (S.cz g1) fun ss vs fp H2 cE h2 r2 n2 fr2 g2=>q (s::ss) (v::vs) (f1++fp) H2 cE h2 ?_ ?_ ?_ (g1.trans g2)
  ·simp only [aq]
   refine ⟨v,vs,f1,fp,rfl,aN.mv g2.f s (fun a _ e1 e2=>⟨g2.s _ _ e1,g2.n a.1 e2 (by rw [e1]; simp) (by intro ys z; rw [e1] at z; cases z)⟩) r1,r2,rfl⟩
  ·rw [OD,Qk]
   refine ⟨n1,n2,fun a ha b hb e=>?_⟩
   subst e
   obtain ⟨p,hp,rfl⟩:=cu ha
   obtain ⟨p',hp',e'⟩:=cu hb
   have:=(z1 p hp).1
   rw [← e',fr2 p' hp'] at this; cases this
  ·intro a ha
   rcases OA.mp ha with ha | ha
   ·exact fr1 a ha
   ·exact g1.s.free (fr2 a ha))
theorem aq.len:∀ {ss:List Sh} {xs:List V} {fp:Fp},aq K H Hf ss xs fp→ss.length=xs.length
 | [],_,_,h=>by simp only [aq] at h; rw [h.1]; rfl
 | s::ss,_,_,h=>by
  simp only [aq] at h
  obtain ⟨x,r,f1,f2,rfl,_,h2,_⟩:=h
  rw [OF,OF,aq.len h2]
theorem uD {R:Sl→Prop} (h:BP c es ρ fun ss=>Sd (ss.length≤sizeLine) (R (.fo (.t ss)))):dw c (.Tuple es j pos) ρ R:=fun σ H Hf Q S q =>
 bH (zL Ds) (h σ H Hf _ S fun ss vs fp H' aj ⟨hl,hR⟩ r nd fr g=>⟨by rw [← aq.len r]; exact hl,fun p hp=>by
  have g2:=bq.new g.b hp (o:=.tup vs)
  have hz:=aq.fz ss r
  refine q _ _ _ _ hR ⟨fp,?_,nd,fr⟩ (g.trans g2)
  simp only [aN]
  exact ⟨p,vs,rfl,.inl (.inl ai),aq.mv g2.f ss (fun a _ e1 e2=>⟨g2.s _ _ e1,g2.n a.1 e2 (by rw [e1]; simp) (by intro ys z; rw [e1] at z; cases z)⟩) r⟩⟩)
end
noncomputable def J0 (K:NZ) (ok:Sh→Prop):Sp:=fun vs H Q _=>∃ Hf s v fp,vs=[v]∧aD Hf H∧aN K H Hf s v fp∧(fp.map (·.1)).Nodup∧ok s∧∀ H' aj,bq (ki H fp) Hf H' aj→Q .non H'
structure Fb (P:Program) (w:World) (K:NZ) (mg:Str→Option Value) (base:Heap) (k:Nat) (x:Str) (ok:Sh→Prop):Prop where
 ex:∃ f fd ps,mg x=some (.ref f)∧PX K (.ref f)=true∧Binds K fd ps []∧bx P w K mg base (dP P w) k f fd ps (J0 K ok)
theorem pP:aD (ki H fp) H:=fun b o e=>by
 by_cases m:b∈fp.map (·.1)
 ·rw [kL m] at e; cases e
 ·rw [dD m] at e; exact e
theorem BQ (sb:aD Hf H):bq (ki H fp) Hf H Hf:=⟨pP,.refl _,sb,fun _ h _ _=>h⟩
theorem yG {K:NZ} (r:aN K H Hf s v fp) (nd:(fp.map (·.1)).Nodup) (sb:aD Hf H) (hN:1≤N.length) :
 cW K (ki H fp) Hf (L2.start N [v]) H Hf (.fo s::Of (N.length - 1) .un):=by
 have rest:∀ (i:Nat) (r':Sl),(Sl.fo s::Of (N.length - 1) Sl.un)[i]?=some r'→r'≠.un→i=0∧r'=.fo s:=fun i r' h hu=>by
  cases i with
  | zero=>exact ⟨rfl,by simpa using h.symm⟩
  | succ i=>exact absurd (R1 (Pe (by simpa using h))) hu
 refine ⟨BQ sb,by simp [L2.start],fun i r' h hu=>?_,fun i j r1 r2 p hne e1 e2 o1 o2=>?_⟩
 ·obtain ⟨rfl,rfl⟩:=rest i r' h hu
  exact ⟨v,by simp [L2.start],fp,r,nd,fun a ha=>kL (Oo.mpr ⟨a,ha,rfl⟩)⟩
 ·obtain ⟨_,rfl⟩:=rest i r1 e1 (by rintro rfl; cases o1)
  cases o1
section
variable {K:NZ} {c:Ctx P w K mg base k N sc bk}
theorem Ng {st:Stmt} (Fu:fL K x qual st f fd) (Sc:aG N ps (ah st)) (Vi:∀ x∈N,Loc (ah st) x) (h1:ps.length=1) (hN:1≤N.length)
 (body:∀ (c:Ctx P w K mg base k N (ah st) false),c.X.xe=(fun _ _=>False)→∀ s,ok s→aY c (az st) (.fo s::Of (N.length - 1) .un) (fun _=>True) { rt:=fun _=>False }) :
 bx P w K mg base (dP P w) (k+1) f fd ps (J0 K ok):=by
 obtain ⟨oc,od,kV,doc,pm,an,cdv,ct,osl,rfl,lk,hcd⟩:=Fu.ex
 refine zN lk hcd Sc (fun vs H Q E ⟨Hf,s,v,fp,e,_⟩=>by rw [e,h1]; rfl) fun A outer st' H vs Q E hr hh=>z4 hh fun Hf s v fp hh=>w6 hh fun e sb rf nd hok hq=>?_
 subst e
 let X:Cx:=(qt (dP P w) P w K mg base N qual (ah st) f cdv A outer st' H E).F0
 let c:Ctx P w K mg base k N (ah st) false :=
  { X:=X,eP:=rfl,ew:=rfl,eK:=rfl,emg:=rfl,eb:=rfl,eN:=rfl,esc:=rfl,calm:=rfl,top:=fun _=>⟨rfl,rfl,rfl⟩,cb:=fun _ _ _ _ _ I x c h=>I.ok.cab x c rfl h,fn:=fun _ _=>.inl rfl,B:=ki H fp,room:=hr,nd:=Sc.nd,vis:=Vi,Hf:=Hf,RX:=fun _ _=>False,
    exc:=fun _ _ _ _ _ _ _ _ _ _ _ _ h _ _=>h.elim,RM:=fun _ _=>False,mde:=fun _ _ _ _ _ _ _ _ _ _ _ _ h _=>h.elim }
 refine ⟨_,tu.F0 (t:=HG X (az st)) (qE (X:=X)),?_⟩
 exact body c rfl s hok (L2.start N [v]) H Hf _ (yG rf nd sb hN) ⟨fun σ H' aj ρ S _=>hq H' aj S.bas,fun r v H' aj g rv e=>e.elim,fun _ _ _ _ _ h=>h.elim,fun _ _ _ _ _ h=>h.elim⟩
theorem bR {α:Type} {l:List α} {a b:α} (h:(l.set i a)[j]?=some b):(j=i∧b=a)∨(j≠i∧l[j]?=some b):=by
 by_cases e:j=i
 ·subst e
  have hl:j<l.length:=by have:=(Oa.mp h).1; simpa using this
  rw [Pa hl] at h
  exact .inl ⟨rfl,(PF h).symm⟩
 ·rw [Pb (Ou e)] at h
  exact .inr ⟨e,h⟩
noncomputable def Sh.raw:Sh→Option D | .v d=>some d | .la a _=>some (.adr a) | _=>none
noncomputable def yH:List Sh→Option (List D)
 | []=>some []
 | s::ss=>match s.raw,yH ss with | some d,some ds=>some (d::ds) | _,_=>none
theorem aN.raw (e:s.raw=some d) (h:aN K H Hf s v fp):Rep K Hf d v:=by
 cases s with
 | v d'=>cases e; simp only [aN] at h; exact h.1
 | la a ds=>cases e; simp only [aN] at h; obtain ⟨xs,e,_⟩:=h; exact dY.mpr e
 | _=>cases e
theorem aq.raw:∀ {ss:List Sh} {vs:List V} {fp:Fp} {ds:List D},yH ss=some ds→aq K H Hf ss vs fp→au K Hf ds vs
 | [],_,_,_,e,h=>by cases e; simp only [aq] at h; exact aA.mpr h.1
 | s::ss,_,_,_,e,h=>by
  simp only [aq] at h
  obtain ⟨x,r,f1,f2,rfl,h1,h2,_⟩:=h
  unfold yH at e
  split at e
  ·rename_i d ds q1 q2
   cases e
   exact .cons (h1.raw q1) (aq.raw q2 h2)
  ·cases e
theorem IY (hN:At N i y) (hi:At ρ i (.fo (.t ss))) (hr:yH ss=some ds) (hR:R (.tup ds)) (hd:(y == ("__debug__":Str))=false:=by decide) (hcd:(y == ("__classdict__":Str))=false:=by decide):aF c (.Name y py) ρ R:=fun σ H Hf Q S q=>by
 obtain ⟨v,ev,fp,rf,nd,hfr⟩:=S.at_ i _ hi.get (by intro z; cases z)
 refine bH (c.kc hN hd hcd) ⟨v,ev,q (.tup ds) v H Hf hR ?_ (.refl S.sb)⟩
 simp only [aN] at rf
 obtain ⟨a,xs,e,h1,h2⟩:=rf
 exact aH.mpr ⟨a,xs,e,h1,aq.raw hr h2⟩
end
section
variable {K:NZ}
noncomputable def iH (L:List (Addr×List D)):List Sh:=L.map fun x=>.la x.1 x.2
theorem wX (q1:H q=some (pl q xs)) (q2:Hf q=none) (q3:au K Hf ds xs):aN K H Hf (.la q ds) (.ref q) [(q,xs)]:=by
 simp only [aN]
 exact ⟨xs,trivial,q1,q2,q3,rfl⟩
theorem aq.tag:∀ {dss:List (List D)} {vs:List V} {fp:Fp},aq K H Hf (dss.map .l) vs fp→∃ L:List (Addr×List D),L.map (·.2)=dss∧aq K H Hf (iH L) vs fp
 | [],_,_,h=>⟨[],rfl,h⟩
 | ds::dss,_,_,h=>by
  simp only [N5,aq] at h
  obtain ⟨x,r,f1,f2,rfl,h1,h2,rfl⟩:=h
  obtain ⟨L,e,h3⟩:=aq.tag h2
  simp only [aN] at h1
  obtain ⟨p,xs,rfl,q1,q2,q3,rfl⟩:=h1
  refine ⟨(p,ds)::L,by rw [N5,e],?_⟩
  show aq K H Hf (.la p ds::iH L) _ _
  simp only [aq]
  exact ⟨_,r,_,f2,rfl,wX q1 q2 q3,h3,rfl⟩
theorem cW.Nh (S:cW K H₀ dQ σ H Hf ρ) (h:ρ[i]?=some (.fo (.t (dss.map .l)))):∃ L:List (Addr×List D),L.map (·.2)=dss∧cW K H₀ dQ σ H Hf (ρ.set i (.fo (.t (iH L)))):=by
 obtain ⟨v,ev,fp,rf,nd,hfr⟩:=S.at_ i _ h (by intro z; cases z)
 simp only [aN] at rf
 obtain ⟨a,xs,e,h1,h2⟩:=rf
 obtain ⟨L,eL,h3⟩:=aq.tag h2
 refine ⟨L,eL,S.bas,by simp [S.len],fun j r hj hu=>?_,fun j j' r r' q hne h1 h2 o1 o2=>?_⟩
 ·rcases bR hj with ⟨rfl,rfl⟩ | ⟨_,hj⟩
  ·exact ⟨v,ev,fp,by simp only [aN]; exact ⟨a,xs,e,h1,h3⟩,nd,hfr⟩
  ·exact S.at_ j r hj hu
 ·have out:∀ {j:Nat} {r:Sl},(ρ.set i (.fo (.t (iH L))))[j]?=some r→r.owned=true→ρ[j]?=some r:=fun {j r} hj ho=>by
   rcases bR hj with ⟨_,rfl⟩ | ⟨_,hj⟩
   ·cases ho
   ·exact hj
  exact S.sep j j' r r' q hne (out h1 o1) (out h2 o2) o1 o2
theorem aq.Gx:∀ {pre post:List Sh} {vs:List V} {fp:Fp},aq K H Hf (pre++.la q ds::post) vs fp →
 ∃ (xs:List V) (f1 f2:Fp),fp=f1++(q,xs)::f2∧H q=some (pl q xs)∧Hf q=none∧au K Hf ds xs∧aq K H Hf (pre++.v (.adr q)::post) vs (f1++f2)
 | [],post,_,_,h=>by
  simp only [P1,aq] at h
  obtain ⟨x,r,f1,f2,rfl,h1,h2,rfl⟩:=h
  simp only [aN] at h1
  obtain ⟨xs,rfl,q1,q2,q3,rfl⟩:=h1
  refine ⟨xs,[],f2,rfl,q1,q2,q3,?_⟩
  simp only [P1,aq]
  exact ⟨_,r,[],f2,rfl,by simp only [aN]; exact ⟨dY.mpr rfl,trivial⟩,h2,rfl⟩
 | s::pre,post,_,_,h=>by
  simp only [Pq,aq] at h
  obtain ⟨x,r,f1,f2,rfl,h1,h2,rfl⟩:=h
  obtain ⟨xs,g1,g2,rfl,q1,q2,q3,q4⟩:=aq.Gx h2
  refine ⟨xs,f1++g1,g2,by rw [Om],q1,q2,q3,?_⟩
  simp only [Pq,aq]
  exact ⟨x,r,f1,g1++g2,rfl,h1,q4,by rw [Om]⟩
theorem aq.Gy (q1:H q=some (pl q xs)) (q2:Hf q=none) (q3:au K Hf ds xs):∀ {pre post:List Sh} {vs:List V} {fp:Fp},aq K H Hf (pre++.v (.adr q)::post) vs fp →
 ∃ (f1 f2:Fp),fp=f1++f2∧aq K H Hf (pre++.la q ds::post) vs (f1++(q,xs)::f2)
 | [],post,_,_,h=>by
  simp only [P1,aq] at h
  obtain ⟨x,r,f1,f2,rfl,h1,h2,rfl⟩:=h
  simp only [aN] at h1
  obtain ⟨h1,rfl⟩:=h1
  rw [dY] at h1
  subst h1
  refine ⟨[],f2,rfl,?_⟩
  simp only [P1,aq]
  exact ⟨_,r,[(q,xs)],f2,rfl,wX q1 q2 q3,h2,rfl⟩
 | s::pre,post,_,_,h=>by
  simp only [Pq,aq] at h
  obtain ⟨x,r,f1,f2,rfl,h1,h2,rfl⟩:=h
  obtain ⟨g1,g2,rfl,q4⟩:=aq.Gy q1 q2 q3 h2
  refine ⟨f1++g1,g2,by rw [Om],?_⟩
  simp only [Pq,aq]
  exact ⟨x,r,f1,g1++(q,xs)::g2,rfl,h1,q4,by rw [Om]⟩
theorem cW.Gz (S:cW K H₀ dQ σ H Hf ρ) (h1:kj ρ i s) (hk:k<ρ.length) (hik:k≠i) (fq:H₀ q=none) (tD:Hf q=none) (hq:∀ (j:Nat) (r:Sl),j≠i→j≠k→ρ[j]?=some r→r.owned=true→σ[j]?≠some (some (.ref q)))
 (v1:r1≠.un→∃ v,σ[i]?=some (some v)∧aX K (fun p=>H₀ p=none) (L2.upd H q o) Hf r1 v) (v2:r2≠.un→∃ v,σ[k]?=some (some v)∧aX K (fun p=>H₀ p=none) (L2.upd H q o) Hf r2 v) (n1:r1.owned=false) (n2:r2.owned=true→σ[k]?=some (some (.ref q))) :
 cW K H₀ dQ σ (L2.upd H q o) Hf ((ρ.set i r1).set k r2):=by
 obtain ⟨hi,ho⟩:=h1.at_
 have get:∀ {j:Nat} {r:Sl},((ρ.set i r1).set k r2)[j]?=some r→(j=k∧r=r2)∨(j≠k∧j=i∧r=r1)∨(j≠k∧j≠i∧ρ[j]?=some r):=fun {j r} h=>by
  rcases bR h with ⟨a,b⟩ | ⟨a,h⟩
  ·exact .inl ⟨a,b⟩
  ·rcases bR h with ⟨b,c⟩ | ⟨b,h⟩
   ·exact .inr (.inl ⟨a,b,c⟩)
   ·exact .inr (.inr ⟨a,b,h⟩)
 refine ⟨⟨fun b u e=>by rw [L2.ak (aB e fq)]; exact S.bas.s b u e,S.bas.f,fun b u e=>by rw [L2.ak (aB e tD)]; exact S.bas.b b u e,S.bas.n⟩,by simp [S.len],fun j r hj hu=>?_,fun j j' r r' p hne e1 e2 o1 o2=>?_⟩
 ·rcases get hj with ⟨rfl,rfl⟩ | ⟨_,rfl,rfl⟩ | ⟨a,b,hj⟩
  ·exact v2 hu
  ·exact v1 hu
  ·obtain ⟨v,e1,e2⟩:=S.at_ j r hj hu
   exact ⟨v,e1,aX.mv (B:=fun z=>z=q) (.refl _) (fun z u hz e1 _ e3=>⟨by rw [L2.ak hz]; exact e1,e3⟩) (fun hf=>by rw [ho b hj] at hf; cases hf) (fun ow z ez e=>by subst e; subst ez; exact hq j r b a hj ow e1) e2⟩
 ·rcases get e1 with ⟨rfl,rfl⟩ | ⟨_,rfl,rfl⟩ | ⟨a,b,f1⟩
  ·intro s1 s2
   rw [n2 o1] at s1; cases s1
   rcases get e2 with ⟨rfl,rfl⟩ | ⟨_,rfl,rfl⟩ | ⟨a2,b2,f2⟩
   ·exact hne rfl
   ·rw [n1] at o2; cases o2
   ·exact hq j' r' b2 a2 f2 o2 s2
  ·rw [n1] at o1; cases o1
  ·rcases get e2 with ⟨rfl,rfl⟩ | ⟨_,rfl,rfl⟩ | ⟨a2,b2,f2⟩
   ·intro s1 s2
    rw [n2 o2] at s2; cases s2
    exact hq j r b a f1 o1 s1
   ·rw [n1] at o2; cases o2
   ·exact S.sep j j' r r' p hne f1 f2 o1 o2
end
section
variable {K:NZ} {st:Stmt}
theorem IZ (i) (hi:At ρ i (.fo (.t (dss.map .l)))) (h:∀ L:List (Addr×List D),L.map (·.2)=dss→fu c st (ρ.set i (.fo (.t (iH L)))) nx p):fu c st ρ nx p:=fun σ H Hf D S o=>by
 obtain ⟨L,e,S1⟩:=S.Nh hi.get
 exact h L e σ H Hf D S1 o
theorem BR (i j) (h1:kj ρ i (.t (pre++.la q ds::post))) (hj:At ρ j (.va (.adr q))) (h:aY c sts ((ρ.set i (.fo (.t (pre++.v (.adr q)::post)))).set j (.aw q ds)) nx p) (hij:j≠i):aY c sts ρ nx p:=fun σ H Hf D S o aa s I=>by
 obtain ⟨v,ev,fp,rf,nd,hfr⟩:=S.at_ i _ h1.at_.1 (by intro z; cases z)
 obtain ⟨vj,evj,rj⟩:=S.va hj.get
 rw [dY] at rj
 subst rj
 simp only [aN] at rf
 obtain ⟨a,vs,e,t1,t2⟩:=rf
 obtain ⟨xs,f1,f2,rfl,q1,q2,q3,q4⟩:=aq.Gx t2
 have fq:c.B q=none:=hfr (q,xs) (by simp)
 have nq:q∉(f1++f2).map (·.1):=fun m=>by
  rw [OD,N5,Qk,Pd] at nd
  rw [OD,OA] at m
  rcases m with m | m
  ·exact nd.2.2 q m q N9 rfl
  ·exact nd.2.1.1 m
 have I1:=BO I q1
 refine h σ _ Hf D (S.Gz h1 (Oa.mp hj.get).1 hij fq q2 (fun j' r a b hj' ow e=>?_) (fun _=>⟨v,ev,f1++f2,?_,?_,?_⟩) (fun _=>⟨_,evj,q,xs,rfl,⟨fq,rfl⟩,ai,q2,q3⟩) rfl fun _=>evj) o aa s I1
 ·obtain ⟨v',e',r'⟩:=S.at_ j' r hj' (by rintro rfl; cases ow)
  rw [e] at e'; cases e'
  obtain ⟨_,_,e2,_,_,_,nf⟩:=r'.qN ow
  cases e2
  exact nf ⟨xs,q1⟩
 ·simp only [aN]
  exact ⟨a,vs,e,t1,aq.mv (.refl _) _ (fun z hz e1 e2=>⟨by rw [ak fun e=>nq (by rw [← e]; exact Oo.mpr ⟨z,hz,rfl⟩)]; exact e1,e2⟩) q4⟩
 ·rw [OD] at nd ⊢
  exact nd.sublist (RJ.append (RJ.refl _) (by rw [N5]; exact List.sublist_cons_self _ _))
 ·intro z hz
  exact hfr z (by rcases OA.mp hz with h | h; exact PB _ h; exact OR _ (Ob _ h))
theorem BS (i j) (h1:kj ρ i (.t (pre++.v (.adr q)::post))) (hj:At ρ j (.aw q ds)) (h:aY c sts ((ρ.set i (.fo (.t (pre++.la q ds::post)))).set j .un) nx p) (hij:j≠i):aY c sts ρ nx p:=fun σ H Hf D S o aa s I=>by
 obtain ⟨v,ev,fp,rf,nd,hfr⟩:=S.at_ i _ h1.at_.1 (by intro z; cases z)
 obtain ⟨vj,evj,rj⟩:=S.at_ j _ hj.get (by intro z; cases z)
 obtain ⟨q',xs,rfl,⟨fq,rfl⟩,q1,q2,q3⟩:=rj
 have hz:=aN.fz _ rf
 simp only [aN] at rf
 obtain ⟨a,vs,e,t1,t2⟩:=rf
 have nq:q'∉fp.map (·.1):=fun m=>by
  obtain ⟨z,hm,rfl⟩:=cu m
  have:=(hz z hm).1
  rw [q1] at this; cases this
 have t3:=aq.mv (H':=upd H q' (pl q' xs)) (.refl _) _ (fun z hz e1 e2=>⟨by rw [ak fun e=>nq (by rw [← e]; exact Oo.mpr ⟨z,hz,rfl⟩)]; exact e1,e2⟩) t2
 obtain ⟨f1,f2,rfl,t4⟩:=aq.Gy ai q2 q3 t3
 have I1:=pN I q1
 refine h σ _ Hf D (S.Gz h1 (Oa.mp hj.get).1 hij fq q2 (fun j' r a b hj' ow e=>?_) (fun _=>⟨v,ev,f1++(q',xs)::f2,?_,?_,?_⟩) (fun z=>absurd rfl z) rfl fun z=>by cases z) o aa s I1
 ·exact S.sep j' j r _ q' b hj' hj.get ow rfl e evj
 ·simp only [aN]
  exact ⟨a,vs,e,t1,t4⟩
 ·rw [OD,N5]
  rw [OD] at nd nq
  rw [Qk] at nd ⊢
  rw [OA,not_or] at nq
  refine ⟨nd.1,Pd.mpr ⟨nq.2,nd.2.1⟩,fun a ha b hb e=>?_⟩
  rcases Og.mp hb with rfl | hb
  ·subst e; exact nq.1 ha
  ·exact nd.2.2 a ha b hb e
 ·intro z hz
  rcases OA.mp hz with h | h
  ·exact hfr z (PB _ h)
  ·rcases Og.mp h with rfl | h
   ·exact fq
   ·exact hfr z (OR _ h)
end
end EV
namespace EV
open PySem PySem.Spec PyProof.Rows L2
noncomputable def yI (t:aJ):aJ:=(t.1,-t.2)
theorem Fc (h:trim m=m) (hn:m≠[]):bU m (m.length - 1)≠0:=by
 rcases List.eq_nil_or_concat m with rfl | ⟨l,x,rfl⟩
 ·exact absurd rfl hn
 ·rw [List.concat_eq_append] at h ⊢
  intro z
  have e:bU (l++[x]) ((l++[x]).length - 1)=x:=by
   rw [dI (by simp)]; simp
  rw [e] at z; subst z
  rw [gU] at h
  have:=gx l
  rw [h,OH,R8] at this
  lia
theorem yJ (hl:trim l=l) (hm:trim m=m) (h:∀ i,bU l i=bU m i):l=m:=by
 have key:∀ {l m:List Int},trim m=m→(∀ i,bU l i=bU m i)→m.length≤l.length:=fun {l m} hm h=>by
  rcases Nat.lt_or_ge l.length m.length with z | z
  ·have hn:m≠[]:=by rintro rfl; simp at z
   have:=Fc hm hn
   rw [← h,cP (by lia)] at this
   exact absurd rfl this
  ·exact z
 have e:l.length=m.length:=Nat.le_antisymm (key hl fun i=>(h i).symm) (key hm h)
 refine Sz e fun i h1 h2=>?_
 have:=h i
 rwa [dI h1,dI h2] at this
theorem gC (h:∀ i,bU p i=bU q i):trim p=trim q:=yJ (cy p) (cy q) fun i=>by rw [eB,eB,h]
theorem yK (a b):trim (cA (trim a) (trim b))=trim (cA a b):=gC fun i=>by rw [bY,bY,eB,eB]
theorem uE (a b):trim (cA (trim a) b)=trim (cA a b):=gC fun i=>by rw [bY,bY,eB]
theorem uF (a b):trim (cA a (trim b))=trim (cA a b):=gC fun i=>by rw [bY,bY,eB]
theorem yL (a b):cA a b=cA b a:=by
 unfold cA; rw [Nat.max_comm]; exact P7 fun k _=>S6 _ _
theorem l5 (a):trim (cA [] a)=trim a:=gC fun i=>by rw [bY,cP (OO _),RK]
theorem uG (a b c):trim (cA (cA a b) c)=trim (cA a (cA b c)):=gC fun i=>by
 rw [bY,bY,bY,bY,Int.add_assoc]
noncomputable def ev (g:List Int→Int):List aJ→Int
 | []=>0
 | t::A=>t.2 * g (trim t.1)+ev g A
theorem aZ (g) (t) (A):ev g (t::A)=t.2 * g (trim t.1)+ev g A:=rfl
theorem bZ (g) (B):∀ A,ev g (A++B)=ev g A+ev g B
 | []=>by simp [ev]
 | t::A=>by rw [Pq,aZ,aZ,bZ g B A]; lia
theorem jR (g):∀ A:List aJ,ev g (A.map yI)= - ev g A
 | []=>rfl
 | t::A=>by
  rw [N5,aZ,aZ,jR g A]
  show -t.2 * g (trim t.1)+_=_
  rw [Int.neg_mul]; lia
theorem BU (g) (l):∀ B:List aJ,ev g (B.map (dJ l))=l.2 * ev (fun q=>g (trim (cA (trim l.1) q))) B
 | []=>by simp [ev]
 | r::B=>by
  rw [N5,aZ,aZ,BU g l B]
  show l.2 * r.2 * g (trim (cA l.1 r.1))+_=_
  rw [Int.mul_add,yK,RD]
theorem bQ (g) (B):∀ A:List aJ,ev g (aL A B)=ev (fun p=>ev (fun q=>g (trim (cA p q))) B) A
 | []=>rfl
 | l::A=>by
  show ev g (B.map (dJ l)++aL A B)=_
  rw [bZ,BU,bQ g B A]; rfl
theorem gD (e:∀ p,trim p=p→g p=h p):∀ A,ev g A=ev h A
 | []=>rfl
 | t::A=>by rw [aZ,aZ,e _ (cy _),gD e A]
theorem BV (g h):∀ A,ev (fun p=>g p+h p) A=ev g A+ev h A
 | []=>rfl
 | t::A=>by rw [aZ,aZ,aZ,BV g h A,Int.mul_add]; lia
theorem GA (c) (g):∀ A,ev (fun p=>c * g p) A=c * ev g A
 | []=>by simp [ev]
 | t::A=>by rw [aZ,aZ,GA c g A,Int.mul_add,Int.mul_left_comm]
theorem wY:∀ A,ev (fun _=>0) A=0
 | []=>rfl
 | t::A=>by rw [aZ,wY A]; simp
theorem wZ (f:List Int→List Int→Int) (B):∀ A,ev (fun p=>ev (fun q=>f p q) B) A=ev (fun q=>ev (fun p=>f p q) A) B
 | []=>by show 0=ev (fun _=>0) B; rw [wY]
 | t::A=>by
  show t.2 * ev (fun q=>f (trim t.1) q) B+ev _ A=ev (fun q=>t.2 * f (trim t.1) q+ev (fun p=>f p q) A) B
  rw [BV,GA,wZ f B A]
noncomputable def eqv (A B:List aJ):Prop:=∀ g,ev g A=ev g B
theorem eqv.rf (A):eqv A A:=fun _=>rfl
theorem eqv.app (h:eqv A A') (k:eqv B B'):eqv (A++B) (A'++B'):=fun g=>by rw [bZ,bZ,h g,k g]
theorem eqv.neg (h:eqv A B):eqv (A.map yI) (B.map yI):=fun g=>by rw [jR,jR,h g]
theorem eqv.prod (h:eqv A A') (k:eqv B B'):eqv (aL A B) (aL A' B'):=fun g=>by
 rw [bQ,bQ,h]; exact gD (fun p _=>k _) _
instance trmSetoid:Setoid (List aJ):=⟨eqv,⟨eqv.rf,fun h g=>(h g).symm,fun h k g=>(h g).trans (k g)⟩⟩
noncomputable def MP:Type:=Quotient trmSetoid
noncomputable def mp (A:List aJ):MP:=Quotient.mk trmSetoid A
theorem eE:mp A=mp B↔eqv A B:=⟨fun h=>Quotient.exact h,fun h=>SK h⟩
noncomputable def cT (n:Int):List aJ:=[([],n)]
theorem ko (g) (n):ev g (cT n)=n * g []:=by show n * g (trim [])+0=_; rw [S3]; rfl
noncomputable instance:Add MP:=⟨Quotient.lift₂ (fun A B=>mp (A++B)) fun _ _ _ _ h k=>SK (eqv.app h k)⟩
noncomputable instance:Mul MP:=⟨Quotient.lift₂ (fun A B=>mp (aL A B)) fun _ _ _ _ h k=>SK (eqv.prod h k)⟩
noncomputable instance:Neg MP:=⟨Quotient.lift (fun A=>mp (A.map yI)) fun _ _ h=>SK (eqv.neg h)⟩
noncomputable instance:Sub MP:=⟨fun a b=>a+ -b⟩
noncomputable instance:NatCast MP:=⟨fun n=>mp (cT n)⟩
noncomputable instance:IntCast MP:=⟨fun n=>mp (cT n)⟩
noncomputable instance (n:Nat):OfNat MP n:=⟨mp (cT n)⟩
noncomputable instance:SMul Nat MP:=⟨fun n a=>(n:MP) * a⟩
noncomputable instance:SMul Int MP:=⟨fun n a=>(n:MP) * a⟩
noncomputable def MP.pow (a:MP):Nat→MP
 | 0=>1
 | n+1=>MP.pow a n * a
noncomputable instance:HPow MP Nat MP:=⟨MP.pow⟩
theorem pQ (A B):mp (A++B)=mp A+mp B:=rfl
theorem uH (A B):mp (aL A B)=mp A * mp B:=rfl
theorem pR (n):mp (cT n)=(n:MP):=rfl
theorem qh {P:MP→Prop} (h:∀ A,P (mp A)) (a:MP):P a:=Quotient.inductionOn a h
theorem I0 (g) (A):ev g (aL (cT 1) A)=ev g A:=by
 rw [bQ,ko,Te]
 exact gD (fun p hp=>by rw [l5,hp]) _
theorem mulC:∀ a b:MP,a * b=b * a:=qh fun A=>qh fun B=>eE.mpr fun g=>by
 rw [bQ,bQ,wZ]
 exact gD (fun q _=>gD (fun p _=>by rw [yL]) _) _
theorem Lr:∀ a:MP,1 * a=a:=qh fun A=>eE.mpr fun g=>I0 g A
theorem Ni:∀ a b:MP,a+b=b+a:=qh fun A=>qh fun B=>eE.mpr fun g=>by rw [bZ,bZ,S6]
theorem GB:∀ a b c:MP,(a+b) * c=a * c+b * c:=qh fun A=>qh fun B=>qh fun C=>eE.mpr fun g=>by rw [bQ,bZ,bZ,bQ,bQ]
theorem GC:∀ a:MP,0 * a=0:=qh fun A=>eE.mpr fun g=>by
 rw [bQ,ko,ko]; show 0 * _=0 * _; rw [QI,QI]
noncomputable instance:Lean.Grind.CommRing MP where
 add_zero:=qh fun A=>eE.mpr fun g=>by rw [bZ,ko]; show _+0 * _=_; rw [QI,S3]
 add_comm:=Ni
 add_assoc:=qh fun A=>qh fun B=>qh fun C=>eE.mpr fun g=>by rw [bZ,bZ,bZ,bZ,Int.add_assoc]
 mul_assoc:=qh fun A=>qh fun B=>qh fun C=>eE.mpr fun g=>by
  rw [bQ,bQ,bQ]
  refine gD (fun p _=>?_) _
  rw [bQ]
  refine gD (fun q _=>gD (fun r _=>?_) _) _
  rw [uE,uF,uG]
 mul_one:=fun a=>by rw [mulC,Lr]
 one_mul:=Lr
 left_distrib:=fun a b c=>by rw [mulC,GB,mulC b,mulC c]
 right_distrib:=GB
 zero_mul:=GC
 mul_zero:=fun a=>by rw [mulC,GC]
 pow_zero:=fun _=>rfl
 pow_succ:=fun _ _=>rfl
 ofNat_succ:=fun n=>eE.mpr fun g=>by
  show ev g (cT ((n+1:Nat):Int))=ev g (cT (n:Int)++cT ((1:Nat):Int))
  rw [bZ,ko,ko,ko,Int.natCast_add,QL]
 ofNat_eq_natCast:=fun _=>rfl
 nsmul_eq_natCast_mul:=fun _ _=>rfl
 neg_add_cancel:=qh fun A=>eE.mpr fun g=>by
  rw [bZ,jR,ko]; show _=0 * _; rw [QI]; lia
 sub_eq_add_neg:=fun _ _=>rfl
 neg_zsmul:=fun i=>qh fun A=>eE.mpr fun g=>by
  show ev g (aL (cT (-i)) A)=ev g ((aL (cT i) A).map yI)
  rw [jR,bQ,bQ,ko,ko,Int.neg_mul]
 zsmul_natCast_eq_nsmul:=fun _ _=>rfl
 intCast_ofNat:=fun _=>rfl
 intCast_neg:=fun i=>eE.mpr fun g=>by
  show ev g (cT (-i))=ev g ((cT i).map yI)
  rw [jR,ko,ko,Int.neg_mul]
 mul_comm:=mulC
theorem BW {A:List aJ} {p q:List Int} {n:Int}:(bz (putD A p n) q).getD 0=if q=p then n else (bz A q).getD 0:=by
 unfold putD
 split
 ·rename_i h
  induction A with
  | nil=>simp [bz] at h
  | cons t A ih =>
   rw [N5]
   by_cases e:t.1=p
   ·rw [if_pos e]
    by_cases z:q=p
    ·rw [if_pos z,br (by rw [e,z])]; rfl
    ·rw [if_neg z,aU (by rw [e]; exact fun w=>z w.symm),aU (by rw [e]; exact fun w=>z w.symm)]
     clear ih h
     induction A with
     | nil=>rfl
     | cons u A ih =>
      rw [N5]
      by_cases w:u.1=q
      ·rw [if_neg (by rw [w]; exact z),br w,br w]
      ·rw [aU w,← ih,aU (by split <;> exact w)]
   ·rw [if_neg e]
    have h':(bz A p).isSome=true:=by rw [aU e] at h; exact h
    by_cases z:t.1=q
    ·rw [br z,br z,if_neg (by rw [← z]; exact e)]
    ·rw [aU z,aU z,ih h']
 ·rename_i h
  induction A with
  | nil =>
   rw [P1]
   by_cases z:q=p
   ·rw [if_pos z,br z.symm]; rfl
   ·rw [if_neg z,aU fun w=>z w.symm]
  | cons t A ih =>
   have h0:¬ t.1=p:=fun e=>h (by rw [br e]; rfl)
   rw [Pq]
   by_cases z:t.1=q
   ·rw [br z,br z,if_neg (by rw [← z]; exact h0)]
   ·rw [aU z,aU z,ih (by rw [aU h0] at h; exact h)]
noncomputable def cf (p:List Int) (A:List aJ):Int:=ev (fun q=>if q=p then 1 else 0) A
theorem BX (p):∀ ts:List aJ,(bz (aI ts) p).getD 0=cf p ts:=by
 intro ts
 suffices H:∀ (ts A:List aJ),(bz (ts.foldl fS A) p).getD 0=(bz A p).getD 0+cf p ts by
  have:=H ts []
  rw [show (bz ([]:List aJ) p).getD 0=0 from rfl,RK] at this
  exact this
 intro ts
 induction ts with
 | nil=>intro A; show _=_+0; rw [S3]; rfl
 | cons t ts ih =>
  intro A
  rw [Pr,ih]
  unfold fS
  rw [BW]
  show _=_+(t.2 * (if trim t.1=p then 1 else 0)+cf p ts)
  by_cases z:p=trim t.1
  ·rw [if_pos z,if_pos z.symm,z]; lia
  ·rw [if_neg z,if_neg fun w=>z w.symm]; lia
theorem BY:t∈nz (aI ts)↔trim t.1=t.1∧t.2≠0∧t.2=cf t.1 ts:=by
 have hk:=d9 ts
 constructor
 ·intro h
  unfold nz at h
  rw [Rw] at h
  refine ⟨?_,by simpa using h.2,?_⟩
  ·have bd:∃ n,∀ t∈ts,t.1.length≤n:=by
    clear h hk
    induction ts with
    | nil=>exact ⟨0,fun t h=>by cases h⟩
    | cons u ts ih =>
     obtain ⟨n,hn⟩:=ih
     refine ⟨max n u.1.length,fun t ht=>?_⟩
     rcases Og.mp ht with rfl | ht
     ·lia
     ·have:=hn t ht; lia
   obtain ⟨n,hn⟩:=bd
   exact (jk hn t h.1).1
  ·rw [← BX,pK hk h.1]; rfl
 ·rintro ⟨h1,h2,h3⟩
  unfold nz
  rw [Rw]
  refine ⟨?_,by simpa using h2⟩
  rw [← BX] at h3
  cases e:bz (aI ts) t.1 with
  | none=>rw [e] at h3; exact absurd h3 h2
  | some n =>
   rw [e] at h3
   have h3':t.2=n:=h3
   unfold bz at e
   obtain ⟨u,hu,e2⟩:=Oh.mp e
   have m:=List.mem_of_find?_eq_some hu
   have z:u.1=t.1:=by simpa using List.find?_some hu
   have:u=t:=Prod.ext z (by rw [e2,h3'])
   rw [← this]; exact m
theorem sj {L M:List aJ} (h1:L.Nodup) (h2:M.Nodup) (h:∀ t,t∈L↔t∈M):L.Perm M:=(List.perm_ext_iff_of_nodup h1 h2).mpr h
theorem BZ (h:eqv A B):bB A=bB B:=by
 have nA:=keys_nodup (wJ (d9 A))
 have nB:=keys_nodup (wJ (d9 B))
 have hp:(nz (aI A)).Perm (nz (aI B)):=sj nA nB fun t=>by rw [BY,BY]; unfold cf; rw [h]
 exact Bk nB ((bD _).trans hp) (gX nA)
theorem iI (h:mp A=mp B):bB A=bB B:=BZ (eE.mp h)
theorem Ja (g) (hp:trim p=p) (n) (hk:(A.map (·.1)).Nodup) (ht:∀ t∈A,trim t.1=t.1):ev g (putD A p n)=ev g A+(n - (bz A p).getD 0) * g p:=by
 unfold putD
 split
 ·rename_i h
  induction A with
  | nil=>simp [bz] at h
  | cons t A ih =>
   rw [N5]
   rw [N5,Pd] at hk
   by_cases e:t.1=p
   ·rw [if_pos e]
    have same:A.map (fun kv:aJ=>if kv.1=p then (kv.1,n) else kv)=A:=by
     refine (P7 fun u hu=>?_).trans (List.map_id A)
     rw [if_neg fun z=>hk.1 (by rw [e,← z]; exact Oo.mpr ⟨u,hu,rfl⟩)]; rfl
    rw [same,br e]
    rw [aZ,aZ]
    show n * g (trim t.1)+_=_+(n - t.2) * _
    rw [ht t N9,e,Int.sub_mul]; lia
   ·rw [if_neg e]
    rw [aZ,aZ,ih hk.2 (fun u hu=>ht u (Ob _ hu)) (by rw [aU e] at h; exact h),aU e]; lia
 ·rename_i h
  have e:bz A p=none:=by
   cases e:bz A p with
   | none=>rfl
   | some n=>rw [e] at h; exact absurd rfl h
  rw [bZ,e]
  show _+(n * g (trim p)+0)=_+(n - 0) * _
  rw [hp,Int.sub_zero,S3]
theorem w9 (ts):eqv (aI ts) ts:=by
 suffices H:∀ (ts A:List aJ),(A.map (·.1)).Nodup→(∀ t∈A,trim t.1=t.1)→eqv (ts.foldl fS A) (A++ts) from H ts [] (by simp) (by simp)
 intro ts
 induction ts with
 | nil=>intro A _ _ g; simp
 | cons t ts ih =>
  intro A hk ht g
  have ih':ev g (ts.foldl fS (fS A t))=ev g (fS A t++ts):=ih _ (rL _ _ hk) (fun u hu=>by
   rcases pG hu with e | e
   ·rw [e,cy]
   ·exact ht u e) g
  rw [Pr,ih',bZ,bZ]
  unfold fS
  rw [Ja g (cy _) _ hk ht]
  show _=_+(t.2 * g (trim t.1)+ev g ts)
  rw [Int.sub_mul,QL]; lia
theorem Fd (g) (h:A.Perm B):ev g A=ev g B:=by
 induction h with
 | nil=>rfl
 | cons x _ ih=>rw [aZ,aZ,ih]
 | swap x y l=>rw [aZ,aZ,aZ,aZ]; lia
 | trans _ _ a b=>rw [a,b]
theorem B0 (g):∀ A:List aJ,ev g (nz A)=ev g A
 | []=>rfl
 | t::A=>by
  unfold nz
  by_cases h:t.2=0
  ·rw [Rl (by simp [h])]
   show ev g (nz A)=t.2 * _+_
   rw [B0 g A,h,QI,RK]
  ·rw [Qw (by simp [h])]
   show _+ev g (nz A)=_
   rw [B0 g A]; rfl
theorem B3 (ts):eqv (bB ts) ts:=fun g=>by
 show ev g (fH (nz (aI ts)))=_
 rw [Fd g (bD _),B0,w9 ts g]
theorem Fe (A):mp (bB A)=mp A:=eE.mpr (B3 A)
theorem Jb (A):mp (aI A)=mp A:=eE.mpr (w9 A)
noncomputable def stp {α:Type} (xs:List α) (lo hi st:Option Int):List α:=(sliceRange (sliceBounds lo hi st xs.length).1 (sliceBounds lo hi st xs.length).2.1 (sliceBounds lo hi st xs.length).2.2).filterMap (xs[·]?)
theorem yM (h:Vals xs its):∀ ns:List Nat,Vals (ns.filterMap (xs[·]?)) (ns.filterMap (its[·]?)):=by
 intro ns
 induction ns with
 | nil=>exact .nil
 | cons n ns ih =>
  rw [Pp,Pp]
  by_cases z:n<xs.length
  ·obtain ⟨u,e,hu⟩:=h.get (Ov z)
   rw [Ov z,e]
   exact .cons hu ih
  ·rw [PR (by lia),PR (by rw [← h.length]; lia)]
   exact ih
theorem yN {K:NZ} (h:au K H ds xs):∀ ns:List Nat,au K H (ns.filterMap (ds[·]?)) (ns.filterMap (xs[·]?)):=by
 intro ns
 induction ns with
 | nil=>exact aA.mpr rfl
 | cons n ns ih =>
  rw [Pp,Pp]
  by_cases z:n<ds.length
  ·obtain ⟨u,e,hu⟩:=h.get (Ov z)
   rw [Ov z,e]
   exact aC.mpr ⟨_,_,rfl,hu,ih⟩
  ·rw [PR (by lia),PR (by rw [← h.length]; lia)]
   exact ih
section
end
section
variable {K:NZ}
end
end EV
namespace EV
open PySem PySem.Spec PySem.Calls PyProof.Rows L2
structure Drw (prog:Program) (w:World) (L:List Addr) (i:Addr) (N N':Heap→Prop) (x:Value):Prop where
 keep:∀ {b:Addr} {h h':Heap},b∈L→Qe b h h'→N h→N h'
 keep':∀ {b:Addr} {h h':Heap},b∈L→Qe b h h'→N' h→N' h'
 run:∀ {A:Around} {E Q:Value→Shared→Prop} {s:Shared},N s.heap→(∀ h',N' h'→Pj i s.heap h'→Q x { s with heap:=h' })→wpAny (model prog w) A (QW (.ref i)) Q E s
structure Dry (prog:Program) (w:World) (L:List Addr) (i:Addr) (N:Heap→Prop):Prop where
 keep:∀ {b:Addr} {h h':Heap},b∈L→Qe b h h'→N h→N h'
 run:∀ {A:Around} {E Q:Value→Shared→Prop} {s:Shared},A.handled=none→N s.heap→(∀ h' e,Qe i s.heap h'→(∃ o,h'.get? e=some o∧o.cls=.type "StopIteration")→E (.ref e) { s with heap:=h' })→wpAny (model prog w) A (QW (.ref i)) Q E s
structure NV (z TI TO i1 i2:Addr):Prop where
 a:TI≠z
 b:TO≠z
 c:i1≠z
 d:i2≠z
 e:TI≠TO
 f:TI≠i1
 g:TI≠i2
 h:TO≠i1
 i:TO≠i2
 j:i1≠i2
section
end
end EV
namespace EV
open PySem PySem.Spec PyProof.Rows L2
section
theorem Ff (nd:(fp.map (·.1)).Nodup) (hn:∀ a∈fp,aM a.1=none) (fr:∀ a∈fp,H a.1=none) (g:bq H Hf H1 aM):bq H Hf (fT yF fp H1) (fT yF fp aM):=by
 have o1:∀ {b:Addr} {o:HO},H b=some o→b∉fp.map (·.1):=fun e m=>by obtain ⟨p,hp,rfl⟩:=cu m; rw [fr p hp] at e; cases e
 refine ⟨fun b o e=>?_,fun b o e=>?_,fun b o e=>?_,fun b h1 h2 h3=>?_⟩
 ·rw [aR (o1 e)]; exact g.s b o e
 ·have e1:=g.f b o e
  rw [aR fun m=>by obtain ⟨p,hp,rfl⟩:=cu m; rw [hn p hp] at e1; cases e1]; exact e1
 ·by_cases m:b∈fp.map (·.1)
  ·obtain ⟨p,hp,rfl⟩:=cu m
   rw [di nd p hp] at e ⊢; exact e
  ·rw [aR m] at e ⊢; exact g.b b o e
 ·rw [aR fun m=>by obtain ⟨p,hp,rfl⟩:=cu m; exact h2 (fr p hp)]; exact g.n b h1 h2 h3
end
section
variable {K:NZ}
theorem Lu (h:dw c e ρ fun r=>∃ s,r=.fo s∧R s.d):aF c e ρ R:=fun σ H Hf Q S q aa s I=>by
 refine bC (h σ H Hf (fun v H'=>∃ (sh:Sh) (fp:Fp) (aj:Hp),aN c.X.K H' aj sh v fp∧(fp.map (·.1)).Nodup∧(∀ a∈fp,H a.1=none)∧bq H Hf H' aj∧R sh.d) S (fun r v H' aj ⟨sh,e,hR⟩ rs g=>by subst e; obtain ⟨fp,r1,r2,r3⟩:=rs; exact ⟨sh,fp,aj,r1,r2,r3,g,hR⟩) aa s I) fun u s1 hh=>z2 hh fun v H1 hh=>w3 hh fun I1 rv hh=>z3 hh fun sh fp aM hh=>w5 hh fun rf nd fr g hR=>?_
 have hz:=aN.fz sh rf
 exact ⟨v,_,jq I1 nd fun a ha=>(hz a ha).1,rv,q sh.d v _ (fT yF fp aM) hR (aN.rep (fun b o e=>by rw [aR fun m=>by obtain ⟨p,hp,rfl⟩:=cu m; rw [(hz p hp).2] at e; cases e]; exact e) sh (fun a ha=>di nd a ha) rf) (Ff nd (fun a ha=>(hz a ha).2) fr g)⟩
end
end EV
namespace EV
open PySem PySem.Spec PySem.Calls PyProof.Rows L2
structure ZS (K:NZ) where
 sq:Hp→Addr→List V→Prop
 it:Heap→Addr→Addr→Nat→Prop
 us:Heap→Addr→Array Value→Prop
 dm:List D→D
 cl:String
 rep:∀ {H:Hp} {ds:List D} {v:V},Rep K H (dm ds) v↔∃ a xs,v=.ref a∧sq H a xs∧au K H ds xs
 same:∀ {H H':Hp} {a:Addr} {xs:List V},aD H H'→sq H a xs→sq H' a xs
 ini:∀ {h:Heap} {i l:Addr},h.get? i=some { cls:=.type cl,data:=.fields #[.ref l,.int 0 0] }→it h i l 0
 get:∀ {X:Cx} {aa:List (Addr×Obj)} {σ:L2.St} {H:Hp} {s:Shared} {l:Addr} {xs:List V},X.K=K→Inv X aa σ H s→sq H l xs→∃ its,Vals xs its∧us s.heap l its.toArray
 inj:∀ {X:Cx} {aa:List (Addr×Obj)} {σ:L2.St} {H:Hp} {s:Shared} {l:Addr} {xs ys:List V},X.K=K→Inv X aa σ H s→sq H l xs→sq H l ys→xs=ys
 ito:∀ {h:Heap} {i l:Addr} {k:Nat},it h i l k→∃ o,h.get? i=some o∧∀ v,o.data≠.cell v
 itk:∀ {h h':Heap} {i l:Addr} {k:Nat},(∀ o,h.get? i=some o→h'.get? i=some o)→it h i l k→it h' i l k
 usk:∀ {h h':Heap} {l:Addr} {a:Array Value},(∀ o,h.get? l=some o→h'.get? l=some o)→us h l a→us h' l a
 uso:∀ {h:Heap} {l:Addr} {a:Array Value},us h l a→∃ o,h.get? l=some o
 run:∀ {prog:Program} {w:World} {i l:Addr} {a:Array Value} {k:Nat} {x:Value} {A:Around} {E Q:Value→Shared→Prop} {s:Shared},l≠i→a[k]?=some x→it s.heap i l k→us s.heap l a→(∀ h',it h' i l (k+1)→Pj i s.heap h'→Q x { s with heap:=h' })→wpAny (model prog w) A (QW (.ref i)) Q E s
 dry:∀ {prog:Program} {w:World} {i l:Addr} {a:Array Value} {k:Nat} {A:Around} {E Q:Value→Shared→Prop} {s:Shared},A.handled=none→a[k]?=none→it s.heap i l k→us s.heap l a→(∀ h' e,Qe i s.heap h'→(∃ o,h'.get? e=some o∧o.cls=.type "StopIteration")→E (.ref e) { s with heap:=h' })→wpAny (model prog w) A (QW (.ref i)) Q E s
section
variable {K:NZ}
end
section
variable (c d:String)
end
section
variable {K:NZ}
end
section
variable {K:NZ}
end
end EV
namespace EV
open PySem PySem.Spec PyProof.Rows L2
theorem Fg {K:NZ} {st:Stmt} (m:mg x=some (.ref f)) (Fu:fL K x x st f fd) (h:bx P w K mg base (dP P w) k f fd ps (J0 K ok))
 (hb:∀ (kV doc pm:Value) (an:Option Addr) (cdv ct:Value) (us:List Value),us.length=ps.length→bindArgs (P4 x x (eO st) (az st) (ah st) .none kV doc pm an cdv ct) ⟨us,[]⟩=pure (ps.zip us)):Fb P w K mg base k x ok :=
 ⟨f,fd,ps,m,Fu.kp,Fu.binds hb,h⟩
end EV
namespace EV
open PySem PySem.Spec PySem.Calls PyProof.Rows L2
noncomputable abbrev gE (l:List Int):D:=.tup (l.map .int)
section
variable {X:Cx}
theorem kM (I:Inv X aa σ H s) (sb:aD Hf H) (h:kh X.K Hf (gE l) u):∃ b its,u=.ref b∧IsTup s.heap b its∧IntsAre its.toList l:=by
 obtain ⟨v,rv,q⟩:=h
 obtain ⟨b,ys,rfl,h3,h4⟩:=aH.mp q
 cases rv
 obtain ⟨its2,rel2,tu2,_⟩:=I.tuple (av sb h3)
 have e:=ji h4
 subst e
 exact ⟨b,its2.toArray,rfl,tu2,intsAre_of rel2⟩
theorem B4 (h:gE x=gE y):x=y:=by
 simp only [gE,D.tup.injEq] at h
 exact (List.map_inj_right (f:=D.int) (fun a b e=>by injection e)).mp h
theorem B5 (I:Inv X aa σ H s) (sb:aD Hf H) (h1:kh X.K Hf (gE x) u) (h2:kh X.K Hf (gE y) u):x=y:=by
 obtain ⟨v,r1,q1⟩:=h1
 obtain ⟨v',r2,q2⟩:=h2
 have:=r1.inj r2
 subst this
 exact B4 (oV I sb 1 _ _ _ (Bc x y) q1 q2)
theorem Fi (L):SR.Gr HT.lexLt L:=⟨fun _ _=>kJ _,fun _ _ _ _ _ _ h g=>um h g,fun _ _ _ _ h=>kK h⟩
noncomputable def B6 (L:List (List Int)):SortKind:=open Classical in if ∀ l∈L,l≠[] then tuples' true else if L.head?=some [] then oneType' else general'
theorem Fj (b) (h:Q (decide (m<n)) s):wpAny (model X.prog X.w) A (oneLt' b (.int m t) (.int n u)) Q E s:=by
 cases b with
 | true=>exact oneLt_int h
 | false =>
  rw [oneLt'_eq,if_neg Oe]
  exact NX (lt_int (N1 h))
theorem xg:∀ {vs ws:List Value} {x y:List Int} (i:Nat),IntsAre vs x→IntsAre ws y→x.length+n=y.length+m→Q (HT.lexLt x y) s→PySem.W.KatLex X.prog X.w A b (decide (m<n)) Q (vs.zip ws) i s
 | _,_,_,_,i,.nil,.nil,e,h=>PySem.W.kat_nil (by rw [HT.ig] at h; rw [decide_eq_false (by simp at e; lia)]; exact h)
 | _,_,_,_,i,.nil,.cons c u hw,e,h=>PySem.W.kat_nil (by rw [HT.gm] at h; rw [decide_eq_true (by simp at e; lia)]; exact h)
 | _,_,_,_,i,.cons a t hv,.nil,e,h=>PySem.W.kat_nil (by rw [HT.gn] at h; rw [decide_eq_false (by simp at e; lia)]; exact h)
 | _,_,_,_,i,.cons a t hv,.cons c u hw,e,h=>by
  rw [Sk]
  refine PySem.W.kat_cons (wpAny_eqBool_int ?_)
  rw [HT.cC] at h
  by_cases z:a=c
  ·rw [if_pos z] at h
   rw [show (a == c)=true by simpa using z]
   exact PySem.W.kat_yes (xg (i+1) hv hw (by simp at e; lia) h)
  ·rw [if_neg z] at h
   rw [show (a == c)=false by simpa using z]
   exact PySem.W.kat_no (Fj _ h)
theorem j7:∀ {l:List α} {m:List β} {i:Nat} {b:β},Paired F l m→m[i]?=some b→∃ a,l[i]?=some a∧F a b
 | _,_,_,_,.nil,e=>by simp at e
 | _,_,0,_,.cons r _,e=>by simp at e; subst e; exact ⟨_,rfl,r⟩
 | _,_,i+1,a,.cons _ t,e=>by
  obtain ⟨b,h1,h2⟩:=j7 (i:=i) t (by simpa using e)
  exact ⟨b,by simpa using h1,h2⟩
theorem B7 (I:Inv X aa σ H s) (sb:aD Hf H) (h:Paired (fun x u=>kh X.K Hf (gE x) u) L us) (h2:2≤us.length) (hQ:Q (B6 L) s):wpAny (model X.prog X.w) A (keyKind' us.toArray) Q E s:=by
 have key:∃ fs:List (Option Value),Paired (fun (l:List Int) o=>(l=[]∧o=none)∨∃ n r t,l=n::r∧o=some (RO n t)) L fs∧Paired (fun u o=>∀ (Q:Option Value→Shared→Prop),Q o s→wpAny (model X.prog X.w) A (firstOfTuple' u) Q E s) us fs:=by
  clear h2 hQ
  induction h with
  | nil=>exact ⟨[],.nil,.nil⟩
  | @cons x u L us r t ih =>
   obtain ⟨fs,e1,e2⟩:=ih
   obtain ⟨a,its,rfl,⟨o,ho,hc,n,hd⟩,ia⟩:=kM I sb r
   refine ⟨its[0]?::fs,.cons ?_ e1,.cons (fun Q hQ=>?_) e2⟩
   ·rw [← OT]
    generalize its.toList=il at ia
    cases ia with
    | nil=>exact .inl ⟨rfl,rfl⟩
    | cons n t' _=>exact .inr ⟨n,_,t',rfl,rfl⟩
   ·show wpAny _ _ (do
     if (← typeOf (.ref a)) != .type "tuple" then return none
     return (← Rm (.ref a))[0]?) _ _ _
    refine NX (Qo (T:="tuple") ⟨o,ho,hc⟩ ?_)
    rw [if_neg (by simp)]
    exact NX (RG ho hd (N1 hQ))
 obtain ⟨fs,e1,e2⟩:=key
 rw [keyKind'_eq,List.mapM_toArray]
 simp only [bind_map_left]
 refine NX (iD _ _ e2 ?_)
 have typs:∀ {T:String} (vs:List Value) (Q:List Value→Shared→Prop),(∀ v∈vs,s.TypeIs v T)→Q (vs.map fun _=>.type T) s→wpAny (model X.prog X.w) A (vs.mapM typeOf) Q E s:=fun {T} vs Q ht hQ=>by
  refine iD _ _ ?_ hQ
  clear hQ
  induction vs with
  | nil=>exact .nil
  | cons f fs ih=>exact .cons (fun Q hQ=>Qo (ht f N9) hQ) (ih fun g hg=>ht g (Ob _ hg))
 have el:L.length=us.length:=Pk h
 have ef:L.length=fs.length:=Pk e1
 have oneT:∀ {T:String} (vs:List Value) (Q:Option Value→Shared→Prop),vs≠[]→(∀ v∈vs,s.TypeIs v T)→Q (some (.type T)) s→wpAny (model X.prog X.w) A (oneTypeOnly' vs.toArray) Q E s:=fun {T} vs Q hne ht hQ=>by
  rw [oneTypeOnly'_eq,List.mapM_toArray]
  simp only [bind_map_left]
  refine NX (typs (T:=T) vs _ ht ?_)
  obtain ⟨f,r,rfl⟩:=List.exists_cons_of_ne_nil hne
  have h0:(List.map (fun _=>Pg T) (f::r)).toArray[0]?=some (Pg T):=by simp
  rw [h0]
  dsimp only
  rw [if_pos (by simp)]
  exact N1 hQ
 unfold B6 at hQ
 by_cases hall:∀ l∈L,l≠[]
 ·rw [if_pos hall] at hQ
  have e3:∃ gs:List Value,fs=gs.map some∧∀ g∈gs,s.TypeIs g "int":=by
   clear h h2 hQ e2 el ef oneT typs
   induction e1 with
   | nil=>exact ⟨[],rfl,by simp⟩
   | @cons x o L fs r t ih =>
    obtain ⟨gs,q1,q2⟩:=ih fun l hl=>hall l (Ob _ hl)
    rcases r with ⟨z,_⟩ | ⟨n,r',t',_,rfl⟩
    ·exact absurd z (hall x N9)
    ·exact ⟨.int n t'::gs,by rw [q1]; rfl,fun g hg=>by
      rcases Og.mp hg with rfl | hg
      ·exact Rf s n t'
      ·exact q2 g hg⟩
  obtain ⟨gs,rfl,q2⟩:=e3
  rw [if_pos (by simp)]
  refine NX (Po ?_)
  have e4:(gs.map some).toArray.filterMap id=gs.toArray:=by simp
  rw [e4]
  refine NX (oneT (T:="int") gs _ (fun z=>by subst z; rw [el,QG,PV] at ef; lia) q2 (N1 ?_))
  have e6:(some (Pg "int")).any (fun x=>x != Pg "tuple")=true:=by decide
  rw [e6]
  exact hQ
 ·rw [if_neg hall] at hQ
  have hno:¬ (fs.toArray.all fun x=>x.isSome)=true:=fun z=>hall fun l hl hl0=>by
   obtain ⟨i,hi,ei⟩:=List.mem_iff_getElem.mp hl
   obtain ⟨o,ho,r⟩:=c8 e1 (Ov hi)
   rw [ei] at r
   have zo:o.isSome=true:=by
    rw [List.all_toArray,List.all_eq_true] at z
    exact z o (Pe ho)
   rcases r with ⟨_,rfl⟩ | ⟨n,r',t',e,_⟩
   ·cases zo
   ·rw [hl0] at e; cases e
  rw [if_neg hno]
  cases e1 with
  | nil=>rw [PV] at el; lia
  | @cons x o L fs r t =>
   have e0:((o::fs).toArray[0]?.bind id)=o:=by simp
   rw [e0]
   rcases r with ⟨rfl,rfl⟩ | ⟨n,r',t',rfl,rfl⟩
   ·rw [if_pos (by simp)] at hQ
    rw [if_neg (by simp)]
    refine NX (oneT (T:="tuple") us _ (fun z=>by subst z; simp at h2) (fun v hv=>?_) (N1 hQ))
    obtain ⟨i,hi,ei⟩:=List.mem_iff_getElem.mp hv
    obtain ⟨l,_,r⟩:=j7 h (Ov hi)
    rw [ei] at r
    obtain ⟨a,its,rfl,⟨o,ho,hc,n,hd⟩,ia⟩:=kM I sb r
    exact ⟨o,ho,hc⟩
   ·rw [if_neg (by simp)] at hQ
    rw [if_pos (by simp)]
    exact N1 hQ
theorem Jc (I:Inv X aa σ H s) (sb:aD Hf H) (hA:A.units+10<cLine) (hx:kh X.K Hf (gE x) u) (hy:kh X.K Hf (gE y) v) (hQ:Q (HT.lexLt x y) s):wpAny (model X.prog X.w) A (keyLt' (B6 L) u v) Q E s:=by
 obtain ⟨a,its,rfl,ta,ia⟩:=kM I sb hx
 obtain ⟨b,its2,rfl,tb,ib⟩:=kM I sb hy
 have hu:A.units<cLine:=by lia
 have gen:wpAny (model X.prog X.w) A (oneLt' false (.ref a) (.ref b)) Q E s:=PySem.W.kat_one _ _ (HT.tN ta tb ia ib hu hQ)
 obtain ⟨⟨cls,dd,data,sl⟩,ho,hc,n,hd⟩:=id ta
 obtain ⟨⟨cls2,dd2,data2,sl2⟩,ho2,hc2,n2,hd2⟩:=id tb
 simp only at hc hd hc2 hd2
 subst hc hd hc2 hd2
 unfold B6
 split
 ·exact PySem.W.kat_lt ho rfl ho2 rfl (xg (m:=its.size) (n:=its2.size) 0 ia ib (by have:=ia.length; have:=ib.length; simp only [OU] at *; lia) hQ)
 ·split
  ·rw [keyLt'_oneType,oneLt'_eq]
   simp only [if_true]
   refine NX (wpAny_cRoomFor hu ?_)
   refine NX (wpAny_callSpecialIfBound?_slot ⟨_,ho,rfl⟩ TJ (Rg TJ ⟨_,ho,rfl⟩ PySem.F.entry_tuple_lt (PySem.F.args_tuple_lt_2 _ _) (HT.ir a b its its2 n n2 dd dd2 sl sl2 x y ia ib) ⟨ho,ho2,?_⟩))
   exact Rq hQ
  ·exact gen
end
section
open PySem in
theorem B8 (hd:(d == sysModules)=false) (ho:s.heap.get? d=some o) (hx:o.ExactDict) (hdat:o.data=.dict es ep)
 (hQ:Q (.ref s.heap.objs.size) { s with heap:=s.heap.push { cls:=.type "dict_keyiterator",data:=.fields #[.ref d,.int 0 0,.int es.size 0,.int ep 0] } }) :
 wpAny (model prog w) A (pyIter (.ref d)) Q E s:=by
 have hT:s.TypeIs (.ref d) "dict":=⟨o,ho,hx.1⟩
 refine T5 hT F.slot_dict_iter (PD F.slot_dict_iter hT F.entry_dict_iter ?_ (F.args_dict_iter_1 _))
 unfold Builtin.«dict.__iter__»
 refine NX ?_
 unfold Builtin.Dict.dictSlotNone
 refine NX (wpAny_notOrdered_dict hT ?_)
 show wpAny _ _ (pure (Ox d)) _ _ s
 refine N1 ?_
 show wpAny _ _ (R9 d >>= _) _ _ s
 unfold R9
 rw [if_neg (by rw [hd]; exact Oe)]
 refine NX (N1 ?_)
 refine NX (Q6 ho hdat ?_)
 refine NX (Q8 ho hdat ?_)
 refine NX (O6 (N1 ⟨_,rfl,"dict_keyiterator",_,⟨_,Oj _ rfl,rfl⟩,Rj.lookup,?_⟩))
 simpa [rawInt] using hQ
theorem B9 (hit:s.heap.IsKeyIter it d i es.size ep)
 (hod:s.heap.get? d=some od) (hdd:od.data=.dict es ep) (hx:es[i]?=some e)
 (hQ:∀ h',h'.IsKeyIter it d (i+1) es.size ep→Pj it s.heap h'→Q (some e.key) { s with heap:=h' }) :
 wpAny (model prog w) A (pyNext (.ref it)) Q E s:=by
 obtain ⟨o,ho,hc,hd⟩:=id hit
 unfold pyNext
 refine NX (Qn (Qg (name:=NY "__next__") hit.typeIs Rj
  (PD Rj hit.typeIs Ux ?_ (Uu _))))
 refine NX (N1 ?_)
 refine NX ?_
 refine NX ?_
 first | refine NX (RS hit.typeIs (N1 ?_)) | refine NX (RZ hit.typeIs (N1 ?_))
 refine NX (SI ho hd ?_)
 have hown:Tj "dict_keyiterator"=false:=by decide
 simp only [hown,OV,if_false]
 show wpAny _ _ (if (Ox d == O4)=true then _ else _) _ _ s
 rw [if_neg (show ¬ ((Ox d == O4)=true) from Oe)]
 refine NX (N1 ?_)
 refine NX (Q6 hod hdd ?_)
 rw [if_neg (by simp)]
 refine NX (N1 ?_)
 refine NX (Q8 hod hdd ?_)
 rw [if_neg (by simp)]
 refine N1 ?_
 simp only [show ¬ ((i:Int)<0) from by omega,if_false,OW,hx]
 refine NX ?_
 first | refine NX (RS hit.typeIs (N1 ?_)) | refine NX (RZ hit.typeIs (N1 ?_))
 refine NX (wpAny_isOneOf_keyiter hit.typeIs ?_)
 show wpAny _ _ (setField (.ref it) 1 (rawInt ((i:Int)+1)) >>= _) _ _ s
 refine NX (Rz ho hd (by simp) ?_)
 have hit':(s.heap.update it (Obj.mapFields (·.setIfInBounds 1 (rawInt ((i:Int)+1))))).IsKeyIter it d (i+1) es.size ep :=
  ⟨_,Heap.get?_update_self _ ho (Obj.isFreed_of_fields (Sj hd _)),(Obj.cls_mapFields ..).trans hc,by rw [Sj hd]; simp [rawInt]⟩
 refine NX (OS ?_)
 refine NX (wpAny_isOneOf_keyiter (s:={ s with heap:=s.heap.update it (Obj.mapFields (·.setIfInBounds 1 (rawInt ((i:Int)+1)))) }) hit'.typeIs ?_)
 show wpAny _ _ (pure e.key) _ _ _
 exact N1 (N1 ⟨_,rfl,N1 (hQ _ hit' (Rp ..))⟩)
theorem Fl (hh:A.handled=none) (hit:s.heap.IsKeyIter it d i es.size ep)
 (hod:s.heap.get? d=some od) (hdd:od.data=.dict es ep) (hge:es.size≤i)
 (hQ:∀ h',Qe it s.heap h'→Q none { s with heap:=h' }):wpAny (model prog w) A (pyNext (.ref it)) Q E s:=by
 obtain ⟨o,ho,hc,hd⟩:=id hit
 unfold pyNext
 refine NX (Qn (Qg (name:=NY "__next__") hit.typeIs Rj
  (PD Rj hit.typeIs Ux ?_ (Uu _))))
 refine NX (N1 ?_)
 refine NX ?_
 refine NX ?_
 first | refine NX (RS hit.typeIs (N1 ?_)) | refine NX (RZ hit.typeIs (N1 ?_))
 refine NX (SI ho hd ?_)
 have hown:Tj "dict_keyiterator"=false:=by decide
 simp only [hown,OV,if_false]
 show wpAny _ _ (if (Ox d == O4)=true then _ else _) _ _ s
 rw [if_neg (show ¬ ((Ox d == O4)=true) from Oe)]
 refine NX (N1 ?_)
 refine NX (Q6 hod hdd ?_)
 rw [if_neg (by simp)]
 refine NX (N1 ?_)
 refine NX (Q8 hod hdd ?_)
 rw [if_neg (by simp)]
 refine N1 ?_
 simp only [show ¬ ((i:Int)<0) from by omega,if_false,OW,Array.getElem?_eq_none hge]
 refine NX ?_
 first | refine NX (RS hit.typeIs (N1 ?_)) | refine NX (RZ hit.typeIs (N1 ?_))
 show wpAny _ _ (setField (.ref it) 0 .none >>= _) _ _ s
 refine NX (Rz ho hd (by simp) ?_)
 show wpAny _ _ (newExc (.type "StopIteration") [] >>= _) _ _ _
 refine NX ?_
 simp only [newExc,newTuple]
 refine NX (O6 ?_ (by size_fits))
 refine NX (m:=firstArgMember _ _) (wpAny_of_eq (a:=O4) (by first | rfl | (simp only [firstArgMember]; rfl)) ?_)
 refine O6 ?_ (by size_fits)
 simp only [raiseNew]
 refine NX (wpAny_handled ?_)
 rw [show A.in1.handled=none from hh]
 refine NX (N1 (wpAny_throw ?_))
 refine NX (Sw (T:="StopIteration") (b:=true) ⟨_,Oj _ rfl,rfl⟩ isSubtype_stop ?_)
 exact N1 (hQ _ (((Rp ..).extBut.push _).push _))
end
section
variable {X:Cx} {aa:List (Addr×Obj)} {σ:L2.St} {H Hf:Hp} {s:Shared} {E:Value→Shared→Prop} {α:Type} {enc:α→D} {lt:α→α→Bool} {κ:SortKind}
structure Lv (X:Cx) (enc:α→D) (lt:α→α→Bool) (κ:SortKind) (L:List α):Prop where
 lin:SR.Gr lt L
 inj:∀ (aa:List (Addr×Obj)) (σ:L2.St) (H Hf:Hp) (s:Shared),Inv X aa σ H s→aD Hf H→∀ x y u,kh X.K Hf (enc x) u→kh X.K Hf (enc y) u→x=y
 kind:∀ (aa:List (Addr×Obj)) (σ:L2.St) (H Hf:Hp) (s:Shared) (A:Around) (E:Value→Shared→Prop),Inv X aa σ H s→aD Hf H→∀ us:List Value,Paired (fun x u=>kh X.K Hf (enc x) u) L us→2≤us.length→∀ Q:SortKind→Shared→Prop,Q κ s→wpAny (model X.prog X.w) A (keyKind' us.toArray) Q E s
 cmp:∀ (aa:List (Addr×Obj)) (σ:L2.St) (H Hf:Hp) (s:Shared) (A:Around) (E:Value→Shared→Prop),Inv X aa σ H s→aD Hf H→A.units+10<cLine→∀ (x y:α) (u v:Value),kh X.K Hf (enc x) u→kh X.K Hf (enc y) v→∀ Q:Bool→Shared→Prop,Q (lt x y) s→wpAny (model X.prog X.w) A (keyLt' κ u v) Q E s
theorem Fo (L):Lv X gE HT.lexLt (B6 L) L :=
 ⟨Fi L,fun _ _ _ _ _ I sb _ _ _ h1 h2=>B5 I sb h1 h2,fun _ _ _ _ _ _ _ I sb _ p h2 _ hQ=>B7 I sb p h2 hQ,fun _ _ _ _ _ _ _ I sb hA _ _ _ _ hx hy _ hQ=>Jc I sb hA hx hy hQ⟩
theorem yO {Q:Value→Shared→Prop} (hs:Lv X enc lt κ L) (I:Inv X aa σ H s) (sb:aD Hf H) (hA:A.units+20<cLine) (hr:au X.K Hf (L.map enc) xs) (hv:Vals xs us) (hz:us.length≤sizeLine) (nd:L.Nodup)
 (hkw:∀ l,Builtin.«list.sort» ⟨[.ref l],kw⟩=Builtin.«list.sort» ⟨[.ref l],[(NY "reverse",.bool b)]⟩) (hka:∀ l,argsOk "list.sort" ⟨[.ref l],kw⟩)
 (hQ:∀ (L':List α) (xs':List V) (s':Shared),L'.Perm L→fR lt b L'→au X.K Hf (L'.map enc) xs'→xs'.length≤sizeLine→Inv X aa σ (upd H s.heap.objs.size (.lst xs')) s'→Q (.ref s.heap.objs.size) s') :
 wpAny (model X.prog X.w) A (newList us >>= fun l=>(holding [l] (call (.builtin "list.sort") [l] kw) >>= fun _=>ret l)) (fun fin s'=>∃ v,fin=.done (.ret v)∧Q v s') E s:=by
 refine NX (RB ?_ hz)
 have ha:(s.heap.push (seqObj "list" us.toArray 0)).get? s.heap.objs.size=some (seqObj "list" us.toArray 0):=Oj _ rfl
 have I1:Inv X aa σ H { s with heap:=s.heap.push (seqObj "list" us.toArray 0),toks:=s.toks }:=I.kept fun b o e=>N7 _ e
 have Ha:H s.heap.objs.size=none:=I.hok.fresh (N3 _)
 obtain ⟨f0,f1,f2,f3,f4,f5⟩:=I.mG (H':=H) (N3 _) Ha
 have pL:=lQ hr hv
 refine NX (OS (TN slot_list_sort ⟨_,ha,rfl⟩ entry_list_sort (by
  rw [hkw]
  refine SR.nW (κ:=κ) (rk:=SR.yi (fun x u=>kh X.K Hf (enc x) u) lt L) (b:=b) ha ?_ hz fun out hp ho=>⟨_,rfl,?_⟩
  ·intro h' k
   have I2:=I1.turned (h':=h') (t':=s.toks) (it:=s.heap.objs.size) (fun b o hb e=>k b o hb e) f0 f1 f3 f4 f5
   refine ⟨fun Q E h2 hQ=>hs.kind _ _ _ _ _ _ _ I2 sb _ pL h2 _ hQ,SR.Ba (fun x y u h1 h2=>hs.inj _ _ _ _ _ I2 sb x y u h1 h2) hs.lin pL fun x _ y _ u v hx hy E Q hQ=>hs.cmp _ _ _ _ _ _ _ I2 sb ?_ _ _ _ _ hx hy _ hQ⟩
   show A.units+1+10<cLine
   lia
  ·obtain ⟨L',p1,p2,p3⟩:=SR.rK (S:=fun x u=>kh X.K Hf (enc x) u) (fun x y u h1 h2=>hs.inj _ _ _ _ _ I sb x y u h1 h2) hs.lin nd pL hp ho
   obtain ⟨xs',r',v'⟩:=lR p3
   obtain ⟨e,he⟩:=sortedHeap_at (vs:=us) (out:=out) ha
   have hl:out.toList.length=us.length:=hp.length_eq
   refine N1 ⟨_,rfl,hQ L' xs' _ p1 p2 r' ?_ ?_⟩
   ·have:=v'.length; lia
   ·refine I.laid (t':=s.toks) (fun b o q=>?_) (N3 _) ⟨by have:=v'.length; lia,out.toList,e,v',by simpa using he⟩
    have lt:=N8 q
    rw [sortedHeap_old (OB lt) (by rw [size_push']; exact So lt)]
    exact N7 _ q) (hka _)))
end
theorem mU:argsOk "sorted" ⟨[a],[]⟩:=by unfold argsOk; kernel_rfl
theorem args_list_sort_1:argsOk "list.sort" ⟨[a],[]⟩:=by unfold argsOk; kernel_rfl
noncomputable def Lw (d:Addr) (o:Obj) (u:HO):It :=
 ⟨fun i H=>H d=some (.frz o u)∧i<(bL u).length,fun i H x H'=>H'=H∧∃ y,(bL u)[i]?=some y∧x=y.1,fun i H=>H d=some (.frz o u)∧(bL u).length≤i⟩
theorem uI {P:Program} {w:World} {K:NZ} {tg:Expr} {d j:Addr} {o:Obj} {u:HO} {es:Array DictEntry} {ep:Nat} (hd:HO.dct u) (hod:o.data=.dict es ep) (hes:es.size=(bL u).length):Turn P w K tg (Lw d o u) [j] j (fun i h=>h.IsKeyIter j d i es.size ep) where
 mem:=Ol.mpr rfl
 obj:=fun i h ⟨q,e,_,hd⟩ b hb=>by
  obtain rfl:b=j:=Ol.mp hb
  exact ⟨_,e,fun v z=>by rw [hd] at z; cases z⟩
 keep:=fun i h h' ⟨q,e,r⟩ k=>⟨q,k j (Ol.mpr rfl) _ e,r⟩
 item:=by
  intro X hP hw hK hc i aa s σ H E I hf st hg
  subst hP hw hK
  obtain ⟨f0,f1,f2,f3,f4,f5⟩:=hf j (Ol.mpr rfl)
  obtain ⟨hH,hi⟩:=hg
  obtain ⟨ho,ok⟩:=(show bh X.prog X.w H s.heap d (.frz o u) from I.hok d _ hH)
  obtain ⟨_,es',ep',e1,e2,_⟩:=cH ok hd ho
  rw [hod] at e1; cases e1
  obtain ⟨e,he,re⟩:=c8 e2 (Ov hi)
  have he':es[i]?=some e:=by simpa using he
  refine B9 st ho hod he' fun h' hit' hs'=>?_
  have I1:Inv X aa σ H { s with heap:=h',toks:=s.toks }:=I.turned (fun b o hb e=>hs'.extBut b o hb e) f0 f1 f3 f4 f5
  obtain ⟨q,eq,qc,qd⟩:=id hit'
  exact ⟨_,rfl,ng (s:={ s with heap:=h',toks:=s.toks }) (n:="dict_keyiterator") eq qc qd (by decide) ⟨_,H,I1,re.1,⟨rfl,_,Ov hi,rfl⟩,hit',fun b hb=>(hf b hb).1⟩⟩
 done:=by
  intro X hP hw hK hc i aa s σ H E I hf st hg
  subst hP hw hK
  obtain ⟨f0,f1,f2,f3,f4,f5⟩:=hf j (Ol.mpr rfl)
  obtain ⟨hH,hi⟩:=hg
  obtain ⟨ho,ok⟩:=(show bh X.prog X.w H s.heap d (.frz o u) from I.hok d _ hH)
  exact Fl (I.ok.hd hc) st ho hod (by rw [hes]; exact hi) fun h' eb=>⟨rfl,I.turned (t':=s.toks) (fun b o hb e=>eb b o hb e) f0 f1 f3 f4 f5⟩
 self:=fun _ _ _ _ _ st h=>wpAny_pyIter_keyiter st h
theorem uJ {K:NZ} {Hf:Hp} {d:Addr} {o:Obj} {ys:List (List Key×Addr×V)} {ks:List (List Int)} (hH:Hf d=some (.frz o (.dT ys))) (hk:ys.map (·.1)=ks.map (·.map Oq)) (hs:∀ y∈ys,cV K Hf y.2.1 (y.1.map kV)):jF K (Lw d o (.dT ys)) (ks.map gE) Hf where
 go:=fun i x H aM s1 s2 e=>by
  rw [Oc,Oh] at e
  obtain ⟨n,hn,rfl⟩:=e
  have hq:=congrArg (fun l=>l[i]?) hk
  simp only [Oc,hn,Option.map_some] at hq
  obtain ⟨y,hy,ey⟩:=Oh.mp hq
  have hp:(bL (.dT ys))[i]?=some (.ref y.2.1,y.2.2):=by
   show (ys.map _)[i]?=_
   rw [Oc,hy]; rfl
  refine ⟨⟨s2 _ _ (s1 _ _ hH),(Oa.mp hp).1⟩,fun v H' ⟨e1,y',e2,e3⟩=>?_⟩
  rw [hp] at e2; cases e2
  subst e1 e3
  refine ⟨aM,.refl s2,aH.mpr ⟨y.2.1,y.1.map kV,rfl,av s1 (hs y (Pe hy)),?_⟩⟩
  rw [ey,Ow]
  exact jD n
 stop:=fun i H aM s1 s2 e=>⟨s2 _ _ (s1 _ _ hH),by
  have:=congrArg QJ hk
  show (ys.map _).length≤i
  simp only [N6] at this e ⊢
  lia⟩
section
theorem pS (hc:X.calm=true) (I:Inv X aa σ H s) (sb:aD Hf H) (hA:X.A.units+60<cLine) (hH:Hf d=some (.frz o (.dT ys))) (hk:ys.map (·.1)=ks.map (·.map Oq)) (hq:∀ y∈ys,cV X.K Hf y.2.1 (y.1.map kV)) (nd:ks.Nodup)
 (hQ:∀ (L':List (List Int)) (xs':List V) (s':Shared) (H' aj:Hp) (a:Addr),L'.Perm ks→fR HT.lexLt false L'→au X.K aj (L'.map gE) xs'→bq H Hf H' aj→H' a=none→Inv X aa σ (upd H' a (.lst xs')) s'→Q (.ref a) s') :
 wpAny (model X.prog X.w) X.A (call (.builtin "sorted") [.ref d]) Q E s:=by
 refine call_function_entry kind_sorted plain_sorted entry_sorted mU ?_
 unfold Builtin.«sorted»
 refine NX (m:=checkCount "sorted" 1 1 _) (N1 ?_)
 have h1:X.A.in1.handled=none:=I.ok.hd hc
 have h2:X.A.in1.frames=some X.stack:=I.ok.frames
 obtain ⟨ho,ok⟩:=(show bh X.prog X.w H s.heap d (.frz o (.dT ys)) from I.hok d _ (sb _ _ hH))
 obtain ⟨hx,es,ep,e1,e2,hs,hz⟩:=cH ok trivial ho
 have hsz:es.size=(bL (.dT ys)).length:=by rw [Pk e2]; simp
 have hn:(ks.map gE).length=(bL (.dT ys)).length:=by have:=congrArg QJ hk; show _=(ys.map _).length; simp only [N6] at this ⊢; lia
 have ty:∀ s':Shared,(∀ b o,s.heap.get? b=some o→s'.heap.get? b=some o)→s'.TypeIs (.ref d) "dict":=fun s' k=>⟨o,k _ _ ho,hx.1⟩
 refine NX (lP (X:=EO X X.A.in1) (H:=H) (Hf:=Hf) (ds:=ks.map gE) (T:="dict") hc h1 h2 (jM I (fun _=>h1) h2) sb (N8 ho) (by lia) (by decide) (fun s' k=>ty s' k) (fun A s' Q E q h=>oh q h) (fun A s1 H1 E I1 sb1 k1=>?_) fun us s' H' aj xs I' rv rr g hz'=>?_)
 ·refine B8 hs (k1 _ _ ho) hx e1 ?_
  refine ⟨_,_,_,rfl,N3 _,I1.kept (t':=s1.toks) fun b o e=>N7 _ e,uI (u:=.dT ys) trivial e1 hsz,⟨_,Oj _ rfl,rfl,rfl⟩,fun b hb=>?_,fun b o e=>N7 _ e,uJ hH hk hq⟩
  obtain rfl:b=s1.heap.objs.size:=Ol.mp hb
  exact I1.mG (N3 _) (I1.hok.fresh (N3 _))
 ·have I2:=gw I.ok I'
  have el:=rr.length
  have el2:=rv.length
  refine yO (b:=false) (Fo ks) I2 g.b ?_ rr rv (by lia) nd (fun _=>rfl) (fun _=>args_list_sort_1) fun L' xs' s2 p1 p2 p3 p4 I3=>hQ L' xs' s2 H' aj _ p1 p2 p3 g (I2.hok.fresh (N3 _)) I3
  show X.A.units+1+20<cLine
  lia
end
section
variable {K:NZ} {c:Ctx P w K mg base k N sc bk}
theorem Ca (hm:mg "sorted"=none) (h:aF c e ρ fun d=>∃ (ks:List (List Int)) (ds:List D),d=.fdT (ks.map (·.map Oq)) ds∧Sd ks.Nodup (∀ L':List (List Int),L'.Perm ks→fR HT.lexLt false L'→R (.ow (L'.map gE))))
 (hg:sc.names.lookup (NY "sorted")=some .globalImplicit:=by walk_at "u")
 (he:∀ env,starEach [e] env=(false,eval e env)::starEach [] env:=by intro _; walk_at "u")
 (hpl:∀ env,(backTo pos (starEach [] env)).any (·.1)=false:=by intro _; walk_at "u") :
 dw c (.Call (.Name "sorted" np) [e] [] pos) ρ R:=fun σ H Hf Q S q aa s I=>by
 have hgl:Gl c.X "sorted":=by unfold Gl ON; rw [c.esc]; exact hg
 refine PU (dG I hgl (by rw [c.emg]; exact hm) (show bootBuiltins "sorted"=some (.builtin "sorted") by decide +kernel) ?_ (by decide) (by decide))
 have hpa:=bN (X:=c.X) (e:=e) (es:=[]) cU dH (he _)
 refine Ti (bC (hpa pos aa s σ H (fun vs H1=>∃ x,vs=[x]∧∃ (ks:List (List Int)) (ds:List D) (aM:Hp),Rep c.X.K aM (.fdT (ks.map (·.map Oq)) ds) x∧ks.Nodup∧bq H Hf H1 aM∧∀ L':List (List Int),L'.Perm ks→fR HT.lexLt false L'→R (.ow (L'.map gE))) I ?_) fun us s1 hh=>z2 hh fun vs H1 hh=>w3 hh fun I1 r1 hh=>hh.elim fun x hh=>w2 hh fun ex hh=>z3 hh fun ks ds aM hh=>w4 hh fun e1 e7 e8 e9=>?_) (he _) (hpl _)
 ·exact h σ H Hf _ S fun d v H1 aM ⟨ks,ds,hp,⟨hn,hR⟩⟩ rv g=>⟨_,rfl,ks,ds,aM,by rw [← hp]; exact rv,hn,g,hR⟩
 ·subst ex
  obtain ⟨a0,ys,o,rfl,hs,hk,hq,hr⟩:=iX.mp e1
  have eu:us=[.ref a0]:=by
   cases r1 with
   | cons q1 q2=>cases q2; cases q1; rfl
  subst eu
  refine pS c.calm I1 e8.b ?_ hs hk hq e7 fun L' xs' s' H' aj a p1 p2 p3 g na I3=>?_
  ·have:=c.room.un
   lia
  ·have gg:=e8.trans g
   exact ⟨.ref a,_,I3,rfl,q (.ow (L'.map gE)) _ _ aj (e9 L' p1 p2) ⟨a,xs',rfl,gg.s.free na,ai,g.b.free na,p3⟩ (gg.trans (bq.gc g.b na))⟩
end
section
noncomputable def Lx:V→List V→Hp→VK→Prop:=fun x vs H Q=>∃ l xs y,x=.ref l∧vs=[.int 0,y]∧H l=some (.lst xs)∧xs.length<sizeLine∧Q .non (upd H l (.lst (y::xs)))
theorem Fq:Nz X "list.insert" Lx:=by
 intro aa s σ H x vs v us Q I rx rv h
 obtain ⟨l,xs,y,rfl,rfl,hH,hz,q⟩:=h
 cases rx
 cases rv with
 | cons r0 rv =>
  obtain ⟨t,rfl⟩:=r0
  obtain ⟨u,rfl,ru⟩:=Vals.one rv
  obtain ⟨z,its,n,r,hl,e⟩:=I.qv hH
  refine Rg F.slot_list_insert ⟨_,e,rfl⟩ F.entry_list_insert (F.args_list_insert_3 _ _ _) (PySem.AutoSeq1.list_insert_list_int_val_1 l its.toArray n 0 t u (by decide) (by rw [Ot]; lia)) ⟨e,?_⟩
  refine ⟨.non,_,I.tQ (its':=u::its) hH e (by simp) (.cons ru r) ?_,rfl,q⟩
  rw [OF]
  lia
end
section
variable {K:NZ} {c:Ctx P w K mg base k N sc bk}
theorem Jd (hN:At N i x) (hi:At ρ i r) (hr:r.getL=some ds) (h:aF c e ρ fun d=>Sd (ds.length<sizeLine) (Nx ρ i nx (r.putL (d::ds))))
 (hs:∀ env,swapsWith (.Call (.Attribute (.Name x px) "insert" ap) [.Constant (.int 0) j p0,e] [] cp) none pos.line env=pure false:=by intro _; walk_at "u") (hd:(x == ("__debug__":Str))=false:=by decide) (hcd:(x == ("__classdict__":Str))=false:=by decide)
 (hbase:∀ env,attributeBase (.Name x px) "insert" env (eval (.Name x px) env)=eval (.Name x px) env:=by intro _; walk_at "u")
 (hfew:∀ env,((backTo cp (starEach [.Constant (.int 0) j p0,e] env)).all (fun x=> !x.1) && (backToKw cp (keywordEach [] env)).all (fun x=>x.1.isSome)
   && decide (([.Constant (.int 0) j p0,e]:List Expr).length+([]:List Keyword).length+(if ([]:List Keyword).isEmpty then 0 else 1)<30))=true:=by intro _; walk_at "u")
 (hline:(ap.endLine == cp.line)=true:=by walk_at "u") (he0:∀ env,starEach [.Constant (.int 0) j p0,e] env=(false,eval (.Constant (.int 0) j p0) env)::starEach [e] env:=by intro _; walk_at "u") (he:∀ env,starEach [e] env=(false,eval e env)::starEach [] env:=by intro _; walk_at "u") (hpl:∀ env,(backTo cp (starEach [e] env)).any (·.1)=false:=by intro _; walk_at "u") :
 fu c (.Expr (.Call (.Attribute (.Name x px) "insert" ap) [.Constant (.int 0) j p0,e] [] cp) pos) ρ nx p:=fun σ H Hf D S o=>by
 obtain ⟨q,eq,rq⟩:=S.own hi.get (c6 hr)
 obtain ⟨xs,h1,h2,h3⟩:=Ib hr rq
 refine dZ (kE (F5 PySem.F.plainAttrs_list PySem.F.slot_list_insert PySem.F.type_list_insert Fq (c.kc hN hd hcd) (bN zA (bN cU dH (he _)) (he0 _)) (hbase _) (hfew _) hline (he0 _) (hpl _)) (hs _)) ⟨_,eq,.inl ⟨rfl,xs,.inl (.inl h1)⟩,?_⟩
 refine h σ H Hf _ S fun d v H' aj ⟨hz,ρ',hs',hn⟩ rd g=>?_
 have S':=S.cz g
 have e1:H' q=some (.lst xs):=g.s _ _ h1
 have e2:aj q=none:=g.n q h2 (by rw [h1]; simp) (by intro ys; rw [h1]; simp)
 refine ⟨q,xs,v,rfl,rfl,e1,by rw [← h3.length]; exact hz,?_⟩
 refine o.nx _ _ aj ρ' ?_ hn
 rw [hs'.eq]
 have rq':=rq.cz g
 exact S'.upd hi.get (c6 hr) eq (gQ g.b e2) (lg hr rq' ai e2 (.cons rd (h3.mono g.f))) (iy hr)
end
end EV
namespace EV
open PySem PySem.Spec PyProof.Rows L2
theorem xh {α:Type}:∀ ys:List α,(OQ ys.length).filterMap (ys[·]?)=ys
 | []=>rfl
 | y::ys=>by
  rw [OF,List.range_succ_eq_map,Pp]
  show y::_=_
  rw [TY]
  exact congrArg (y:: ·) (xh ys)
theorem su {α β:Type} {f g:α→Option β}:∀ {l:List α},(∀ x∈l,f x=g x)→l.filterMap f=l.filterMap g
 | [],_=>rfl
 | x::l,h=>by rw [Pp,Pp,h x N9,su fun y hy=>h y (Ob _ hy)]
theorem Cb {α:Type} (xs:List α):List.filterMap ((xs[·]?)∘fun i=>xs.length - 1 - i) (OQ xs.length)=xs.reverse:=by
 have h:=xh xs.reverse
 rw [TU] at h
 refine Eq.trans (su fun k hk=>?_) h
 exact (List.getElem?_reverse (SN.mp hk)).symm
theorem xj (xs:List α):stp xs none none (some (-1))=xs.reverse:=by
 unfold stp sliceBounds
 simp only [Option.getD_some,show ¬ ((-1:Int)>0) by decide,if_false]
 have e:sliceRange ((xs.length:Int) - 1) (-1) (-1)=(OQ xs.length).map fun i=>xs.length - 1 - i:=by
  unfold sliceRange
  simp only [show ¬ ((-1:Int)>0) by decide,if_false]
  have c:(if (xs.length:Int) - 1> -1 then ((xs.length:Int) - 1 - -1 - -1 - 1) / (- -1) else 0)=(xs.length:Int):=by
   split
   ·rw [show (- -1:Int)=1 by decide,Int.ediv_one]; omega
   ·omega
  rw [c,OW]
  refine P7 fun k hk=>?_
  have:=SN.mp hk
  omega
 rw [e,TY]
 exact Cb xs
noncomputable def Nj (X:Cx) (te:TE) (tl th ts:TO):TE:=fun σ H Q=>te σ H fun x H1=>tl σ H1 fun l H2=>th σ H2 fun u H3=>ts σ H3 fun t H4=>∃ a xs k,x=.ref a∧gh X.K H4 a xs∧l=none∧u=none∧t=some k∧k= -1∧∀ p,H4 p=none→Q (.ref p) (upd H4 p (.lst (stp xs l u (some k))))
section
variable {lo hi:Option Expr} {st:Expr}
theorem Je (he:PE X e te) (hl:PO X lo tl) (hu:PO X hi th) (ht:PO X (some st) ts):PE X (.Subscript e (.Slice lo hi (some st) p2) pos) (Nj X te tl th ts):=by
 intro aa s σ H Q I h
 refine Subscript_ (bC (he aa s σ H _ I h) fun v s1 ⟨x,H1,I1,r1,q1⟩=>?_)
 refine wpAny_Slice (bC (hl aa s1 σ H1 _ I1 q1) fun vl s2 ⟨l,H2,I2,pl,q2⟩=>bC (hu aa s2 σ H2 _ I2 q2) fun vu s3 ⟨u,H3,I3,pu,q3⟩=>bC (ht aa s3 σ H3 _ I3 q3) fun vt s4 ⟨t,H4,I4,pt,q4⟩=>?_)
 obtain ⟨a,xs,k,rfl,hx,rfl,rfl,rfl,rfl,q⟩:=q4
 have I5:Inv X aa σ H4 { s4 with heap:=s4.heap.push { cls:=.type "slice",data:=.fields #[vl,vu,vt] } }:=I4.kept (t':=s4.toks) fun b ob q=>N7 _ q
 cases r1
 obtain ⟨its,r,hi,hz⟩:=I5.list hx
 have hlen:=r.length
 show wpAny (model X.prog X.w) X.A (subscriptTail e (.Slice lo _ (some st) p2) (.ref a) (.ref s4.heap.objs.size)) (EP X aa σ Q) X.xe { s4 with heap:=s4.heap.push { cls:=.type "slice",data:=.fields #[vl,vu,vt] } }
 refine tail_any (ops:=[.ref a,.ref s4.heap.objs.size]) hi.isList.typeIs T6.lookup ?_ (by walk_at "u")
 refine wpAny_getItem_list_slice hi.isList (Heap.IsSliceOf.new ..) pl pu pt (by decide) ?_ (by rw [Ot] <;> lia)
 have I6:=I5
 generalize hS:({ s4 with heap:=s4.heap.push { cls:=.type "slice",data:=.fields #[vl,vu,vt] } }:Shared)=S at I6 ⊢
 have ep:slicePick its.toArray none none (some (-1))=(stp its none none (some (-1))).toArray:=by
  unfold slicePick stp
  simp only [Ot,List.getElem?_toArray]
 rw [ep]
 refine ⟨.ref S.heap.objs.size,_,I6.laid (t':=S.toks) (o:=.lst (stp xs none none (some (-1)))) (fun b ob q=>N7 _ q) (N3 _) ?_,rfl,q _ (I6.hok.fresh (N3 _))⟩
 exact ⟨by rw [xj,TU]; exact hz,_,0,by unfold stp; rw [hlen]; exact yM r _,Oj _ rfl⟩
end
section
variable {K:NZ}
theorem Ly {lo hi:Option Expr} {st:Expr} (h:aF c e ρ fun x=>Dt c lo ρ fun l=>Dt c hi ρ fun u=>Dt c (some st) ρ fun t=>l=none∧u=none∧t=some (-1)∧∃ ds,x=.lst ds∧R (.ow ds.reverse)):dw c (.Subscript e (.Slice lo hi (some st) p2) pos) ρ R:=fun σ H Hf Q S q =>
 bH (Je cU K5 K5 K5) (h σ H Hf _ S fun x v H1 aM h1 r1 g1=>h1 σ H1 aM _ (S.cz g1) fun l H2 cE h2 g2=>h2 σ H2 cE _ (S.cz (g1.trans g2)) fun u H3 Hf3 h3 g3=>h3 σ H3 Hf3 _ (S.cz ((g1.trans g2).trans g3)) fun t H4 Hf4 h4 g4=>by
  obtain ⟨rfl,rfl,rfl,ds,rfl,hR⟩:=h4
  have r3:=Rep.mono g4.f _ (Rep.mono g3.f _ (Rep.mono g2.f _ r1))
  have g:=((g1.trans g2).trans g3).trans g4
  rw [aV] at r3
  obtain ⟨a,xs,rfl,k1,k2⟩:=r3
  refine ⟨a,xs,-1,rfl,g4.b.seq k1,rfl,rfl,rfl,rfl,fun p hp=>?_⟩
  exact q _ _ _ _ hR ⟨p,_,rfl,g.s.free hp,ai,g4.b.free hp,by rw [← xj]; unfold stp; rw [k2.length]; exact yN k2 _⟩ (g.trans (bq.gc g4.b hp)))
end
end EV
namespace EV
open PySem PySem.Spec PySem.Calls PyProof.Rows L2
theorem Cc {K:NZ}:∀ {kvs:List (List Key×D)} {ys:List (List Key×Addr×V)},ys.map (·.1)=kvs.map (·.1)→(∀ y∈ys,cV K H y.2.1 (y.1.map kV))→au K H (kvs.map (·.2)) (ys.map (·.2.2))→kZ K H kvs ys
 | [],[],_,_,_=>.nil
 | [],y::ys,h,_,_=>by simp at h
 | x::kvs,[],h,_,_=>by simp at h
 | x::kvs,y::ys,h,hq,r=>by
  rw [N5,N5] at h r
  obtain ⟨v,t,e,r1,r2⟩:=aC.mp r
  injection e with e1 e2
  injection h with h1 h2
  subst e1 e2
  exact .cons ⟨h1.symm,by rw [← h1]; exact hq y N9,r1⟩ (Cc h2 (fun z hz=>hq z (Ob _ hz)) r2)
section
variable {K:NZ}
theorem Jf (h:aF c a ρ fun x=>aF c b ρ fun y=>∃ (kvs:List (List Key×D)) (ds:List D) (kk:List Key) (d:D),x=.fdT (kvs.map (·.1)) (kvs.map (·.2))∧y=.tup ds∧D.keys ds=some kk∧bz kvs kk=some d∧R d) (hs:DT b:=by with_unfolding_all exact fun _ _=>rfl):aF c (.Subscript a b pos) ρ R:=fun σ H Hf Q S q =>
 bH (vF c.hu cU cU hs) (h σ H Hf _ S fun x v H1 aM h1 r1 g1=>h1 σ H1 aM _ (S.cz g1) fun y u H2 cE ⟨kvs,ds,kk,d,e1,e0,e2,e3,hR⟩ r2 g2=>by
  subst e1 e0
  obtain ⟨p,ys,o,rfl,k1,k2,k4,k3⟩:=iX.mp r1
  have kv:=(Cc k2 k4 k3).mono g2.f
  have rel:=kv.val kk
  rw [e3] at rel
  obtain ⟨pb,xb,rfl,kb,rb⟩:=aH.mp r2
  rw [gR e2 rb] at kb
  cases z:atT ys kk with
  | none=>rw [z] at rel; exact rel.elim
  | some v =>
   rw [z] at rel
   exact ⟨p,v,rfl,.inr ⟨ys,kk,pb,.inr ⟨o,g2.b _ _ (g2.f _ _ k1)⟩,fun x hx=>av g2.b (av g2.f (k4 x hx)),rfl,av g2.b kb,z.symm⟩,q d v H2 cE hR rel (g1.trans g2)⟩)
end
structure NW (ρ:List Sl) (i:Nat) (s:Sh):Prop where
 hi:ρ[i]?=some (.fo s)
 ho:∀ {j:Nat} {r:Sl},j≠i→ρ[j]?=some r→r.F6=false∨∃ L0 L:List (Addr×List D),s=.t (iH L0)∧r=.fo (.t (iH L))∧∀ x∈L,∀ y∈L0,x.1≠y.1
section
variable {K:NZ}
theorem aq.addrs:∀ {L:List (Addr×List D)} {vs:List V} {fp:Fp},aq K H Hf (iH L) vs fp→fp.map (·.1)=L.map (·.1)
 | [],_,_,h=>by simp only [iH,QG,aq] at h; rw [h.2]; rfl
 | x::L,_,_,h=>by
  have h':aq K H Hf (.la x.1 x.2::iH L) _ _:=h
  simp only [aq] at h'
  obtain ⟨y,r,f1,f2,rfl,h1,h2,rfl⟩:=h'
  simp only [aN] at h1
  obtain ⟨xs,rfl,q1,q2,q3,rfl⟩:=h1
  rw [OD,aq.addrs h2]; rfl
theorem aN.addrs (h:aN K H Hf (.t (iH L)) v fp):fp.map (·.1)=L.map (·.1):=by
 simp only [aN] at h
 obtain ⟨a,xs,e,h1,h2⟩:=h
 exact aq.addrs h2
theorem Cd (hr:r.F6=false∨∃ L0 L:List (Addr×List D),s=.t (iH L0)∧r=.fo (.t (iH L))∧∀ x∈L,∀ y∈L0,x.1≠y.1)
 (rf:aN K H Hf s v0 fp) (sf:aD Hf aj) (hk:∀ a o,¬ a∈fp.map (·.1)→H a=some o→Hf a=none→H' a=some o∧aj a=none) (e2:aX K fr H Hf r v):aX K fr H' aj r v:=by
 have hz:=aN.fz s rf
 rcases hr with hr | ⟨L0,L,rfl,rfl,hd⟩
 ·refine aX.mv (B:=fun a=>a∈fp.map (·.1)) sf (fun a o hm e1 _ e3=>hk a o hm e1 e3) (fun hf=>by rw [hr] at hf; cases hf) (fun ow a e m=>?_) e2
  subst e
  obtain ⟨_,_,e,_,_,_,nf⟩:=e2.qN ow
  cases e
  obtain ⟨p,hp,rfl⟩:=cu m
  exact nf ⟨p.2,(hz p hp).1⟩
 ·obtain ⟨fp2,r2,nd,f2⟩:=e2
  refine ⟨fp2,aN.mv sf _ (fun q hq e1 e3=>hk q.1 _ (fun m=>?_) e1 e3) r2,nd,f2⟩
  rw [rf.addrs] at m
  have m2:q.1∈L.map (·.1):=by rw [← r2.addrs]; exact Oo.mpr ⟨q,hq,rfl⟩
  obtain ⟨y,hy,ey⟩:=Oo.mp m
  obtain ⟨x,hx,ex⟩:=Oo.mp m2
  exact hd x hx y hy (ex.trans ey.symm)
end
section
variable {K:NZ}
end
section
variable {K:NZ}
theorem aq.lose {ts:List Sh}:∀ {pre post:List Sh} {xs:List V} {fq:Fp},aq K H Hf (pre++.t ts::post) xs fq →
 ∃ (a:Addr) (f1 f2 f3:Fp),fq=f1++(f2++f3)∧xs[pre.length]?=some (.ref a)∧aN K H Hf (.t ts) (.ref a) f2 ∧
  ∀ {H' aj:Hp},aD Hf aj→(∀ q∈f1++f3,H q.1=some (pl q.1 q.2)→Hf q.1=none→H' q.1=some (pl q.1 q.2)∧aj q.1=none)→aq K H' aj (pre++.v (.adr a)::post) xs (f1++f3)
 | [],post,_,_,h=>by
  simp only [P1,aq] at h
  obtain ⟨x,r,f1,f2,rfl,h1,h2,rfl⟩:=h
  have h1':=h1
  simp only [aN] at h1'
  obtain ⟨a,xs,rfl,_,_⟩:=h1'
  refine ⟨a,[],f1,f2,rfl,rfl,h1,fun sf hk=>?_⟩
  simp only [P1,aq]
  exact ⟨_,r,[],f2,rfl,by simp only [aN]; exact ⟨dY.mpr rfl,trivial⟩,aq.mv sf post hk h2,rfl⟩
 | s::pre,post,_,_,h=>by
  simp only [Pq,aq] at h
  obtain ⟨x,r,g1,g2,rfl,h1,h2,rfl⟩:=h
  obtain ⟨a,f1,f2,f3,rfl,e,h3,h4⟩:=aq.lose h2
  refine ⟨a,g1++f1,f2,f3,by rw [Om],by simpa using e,h3,fun sf hk=>?_⟩
  simp only [Pq,aq]
  exact ⟨x,r,g1,f1++f3,rfl,aN.mv sf s (fun q hq=>hk q (by rw [Om]; exact PB _ hq)) h1,h4 sf fun q hq=>hk q (by rw [Om]; exact OR _ hq),by rw [Om]⟩
theorem yP {fp:Fp} (nd:(fp.map (·.1)).Nodup) (h:∀ a∈fp,H a.1=some (pl a.1 a.2)):fT pl fp (fT yF fp H)=H:=by
 funext b
 by_cases m:b∈fp.map (·.1)
 ·obtain ⟨p,hp,rfl⟩:=cu m
  rw [di nd p hp,h p hp]
 ·rw [aR m,aR m]
theorem cW.Lz {i:Nat} {pre post ts:List Sh} {p:Addr} {xs:List V} {f1 f2 f3:Fp} {a:Addr} (S:cW K H₀ dQ σ H Hf ρ) (h:kj ρ i (.ls (pre++.t ts::post))) (ev:σ[i]?=some (some (.ref p))) (hp:H p=some (pl p xs)) (hpf:Hf p=none)
 (nd:(((p,xs)::(f1++(f2++f3))).map (·.1)).Nodup) (fr:∀ b∈(p,xs)::(f1++(f2++f3)),H₀ b.1=none) (rt:aN K H Hf (.t ts) (.ref a) f2)
 (hm:∀ {H' aj:Hp},aD Hf aj→(∀ q∈f1++f3,H q.1=some (pl q.1 q.2)→Hf q.1=none→H' q.1=some (pl q.1 q.2)∧aj q.1=none)→aq K H' aj (pre++.v (.adr a)::post) xs (f1++f3))
 (g:bq (ki H f2) Hf H1 aM):cW K H₀ dQ σ H1 aM (ρ.set i (.fo (.ls (pre++.v (.adr a)::post)))):=by
 obtain ⟨hi,ho⟩:=h.at_
 have in2:∀ {b:Addr×List V},b∈f2→b∈(p,xs)::(f1++(f2++f3)):=fun hb=>Ob _ (OR _ (PB _ hb))
 have fr_in:∀ {b:Addr},b∈f2.map (·.1)→H₀ b=none:=fun m=>by obtain ⟨q,hq,rfl⟩:=cu m; exact fr q (in2 hq)
 have s0:aD H₀ (ki H f2):=fun b o e=>by rw [dD fun m=>by rw [fr_in m] at e; cases e]; exact S.bas.s b o e
 have hz:=aN.fz _ rt
 have nd':((p,xs)::(f1++f3)).map (·.1) |>.Nodup:=by
  refine Ri.sublist ?_ nd
  refine RJ.map _ (RJ.cons₂ _ (RJ.append_left ?_ _))
  exact List.sublist_append_right _ _
 have out2:∀ b∈(p,xs)::(f1++f3),b.1∉f2.map (·.1):=fun b hb m=>by
  obtain ⟨q,hq,eq⟩:=Oo.mp m
  rw [N5,Pd,OD,Qk,OD,Qk] at nd
  obtain ⟨n1,n2,⟨n3,n4,n5⟩,n6⟩:=nd
  rcases Og.mp hb with rfl | hb
  ·exact n1 (OR _ (PB _ (by rw [← eq]; exact Oo.mpr ⟨q,hq,rfl⟩)))
  ·rcases OA.mp hb with hb | hb
   ·exact n6 _ (Oo.mpr ⟨b,hb,rfl⟩) _ (PB _ (Oo.mpr ⟨q,hq,rfl⟩)) eq.symm
   ·exact n5 _ (Oo.mpr ⟨q,hq,rfl⟩) _ (Oo.mpr ⟨b,hb,rfl⟩) eq
 refine ⟨⟨s0.trans g.s,S.bas.f.trans g.f,g.b,fun b h1 h2 h3=>?_⟩,by simp [S.len],fun j r hj hu=>?_,fun j j' r r' q hne h1 h2 o1 o2=>?_⟩
 ·cases z:H₀ b with
  | none=>exact absurd z h2
  | some o1 =>
   have e1:=s0 b o1 z
   exact g.n b (S.bas.n b h1 h2 h3) (by rw [e1]; simp) fun xs=>by rw [e1,← z]; exact h3 xs
 ·rcases bR hj with ⟨rfl,rfl⟩ | ⟨q,hj⟩
  ·refine ⟨.ref p,ev,aX.cz g ⟨(p,xs)::(f1++f3),?_,nd',fun b hb=>fr b ?_⟩⟩
   ·simp only [aN]
    refine ⟨p,xs,f1++f3,rfl,by rw [dD (out2 _ N9)]; exact hp,hpf,hm (.refl _) fun q hq e1 e2=>⟨by rw [dD (out2 q (Ob _ hq))]; exact e1,e2⟩,rfl⟩
   ·rcases Og.mp hb with rfl | hb
    ·exact N9
    ·rcases OA.mp hb with hb | hb
     ·exact Ob _ (PB _ hb)
     ·exact Ob _ (OR _ (OR _ hb))
  ·obtain ⟨v,e1,e2⟩:=S.at_ j r hj hu
   have e3:aX K (fun p=>H₀ p=none) (ki H f2) Hf r v:=Cd (.inl (ho q hj)) rt (.refl _) (fun a o hm e1 e3=>⟨by rw [dD hm]; exact e1,e3⟩) e2
   exact ⟨v,e1,e3.cz g⟩
 ·have out:∀ {j:Nat} {r:Sl},(ρ.set i (.fo (.ls (pre++.v (.adr a)::post))))[j]?=some r→r.owned=true→ρ[j]?=some r:=fun {j r} hj ho=>by
   rcases bR hj with ⟨_,rfl⟩ | ⟨_,hj⟩
   ·cases ho
   ·exact hj
  exact S.sep j j' r r' q hne (out h1 o1) (out h2 o2) o1 o2
end
section
variable {K:NZ} {c:Ctx P w K mg base k N sc bk}
theorem Jg {R:Sl→Prop} (h:BP c es ρ fun ss=>Sd (ss.length≤sizeLine) (R (.fo (.ls ss)))):dw c (.List es pos) ρ R:=fun σ H Hf Q S q aa s I=>by
 refine bC (bH (Q:=fun v H2=>∃ (ss:List Sh) (vs:List V) (fp:Fp) (H' aj:Hp) (p:Addr),v=.ref p∧H2=upd H' p (.lst vs)∧H' p=none∧R (.fo (.ls ss))∧aq c.X.K H' aj ss vs fp∧(fp.map (·.1)).Nodup∧(∀ a∈fp,H a.1=none)∧bq H Hf H' aj) (zM Ds) (h σ H Hf _ S fun ss vs fp H' aj ⟨hl,hR⟩ r nd fr g=>⟨by rw [← aq.len r]; exact hl,fun p hp=>⟨ss,vs,fp,H',aj,p,rfl,rfl,hp,hR,r,nd,fr,g⟩⟩) aa s I) fun u s1 hh=>z2 hh fun v H1 hh=>w3 hh fun I1 rv hh=>v6 hh fun ss vs fp H' aj p hh=>w8 hh fun e1 e2 hp hR r nd fr g=>?_
 subst e1 e2
 have hz:=aq.fz ss r
 have hne:∀ a∈fp,a.1≠p:=fun a ha z=>by have:=(hz a ha).1; rw [z,hp] at this; cases this
 have I2:Inv c.X aa σ (upd H' p (pl p vs)) s1:=by
  have:=pN I1 ai
  rwa [kD] at this
 refine ⟨_,_,I2,rv,q (.fo (.ls ss)) _ _ aj hR ⟨(p,vs)::fp,?_,?_,fun b hb=>?_⟩ (g.trans (bq.gc g.b hp))⟩
 ·simp only [aN]
  exact ⟨p,vs,fp,rfl,ai,g.b.free hp,aq.mv (.refl _) ss (fun a ha e1 e2=>⟨by rw [ak (hne a ha)]; exact e1,e2⟩) r,rfl⟩
 ·rw [N5,Pd]
  exact ⟨fun m=>by obtain ⟨a,ha,ea⟩:=Oo.mp m; exact hne a ha ea,nd⟩
 ·rcases Og.mp hb with rfl | hb
  ·exact g.s.free hp
  ·exact fr b hb
theorem Ft {ok:Sh→Prop} {j:Nat} (h:Fb P w K mg base j x ok) (hj:j≤k) (hN:At N i y) {m:Nat} {pre post ts:List Sh} (hNz:At N m z) (hm:At ρ m (.va (.int (pre.length:Int)))) (h1:kj ρ i (.ls (pre++.t ts::post))) (hok:ok (.t ts)) (hn:∀ a:Addr,Nx ρ i nx (.fo (.ls (pre++.v (.adr a)::post))))
 (hg:sc.names.lookup x=some .globalImplicit:=by walk_at "u") (hdb:(x == ("__debug__":Str))=false:=by decide) (hd:(y == ("__debug__":Str))=false:=by decide) (hcd:(y == ("__classdict__":Str))=false:=by decide) (hdz:(z == ("__debug__":Str))=false:=by decide) (hcdz:(z == ("__classdict__":Str))=false:=by decide) (hix:iV (.Name z pz):=by with_unfolding_all exact fun _ _=>rfl)
 (he:∀ env,starEach [.Subscript (.Name y py) (.Name z pz) sp] env=(false,eval (.Subscript (.Name y py) (.Name z pz) sp) env)::starEach [] env:=by intro _; walk_at "u")
 (hpl:∀ env,(backTo cp (starEach [] env)).any (·.1)=false:=by intro _; walk_at "u")
 (hs:∀ env,swapsWith (.Call (.Name x px) [.Subscript (.Name y py) (.Name z pz) sp] [] cp) none pos.line env=pure false:=by intro _; walk_at "u"):fu c (.Expr (.Call (.Name x px) [.Subscript (.Name y py) (.Name z pz) sp] [] cp) pos) ρ nx p:=fun σ H Hf D S o=>by
 obtain ⟨v,ev,fp,rf,nd,hfr⟩:=S.at_ i _ h1.at_.1 (by intro z; cases z)
 have hz:=aN.fz _ rf
 have rf':=rf
 simp only [aN] at rf'
 obtain ⟨p0,xs,fq,rfl,hp,hpf,rfs,rfl⟩:=rf'
 obtain ⟨a,f1,f2,f3,rfl,ea,rt,hmv⟩:=aq.lose rfs
 obtain ⟨vz,ez,rz⟩:=S.at_ m _ hm.get (by intro z; cases z)
 have rz':vz=.int (pre.length:Int):=ay.mp (show Rep c.X.K Hf (.int (pre.length:Int)) vz from rz)
 subst rz'
 obtain ⟨ρ',hs',hn⟩:=hn a
 refine dZ (kE cU (hs _)) (show bE c.X _ σ H (fun _ H'=>D.nx σ H') from fun aa s' I=>?_)
 obtain ⟨f,fd,ps,hm,hk,hb,hF⟩:=h.ex
 refine PU (iT I (by unfold Gl ON; rw [c.esc]; exact hg) (by rw [c.emg]; exact hm) ?_ hdb)
 have hE:bE c.X (.Subscript (.Name y py) (.Name z pz) sp) σ H (fun v H1=>[v]=[V.ref a]∧H1=H):=fun aa s' I=>by
  refine bC (bH (Q:=fun v H1=>v=.ref a∧H1=fT yF ((p0,xs)::(f1++(f2++f3))) H) (F4 vD (c.kc hN hd hcd) (c.kc hNz hdz hcdz) hix) ⟨_,ev,_,ez,p0,xs,_,.ref a,rfl,rfl,.inl (.inl (di nd (p0,xs) N9)),?_,rfl,rfl⟩ aa s' (jq I nd fun a ha=>(hz a ha).1)) fun u s1 ⟨v,H1,I1,rv,e1,e2⟩=>?_
  ·rw [eS (TZ _) (by have:=(Oa.mp ea).1; lia),OW]; exact ea
  ·subst e1 e2
   have I2:=l0 I1 nd fun b hb=>di nd b hb
   rw [yP nd fun b hb=>(hz b hb).1] at I2
   exact ⟨_,_,I2,rv,rfl,rfl⟩
 have hA:bA c.X [.Subscript (.Name y py) (.Name z pz) sp] σ H (fun vs H1=>vs=[.ref a]∧H1=H):=nH (bN cU dH (he _)) hE
 refine Si (h₀:=c.X.base) I.ok.mod.kin (by rw [c.eK]; exact hk) (bC (hA cp aa s' I) fun us s1 ⟨vs,H1,I1,rv,e1,e2⟩=>⟨I1.oB,?_⟩) (he _) (hpl _)
 subst e1 e2
 have hF2:bx c.X.prog c.X.w c.X.K c.X.mg c.X.base (dP c.X.prog c.X.w) k f fd ps (J0 c.X.K ok):=by rw [c.eP,c.ew,c.eK,c.emg,c.eb]; exact hF.mono hj
 have qk:J0 c.X.K ok [.ref a] H1 (fun _ H'=>D.nx σ H') (fun _ _ _=>False):=by
  refine ⟨Hf,.t ts,.ref a,f2,rfl,S.sb,rt,?_,hok,fun H' aj g=>?_⟩
  ·rw [N5,Pd,OD,Qk,OD,Qk] at nd
   exact nd.2.2.1.1
  refine o.nx σ H' aj ρ' ?_ hn
  rw [hs'.eq]
  exact S.Lz h1 ev hp hpf nd hfr rt hmv g
 have hl:us.length=ps.length:=by rw [← rv.length]; exact hF2.len _ _ _ _ qk
 have hb':Binds c.X.K fd ps []:=by rw [c.eK]; exact hb
 have hb2:=hb' s1 us I1.oB (by simpa using hl)
 rw [O7] at hb2
 refine Rc (Q9 (hF2.run c.X.A c.X.stack s1 H1 ⟨us,[]⟩ us _ _ _ c.room I1.DK hb2 rv qk) fun r' s' hq=>?_)
 cases r' with
 | error e =>
  obtain ⟨a,C,H',rfl,hE,h⟩:=hq
  exact h.elim
 | ok fl =>
  cases fl with
  | ret u=>exact I1.after hq
  | next=>exact O2 hq
  | brk=>exact O2 hq
  | cont=>exact O2 hq
end
section
theorem l6 {it l:Addr} {items:Array Value} (hne:l≠it):∀ (n i:Nat) (s:Shared) (Q:List Value→Shared→Prop),s.heap.IsListIter it l i→s.heap.IsList l items→i+n≤items.size →
 (∀ h':Heap,h'.IsListIter it l (i+n)→Pj it s.heap h'→Q ((items.toList.drop i).take n) { s with heap:=h' })→wpAny (model prog w) A (draw (.ref it) n) Q E s
 | 0,i,s,Q,hi,_,_,q=>by show wpAny _ _ (pure []) Q E s; exact N1 (by simpa using q s.heap hi (Pj.refl ..))
 | n+1,i,s,Q,hi,hl,hz,q=>by
  have hlt:i<items.size:=by omega
  have e:=RW (l:=items.toList) (i:=i) (by simpa using hlt)
  refine NX (m:=pyNext (.ref it)) (wpAny_pyNext_list_item hi hl (x:=items[i]) (by simp [hlt]) fun h1 hi1 sb1=>NX (OS (l6 hne n (i+1) _ _ hi1 (hl.extBut sb1.extBut hne) (by omega) fun h2 hi2 sb2=>N1 ?_)))
  have z:=q h2 (by rw [← SS,Nat.add_right_comm]; exact hi2) (sb1.trans sb2)
  rw [e,List.take_succ_cons] at z
  simpa using z
theorem uK {l:Addr} {items:Array Value} {s:Shared} {Q:List Value→Shared→Prop} (hh:A.handled=none) (hl:s.heap.IsList l items)
 (q:∀ h':Heap,Qe s.heap.objs.size s.heap h'→Q items.toList { s with heap:=h' }):wpAny (model prog w) A (unpackItems (.ref l) items.size none) Q E s:=by
 have hne:l≠s.heap.objs.size:=by obtain ⟨o,ho,_⟩:=id hl; exact OB (N8 ho)
 unfold unpackItems notIterableAtAll
 refine NX (NX (SA hl.typeIs F.slot_list_iter.lookup (N1 ?_)))
 refine NX (OS (Sn hl (NX (OS (l6 hne items.size 0 _ _ ⟨_,Oj _ rfl,rfl,rfl⟩ (hl.push _) (by omega) fun h1 hi1 sb1=>?_)))))
 have e:(items.toList.drop 0).take items.size=items.toList:=QY (by simp)
 rw [e,if_neg (by simp)]
 refine NX (OS (wpAny_pyNext_list_end hh hi1 ((hl.push _).extBut sb1.extBut hne) (by simp) fun h2 eb=>?_))
 exact N1 (q h2 fun b o hb eo=>eb b o hb (sb1.extBut b o hb (N7 _ eo)))
end
noncomputable def Nk (K:NZ) (n:Nat) (t:GY):TG:=fun v σ H Q=>∃ a xs,v=.ref a∧gh K H a xs∧xs.length=n∧t xs σ H Q
theorem Jh {X:Cx} {es:List Expr} {k:Nat} {t:GY} {n:Nat} {pos:Pos} (hc:X.calm=true) (h:F1 X es t)
 (hn:(assignEach es X.env).length=n:=by rfl) (hst:(assignEach es X.env).findIdx? (·.1)=none:=by rfl):PG X (.Tuple es k pos) (Nk X.K n t):=by
 intro aa s σ H v u Q I r ⟨a,xs,e1,hq,hl,hw⟩
 subst e1
 cases r
 obtain ⟨its,rv,p,hz⟩:=I.list hq
 rw [arm_assign_Tuple]
 refine NX (SO ?_)
 unfold unpack
 rw [hn,hst,← hl,rv.length]
 have e:its.length=its.toArray.size:=by simp
 rw [e]
 refine NX (OS (uK (I.ok.hd hc) p.isList fun h' hx=>?_))
 have I1:Inv X aa σ H { s with heap:=h' }:=I.kept (t':=s.toks) fun b o e=>hx b o (OB (N8 e)) e
 exact h aa _ σ H xs _ Q I1 (by simpa using rv) hw
section
variable {K:NZ}
theorem LA {ts:List Expr} {j:Nat} {ds:List D} {R:List Sl→Prop} (hl:ds.length=ts.length) (h:tU c ts ds ρ R)
 (hn:∀ env,(assignEach ts env).length=ts.length:=by intro _; walk_at "u") (hst:∀ env,(assignEach ts env).findIdx? (·.1)=none:=by intro _; walk_at "u"):mK c (.Tuple ts j pos) (.lst ds) ρ R:=fun σ H Hf v Q S r q=>by
 rw [aV] at r
 obtain ⟨a,xs,rfl,h1,h2⟩:=r
 have hp:F1 c.X ts (fun vs' σ' H' Q'=>∀ aa s us,Inv c.X aa σ' H' s→Vals vs' us→wpAny (model c.X.prog c.X.w) c.X.A (assignInOrder ((assignEach ts c.X.env).map (·.2)) us) (fun _ s'=>∃ σ'' H'',Inv c.X aa σ'' H'' s'∧Q' σ'' H'') c.X.xe s):=fun aa s σ H vs us Q I r h=>h aa s us I r
 exact vH (Jh (X:=c.X) (k:=j) (n:=ts.length) c.calm hp (hn _) (hst _)) ⟨a,xs,rfl,S.sb.seq h1,by rw [← h2.length,hl],h σ H Hf xs Q S h2 fun σ' H' aj ρ' S' g' hR=>q σ' H' aj ρ' S' g' hR⟩
end
end EV
namespace My
open PySem PySem.Spec PyProof.Rows L2 EV
noncomputable abbrev top (i:Nat):Stmt:=PySem.Challenge.pw_everydraw_k20_lines_of_circles.main.body.getD i (.Pass ⟨0,0,0,0⟩)
noncomputable abbrev iJ:=top 2
theorem uL:aG ["powers","end"] ["powers"] (ah iJ):=⟨rfl,rfl,rfl,by decide +kernel,rfl,by decide +kernel,by decide +kernel⟩
theorem uM:∀ x∈(["powers","end"]:List Str),L2.Loc (ah iJ) x:=by unfold L2.Loc; decide +kernel
noncomputable abbrev cD:=top 3
theorem iK:aG ["some","greatest","powers","number","k","power"] ["some"] (ah cD):=⟨rfl,rfl,rfl,by decide +kernel,rfl,by decide +kernel,by decide +kernel⟩
theorem iL:∀ x∈(["some","greatest","powers","number","k","power"]:List Str),L2.Loc (ah cD) x:=by unfold L2.Loc; decide +kernel
noncomputable abbrev jS:=top 4
theorem yQ:aG ["powers","width","key","power"] ["powers","width"] (ah jS):=⟨rfl,rfl,rfl,by decide +kernel,rfl,by decide +kernel,by decide +kernel⟩
theorem yR:∀ x∈(["powers","width","key","power"]:List Str),L2.Loc (ah jS) x:=by unfold L2.Loc; decide +kernel
noncomputable abbrev fU:=top 5
theorem pU:aG ["key","width","mask"] ["key","width"] (ah fU):=⟨rfl,rfl,rfl,by decide +kernel,rfl,by decide +kernel,by decide +kernel⟩
theorem pV:∀ x∈(["key","width","mask"]:List Str),L2.Loc (ah fU) x:=by unfold L2.Loc; decide +kernel
noncomputable abbrev jT:=top 6
theorem yS:aG ["some","width"] ["some","width"] (ah jT):=⟨rfl,rfl,rfl,by decide +kernel,rfl,by decide +kernel,by decide +kernel⟩
theorem yT:∀ x∈(["some","width"]:List Str),L2.Loc (ah jT) x:=by unfold L2.Loc; decide +kernel
noncomputable abbrev gF:=top 7
theorem sA:aG ["total","width"] ["total","width"] (ah gF):=⟨rfl,rfl,rfl,by decide +kernel,rfl,by decide +kernel,by decide +kernel⟩
theorem sC:∀ x∈(["total","width"]:List Str),L2.Loc (ah gF) x:=by unfold L2.Loc; decide +kernel
noncomputable abbrev dN:=top 8
theorem kq:aG ["total","left","right","key","number","shift","part","whole"] ["total","left","right"] (ah dN):=⟨rfl,rfl,rfl,by decide +kernel,rfl,by decide +kernel,by decide +kernel⟩
theorem kr:∀ x∈(["total","left","right","key","number","shift","part","whole"]:List Str),L2.Loc (ah dN) x:=by unfold L2.Loc; decide +kernel
noncomputable abbrev gG:=top 10
theorem sD:aG ["parts","most","part"] ["parts"] (ah gG):=⟨rfl,rfl,rfl,by decide +kernel,rfl,by decide +kernel,by decide +kernel⟩
theorem sE:∀ x∈(["parts","most","part"]:List Str),L2.Loc (ah gG) x:=by unfold L2.Loc; decide +kernel
noncomputable abbrev gH:=top 11
theorem sF:aG ["whole","part","width","factors","left","right","product"] ["whole","part","width"] (ah gH):=⟨rfl,rfl,rfl,by decide +kernel,rfl,by decide +kernel,by decide +kernel⟩
theorem sG:∀ x∈(["whole","part","width","factors","left","right","product"]:List Str),L2.Loc (ah gH) x:=by unfold L2.Loc; decide +kernel
noncomputable abbrev eZ:=top 12
theorem mV:aG ["parts","width","whole","part"] ["parts"] (ah eZ):=⟨rfl,rfl,rfl,by decide +kernel,rfl,by decide +kernel,by decide +kernel⟩
theorem mW:∀ x∈(["parts","width","whole","part"]:List Str),L2.Loc (ah eZ) x:=by unfold L2.Loc; decide +kernel
noncomputable abbrev eF:=top 14
theorem l7:aG ["total","o"] ["total","o"] (ah eF):=⟨rfl,rfl,rfl,by decide +kernel,rfl,by decide +kernel,by decide +kernel⟩
theorem l8:∀ x∈(["total","o"]:List Str),L2.Loc (ah eF) x:=by unfold L2.Loc; decide +kernel
noncomputable abbrev fc:=top 15
theorem mX:aG ["total","o","i"] ["total","o","i"] (ah fc):=⟨rfl,rfl,rfl,by decide +kernel,rfl,by decide +kernel,by decide +kernel⟩
theorem mY:∀ x∈(["total","o","i"]:List Str),L2.Loc (ah fc) x:=by unfold L2.Loc; decide +kernel
noncomputable abbrev fV:=top 16
theorem pW:aG ["total","o","p"] ["total","o","p"] (ah fV):=⟨rfl,rfl,rfl,by decide +kernel,rfl,by decide +kernel,by decide +kernel⟩
theorem pX:∀ x∈(["total","o","p"]:List Str),L2.Loc (ah fV) x:=by unfold L2.Loc; decide +kernel
noncomputable abbrev dO:=top 17
theorem ku:aG ["o"] ["o"] (ah dO):=⟨rfl,rfl,rfl,by decide +kernel,rfl,by decide +kernel,by decide +kernel⟩
theorem kB:∀ x∈(["o"]:List Str),L2.Loc (ah dO) x:=by unfold L2.Loc; decide +kernel
noncomputable abbrev fh:=top 18
theorem mZ:aG ["o","i"] ["o","i"] (ah fh):=⟨rfl,rfl,rfl,by decide +kernel,rfl,by decide +kernel,by decide +kernel⟩
theorem m9:∀ x∈(["o","i"]:List Str),L2.Loc (ah fh) x:=by unfold L2.Loc; decide +kernel
noncomputable abbrev fW:=top 19
theorem pY:aG ["o","p"] ["o","p"] (ah fW):=⟨rfl,rfl,rfl,by decide +kernel,rfl,by decide +kernel,by decide +kernel⟩
theorem pZ:∀ x∈(["o","p"]:List Str),L2.Loc (ah fW) x:=by unfold L2.Loc; decide +kernel
noncomputable abbrev fX:=top 21
theorem p5:aG ["_law_script","_law_k"] ["_law_script","_law_k"] (ah fX):=⟨rfl,rfl,rfl,by decide +kernel,rfl,by decide +kernel,by decide +kernel⟩
theorem p6:∀ x∈(["_law_script","_law_k"]:List Str),L2.Loc (ah fX) x:=by unfold L2.Loc; decide +kernel
noncomputable abbrev gI:=top 22
theorem sH:aG ["_law_script","_law_k","_law_cell","_law_number"] ["_law_script","_law_k"] (ah gI):=⟨rfl,rfl,rfl,by decide +kernel,rfl,by decide +kernel,by decide +kernel⟩
theorem sI:∀ x∈(["_law_script","_law_k","_law_cell","_law_number"]:List Str),L2.Loc (ah gI) x:=by unfold L2.Loc; decide +kernel
noncomputable abbrev iM:=top 23
theorem uN:aG ["_law_terms_here","_law_found","_law_powers","_law_number","_law_key"] ["_law_terms_here"] (ah iM):=⟨rfl,rfl,rfl,by decide +kernel,rfl,by decide +kernel,by decide +kernel⟩
theorem uO:∀ x∈(["_law_terms_here","_law_found","_law_powers","_law_number","_law_key"]:List Str),L2.Loc (ah iM) x:=by unfold L2.Loc; decide +kernel
noncomputable abbrev fY:=top 24
theorem p7:aG ["_law_factors","_law_found","_law_some_here","_law_terms_here","_law_powers","_law_number","_law_other","_law_count","_law_wide","_law_one","_law_two"] ["_law_factors"] (ah fY):=⟨rfl,rfl,rfl,by decide +kernel,rfl,by decide +kernel,by decide +kernel⟩
theorem p8:∀ x∈(["_law_factors","_law_found","_law_some_here","_law_terms_here","_law_powers","_law_number","_law_other","_law_count","_law_wide","_law_one","_law_two"]:List Str),L2.Loc (ah fY) x:=by unfold L2.Loc; decide +kernel
noncomputable abbrev l9:=top 25
theorem Ce:aG ["_law_parts","_law_terms_here","_law_number","_law_factors"] ["_law_parts"] (ah l9):=⟨rfl,rfl,rfl,by decide +kernel,rfl,by decide +kernel,by decide +kernel⟩
theorem Cf:∀ x∈(["_law_parts","_law_terms_here","_law_number","_law_factors"]:List Str),L2.Loc (ah l9) x:=by unfold L2.Loc; decide +kernel
noncomputable abbrev jU:=top 26
theorem yU:aG ["_law_number","_law_terms_here","_law_many","_law_k","_law_powers","_law_count"] ["_law_number"] (ah jU):=⟨rfl,rfl,rfl,by decide +kernel,rfl,by decide +kernel,by decide +kernel⟩
theorem yV:∀ x∈(["_law_number","_law_terms_here","_law_many","_law_k","_law_powers","_law_count"]:List Str),L2.Loc (ah jU) x:=by unfold L2.Loc; decide +kernel
noncomputable abbrev gJ:=top 27
theorem sJ:aG ["_law_script","_law_at","_law_many"] ["_law_script","_law_at","_law_many"] (ah gJ):=⟨rfl,rfl,rfl,by decide +kernel,rfl,by decide +kernel,by decide +kernel⟩
theorem sL:∀ x∈(["_law_script","_law_at","_law_many"]:List Str),L2.Loc (ah gJ) x:=by unfold L2.Loc; decide +kernel
noncomputable abbrev gK:=top 28
theorem sM:aG ["_law_told"] ["_law_told"] (ah gK):=⟨rfl,rfl,rfl,by decide +kernel,rfl,by decide +kernel,by decide +kernel⟩
theorem sN:∀ x∈(["_law_told"]:List Str),L2.Loc (ah gK) x:=by unfold L2.Loc; decide +kernel
noncomputable abbrev iN:=top 29
theorem uP:aG ["_law_some_here","_law_term","_law_number"] ["_law_some_here"] (ah iN):=⟨rfl,rfl,rfl,by decide +kernel,rfl,by decide +kernel,by decide +kernel⟩
theorem uQ:∀ x∈(["_law_some_here","_law_term","_law_number"]:List Str),L2.Loc (ah iN) x:=by unfold L2.Loc; decide +kernel
noncomputable abbrev jV:=top 30
theorem yW:aG ["_law_found","_law_due_here","_law_k"] ["_law_found","_law_due_here"] (ah jV):=⟨rfl,rfl,rfl,by decide +kernel,rfl,by decide +kernel,by decide +kernel⟩
theorem yX:∀ x∈(["_law_found","_law_due_here","_law_k"]:List Str),L2.Loc (ah jV) x:=by unfold L2.Loc; decide +kernel
noncomputable abbrev iO:=top 31
theorem uR:aG ["_law_found","_law_some_here"] ["_law_found"] (ah iO):=⟨rfl,rfl,rfl,by decide +kernel,rfl,by decide +kernel,by decide +kernel⟩
theorem uS:∀ x∈(["_law_found","_law_some_here"]:List Str),L2.Loc (ah iO) x:=by unfold L2.Loc; decide +kernel
noncomputable abbrev mh:=top 32
theorem Cg:aG ["_law_o","_law_p","_law_i","_law_one","_law_x","_law_y","_law_w","_law_two","_law_three"] ["_law_o","_law_p","_law_i"] (ah mh):=⟨rfl,rfl,rfl,by decide +kernel,rfl,by decide +kernel,by decide +kernel⟩
theorem Ci:∀ x∈(["_law_o","_law_p","_law_i","_law_one","_law_x","_law_y","_law_w","_law_two","_law_three"]:List Str),L2.Loc (ah mh) x:=by unfold L2.Loc; decide +kernel
noncomputable abbrev iP:=top 33
theorem uT:aG ["_law_some_here","_law_o","_law_p","_law_i"] ["_law_some_here"] (ah iP):=⟨rfl,rfl,rfl,by decide +kernel,rfl,by decide +kernel,by decide +kernel⟩
theorem uU:∀ x∈(["_law_some_here","_law_o","_law_p","_law_i"]:List Str),L2.Loc (ah iP) x:=by unfold L2.Loc; decide +kernel
noncomputable abbrev uV:=top 34
theorem Ji:aG ["_law_script","_law_some_here","_law_handed","_law_due_here","_law_found","_law_k","_law_again"] ["_law_script"] (ah uV):=⟨rfl,rfl,rfl,by decide +kernel,rfl,by decide +kernel,by decide +kernel⟩
theorem Jj:∀ x∈(["_law_script","_law_some_here","_law_handed","_law_due_here","_law_found","_law_k","_law_again"]:List Str),L2.Loc (ah uV) x:=by unfold L2.Loc; decide +kernel
local macro_rules | `(tactic| walk_at "side")=> `(tactic| first | omega | assumption | exact lB | exact gp (PM rfl) | exact Ak (by decide) (by decide +kernel) | (show tK _ _; exact ⟨by decide,by decide,by decide +kernel⟩))
local macro_rules | `(tactic| walk_at "at")=> `(tactic| with_reducible (repeat (first | exact At.z | apply At.s)))
local macro_rules | `(tactic| walk_at "sset")=> `(tactic| with_reducible (repeat (first | exact SSet.z | apply SSet.s)))
local macro_rules | `(tactic| walk_at "atI")=> `(tactic| first | assumption | rfl)
local macro_rules | `(tactic| walk_at "own")=> `(tactic| walk_at "u")
local macro_rules | `(tactic| walk_at "evSs")=> `(tactic| first
 | with_reducible refine aP ?_
 | with_reducible refine tT ?_)
local macro_rules | `(tactic| walk_at "evS")=> `(tactic| first
 | ((with_reducible show fu _ (Tc [Oi _ _] _ _) _ _ _); with_reducible refine qH (by walk_at "at") ?_)
 | ((with_reducible show fu _ (Stmt.If _ _ _ _) _ _ _); walk_at "evIf")
 | ((with_reducible show fu _ (Stmt.Expr _ _) _ _ _); walk_at "evXp")
 | ((with_reducible show fu _ (Stmt.Return (some (Oi _ _)) _) _ _ _); with_reducible refine Aj (by walk_at "at") (by walk_at "at") rfl ?_)
 | ((with_reducible show fu _ (Stmt.Return (some _) _) _ _ _); with_reducible refine d7 ?_)
 | ((with_reducible show fu _ (Stmt.Return none _) _ _ _); with_reducible refine s_retN ?_)
 | ((with_reducible show fu _ (SJ (Oi _ _) SY _ _) _ _ _); with_reducible refine s_addq (by walk_at "at") (by walk_at "at") ?_)
 | ((with_reducible show fu _ (SJ (Oi _ _) Operator.Sub _ _) _ _ _); with_reducible refine HM (by walk_at "at") (by walk_at "at") ?_)
 | ((with_reducible show fu _ (SJ (Px (Oi _ _) _ _) SY _ _) _ _ _); with_reducible refine vU (by walk_at "at") (by walk_at "at") ?_)
 | ((with_reducible show fu _ (Tc [Expr.Tuple [Oi _ _,Oi _ _] _ _] (Expr.Tuple [_,_] _ _) _) _ _ _); with_reducible refine s_par (by walk_at "at") (by walk_at "at") (by decide) ?_)
 | ((with_reducible show fu _ (Tc [Expr.Tuple _ _ _] _ _) _ _ _); with_reducible refine K0 ?_)
 | ((with_reducible show fu _ (Tc [Px (Oi _ _) _ _] _ _) _ _ _); walk_at "evPut")
 | with_reducible refine s_break ?_
 | with_reducible refine s_continue ?_
 | with_reducible refine s_pass ?_)
local macro_rules | `(tactic| walk_at "evIf")=> `(tactic| with_reducible refine KZ ?_)
local macro_rules | `(tactic| walk_at "evXp")=> `(tactic| with_reducible refine tV (by walk_at "at") (by walk_at "at") (by walk_at "own") ?_)
local macro_rules | `(tactic| walk_at "evPut")=> `(tactic| with_reducible refine Ie (by walk_at "at") (by walk_at "at") ?_ (ho:=by walk_at "own"))
local macro_rules | `(tactic| walk_at "evK")=> `(tactic| first
 | with_reducible refine KD ?_
 | with_reducible refine M0 ?_
 | with_reducible refine e_non ?_
 | with_reducible refine e_str ?_)
local macro_rules | `(tactic| walk_at "evCm")=> `(tactic| first
 | with_reducible refine e_isN ?_
 | with_reducible refine e_notN ?_
 | with_reducible refine e_lt ?_
 | with_reducible refine M9 ?_
 | with_reducible refine e_ne ?_)
local macro_rules | `(tactic| walk_at "evIx")=> `(tactic| first
 | ((with_reducible show aF _ (Px _ (Expr.Slice _ _ _ _) _) _ _); with_reducible refine AG ?_)
 | ((with_reducible show aF _ (Px (Oi _ _) _ _) _ _); with_reducible refine La (by walk_at "at") (by walk_at "at") (by walk_at "own") (by walk_at "sset") ?_ (by walk_at "at"))
 | ((with_reducible show aF _ (Px (Oi _ _) _ _) _ _); with_reducible refine e_dix (by walk_at "at") (by walk_at "at") ?_)
 | with_reducible refine qM ?_)
local macro_rules | `(tactic| walk_at "evBo")=> `(tactic| first
 | with_reducible refine HY ?_
 | with_reducible refine KJ ?_
 | with_reducible refine KL ?_
 | with_reducible refine KN ?_
 | with_reducible refine HJ ?_
 | with_reducible refine KO ?_)
local macro_rules | `(tactic| walk_at "evCa")=> `(tactic| first
 | ((with_reducible show aF _ (OZ (Expr.Attribute _ _ _) _ _ _) _ _); walk_at "evMt")
 | ((with_reducible show aF _ (OZ (Oi "isinstance" _) _ _ _) _ _); first
  | with_reducible refine oU (Txt.isin (by assumption)) (Txt.Lb (by assumption)) ?_
  | with_reducible refine oU (Txt.isin (by assumption)) (Txt.Ey (by assumption)) ?_
  | with_reducible refine oU (Txt.isin (by assumption)) (Txt.Ij (by assumption)) ?_
  | with_reducible refine oU (Txt.isin (by assumption)) (Txt.Ii (by assumption)) ?_)
 | ((with_reducible show aF _ (OZ (Oi "len" _) _ _ _) _ _); first
  | ((with_reducible show aF _ (OZ _ [Oi _ _] _ _) _ _); with_reducible refine e_lenO (Txt.len (by assumption)) (by walk_at "at") (by walk_at "at") (by walk_at "own") (by walk_at "sset") ?_)
  | with_reducible refine e_len (Txt.len (by assumption)) ?_)
 | ((with_reducible show aF _ (OZ (Oi "tuple" _) _ _ _) _ _); first
  | ((with_reducible show aF _ (OZ _ [Oi _ _] _ _) _ _); with_reducible refine e_tupleO (Txt.tuple (by assumption)) (by walk_at "at") (by walk_at "at") (by walk_at "own") (by walk_at "sset") ?_)
  | with_reducible refine i8 (Txt.tuple (by assumption)) ?_)
 | ((with_reducible show aF _ (OZ (Oi "abs" _) _ _ _) _ _); with_reducible refine e_abs (Txt.abs (by assumption)) ?_)
 | ((with_reducible show aF _ (OZ (Oi "int" _) _ _ _) _ _); with_reducible refine e_intB (Txt.int (by assumption)) ?_))
local macro_rules | `(tactic| walk_at "evMt")=> `(tactic| with_reducible refine Ic (by walk_at "at") (by walk_at "at") ?_ (ho:=by walk_at "own"))
local macro_rules | `(tactic| walk_at "evE")=> `(tactic| first
 | ((with_reducible show aF _ (Oi _ _) _ _); with_reducible refine vI (by walk_at "at") (by walk_at "at") ?_)
 | ((with_reducible show aF _ (Expr.Constant _ _ _) _ _); walk_at "evK")
 | ((with_reducible show aF _ (OZ _ _ _ _) _ _); walk_at "evCa")
 | ((with_reducible show aF _ (Px _ _ _) _ _); walk_at "evIx")
 | ((with_reducible show aF _ (Expr.BinOp _ _ _ _) _ _); walk_at "evBo")
 | ((with_reducible show aF _ (Expr.Compare _ _ _ _) _ _); walk_at "evCm")
 | with_reducible refine Ga ?_
 | with_reducible refine HZ ?_
 | with_reducible refine KP ?_
 | with_reducible refine e_not ?_
 | with_reducible refine KW ?_
 | with_reducible refine e_or ?_
 | with_reducible refine KU ?_
 | with_reducible refine Eg ?_)
local macro_rules | `(tactic| walk_at "evX")=> `(tactic| first
 | ((with_reducible show dw _ (Expr.List _ _) _ _); with_reducible refine Gb ?_)
 | ((with_reducible show dw _ (OZ _ _ _ _) _ _); walk_at "evXC")
 | ((with_reducible show dw _ (Expr.BinOp _ SY _ _) _ _); with_reducible refine Az ?_)
 | ((with_reducible show dw _ (Px _ (Expr.Slice _ _ _ _) _) _ _); with_reducible refine vR ?_)
 | with_reducible refine F8 ?_)
local macro_rules | `(tactic| walk_at "evXC")=> `(tactic| first
 | ((with_reducible show dw _ (OZ (Oi "list" _) _ _ _) _ _); first
  | ((with_reducible show dw _ (OZ _ [Oi _ _] _ _) _ _); with_reducible refine x_listO (Txt.list (by assumption)) (by walk_at "at") (by walk_at "at") (by walk_at "own") (by walk_at "sset") ?_)
  | with_reducible refine Aw (Txt.list (by assumption)) ?_)
 | with_reducible refine F8 ?_)
local macro_rules | `(tactic| walk_at "evT")=> `(tactic| first
 | ((with_reducible show jE _ (Expr.Compare _ _ _ _) _ _); first
  | with_reducible refine t_isN ?_
  | with_reducible refine t_notN ?_
  | with_reducible refine M8 ?_
  | with_reducible refine M7 ?_
  | with_reducible refine M3 ?_
  | with_reducible refine t_le ?_
  | with_reducible refine M4 ?_
  | with_reducible refine M5 ?_
  | with_reducible refine Gk (by walk_at "at") (by walk_at "at") ?_
  | with_reducible refine t_dnotin (by walk_at "at") (by walk_at "at") ?_)
 | with_reducible refine KS ?_
 | with_reducible refine ND (w_and ?_)
 | with_reducible refine ND (w_or ?_)
 | with_reducible refine KY ?_)
local macro_rules | `(tactic| walk_at "evW")=> `(tactic| first
 | with_reducible refine w_and ?_
 | with_reducible refine w_or ?_
 | with_reducible refine HK ?_
 | with_reducible refine KR ?_)
local macro_rules | `(tactic| walk_at "evG")=> `(tactic| first
 | ((with_reducible show mK _ (Oi _ _) _ _ _); with_reducible refine cj (by walk_at "at") ?_)
 | with_reducible refine Ge rfl (by walk_at "u") ?_)
local macro_rules | `(tactic| walk_at "evGs")=> `(tactic| first
 | with_reducible refine HL ?_
 | ((with_reducible show tU _ (_::_) _ _ _); with_reducible refine Eh (by walk_at "at") ?_))
local macro_rules | `(tactic| walk_at "evL")=> `(tactic| first
 | ((with_reducible show Nx _ _ _ _); with_reducible refine oS (by walk_at "sset") ?_)
 | ((with_reducible show Sd _ _); first | with_reducible refine Sd.mk (by walk_at "side") ?_ | with_reducible refine Sd.mk ?_ ?_)
 | ((with_reducible show nJ _ _ _); first
  | with_reducible refine KH ?_
  | with_reducible refine KI ?_
  | with_reducible refine D9 ?_
  | with_reducible refine D0 (fun h=>?_) (fun h=>?_)
  | with_reducible refine if2 (fun h=>?_) (fun h=>?_))
 | with_reducible refine i2 ?_
 | with_reducible refine i1 ?_
 | with_reducible refine b1 ?_
 | ((with_reducible show Ea _ _ _); first
  | with_reducible refine Eb ?_
  | with_reducible refine eqp_bl ?_
  | with_reducible refine eqp_str ?_)
 | ((with_reducible show k9 _ _ _); first
  | with_reducible refine AH ?_
  | with_reducible refine AI ?_
  | with_reducible refine AJ ?_)
 | ((with_reducible show DZ _ _); first
  | with_reducible refine Gh ?_
  | with_reducible refine cK ?_)
 | ((with_reducible show IsN _ _); first
  | with_reducible refine isn_t ?_
  | with_reducible refine isn_f (by intro q; cases q) ?_)
 | ((with_reducible show JY _ _ _); first
  | refine i7 (by rfl) ?_
  | refine k8 (by rfl) ?_)
 | ((with_reducible show HW _ _ _ _); first
  | with_reducible refine EV.HW.lst ?_
  | with_reducible refine EV.HW.tup ?_)
 | ((with_reducible show ∃ ys,D.row _=some ys∧_); refine AK (by rfl) ?_)
 | ((with_reducible show ∃ t b,xR _ _ t∧_); first
  | with_reducible refine Ia .int Ik ?_
  | with_reducible refine Ia .int (Txt.ib (by assumption)) ?_
  | with_reducible refine Ia .bl kit_bb ?_
  | with_reducible refine Ia .lst Im ?_
  | with_reducible refine Ia .tup Il ?_)
 | ((with_reducible show ∃ j d,D.int _=D.int j∧_); refine ⟨_,_,rfl,(by walk_at "atI"),?_⟩)
 | ((with_reducible show ∃ r,_∧HN _ _ _ r); walk_at "evR"))
local macro_rules | `(tactic| walk_at "ev1")=> `(tactic| first
 | ((with_reducible show aF _ _ _ _); walk_at "evE")
 | ((with_reducible show dw _ _ _ _); walk_at "evX")
 | ((with_reducible show jE _ _ _ _); walk_at "evT")
 | ((with_reducible show aY _ _ _ _ _); walk_at "evSs")
 | ((with_reducible show fu _ _ _ _ _); walk_at "evS")
 | ((with_reducible show qF _ _ _ _); first | with_reducible refine cX ?_ | with_reducible refine k7 ?_)
 | ((with_reducible show F9 _ _ _ _); walk_at "evW")
 | ((with_reducible show mK _ _ _ _ _); walk_at "evG")
 | ((with_reducible show tU _ _ _ _ _); walk_at "evGs")
 | ((with_reducible show Dt _ _ _ _); first | with_reducible refine HU ?_ | with_reducible refine HV ?_)
 | walk_at "evL")
local macro_rules | `(tactic| walk_at "ev")=> `(tactic| repeat' (walk_at "ev1"))
section
variable {K:NZ}
noncomputable def sO:Fn:=fun ds r=>∃ l:List Int,l.length≤64∧ds=[.tup (l.map .int)]∧r=.ok (.va (.tup ((trim l).map .int)))
theorem Jk (h:l.length≤64):sO [.tup (l.map .int)] (.ok (.va (.tup ((trim l).map .int)))):=⟨l,h,rfl,rfl⟩
theorem Cj {cl:List Int} {j:Int} (h0:0≤j) (h1:j<cl.length) (h:R (.int (cl.getD j.toNat 0))):JY (.tup (cl.map D.int)) (.int j) R:=by
 refine i7 ?_ h
 rw [eS h0 (by simpa using h1)]
 have hj:j.toNat<cl.length:=by lia
 simp [Oc,hj]
theorem Fv (Fu:fL K "trimmed" "trimmed" iJ f fd) (T:Txt K mg):bx P w K mg base (dP P w) 1 f fd ["powers"] (fO K sO):=by
 refine cZ Fu uL uM (by rintro ds r ⟨a,_,rfl,_⟩; rfl) (by rintro ds r ⟨a,_,_,rfl⟩; exact ⟨_,rfl⟩) fun c hq ds sl hF=>?_
 obtain ⟨l,hl,rfl,e⟩:=hF
 injection e with e
 subst e
 show aY c _ [.va (.tup (l.map .int)),.un] _ _
 conv in (az _)=>whnf
 walk_at "ev"
 with_reducible refine vL hq (fun m ρ'=>m≤l.length∧trim (l.take m)=trim l∧ρ'=[.va (.tup (l.map .int)),.va (.int (m:Int))]) (m₀:=l.length) ?_ ?_
 ·refine ⟨N3 _,by rw [OX],?_⟩
  rw [N6]
 ·rintro m ρ' ⟨hm,ht,rfl⟩
  walk_at "ev"
  ·refine Cj (by lia) (by lia) ?_
   have hk:((m:Int) - 1).toNat=m - 1:=by lia
   rw [hk]
   have hm1:m - 1+1=m:=by lia
   walk_at "ev"
   ·exact ⟨m - 1,by lia,by lia,nZ (by lia) (by assumption) (by rw [hm1]; exact ht),by rw [show ((m - 1:Nat):Int)=(m:Int) - 1 by lia]⟩
   ·show Sl.va _=Sl.va _
    rw [qU,Bh _ hm]
    have:=jO (l:=l) (m:=m - 1) (by lia) (by assumption) (by rw [hm1]; exact ht)
    rw [hm1] at this
    rw [this]
  ·show Sl.va _=Sl.va _
   have:m=0:=by lia
   subst this
   rw [qU,Bh _ hm,← ht]
   rfl
theorem jW (x):(aO x).nl:=tZ (by unfold D.qg; exact ⟨tZ (Ew _),dR (f:=D.int) (l:=[x.2]) fun _ _=>lB⟩)
noncomputable def Fw (t:aJ):Option D:=if t.2≠0 then some (aO t) else none
theorem kN:∀ L:List aJ,(L.map Fw).filterMap id=(nz L).map aO
 | []=>rfl
 | t::L=>by
  unfold nz
  by_cases h:t.2=0
  ·simp only [N5,Fw,h,ne_eq,not_true,if_false,Pp,id,List.filter_cons,bne_self_eq_false,OV]
   exact kN L
  ·have hb:(t.2 != 0)=true:=by simpa using h
   rw [List.filter_cons,if_pos hb,N5,N5,Pp]
   simp only [Fw,ne_eq,h,not_false_eq_true,if_true,id]
   rw [kN L]; rfl
noncomputable def p9:Fn:=fun ds r=>∃ ts:List aJ,ts.length≤20000∧(∀ t∈ts,t.1.length≤64)∧ds=[.lst (ts.map aO)]∧r=.ok (.ow ((fH (nz (aI ts))).map aO))
theorem uW (h:ts.length≤20000) (h2:∀ t∈ts,t.1.length≤64):p9 [.lst (ts.map aO)] (.ok (.ow ((fH (nz (aI ts))).map aO))):=⟨ts,h,h2,rfl,rfl⟩
theorem Ck (l m):cO (l,0) (m,0)=HT.lexLt l m:=by
 unfold cO
 by_cases e:l=m
 ·subst e; rw [if_pos rfl,EV.kJ]; rfl
 ·rw [if_neg e]
theorem uX (hk:(A.map (·.1)).Nodup) (hp:L.Perm (A.map (·.1))) (hs:fR HT.lexLt false L):L.reverse=(fH A).map (·.1):=by
 have h:(L.reverse.map fun l=>((l,0):aJ))=((fH A).map (·.1)).map fun l=>((l,0):aJ):=by
  refine lT (((Ss L).trans (hp.trans ((bD A).map _).symm)).map _) ?_ ?_
  ·unfold jj fR at *
   rw [P8,List.pairwise_reverse]
   exact hs.imp fun h=>by simpa [Ck] using h
  ·have ho:jj true (fH A):=gX (keys_nodup hk)
   have hn:((fH A).map (·.1)).Nodup:=((bD A).map _).nodup_iff.mpr hk
   unfold jj fR Ri at *
   rw [P8] at hn
   rw [P8,P8]
   refine ho.imp₂ (fun x y h q=>?_) hn
   simp only [if_true] at h ⊢
   rw [Ck]
   unfold cO at h
   rw [if_neg fun z=>q z.symm] at h
   exact h
 have:=congrArg (List.map (·.1)) h
 rw [Ow,Ow] at this
 exact ((List.map_id _).symm.trans this).trans (List.map_id _)
theorem Cm {l:List Int} (h:m<l.length):jB ((l.take (m+1)).map D.int) (-1)=some (.int (l.getD m 0)):=by
 have hl:(l.take (m+1)).length=m+1:=by simp; lia
 rw [v7 (by decide) (by simp only [N6,hl]; lia),N6,hl]
 have e:(-1+((m+1:Nat):Int)).toNat=m:=by lia
 rw [e,Oc,List.getElem?_take]
 simp [O9,h]
theorem Jl (xs:List α):EV.cutD xs none (some (-1))=xs.dropLast:=by
 unfold EV.cutD HT.cg
 rw [List.dropLast_eq_take]
 simp only [List.drop_zero]
 congr 1
 split <;> lia
section
local macro_rules | `(tactic| walk_at "evIx")=> `(tactic| first | ((with_reducible show aF _ (Px _ (Oi _ _) _) _ _); with_reducible refine Jf ?_))
local macro_rules | `(tactic| walk_at "evX")=> `(tactic| first | ((with_reducible show dw _ (Expr.Dict _ _ _) _ _); with_reducible refine Ep ?_))
theorem Cn (Fu:fL K "_law_plain" "_law_plain" iM f fd) (T:Txt K mg):bx P w K mg base (dP P w) 1 f fd ["_law_terms_here"] (fO K p9):=by
 refine cZ Fu uN uO (by rintro ds r ⟨n,_,_,rfl,_⟩; rfl) (by rintro ds r ⟨n,_,_,_,rfl⟩; exact ⟨_,rfl⟩) fun c hq ds sl hF=>?_
 obtain ⟨ts,hl,hlen,rfl,e⟩:=hF
 injection e with e
 subst e
 show aY c _ [.va (.lst (ts.map aO)),.un,.un,.un,.un] _ _
 conv in (az _)=>whnf
 walk_at "ev"
 with_reducible refine cJ hq (bX ?_)
 walk_at "ev"
 refine ⟨fun i ρ'=>∃ s2 s3 s4:Sl,ρ'=[.va (.lst (ts.map aO)),.oT (encA (aI (ts.take i))),s2,s3,s4],⟨_,_,_,rfl⟩,?_,?_⟩
 ·rintro c' ou zk zm i d ρ' hd ⟨s2,s3,s4,rfl⟩
  simp only [Oc,Oh] at hd
  obtain ⟨t,ht,rfl⟩:=hd
  obtain ⟨hi,rfl⟩:=Oa.mp ht
  have h6:=hlen _ (OG hi)
  have hsz:(aI (ts.take i)).length<sizeLine:=iG (by have:=gW (ts.take i); rw [Pc] at this; lia)
  have e:aI (ts.take (i+1))=putD (aI (ts.take i)) (trim ts[i].1) ((bz (aI (ts.take i)) (trim ts[i].1)).getD 0+ts[i].2):=by
   rw [O3 hi,rM]; rfl
  have hq':c'.X.xe=fun _ _=>False:=by rw [ou]; exact hq
  generalize aI (ts.take i)=A at hsz e ⊢
  generalize ts[i]=t at h6 e ⊢
  show mK c' _ (D.tup [.tup (t.1.map .int),.int t.2]) _ _
  walk_at "ev"
  with_reducible refine vL hq' (fun m ρ'=>m≤t.1.length∧trim (t.1.take m)=trim t.1∧ρ'=[.va (.lst (ts.map aO)),.oT (encA A),.va (.tup (t.1.map .int)),.va (.int t.2),.va (.tup ((t.1.take m).map .int))]) (m₀:=t.1.length) ?_ ?_
  ·exact ⟨N3 _,by rw [OX],by rw [OX]⟩
  ·rintro m ρ' ⟨hm,ht,rfl⟩
   have hL:((t.1.take m).map D.int).length=m:=by simp; lia
   walk_at "ev"
   ·rw [hL] at *
    obtain ⟨n,rfl⟩:∃ n,m=n+1:=⟨m - 1,by omega⟩
    refine i7 (Cm (by omega)) ?_
    walk_at "ev"
    ·refine ⟨n,by omega,by omega,nZ (by omega) (by assumption) ht,?_⟩
     rw [Jl,jN (by omega),OD,List.map_singleton,List.dropLast_concat]
    ·have eT:t.1.take (n+1)=trim t.1:=by first | exact jO (by omega) (by assumption) ht | exact (jO (by omega) (by assumption) ht).symm
     rw [eT]
     refine ⟨_,Bm (A:=A) rfl _,?_⟩
     rw [rN]
     walk_at "ev"
     refine ⟨_,Bo hsz,?_⟩
     walk_at "ev"
     show ∃ s2 s3 s4:Sl,_=[_,Sl.oT (encA (aI (ts.take (i+1)))),s2,s3,s4]
     rw [e]
     exact ⟨_,_,_,rfl⟩
   ·have:m=0:=by rw [hL] at *; omega
    subst this
    have eT:t.1.take 0=trim t.1:=ht
    rw [eT]
    refine ⟨_,Bm (A:=A) rfl _,?_⟩
    rw [rN]
    walk_at "ev"
    refine ⟨_,Bo hsz,?_⟩
    walk_at "ev"
    show ∃ s2 s3 s4:Sl,_=[_,Sl.oT (encA (aI (ts.take (i+1)))),s2,s3,s4]
    rw [e]
    exact ⟨_,_,_,rfl⟩
 ·rintro ρ' ⟨s2,s3,s4,rfl⟩
  rw [N6,OX]
  have hn:=keys_nodup (d9 ts)
  have hn':=d9 ts
  have hle:=gW ts
  with_reducible refine aP ?_
  with_reducible refine d7 ?_
  refine t8 1 (by walk_at "at") (encK _) (by walk_at "sset") (c7 hq (N':=["_law_key","_law_found"]) (ρ0:=fun _=>[.un,.va (D.fdT ((aI ts).map fun t=>t.1.map Oq) ((aI ts).map fun t=>D.int t.2))]) (fun t=>.un (.fr (by walk_at "at") (by walk_at "at") (by decide) rfl .nil)) (bX (e_x (Ly ?_))))
  refine e_x (Ca (Txt.sorted T) ?_)
  walk_at "ev"
  refine ⟨(aI ts).map (·.1),_,by rw [Ow]; rfl,hn',fun L' hp hs=>?_⟩
  have eL:=uX hn' hp hs
  have hpl:=(bD (aI ts)).length_eq
  refine cK ?_
  walk_at "ev"
  refine ⟨rfl,rfl,rfl,_,rfl,?_⟩
  rw [← List.map_reverse,eL]
  refine cK (AK rfl ⟨uA (by simp only [N6]; omega),(fH (aI ts)).map Fw,by simp,?_,?_⟩)
  ·intro c' hc t i d o hd ho
   simp only [Oc,Oh] at hd ho
   obtain ⟨n,⟨x,hx,rfl⟩,rfl⟩:=hd
   obtain ⟨x',hx',rfl⟩:=ho
   rw [hx] at hx'; cases hx'
   have hm:x∈aI ts:=(bD (aI ts)).subset (Pe hx)
   have hv:bz (encA (aI ts)) (x.1.map Oq)=some (.int x.2):=by
    rw [pB,pK hn' hm]; rfl
   refine cj (by walk_at "at") (oS (by walk_at "sset") ⟨.un (.same .nil),?_⟩)
   simp only [mP]
   walk_at "ev"
   refine ⟨encA (aI ts),_,_,_,?_,rfl,fG x.1,hv,?_⟩
   ·show _=D.fdT (((aI ts).map _).map _) (((aI ts).map _).map _)
    rw [Ow,Ow]; rfl
   walk_at "ev"
   ·unfold Fw; rw [if_neg fun h=>h (by assumption)]
   refine ⟨encA (aI ts),_,_,_,?_,rfl,fG x.1,hv,?_⟩
   ·show _=D.fdT (((aI ts).map _).map _) (((aI ts).map _).map _)
    rw [Ow,Ow]; rfl
   walk_at "ev"
   unfold Fw
   rw [if_pos (by assumption)]
  ·rw [kN,Bl (keys_nodup hn')]
   exact ⟨dR fun x _=>jW x,rfl⟩
end
end
section
variable {K:NZ}
noncomputable def Fx (p:List Int) (g:Nat→Int) (k:Nat):Int:=if bU p k>g k then bU p k else g k
noncomputable def gk (L:List aJ) (k:Nat):Int:=L.foldl (fun a t=>if bU t.1 k>a then bU t.1 k else a) 0
noncomputable def eG (L:List aJ):List Int:=(OQ 6).map (gk L)
noncomputable def iQ (p:List Int) (g:Nat→Int) (j k:Nat):Int:=if k<j then Fx p g k else g k
theorem xm (L:List aJ) (k):∀ a:Int,a≤L.foldl (fun a t=>if bU t.1 k>a then bU t.1 k else a) a:=by
 induction L with
 | nil=>exact fun a=>Pn _
 | cons t L ih =>
  intro a
  rw [Pr]
  refine OI ?_ (ih _)
  split <;> lia
theorem GD (L) (k):0≤gk L k:=xm L k 0
theorem Fy (L) (t):gk (L++[t])=Fx t.1 (gk L):=by
 funext k
 unfold gk Fx
 rw [Ua]; rfl
theorem Fz:iQ p (gk L) p.length=Fx p (gk L):=by
 funext k
 unfold iQ
 split
 ·rfl
 ·unfold Fx
  rw [cP (by lia)]
  have:=GD L k
  rw [if_neg (by lia)]
theorem Co (p) (g):iQ p g 0=g:=by funext k; unfold iQ; rw [if_neg (by lia)]
noncomputable def fZ (g:Nat→Int):List D:=((OQ 6).map g).map D.int
theorem Cp (p) (g) (h:j<6) (q:Fx p g j=bU p j):(fZ (iQ p g j)).set j (.int (bU p j))=fZ (iQ p g (j+1)):=by
 refine Sz (by simp [fZ]) fun i h1 h2=>?_
 have hi:i<6:=by simpa [fZ] using h2
 rw [List.getElem_set]
 simp only [fZ,Ug,TX]
 unfold iQ
 by_cases e:j=i
 ·subst e
  rw [if_pos rfl,if_pos (by lia),q]
 ·rw [if_neg e]
  by_cases z:i<j
  ·rw [if_pos z,if_pos (by lia)]
  ·rw [if_neg z,if_neg (by lia)]
theorem yY (p) (g) (q:Fx p g j=g j):fZ (iQ p g j)=fZ (iQ p g (j+1)):=by
 unfold fZ
 congr 1
 refine P7 fun i _=>?_
 unfold iQ
 by_cases z:i<j
 ·rw [if_pos z,if_pos (by lia)]
 ·by_cases e:i=j
  ·subst e; rw [if_neg z,if_pos (by lia),q]
  ·rw [if_neg z,if_neg (by lia)]
theorem FA (g) {j:Nat} (h:j<6):jB (fZ g) (j:Int)=some (.int (g j)):=by
 rw [eS (by lia) (by simp [fZ]; lia),OW]
 simp [fZ,h]
noncomputable def mj:Fn:=fun ds r=>∃ L:List aJ,(∀ t∈L,t.1.length≤6)∧ds=[.lst (L.map aO)]∧r=.ok (.ow (fZ (gk L)))
theorem FD (h:∀ t∈L,t.1.length≤6):mj [.lst (L.map aO)] (.ok (.ow (fZ (gk L)))):=⟨L,h,rfl,rfl⟩
section
local macro_rules | `(tactic| walk_at "evPut")=> `(tactic| with_reducible refine IC (by walk_at "at") (by walk_at "at") (by walk_at "own") ?_)
local macro_rules | `(tactic| walk_at "evX")=> `(tactic| first | ((with_reducible show dw _ (Expr.BinOp _ Operator.Mult _ _) _ _); with_reducible refine Ll ?_))
local macro_rules | `(tactic| walk_at "evE")=> `(tactic| first | ((with_reducible show aF _ (Oi "PLACES" _) _ _); with_reducible refine tS (by assumption) ?_))
theorem Cq (Fu:fL K "greatest_powers" "greatest_powers" cD f fd) (T:Txt K mg) (PL:∃ tk:Tok,mg "PLACES"=some (.int 6 tk)):bx P w K mg base (dP P w) 1 f fd ["some"] (fO K mj):=by
 obtain ⟨tk,hPL⟩:=PL
 refine cZ Fu iK iL (by rintro ds r ⟨L,_,rfl,_⟩; rfl) (by rintro ds r ⟨L,_,_,rfl⟩; exact ⟨_,rfl⟩) fun c hq ds sl hF=>?_
 obtain ⟨L,hl,rfl,e⟩:=hF
 injection e with e
 subst e
 show aY c _ [.va (.lst (L.map aO)),.un,.un,.un,.un,.un] _ _
 conv in (az _)=>whnf
 walk_at "ev"
 refine ⟨_,rfl,?_⟩
 walk_at "ev"
 ·exact ⟨⟨by decide,by decide⟩,by decide⟩
 walk_at "ev"
 show fu c _ [.va (.lst (L.map aO)),.ow (fZ (gk [])),.un,.un,.un,.un] _ _
 with_reducible refine cJ hq (bX ?_)
 walk_at "ev"
 refine ⟨fun i ρ'=>∃ s2 s3 s4 s5:Sl,ρ'=[.va (.lst (L.map aO)),.ow (fZ (gk (L.take i))),s2,s3,s4,s5],⟨_,_,_,_,rfl⟩,?_,?_⟩
 ·rintro c' ou zk zm i d ρ' hd ⟨s2,s3,s4,s5,rfl⟩
  simp only [Oc,Oh] at hd
  obtain ⟨t,ht,rfl⟩:=hd
  obtain ⟨hi,rfl⟩:=Oa.mp ht
  have h6:=hl _ (OG hi)
  have hq':c'.X.xe=fun _ _=>False:=by rw [ou]; exact hq
  show mK c' _ (D.tup [.tup (L[i].1.map .int),.int L[i].2]) _ _
  walk_at "ev"
  have eg:gk (L.take (i+1))=iQ L[i].1 (gk (L.take i)) L[i].1.length:=by rw [O3 hi,Fy,Fz]
  generalize L[i]=t at h6 eg ⊢
  generalize gk (L.take i)=g at eg ⊢
  with_reducible refine cJ hq' (IG (Txt.enum (by assumption)) ?_)
  walk_at "ev"
  refine ⟨_,rfl,?_⟩
  refine ⟨fun j ρ'=>∃ s4 s5:Sl,ρ'=[.va (.lst (L.map aO)),.ow (fZ (iQ t.1 g j)),.va (.tup (t.1.map .int)),.va (.int t.2),s4,s5],⟨s4,s5,by rw [Co]⟩,?_,?_⟩
  ·rintro c2 hcX2 hcR2 hcM2 j d ρ' hd ⟨s4,s5,rfl⟩
   unfold lY at hd
   simp only [Oc,Oh,List.getElem?_zipIdx] at hd
   obtain ⟨⟨x,m⟩,⟨y,⟨z,hz,rfl⟩,e⟩,rfl⟩:=hd
   obtain ⟨rfl,rfl⟩:D.int z=x∧0+j=m:=by simpa using e
   obtain ⟨hj,rfl⟩:=Oa.mp hz
   have hj6:j<6:=by lia
   have ha:jB (fZ (iQ t.1 g j)) (((0+j:Nat):Int))=some (.int (g j)):=by
    rw [Qp,FA _ hj6]; unfold iQ; rw [if_neg (by lia)]
   have ep:bU t.1 j=t.1[j]:=dI hj
   have hj0:0+j=j:=Qp j
   rw [hj0] at ha ⊢
   show mK c2 _ (D.tup [.int (j:Nat),.int t.1[j]]) _ _
   walk_at "ev"
   ·refine ⟨j,rfl,⟨by simp [fZ]; lia,?_⟩⟩
    walk_at "ev"
    refine ⟨.va (.int (j:Nat)),.va (.int t.1[j]),?_⟩
    show [_,Sl.ow ((fZ (iQ t.1 g j)).set j (.int t.1[j])),_,_,_,_]=_
    rw [← ep,Cp t.1 g hj6 (by unfold Fx; rw [ep,if_pos (by assumption)])]
   ·refine ⟨.va (.int (j:Nat)),.va (.int t.1[j]),?_⟩
    rw [yY t.1 g (by unfold Fx; rw [ep,if_neg (by assumption)])]
  ·rintro ρ' ⟨s4,s5,rfl⟩
   rw [show (lY (t.1.map D.int)).length=t.1.length by simp [lY]]
   walk_at "ev"
   exact ⟨_,_,_,_,by rw [eg]⟩
 ·rintro ρ' ⟨s2,s3,s4,s5,rfl⟩
  rw [N6,OX]
  walk_at "ev"
  rfl
end
noncomputable def Dw (ns:List Int):Int:=ns.foldr max 0
theorem Cr:∀ {ns:List Int} {n:Int},n∈ns→n≤Dw ns
 | x::ns,n,h=>by
  show n≤max x (Dw ns)
  rcases Og.mp h with rfl | h
  ·lia
  ·have:=Cr h; lia
theorem GF:∀ (ns:List Int),0≤Dw ns
 | []=>Pn _
 | x::ns=>by show 0≤max x (Dw ns); have:=GF ns; lia
theorem uY:∀ {ns:List Int} {m:Int},0≤m→(∀ n∈ns,n≤m)→Dw ns≤m
 | [],_,h,_=>h
 | x::ns,m,h0,h=>by
  show max x (Dw ns)≤m
  have:=uY h0 fun n hn=>h n (Ob _ hn)
  have:=h x N9
  lia
theorem Cs (h:m∈eG L) (h2:∀ n∈eG L,n≤m):m=Dw (eG L):=by
 have h0:0≤m:=by
  unfold eG at h
  obtain ⟨k,_,rfl⟩:=Oo.mp h
  exact GD L k
 exact Int.le_antisymm (Cr h) (uY h0 h2)
end
section
variable {K:NZ}
noncomputable def Ct:Fn:=fun ds r=>∃ (p:List Int) (W:Nat),W≤10∧Bd (2 ^ W) p∧ds=[.tup (p.map .int),.int (W:Nat)]∧r=.ok (.va (.int (pk (2 ^ W) p)))
theorem LB (h:W≤10) (h2:Bd (2 ^ W) p):Ct [.tup (p.map .int),.int (W:Nat)] (.ok (.va (.int (pk (2 ^ W) p)))):=⟨p,W,h,h2,rfl,rfl⟩
section
local macro_rules | `(tactic| walk_at "evE")=> `(tactic| first | ((with_reducible show aF _ (Oi "PLACES" _) _ _); with_reducible refine tS (by assumption) ?_))
local macro_rules | `(tactic| walk_at "evBo")=> `(tactic| first | with_reducible refine Gs ?_ | with_reducible refine Gu ?_ | with_reducible refine Br ?_)
theorem Jm (Fu:fL K "key_of" "key_of" jS f fd) (T:Txt K mg) (PL:∃ tk:Tok,mg "PLACES"=some (.int 6 tk)):bx P w K mg base (dP P w) 1 f fd ["powers","width"] (fO K Ct):=by
 obtain ⟨tk,hPL⟩:=PL
 refine cZ Fu yQ yR (by rintro ds r ⟨p,W,_,_,rfl,_⟩; rfl) (by rintro ds r ⟨p,W,_,_,_,rfl⟩; exact ⟨_,rfl⟩) fun c hq ds sl hF=>?_
 obtain ⟨p,W,hW,hp,rfl,e⟩:=hF
 injection e with e
 subst e
 have h6:=hp.1
 show aY c _ [.va (.tup (p.map .int)),.va (.int (W:Nat)),.un,.un] _ _
 conv in (az _)=>whnf
 walk_at "ev"
 with_reducible refine cJ hq (bX ?_)
 walk_at "ev"
 refine ⟨fun i ρ'=>∃ s3:Sl,ρ'=[.va (.tup (p.map .int)),.va (.int (W:Nat)),.va (.int (E8 (2 ^ W) (p.take i))),s3],⟨_,rfl⟩,?_,?_⟩
 ·rintro c' ou zk zm i d ρ' hd ⟨s3,rfl⟩
  simp only [Oc,Oh] at hd
  obtain ⟨x,hx,rfl⟩:=hd
  obtain ⟨hi,rfl⟩:=Oa.mp hx
  have bd:=BE (two_pos W) (p:=p.take i) fun x hx=>hp.2 x (Se hx)
  have hl:(p.take i).length≤6:=by rw [Pc]; lia
  walk_at "ev"
  ·exact ⟨by lia,by lia,wR hW hl bd.1 bd.2⟩
  ·refine ⟨.va (.int p[i]),?_⟩
   rw [O3 hi,BD,OW]
 ·rintro ρ' ⟨s3,rfl⟩
  rw [N6,OX]
  have bd:=BE (two_pos W) hp.2
  have ew:(W:Int) * (6 - ((p.map D.int).length:Nat))=((W * (6 - p.length):Nat):Int):=by
   rw [N6,Int.natCast_mul,Int.ofNat_sub h6]; rfl
  have ew2:W * (6 - p.length)≤60:=Od (RA hW (Nat.sub_le 6 _)) (by decide)
  walk_at "ev"
  ·exact qW (by lia)
  ·rw [ew]; exact ⟨by lia,by lia,wR hW h6 bd.1 bd.2⟩
  ·show Sl.va _=Sl.va _
   rw [ew,OW,Int.pow_mul,IS h6]
end
theorem cQ {α:Type} (f:α→D):∀ L:List α,(L.map fun t=>some (f t)).filterMap id=L.map f
 | []=>rfl
 | x::L=>by
  rw [N5,N5,Pp]
  exact congrArg (f x:: ·) (cQ f L)
noncomputable def sP:Fn:=fun ds r=>∃ (x:Int) (W:Nat),W≤10∧0≤x∧ds=[.int x,.int (W:Nat)]∧r=.ok (.va (.tup ((Mj (2 ^ W) x).map .int)))
theorem Jo (h:W≤10) (h2:0≤x):sP [.int x,.int (W:Nat)] (.ok (.va (.tup ((Mj (2 ^ W) x).map .int)))):=⟨x,W,h,h2,rfl,rfl⟩
section
local macro_rules | `(tactic| walk_at "evE")=> `(tactic| first | ((with_reducible show aF _ (Oi "PLACES" _) _ _); with_reducible refine tS (by assumption) ?_))
local macro_rules | `(tactic| walk_at "evBo")=> `(tactic| first | with_reducible refine Gs ?_ | with_reducible refine Gu ?_ | with_reducible refine Br ?_)
local macro_rules | `(tactic| walk_at "evXC")=> `(tactic| first | with_reducible refine x_call (F:=sO) (by assumption) (by decide) ?_)
theorem FE (Fu:fL K "powers_of" "powers_of" fU f fd) (T:Txt K mg) (PL:∃ tk:Tok,mg "PLACES"=some (.int 6 tk)) (h1:cG P w K mg base 1 "trimmed" sO):bx P w K mg base (dP P w) 2 f fd ["key","width"] (fO K sP):=by
 obtain ⟨tk,hPL⟩:=PL
 refine cZ Fu pU pV (by rintro ds r ⟨x,W,_,_,rfl,_⟩; rfl) (by rintro ds r ⟨x,W,_,_,_,rfl⟩; exact ⟨_,rfl⟩) fun c hq ds sl hF=>?_
 obtain ⟨x,W,hW,hx,rfl,e⟩:=hF
 injection e with e
 subst e
 show aY c _ [.va (.int x),.va (.int (W:Nat)),.un] _ _
 conv in (az _)=>whnf
 walk_at "ev"
 ·exact ⟨by lia,by lia,by decide⟩
 walk_at "ev"
 rw [OW]
 refine e_x (c7 hq (N':=["k","key","mask","width"]) (ρ0:=fun _=>[.un,.va (.int x),.va (.int (1 * 2 ^ W - 1)),.va (.int (W:Nat))]) (fun t=>.un (.fr (by walk_at "at") (by walk_at "at") (by decide) rfl (.fr (by walk_at "at") (by walk_at "at") (by decide) rfl (.fr (by walk_at "at") (by walk_at "at") (by decide) rfl .nil)))) (IJ (Txt.range T) ?_))
 walk_at "ev"
 refine ⟨rfl,⟨⟨by decide,by decide⟩,⟨⟨by decide,by decide⟩,⟨by decide,?_⟩⟩⟩⟩
 refine ⟨(OQ 6).map fun (i:Nat)=>some (.int (x / (2 ^ W) ^ (5 - i) % 2 ^ W)),rfl,?_,cK ?_⟩
 ·intro c' hc t i d o hd ho
  unfold Bw at hd
  simp only [Oc,Oh] at hd ho
  obtain ⟨a,ha,rfl⟩:=hd
  obtain ⟨a',ha',rfl⟩:=ho
  have hi:i<6:=by simpa using (Oa.mp ha').1
  rw [Q3 hi] at ha'; cases ha'
  rw [show (6 - 1 - -1:Int).toNat=6 by decide,Q3 hi] at ha; cases ha
  refine cj (by walk_at "at") (oS (by walk_at "sset") ⟨.un (.same (.same (.same .nil))),?_⟩)
  simp only [mP]
  refine ⟨fun _=>?_,fun h=>by cases h⟩
  have e5:((W:Int) * (6 - 1 - (i:Int))).toNat=W * (5 - i):=by
   rw [show ((6:Int) - 1 - (i:Int))=((5 - i:Nat):Int) by lia,← Int.natCast_mul,OW]
  have e6:(0:Int)≤(W:Int) * (6 - 1 - (i:Int)):=Int.mul_nonneg (by lia) (by lia)
  have hp:(0:Int)<(2 ^ W) ^ (5 - i):=QK (two_pos W)
  walk_at "ev"
  ·exact qW (by lia)
  ·show some _=some (D.int _)
   rw [e5,Int.pow_mul,yy W (Int.ediv_nonneg hx (by lia))]
 ·refine ⟨_,rfl,?_⟩
  rw [cQ (fun (i:Nat)=>D.int (x / (2 ^ W) ^ (5 - i) % 2 ^ W)) (OQ 6),show ((OQ 6).map fun (i:Nat)=>D.int (x / (2 ^ W) ^ (5 - i) % 2 ^ W))=((OQ 6).map fun (i:Nat)=>x / (2 ^ W) ^ (5 - i) % 2 ^ W).map D.int by rw [Ow]; rfl]
  walk_at "ev"
  exact aS (Jk (by simp)) rfl
end
noncomputable def sQ (b:Int) (t:aJ):D:=.tup [.int (pk b t.1),.int t.2]
noncomputable def sR:Fn:=fun ds r=>∃ (L:List aJ) (W:Nat),W≤10∧L.length≤20000∧(∀ t∈L,Bd (2 ^ W) t.1)∧ds=[.lst (L.map aO),.int (W:Nat)]∧r=.ok (.ow (L.map (sQ (2 ^ W))))
theorem Jp {L:List aJ} (h:W≤10) (h1:L.length≤20000) (h2:∀ t∈L,Bd (2 ^ W) t.1):sR [.lst (L.map aO),.int (W:Nat)] (.ok (.ow (L.map (sQ (2 ^ W))))):=⟨L,W,h,h1,h2,rfl,rfl⟩
section
local macro_rules | `(tactic| walk_at "evCa")=> `(tactic| first | with_reducible refine cY (F:=Ct) (by assumption) (by decide) ?_)
theorem FF (Fu:fL K "packed" "packed" jT f fd) (T:Txt K mg) (h1:cG P w K mg base 1 "key_of" Ct):bx P w K mg base (dP P w) 2 f fd ["some","width"] (fO K sR):=by
 refine cZ Fu yS yT (by rintro ds r ⟨L,W,_,_,_,rfl,_⟩; rfl) (by rintro ds r ⟨L,W,_,_,_,_,rfl⟩; exact ⟨_,rfl⟩) fun c hq ds sl hF=>?_
 obtain ⟨L,W,hW,hL,hb,rfl,e⟩:=hF
 injection e with e
 subst e
 show aY c _ [.va (.lst (L.map aO)),.va (.int (W:Nat))] _ _
 conv in (az _)=>whnf
 refine aP (d7 (c7 hq (N':=["powers","number","width"]) (ρ0:=fun _=>[.un,.un,.va (.int (W:Nat))]) (fun t=>.un (.un (.fr (by walk_at "at") (by walk_at "at") (by decide) rfl .nil))) (bX ?_)))
 walk_at "ev"
 ·exact uA (by rw [N6]; lia)
 refine ⟨L.map fun t=>some (sQ (2 ^ W) t),by simp,?_,by show Sl.ow _=Sl.ow _; rw [cQ]⟩
 intro c' hc t i d o hd ho
 simp only [Oc,Oh] at hd ho
 obtain ⟨x,hx,rfl⟩:=hd
 obtain ⟨x',hx',rfl⟩:=ho
 rw [hx] at hx'; cases hx'
 have hbx:=hb x (Pe hx)
 show mK c' _ (.tup [.tup (x.1.map .int),.int x.2]) _ _
 walk_at "ev"
 refine ⟨.un (.un (.same .nil)),?_⟩
 simp only [mP]
 refine ⟨fun _=>?_,fun h=>by cases h⟩
 walk_at "ev"
 refine aS (LB hW hbx) ?_
 walk_at "ev"
 rfl
end
end
section
variable {P:Program} {w:World} {K:NZ} {mg:Str→Option Value} {base:Heap}
noncomputable def FG:Mi:=fun kvs ds Z=>∃ (ts A B:List aJ) (W:Nat),W≤10∧ts.length+A.length * B.length≤20000∧A.length≤20000∧B.length≤20000∧(∀ t∈ts,Bd (2 ^ W) t.1)∧(∀ l∈A,∀ r∈B,Bd (2 ^ W) (cA l.1 r.1)∧EV.MulOk l.2 r.2) ∧
 kvs=cI ((aI ts).map (gz (2 ^ W)))∧ds=[.lst (A.map (sQ (2 ^ W))),.lst (B.map (sQ (2 ^ W)))]∧Z=fun kvs'=>kvs'=cI ((aI (ts++aL A B)).map (gz (2 ^ W)))
section
local macro_rules | `(tactic| walk_at "evS")=> `(tactic| first | ((with_reducible show fu _ (SJ (Px (Oi _ _) _ _) SY _ _) _ _ _); with_reducible refine vU (by walk_at "at") (by walk_at "at") ?_ (ho:=by walk_at "own")))
theorem Jq (Fu:fL K "add_products" "add_products" dN f fd) (T:Txt K mg):bx P w K mg base (dP P w) 1 f fd ["total","left","right"] (Iz K FG):=by
 refine Lj Fu kq kr (by rintro kvs ds Z ⟨t0,A,B,W,_,_,_,_,_,_,_,rfl,_⟩; rfl) fun c hq q kvs ds Z hF=>?_
 obtain ⟨t0,A,B,W,hW,hl,hA,hB,hb0,hp,rfl,rfl,rfl⟩:=hF
 have e00:t0=t0++aL (A.take 0) B:=by show t0=t0++[]; rw [O7]
 rw [show cI ((aI t0).map (gz (2 ^ W)))=cI ((aI (t0++aL (A.take 0) B)).map (gz (2 ^ W))) by rw [← e00]]
 show aY c _ [.aK q (cI ((aI (t0++aL (A.take 0) B)).map (gz (2 ^ W)))),.va (.lst (A.map (sQ (2 ^ W)))),.va (.lst (B.map (sQ (2 ^ W)))),.un,.un,.un,.un,.un] _ _
 conv in (az _)=>whnf
 walk_at "ev"
 with_reducible refine cJ hq (bX ?_)
 walk_at "ev"
 refine ⟨fun i ρ'=>∃ s3 s4 s5 s6 s7:Sl,ρ'=[.aK q (cI ((aI (t0++aL (A.take i) B)).map (gz (2 ^ W)))),.va (.lst (A.map (sQ (2 ^ W)))),.va (.lst (B.map (sQ (2 ^ W)))),s3,s4,s5,s6,s7],⟨_,_,_,_,_,rfl⟩,?_,?_⟩
 ·rintro c' ou zk zm i d ρ' hd ⟨s3,s4,s5,s6,s7,rfl⟩
  simp only [Oc,Oh] at hd
  obtain ⟨l,hlx,rfl⟩:=hd
  obtain ⟨hi,rfl⟩:=Oa.mp hlx
  have hq':c'.X.xe=fun _ _=>False:=by rw [ou]; exact hq
  show mK c' _ (.tup [.int (pk (2 ^ W) A[i].1),.int A[i].2]) _ _
  walk_at "ev"
  with_reducible refine cJ hq' (bX ?_)
  walk_at "ev"
  have hpi:=hp A[i] (OG hi)
  have e0:t0++aL (A.take (i+1)) B=(t0++aL (A.take i) B)++B.map (dJ A[i]):=by
   rw [O3 hi,oi,Om]
  have hprev:∀ t∈t0++aL (A.take i) B,Bd (2 ^ W) t.1:=fun t ht=>by
   rcases OA.mp ht with z | z
   ·exact hb0 t z
   ·obtain ⟨l,hl,r,hr,rfl⟩:=gB z
    exact (hp l (Se hl) r hr).1
  have hlen:(t0++aL (A.take i) B).length+B.length≤20000:=by
   rw [OH,dB,Pc,Rv (by lia),SS,← RH]
   exact Od (Nat.add_le_add_left (Nat.mul_le_mul_right _ (by lia)) _) hl
  generalize A[i]=l at hpi e0 ⊢
  generalize t0++aL (A.take i) B=ts at e0 hprev hlen ⊢
  refine ⟨fun j ρ'=>∃ s5 s6 s7:Sl,ρ'=[.aK q (cI ((aI (ts++(B.take j).map (dJ l))).map (gz (2 ^ W)))),.va (.lst (A.map (sQ (2 ^ W)))),.va (.lst (B.map (sQ (2 ^ W)))),.va (.int (pk (2 ^ W) l.1)),.va (.int l.2),s5,s6,s7],⟨s5,s6,s7,by simp⟩,?_,?_⟩
  ·rintro c2 hcX2 hcR2 hcM2 j d ρ' hd ⟨s5,s6,s7,rfl⟩
   simp only [Oc,Oh] at hd
   obtain ⟨r,hrx,rfl⟩:=hd
   obtain ⟨hj,rfl⟩:=Oa.mp hrx
   obtain ⟨hb,hm⟩:=hpi B[j] (OG hj)
   have e1:ts++(B.take (j+1)).map (dJ l)=(ts++(B.take j).map (dJ l))++[dJ l B[j]]:=by
    rw [O3 hj,OD,Om]; rfl
   have hprev2:∀ t∈ts++(B.take j).map (dJ l),Bd (2 ^ W) t.1:=fun t ht=>by
    rcases OA.mp ht with z | z
    ·exact hprev t z
    ·obtain ⟨r,hr,rfl⟩:=Oo.mp z
     exact (hpi r (Se hr)).1
   have hlen2:(ts++(B.take j).map (dJ l)).length<20000:=by
    rw [OH,N6,Pc]; lia
   have key:=IQ (two_pos W) hprev2 (t:=dJ l B[j]) hb
   rw [← e1] at key
   generalize ts++(B.take j).map (dJ l)=us at key hlen2 ⊢
   generalize B[j]=r at key hb hm ⊢
   show mK c2 _ (.tup [.int (pk (2 ^ W) r.1),.int r.2]) _ _
   have ek:pk (2 ^ W) (dJ l r).1=pk (2 ^ W) l.1+pk (2 ^ W) r.1:=E9 _ _ _
   rw [ek] at key
   have hC:(cI ((aI us).map (gz (2 ^ W)))).length<sizeLine:=iG (by
    have:=gW us
    simp only [cI,N6]; lia)
   generalize (aI us).map (gz (2 ^ W))=C at key hC ⊢
   walk_at "ev"
   refine Gk (by walk_at "at") (by walk_at "at") ?_
   walk_at "ev"
   refine ⟨_,.k rfl rfl,?_⟩
   rw [jn]
   cases hv:bz C (pk (2 ^ W) l.1+pk (2 ^ W) r.1) with
   | some m =>
    rw [hv] at key
    show nJ _ _ true
    walk_at "ev"
    refine ⟨m,by rw [← show bz (cI C) (.inl (pk (2 ^ W) l.1+pk (2 ^ W) r.1))=some (D.int m) by rw [jn,hv]; rfl]; exact .k rfl rfl,?_⟩
    walk_at "ev"
    refine ⟨_,.k rfl rfl hC,?_⟩
    walk_at "ev"
    refine ⟨.va (.int (pk (2 ^ W) r.1)),.va (.int r.2),.va (.int (pk (2 ^ W) l.1+pk (2 ^ W) r.1)),?_⟩
    show [Sl.aK q (putD (cI C) (.inl (pk (2 ^ W) l.1+pk (2 ^ W) r.1)) (.int (m+l.2 * r.2))),_,_,_,_,_,_,_]=_
    rw [rX,show putD C (pk (2 ^ W) l.1+pk (2 ^ W) r.1) (m+l.2 * r.2)=_ from key]
   | none =>
    rw [hv] at key
    show nJ _ _ false
    walk_at "ev"
    refine ⟨_,.k rfl rfl hC,?_⟩
    walk_at "ev"
    refine ⟨.va (.int (pk (2 ^ W) r.1)),.va (.int r.2),.va (.int (pk (2 ^ W) l.1+pk (2 ^ W) r.1)),?_⟩
    show [Sl.aK q (putD (cI C) (.inl (pk (2 ^ W) l.1+pk (2 ^ W) r.1)) (.int (l.2 * r.2))),_,_,_,_,_,_,_]=_
    rw [rX,← RK (l.2 * r.2),show putD C (pk (2 ^ W) l.1+pk (2 ^ W) r.1) (0+l.2 * r.2)=_ from key]
  ·rintro ρ' ⟨s5,s6,s7,rfl⟩
   rw [N6,OX,← e0]
   walk_at "ev"
   exact ⟨_,_,_,_,_,rfl⟩
 ·rintro ρ' ⟨s3,s4,s5,s6,s7,rfl⟩
  rw [N6,OX]
  walk_at "ev"
  exact ⟨_,_,rfl,rfl⟩
end
noncomputable def J1 (C:List (Int×Int)):D:=.fdK ((cI C).map (·.1)) ((cI C).map (·.2))
theorem Cu (C):(cI C).map (·.1)=(C.map (·.1)).map Oq:=by unfold cI; rw [Ow,Ow]; rfl
noncomputable def Cv:Fn:=fun ds r=>∃ (ts:List aJ) (W:Nat),W≤10∧ts.length≤20000∧(∀ t∈ts,Bd (2 ^ W) t.1)∧ds=[J1 ((aI ts).map (gz (2 ^ W))),.int (W:Nat)]∧r=.ok (.ow ((bB ts).map aO))
theorem LC (h:W≤10) (h1:ts.length≤20000) (h2:∀ t∈ts,Bd (2 ^ W) t.1):Cv [J1 ((aI ts).map (gz (2 ^ W))),.int (W:Nat)] (.ok (.ow ((bB ts).map aO))):=⟨ts,W,h,h1,h2,rfl,rfl⟩
theorem uZ (h:fR ltI true L):L.Pairwise fun x y=>y<x:=by
 unfold fR at h
 exact h.imp fun {x y} q=>by simpa using q
section
local macro_rules | `(tactic| walk_at "evIx")=> `(tactic| with_reducible refine IT ?_)
local macro_rules | `(tactic| walk_at "evCa")=> `(tactic| first | with_reducible refine cY (F:=sP) (by assumption) (by decide) ?_)
theorem Jr (Fu:fL K "unpacked" "unpacked" gF f fd) (T:Txt K mg) (h1:cG P w K mg base 2 "powers_of" sP):bx P w K mg base (dP P w) 3 f fd ["total","width"] (fO K Cv):=by
 refine cZ Fu sA sC (by rintro ds r ⟨ts,W,_,_,_,rfl,_⟩; rfl) (by rintro ds r ⟨ts,W,_,_,_,_,rfl⟩; exact ⟨_,rfl⟩) fun c hq ds sl hF=>?_
 obtain ⟨ts,W,hW,hl,hb,rfl,e⟩:=hF
 injection e with e
 subst e
 show aY c _ [.va (J1 ((aI ts).map (gz (2 ^ W)))),.va (.int (W:Nat))] _ _
 conv in (az _)=>whnf
 refine aP (d7 (c7 hq (N':=["key","total","width"]) (ρ0:=fun _=>[.un,.va (J1 ((aI ts).map (gz (2 ^ W)))),.va (.int (W:Nat))]) (fun t=>.un (.fr (by walk_at "at") (by walk_at "at") (by decide) rfl (.fr (by walk_at "at") (by walk_at "at") (by decide) rfl .nil))) (bX (e_x (uq (Txt.sorted T) ?_)))))
 walk_at "ev"
 have hk:=d9 ts
 have hg:=pJ hb
 have nd:(((aI ts).map (gz (2 ^ W))).map (·.1)).Nodup:=by
  rw [Ow]
  unfold Ri at hk ⊢
  rw [P8] at hk ⊢
  exact Th.imp_of_mem (fun {x y} hx hy q z=>q (uw (two_pos W) (hg x hx).1 (hg y hy).1 (hg x hx).2 (hg y hy).2 z)) hk
 refine ⟨((aI ts).map (gz (2 ^ W))).map (·.1),_,by rw [← Cu]; rfl,nd,fun L' hp hs=>?_⟩
 have eL:=BC (two_pos W) hb hp (uZ hs)
 subst eL
 have hle:=gW ts
 have hpl:=(bD (aI ts)).length_eq
 refine cK (AK rfl ⟨uA (by simp only [N6]; lia),(fH (aI ts)).map Fw,by simp,?_,?_⟩)
 ·intro c' hc t i d o hd ho
  simp only [Oc,Oh] at hd ho
  obtain ⟨n,⟨x,hx,rfl⟩,rfl⟩:=hd
  obtain ⟨x',hx',rfl⟩:=ho
  rw [hx] at hx'; cases hx'
  have hm:x∈aI ts:=(bD (aI ts)).subset (Pe hx)
  have hv:bz (cI ((aI ts).map (gz (2 ^ W)))) (.inl (pk (2 ^ W) x.1))=some (.int x.2):=by
   rw [jn,uz (two_pos W) hg (hg x hm).1 (hg x hm).2,pK hk hm]; rfl
  refine cj (by walk_at "at") (oS (by walk_at "sset") ⟨.un (.same (.same .nil)),?_⟩)
  simp only [mP]
  have h0:=(Lp (two_pos W) (hg x hm).1).1
  walk_at "ev"
  refine ⟨_,_,_,rfl,rfl,hv,?_⟩
  walk_at "ev"
  ·unfold Fw; rw [if_neg fun h=>h (by assumption)]
  refine aS (Jo hW h0) ?_
  rw [IL (two_pos W) (hg x hm).1,(hg x hm).2]
  walk_at "ev"
  refine ⟨_,_,_,rfl,rfl,hv,?_⟩
  walk_at "ev"
  unfold Fw
  rw [if_pos (by assumption)]
 ·show Sl.ow _=Sl.ow _
  rw [kN,Bl (keys_nodup hk)]
  rfl
end
structure NG (A B:List aJ):Prop where
 la:A.length≤20000
 lb:B.length≤20000
 lp:A.length * B.length≤20000
 pa:∀ t∈A,t.1.length≤6∧∀ x∈t.1,0≤x∧x≤500
 pb:∀ t∈B,t.1.length≤6∧∀ x∈t.1,0≤x∧x≤500
 mu:∀ l∈A,∀ r∈B,EV.MulOk l.2 r.2
theorem xo:∀ {L:List aJ} (a:Int),a≤m→(∀ t∈L,bU t.1 k≤m)→L.foldl (fun a t=>if bU t.1 k>a then bU t.1 k else a) a≤m
 | [],_,h,_=>h
 | t::L,a,h,q=>by
  rw [Pr]
  have:=q t N9
  exact xo _ (by split <;> lia) fun u hu=>q u (Ob _ hu)
theorem Cw (h0:0≤m) (h:∀ t∈L,∀ x∈t.1,x≤m):Dw (eG L)≤m:=by
 refine uY h0 fun n hn=>?_
 unfold eG at hn
 obtain ⟨k,_,rfl⟩:=Oo.mp hn
 refine xo 0 h0 fun t ht=>?_
 by_cases z:k<t.1.length
 ·rw [dI z]; exact h t ht _ (OG _)
 ·rw [cP (by lia)]; exact h0
theorem Cy (ht:t∈L) (hl:t.1.length≤6) (hx:x∈t.1):x≤Dw (eG L):=by
 obtain ⟨k,hk,rfl⟩:=List.getElem_of_mem hx
 refine OI ?_ (Cr (show gk L k∈eG L from Oo.mpr ⟨k,by simp; lia,rfl⟩))
 unfold gk
 rw [← dI hk]
 suffices H:∀ a:Int,bU t.1 k≤L.foldl (fun a t=>if bU t.1 k>a then bU t.1 k else a) a from H 0
 induction L with
 | nil=>cases ht
 | cons u L ih =>
  intro a
  rw [Pr]
  rcases Og.mp ht with rfl | ht
  ·refine OI ?_ (xm L k _)
   split <;> lia
  ·exact ih ht _
theorem FH (h:0≤x):x<2 ^ Ph x:=by
 unfold Ph
 by_cases z:x=0
 ·subst z; decide
 ·have e:(x == 0)=false:=by simpa using z
  rw [e,if_neg Oe,gY]
  have:=Nat.lt_log2_self (n:=x.natAbs)
  lia
theorem bits_le (h:x.natAbs<1024):Ph x≤10:=by
 unfold Ph
 by_cases z:x=0
 ·subst z; decide
 ·have e:(x == 0)=false:=by simpa using z
  rw [e,if_neg Oe]
  have:=(Nat.log2_lt (n:=x.natAbs) (k:=10) (by lia)).mpr h
  lia
end
section
variable {P:Program} {w:World} {K:NZ} {mg:Str→Option Value} {base:Heap}
noncomputable abbrev Part:=Int×List (List aJ)
noncomputable def af (A:List aJ):D:=.lst (A.map aO)
noncomputable def gM (p:Part):D:=.tup (.int p.1::p.2.map af)
noncomputable def gZ (n:Int) (As:List (List aJ)):List aJ:=As.foldl aL (cT n)
noncomputable def fj (ps:List Part):List aJ:=ps.flatMap fun p=>gZ p.1 p.2
noncomputable def bK (As:List (List aJ)):Nat:=(As.map fun A=>max A.length 1).foldr (· * ·) 1
noncomputable def mE (A:List aJ):Int:=Dw (eG A)
noncomputable def u0 (As:List (List aJ)):MP:=(As.map mp).foldr (· * ·) 1
theorem Cz (As):∀ L:List aJ,mp (As.foldl aL L)=mp L * u0 As:=by
 induction As with
 | nil=>intro L; show mp L=mp L * 1; grind
 | cons A As ih =>
  intro L
  rw [Pr,ih,uH]
  show _=mp L * (mp A * u0 As)
  grind
theorem iR (n) (As):mp (gZ n As)=(n:MP) * u0 As:=by unfold gZ; rw [Cz,pR]
theorem CA (h:As.Perm Bs):u0 As=u0 Bs:=by
 induction h with
 | nil=>rfl
 | cons x _ ih=>exact congrArg (mp x * ·) ih
 | swap x y l=>show mp y * (mp x * u0 l)=mp x * (mp y * u0 l); grind
 | trans _ _ a b=>rw [a,b]
theorem CB (As) (A):u0 (As++[A])=u0 As * mp A:=by
 induction As with
 | nil=>show mp A * 1=1 * mp A; grind
 | cons B As ih=>show mp B * u0 (As++[A])=mp B * u0 As * mp A; rw [ih]; grind
theorem yZ (h:As.Perm Bs):bK As=bK Bs:=by
 unfold bK
 induction h with
 | nil=>rfl
 | cons x _ ih=>simp only [N5,Rx] at ih ⊢; rw [ih]
 | swap x y l=>simp only [N5,Rx]; rw [Nat.mul_left_comm]
 | trans _ _ a b=>rw [a,b]
theorem y9 (As) (A):bK (As++[A])=bK As * max A.length 1:=by
 unfold bK
 induction As with
 | nil=>simp
 | cons B As ih=>simp only [Pq,N5,Rx] at ih ⊢; rw [ih,Nat.mul_assoc]
theorem CC (As):1≤bK As:=by
 unfold bK
 induction As with
 | nil=>exact N3 _
 | cons B As ih=>simp only [N5,Rx]; exact RA (m₁:=1) (n₁:=1) (by lia) ih
theorem g6 (As) (i):bK (As.take i)≤bK As:=by
 induction As generalizing i with
 | nil=>simp
 | cons B As ih =>
  cases i with
  | zero=>exact CC _
  | succ i =>
   have:=ih i
   unfold bK at *
   simp only [List.take_succ_cons,N5,Rx]
   exact Nat.mul_le_mul_left _ this
noncomputable def Ex (m:Int) (L:List aJ):Prop:=∀ t∈L,t.1.length≤6∧∀ x∈t.1,0≤x∧x≤m
noncomputable def Bn (m:Nat) (L:List aJ):Prop:=∀ t∈L,t.2.natAbs<2 ^ m
theorem Ex.bd (h:Ex m L) (hm:m<2 ^ W):∀ t∈L,Bd (2 ^ W) t.1:=fun t ht=>⟨(h t ht).1,fun x hx=>⟨((h t ht).2 x hx).1,Sm ((h t ht).2 x hx).2 hm⟩⟩
theorem CD (h0:0≤m) (h:∀ x∈p,0≤x∧x≤m) (k):0≤bU p k∧bU p k≤m:=by
 by_cases z:k<p.length
 ·rw [dI z]; exact h _ (OG _)
 ·rw [cP (by lia)]; lia
theorem FI (h0:0≤m) (g0:0≤n) (hp:p.length≤6∧∀ x∈p,0≤x∧x≤m) (hq:q.length≤6∧∀ x∈q,0≤x∧x≤n):(cA p q).length≤6∧∀ x∈cA p q,0≤x∧x≤m+n:=by
 refine ⟨by rw [jo]; lia,fun x hx=>?_⟩
 unfold cA at hx
 obtain ⟨k,_,rfl⟩:=Oo.mp hx
 have:=CD h0 hp.2 k
 have:=CD g0 hq.2 k
 lia
theorem Ex.prod (h0:0≤m) (g0:0≤n) (h:Ex m A) (g:Ex n B):Ex (m+n) (aL A B):=fun t ht=>by
 obtain ⟨l,hl,r,hr,rfl⟩:=gB ht
 exact FI h0 g0 (h l hl) (g r hr)
theorem Ex.sum (h:Ex m L):Ex m (aI L):=by
 unfold aI
 suffices H:∀ (ts A:List aJ),Ex m A→Ex m ts→Ex m (ts.foldl fS A) from H L [] (fun t ht=>by cases ht) h
 intro ts
 induction ts with
 | nil=>exact fun A hA _=>hA
 | cons u ts ih =>
  refine fun A hA hts=>ih _ (fun t ht=>?_) fun t ht=>hts t (Ob _ ht)
  rcases r8 ht with rfl | q
  ·have:=hts u N9
   exact ⟨Od (gx _) this.1,fun x hx=>this.2 x (rV hx)⟩
  ·exact hA t q
theorem Ex.mono (h:Ex m L) (hn:m≤n):Ex n L:=fun t ht=>⟨(h t ht).1,fun x hx=>⟨((h t ht).2 x hx).1,OI ((h t ht).2 x hx).2 hn⟩⟩
theorem Bn.mono (h:Bn m L) (hn:m≤n):Bn n L:=fun t ht=>O0 (h t ht) (Sa (by decide) hn)
theorem Bn.prod (h:Bn m A) (g:Bn n B):Bn (m+n) (aL A B):=fun t ht=>by
 obtain ⟨l,hl,r,hr,rfl⟩:=gB ht
 show (l.2 * r.2).natAbs<_
 rw [Int.natAbs_mul,Nat.pow_add]
 exact Nat.mul_lt_mul'' (h l hl) (g r hr)
theorem Bn.sum (h:Bn m L) (hl:L.length<2 ^ 16):Bn (m+16) (aI L):=fun t ht=>by
 have:=IV (m:=2 ^ m) (fun t ht=>Qq (h t ht)) t ht
 refine Qj this ?_
 rw [Nat.pow_add,RI]
 exact Nat.mul_lt_mul_of_pos_left hl (Nat.two_pow_pos m)
theorem xq (h:a.natAbs<2 ^ m):Ph a≤m+1:=by
 unfold Ph
 by_cases z:a=0
 ·subst z; simp
 ·have e:(a == 0)=false:=by simpa using z
  rw [e,if_neg Oe]
  have:=(Nat.log2_lt (n:=a.natAbs) (k:=m) (by lia)).mpr h
  lia
theorem qa (h:a.natAbs<2 ^ m) (g:b.natAbs<2 ^ n) (hm:m+n≤1000000):EV.MulOk a b:=by
 have h1:=xq h
 have h2:=xq g
 unfold EV.MulOk IntMulOk Builtin.Int.intTooBig bitsLine
 have e:decide (((Ph a+Ph b:Nat):Int)>((2 ^ 27:Nat):Int))=false:=by
  apply decide_eq_false
  rw [show (2:Nat) ^ 27=134217728 by decide]
  lia
 simp only [Rt]
 rintro ⟨_,z⟩
 have z':=of_decide_eq_true z
 rw [show (2:Nat) ^ 27=134217728 by decide] at z'
 lia
structure cR (A:List aJ):Prop where
 l:A.length≤20000
 e:Ex 120 A
 b:Bn 2000 A
structure c9 (p:Part):Prop where
 n:p.1.natAbs<2 ^ 2000
 m:p.2.length≤8
 f:∀ A∈p.2,cR A
structure aW (ps:List Part):Prop where
 p:∀ p∈ps,c9 p
 l:ps.length≤1000
 s:(ps.map fun p=>bK p.2).sum≤20000
theorem CF (A):0≤mE A:=GF _
theorem cR.mx (h:cR A):mE A≤120:=Cw (by decide) fun t ht x hx=>((h.e t ht).2 x hx).2
theorem cR.ex (h:cR A):Ex (mE A) A:=fun t ht=>⟨(h.e t ht).1,fun x hx=>⟨((h.e t ht).2 x hx).1,Cy ht (h.e t ht).1 hx⟩⟩
noncomputable def qi (p:Part):Int:=(p.2.map mE).sum
theorem xr (As:List (List aJ)):0≤(As.map mE).sum:=by
 induction As with
 | nil=>exact Pn _
 | cons A As ih=>rw [N5,Qc]; have:=CF A; lia
theorem c9.sz (h:c9 p):qi p≤960:=by
 have:∀ As:List (List aJ),(∀ A∈As,cR A)→(As.map mE).sum≤120 * As.length:=fun As=>by
  induction As with
  | nil=>exact fun _=>by simp
  | cons A As ih =>
   intro hA
   have:=ih fun B hB=>hA B (Ob _ hB)
   have:=(hA A N9).mx
   rw [N5,Qc,OF]; lia
 have h1:=this p.2 h.f
 have h2:=h.m
 unfold qi
 lia
noncomputable def gO (ps:List Part):Int:=ps.foldl (fun m p=>if qi p>m then qi p else m) 0
theorem oj (ps:List Part):∀ m:Int,m≤ps.foldl (fun m p=>if qi p>m then qi p else m) m:=by
 induction ps with
 | nil=>exact fun m=>Pn _
 | cons p ps ih=>intro m; rw [Pr]; refine OI ?_ (ih _); split <;> lia
theorem FJ (h:p∈ps):qi p≤gO ps:=by
 unfold gO
 suffices H:∀ m:Int,qi p≤ps.foldl (fun m p=>if qi p>m then qi p else m) m from H 0
 induction ps with
 | nil=>cases h
 | cons q ps ih =>
  intro m
  rw [Pr]
  rcases Og.mp h with rfl | h
  ·refine OI ?_ (oj ps _)
   split <;> lia
  ·exact ih h _
theorem FL (h:∀ p∈ps,c9 p):gO ps≤960:=by
 unfold gO
 suffices H:∀ m:Int,m≤960→ps.foldl (fun m p=>if qi p>m then qi p else m) m≤960 from H 0 (by decide)
 induction ps with
 | nil=>exact fun m hm=>hm
 | cons q ps ih =>
  intro m hm
  rw [Pr]
  refine ih (fun p hp=>h p (Ob _ hp)) _ ?_
  have:=(h q N9).sz
  split <;> lia
noncomputable def CG (ps:List Part):Nat:=Ph (gO ps)
theorem FN (h:∀ p∈ps,c9 p):CG ps≤10∧∀ p∈ps,qi p<2 ^ CG ps:=by
 have h0:0≤gO ps:=oj ps 0
 have h1:=FL h
 exact ⟨bits_le (by lia),fun p hp=>Sm (FJ hp) (FH h0)⟩
theorem jr (x:α) (xs):EV.cutD (x::xs) (some 1) none=xs:=by
 unfold EV.cutD HT.cg; simp
noncomputable def CH:Fn:=fun ds r=>∃ ps:List Part,(∀ p∈ps,c9 p)∧ds=[.lst (ps.map gM)]∧r=.ok (.va (.int (CG ps:Nat)))
theorem LD (h:∀ p∈ps,c9 p):CH [.lst (ps.map gM)] (.ok (.va (.int (CG ps:Nat)))):=⟨ps,h,rfl,rfl⟩
section
local macro_rules | `(tactic| walk_at "evMt")=> `(tactic| with_reducible refine IB ?_)
local macro_rules | `(tactic| walk_at "evCa")=> `(tactic| first
 | ((with_reducible show aF _ (OZ (Oi "max" _) [_] _ _) _ _); with_reducible refine ID (Txt.max (by assumption)) ?_)
 | ((with_reducible show aF _ (OZ (Oi "max" _) [_,_] _ _) _ _); with_reducible refine Bq (Txt.max (by assumption)) ?_)
 | ((with_reducible show aF _ (OZ (Oi "sum" _) _ _ _) _ _); with_reducible refine IE (Txt.sum (by assumption)) ?_)
 | with_reducible refine cY (F:=mj) (by assumption) (by decide) ?_)
theorem Js (Fu:fL K "width_of" "width_of" gG f fd) (T:Txt K mg) (h1:cG P w K mg base 1 "greatest_powers" mj):bx P w K mg base (dP P w) 2 f fd ["parts"] (fO K CH):=by
 refine cZ Fu sD sE (by rintro ds r ⟨ps,_,rfl,_⟩; rfl) (by rintro ds r ⟨ps,_,_,rfl⟩; exact ⟨_,rfl⟩) fun c hq ds sl hF=>?_
 obtain ⟨ps,hp,rfl,e⟩:=hF
 injection e with e
 subst e
 show aY c _ [.va (.lst (ps.map gM)),.un,.un] _ _
 conv in (az _)=>whnf
 walk_at "ev"
 with_reducible refine cJ hq (bX ?_)
 walk_at "ev"
 refine ⟨fun i ρ'=>∃ s2:Sl,ρ'=[.va (.lst (ps.map gM)),.va (.int (gO (ps.take i))),s2],⟨_,rfl⟩,?_,?_⟩
 ·rintro c' ou zk zm i d ρ' hd ⟨s2,rfl⟩
  simp only [Oc,Oh] at hd
  obtain ⟨p,hpx,rfl⟩:=hd
  obtain ⟨hi,rfl⟩:=Oa.mp hpx
  have hpo:=hp ps[i] (OG hi)
  have eg:gO (ps.take (i+1))=if qi ps[i]>gO (ps.take i) then qi ps[i] else gO (ps.take i):=by
   unfold gO; rw [O3 hi,Ua]; rfl
  generalize ps[i]=p at hpo eg ⊢
  show mK c' _ (.tup (.int p.1::p.2.map af)) _ _
  walk_at "ev"
  refine e_x (c7 (show c'.X.xe=j5 by rw [ou]; exact hq) (N':=["some"]) (ρ0:=fun _=>[.un]) (fun t=>.un .nil) (bX ?_))
  walk_at "ev"
  ·rw [jr,N6]; exact uA (by have:=hpo.m; lia)
  rw [jr]
  refine ⟨p.2.map fun A=>some (.int (mE A)),by simp,?_,cK ?_⟩
  ·intro c2 hc2 t j d o hd ho
   simp only [Oc,Oh] at hd ho
   obtain ⟨A,hA,rfl⟩:=hd
   obtain ⟨A',hA',rfl⟩:=ho
   rw [hA] at hA'; cases hA'
   have hf:=hpo.f A (Pe hA)
   refine cj (by walk_at "at") (oS (by walk_at "sset") ⟨.un .nil,?_⟩)
   simp only [mP]
   refine ⟨fun _=>?_,fun h=>by cases h⟩
   show aF c2 _ [.va (.lst (A.map aO))] _
   walk_at "ev"
   refine aS (FD fun t ht=>(hf.e t ht).1) (cK ⟨eG A,by simp [eG],rfl,fun m ⟨m1,m2⟩=>?_⟩)
   rw [Cs m1 m2]; rfl
  ·rw [cQ]
   refine ⟨p.2.map mE,by rw [Ow]; rfl,?_⟩
   walk_at "ev"
   refine ⟨.va (gM p),?_⟩
   rw [eg]; rfl
 ·rintro ρ' ⟨s2,rfl⟩
  rw [N6,OX]
  walk_at "ev"
  rfl
end
end
section
variable {P:Program} {w:World} {K:NZ} {mg:Str→Option Value} {base:Heap}
theorem FO (x:α) (xs):jB (x::xs) 0=some x:=by rw [eS (by decide) (by simp)]; rfl
theorem Jt (b):pk b []=0:=(jl (g:=fun _=>0) fun i _=>cP (OO _)).trans (jm _)
theorem GG (b n):(cT n).map (sQ b)=[.tup [.int 0,.int n]]:=by show [D.tup [.int (pk b []),.int n]]=_; rw [Jt]
theorem CI (xs:List α):EV.cutD xs none (some (-1))=xs.dropLast:=by
 unfold EV.cutD HT.cg
 rw [List.dropLast_eq_take]
 simp only [List.drop_zero]
 congr 1
 split <;> lia
theorem FP (xs) (x:α):jB (xs++[x]) (-1)=some x:=by
 rw [v7 (by decide) (by simp; lia),show (-1+((xs++[x]).length:Int)).toNat=xs.length by simp; lia]
 simp
noncomputable def Ml (b:Int) (A:List aJ):D:=.lst (A.map (sQ b))
theorem CJ {α β:Type} {f:α→β} {L:List α} {M:List β} (h:M.Perm (L.map f)):∃ L':List α,L'.Perm L∧M=L'.map f:=by
 have p:∀ L:List α,Paired (fun a b=>b=f a) L (L.map f):=fun L=>by
  induction L with
  | nil=>exact .nil
  | cons x L ih=>exact .cons rfl ih
 obtain ⟨L',h1,h2⟩:=SR.gv h (p L)
 refine ⟨L',h1,?_⟩
 clear h1 h p
 induction h2 with
 | nil=>rfl
 | cons r _ ih=>rw [r,ih]; rfl
theorem za (C):(J1 C).pairs=some (C.map fun c=>D.tup [.int c.1,.int c.2]):=by
 show some _=some _
 congr 1
 unfold cI
 rw [Ow,Ow,List.zipWith_map,List.zipWith_self]
 rfl
theorem zb (b) (L:List aJ):(J1 (L.map (gz b))).pairs=some (L.map (sQ b)):=by
 rw [za,Ow]; rfl
theorem Ju (b) (L:List aJ):D.qg (L.map (sQ b)):=dR fun x _=>tZ (by unfold D.qg; exact ⟨lB,by unfold D.qg; exact ⟨lB,by unfold D.qg; trivial⟩⟩)
structure Way (n:Int) (As:List (List aJ)) (L:List aJ):Prop where
 m:mp L=(n:MP) * u0 As
 l:L.length≤bK As
 e:Ex (As.map mE).sum L
 b:Bn (2000+2016 * As.length) L
theorem xu {n:Int} (h:n.natAbs<2 ^ 2000):Way n [] (cT n) where
 m:=by rw [pR]; show _=_ * (1:MP); grind
 l:=N3 _
 e:=fun t ht=>by
  have:t=([],n):=by simpa [cT] using ht
  subst this
  exact ⟨OO _,fun x hx=>by cases hx⟩
 b:=fun t ht=>by
  have:t=([],n):=by simpa [cT] using ht
  subst this
  exact h
theorem u5:cR (cT 1) where
 l:=by show (1:Nat)≤_; lia
 e:=fun t ht=>by
  have:t=([],1):=by simpa [cT] using ht
  subst this
  exact ⟨OO _,fun x hx=>by cases hx⟩
 b:=fun t ht=>by
  have:t=([],1):=by simpa [cT] using ht
  subst this
  exact Nat.one_lt_two_pow (by decide)
theorem zc (As) (A):((As++[A]).map mE).sum=(As.map mE).sum+mE A:=by
 rw [OD,QF]; simp
theorem gP (h:Way n As L) (f:cR A):mp (aL L A)=(n:MP) * u0 (As++[A])∧(aL L A).length≤bK (As++[A])∧Ex ((As++[A]).map mE).sum (aL L A)∧Bn (2000+2016 * As.length+2000) (aL L A):=by
 refine ⟨?_,?_,?_,h.b.prod f.b⟩
 ·rw [uH,h.m,CB]; grind
 ·rw [dB,y9]; exact RA h.l (by lia)
 ·rw [zc]; exact Ex.prod (xr _) (CF _) h.e f.ex
theorem CK (h:Way n As L) (f:cR A) (hl:bK (As++[A])≤20000):Way n (As++[A]) (aI (aL L A)):=by
 obtain ⟨h1,h2,h3,h4⟩:=gP h f
 refine ⟨by rw [Jb,h1],Od (gW _) h2,h3.sum,(h4.sum (Qj (Od h2 hl) (by decide))).mono ?_⟩
 rw [OH,R8]; lia
theorem CL {As Bs:List (List aJ)} (h:As.Perm Bs):(As.map mE).sum=(Bs.map mE).sum:=by
 induction h with
 | nil=>rfl
 | cons x _ ih=>rw [N5,Qc,N5,Qc,ih]
 | swap x y l=>simp only [N5,Qc]; lia
 | trans _ _ a b=>rw [a,b]
theorem CM (As:List (List aJ)) (i):((As.take i).map mE).sum≤(As.map mE).sum:=by
 have e:(As.map mE).sum=((As.take i).map mE).sum+((As.drop i).map mE).sum:=by rw [← QF,← OD,PN]
 have:=xr (As.drop i)
 lia
noncomputable def qb:Mi:=fun kvs ds Z=>∃ (ts:List aJ) (p:Part) (W:Nat),W≤10∧c9 p∧qi p<2 ^ W∧ts.length+bK p.2≤20000∧(∀ t∈ts,Bd (2 ^ W) t.1)∧kvs=cI ((aI ts).map (gz (2 ^ W)))∧ds=[gM p,.int (W:Nat)] ∧
 Z=fun kvs'=>∃ X,mp X=mp (gZ p.1 p.2)∧X.length≤bK p.2∧(∀ t∈X,Bd (2 ^ W) t.1)∧kvs'=cI ((aI (ts++X)).map (gz (2 ^ W)))
section
local macro_rules | `(tactic| walk_at "evX")=> `(tactic| first | ((with_reducible show dw _ (Expr.Dict _ _ _) _ _); with_reducible refine vS ?_))
local macro_rules | `(tactic| walk_at "evXC")=> `(tactic| first
 | ((with_reducible show dw _ (OZ (Oi "sorted" _) _ _ _) _ _); with_reducible refine yE (Txt.sorted (by assumption)) (Txt.len (by assumption)) ?_)
 | ((with_reducible show dw _ (OZ (Oi "list" _) [OZ _ _ _ _] _ _) _ _); refine t8 6 (by walk_at "at") rfl (by walk_at "sset") (se (Txt.list (by assumption)) ?_)))
local macro_rules | `(tactic| walk_at "evXp")=> `(tactic| with_reducible refine wK (F:=FG) (by assumption) (by decide) (by walk_at "at") (by walk_at "at") (by walk_at "own") ?_)
theorem CN (Fu:fL K "add_part" "add_part" gH f fd) (T:Txt K mg) (h1:cG P w K mg base 2 "packed" sR) (h2:yl P w K mg base 1 "add_products" FG):bx P w K mg base (dP P w) 3 f fd ["whole","part","width"] (Iz K qb):=by
 refine Lj Fu sF sG (by rintro kvs ds Z ⟨ts,p,W,_,_,_,_,_,_,rfl,_⟩; rfl) fun c hq q kvs ds Z hF=>?_
 obtain ⟨ts,p,W,hW,hp,hsz,hl,hb,rfl,rfl,rfl⟩:=hF
 show aY c _ [.aK q (cI ((aI ts).map (gz (2 ^ W)))),.va (.tup (.int p.1::p.2.map af)),.va (.int (W:Nat)),.un,.un,.un,.un] _ _
 conv in (az _)=>whnf
 walk_at "ev"
 refine e_x (c7 hq (N':=["some","width"]) (ρ0:=fun _=>[.un,.va (.int (W:Nat))]) (fun t=>.un (.fr (by walk_at "at") (by walk_at "at") (by decide) rfl .nil)) (bX ?_))
 walk_at "ev"
 ·rw [jr,N6]; exact uA (by have:=hp.m; lia)
 rw [jr]
 refine ⟨p.2.map fun A=>some (Ml (2 ^ W) A),by simp,?_,cK ?_⟩
 ·intro c2 hc2 t j d o hd ho
  simp only [Oc,Oh] at hd ho
  obtain ⟨A,hA,rfl⟩:=hd
  obtain ⟨A',hA',rfl⟩:=ho
  rw [hA] at hA'; cases hA'
  have hm:=Pe hA
  have hf:=hp.f A hm
  refine cj (by walk_at "at") (oS (by walk_at "sset") ⟨.un (.same .nil),?_⟩)
  simp only [mP]
  refine ⟨fun _=>?_,fun h=>by cases h⟩
  show aF c2 _ [.va (.lst (A.map aO)),_] _
  refine cY (F:=sR) h1 (by decide) ?_
  walk_at "ev"
  have hx:mE A<2 ^ W:=by
   refine Sm ?_ hsz
   obtain ⟨l,r,e⟩:=List.append_of_mem hm
   unfold qi
   rw [e,OD,N5,QF,Qc]
   have:=xr l
   have:=xr r
   lia
  exact aS (Jp hW hf.l (hf.ex.bd hx)) (cK rfl)
 rw [cQ]
 refine ⟨_,rfl,fun x hx=>by obtain ⟨A,_,rfl⟩:=Oo.mp hx; exact ⟨_,rfl⟩,fun ds' hp'=>?_⟩
 obtain ⟨As,hpm,rfl⟩:=CJ hp'
 have zu:∀ A∈As,cR A:=fun A hA=>hp.f A (hpm.mem_iff.mp hA)
 have hpl:=yZ hpm
 have hps:=CL hpm
 have hlen:=hpm.length_eq
 refine oS (by walk_at "sset") ?_
 with_reducible refine jG 3 (by walk_at "at") rfl (by walk_at "sset") ?_
 walk_at "ev"
 refine i7 (FO _ _) ?_
 walk_at "ev"
 with_reducible refine K9 4 (by walk_at "at") rfl (by walk_at "sset") ?_
 rw [← GG (2 ^ W) p.1]
 with_reducible refine cJ hq (bX ?_)
 walk_at "ev"
 rw [CI]
 have hcap:∀ i,bK (As.take i)≤20000:=fun i=>Od (g6 As i) (by lia)
 have hm8:As.length≤8:=by rw [hlen]; exact hp.m
 have Mn:∀ (i:Nat) (L A:List aJ),As[i]?=some A→Way p.1 (As.take i) L→cR A∧As.take (i+1)=As.take i++[A]∧mp (aL L A)=(p.1:MP) * u0 (As.take (i+1))∧(aL L A).length≤bK (As.take (i+1))∧(∀ l∈L,∀ r∈A,Bd (2 ^ W) (cA l.1 r.1)∧EV.MulOk l.2 r.2)∧L.length≤20000:=fun i L A hA hw=>by
  obtain ⟨hi,rfl⟩:=Oa.mp hA
  have hf:=zu As[i] (OG hi)
  have et:As.take (i+1)=As.take i++[As[i]]:=O3 hi
  obtain ⟨q1,q2,q3,q4⟩:=gP hw hf
  rw [← et] at q1 q2 q3
  refine ⟨hf,et,q1,q2,fun l hl r hr=>⟨?_,?_⟩,Od hw.l (hcap i)⟩
  ·have hm:dJ l r∈aL L As[i]:=Sy.mpr ⟨l,hl,Oo.mpr ⟨r,hr,rfl⟩⟩
   have hx:=CM As (i+1)
   exact q3.bd (by unfold qi at hsz; lia) _ hm
  ·refine qa (hw.b l hl) (hf.b r hr) ?_
   rw [Pc]; lia
 refine ⟨fun i ρ'=>∃ (L:List aJ) (s5 s6:Sl),Way p.1 (As.take i) L∧ρ'=[.aK q (cI ((aI ts).map (gz (2 ^ W)))),.va (.tup (.int p.1::p.2.map af)),.va (.int (W:Nat)),.va (.lst (As.map (Ml (2 ^ W)))),.va (.lst (L.map (sQ (2 ^ W)))),s5,s6],⟨_,_,_,xu hp.n,rfl⟩,?_,?_⟩
 ·rintro c' ou zk zm i d ρ' hd ⟨L,s5,s6,hw,rfl⟩
  rw [← List.map_dropLast] at hd
  simp only [Oc,Oh] at hd
  obtain ⟨A,hA,rfl⟩:=hd
  rw [List.getElem?_dropLast] at hA
  replace hA:As[i]?=some A:=by
   split at hA
   ·exact hA
   ·cases hA
  obtain ⟨hf,et,q1,q2,q3,q4⟩:=Mn i L A hA hw
  have q5:=hcap (i+1)
  have q6:=CK hw hf (by rw [← et]; exact q5)
  rw [← et] at q6
  show mK c' _ (.lst (A.map (sQ (2 ^ W)))) _ _
  walk_at "ev"
  refine ⟨_,⟨[],L,A,W,hW,by rw [dB] at q2; show 0+_≤_; lia,q4,hf.l,(by intro t ht; cases ht),q3,rfl,rfl,rfl⟩,?_⟩
  rintro kvs' rfl
  walk_at "ev"
  refine ⟨_,zb _ _,Ju _ _,?_⟩
  repeat ((fail_if_success (with_reducible show aY _ [] _ _ _)); walk_at "ev1")
  with_reducible refine jG 4 (by walk_at "at") rfl (by walk_at "sset") ?_
  walk_at "ev"
  exact ⟨_,_,_,q6,rfl⟩
 ·rintro ρ' ⟨L,s5,s6,hw,rfl⟩
  rw [List.length_dropLast,N6] at hw
  walk_at "ev"
  ·have hne:As≠[]:=by rintro rfl; simp at *
   obtain ⟨i0,A,e0⟩:∃ i0 A,As=i0++[A]:=⟨As.dropLast,As.getLast hne,(List.dropLast_concat_getLast hne).symm⟩
   have ei:As.length - 1=i0.length:=by rw [e0]; simp
   have hA:As[As.length - 1]?=some A:=by rw [ei,e0]; simp
   have etl:As.take (As.length - 1+1)=As:=QY (by lia)
   obtain ⟨hf,et,q1,q2,q3,q4⟩:=Mn _ L A hA hw
   rw [etl] at q1 q2
   refine k8 (show jB (As.map (Ml (2 ^ W))) (-1)=some (Ml (2 ^ W) A) by rw [e0,OD]; exact FP _ _) ?_
   walk_at "ev"
   refine ⟨_,⟨ts,L,A,W,hW,by rw [dB] at q2; lia,q4,hf.l,hb,q3,rfl,rfl,rfl⟩,?_⟩
   rintro kvs' rfl
   walk_at "ev"
   refine ⟨_,_,⟨aL L A,by rw [q1,iR,CA hpm],by rw [← hpl]; exact q2,fun t ht=>?_,rfl⟩,rfl⟩
   obtain ⟨l,hl,r,hr,rfl⟩:=gB ht
   exact (q3 l hl r hr).1
  ·have e0:As=[]:=by
    cases As with
    | nil=>rfl
    | cons A As=>simp at *
   have hw0:Way p.1 [] L:=by rw [e0] at hw; exact hw
   have p0:p.2=[]:=List.length_eq_zero_iff.mp (by rw [← hlen,e0]; rfl)
   obtain ⟨q1,q2,q3,q4⟩:=gP hw0 u5
   have hL:L.length≤1:=hw0.l
   have q5:(aL L (cT 1)).length≤1:=q2
   have h0W:(0:Int)<2 ^ W:=two_pos W
   have hx:(([]++[cT 1]:List (List aJ)).map mE).sum<2 ^ W:=h0W
   have hp1:bK p.2=1:=by rw [p0]; rfl
   rw [← GG (2 ^ W) 1]
   refine ⟨_,⟨ts,L,cT 1,W,hW,by rw [dB] at q5; lia,by lia,u5.l,hb,fun l hl r hr=>⟨?_,?_⟩,rfl,rfl,rfl⟩,?_⟩
   ·exact q3.bd hx _ (Sy.mpr ⟨l,hl,Oo.mpr ⟨r,hr,rfl⟩⟩)
   ·exact qa (hw0.b l hl) (u5.b r hr) (by show 2000+2016 * 0+2000≤_; lia)
   rintro kvs' rfl
   walk_at "ev"
   refine ⟨_,_,⟨aL L (cT 1),?_,by rw [hp1]; exact q5,q3.bd hx,rfl⟩,rfl⟩
   rw [q1,iR,p0]
   show _ * (mp (cT 1) * 1)=_ * (1:MP)
   rw [pR]
   show _ * ((1:MP) * 1)=_ * (1:MP)
   grind
end
end
section
variable {K:NZ}
theorem sS (ps) (p:Part):mp (fj (ps++[p]))=mp (fj ps)+mp (gZ p.1 p.2):=by
 unfold fj
 rw [List.flatMap_append,pQ]
 congr 1
 rw [Su,Uh,O7]
theorem sU (l:List Nat) (i):(l.take i).sum≤l.sum:=by
 rw [← PN i l,QF,PN]; lia
noncomputable def kC:Fn:=fun ds r=>∃ ps:List Part,aW ps∧ds=[.lst (ps.map gM)]∧r=.ok (.ow ((bB (fj ps)).map aO))
theorem ju (h:aW ps):kC [.lst (ps.map gM)] (.ok (.ow ((bB (fj ps)).map aO))):=⟨ps,h,rfl,rfl⟩
section
local macro_rules | `(tactic| walk_at "evX")=> `(tactic| first | ((with_reducible show dw _ (Expr.Dict _ _ _) _ _); with_reducible refine vS ?_))
local macro_rules | `(tactic| walk_at "evCa")=> `(tactic| first | with_reducible refine cY (F:=CH) (by assumption) (by decide) ?_)
local macro_rules | `(tactic| walk_at "evXp")=> `(tactic| with_reducible refine wK (F:=qb) (by assumption) (by decide) (by walk_at "at") (by walk_at "at") (by walk_at "own") ?_)
local macro_rules | `(tactic| walk_at "evXC")=> `(tactic| first | ((with_reducible show dw _ (OZ (Oi "unpacked" _) _ _ _) _ _); refine t8 2 (by walk_at "at") rfl (by walk_at "sset") (x_call (F:=Cv) (by assumption) (by decide) ?_)))
theorem Jv (Fu:fL K "poly_total" "poly_total" eZ f fd) (T:Txt K mg) (h1:cG P w K mg base 2 "width_of" CH) (h2:yl P w K mg base 3 "add_part" qb) (h3:cG P w K mg base 3 "unpacked" Cv):bx P w K mg base (dP P w) 4 f fd ["parts"] (fO K kC):=by
 refine cZ Fu mV mW (by rintro ds r ⟨ps,_,rfl,_⟩; rfl) (by rintro ds r ⟨ps,_,_,rfl⟩; exact ⟨_,rfl⟩) fun c hq ds sl hF=>?_
 obtain ⟨ps,h,rfl,e⟩:=hF
 injection e with e
 subst e
 show aY c _ [.va (.lst (ps.map gM)),.un,.un,.un] _ _
 conv in (az _)=>whnf
 obtain ⟨hW,hsz⟩:=FN h.p
 walk_at "ev"
 refine aS (LD h.p) ?_
 walk_at "ev"
 generalize CG ps=W at hW hsz ⊢
 with_reducible refine cJ hq (bX ?_)
 walk_at "ev"
 refine ⟨fun i ρ'=>∃ (ts:List aJ) (s3:Sl),mp ts=mp (fj (ps.take i))∧ts.length≤((ps.take i).map fun p=>bK p.2).sum∧(∀ t∈ts,Bd (2 ^ W) t.1)∧ρ'=[.va (.lst (ps.map gM)),.va (.int (W:Nat)),.oK (cI ((aI ts).map (gz (2 ^ W)))),s3],⟨[],_,rfl,N3 _,(by intro t ht; cases ht),rfl⟩,?_,?_⟩
 ·rintro c' ou zk zm i d ρ' hd ⟨ts,s3,hm,hl,hb,rfl⟩
  simp only [Oc,Oh] at hd
  obtain ⟨p,hpx,rfl⟩:=hd
  obtain ⟨hi,rfl⟩:=Oa.mp hpx
  have et:ps.take (i+1)=ps.take i++[ps[i]]:=O3 hi
  have hmem:ps[i]∈ps:=OG hi
  have hcap:((ps.take (i+1)).map fun p=>bK p.2).sum≤20000:=by rw [List.map_take]; exact Od (sU _ _) h.s
  have ec:((ps.take (i+1)).map fun p=>bK p.2).sum=((ps.take i).map fun p=>bK p.2).sum+bK ps[i].2:=by rw [et,OD,QF]; simp
  rw [ec] at hcap
  walk_at "ev"
  refine ⟨_,⟨ts,ps[i],W,hW,h.p _ hmem,hsz _ hmem,by lia,hb,rfl,rfl,rfl⟩,?_⟩
  rintro kvs' ⟨X,x1,x2,x3,rfl⟩
  walk_at "ev"
  refine ⟨ts++X,.va (gM ps[i]),?_,?_,fun t ht=>(OA.mp ht).elim (hb t) (x3 t),rfl⟩
  ·rw [pQ,hm,x1,et,sS]
  ·rw [ec,OH]; lia
 ·rintro ρ' ⟨ts,s3,hm,hl,hb,rfl⟩
  rw [N6,OX] at hm hl
  walk_at "ev"
  refine aS (LC (ts:=ts) hW (by have:=h.s; lia) hb) ⟨dR fun x _=>jW x,?_⟩
  show Sl.ow _=Sl.ow _
  rw [iI hm]
end
end
section
variable {K:NZ}
theorem Ex.CO (h:Ex m L):Ex m (bB L):=fun t ht=>Ex.sum h t (lV ht).1
theorem Bn.CO (h:Bn m L) (hl:L.length<2 ^ 16):Bn (m+16) (bB L):=fun t ht=>Bn.sum h hl t (lV ht).1
noncomputable def dF (As:List (List aJ)):List aJ:=As.foldl (fun L A=>bB (aL L A)) [([],1)]
theorem om (As) (A):dF (As++[A])=bB (aL (dF As) A):=by simp [dF]
theorem CP (h:Way n As L) (f:cR A) (hl:bK (As++[A])≤20000):Way n (As++[A]) (bB (aL L A)):=by
 obtain ⟨h1,h2,h3,h4⟩:=gP h f
 refine ⟨by rw [Fe,h1],Od (lW _) h2,h3.CO,(h4.CO (Qj (Od h2 hl) (by decide))).mono ?_⟩
 rw [OH,R8]; lia
theorem fJ (hf:∀ A∈As,cR A) (hl:bK As≤20000):∀ i,i≤As.length→Way 1 (As.take i) (dF (As.take i))
 | 0,_=>xu (by decide)
 | i+1,hi=>by
  rw [O3 hi,om]
  refine CP (fJ hf hl i (by lia)) (hf _ (OG hi)) ?_
  rw [← O3 hi]
  exact Od (g6 _ _) hl
noncomputable def CQ:Fn:=fun ds r=>∃ As:List (List aJ),As.length≤8∧(∀ A∈As,cR A)∧bK As≤20000∧ds=[.lst (As.map af)]∧r=.ok (.ow ((dF As).map aO))
theorem LF (h:As.length≤8) (hf:∀ A∈As,cR A) (hl:bK As≤20000):CQ [.lst (As.map af)] (.ok (.ow ((dF As).map aO))):=⟨As,h,hf,hl,rfl,rfl⟩
theorem jv (n):(qL 0 n).length=n:=by simp [qL]
theorem jX (L) (t):L.map aO++[aO t]=(L++[t]).map aO:=by rw [OD]; rfl
theorem zd (n):(Of n [D.int 0]).flatten=(Of n (0:Int)).map D.int:=by
 induction n with
 | zero=>rfl
 | succ n ih=>rw [PZ,QB,ih,PZ]; rfl
theorem CS (h:k<n) (hp:p.length≤n):jB (p.map D.int++(Of (n - p.length) [D.int 0]).flatten) (k:Int)=some (.int (bU p k)):=by
 rw [zd,← OD,eS (by lia) (by simp; lia),OW,Oc]
 by_cases z:k<p.length
 ·rw [Qf z,Ov z,dI z]; rfl
 ·rw [QT (by lia),Tv,if_pos (by lia),cP (by lia)]; rfl
theorem xw {p:List Int} {n:Nat}:((n:Int) - ((p.map D.int).length:Int)).toNat=n - p.length:=by rw [N6]; lia
section
local macro_rules | `(tactic| walk_at "evBo")=> `(tactic| first | ((with_reducible show aF _ (Expr.BinOp (Expr.Tuple _ _ _) Operator.Mult _ _) _ _); with_reducible refine IK ?_))
local macro_rules | `(tactic| walk_at "evCa")=> `(tactic| first
 | ((with_reducible show aF _ (OZ (Oi "max" _) [_,_] _ _) _ _); with_reducible refine Bq (Txt.max (by assumption)) ?_))
theorem Jw (Fu:fL K "_law_product" "_law_product" fY f fd) (T:Txt K mg) (h1:cG P w K mg base 1 "_law_plain" p9):bx P w K mg base (dP P w) 2 f fd ["_law_factors"] (fO K CQ):=by
 refine cZ Fu p7 p8 (by rintro ds r ⟨As,_,_,_,rfl,_⟩; rfl) (by rintro ds r ⟨As,_,_,_,_,rfl⟩; exact ⟨_,rfl⟩) fun c hq ds sl hF=>?_
 obtain ⟨As,h8,hf,hl,rfl,e⟩:=hF
 injection e with e
 subst e
 show aY c _ [.va (.lst (As.map af)),.un,.un,.un,.un,.un,.un,.un,.un,.un,.un] _ _
 conv in (az _)=>whnf
 walk_at "ev"
 show fu c _ [.va (.lst (As.map af)),.ow ((dF (As.take 0)).map aO),.un,.un,.un,.un,.un,.un,.un,.un,.un] _ _
 with_reducible refine cJ hq (bX ?_)
 walk_at "ev"
 refine ⟨fun i ρ'=>∃ s2 s3 s4 s5 s6 s7 s8 s9 s10:Sl,ρ'=[.va (.lst (As.map af)),.ow ((dF (As.take i)).map aO),s2,s3,s4,s5,s6,s7,s8,s9,s10],⟨_,_,_,_,_,_,_,_,_,rfl⟩,?_,?_⟩
 ·rintro c' ou zk zm i d ρ' hd ⟨s2,s3,s4,s5,s6,s7,s8,s9,s10,rfl⟩
  simp only [Oc,Oh] at hd
  obtain ⟨B,hBx,rfl⟩:=hd
  obtain ⟨hi,rfl⟩:=Oa.mp hBx
  have hq':c'.X.xe=fun _ _=>False:=by rw [ou]; exact hq
  have hfB:=hf _ (OG hi)
  have hw:=fJ hf hl i (by omega)
  have hp2:bK (As.take i++[As[i]])≤20000:=by
   rw [← O3 hi]; exact Od (g6 _ _) hl
  have hlp:(dF (As.take i)).length * As[i].length≤20000:=by
   have:=(gP hw hfB).2.1
   rw [dB] at this; omega
  have eN:dF (As.take (i+1))=bB (aL (dF (As.take i)) As[i]):=by rw [O3 hi,om]
  have hAl:(dF (As.take i)).length≤20000:=Od hw.l (Od (g6 _ _) hl)
  have hA6:∀ t∈dF (As.take i),t.1.length≤6:=fun t ht=>(hw.e t ht).1
  have hAb:Bn 20000 (dF (As.take i)):=hw.b.mono (by rw [Pc]; omega)
  generalize dF (As.take i)=A at hlp eN hAl hA6 hAb ⊢
  generalize As[i]=B at hfB hlp eN ⊢
  clear hw hp2 hBx
  refine cj (by walk_at "at") (oS (by walk_at "sset") ?_)
  refine jG 1 (by walk_at "at") rfl (by walk_at "sset") ?_
  walk_at "ev"
  show fu c' _ [_,_,_,.ow ((aL (A.take 0) B).map aO),_,_,_,_,_,_,_] _ _
  with_reducible refine cJ hq' (bX ?_)
  walk_at "ev"
  refine ⟨fun i ρ'=>∃ s4 s5 s6 s7 s8 s9 s10:Sl,ρ'=[.va (.lst (As.map af)),.va (.lst (A.map aO)),.va (af B),.ow ((aL (A.take i) B).map aO),s4,s5,s6,s7,s8,s9,s10],⟨_,_,_,_,_,_,_,rfl⟩,?_,?_⟩
  ·rintro c1 hcX1 hcR1 hcM1 i1 d ρ' hd ⟨s4,s5,s6,s7,s8,s9,s10,rfl⟩
   simp only [Oc,Oh] at hd
   obtain ⟨l,hlx,rfl⟩:=hd
   obtain ⟨hi1,rfl⟩:=Oa.mp hlx
   have hq1:c1.X.xe=fun _ _=>False:=by rw [hcX1]; exact hq'
   have h6:=hA6 A[i1] (OG hi1)
   have hlb:=hAb A[i1] (OG hi1)
   have e0:aL (A.take (i1+1)) B=aL (A.take i1) B++B.map (dJ A[i1]):=by
    rw [O3 hi1,oi]
   have hlen:(aL (A.take i1) B).length+B.length≤20000:=by
    rw [dB,Pc,Rv (by omega),← RH]
    exact Od (Nat.mul_le_mul_right _ (by omega)) hlp
   generalize A[i1]=l at h6 hlb e0 ⊢
   generalize aL (A.take i1) B=ts at e0 hlen ⊢
   show mK c1 _ (.tup [.tup (l.1.map .int),.int l.2]) _ _
   walk_at "ev"
   with_reducible refine cJ hq1 (bX ?_)
   refine vI (by walk_at "at") (by walk_at "at") ?_
   refine AK (ds:=B.map aO) rfl ?_
   refine ⟨fun j ρ'=>∃ s6 s7 s8 s9 s10:Sl,ρ'=[.va (.lst (As.map af)),.va (.lst (A.map aO)),.va (af B),.ow ((ts++(B.take j).map (dJ l)).map aO),.va (.tup (l.1.map .int)),.va (.int l.2),s6,s7,s8,s9,s10],⟨s6,s7,s8,s9,s10,by simp⟩,?_,?_⟩
   ·rintro c2 hcX2 hcR2 hcM2 j d ρ' hd ⟨s6,s7,s8,s9,s10,rfl⟩
    simp only [Oc,Oh] at hd
    obtain ⟨r,hrx,rfl⟩:=hd
    obtain ⟨hj,rfl⟩:=Oa.mp hrx
    have h6r:=(hfB.e B[j] (OG hj)).1
    have hrb:=hfB.b B[j] (OG hj)
    have hq2:c2.X.xe=fun _ _=>False:=by rw [hcX2]; exact hq1
    have e1:ts++(B.take (j+1)).map (dJ l)=(ts++(B.take j).map (dJ l))++[dJ l B[j]]:=by
     rw [O3 hj,OD,Om]; rfl
    have hlen2:((ts++(B.take j).map (dJ l)).map aO).length<sizeLine:=iG (by
     rw [N6,OH,N6,Pc]; omega)
    generalize ts++(B.take j).map (dJ l)=us at e1 hlen2 ⊢
    generalize B[j]=r at h6r hrb e1 ⊢
    show mK c2 _ (.tup [.tup (r.1.map .int),.int r.2]) _ _
    generalize hG:(fun ρ'=>aY c2 _ ρ' _ _)=G
    walk_at "ev"
    subst hG
    refine aP ?_
    generalize hG:(fun ρ'=>aY c2 _ ρ' _ _)=G
    walk_at "ev"
    have ew:(if ((r.1.map D.int).length:Int)>((l.1.map D.int).length:Int) then ((r.1.map D.int).length:Int) else ((l.1.map D.int).length:Int))=((max l.1.length r.1.length:Nat):Int):=by simp only [N6]; split <;> omega
    rw [ew]
    have hw6:max l.1.length r.1.length≤6:=by omega
    generalize hwd:max l.1.length r.1.length=wd at hw6 ⊢
    subst hG
    refine aP ?_
    generalize hG:(fun ρ'=>aY c2 _ ρ' _ _)=G
    walk_at "ev"
    refine ⟨_,_,rfl,rfl,⟨⟨by simp,by rw [N6]; omega,by rw [N6]; omega,by rw [xw]; exact uA (by simp; omega)⟩,?_⟩⟩
    rw [xw]
    walk_at "ev"
    ·exact uA (by simp; omega)
    subst hG
    refine aP ?_
    generalize hG:(fun ρ'=>aY c2 _ ρ' _ _)=G
    walk_at "ev"
    refine ⟨_,_,rfl,rfl,⟨⟨by simp,by rw [N6]; omega,by rw [N6]; omega,by rw [xw]; exact uA (by simp; omega)⟩,?_⟩⟩
    rw [xw]
    walk_at "ev"
    ·exact uA (by simp; omega)
    subst hG
    refine aP ?_
    with_reducible refine tV (by walk_at "at") (by walk_at "at") (by walk_at "own") ?_
    refine Ga (cX (i8 (Txt.tuple T) (e_x (c7 hq2 (N':=["_law_k","_law_one","_law_two"]) (ρ0:=fun _=>[.un,.va (.tup (l.1.map .int++(Of (wd - l.1.length) [D.int 0]).flatten)),.va (.tup (r.1.map .int++(Of (wd - r.1.length) [D.int 0]).flatten))]) (fun t=>.un (.fr (by walk_at "at") (by walk_at "at") (by decide) rfl (.fr (by walk_at "at") (by walk_at "at") (by decide) rfl .nil))) (fD (Txt.range T) ?_)))) ?_)
    case refine_2=>intro _; walk_at "u"
    walk_at "ev"
    ·exact ⟨by omega,by omega⟩
    ·rw [jv]; exact uA (by omega)
    refine ⟨(OQ wd).map fun k=>some (.int (bU l.1 k+bU r.1 k)),by simp [jv],?_,?_⟩
    ·intro c3 hc3 t k d o hd ho
     rw [OW] at hd
     obtain ⟨hk,rfl⟩:=gS hd
     rw [Oc,Q3 hk] at ho
     cases ho
     refine cj (by walk_at "at") (oS (by walk_at "sset") ⟨.un (.same (.same .nil)),?_⟩)
     simp only [mP]
     refine ⟨fun _=>?_,fun h=>by cases h⟩
     walk_at "ev"
     refine i7 (CS (p:=l.1) hk (by omega)) ?_
     walk_at "ev"
     refine i7 (CS (p:=r.1) hk (by omega)) ?_
     walk_at "ev"
     rfl
    ·rw [cQ (fun k=>D.int (bU l.1 k+bU r.1 k)),show (OQ wd).map (fun k=>D.int (bU l.1 k+bU r.1 k))=(cA l.1 r.1).map D.int by rw [← hwd]; unfold cA; rw [Ow]; rfl]
     walk_at "ev"
     ·exact qa hlb hrb (by decide)
     show ∃ s6 s7 s8 s9 s10:Sl,_=[_,_,_,.ow ((ts++(B.take (j+1)).map (dJ l)).map aO),_,_,s6,s7,s8,s9,s10]
     rw [e1,← jX]
     exact ⟨_,_,_,_,_,rfl⟩
   ·rintro ρ' ⟨s6,s7,s8,s9,s10,rfl⟩
    rw [N6,OX,← e0]
    walk_at "ev"
    exact ⟨_,_,_,_,_,_,_,rfl⟩
  ·rintro ρ' ⟨s4,s5,s6,s7,s8,s9,s10,rfl⟩
   rw [N6,OX]
   refine aP (qH (by walk_at "at") (v5 3 (by walk_at "at") rfl (by walk_at "sset") (x_call (F:=p9) h1 (by decide) ?_)))
   walk_at "ev"
   refine aS (uW (by rw [dB]; exact hlp) fun t ht=>?_) ⟨dR fun x _=>jW x,?_⟩
   ·obtain ⟨l,hl,r,hr,rfl⟩:=gB ht
    show (cA l.1 r.1).length≤64
    have:=hA6 l hl
    have:=(hfB.e r hr).1
    rw [jo]; omega
   walk_at "ev"
   show ∃ s2 s3 s4 s5 s6 s7 s8 s9 s10:Sl,_=[_,.ow ((dF (As.take (i+1))).map aO),s2,s3,s4,s5,s6,s7,s8,s9,s10]
   rw [eN]
   exact ⟨_,_,_,_,_,_,_,_,_,rfl⟩
 ·rintro ρ' ⟨s2,s3,s4,s5,s6,s7,s8,s9,s10,rfl⟩
  rw [N6,OX]
  walk_at "ev"
  rfl
end
end
section
variable {P:Program} {w:World} {K:NZ} {mg:Str→Option Value} {base:Heap}
noncomputable def mq (n:Int) (t:aJ):aJ:=(t.1,n * t.2)
theorem l5 (p):cA [] p=p:=by
 unfold cA
 refine Sz (by simp) fun i h1 h2=>?_
 rw [Ug,TX]
 simp [bU,Ov h2]
theorem Jx (n:Int) (A:List aJ):mp (A.map (mq n))=(n:MP) * mp A:=by
 rw [← pR,← uH]
 refine congrArg mp ?_
 unfold aL cT
 rw [Su,Uh,O7]
 refine P7 fun t _=>?_
 unfold mq dJ
 rw [l5]
noncomputable def sV (p:Part):D:=.tup [.int p.1,.lst (p.2.map af)]
noncomputable def f9 (ps:List Part):List aJ:=ps.flatMap fun p=>(dF p.2).map (mq p.1)
theorem ze (ps) (p:Part):f9 (ps++[p])=f9 ps++(dF p.2).map (mq p.1):=by simp [f9]
theorem FQ (hf:∀ A∈As,cR A) (hl:bK As≤20000):mp (dF As)=u0 As:=by
 have h:=(fJ hf hl As.length (N3 _)).m
 rw [OX] at h
 rw [h]; grind
theorem xx {ps:List Part} (hp:p∈ps):bK p.2≤(ps.map fun p=>bK p.2).sum:=by
 induction ps with
 | nil=>cases hp
 | cons q ps ih =>
  rw [N5,Qc]
  rcases Og.mp hp with rfl | h
  ·exact Q7 _ _
  ·exact Od (ih h) (Nat.le_add_left _ _)
theorem xy (h:∀ p∈ps,c9 p∧bK p.2≤20000):mp (f9 ps)=mp (fj ps):=by
 induction ps with
 | nil=>rfl
 | cons p ps ih =>
  have hp:=h p N9
  have e1:f9 (p::ps)=(dF p.2).map (mq p.1)++f9 ps:=rfl
  have e2:fj (p::ps)=gZ p.1 p.2++fj ps:=rfl
  rw [e1,e2,pQ,pQ,ih fun q hq=>h q (Ob _ hq),Jx,FQ hp.1.f hp.2,iR]
theorem mw (h:∀ p∈ps,c9 p∧bK p.2≤20000):(f9 ps).length≤(ps.map fun p=>bK p.2).sum:=by
 induction ps with
 | nil=>exact N3 _
 | cons p ps ih =>
  have hp:=h p N9
  have e1:f9 (p::ps)=(dF p.2).map (mq p.1)++f9 ps:=rfl
  have hw:=(fJ hp.1.f hp.2 p.2.length (N3 _)).l
  rw [OX] at hw
  rw [e1,OH,N6,N5,Qc]
  exact Nat.add_le_add hw (ih fun q hq=>h q (Ob _ hq))
theorem Jy (hf:∀ A∈As,cR A) (hl:bK As≤20000):∀ t∈dF As,t.1.length≤6:=fun t ht=>by
 have h:=(fJ hf hl As.length (N3 _)).e
 rw [OX] at h
 exact (h t ht).1
theorem Jz (h8:As.length≤8) (hf:∀ A∈As,cR A) (hl:bK As≤20000):Bn 20000 (dF As):=by
 have h:=(fJ hf hl As.length (N3 _)).b
 rw [OX] at h
 exact h.mono (by omega)
theorem CT (h:∀ p∈ps,c9 p∧bK p.2≤20000):∀ t∈f9 ps,t.1.length≤6:=fun t ht=>by
 obtain ⟨p,hp,ht⟩:=Sy.mp ht
 obtain ⟨u,hu,rfl⟩:=Oo.mp ht
 exact Jy (h p hp).1.f (h p hp).2 u hu
noncomputable def CU:Fn:=fun ds r=>∃ ps:List Part,aW ps∧ds=[.lst (ps.map sV)]∧r=.ok (.ow ((bB (fj ps)).map aO))
theorem mz (h:aW ps):CU [.lst (ps.map sV)] (.ok (.ow ((bB (fj ps)).map aO))):=⟨ps,h,rfl,rfl⟩
theorem JA (Fu:fL K "_law_sum" "_law_sum" l9 f fd) (T:Txt K mg) (h1:cG P w K mg base 1 "_law_plain" p9) (h2:cG P w K mg base 2 "_law_product" CQ):bx P w K mg base (dP P w) 3 f fd ["_law_parts"] (fO K CU):=by
 refine cZ Fu Ce Cf (by rintro ds r ⟨As,_,rfl,_⟩; rfl) (by rintro ds r ⟨As,_,_,rfl⟩; exact ⟨_,rfl⟩) fun c hq ds sl hF=>?_
 obtain ⟨ps,h,rfl,e⟩:=hF
 injection e with e
 subst e
 have hh:∀ p∈ps,c9 p∧bK p.2≤20000:=fun p hp=>⟨h.p p hp,Od (xx hp) h.s⟩
 show aY c _ [.va (.lst (ps.map sV)),.un,.un,.un] _ _
 conv in (az _)=>whnf
 walk_at "ev"
 show fu c _ [.va (.lst (ps.map sV)),.ow ((f9 (ps.take 0)).map aO),.un,.un] _ _
 with_reducible refine cJ hq (bX ?_)
 walk_at "ev"
 refine ⟨fun i ρ'=>∃ s2 s3:Sl,ρ'=[.va (.lst (ps.map sV)),.ow ((f9 (ps.take i)).map aO),s2,s3],⟨_,_,rfl⟩,?_,?_⟩
 ·rintro c' ou zk zm i d ρ' hd ⟨s2,s3,rfl⟩
  simp only [Oc,Oh] at hd
  obtain ⟨p,hpx,rfl⟩:=hd
  obtain ⟨hi,rfl⟩:=Oa.mp hpx
  have hq':c'.X.xe=fun _ _=>False:=by rw [ou]; exact hq
  obtain ⟨hp,hpl⟩:=hh _ (OG hi)
  have eN:f9 (ps.take (i+1))=f9 (ps.take i)++(dF ps[i].2).map (mq ps[i].1):=by rw [O3 hi,ze]
  have hln:(f9 (ps.take i)).length+(dF ps[i].2).length≤20000:=by
   have h1:=mw (ps:=ps.take (i+1)) fun q hq=>hh q (Se hq)
   rw [eN,OH,N6] at h1
   refine Od h1 (Od ?_ h.s)
   rw [← PN (i+1) ps,OD,QF,PN]
   exact Q7 _ _
  generalize f9 (ps.take i)=A at eN hln ⊢
  generalize ps[i]=p at hp hpl eN hln ⊢
  show mK c' _ (.tup [.int p.1,.lst (p.2.map af)]) _ _
  generalize hG:(fun ρ'=>aY c' _ ρ' _ _)=G
  walk_at "ev"
  subst hG
  refine aP (qH (by walk_at "at") (v5 1 (by walk_at "at") rfl (by walk_at "sset") (Az (vI (by walk_at "at") (by walk_at "at") (e_x (c7 hq' (N':=["_law_powers","_law_count","_law_number"]) (ρ0:=fun _=>[.un,.un,.va (.int p.1)]) (fun t=>.un (.un (.fr (by walk_at "at") (by walk_at "at") (by decide) rfl .nil))) (bX (e_x (x_call (F:=CQ) h2 (by decide) ?_)))))))))
  walk_at "ev"
  refine aS (LF hp.m hp.f hpl) (cK ?_)
  have hb:=Jz hp.m hp.f hpl
  generalize dF p.2=L at eN hln hb ⊢
  refine AK rfl ⟨uA (by simp only [N6]; omega),L.map fun x=>some (aO (mq p.1 x)),by simp,?_,?_⟩
  ·intro c2 hc t i d o hd ho
   simp only [Oc,Oh] at hd ho
   obtain ⟨x,hx,rfl⟩:=hd
   obtain ⟨x',hx',rfl⟩:=ho
   rw [hx] at hx'; cases hx'
   have hxb:=hb x (Pe hx)
   show mK c2 _ (.tup [.tup (x.1.map .int),.int x.2]) _ _
   walk_at "ev"
   refine ⟨.un (.un (.same .nil)),?_⟩
   simp only [mP]
   refine ⟨fun _=>?_,fun h=>by cases h⟩
   walk_at "ev"
   ·exact qa hp.n hxb (by decide)
   rfl
  ·rw [cQ (fun x=>aO (mq p.1 x)),show L.map (fun x=>aO (mq p.1 x))=(L.map (mq p.1)).map aO by rw [Ow]; rfl]
   walk_at "ev"
   ·exact uA (by simp only [N6]; omega)
   ·rw [← OD]; exact dR fun x _=>jW x
   show ∃ s2 s3:Sl,_=[_,.ow ((f9 (ps.take (i+1))).map aO),s2,s3]
   rw [eN,OD]
   exact ⟨_,_,rfl⟩
 ·rintro ρ' ⟨s2,s3,rfl⟩
  rw [N6,OX]
  refine aP (d7 (v5 1 (by walk_at "at") rfl (by walk_at "sset") (x_call (F:=p9) h1 (by decide) ?_)))
  walk_at "ev"
  refine aS (uW (Od (mw hh) h.s) fun t ht=>Od (CT hh t ht) (by decide)) ⟨dR fun x _=>jW x,?_⟩
  show Sl.ow _=Sl.ow _
  rw [show fH (nz (aI (f9 ps)))=bB (fj ps) from iI (xy hh)]
noncomputable def CV:Fn:=fun ds r=>∃ (ns:List Int) (k:Nat),ds=[.lst (ns.map .int),.int (k:Int)]∧r=.ok (.va (.int (ns.getD k 0)))
theorem LG (ns:List Int) (k:Nat):CV [.lst (ns.map .int),.int (k:Int)] (.ok (.va (.int (ns.getD k 0)))):=⟨ns,k,rfl,rfl⟩
theorem JB {ns:List Int} (h:k<ns.length):jB (ns.map D.int) (k:Int)=some (D.int (ns.getD k 0)):=by
 rw [eS (by lia) (by simp; lia),OW,Oc,Ov h,O9,Ov h]
 rfl
theorem JC (Fu:fL K "_law_cell_at" "_law_cell_at" fX f fd) (T:Txt K mg):bx P w K mg base (dP P w) 1 f fd ["_law_script","_law_k"] (fO K CV):=by
 refine cZ Fu p5 p6 (by rintro ds r ⟨ns,k,rfl,_⟩; rfl) (by rintro ds r ⟨ns,k,_,rfl⟩; exact ⟨_,rfl⟩) fun c hq ds sl hF=>?_
 obtain ⟨ns,k,rfl,e⟩:=hF
 injection e with e
 subst e
 show aY c _ [.va (.lst (ns.map .int)),.va (.int (k:Int))] _ _
 conv in (az _)=>whnf
 walk_at "ev"
 ·have hk:k<ns.length:=by simp only [N6] at *; omega
  refine k8 (JB hk) ?_
  walk_at "ev"
  rfl
 ·have hk:¬ k<ns.length:=by simp only [N6] at *; omega
  show Sl.va _=Sl.va _
  rw [O9,PR (by omega)]; rfl
noncomputable def LH (c:Int) (k:Nat):Int:=(c * 48271+(k:Int) * 69621+11) % 2147483629
noncomputable def JD (c:Int) (k:Nat):Int:=LH c k * LH c k % 2147483587
noncomputable def zf (ns:List Int) (k:Nat):Int :=
 if ns.getD k 0≥10 ^ RP 18 then ns.getD k 0 - 10 ^ RP 18 else JD (ns.getD k 0) k * 2147483563+JD (ns.getD k 0) k * JD (ns.getD k 0) k % 2147483563
noncomputable def CW:Fn:=fun ds r=>∃ (ns:List Int) (k:Nat),ds=[.lst (ns.map .int),.int (k:Int)]∧r=.ok (.va (.int (zf ns k)))
theorem LJ (ns) (k:Nat):CW [.lst (ns.map .int),.int (k:Int)] (.ok (.va (.int (zf ns k)))):=⟨ns,k,rfl,rfl⟩
theorem LK:tK 10 9:=⟨by decide,by decide,by decide +kernel⟩
theorem CY:tK 10 18:=⟨by decide,by decide,by decide +kernel⟩
theorem u6 (h:b.natAbs<2 ^ 63):EV.MulOk a b:=IntMulOk.of_right (qV h)
section
local macro_rules | `(tactic| walk_at "evR")=> `(tactic| with_reducible refine aS (LG _ _) ?_)
local macro_rules | `(tactic| walk_at "evCa")=> `(tactic| with_reducible refine cY (F:=CV) (by assumption) (by decide) ?_)
theorem JE (Fu:fL K "_law_digits" "_law_digits" gI f fd) (T:Txt K mg) (h1:cG P w K mg base 1 "_law_cell_at" CV):bx P w K mg base (dP P w) 2 f fd ["_law_script","_law_k"] (fO K CW):=by
 refine cZ Fu sH sI (by rintro ds r ⟨ns,k,rfl,_⟩; rfl) (by rintro ds r ⟨ns,k,_,rfl⟩; exact ⟨_,rfl⟩) fun c hq ds sl hF=>?_
 obtain ⟨ns,k,rfl,e⟩:=hF
 injection e with e
 subst e
 show aY c _ [.va (.lst (ns.map .int)),.va (.int (k:Int)),.un,.un] _ _
 conv in (az _)=>whnf
 walk_at "ev"
 ·exact CY
 ·exact CY
 ·show Sl.va _=Sl.va _
  unfold zf
  rw [if_pos (by assumption)]
 ·exact u6 (by decide)
 ·exact u6 (by decide)
 ·exact qW (by omega)
 ·exact u6 (by decide)
 ·exact qW (by omega)
 ·show Sl.va _=Sl.va _
  unfold zf
  rw [if_neg (by assumption)]
  rfl
end
noncomputable def stN (r:Int):Int:=r / 513 / 16
noncomputable def Dy (r:Int):aJ:=([r % 3,r / 3 % 3,r / 9 % 3],if r / 513 % 16=15 then (r / 27 % 19 - 9) * (10 ^ RP 9+7) else r / 27 % 19 - 9)
noncomputable def nc:Nat→Int→List aJ×Int
 | 0,r=>([],r)
 | i+1,r=>((nc i r).1++[Dy (nc i r).2],stN (nc i r).2)
noncomputable def sW (n:Int):List aJ:=bB (nc (n % 4).toNat (n / 4)).1
theorem kO (i) (r):(nc i r).1.length=i:=by
 induction i with
 | zero=>rfl
 | succ i ih=>simp [nc,ih]
noncomputable def sX:Fn:=fun ds r=>∃ n:Int,ds=[.int n]∧r=.ok (.ow ((sW n).map aO))
theorem JF (n):sX [.int n] (.ok (.ow ((sW n).map aO))):=⟨n,rfl,rfl⟩
theorem LL (i) (r):∀ t∈(nc i r).1,t.1.length=3:=by
 induction i with
 | zero=>intro t ht; cases ht
 | succ i ih =>
  intro t ht
  rcases OA.mp ht with h | h
  ·exact ih t h
  ·rw [Ol.mp h]; rfl
section
theorem FT (Fu:fL K "_law_some" "_law_some" jU f fd) (T:Txt K mg) (h1:cG P w K mg base 1 "_law_plain" p9):bx P w K mg base (dP P w) 2 f fd ["_law_number"] (fO K sX):=by
 refine cZ Fu yU yV (by rintro ds r ⟨n,rfl,_⟩; rfl) (by rintro ds r ⟨n,_,rfl⟩; exact ⟨_,rfl⟩) fun c hq ds sl hF=>?_
 obtain ⟨n,rfl,e⟩:=hF
 injection e with e
 subst e
 show aY c _ [.va (.int n),.un,.un,.un,.un,.un] _ _
 conv in (az _)=>whnf
 walk_at "ev"
 show fu c _ [.va (.int (nc 0 (n / 4)).2),.ow ((nc 0 (n / 4)).1.map aO),.va (.int (n % 4)),.un,.un,.un] _ _
 with_reducible refine cJ hq (fD (Txt.range (by assumption)) ?_)
 walk_at "ev"
 ·exact ⟨by omega,by omega⟩
 refine ⟨fun i ρ'=>∃ s3 s4 s5:Sl,ρ'=[.va (.int (nc i (n / 4)).2),.ow ((nc i (n / 4)).1.map aO),.va (.int (n % 4)),s3,s4,s5],⟨_,_,_,rfl⟩,?_,?_⟩
 ·rintro c' ou zk zm i d ρ' hd ⟨s3,s4,s5,rfl⟩
  obtain ⟨hi,rfl⟩:=gS hd
  have hl:=kO i (n / 4)
  have eN:nc (i+1) (n / 4)=((nc i (n / 4)).1++[Dy (nc i (n / 4)).2],stN (nc i (n / 4)).2):=rfl
  generalize nc i (n / 4)=g at hl eN ⊢
  obtain ⟨L,r⟩:=g
  have hm:=Int.emod_lt_of_pos (r / 27) (b:=19) (by decide)
  have hm0:=Int.emod_nonneg (r / 27) (b:=19) (by decide)
  have hz:(L.map aO).length<sizeLine:=iG (by rw [N6]; have:L.length=i:=hl; omega)
  walk_at "ev"
  ·exact LK
  ·exact qW (by show ((r / 27 % 19 - 9:Int)).natAbs<_; omega)
  ·show ∃ s3 s4 s5:Sl,_=[.va (.int (nc (i+1) (n / 4)).2),.ow ((nc (i+1) (n / 4)).1.map aO),.va (.int (n % 4)),s3,s4,s5]
   rw [eN,← jX,show aO (Dy r)=.tup [.tup [.int (r % 3),.int (r / 3 % 3),.int (r / 9 % 3)],.int ((r / 27 % 19 - 9) * (10 ^ RP 9+7))] by unfold Dy; rw [if_pos (by assumption)]; rfl]
   exact ⟨_,_,_,rfl⟩
  ·show ∃ s3 s4 s5:Sl,_=[.va (.int (nc (i+1) (n / 4)).2),.ow ((nc (i+1) (n / 4)).1.map aO),.va (.int (n % 4)),s3,s4,s5]
   rw [eN,← jX,show aO (Dy r)=.tup [.tup [.int (r % 3),.int (r / 3 % 3),.int (r / 9 % 3)],.int (r / 27 % 19 - 9)] by unfold Dy; rw [if_neg (by assumption)]; rfl]
   exact ⟨_,_,_,rfl⟩
 ·rintro ρ' ⟨s3,s4,s5,rfl⟩
  rw [jv]
  refine aP (d7 (v5 1 (by walk_at "at") rfl (by walk_at "sset") (x_call (F:=p9) h1 (by decide) ?_)))
  walk_at "ev"
  refine aS (uW (by rw [kO]; omega) fun t ht=>by rw [LL _ _ t ht]; decide) ⟨dR fun x _=>jW x,?_⟩
  rfl
end
end
section
variable {K:NZ}
noncomputable def CZ (ns:List Int) (a:Nat) (m:Nat):List (List aJ):=(OQ m).map fun k=>sW (zf ns (a+k))
noncomputable def sY:Fn:=fun ds r=>∃ (ns:List Int) (a m:Nat),m≤100∧a≤1000∧ds=[.lst (ns.map .int),.int (a:Int),.int (m:Int)]∧r=.ok (.va (.tup ((CZ ns a m).map af)))
theorem C0 (ns) {a m:Nat} (h:m≤100) (ha:a≤1000):sY [.lst (ns.map .int),.int (a:Int),.int (m:Int)] (.ok (.va (.tup ((CZ ns a m).map af)))):=⟨ns,a,m,h,ha,rfl,rfl⟩
theorem JG (Fu:fL K "_law_things" "_law_things" gJ f fd) (T:Txt K mg) (h1:cG P w K mg base 2 "_law_digits" CW) (h2:cG P w K mg base 2 "_law_some" sX):bx P w K mg base (dP P w) 3 f fd ["_law_script","_law_at","_law_many"] (fO K sY):=by
 refine cZ Fu sJ sL (by rintro ds r ⟨ns,a,m,_,_,rfl,_⟩; rfl) (by rintro ds r ⟨ns,a,m,_,_,_,rfl⟩; exact ⟨_,rfl⟩) fun c hq ds sl hF=>?_
 obtain ⟨ns,a,m,hm,ha,rfl,e⟩:=hF
 injection e with e
 subst e
 show aY c _ [.va (.lst (ns.map .int)),.va (.int (a:Int)),.va (.int (m:Int))] _ _
 conv in (az _)=>whnf
 refine aP (d7 (F8 (i8 (Txt.tuple T) (e_x (c7 hq (N':=["_law_k","_law_script","_law_at"]) (ρ0:=fun _=>[.un,.va (.lst (ns.map .int)),.va (.int (a:Int))]) (fun t=>.un (.fr (by walk_at "at") (by walk_at "at") (by decide) rfl (.fr (by walk_at "at") (by walk_at "at") (by decide) rfl .nil))) (fD (Txt.range T) ?_))))))
 walk_at "ev"
 ·exact ⟨by omega,by omega⟩
 ·rw [jv]; exact uA (by omega)
 rw [OW]
 refine ⟨(CZ ns a m).map fun A=>some (af A),by simp [jv,CZ],?_,?_⟩
 ·intro c3 hc3 t k d o hd ho
  obtain ⟨hk,rfl⟩:=gS hd
  unfold CZ at ho
  rw [Oc,Oc,Q3 hk] at ho
  cases ho
  refine cj (by walk_at "at") (oS (by walk_at "sset") ⟨.un (.same (.same .nil)),?_⟩)
  simp only [mP]
  refine ⟨fun _=>?_,fun h=>by cases h⟩
  refine cY (F:=sX) h2 (by decide) (cX (cY (F:=CW) h1 (by decide) ?_))
  walk_at "ev"
  rw [show (a:Int)+(k:Int)=((a+k:Nat):Int) by omega]
  refine aS (LJ ns (a+k)) (Gh ?_)
  walk_at "ev"
  refine aS (JF _) ?_
  walk_at "ev"
  rfl
 ·rw [cQ af]
  walk_at "ev"
  rfl
noncomputable def zg:Fn:=fun ds r=>∃ As:List (List aJ),As.length≤1000∧ds=[.tup (As.map af)]∧r=.ok (.va (.tup (As.map af)))
theorem LM {As:List (List aJ)} (h:As.length≤1000):zg [.tup (As.map af)] (.ok (.va (.tup (As.map af)))):=⟨As,h,rfl,rfl⟩
theorem JH (Fu:fL K "_law_copied" "_law_copied" gK f fd) (T:Txt K mg):bx P w K mg base (dP P w) 1 f fd ["_law_told"] (fO K zg):=by
 refine cZ Fu sM sN (by rintro ds r ⟨A,_,rfl,_⟩; rfl) (by rintro ds r ⟨A,_,_,rfl⟩; exact ⟨_,rfl⟩) fun c hq ds sl hF=>?_
 obtain ⟨As,hl,rfl,e⟩:=hF
 injection e with e
 subst e
 show aY c _ [.va (.tup (As.map af))] _ _
 conv in (az _)=>whnf
 refine aP (d7 (F8 (i8 (Txt.tuple T) (e_x (c7 hq (N':=["_law_some_here"]) (ρ0:=fun _=>[.un]) (fun t=>.un .nil) (bX ?_))))))
 walk_at "ev"
 ·exact uA (by rw [N6]; omega)
 refine ⟨As.map fun t=>some (af t),by simp,?_,cK ?_⟩
 ·intro c' hc t i d o hd ho
  simp only [Oc,Oh] at hd ho
  obtain ⟨x,hx,rfl⟩:=hd
  obtain ⟨x',hx',rfl⟩:=ho
  rw [hx] at hx'; cases hx'
  refine cj (by walk_at "at") (oS (by walk_at "sset") ⟨.un .nil,?_⟩)
  simp only [mP]
  refine ⟨fun _=>?_,fun h=>by cases h⟩
  refine e_x (Aw (Txt.list T) ?_)
  walk_at "ev"
  rfl
 ·rw [cQ af]
  walk_at "ev"
  rfl
noncomputable def C1:Fn:=fun ds r=>∃ L:List aJ,(∀ t∈L,t.1.length≤64)∧ds=[.lst (L.map aO)]∧r=.ok (.va (.bl true))
theorem LN {L:List aJ} (h2:∀ t∈L,t.1.length≤64):C1 [.lst (L.map aO)] (.ok (.va (.bl true))):=⟨L,h2,rfl,rfl⟩
theorem JI (Fu:fL K "_law_terms" "_law_terms" iN f fd) (T:Txt K mg):bx P w K mg base (dP P w) 1 f fd ["_law_some_here"] (fO K C1):=by
 refine cZ Fu uP uQ (by rintro ds r ⟨n,_,rfl,_⟩; rfl) (by rintro ds r ⟨n,_,_,rfl⟩; exact ⟨_,rfl⟩) fun c hq ds sl hF=>?_
 obtain ⟨L,hlen,rfl,e⟩:=hF
 injection e with e
 subst e
 show aY c _ [.va (.lst (L.map aO)),.un,.un] _ _
 conv in (az _)=>whnf
 walk_at "ev"
 with_reducible refine cJ hq (bX ?_)
 walk_at "ev"
 refine ⟨fun i ρ'=>∃ s1 s2:Sl,ρ'=[.va (.lst (L.map aO)),s1,s2],⟨_,_,rfl⟩,?_,?_⟩
 ·rintro c' ou zk zm i d ρ' hd ⟨s1,s2,rfl⟩
  simp only [Oc,Oh] at hd
  obtain ⟨t,ht,rfl⟩:=hd
  have hlt:=hlen t (Pe ht)
  have hq':c'.X.xe=fun _ _=>False:=by rw [ou]; exact hq
  show mK c' _ (.tup [.tup (t.1.map .int),.int t.2]) _ _
  walk_at "ev"
  case refine_2 h=>exact absurd rfl h
  with_reducible refine cJ hq' (bX ?_)
  walk_at "ev"
  ·exact uA (by simp; omega)
  refine ⟨fun i ρ'=>∃ s2:Sl,ρ'=[.va (.lst (L.map aO)),.va (aO t),s2],⟨_,rfl⟩,?_,?_⟩
  ·rintro c2 hcX2 hcR2 hcM2 j d ρ' hd ⟨s2,rfl⟩
   rw [show (t.1.map D.int++[D.int t.2])=(t.1++[t.2]).map D.int by simp,Oc,Oh] at hd
   obtain ⟨n,_,rfl⟩:=hd
   walk_at "ev"
   exact ⟨_,rfl⟩
  ·rintro ρ' ⟨s2,rfl⟩
   walk_at "ev"
   exact ⟨_,_,rfl⟩
 ·rintro ρ' ⟨s1,s2,rfl⟩
  walk_at "ev"
  rfl
noncomputable def zh:Fn:=fun ds r=>∃ As:List (List aJ),As.length≤1000∧(∀ A∈As,∀ t∈A,t.1.length≤64)∧ds=[.tup (As.map af),.tup (As.map af)]∧r=.ok (.va (.bl true))
theorem LO {As:List (List aJ)} (h:As.length≤1000) (h2:∀ A∈As,∀ t∈A,t.1.length≤64):zh [.tup (As.map af),.tup (As.map af)] (.ok (.va (.bl true))):=⟨As,h,h2,rfl,rfl⟩
section
local macro_rules | `(tactic| walk_at "evCa")=> `(tactic| first | with_reducible refine cY (F:=C1) (by assumption) (by decide) ?_)
theorem JJ {f:Addr} {fd:FuncData} (Fu:fL K "_law_same" "_law_same" jV f fd) (T:Txt K mg) (h1:cG P w K mg base 1 "_law_terms" C1):bx P w K mg base (dP P w) 2 f fd ["_law_found","_law_due_here"] (fO K zh):=by
 refine cZ Fu yW yX (by rintro ds r ⟨n,_,_,rfl,_⟩; rfl) (by rintro ds r ⟨n,_,_,_,rfl⟩; exact ⟨_,rfl⟩) fun c hq ds sl hF=>?_
 obtain ⟨As,hl,hlen,rfl,e⟩:=hF
 injection e with e
 subst e
 show aY c _ [.va (.tup (As.map af)),.va (.tup (As.map af)),.un] _ _
 conv in (az _)=>whnf
 walk_at "ev"
 case refine_2 h=>exact absurd rfl h
 with_reducible refine cJ hq (fD (Txt.range (by assumption)) ?_)
 walk_at "ev"
 ·exact ⟨by omega,by simp only [N6]; omega⟩
 refine ⟨fun i ρ'=>∃ s2:Sl,ρ'=[.va (.tup (As.map af)),.va (.tup (As.map af)),s2],⟨_,rfl⟩,?_,?_⟩
 ·rintro c' ou zk zm i d ρ' hd ⟨s2,rfl⟩
  obtain ⟨hi,rfl⟩:=gS hd
  rw [N6,OW] at hi
  have hA:=hlen _ (OG hi)
  have hat:jB (As.map af) (i:Int)=some (af As[i]):=by
   rw [eS (by omega) (by simp; omega),OW,Oc,Ov hi]; rfl
  generalize As[i]=A at hA hat
  walk_at "ev"
  refine i7 hat ?_
  walk_at "ev"
  refine aS (LN hA) ?_
  walk_at "ev"
  refine i7 hat ?_
  walk_at "ev"
  refine i7 hat ?_
  walk_at "ev"
  refine sd (yC A A) ?_
  walk_at "ev"
  exact ⟨_,rfl⟩
 ·rintro ρ' ⟨s2,rfl⟩
  walk_at "ev"
  rfl
end
noncomputable def Mm:D:=.tup [.tup [.int 1],.int 5]
noncomputable def Nl:D:=.tup [.tup [],.int 0]
noncomputable def C9 (x:Addr×List D):Addr×List D:=(x.1,Nl::(x.2++[Mm]))
noncomputable def LP (i:Nat) (L:List (Addr×List D)):List (Addr×List D):=(L.take i).map C9++L.drop i
theorem Dc:∀ L:List (Addr×List D),yH (iH L)=some (L.map fun x=>D.adr x.1)
 | []=>rfl
 | x::L=>by
  have:=Dc L
  unfold iH at this ⊢
  simp only [N5,yH,Sh.raw,this]
theorem u7 (A B):iH (A++B)=iH A++iH B:=by unfold iH; rw [OD]
theorem Dd (h:i<L.length):iH (LP i L)=iH ((L.take i).map C9)++.la L[i].1 L[i].2::iH (L.drop (i+1)):=by
 unfold LP
 rw [u7,RW h]
 rfl
theorem De (h:i<L.length):iH ((L.take i).map C9)++.la L[i].1 (Nl::(L[i].2++[Mm]))::iH (L.drop (i+1))=iH (LP (i+1) L):=by
 unfold LP
 rw [u7,O3 h,OD,u7,Om]
 rfl
noncomputable def xA (s:Sh):Prop:=∃ dss:List (List D),s=.t (dss.map .l)∧dss.length≤1000∧∀ ds∈dss,ds.length≤20000
theorem Df (Fu:fL K "_law_spoil" "_law_spoil" iO f fd):bx P w K mg base (dP P w) 1 f fd ["_law_found"] (J0 K xA):=by
 refine Ng Fu uR uS rfl (by decide) fun c hq s hs=>?_
 obtain ⟨dss,rfl,hl,hd'⟩:=hs
 show aY c _ [.fo (.t (dss.map .l)),.un] _ _
 conv in (az _)=>whnf
 refine aP (IZ 0 (by walk_at "at") fun L e=>?_)
 subst e
 show fu c _ [.fo (.t (iH L)),.un] _ _
 have hll:L.length≤1000:=by rw [← N6 (f:=(·.2))]; exact hl
 with_reducible refine cJ hq (bX (IY (by walk_at "at") (by walk_at "at") (Dc L) ?_))
 refine ⟨_,rfl,fun i ρ'=>ρ'=[.fo (.t (iH (LP i L))),.un],rfl,?_,?_⟩
 ·rintro c' ou zk zm i d ρ' hd rfl
  simp only [Oc,Oh] at hd
  obtain ⟨x,hx,rfl⟩:=hd
  obtain ⟨hi,rfl⟩:=Oa.mp hx
  have hli:L[i].2.length≤20000:=hd' _ (Oo.mpr ⟨_,OG hi,rfl⟩)
  refine cj (by walk_at "at") (oS (by walk_at "sset") ?_)
  rw [Dd hi]
  refine BR 0 1 (.z (.cons rfl .nil)) (by walk_at "at") ?_ (by decide)
  show aY c' _ [.fo (.t (iH ((L.take i).map C9)++.v (.adr L[i].1)::iH (L.drop (i+1)))),.aw L[i].1 L[i].2] _ _
  refine aP ?_
  with_reducible refine tV (by walk_at "at") (by walk_at "at") (by walk_at "own") ?_
  generalize hG:(fun ρ''=>aY c' _ ρ'' _ _)=G
  walk_at "ev"
  ·exact iG (by omega)
  subst hG
  refine aP ?_
  with_reducible refine Jd (ds:=L[i].2++[Mm]) (by walk_at "at") (by walk_at "at") (by walk_at "own") ?_
  generalize hG:(fun ρ''=>aY c' _ ρ'' _ _)=G
  walk_at "ev"
  ·exact iG (by simp; omega)
  subst hG
  show aY c' _ [.fo (.t (iH ((L.take i).map C9)++.v (.adr L[i].1)::iH (L.drop (i+1)))),.aw L[i].1 (Nl::(L[i].2++[Mm]))] _ _
  refine BS 0 1 (.z (.cons rfl .nil)) (by walk_at "at") ?_ (by decide)
  refine tT ?_
  show [Sl.fo (.t _),Sl.un]=_
  rw [De hi]
 ·rintro ρ' rfl
  exact tT trivial
end
section
variable {P:Program} {w:World} {K:NZ} {mg:Str→Option Value} {base:Heap}
structure tw (A:List aJ):Prop where
 l:A.length≤3
 e:Ex 2 A
 b:Bn 100 A
theorem tw.Mn (h:tw A):cR A:=⟨Od h.l (by decide),h.e.mono (by decide),h.b.mono (by decide)⟩
theorem JK (r):(Dy r).1.length≤6∧(∀ x∈(Dy r).1,0≤x∧x≤2)∧(Dy r).2.natAbs<2 ^ 50:=by
 unfold Dy
 refine ⟨by show (3:Nat)≤6; decide,fun x hx=>?_,?_⟩
 ·simp only [Og,P0,or_false] at hx
  rcases hx with rfl | rfl | rfl <;> omega
 ·have h1:=Int.emod_lt_of_pos (r / 27) (b:=19) (by decide)
  have h2:=Int.emod_nonneg (r / 27) (b:=19) (by decide)
  have e9:(10:Int) ^ RP 9=1000000000:=by decide +kernel
  rw [e9]
  dsimp only
  split <;> omega
theorem u9 (i) (r):∀ t∈(nc i r).1,t.1.length≤6∧(∀ x∈t.1,0≤x∧x≤2)∧t.2.natAbs<2 ^ 50:=by
 induction i with
 | zero=>intro t ht; cases ht
 | succ i ih =>
  intro t ht
  rcases OA.mp ht with h | h
  ·exact ih t h
  ·rw [Ol.mp h]; exact JK _
theorem cS (n:Int):tw (sW n) where
 l:=Od (lW _) (by rw [kO]; omega)
 e:=Ex.CO fun t ht=>⟨(u9 _ _ t ht).1,(u9 _ _ t ht).2.1⟩
 b:=(Bn.CO (m:=50) (fun t ht=>(u9 _ _ t ht).2.2) (by rw [kO]; omega)).mono (by decide)
theorem xB:∀ {As:List (List aJ)},(∀ A∈As,tw A)→bK As≤3 ^ As.length
 | [],_=>N3 _
 | A::As,h=>by
  have h1:=(h A N9).l
  have h2:=xB fun B hB=>h B (Ob _ hB)
  show max A.length 1 * bK As≤_
  rw [OF,Nat.pow_succ,RI]
  exact RA h2 (by omega)
theorem vc {ps:List Part} (h:∀ p∈ps,p.1.natAbs<1000∧p.2.length≤6∧∀ A∈p.2,tw A) (hl:ps.length≤27):aW ps where
 p:=fun p hp=>⟨O0 (h p hp).1 (Od (by decide:1000≤2 ^ 10) (Sa (by decide) (by decide))),Od (h p hp).2.1 (by decide),fun A hA=>((h p hp).2.2 A hA).Mn⟩
 l:=Od hl (by decide)
 s:=by
  have:∀ qs:List Part,(∀ p∈qs,p∈ps)→(qs.map fun p=>bK p.2).sum≤729 * qs.length:=fun qs=>by
   induction qs with
   | nil=>exact fun _=>N3 _
   | cons q qs ih =>
    intro hq
    have h1:=ih fun p hp=>hq p (Ob _ hp)
    have h2:=h q (hq q N9)
    have h3:bK q.2≤3 ^ 6:=Od (xB h2.2.2) (Sa (by decide) h2.2.1)
    rw [N5,Qc,OF]
    omega
  have:=this ps fun _ h=>h
  omega
theorem FU (h:aW ps):(bB (fj ps)).length≤20000∧∀ t∈bB (fj ps),t.1.length≤64:=by
 have hh:∀ p∈ps,c9 p∧bK p.2≤20000:=fun p hp=>⟨h.p p hp,Od (xx hp) h.s⟩
 rw [← show bB (f9 ps)=bB (fj ps) from iI (xy hh)]
 exact ⟨Od (lW _) (Od (mw hh) h.s),Bp fun t ht=>Od (CT hh t ht) (by decide)⟩
noncomputable def LQ (ps:List Part):List D:=(bB (fj ps)).map aO
noncomputable def outF (X:List (List Part)):Res:=.ok (.fo (.t (X.map fun ps=>.l (LQ ps))))
noncomputable def qe (a b c d:List aJ):List (List Part):=[[(-1,[b])],[(-1,[c])],[(2,[a])]]
noncomputable def Dg (P:Program) (w:World) (K:NZ) (mg:Str→Option Value) (base:Heap):Fn:=fun ds r=>∃ (ad:Addr) (a b c d:List aJ),pM P w K mg base 4 ad kC∧(∀ ps∈qe a b c d,aW ps)∧ds=[.adr ad,.tup [af a,af b,af c,af d]]∧r=outF (qe a b c d)
theorem LR {ad:Addr} {a b c d:List aJ} (hf:pM P w K mg base 4 ad kC) (hh:∀ ps∈qe a b c d,aW ps):Dg P w K mg base [.adr ad,.tup [af a,af b,af c,af d]] (outF (qe a b c d)):=⟨ad,a,b,c,d,hf,hh,rfl,rfl⟩
noncomputable def J3:Fn:=fun ds r=>∃ a b c d:List aJ,(∀ ps∈qe a b c d,aW ps)∧ds=[.tup [af a,af b,af c,af d]]∧r=outF (qe a b c d)
theorem Nm {a b c d:List aJ} (hh:∀ ps∈qe a b c d,aW ps):J3 [.tup [af a,af b,af c,af d]] (outF (qe a b c d)):=⟨a,b,c,d,hh,rfl,rfl⟩
theorem JL {ff:Addr} {fd:FuncData} (Fu:fL K "centre_rule" "centre_rule" eF ff fd):bx P w K mg base (dP P w) 5 ff fd ["total","o"] (fO K (Dg P w K mg base)):=by
 refine cZ Fu l7 l8 (by rintro ds r ⟨ad,a,b,c,d,_,_,rfl,_⟩; rfl) (by rintro ds r ⟨ad,a,b,c,d,_,_,_,rfl⟩; exact ⟨_,rfl⟩) fun k hq ds sl hF=>?_
 obtain ⟨fg,a,b,c,d,hg,hh,rfl,ee⟩:=hF
 injection ee with ee
 subst ee
 have h1:aW [(-1,[b])]:=hh _ (by simp [qe])
 have h2:aW [(-1,[c])]:=hh _ (by simp [qe])
 have h3:aW [(2,[a])]:=hh _ (by simp [qe])
 show aY k _ [.va (.adr fg),.va (.tup [af a,af b,af c,af d])] _ _
 conv in (az _)=>whnf
 walk_at "evSs"
 refine d7 (uD ?_)
 refine dM ?_
 refine pO (dW hg (by decide) (by walk_at "at") (by walk_at "at") ?_)
 walk_at "ev"
 refine aS (ju h1) ⟨_,rfl,_,rfl,?_⟩
 refine dM ?_
 refine pO (dW hg (by decide) (by walk_at "at") (by walk_at "at") ?_)
 walk_at "ev"
 refine aS (ju h2) ⟨_,rfl,_,rfl,?_⟩
 refine dM ?_
 refine pO (dW hg (by decide) (by walk_at "at") (by walk_at "at") ?_)
 walk_at "ev"
 refine aS (ju h3) ⟨_,rfl,_,rfl,?_⟩
 refine wW ?_
 refine Sd.mk (gp (PM rfl)) ?_
 exact rfl
theorem LS {ff:Addr} {fd:FuncData} (Fu:fL K "centre_point" "centre_point" dO ff fd) (h1:cG P w K mg base 4 "poly_total" kC) (h2:cG P w K mg base 5 "centre_rule" (Dg P w K mg base)):bx P w K mg base (dP P w) 6 ff fd ["o"] (fO K J3):=by
 refine cZ Fu ku kB (by rintro ds r ⟨a,b,c,d,_,rfl,_⟩; rfl) (by rintro ds r ⟨a,b,c,d,_,_,rfl⟩; exact ⟨_,rfl⟩) fun k hq ds sl hF=>?_
 obtain ⟨a,b,c,d,hh,rfl,ee⟩:=hF
 injection ee with ee
 subst ee
 obtain ⟨fg,hm,hg⟩:=h1.at_
 show aY k _ [.va (.tup [af a,af b,af c,af d])] _ _
 conv in (az _)=>whnf
 walk_at "evSs"
 refine d7 (x_call (F:=Dg P w K mg base) h2 (by decide) ?_)
 refine cX (uB hm ?_)
 walk_at "ev"
 exact aS (LR hg hh) rfl
noncomputable def qj (a b c d x y z:List aJ):List (List Part):=[[(2,[a,x]),(1,[b,z])],[(2,[a,y]),(1,[c,z])],[(1,[b,x]),(1,[c,y]),(2,[d,z])]]
noncomputable def Dh (P:Program) (w:World) (K:NZ) (mg:Str→Option Value) (base:Heap):Fn:=fun ds r=>∃ (ad:Addr) (a b c d x y z:List aJ),pM P w K mg base 4 ad kC∧(∀ ps∈qj a b c d x y z,aW ps)∧ds=[.adr ad,.tup [af a,af b,af c,af d],.tup [af x,af y,af z]]∧r=outF (qj a b c d x y z)
theorem LU {ad:Addr} {a b c d x y z:List aJ} (hf:pM P w K mg base 4 ad kC) (hh:∀ ps∈qj a b c d x y z,aW ps):Dh P w K mg base [.adr ad,.tup [af a,af b,af c,af d],.tup [af x,af y,af z]] (outF (qj a b c d x y z)):=⟨ad,a,b,c,d,x,y,z,hf,hh,rfl,rfl⟩
noncomputable def J4:Fn:=fun ds r=>∃ a b c d x y z:List aJ,(∀ ps∈qj a b c d x y z,aW ps)∧ds=[.tup [af a,af b,af c,af d],.tup [af x,af y,af z]]∧r=outF (qj a b c d x y z)
theorem Nn {a b c d x y z:List aJ} (hh:∀ ps∈qj a b c d x y z,aW ps):J4 [.tup [af a,af b,af c,af d],.tup [af x,af y,af z]] (outF (qj a b c d x y z)):=⟨a,b,c,d,x,y,z,hh,rfl,rfl⟩
theorem JM {ff:Addr} {fd:FuncData} (Fu:fL K "polar_rule" "polar_rule" fc ff fd):bx P w K mg base (dP P w) 5 ff fd ["total","o","i"] (fO K (Dh P w K mg base)):=by
 refine cZ Fu mX mY (by rintro ds r ⟨ad,a,b,c,d,x,y,z,_,_,rfl,_⟩; rfl) (by rintro ds r ⟨ad,a,b,c,d,x,y,z,_,_,_,rfl⟩; exact ⟨_,rfl⟩) fun k hq ds sl hF=>?_
 obtain ⟨fg,a,b,c,d,x,y,z,hg,hh,rfl,ee⟩:=hF
 injection ee with ee
 subst ee
 have h1:aW [(2,[a,x]),(1,[b,z])]:=hh _ (by simp [qj])
 have h2:aW [(2,[a,y]),(1,[c,z])]:=hh _ (by simp [qj])
 have h3:aW [(1,[b,x]),(1,[c,y]),(2,[d,z])]:=hh _ (by simp [qj])
 show aY k _ [.va (.adr fg),.va (.tup [af a,af b,af c,af d]),.va (.tup [af x,af y,af z])] _ _
 conv in (az _)=>whnf
 walk_at "evSs"
 refine d7 (uD ?_)
 refine dM ?_
 refine pO (dW hg (by decide) (by walk_at "at") (by walk_at "at") ?_)
 walk_at "ev"
 refine aS (ju h1) ⟨_,rfl,_,rfl,?_⟩
 refine dM ?_
 refine pO (dW hg (by decide) (by walk_at "at") (by walk_at "at") ?_)
 walk_at "ev"
 refine aS (ju h2) ⟨_,rfl,_,rfl,?_⟩
 refine dM ?_
 refine pO (dW hg (by decide) (by walk_at "at") (by walk_at "at") ?_)
 walk_at "ev"
 refine aS (ju h3) ⟨_,rfl,_,rfl,?_⟩
 refine wW ?_
 refine Sd.mk (gp (PM rfl)) ?_
 exact rfl
theorem LV {ff:Addr} {fd:FuncData} (Fu:fL K "polar_line" "polar_line" fh ff fd) (h1:cG P w K mg base 4 "poly_total" kC) (h2:cG P w K mg base 5 "polar_rule" (Dh P w K mg base)):bx P w K mg base (dP P w) 6 ff fd ["o","i"] (fO K J4):=by
 refine cZ Fu mZ m9 (by rintro ds r ⟨a,b,c,d,x,y,z,_,rfl,_⟩; rfl) (by rintro ds r ⟨a,b,c,d,x,y,z,_,_,rfl⟩; exact ⟨_,rfl⟩) fun k hq ds sl hF=>?_
 obtain ⟨a,b,c,d,x,y,z,hh,rfl,ee⟩:=hF
 injection ee with ee
 subst ee
 obtain ⟨fg,hm,hg⟩:=h1.at_
 show aY k _ [.va (.tup [af a,af b,af c,af d]),.va (.tup [af x,af y,af z])] _ _
 conv in (az _)=>whnf
 walk_at "evSs"
 refine d7 (x_call (F:=Dh P w K mg base) h2 (by decide) ?_)
 refine cX (uB hm ?_)
 walk_at "ev"
 exact aS (LU hg hh) rfl
noncomputable def oq (a b c d e f g h:List aJ):List (List Part):=[[(1,[b,e]),(-1,[f,a])],[(1,[c,e]),(-1,[g,a])],[(1,[d,e]),(-1,[h,a])]]
noncomputable def Di (P:Program) (w:World) (K:NZ) (mg:Str→Option Value) (base:Heap):Fn:=fun ds r=>∃ (ad:Addr) (a b c d e f g h:List aJ),pM P w K mg base 4 ad kC∧(∀ ps∈oq a b c d e f g h,aW ps)∧ds=[.adr ad,.tup [af a,af b,af c,af d],.tup [af e,af f,af g,af h]]∧r=outF (oq a b c d e f g h)
theorem LW {ad:Addr} {a b c d e f g h:List aJ} (hf:pM P w K mg base 4 ad kC) (hh:∀ ps∈oq a b c d e f g h,aW ps):Di P w K mg base [.adr ad,.tup [af a,af b,af c,af d],.tup [af e,af f,af g,af h]] (outF (oq a b c d e f g h)):=⟨ad,a,b,c,d,e,f,g,h,hf,hh,rfl,rfl⟩
noncomputable def J5:Fn:=fun ds r=>∃ a b c d e f g h:List aJ,(∀ ps∈oq a b c d e f g h,aW ps)∧ds=[.tup [af a,af b,af c,af d],.tup [af e,af f,af g,af h]]∧r=outF (oq a b c d e f g h)
theorem Np {a b c d e f g h:List aJ} (hh:∀ ps∈oq a b c d e f g h,aW ps):J5 [.tup [af a,af b,af c,af d],.tup [af e,af f,af g,af h]] (outF (oq a b c d e f g h)):=⟨a,b,c,d,e,f,g,h,hh,rfl,rfl⟩
theorem JN {ff:Addr} {fd:FuncData} (Fu:fL K "axis_rule" "axis_rule" fV ff fd):bx P w K mg base (dP P w) 5 ff fd ["total","o","p"] (fO K (Di P w K mg base)):=by
 refine cZ Fu pW pX (by rintro ds r ⟨ad,a,b,c,d,e,f,g,h,_,_,rfl,_⟩; rfl) (by rintro ds r ⟨ad,a,b,c,d,e,f,g,h,_,_,_,rfl⟩; exact ⟨_,rfl⟩) fun k hq ds sl hF=>?_
 obtain ⟨fg,a,b,c,d,e,f,g,h,hg,hh,rfl,ee⟩:=hF
 injection ee with ee
 subst ee
 have h1:aW [(1,[b,e]),(-1,[f,a])]:=hh _ (by simp [oq])
 have h2:aW [(1,[c,e]),(-1,[g,a])]:=hh _ (by simp [oq])
 have h3:aW [(1,[d,e]),(-1,[h,a])]:=hh _ (by simp [oq])
 show aY k _ [.va (.adr fg),.va (.tup [af a,af b,af c,af d]),.va (.tup [af e,af f,af g,af h])] _ _
 conv in (az _)=>whnf
 walk_at "evSs"
 refine d7 (uD ?_)
 refine dM ?_
 refine pO (dW hg (by decide) (by walk_at "at") (by walk_at "at") ?_)
 walk_at "ev"
 refine aS (ju h1) ⟨_,rfl,_,rfl,?_⟩
 refine dM ?_
 refine pO (dW hg (by decide) (by walk_at "at") (by walk_at "at") ?_)
 walk_at "ev"
 refine aS (ju h2) ⟨_,rfl,_,rfl,?_⟩
 refine dM ?_
 refine pO (dW hg (by decide) (by walk_at "at") (by walk_at "at") ?_)
 walk_at "ev"
 refine aS (ju h3) ⟨_,rfl,_,rfl,?_⟩
 refine wW ?_
 refine Sd.mk (gp (PM rfl)) ?_
 exact rfl
theorem LX {ff:Addr} {fd:FuncData} (Fu:fL K "axis_line" "axis_line" fW ff fd) (h1:cG P w K mg base 4 "poly_total" kC) (h2:cG P w K mg base 5 "axis_rule" (Di P w K mg base)):bx P w K mg base (dP P w) 6 ff fd ["o","p"] (fO K J5):=by
 refine cZ Fu pY pZ (by rintro ds r ⟨a,b,c,d,e,f,g,h,_,rfl,_⟩; rfl) (by rintro ds r ⟨a,b,c,d,e,f,g,h,_,_,rfl⟩; exact ⟨_,rfl⟩) fun k hq ds sl hF=>?_
 obtain ⟨a,b,c,d,e,f,g,h,hh,rfl,ee⟩:=hF
 injection ee with ee
 subst ee
 obtain ⟨fg,hm,hg⟩:=h1.at_
 show aY k _ [.va (.tup [af a,af b,af c,af d]),.va (.tup [af e,af f,af g,af h])] _ _
 conv in (az _)=>whnf
 walk_at "evSs"
 refine d7 (x_call (F:=Di P w K mg base) h2 (by decide) ?_)
 refine cX (uB hm ?_)
 walk_at "ev"
 exact aS (LW hg hh) rfl
noncomputable def fk (X:List (List Part)):List (List aJ):=X.map fun ps=>bB (fj ps)
noncomputable def lS (Ls:List (List aJ)):Sh:=.t ((Ls.map fun A=>A.map aO).map .l)
theorem GH:∀ Ls:List (List aJ),Sh.ds ((Ls.map fun A=>A.map aO).map .l)=Ls.map af
 | []=>rfl
 | A::Ls=>congrArg (af A:: ·) (GH Ls)
theorem LY (Ls):(lS Ls).d=.tup (Ls.map af):=congrArg D.tup (GH Ls)
theorem vd (X):outF X=.ok (.fo (lS (fk X))):=by
 unfold outF lS fk LQ
 rw [Ow,Ow]; rfl
theorem Dj (h:∀ ps∈X,aW ps):∀ L∈fk X,L.length≤20000∧∀ t∈L,t.1.length≤64:=fun L hL=>by
 obtain ⟨ps,hp,rfl⟩:=Oo.mp hL
 exact FU (h ps hp)
theorem Dk (h:∀ ps∈X,aW ps) (hl:X.length≤1000):xA (lS (fk X)):=⟨_,rfl,by rw [N6]; unfold fk; rw [N6]; exact hl,fun ds hd=>by
 obtain ⟨L,hL,rfl⟩:=Oo.mp hd
 rw [N6]; exact (Dj h L hL).1⟩
theorem Dl {X:List (List Part)} (h:∀ ps∈X,aW ps) (hl:X.length≤1000):zh [.tup ((fk X).map af),.tup ((fk X).map af)] (.ok (.va (.bl true))):=LO (by unfold fk; rw [N6]; exact hl) fun A hA=>(Dj h A hA).2
structure mC (a b c d e f g h x y z:List aJ):Prop where
 cn:∀ ps∈qe a b c d,aW ps
 po:∀ ps∈qj a b c d x y z,aW ps
 ax:∀ ps∈oq a b c d e f g h,aW ps
theorem Nq {a b c d e f g h x y z:List aJ} (ha:tw a) (hb:tw b) (hc:tw c) (hd:tw d) (he:tw e) (hf:tw f) (hg:tw g) (hh:tw h) (hx:tw x) (hy:tw y) (hz:tw z):mC a b c d e f g h x y z:=⟨fun L hL=>by
 simp only [qe,Og,P0,or_false] at hL
 rcases hL with rfl | rfl | rfl <;> exact vc (by simp [ha,hb,hc]) (by simp),fun L hL=>by
 simp only [qj,Og,P0,or_false] at hL
 rcases hL with rfl | rfl | rfl <;> exact vc (by simp [ha,hb,hc,hd,hx,hy,hz]) (by simp),fun L hL=>by
 simp only [oq,Og,P0,or_false] at hL
 rcases hL with rfl | rfl | rfl <;> exact vc (by simp [ha,hb,hc,hd,he,hf,hg,hh]) (by simp)⟩
noncomputable def dh (a b c d e f g h x y z:List aJ):List (List (List aJ)):=[fk (qe a b c d),fk (qj a b c d x y z),fk (oq a b c d e f g h)]
noncomputable def fm (X:List (List (List aJ))):List D:=X.map fun L=>.tup (L.map af)
noncomputable def LZ:Fn:=fun ds r=>∃ a b c d e f g h x y z:List aJ,mC a b c d e f g h x y z∧ds=[.tup [af a,af b,af c,af d],.tup [af e,af f,af g,af h],.tup [af x,af y,af z]]∧r=.ok (.ow (fm (dh a b c d e f g h x y z)))
theorem Nr {a b c d e f g h x y z:List aJ} (hh:mC a b c d e f g h x y z):LZ [.tup [af a,af b,af c,af d],.tup [af e,af f,af g,af h],.tup [af x,af y,af z]] (.ok (.ow (fm (dh a b c d e f g h x y z)))):=⟨a,b,c,d,e,f,g,h,x,y,z,hh,rfl,rfl⟩
section
local macro_rules | `(tactic| walk_at "evCa")=> `(tactic| first | with_reducible refine cY (F:=CU) (by assumption) (by decide) ?_)
local macro_rules | `(tactic| walk_at "evIx")=> `(tactic| first
 | ((with_reducible show aF _ (Px (Oi _ _) (Expr.Constant _ _ _) _) _ _); with_reducible refine qM ?_)
 | ((with_reducible show aF _ (Px (Oi _ _) (Oi _ _) _) _ _); with_reducible refine qM ?_))
theorem L5 {ff:Addr} {fd:FuncData} (Fu:fL K "_law_due" "_law_due" mh ff fd) (T:Txt K mg) (h1:cG P w K mg base 3 "_law_sum" CU):bx P w K mg base (dP P w) 4 ff fd ["_law_o","_law_p","_law_i"] (fO K LZ):=by
 refine cZ Fu Cg Ci (by rintro ds r ⟨a,b,c,d,e,f,g,h,x,y,z,_,rfl,_⟩; rfl) (by rintro ds r ⟨a,b,c,d,e,f,g,h,x,y,z,_,_,rfl⟩; exact ⟨_,rfl⟩) fun k hq ds sl hF=>?_
 obtain ⟨a,b,c,d,e,f,g,h,x,y,z,hh,rfl,ee⟩:=hF
 injection ee with ee
 subst ee
 have c1:aW [(-1,[b])]:=hh.cn _ (by simp [qe])
 have c2:aW [(-1,[c])]:=hh.cn _ (by simp [qe])
 have c3:aW [(2,[a])]:=hh.cn _ (by simp [qe])
 have p1:aW [(2,[a,x]),(1,[b,z])]:=hh.po _ (by simp [qj])
 have p2:aW [(2,[a,y]),(1,[c,z])]:=hh.po _ (by simp [qj])
 have p3:aW [(1,[b,x]),(1,[c,y]),(2,[d,z])]:=hh.po _ (by simp [qj])
 have x1:aW [(1,[b,e]),(-1,[f,a])]:=hh.ax _ (by simp [oq])
 have x2:aW [(1,[c,e]),(-1,[g,a])]:=hh.ax _ (by simp [oq])
 have x3:aW [(1,[d,e]),(-1,[h,a])]:=hh.ax _ (by simp [oq])
 show aY k _ [.va (.tup [af a,af b,af c,af d]),.va (.tup [af e,af f,af g,af h]),.va (.tup [af x,af y,af z]),.un,.un,.un,.un,.un,.un] _ _
 conv in (az _)=>whnf
 refine aP ?_
 generalize hG:(fun ρ'=>aY k _ ρ' _ _)=G
 refine qH (by walk_at "at") (F8 (i8 (Txt.tuple T) (e_x (c7 hq (N':=["_law_number","_law_some_here"]) (ρ0:=fun _=>[.un,.un]) (fun t=>.un (.un .nil)) (bX ?_)))))
 walk_at "ev"
 refine ⟨[some (af (bB (fj [(-1,[b])]))),some (af (bB (fj [(-1,[c])]))),some (af (bB (fj [(2,[a])])))],rfl,?_,?_⟩
 ·intro k2 hc t i dd o hd ho
  obtain ⟨n,A,ht,rfl,rfl⟩:∃ (n:Int) (A:List aJ),aW [(n,[A])]∧dd=.tup [.int n,af A]∧o=some (af (bB (fj [(n,[A])]))):=by
   match i,hd,ho with
   | 0,hd,ho=>cases hd; cases ho; exact ⟨_,_,c1,rfl,rfl⟩
   | 1,hd,ho=>cases hd; cases ho; exact ⟨_,_,c2,rfl,rfl⟩
   | 2,hd,ho=>cases hd; cases ho; exact ⟨_,_,c3,rfl,rfl⟩
  refine Ge rfl (by walk_at "u") ?_
  walk_at "ev"
  refine ⟨.un (.un .nil),?_⟩
  simp only [mP]
  refine ⟨fun _=>?_,fun h=>by cases h⟩
  walk_at "ev"
  refine aS (mz ht) (cK ?_)
  rfl
 ·show DZ _ (.ow ((fk (qe a b c d)).map af))
  walk_at "ev"
  subst hG
  walk_at "ev"
  refine aS (mz p1) (cK ?_)
  walk_at "ev"
  refine aS (mz p2) (cK ?_)
  walk_at "ev"
  refine aS (mz p3) (cK ?_)
  walk_at "ev"
  refine e_x (c7 hq (N':=["_law_k","_law_o","_law_p"]) (ρ0:=fun _=>[.un,.va (.tup [af a,af b,af c,af d]),.va (.tup [af e,af f,af g,af h])]) (fun t=>.un (.fr (by walk_at "at") (by walk_at "at") (by decide) rfl (.fr (by walk_at "at") (by walk_at "at") (by decide) rfl .nil))) (bX ?_))
  walk_at "ev"
  refine ⟨(fk (oq a b c d e f g h)).map fun A=>some (af A),rfl,?_,?_⟩
  ·intro k2 hc t i dd o hd ho
   match i,hd,ho with
   | 0,hd,ho =>
    cases hd; cases ho
    refine cj (by walk_at "at") (oS (by walk_at "sset") ⟨.un (.same (.same .nil)),?_⟩)
    simp only [mP]
    refine ⟨fun _=>?_,fun h=>by cases h⟩
    walk_at "ev"
    refine aS (mz x1) (cK ?_)
    rfl
   | 1,hd,ho =>
    cases hd; cases ho
    refine cj (by walk_at "at") (oS (by walk_at "sset") ⟨.un (.same (.same .nil)),?_⟩)
    simp only [mP]
    refine ⟨fun _=>?_,fun h=>by cases h⟩
    walk_at "ev"
    refine aS (mz x2) (cK ?_)
    rfl
   | 2,hd,ho =>
    cases hd; cases ho
    refine cj (by walk_at "at") (oS (by walk_at "sset") ⟨.un (.same (.same .nil)),?_⟩)
    simp only [mP]
    refine ⟨fun _=>?_,fun h=>by cases h⟩
    walk_at "ev"
    refine aS (mz x3) (cK ?_)
    rfl
  ·show DZ _ (.ow ((fk (oq a b c d e f g h)).map af))
   walk_at "ev"
   rfl
end
noncomputable def zj:Fn:=fun ds r=>∃ a b c d e f g h x y z:List aJ,mC a b c d e f g h x y z∧ds=[.lst [.tup [af a,af b,af c,af d],.tup [af e,af f,af g,af h],.tup [af x,af y,af z]]]∧r=.ok (.fo (.ls ((dh a b c d e f g h x y z).map lS)))
theorem GI {a b c d e f g h x y z:List aJ} (hh:mC a b c d e f g h x y z):zj [.lst [.tup [af a,af b,af c,af d],.tup [af e,af f,af g,af h],.tup [af x,af y,af z]]] (.ok (.fo (.ls ((dh a b c d e f g h x y z).map lS)))):=⟨a,b,c,d,e,f,g,h,x,y,z,hh,rfl,rfl⟩
theorem L6 {a b c d e f g h x y z:List aJ} (hh:mC a b c d e f g h x y z):J3 [.tup [af a,af b,af c,af d]] (.ok (.fo (lS (fk (qe a b c d))))):=by rw [← vd]; exact Nm hh.cn
theorem L7 {a b c d e f g h x y z:List aJ} (hh:mC a b c d e f g h x y z):J4 [.tup [af a,af b,af c,af d],.tup [af x,af y,af z]] (.ok (.fo (lS (fk (qj a b c d x y z))))):=by rw [← vd]; exact Nn hh.po
theorem L8 {a b c d e f g h x y z:List aJ} (hh:mC a b c d e f g h x y z):J5 [.tup [af a,af b,af c,af d],.tup [af e,af f,af g,af h]] (.ok (.fo (lS (fk (oq a b c d e f g h))))):=by rw [← vd]; exact Np hh.ax
theorem JO {ff:Addr} {fd:FuncData} (Fu:fL K "_law_asked" "_law_asked" iP ff fd) (h1:cG P w K mg base 6 "centre_point" J3) (h2:cG P w K mg base 6 "polar_line" J4) (h3:cG P w K mg base 6 "axis_line" J5):bx P w K mg base (dP P w) 7 ff fd ["_law_some_here"] (fO K zj):=by
 refine cZ Fu uT uU (by rintro ds r ⟨a,b,c,d,e,f,g,h,x,y,z,_,rfl,_⟩; rfl) (by rintro ds r ⟨a,b,c,d,e,f,g,h,x,y,z,_,_,rfl⟩; exact ⟨_,rfl⟩) fun k hq ds sl hF=>?_
 obtain ⟨a,b,c,d,e,f,g,h,x,y,z,hh,rfl,ee⟩:=hF
 injection ee with ee
 subst ee
 show aY k _ [.va (.lst [.tup [af a,af b,af c,af d],.tup [af e,af f,af g,af h],.tup [af x,af y,af z]]),.un,.un,.un] _ _
 conv in (az _)=>whnf
 refine aP ?_
 generalize hG:(fun ρ'=>aY k _ ρ' _ _)=G
 walk_at "ev"
 refine LA rfl ?_
 walk_at "ev"
 subst hG
 refine aP (d7 (Jg ?_))
 refine dM (x_call (x:=NY "centre_point") (F:=J3) h1 (by decide) ?_)
 walk_at "ev"
 refine aS (L6 hh) ⟨_,rfl,?_⟩
 refine dM (x_call (x:=NY "polar_line") (F:=J4) h2 (by decide) ?_)
 walk_at "ev"
 refine aS (L7 hh) ⟨_,rfl,?_⟩
 refine dM (x_call (x:=NY "axis_line") (F:=J5) h3 (by decide) ?_)
 walk_at "ev"
 refine aS (L8 hh) ⟨_,rfl,?_⟩
 refine wW ?_
 exact Sd.mk (gp (PM rfl)) rfl
theorem Ma (ss:List Sh):(Sh.ls ss).d=.lst (Sh.ds ss):=rfl
theorem GJ:∀ X:List (List (List aJ)),Sh.ds (X.map lS)=fm X
 | []=>rfl
 | L::X=>by
  show (lS L).d::Sh.ds (X.map lS)=.tup (L.map af)::fm X
  rw [LY,GJ X]
theorem Nt (X:List (List (List aJ))):(Sh.ls (X.map lS)).d=.lst (fm X):=congrArg D.lst (GJ X)
theorem Dm:∀ ss:List Sh,(Sh.ds ss).length=ss.length
 | []=>rfl
 | s::ss=>congrArg (· +1) (Dm ss)
theorem Dn:∀ (pre post:List Sh) (s:Sh),(Sh.ds (pre++s::post))[pre.length]?=some s.d
 | [],_,_=>rfl
 | p::pre,post,s=>by
  show (p.d::Sh.ds (pre++s::post))[pre.length+1]?=_
  rw [List.getElem?_cons_succ]; exact Dn pre post s
theorem Mb (pre post:List Sh) (s:Sh):jB (Sh.ds (pre++s::post)) (pre.length:Int)=some s.d:=by
 rw [eS (by omega) (by rw [Dm,OH,OF]; omega),OW]; exact Dn pre post s
theorem mC.NH {a b c d e f g h x y z:List aJ} (hh:mC a b c d e f g h x y z):∀ {i:Nat},i<3→∃ X:List (List Part),(∀ ps∈X,aW ps)∧X.length≤1000∧((dh a b c d e f g h x y z).map lS).drop i=lS (fk X)::((dh a b c d e f g h x y z).map lS).drop (i+1)∧jB (fm (dh a b c d e f g h x y z)) (i:Int)=some (.tup ((fk X).map af))
 | 0,_=>⟨_,hh.cn,PM rfl,rfl,rfl⟩
 | 1,_=>⟨_,hh.po,PM rfl,rfl,rfl⟩
 | 2,_=>⟨_,hh.ax,PM rfl,rfl,rfl⟩
 | i+3,h=>absurd h (by omega)
noncomputable def th (ns:List Int) (k:Nat):List aJ:=sW (zf ns k)
theorem JP (ns:List Int):sY [.lst (ns.map .int),.int 1,.int 4] (.ok (.va (.tup [af (th ns 1),af (th ns 2),af (th ns 3),af (th ns 4)]))):=C0 ns (a:=1) (m:=4) (by decide) (by decide)
theorem JQ (ns:List Int):sY [.lst (ns.map .int),.int 5,.int 4] (.ok (.va (.tup [af (th ns 5),af (th ns 6),af (th ns 7),af (th ns 8)]))):=C0 ns (a:=5) (m:=4) (by decide) (by decide)
theorem JR (ns:List Int):sY [.lst (ns.map .int),.int 9,.int 3] (.ok (.va (.tup [af (th ns 9),af (th ns 10),af (th ns 11)]))):=C0 ns (a:=9) (m:=3) (by decide) (by decide)
theorem JS {As:List (List aJ)} (h:As.length≤100):zg [.tup (As.map af)] (.ok (.va (.tup (As.map af)))):=LM (by omega)
theorem jY (Ls Ms:List (List aJ)):k6 (n+4) (.tup (Ls.map af)) (.tup (Ms.map af)):=.tup fun i d e h1 h2=>by
 simp only [Oc,Oh] at h1 h2
 obtain ⟨a,_,rfl⟩:=h1
 obtain ⟨b,_,rfl⟩:=h2
 exact BH a b
theorem ve (L1 L2 L3:List (List aJ)):oR [.tup (L1.map af),.tup (L2.map af),.tup (L3.map af)] [.tup (L1.map af),.tup (L2.map af),.tup (L3.map af)]:=jQ (jY L1 L1) (jQ (jY L2 L2) (jQ (jY L3 L3) (BI _)))
section
local macro_rules | `(tactic| walk_at "evCa")=> `(tactic| first
 | with_reducible refine cY (F:=sY) (by assumption) (by decide) ?_
 | with_reducible refine cY (F:=zg) (by assumption) (by decide) ?_
 | with_reducible refine cY (F:=zh) (by assumption) (by decide) ?_)
local macro_rules | `(tactic| walk_at "evXC")=> `(tactic| first
 | with_reducible refine x_call (x:=NY "_law_due") (F:=LZ) (by assumption) (by decide) ?_
 | with_reducible refine x_call (x:=NY "_law_asked") (F:=zj) (by assumption) (by decide) ?_)
local macro_rules | `(tactic| walk_at "evR")=> `(tactic| first
 | refine aS (JP _) ?_
 | refine aS (JQ _) ?_
 | refine aS (JR _) ?_)
local macro_rules | `(tactic| walk_at "evIx")=> `(tactic| first
 | ((with_reducible show aF _ (Px (Oi _ _) (Expr.Constant _ _ _) _) _ _); with_reducible refine qM ?_)
 | ((with_reducible show aF _ (Px (Oi _ _) (Oi _ _) _) _ _); with_reducible refine qM ?_))
theorem JT {ff:Addr} {fd:FuncData} (Fu:fL K "law" "law" uV ff fd) (T:Txt K mg) (h1:cG P w K mg base 3 "_law_things" sY) (h2:cG P w K mg base 1 "_law_copied" zg) (h3:cG P w K mg base 4 "_law_due" LZ) (h4:cG P w K mg base 7 "_law_asked" zj)
 (h5:cG P w K mg base 2 "_law_same" zh) (h6:Fb P w K mg base 1 "_law_spoil" xA):bx P w K mg base (dP P w) 8 ff fd ["_law_script"] (fO K AR):=by
 refine cZ Fu Ji Jj (by rintro ds r ⟨ns,_,rfl,_⟩; rfl) (by rintro ds r ⟨ns,_,_,rfl⟩; exact ⟨_,rfl⟩) fun k hq ds sl hF=>?_
 obtain ⟨ns,hns,rfl,ee⟩:=hF
 injection ee with ee
 subst ee
 show aY k _ [.va (.lst (ns.map .int)),.un,.un,.un,.un,.un,.un] _ _
 conv in (az _)=>whnf
 refine aP ?_
 generalize hG:(fun ρ'=>aY k _ ρ' _ _)=G
 walk_at "ev"
 subst hG
 have hh:mC (th ns 1) (th ns 2) (th ns 3) (th ns 4) (th ns 5) (th ns 6) (th ns 7) (th ns 8) (th ns 9) (th ns 10) (th ns 11):=Nq (cS _) (cS _) (cS _) (cS _) (cS _) (cS _) (cS _) (cS _) (cS _) (cS _) (cS _)
 generalize th ns 1=a at hh ⊢
 generalize th ns 2=b at hh ⊢
 generalize th ns 3=c at hh ⊢
 generalize th ns 4=d at hh ⊢
 generalize th ns 5=e at hh ⊢
 generalize th ns 6=f at hh ⊢
 generalize th ns 7=g at hh ⊢
 generalize th ns 8=h at hh ⊢
 generalize th ns 9=x at hh ⊢
 generalize th ns 10=y at hh ⊢
 generalize th ns 11=z at hh ⊢
 refine jG 1 (by walk_at "at") rfl (by walk_at "sset") ?_
 refine aP ?_
 generalize hG:(fun ρ'=>aY k _ ρ' _ _)=G
 refine Ig (by walk_at "at") hq (N':=["_law_thing"]) (ρ0:=fun _=>[.un]) (fun t=>.un .nil) (bX ?_)
 walk_at "ev"
 refine ⟨[[a,b,c,d],[e,f,g,h],[x,y,z]].map fun L=>some (.tup (L.map af)),rfl,?_,?_⟩
 ·intro k2 hc t i dd o hd ho
  obtain ⟨L,hL,rfl,rfl⟩:∃ L:List (List aJ),L.length≤100∧dd=.tup (L.map af)∧o=some (.tup (L.map af)):=by
   match i,hd,ho with
   | 0,hd,ho=>cases hd; cases ho; exact ⟨[a,b,c,d],PM rfl,rfl,rfl⟩
   | 1,hd,ho=>cases hd; cases ho; exact ⟨[e,f,g,h],PM rfl,rfl,rfl⟩
   | 2,hd,ho=>cases hd; cases ho; exact ⟨[x,y,z],PM rfl,rfl,rfl⟩
  refine cj (by walk_at "at") (oS (by walk_at "sset") ⟨.un .nil,?_⟩)
  simp only [mP]
  refine ⟨fun _=>?_,fun h=>by cases h⟩
  walk_at "ev"
  refine aS (JS hL) ?_
  walk_at "ev"
  rfl
 walk_at "ev"
 subst hG
 refine jG 2 (d0:=.lst [.tup [af a,af b,af c,af d],.tup [af e,af f,af g,af h],.tup [af x,af y,af z]]) (by walk_at "at") rfl (by walk_at "sset") ?_
 refine aP ?_
 generalize hG:(fun ρ'=>aY k _ ρ' _ _)=G
 walk_at "ev"
 refine aS (Nr hh) ?_
 walk_at "ev"
 subst hG
 refine jG 3 (d0:=.lst (fm (dh a b c d e f g h x y z))) (by walk_at "at") rfl (by walk_at "sset") ?_
 refine aP ?_
 generalize hG:(fun ρ'=>aY k _ ρ' _ _)=G
 walk_at "ev"
 refine aS (GI hh) ?_
 walk_at "ev"
 subst hG
 refine aP ?_
 with_reducible refine cJ hq (fD (Txt.range (by assumption)) ?_)
 walk_at "ev"
 ·exact ⟨by decide,by decide⟩
 refine ⟨fun i ρ'=>∃ (s5:Sl) (pre:List Sh),s5.F6=false∧pre.length=i∧ρ'=[.va (.lst (ns.map .int)),.va (.lst [.tup [af a,af b,af c,af d],.tup [af e,af f,af g,af h],.tup [af x,af y,af z]]),.va (.lst [.tup [af a,af b,af c,af d],.tup [af e,af f,af g,af h],.tup [af x,af y,af z]]),.va (.lst (fm (dh a b c d e f g h x y z))),.fo (.ls (pre++((dh a b c d e f g h x y z).map lS).drop i)),s5,.un],⟨_,[],rfl,rfl,rfl⟩,?_,?_⟩
 ·rintro c' ou zk zm i dd ρ' hd ⟨s5,pre,h5F,rfl,rfl⟩
  obtain ⟨hi,rfl⟩:=gS hd
  obtain ⟨X,hX,hl,eX,hA⟩:=hh.NH (i:=pre.length) hi
  rw [eX]
  have hB:jB (Sh.ds (pre++lS (fk X)::((dh a b c d e f g h x y z).map lS).drop (pre.length+1))) (pre.length:Int)=some (lS (fk X)).d:=Mb _ _ _
  rw [LY] at hB
  refine cj (by walk_at "at") (oS (by walk_at "sset") ?_)
  refine aP (KZ (IW 4 (.s rfl (.s rfl (.s rfl (.s rfl (.z (.cons rfl (.cons rfl .nil))))))) (by walk_at "sset") ?_))
  rw [Ma]
  generalize hG:(fun ρ'=>aY c' _ ρ' _ _)=G
  walk_at "ev"
  refine k8 hB ?_
  walk_at "ev"
  refine k8 hA ?_
  walk_at "ev"
  refine aS (Dl hX hl) ?_
  walk_at "ev"
  subst hG
  refine aP (Ft h6 (by decide) (by walk_at "at") (by walk_at "at") (by walk_at "at") (.s rfl (.s rfl (.s rfl (.s rfl (.z (.cons rfl (.cons rfl .nil))))))) (Dk hX hl) fun ad=>oS (by walk_at "sset") ?_)
  walk_at "ev"
  refine ⟨.va (.int (pre.length:Int)),pre++[.v (.adr ad)],rfl,OH,?_⟩
  rw [Om]; rfl
 ·rintro ρ' ⟨s5,pre,h5F,hp,rfl⟩
  refine aP ?_
  generalize hG:(fun ρ'=>aY k _ ρ' _ _)=G
  refine qH (by walk_at "at") (F8 (Lu (x_call (x:=NY "_law_asked") (F:=zj) h4 (by decide) ?_)))
  walk_at "ev"
  refine aS (GI hh) ⟨_,rfl,?_⟩
  rw [Nt]
  walk_at "ev"
  subst hG
  walk_at "ev"
  refine sd (ve [a,b,c,d] [e,f,g,h] [x,y,z]) ?_
  walk_at "ev"
  refine e_x (c7 hq (N':=["_law_k","_law_again","_law_due_here"]) (ρ0:=fun _=>[.un,.va (.lst (fm (dh a b c d e f g h x y z))),.va (.lst (fm (dh a b c d e f g h x y z)))]) (fun t=>.un (.fr (by walk_at "at") (by walk_at "at") (by decide) rfl (.fr (by walk_at "at") (by walk_at "at") (by decide) rfl .nil))) (fD (Txt.range (by assumption)) ?_))
  walk_at "ev"
  ·exact ⟨by decide,by decide⟩
  refine ⟨[none,none,none],rfl,?_,?_⟩
  ·intro k2 hc t i dd o hd ho
   obtain ⟨hi,rfl⟩:=gS hd
   obtain ⟨X,hX,hl,_,hA⟩:=hh.NH (i:=i) hi
   have eo:o=none:=by
    match i,hi,ho with
    | 0,_,ho=>cases ho; rfl
    | 1,_,ho=>cases ho; rfl
    | 2,_,ho=>cases ho; rfl
   subst eo
   refine cj (by walk_at "at") (oS (by walk_at "sset") ⟨.un (.same (.same .nil)),?_⟩)
   simp only [mP]
   walk_at "ev"
   refine k8 hA ?_
   walk_at "ev"
   refine k8 hA ?_
   walk_at "ev"
   refine aS (Dl hX hl) ?_
   walk_at "ev"
   trivial
  ·walk_at "ev"
   rfl
end
end
section
variable {K:NZ}
theorem FW {fa:Addr} (zu:mg "law"=some (.ref fa)) (T:Txt K mg) (xPLACES:∃ tk:Tok,mg "PLACES"=some (.int 6 tk))
 (D2:aE K mg "trimmed" (top 2))
 (D3:aE K mg "greatest_powers" (top 3))
 (D4:aE K mg "key_of" (top 4))
 (D5:aE K mg "powers_of" (top 5))
 (D6:aE K mg "packed" (top 6))
 (D7:aE K mg "unpacked" (top 7))
 (D8:aE K mg "add_products" (top 8))
 (D10:aE K mg "width_of" (top 10))
 (D11:aE K mg "add_part" (top 11))
 (D12:aE K mg "poly_total" (top 12))
 (D14:aE K mg "centre_rule" (top 14))
 (D15:aE K mg "polar_rule" (top 15))
 (D16:aE K mg "axis_rule" (top 16))
 (D17:aE K mg "centre_point" (top 17))
 (D18:aE K mg "polar_line" (top 18))
 (D19:aE K mg "axis_line" (top 19))
 (D21:aE K mg "_law_cell_at" (top 21))
 (D22:aE K mg "_law_digits" (top 22))
 (D23:aE K mg "_law_plain" (top 23))
 (D24:aE K mg "_law_product" (top 24))
 (D25:aE K mg "_law_sum" (top 25))
 (D26:aE K mg "_law_some" (top 26))
 (D27:aE K mg "_law_things" (top 27))
 (D28:aE K mg "_law_copied" (top 28))
 (D29:aE K mg "_law_terms" (top 29))
 (D30:aE K mg "_law_same" (top 30))
 (D31:aE K mg "_law_spoil" (top 31))
 (D32:aE K mg "_law_due" (top 32))
 (D33:aE K mg "_law_asked" (top 33))
 (D34:aE K mg "law" (top 34))
 : ∃ fd:FuncData,(∀ (s:Shared) (u:Value),BindsTo s fd ⟨[u],[]⟩ [("_law_script",u)])∧∀ base:Heap,K.In base→base.Ns mainGlobals mg→bx P w K mg base (dP P w) 20 fa fd ["_law_script"] (fO K AR):=by
 refine Classical.byContradiction fun hG=>?_
 obtain ⟨f2,fd2,m2,Fu2⟩:=D2
 obtain ⟨f3,fd3,m3,Fu3⟩:=D3
 obtain ⟨f4,fd4,m4,Fu4⟩:=D4
 obtain ⟨f5,fd5,m5,Fu5⟩:=D5
 obtain ⟨f6,fd6,m6,Fu6⟩:=D6
 obtain ⟨f7,fd7,m7,Fu7⟩:=D7
 obtain ⟨f8,fd8,m8,Fu8⟩:=D8
 obtain ⟨f10,fd10,m10,Fu10⟩:=D10
 obtain ⟨f11,fd11,m11,Fu11⟩:=D11
 obtain ⟨f12,fd12,m12,Fu12⟩:=D12
 obtain ⟨f14,fd14,m14,Fu14⟩:=D14
 obtain ⟨f15,fd15,m15,Fu15⟩:=D15
 obtain ⟨f16,fd16,m16,Fu16⟩:=D16
 obtain ⟨f17,fd17,m17,Fu17⟩:=D17
 obtain ⟨f18,fd18,m18,Fu18⟩:=D18
 obtain ⟨f19,fd19,m19,Fu19⟩:=D19
 obtain ⟨f21,fd21,m21,Fu21⟩:=D21
 obtain ⟨f22,fd22,m22,Fu22⟩:=D22
 obtain ⟨f23,fd23,m23,Fu23⟩:=D23
 obtain ⟨f24,fd24,m24,Fu24⟩:=D24
 obtain ⟨f25,fd25,m25,Fu25⟩:=D25
 obtain ⟨f26,fd26,m26,Fu26⟩:=D26
 obtain ⟨f27,fd27,m27,Fu27⟩:=D27
 obtain ⟨f28,fd28,m28,Fu28⟩:=D28
 obtain ⟨f29,fd29,m29,Fu29⟩:=D29
 obtain ⟨f30,fd30,m30,Fu30⟩:=D30
 obtain ⟨f31,fd31,m31,Fu31⟩:=D31
 obtain ⟨f32,fd32,m32,Fu32⟩:=D32
 obtain ⟨f33,fd33,m33,Fu33⟩:=D33
 obtain ⟨f34,fd34,m34,Fu34⟩:=D34
 have e:=zu.symm.trans m34
 cases e
 refine hG ⟨fd34,?_,fun base _ _=>?_⟩
 ·obtain ⟨oc,od,kV,doc,pm,an,cdv,ct,osl,rfl,lk,hcd⟩:=Fu34.ex
  exact fun s u=>.of_eq rfl
 have C2:cG P w K mg base 1 "trimmed" (sO):=bw (ps:=["powers"]) m2 Fu2 (Fv Fu2 T) (fun _ _ _ _ _ _ us hl=>by obtain ⟨a,rfl⟩:=jH us hl; rfl)
 have C3:cG P w K mg base 1 "greatest_powers" (mj):=bw (ps:=["some"]) m3 Fu3 (Cq Fu3 T xPLACES) (fun _ _ _ _ _ _ us hl=>by obtain ⟨a,rfl⟩:=jH us hl; rfl)
 have C4:cG P w K mg base 1 "key_of" (Ct):=bw (ps:=["powers","width"]) m4 Fu4 (Jm Fu4 T xPLACES) (fun _ _ _ _ _ _ us hl=>by obtain ⟨a,b,rfl⟩:=mR us hl; rfl)
 have C5:cG P w K mg base 2 "powers_of" (sP):=bw (ps:=["key","width"]) m5 Fu5 (FE Fu5 T xPLACES C2) (fun _ _ _ _ _ _ us hl=>by obtain ⟨a,b,rfl⟩:=mR us hl; rfl)
 have C6:cG P w K mg base 2 "packed" (sR):=bw (ps:=["some","width"]) m6 Fu6 (FF Fu6 T C4) (fun _ _ _ _ _ _ us hl=>by obtain ⟨a,b,rfl⟩:=mR us hl; rfl)
 have C7:cG P w K mg base 3 "unpacked" (Cv):=bw (ps:=["total","width"]) m7 Fu7 (Jr Fu7 T C5) (fun _ _ _ _ _ _ us hl=>by obtain ⟨a,b,rfl⟩:=mR us hl; rfl)
 have C8:yl P w K mg base 1 "add_products" (FG):=wV (ps:=["total","left","right"]) m8 Fu8 (Jq Fu8 T) (fun _ _ _ _ _ _ us hl=>by obtain ⟨a,b,c,rfl⟩:=x6 us hl; rfl)
 have C10:cG P w K mg base 2 "width_of" (CH):=bw (ps:=["parts"]) m10 Fu10 (Js Fu10 T C3) (fun _ _ _ _ _ _ us hl=>by obtain ⟨a,rfl⟩:=jH us hl; rfl)
 have C11:yl P w K mg base 3 "add_part" (qb):=wV (ps:=["whole","part","width"]) m11 Fu11 (CN Fu11 T C6 C8) (fun _ _ _ _ _ _ us hl=>by obtain ⟨a,b,c,rfl⟩:=x6 us hl; rfl)
 have C12:cG P w K mg base 4 "poly_total" (kC):=bw (ps:=["parts"]) m12 Fu12 (Jv Fu12 T C10 C11 C7) (fun _ _ _ _ _ _ us hl=>by obtain ⟨a,rfl⟩:=jH us hl; rfl)
 have C14:cG P w K mg base 5 "centre_rule" (Dg P w K mg base):=bw (ps:=["total","o"]) m14 Fu14 (JL Fu14) (fun _ _ _ _ _ _ us hl=>by obtain ⟨a,b,rfl⟩:=mR us hl; rfl)
 have C15:cG P w K mg base 5 "polar_rule" (Dh P w K mg base):=bw (ps:=["total","o","i"]) m15 Fu15 (JM Fu15) (fun _ _ _ _ _ _ us hl=>by obtain ⟨a,b,c,rfl⟩:=x6 us hl; rfl)
 have C16:cG P w K mg base 5 "axis_rule" (Di P w K mg base):=bw (ps:=["total","o","p"]) m16 Fu16 (JN Fu16) (fun _ _ _ _ _ _ us hl=>by obtain ⟨a,b,c,rfl⟩:=x6 us hl; rfl)
 have C17:cG P w K mg base 6 "centre_point" (J3):=bw (ps:=["o"]) m17 Fu17 (LS Fu17 C12 C14) (fun _ _ _ _ _ _ us hl=>by obtain ⟨a,rfl⟩:=jH us hl; rfl)
 have C18:cG P w K mg base 6 "polar_line" (J4):=bw (ps:=["o","i"]) m18 Fu18 (LV Fu18 C12 C15) (fun _ _ _ _ _ _ us hl=>by obtain ⟨a,b,rfl⟩:=mR us hl; rfl)
 have C19:cG P w K mg base 6 "axis_line" (J5):=bw (ps:=["o","p"]) m19 Fu19 (LX Fu19 C12 C16) (fun _ _ _ _ _ _ us hl=>by obtain ⟨a,b,rfl⟩:=mR us hl; rfl)
 have C21:cG P w K mg base 1 "_law_cell_at" (CV):=bw (ps:=["_law_script","_law_k"]) m21 Fu21 (JC Fu21 T) (fun _ _ _ _ _ _ us hl=>by obtain ⟨a,b,rfl⟩:=mR us hl; rfl)
 have C22:cG P w K mg base 2 "_law_digits" (CW):=bw (ps:=["_law_script","_law_k"]) m22 Fu22 (JE Fu22 T C21) (fun _ _ _ _ _ _ us hl=>by obtain ⟨a,b,rfl⟩:=mR us hl; rfl)
 have C23:cG P w K mg base 1 "_law_plain" (p9):=bw (ps:=["_law_terms_here"]) m23 Fu23 (Cn Fu23 T) (fun _ _ _ _ _ _ us hl=>by obtain ⟨a,rfl⟩:=jH us hl; rfl)
 have C24:cG P w K mg base 2 "_law_product" (CQ):=bw (ps:=["_law_factors"]) m24 Fu24 (Jw Fu24 T C23) (fun _ _ _ _ _ _ us hl=>by obtain ⟨a,rfl⟩:=jH us hl; rfl)
 have C25:cG P w K mg base 3 "_law_sum" (CU):=bw (ps:=["_law_parts"]) m25 Fu25 (JA Fu25 T C23 C24) (fun _ _ _ _ _ _ us hl=>by obtain ⟨a,rfl⟩:=jH us hl; rfl)
 have C26:cG P w K mg base 2 "_law_some" (sX):=bw (ps:=["_law_number"]) m26 Fu26 (FT Fu26 T C23) (fun _ _ _ _ _ _ us hl=>by obtain ⟨a,rfl⟩:=jH us hl; rfl)
 have C27:cG P w K mg base 3 "_law_things" (sY):=bw (ps:=["_law_script","_law_at","_law_many"]) m27 Fu27 (JG Fu27 T C22 C26) (fun _ _ _ _ _ _ us hl=>by obtain ⟨a,b,c,rfl⟩:=x6 us hl; rfl)
 have C28:cG P w K mg base 1 "_law_copied" (zg):=bw (ps:=["_law_told"]) m28 Fu28 (JH Fu28 T) (fun _ _ _ _ _ _ us hl=>by obtain ⟨a,rfl⟩:=jH us hl; rfl)
 have C29:cG P w K mg base 1 "_law_terms" (C1):=bw (ps:=["_law_some_here"]) m29 Fu29 (JI Fu29 T) (fun _ _ _ _ _ _ us hl=>by obtain ⟨a,rfl⟩:=jH us hl; rfl)
 have C30:cG P w K mg base 2 "_law_same" (zh):=bw (ps:=["_law_found","_law_due_here"]) m30 Fu30 (JJ Fu30 T C29) (fun _ _ _ _ _ _ us hl=>by obtain ⟨a,b,rfl⟩:=mR us hl; rfl)
 have C31:Fb P w K mg base 1 "_law_spoil" (xA):=Fg (ps:=["_law_found"]) m31 Fu31 (Df Fu31) (fun _ _ _ _ _ _ us hl=>by obtain ⟨a,rfl⟩:=jH us hl; rfl)
 have C32:cG P w K mg base 4 "_law_due" (LZ):=bw (ps:=["_law_o","_law_p","_law_i"]) m32 Fu32 (L5 Fu32 T C25) (fun _ _ _ _ _ _ us hl=>by obtain ⟨a,b,c,rfl⟩:=x6 us hl; rfl)
 have C33:cG P w K mg base 7 "_law_asked" (zj):=bw (ps:=["_law_some_here"]) m33 Fu33 (JO Fu33 C17 C18 C19) (fun _ _ _ _ _ _ us hl=>by obtain ⟨a,rfl⟩:=jH us hl; rfl)
 exact (JT Fu34 T C27 C28 C32 C33 C30 C31).mono (by decide)
end
end My
open PySem PySem.W PyProof.Rows
set_option maxRecDepth 100000 in
set_option maxHeartbeats 0 in
theorem PySem.Challenge.cw_everydraw_k20_lines_of_circles_holds : PySem.Challenge.rw_everydraw_k20_lines_of_circles.Holds := by
 w_on; o_law; k_head; (case hw=>w_witness2)
 k_fill
 refine EV.walk (k:=20) (l:=PySem.Challenge.rw_everydraw_k20_lines_of_circles) (by decide) rfl rfl (fun w h Y=>PySem.W.kIn_of Y) ?F
 case F =>
  intro w mg fa h KX G hmg
  have D2:EV.aE (L2.cF KX) mg (Str.ofString "trimmed") (My.top 2):=by
   dsimp only [L2.cF]
   refine' EV.bg KX G ?a ?l ?c ?k
   (case a=>k_is); (case l=>k_is); (case c=>k_is); (case k=>k_is)
  have D3:EV.aE (L2.cF KX) mg (Str.ofString "greatest_powers") (My.top 3):=by
   dsimp only [L2.cF]
   refine' EV.bg KX G ?a ?l ?c ?k
   (case a=>k_is); (case l=>k_is); (case c=>k_is); (case k=>k_is)
  have D4:EV.aE (L2.cF KX) mg (Str.ofString "key_of") (My.top 4):=by
   dsimp only [L2.cF]
   refine' EV.bg KX G ?a ?l ?c ?k
   (case a=>k_is); (case l=>k_is); (case c=>k_is); (case k=>k_is)
  have D5:EV.aE (L2.cF KX) mg (Str.ofString "powers_of") (My.top 5):=by
   dsimp only [L2.cF]
   refine' EV.bg KX G ?a ?l ?c ?k
   (case a=>k_is); (case l=>k_is); (case c=>k_is); (case k=>k_is)
  have D6:EV.aE (L2.cF KX) mg (Str.ofString "packed") (My.top 6):=by
   dsimp only [L2.cF]
   refine' EV.bg KX G ?a ?l ?c ?k
   (case a=>k_is); (case l=>k_is); (case c=>k_is); (case k=>k_is)
  have D7:EV.aE (L2.cF KX) mg (Str.ofString "unpacked") (My.top 7):=by
   dsimp only [L2.cF]
   refine' EV.bg KX G ?a ?l ?c ?k
   (case a=>k_is); (case l=>k_is); (case c=>k_is); (case k=>k_is)
  have D8:EV.aE (L2.cF KX) mg (Str.ofString "add_products") (My.top 8):=by
   dsimp only [L2.cF]
   refine' EV.bg KX G ?a ?l ?c ?k
   (case a=>k_is); (case l=>k_is); (case c=>k_is); (case k=>k_is)
  have D10:EV.aE (L2.cF KX) mg (Str.ofString "width_of") (My.top 10):=by
   dsimp only [L2.cF]
   refine' EV.bg KX G ?a ?l ?c ?k
   (case a=>k_is); (case l=>k_is); (case c=>k_is); (case k=>k_is)
  have D11:EV.aE (L2.cF KX) mg (Str.ofString "add_part") (My.top 11):=by
   dsimp only [L2.cF]
   refine' EV.bg KX G ?a ?l ?c ?k
   (case a=>k_is); (case l=>k_is); (case c=>k_is); (case k=>k_is)
  have D12:EV.aE (L2.cF KX) mg (Str.ofString "poly_total") (My.top 12):=by
   dsimp only [L2.cF]
   refine' EV.bg KX G ?a ?l ?c ?k
   (case a=>k_is); (case l=>k_is); (case c=>k_is); (case k=>k_is)
  have D14:EV.aE (L2.cF KX) mg (Str.ofString "centre_rule") (My.top 14):=by
   dsimp only [L2.cF]
   refine' EV.bg KX G ?a ?l ?c ?k
   (case a=>k_is); (case l=>k_is); (case c=>k_is); (case k=>k_is)
  have D15:EV.aE (L2.cF KX) mg (Str.ofString "polar_rule") (My.top 15):=by
   dsimp only [L2.cF]
   refine' EV.bg KX G ?a ?l ?c ?k
   (case a=>k_is); (case l=>k_is); (case c=>k_is); (case k=>k_is)
  have D16:EV.aE (L2.cF KX) mg (Str.ofString "axis_rule") (My.top 16):=by
   dsimp only [L2.cF]
   refine' EV.bg KX G ?a ?l ?c ?k
   (case a=>k_is); (case l=>k_is); (case c=>k_is); (case k=>k_is)
  have D17:EV.aE (L2.cF KX) mg (Str.ofString "centre_point") (My.top 17):=by
   dsimp only [L2.cF]
   refine' EV.bg KX G ?a ?l ?c ?k
   (case a=>k_is); (case l=>k_is); (case c=>k_is); (case k=>k_is)
  have D18:EV.aE (L2.cF KX) mg (Str.ofString "polar_line") (My.top 18):=by
   dsimp only [L2.cF]
   refine' EV.bg KX G ?a ?l ?c ?k
   (case a=>k_is); (case l=>k_is); (case c=>k_is); (case k=>k_is)
  have D19:EV.aE (L2.cF KX) mg (Str.ofString "axis_line") (My.top 19):=by
   dsimp only [L2.cF]
   refine' EV.bg KX G ?a ?l ?c ?k
   (case a=>k_is); (case l=>k_is); (case c=>k_is); (case k=>k_is)
  have D21:EV.aE (L2.cF KX) mg (Str.ofString "_law_cell_at") (My.top 21):=by
   dsimp only [L2.cF]
   refine' EV.bg KX G ?a ?l ?c ?k
   (case a=>k_is); (case l=>k_is); (case c=>k_is); (case k=>k_is)
  have D22:EV.aE (L2.cF KX) mg (Str.ofString "_law_digits") (My.top 22):=by
   dsimp only [L2.cF]
   refine' EV.bg KX G ?a ?l ?c ?k
   (case a=>k_is); (case l=>k_is); (case c=>k_is); (case k=>k_is)
  have D23:EV.aE (L2.cF KX) mg (Str.ofString "_law_plain") (My.top 23):=by
   dsimp only [L2.cF]
   refine' EV.bg KX G ?a ?l ?c ?k
   (case a=>k_is); (case l=>k_is); (case c=>k_is); (case k=>k_is)
  have D24:EV.aE (L2.cF KX) mg (Str.ofString "_law_product") (My.top 24):=by
   dsimp only [L2.cF]
   refine' EV.bg KX G ?a ?l ?c ?k
   (case a=>k_is); (case l=>k_is); (case c=>k_is); (case k=>k_is)
  have D25:EV.aE (L2.cF KX) mg (Str.ofString "_law_sum") (My.top 25):=by
   dsimp only [L2.cF]
   refine' EV.bg KX G ?a ?l ?c ?k
   (case a=>k_is); (case l=>k_is); (case c=>k_is); (case k=>k_is)
  have D26:EV.aE (L2.cF KX) mg (Str.ofString "_law_some") (My.top 26):=by
   dsimp only [L2.cF]
   refine' EV.bg KX G ?a ?l ?c ?k
   (case a=>k_is); (case l=>k_is); (case c=>k_is); (case k=>k_is)
  have D27:EV.aE (L2.cF KX) mg (Str.ofString "_law_things") (My.top 27):=by
   dsimp only [L2.cF]
   refine' EV.bg KX G ?a ?l ?c ?k
   (case a=>k_is); (case l=>k_is); (case c=>k_is); (case k=>k_is)
  have D28:EV.aE (L2.cF KX) mg (Str.ofString "_law_copied") (My.top 28):=by
   dsimp only [L2.cF]
   refine' EV.bg KX G ?a ?l ?c ?k
   (case a=>k_is); (case l=>k_is); (case c=>k_is); (case k=>k_is)
  have D29:EV.aE (L2.cF KX) mg (Str.ofString "_law_terms") (My.top 29):=by
   dsimp only [L2.cF]
   refine' EV.bg KX G ?a ?l ?c ?k
   (case a=>k_is); (case l=>k_is); (case c=>k_is); (case k=>k_is)
  have D30:EV.aE (L2.cF KX) mg (Str.ofString "_law_same") (My.top 30):=by
   dsimp only [L2.cF]
   refine' EV.bg KX G ?a ?l ?c ?k
   (case a=>k_is); (case l=>k_is); (case c=>k_is); (case k=>k_is)
  have D31:EV.aE (L2.cF KX) mg (Str.ofString "_law_spoil") (My.top 31):=by
   dsimp only [L2.cF]
   refine' EV.bg KX G ?a ?l ?c ?k
   (case a=>k_is); (case l=>k_is); (case c=>k_is); (case k=>k_is)
  have D32:EV.aE (L2.cF KX) mg (Str.ofString "_law_due") (My.top 32):=by
   dsimp only [L2.cF]
   refine' EV.bg KX G ?a ?l ?c ?k
   (case a=>k_is); (case l=>k_is); (case c=>k_is); (case k=>k_is)
  have D33:EV.aE (L2.cF KX) mg (Str.ofString "_law_asked") (My.top 33):=by
   dsimp only [L2.cF]
   refine' EV.bg KX G ?a ?l ?c ?k
   (case a=>k_is); (case l=>k_is); (case c=>k_is); (case k=>k_is)
  have D34:EV.aE (L2.cF KX) mg (Str.ofString "law") (My.top 34):=by
   dsimp only [L2.cF]
   refine' EV.bg KX G ?a ?l ?c ?k
   (case a=>k_is); (case l=>k_is); (case c=>k_is); (case k=>k_is)
  have T:EV.Txt (L2.cF KX) mg:=by
   dsimp only [L2.cF]
   refine' EV.Io KX G ?z1 ?z2 ?z3 ?z4 ?z5 ?z6 ?z7 ?z8 ?z9 ?z10 ?z11 ?z12 ?z13 ?z14 ?z15 ?z16 ?z17 ?sib
   (case z1=>k_is)
   (case z2=>k_is)
   (case z3=>k_is)
   (case z4=>k_is)
   (case z5=>k_is)
   (case z6=>k_is)
   (case z7=>k_is)
   (case z8=>k_is)
   (case z9=>k_is)
   (case z10=>k_is)
   (case z11=>k_is)
   (case z12=>k_is)
   (case z13=>k_is)
   (case z14=>k_is)
   (case z15=>k_is)
   (case z16=>k_is)
   (case z17=>k_is)
   (case sib=>k_is)
  have xPLACES:∃ tk:Tok,mg (Str.ofString "PLACES")=some (.int 6 tk):=by
   refine' EV.int_mk KX G ?a
   (case a=>k_is)
  exact My.FW hmg T xPLACES D2 D3 D4 D5 D6 D7 D8 D10 D11 D12 D14 D15 D16 D17 D18 D19 D21 D22 D23 D24 D25 D26 D27 D28 D29 D30 D31 D32 D33 D34
#print axioms PySem.Challenge.cw_everydraw_k20_lines_of_circles_holds
