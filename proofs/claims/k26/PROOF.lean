import PyProof.Rows.All
import Wide.All
import OpenK.AllK
import Wide.FinOn
import Lean
import PyProof.EqAt
import PyProof.EqKinds
import PyProof.TupleCall
import KE.KTryMore
import PyProof.NeKinds
import PyProof.DictItemsLoops
import PyProof.Rows.SortRunsK
import PyProof.Rows.SortRev
import PyProof.Tail
import PyProof.CollectIter
import PyProof.WalkInts
import PyProof.SumWalkG
import PyProof.SeqI3
import PyProof.EnumFor
import PyProof.EnumMake
import PyProof.Draws
import PyProof.Rows.Range3
import PyProof.EnumIter
import PySem.Challenge.RW_everydraw_k26_meets_again
namespace EV
theorem z2 {α β} {P:α→β→Prop} {G:Prop} (h:∃ a b,P a b) (k:∀ a b,P a b→G):G:=h.elim fun a h=>h.elim (k a)
theorem z3 {α β γ} {P:α→β→ γ →Prop} {G:Prop} (h:∃ a b c,P a b c) (k:∀ a b c,P a b c→G):G:=h.elim fun a h=>z2 h (k a)
theorem z4 {α β γ δ} {P:α→β→ γ → δ →Prop} {G:Prop} (h:∃ a b c d,P a b c d) (k:∀ a b c d,P a b c d→G):G:=h.elim fun a h=>z3 h (k a)
theorem z5 {α β γ δ ε} {P:α→β→ γ → δ → ε →Prop} {G:Prop} (h:∃ a b c d e,P a b c d e) (k:∀ a b c d e,P a b c d e→G):G:=h.elim fun a h=>z4 h (k a)
theorem w2 {a b G:Prop} (h:a∧b) (k:a→b→G):G:=k h.1 h.2
theorem w3 {a b c G:Prop} (h:a∧b∧c) (k:a→b→c→G):G:=w2 h.2 (k h.1)
theorem w4 {a b c d G:Prop} (h:a∧b∧c∧d) (k:a→b→c→d→G):G:=w3 h.2 (k h.1)
theorem w5 {a b c d e G:Prop} (h:a∧b∧c∧d∧e) (k:a→b→c→d→e→G):G:=w4 h.2 (k h.1)
theorem w6 {a b c d e f G:Prop} (h:a∧b∧c∧d∧e∧f) (k:a→b→c→d→e→f→G):G:=w5 h.2 (k h.1)
theorem w7 {a b c d e f g G:Prop} (h:a∧b∧c∧d∧e∧f∧g) (k:a→b→c→d→e→f→g→G):G:=w6 h.2 (k h.1)
theorem w8 {a b c d e f g i G:Prop} (h:a∧b∧c∧d∧e∧f∧g∧i) (k:a→b→c→d→e→f→g→i→G):G:=w7 h.2 (k h.1)
end EV
set_option Elab.async false
set_option linter.all false
set_option maxRecDepth 100000
open PySem.Str renaming ofString→OL
open PySem renaming wpAny_bind→OM,wpAny_pure→OO,Spec→Po,wpAny_mono→PD,wpAny_newObj_type→P6,wpAny_holding→Qa,wpAny_rule→Ql,wpAny_call_entry→Qv,wpAny_Call_Name_kw→QB,wpAny_field→QK,Builtin→QT,wpAny_callSpecial?_slot→QY,wpAny_attempt→Q6,wpAny_typeOf→Q7,wpAny_setField_rec→Rm,wpAny_passesOwn→Rp,wpAny_dictEntries→RT,wpAny_dictEpoch→RW,codeAny_mono→RY,wpAny_call→R1,typeIs_int→R3,call_meets→R4,mem_of_lookup→Si,codeAny_builtin→Sn,wpAny_setField→Sv,wpAny_newList→Sw,wpAny_typeNameOfWhole_itemiter→SO,wpAny_typeNameOfWhole_keyiter→SQ,wpAny_typeNameOf_itemiter→SV,wpAny_typeNameOf_keyiter→SY,tupleKind_room_in1→Ti,wpAny_truthy_bool→Tr,wpAny_isInstance→TH,wpAny_fieldsOf→TX,concat_meets→T8,wpAny_letGo→Ue,wpAny_isOneOf_itemiter→Uy,wpAny_pyIter_tuple→UK,wpAny_sequenceKey→UP,wpAny_pyIter_slot→UQ,wpAny_pyIter_list→UR,slot_list_getitem→US,noFill_tuple_add→U0
open PySem.W renaming Frag→ON,nsIn→PY,mg_none_of→P5,kitOne→Qp,keepIn→QE,fnOf→QJ,findIn→Q4,kia_one→Rq,clsIn→Sx,callWith_K→Tj,codeIn→T3,mroIn→T5,specialIn→UT,methodObj→UU
open Nat renaming le_refl→OP,le_trans→OV,ne_of_lt→Pk,zero_le→Pn,lt_of_lt_of_le→PN,lt_irrefl→Qy,le_of_ble_eq_true→QM,lt_of_le_of_lt→QO,zero_add→Q8,le_of_lt→Q9,lt_succ_self→Ro,mul_le_mul→Rt,le_add_right→RV,ne_of_gt→RZ,pow_le_pow_right→Sf,min_eq_left→So,succ_mul→SD,mul_comm→SE,le_sub_one_of_lt→Tf,lt_succ_of_lt→Tt,succ_le_succ→TJ,one_le_iff_ne_zero→UA,add_sub_cancel'→UH
open PyProof.Rows renaming wpS_bind→OQ,wpS_pure→OR,wpS_mono→Px,wpS_forRange→P7,listUpdate_at→Qs,wpS_get→Qt,wpS_modify→QF,wpS_lift→Rg,slot_tuple_getitem→RB,seqEpoch_at→R0,callWith_type1→R8,listItems_at→SA,mirror_perm→SH,get?_update_seq→TQ,callWith_builtin1→Um,wpAny_call_entry_kw→UG
open List renaming map_cons→OS,length_map→OT,replicate→OX,getElem?_map→OY,getElem?_eq_some_iff→OZ,mem_cons_self→O1,mem_cons_of_mem→O2,mem_singleton→O3,mem_cons→O5,size_toArray→O9,mem_map→Pa,map_map→Pb,getElem?_eq_getElem→Pc,append_assoc→Pd,mem_append→Pg,getElem_mem→Pp,map_append→Pq,length_cons→Pr,length_append→Py,range→PF,take_length→PU,take_succ_eq_append_getElem→P0,append_nil→P1,getD_eq_getElem?_getD→P8,length_take→P9,mem_of_getElem?→Qc,getElem?_set_self→Qf,mem_append_right→Qg,getElem?_set_ne→Qh,filterMap_cons→Qm,nodup_cons→Qn,foldl_cons→Qo,replicate_succ→Qu,find?_cons→Qx,take_append_drop→Qz,getElem?_eq_none→QA,cons_append→QC,length_nil→QD,not_mem_nil→QH,map_congr_left→QN,pairwise_map→QS,sum_cons→QV,getElem?_append_left→QX,flatten_cons→Q2,nil_append→Q3,map_nil→Ra,filter_cons_of_pos→Ri,perm_append_comm→Rk,mem_append_left→Rl,sum_append→Rr,length→Rw,getElem?_append_right→RE,pairwise_singleton→RJ,length_singleton→RK,getElem?_of_mem→RN,getElem?_range→RP,pairwise_cons→RQ,getElem?_drop→RS,flatMap_cons→RU,foldl→R5,eq_of_mem_replicate→R9,filter_cons_of_neg→Sa,take_of_length_le→Sb,getElem?_append→Sg,mem_filter→Sq,foldr_cons→Ss,Nodup→SJ,getElem?_take_of_lt→S0,mem_of_mem_take→Tg,zip_cons_cons→Tp,take_sublist→Tu,reverse_perm→Tv,nodup_append→Tz,ext_getElem?→TF,mem_flatMap→TL,flatMap_nil→TM,ext_getElem→TN,of_mem_zip→TR,forIn_cons→TU,mem_range→T4,zipWith→Ub,Pairwise→Ul,pairwise_iff_getElem→Uq,drop_eq_getElem_cons→Ur,getElem?_replicate→Ux,reverse_append→UI,length_reverse→UJ,map_singleton→UL,getElem_range→UM,filterMap_map→UN,take_add_one→UW,foldl_append→UX,drop_sublist→UY,lookup_cons→U1,getElem_map→U3,drop_append_of_le_length→Vf
open PySem.Heap renaming get?_push_of_some→OU,lt_size→OW,get?_push_size→O6,SameBut→QG,get?_update_ne→Q0,size_push→Q5,ExtBut→Rb,get?_update_other→Tc,size_update→U4
open Bool renaming false_ne_true→O0,false_eq_true→PR,and_eq_true→Sm,eq_iff_iff→Su,not_true→Sz
open Option renaming map_eq_some_iff→O4,isSome_map→Rn,bind_eq_some_iff→Uw
open PySem.Expr renaming Name→O7,Call→PX,Subscript→QI,Tuple→RA,BinOp→R6
open Sum renaming inl→O8,inr→Rh
open PySem.Value renaming ref→Pe,none→P4,type→Qe,str→SK,int→SM
open Ne renaming symm→Pf
open PySem.SeqAt renaming EqAt→Ph,RcAt→Rz,RcNeAt→T9
open Array renaming getElem?_eq_getElem→Pj,toList_push→PB,getElem?_toList→PK,length_toList→PM,toList_append→Qd,ext'→Rf,perm_iff_toList_perm→RG,getElem?_eq_some_iff→RH,toList_reverse→RO,getElem?_extract→Td,mem_toList_iff→UE,getElem_mem→UZ,toList_map→U6,toList_eraseIdxIfInBounds→Vb
open Int renaming le_trans→Pu,toNat_natCast→Pz,le_refl→Qk,le_of_lt→QW,zero_mul→Rv,pow_pos→Rx,add_mul→Ry,mul_assoc→Sy,zero_add→SG,toNat→SN,lt_of_le_of_lt→Tq,add_zero→Uc,add_comm→Ud,one_mul→Ui,mul_le_mul_of_nonneg_right→Vc
open PySem.Obj renaming mapSeq→Pw,data_mapFields→To
open PySem.Env renaming kindOf→PJ
open ForInStep renaming yield→PV,done→Qq
open False renaming elim→PZ
open PySem.Builtin.Int renaming intBits→Qi
open PySem.Paired renaming length→Qj,snoc→Uh
open Option.some renaming inj→Qw
open True renaming intro→QL
open PySem.NameKind renaming free→QU
open PySem.Builtin.List renaming listUpdate→QZ,listLengthHint→RD,listItems→Se,listExtendWith→SS,listTooLong→Uu
open PyProof.Rows.SortSt renaming mk'→Rc
open Lean renaming mkPrivateNameCore→Rj,mkIdent→Ru
open PySem.F renaming slot_dict_itemiterator_next→RC,slot_dict_keyiterator_next→R7,plain_extend_loop→SW,slot_int_rmul→TV,args_tuple_add_2→Ut,entry_tuple_add→Uv,slot_tuple_add→Uz,slot_tuple_lt→UC,slot_dict_get→UD,slot_tuple_mul→U5,args_dict_itemiterator_next_1→Va,entry_dict_itemiterator_next→Vd,args_dict_keyiterator_next_1→Ve,slot_dict_itemiterator_iter→Vg,entry_dict_keyiterator_next→Vh
open PySem.Builtin.SmallTypes renaming nextOf→RI
open List.Perm renaming append_left→RL
open PySem.Heap.SameBut renaming update→Sj
open List.Pairwise renaming nil→Sk
open PySem.Stmt renaming Return→SI,AugAssign→TY,Assign→Ug
open PySem.Builtin.Slice renaming slicePlaces→SX,sliceAdjust→Us
open PySem.Builtin.Tuple renaming tupleExact→S3
open PySem.AutoSeq1 renaming wpAny_loadPart'→S6
open PySem.Builtin.Range renaming rangeSize→S9
open PySem.Builtin.Dict renaming showsAll→Te
open PySem.Around renaming under_plainId→Th
open Quotient renaming sound→TZ
open PySem.Operator renaming Mult→T6,Add→Ua
open Function renaming comp→T7
open PySem.Data renaming fields→Uj
open PySem.Builtin.Dict_items renaming pairFromOwner→Uk,ownsTuple→Uo,ownedTupleIsFree→U8,ownedTupleFields→U9
open PySem.Calls renaming callWith_builtin→UB,spliced_cons→UO
open PySem.Challenge renaming rw_everydraw_k26_meets_again→U7
namespace PySem.W.Fast
theorem tw6943353956277973390:True:=⟨⟩
theorem tw17038334294634807098:True:=⟨⟩
theorem tw281537158050441587:True:=⟨⟩
theorem tw16506981577428727084:True:=⟨⟩
theorem tw18118062438283551972:True:=⟨⟩
theorem tw7894125237035724296:True:=⟨⟩
theorem tw12532536310962099994:True:=⟨⟩
theorem tw879532868296121193:True:=⟨⟩
theorem tw15939107196134185935:True:=⟨⟩
theorem tw12609454068444681131:True:=⟨⟩
theorem tw12029815330616169830:True:=⟨⟩
theorem tw14993355971866990294:True:=⟨⟩
theorem tw3239179483364142169:True:=⟨⟩
theorem tw6678002502894361909:True:=⟨⟩
theorem tw4976254559067347973:True:=⟨⟩
theorem tw14038997599281750473:True:=⟨⟩
theorem tw862227745277736948:True:=⟨⟩
theorem tw10243818420136679018:True:=⟨⟩
theorem tw15571651752920329372:True:=⟨⟩
theorem tw4946032335336536457:True:=⟨⟩
theorem tw7385160540872334077:True:=⟨⟩
theorem tw17557066912587457912:True:=⟨⟩
theorem tw14070562590974610000:True:=⟨⟩
theorem tw16387164825287091294:True:=⟨⟩
theorem tw5614278588693335771:True:=⟨⟩
theorem tw3177262460941999514:True:=⟨⟩
theorem tw17255866948676098965:True:=⟨⟩
theorem tw3823511475742059898:True:=⟨⟩
theorem tw13363787929369362819:True:=⟨⟩
theorem tw16024798108878375003:True:=⟨⟩
theorem tw7038464883423487249:True:=⟨⟩
theorem tw7305729249737195647:True:=⟨⟩
theorem tw12440884772604067833:True:=⟨⟩
theorem tw16240436581110509999:True:=⟨⟩
theorem tw18234129297495223439:True:=⟨⟩
theorem tw3363211382568812708:True:=⟨⟩
theorem tw1615426007062210606:True:=⟨⟩
theorem tw7751507527973538053:True:=⟨⟩
theorem tw3133404420527741615:True:=⟨⟩
theorem tw14709080610775159543:True:=⟨⟩
theorem tw4015945606876491114:True:=⟨⟩
theorem tw6042872120735027849:True:=⟨⟩
theorem tw4420739646358214298:True:=⟨⟩
theorem tw6153886336331081250:True:=⟨⟩
theorem tw3986841111739733481:True:=⟨⟩
theorem tw14166246012441658343:True:=⟨⟩
theorem tw8359985806991576882:True:=⟨⟩
theorem tw14420825427001154594:True:=⟨⟩
theorem tw12988831054371469635:True:=⟨⟩
theorem tw11460820383211812972:True:=⟨⟩
theorem tw9467726891693359478:True:=⟨⟩
theorem tw982537082985774674:True:=⟨⟩
theorem tw15201703673682458767:True:=⟨⟩
theorem tw7955595091965850332:True:=⟨⟩
theorem tw15931888369079361813:True:=⟨⟩
theorem tw4114157911971353381:True:=⟨⟩
theorem tw15969993928168397347:True:=⟨⟩
theorem tw6112274756229202871:True:=⟨⟩
theorem tw13813447524125532803:True:=⟨⟩
theorem tw1891074886136230482:True:=⟨⟩
theorem tw9774033998821594408:True:=⟨⟩
theorem tw9167474418260611325:True:=⟨⟩
theorem tw698071060474677798:True:=⟨⟩
theorem tw14564920584087160668:True:=⟨⟩
theorem tw2556958132604140723:True:=⟨⟩
theorem tw14308560881777902132:True:=⟨⟩
theorem tw1852787428103681723:True:=⟨⟩
theorem tw5947112551874565788:True:=⟨⟩
theorem tw12166631185534918693:True:=⟨⟩
theorem tw15375903258266722384:True:=⟨⟩
theorem tw7844705767964468072:True:=⟨⟩
theorem tw7734699316289247896:True:=⟨⟩
theorem tw6978820771255655169:True:=⟨⟩
theorem tw5983884386108411793:True:=⟨⟩
theorem tw14242649296941285845:True:=⟨⟩
theorem tw5060222193227658153:True:=⟨⟩
theorem tw6416018079853038582:True:=⟨⟩
theorem tw4867168092157964061:True:=⟨⟩
theorem tw9142323586880063579:True:=⟨⟩
theorem tw4186929801811036976:True:=⟨⟩
theorem tw10098330300433925239:True:=⟨⟩
theorem tw1552134774148674654:True:=⟨⟩
theorem tw4732841167797916005:True:=⟨⟩
theorem tw16883399112587986291:True:=⟨⟩
theorem tw7629899796402954097:True:=⟨⟩
theorem tw14629036207081509411:True:=⟨⟩
theorem tw14381700652536283167:True:=⟨⟩
theorem tw15314964240624152242:True:=⟨⟩
theorem tw9030326942625658002:True:=⟨⟩
theorem tw7817721948978677528:True:=⟨⟩
theorem tw14988230602070397040:True:=⟨⟩
theorem tw13056203296127962939:True:=⟨⟩
theorem tw7316239798803026342:True:=⟨⟩
theorem tw602220626197015935:True:=⟨⟩
theorem tw4201241816952981968:True:=⟨⟩
theorem tw12546090560242987068:True:=⟨⟩
theorem tw7761322222121138811:True:=⟨⟩
theorem tw4475323944347328208:True:=⟨⟩
theorem tw2515593250274576666:True:=⟨⟩
theorem tw4794690036959853265:True:=⟨⟩
end PySem.W.Fast
local macro_rules | `(tactic| walk_at "u") => `(tactic| with_unfolding_all rfl)
namespace L2
open PySem PySem.Spec PyProof.Rows
noncomputable abbrev Key:=Sum Int Str
noncomputable def kU:Key→Value→Bool
 | .inl k,v=>Value.isInt k v
 | .inr x,v=>Value.isStrOf x v
noncomputable def Nf (w:World):Key→Int
 | .inl k=>hashInt k
 | .inr x=>hashStr w x
theorem bH:∀ {k:Key} {v:Value},kU k v=true→(∃ i t,k=O8 i∧v=SM i t)∨(∃ x t,k=Rh x∧v=SK x t)
 | .inl i,v,h=>by
  obtain ⟨t,e⟩:=Value.isInt_shape (k:=i) (v:=v) h
  exact .inl ⟨i,t,rfl,e⟩
 | .inr x,v,h=>by
  obtain ⟨t,e⟩:=Value.isStrOf_shape (x:=x) (v:=v) h
  exact .inr ⟨x,t,rfl,e⟩
theorem xR (i) (t:Tok):kU (.inl i) (.int i t)=true:=by simp [kU,Value.isInt]
theorem xS (x) (t:Tok):kU (.inr x) (.str x t)=true:=by simp [kU,Value.isStrOf]
theorem Hr (a b):decide ((O8 a:Key)=O8 b)=(a == b):=by
 by_cases e:a=b
 ·subst e; simp
 ·have h:¬ (O8 a:Key)=O8 b:=fun q=>e (O8.inj q)
  rw [decide_eq_false h]
  exact (beq_eq_false_iff_ne.mpr e).symm
theorem Hs (a b):decide ((Rh a:Key)=Rh b)=decide (a=b):=by
 by_cases e:a=b
 ·subst e; simp
 ·have h:¬ (Rh a:Key)=Rh b:=fun q=>e (Rh.inj q)
  rw [decide_eq_false h,decide_eq_false e]
theorem Ht (a) (b):decide ((O8 a:Key)=Rh b)=false:=decide_eq_false (fun q=>nomatch q)
theorem Hu (a) (b):decide ((Rh a:Key)=O8 b)=false:=decide_eq_false (fun q=>nomatch q)
noncomputable def bV (prog:Program) (w:World):PySem.KeyKind prog w Key where
 is:=kU
 hash:=Nf w
 inj:=fun v a b ha hb=>by
  rcases bH ha with ⟨i,t,rfl,rfl⟩ | ⟨x,t,rfl,rfl⟩
  ·rcases bH hb with ⟨j,u,rfl,e⟩ | ⟨y,u,rfl,e⟩
   ·injection e with e1 _; rw [e1]
   ·exact nomatch e
  ·rcases bH hb with ⟨j,u,rfl,e⟩ | ⟨y,u,rfl,e⟩
   ·exact nomatch e
   ·injection e with e1 _; rw [e1]
 byValue:=fun k v h=>by
  rcases bH h with ⟨i,t,rfl,rfl⟩ | ⟨x,t,rfl,rfl⟩ <;> rfl
 pyHash:=fun hv h=>by
  rcases bH hv with ⟨i,t,rfl,rfl⟩ | ⟨x,t,rfl,rfl⟩
  ·exact wpAny_pyHash_int h
  ·exact wpAny_pyHash_str h
 eqBool:=fun hu hv h=>by
  rcases bH hu with ⟨i,t,rfl,rfl⟩ | ⟨x,t,rfl,rfl⟩
  ·rcases bH hv with ⟨j,u,rfl,rfl⟩ | ⟨y,u,rfl,rfl⟩
   ·rw [Hr] at h; exact wpAny_eqBool_int h
   ·rw [Ht] at h; exact Ph.int_str i t y u _ _ _ _ h
  ·rcases bH hv with ⟨j,u,rfl,rfl⟩ | ⟨y,u,rfl,rfl⟩
   ·rw [Hu] at h; exact Ph.str_int x t j u _ _ _ _ h
   ·rw [Hs] at h; exact wpAny_eqBool_str h
 «strs» :=fun k x t v h=>by
  rcases bH h with ⟨i,u,rfl,e⟩ | ⟨y,u,rfl,e⟩
  ·exact nomatch e
  ·injection e with e1 _
   subst e1
   cases v <;> rfl
theorem qy (prog) (w) (i) (t:Tok):(bV prog w).is (.inl i) (.int i t)=true:=xR i t
theorem qz (prog) (w) (x) (t:Tok):(bV prog w).is (.inr x) (.str x t)=true:=xS x t
inductive V where
 | non | bl (b:Bool) | int (i:Int) | str (x:Str) | byt (b:Array UInt8) | flt (b:UInt64) | ref (a:Addr) | ty (n:String)
 deriving DecidableEq
noncomputable def RelV:V→Value→Prop
 | .non,u=>u=P4
 | .bl b,u=>u=Value.bool b
 | .int i,u=>∃ t,u=SM i t
 | .str x,u=>∃ t,u=SK x t
 | .byt b,u=>∃ t,u=Value.bytes b t
 | .flt b,u=>∃ t,u=Value.float b t
 | .ref a,u=>u=Pe a
 | .ty n,u=>u=Qe n
noncomputable abbrev Vals:List V→List Value→Prop:=Paired RelV
theorem Vals.length (r:Vals xs us):xs.length=us.length:=Qj r
theorem Vals.get:∀ {xs:List V} {us:List Value} {i:Nat} {x:V},Vals xs us→xs[i]?=some x→∃ u,us[i]?=some u∧RelV x u
 | _,_,_,_,.nil,e=>by simp at e
 | _,_,0,_,.cons r _,e=>by simp at e; subst e; exact ⟨_,rfl,r⟩
 | _,_,i+1,x,.cons _ t,e=>by
  obtain ⟨u,h1,h2⟩:=Vals.get (i:=i) (x:=x) t (by simpa using e)
  exact ⟨u,by simpa using h1,h2⟩
theorem Vals.set (r:RelV x u):∀ {xs:List V} {us:List Value} (i:Nat),Vals xs us→Vals (xs.set i x) (us.set i u)
 | _,_,_,.nil=>.nil
 | _,_,0,.cons _ t=>.cons r t
 | _,_,i+1,.cons q t=>.cons q (Vals.set r i t)
theorem Vals.append:∀ {xs ys:List V} {us ws:List Value},Vals xs us→Vals ys ws→Vals (xs++ys) (us++ws)
 | _,_,_,_,.nil,s=>s
 | _,_,_,_,.cons r t,s=>.cons r (Vals.append t s)
theorem Vals.take:∀ {xs:List V} {us:List Value} (n:Nat),Vals xs us→Vals (xs.take n) (us.take n)
 | _,_,0,_=>.nil
 | _,_,_+1,.nil=>.nil
 | _,_,n+1,.cons r t=>.cons r (Vals.take n t)
theorem Vals.drop:∀ {xs:List V} {us:List Value} (n:Nat),Vals xs us→Vals (xs.drop n) (us.drop n)
 | _,_,0,r=>r
 | _,_,_+1,.nil=>.nil
 | _,_,n+1,.cons _ t=>Vals.drop n t
noncomputable def kh:Option V→Option Value→Prop
 | some v,some u=>RelV v u
 | none,none=>True
 | _,_=>False
noncomputable def KV {κ:Type}:List (κ×V)→List (κ×Value)→Prop:=Paired fun (p:κ×V) (q:κ×Value)=>p.1=q.1∧RelV p.2 q.2
noncomputable def kV:Key→V
 | .inl i=>.int i
 | .inr x=>.str x
inductive HO where
 | lst (xs:List V)
 | tup (xs:List V)
 | dK (kvs:List (Key×V)) | dT (kvs:List (List Key×Addr×V))
 | set (S:Int→Bool) (n:Nat)
 | ins (C dx:Addr) (fs:List (Str×V))
 | own (x:Addr)
 | xd (fs:List (Str×V))
 | met (f x:Addr)
 | rng (lo hi:Int)
 | frz (o:Obj) (u:HO)
 | tbl (ps:Array Value)
 | ext (φ :Heap→Prop)
noncomputable abbrev Hp:=Addr→Option HO
noncomputable def upd (H:Hp) (a:Addr) (o:HO):Hp:=fun b=>if b=a then some o else H b
theorem ai:upd H a o a=some o:=by unfold upd; rw [if_pos rfl]
theorem ak (h:b≠a):upd H a o b=H b:=by unfold upd; rw [if_neg h]
theorem oR:upd (upd H a o) a u=upd H a u:=by
 funext b; unfold upd; split <;> rfl
theorem aB {H:Hp} (h:H a=some o) (h':H b=none):a≠b:=by
 intro e; subst e; rw [h] at h'; cases h'
section
variable (P:Program) (w:World)
noncomputable def bq (H:Hp) (h:Heap) (a:Addr):HO→Prop
 | .lst xs=>xs.length≤sizeLine∧∃ (its:List Value) (n:Nat),Vals xs its∧h.get? a=some { cls:=.type "list",data:=.seq its.toArray n }
 | .tup xs=>xs.length≤sizeLine∧∃ its:List Value,Vals xs its∧IsTup h a its.toArray
 | .dK kvs=>kvs.length≤sizeLine∧(a == sysModules)=false∧∃ vs,KV kvs vs∧h.DictOf (bV P w) a vs
 | .dT kvs=>kvs.length≤sizeLine∧(a == sysModules)=false∧∃ xs:List (List Key×Addr×Value),
  Paired (fun (p:List Key×Addr×V) (q:List Key×Addr×Value)=>p.1=q.1∧p.2.1=q.2.1∧RelV p.2.2 q.2.2) kvs xs ∧
  ∃ o es ep,h.get? a=some o∧o.ExactDict∧o.data=.dict es ep∧es.toList=xs.map (entryOfKey (tupleKind (bV P w)))∧(xs.map (·.1)).Nodup
 | .set S n=>h.SetOf (intKind P w) a S n
 | .ins C dx fs=>H dx=some (.own a)∧fs.length≤1000∧dx≠a∧h.get? a=some (PySem.W.instObj C dx) ∧
  ∃ mA,h.Ns1 dx mA∧(∀ f,kh (fs.lookup f) (mA f))∧PySem.Within mA (fs.map (·.1))
 | .own _=>∃ o,h.get? a=some o
 | .xd fs=>∃ mA,h.Ns1 a mA∧∀ f,kh (fs.lookup f) (mA f)
 | .rng lo hi=>∃ t u v,h.get? a=some { cls:=.type "range",data:=.fields #[.int lo t,.int hi u,.int 1 v] }
 | .frz o u=>h.get? a=some o∧bq H h a u
 | .tbl ps=>h.get? a=some { cls:=.none,data:=.fields ps }
 | .met f x=>h.get? a=some (UU (.ref f) (.ref x))
 | .ext φ => φ h∧(∃ o,h.get? a=some o)∧∀ h1 h2:Heap,φ h1→(∀ o,h1.get? a=some o→h2.get? a=some o)→ φ h2
noncomputable def jC (H:Hp) (h:Heap):Prop:=∀ a o,H a=some o→bq P w H h a o
end
section
theorem bq.lt (x:bq P w H h a o):a<h.objs.size:=by
 cases o with
 | lst xs=>obtain ⟨_,_,_,_,e⟩:=x; exact OW e
 | tup xs=>obtain ⟨_,_,_,p⟩:=x; exact p.lt
 | dK kvs=>obtain ⟨_,_,_,_,o,_,_,e,_⟩:=x; exact OW e
 | dT kvs=>obtain ⟨_,_,_,_,o,_,_,e,_⟩:=x; exact OW e
 | set S n=>obtain ⟨o,_,_,_,e,_⟩:=x; exact OW e
 | ins C dx fs=>obtain ⟨_,_,_,e,_⟩:=x; exact OW e
 | own y=>obtain ⟨_,e⟩:=x; exact OW e
 | xd fs=>obtain ⟨_,⟨_,_,_,e,_⟩,_⟩:=x; exact OW e
 | rng lo hi=>obtain ⟨_,_,_,e⟩:=x; exact OW e
 | frz ob u=>obtain ⟨e,_⟩:=x; exact OW e
 | tbl ps=>exact OW (show h.get? a=some _ from x)
 | met f y=>exact OW (show h.get? a=some _ from x)
 | ext φ =>obtain ⟨_,⟨_,e⟩,_⟩:=x; exact OW e
theorem Paired.Hw:∀ {l₁:List α} {l₂:List β},Paired F l₁ l₂→(∀ a b,F a b→G a b)→Paired G l₁ l₂
 | _,_,.nil,_=>.nil
 | _,_,.cons r t,f=>.cons (f _ _ r) (Paired.Hw t f)
theorem bq.stay (x:bq P w H h a o) (k:∀ b u,(b=a∨H b=some (.own a))→h.get? b=some u→h'.get? b=some u)
 (ho:∀ b,H b=some (.own a)→H' b=some (.own a)) (ht:∀ b xs,H b=some (.tup xs)→H' b=some (.tup xs)):bq P w H' h' a o:=by
 induction o with
 | lst xs=>obtain ⟨z,its,n,r,e⟩:=x; exact ⟨z,its,n,r,k _ _ (.inl rfl) e⟩
 | tup xs=>obtain ⟨z,its,r,ob,e,c⟩:=x; exact ⟨z,its,r,ob,k _ _ (.inl rfl) e,c⟩
 | dK kvs=>obtain ⟨z,y,vs,r,ob,es,ep,e,c⟩:=x; exact ⟨z,y,vs,r,ob,es,ep,k _ _ (.inl rfl) e,c⟩
 | dT kvs =>
  obtain ⟨z,y,xs,r,ob,es,ep,e,c⟩:=x
  exact ⟨z,y,xs,r,ob,es,ep,k _ _ (.inl rfl) e,c⟩
 | set S n=>obtain ⟨ob,es,ep,t,e,c⟩:=x; exact ⟨ob,es,ep,t,k _ _ (.inl rfl) e,c⟩
 | ins C dx fs =>
  obtain ⟨d,z,ne,e,mA,⟨od,es,ep,e2,c⟩,r⟩:=x
  exact ⟨ho _ d,z,ne,k _ _ (.inl rfl) e,mA,⟨od,es,ep,k _ _ (.inr d) e2,c⟩,r⟩
 | own y=>obtain ⟨ob,e⟩:=x; exact ⟨ob,k _ _ (.inl rfl) e⟩
 | xd fs=>obtain ⟨mA,⟨od,es,ep,e,c⟩,r⟩:=x; exact ⟨mA,⟨od,es,ep,k _ _ (.inl rfl) e,c⟩,r⟩
 | rng lo hi=>obtain ⟨t,u,v,e⟩:=x; exact ⟨t,u,v,k _ _ (.inl rfl) e⟩
 | frz ob u ih=>obtain ⟨e,q⟩:=x; exact ⟨k _ _ (.inl rfl) e,ih q⟩
 | tbl ps =>
  have e:h.get? a=some { cls:=.none,data:=.fields ps }:=x
  show h'.get? a=some { cls:=.none,data:=.fields ps }
  exact k a _ (.inl rfl) e
 | met f y =>
  have e:h.get? a=some (UU (.ref f) (.ref y)):=x
  show h'.get? a=some (UU (.ref f) (.ref y))
  exact k a _ (.inl rfl) e
 | ext φ =>obtain ⟨p,⟨o,e⟩,st⟩:=x; exact ⟨st _ _ p fun o q=>k _ _ (.inl rfl) q,⟨o,k _ _ (.inl rfl) e⟩,st⟩
theorem jC.lt (x:jC P w H h) (e:H a=some o):a<h.objs.size:=(x a o e).lt
theorem jC.fresh (x:jC P w H h) (e:h.objs.size≤a):H a=none:=by
 cases q:H a with
 | none=>rfl
 | some u=>exact absurd (PN (x.lt q) e) (Qy _)
theorem jC.kept (x:jC P w H h) (k:∀ b u,h.get? b=some u→h'.get? b=some u):jC P w H h':=fun a o e =>
 (x a o e).stay (fun b u _ q=>k b u q) (fun _ q=>q) fun _ _ q=>q
theorem jC.laid (x:jC P w H h) (k:∀ b u,h.get? b=some u→h'.get? b=some u) (hp:h.objs.size≤a) (new:bq P w (upd H a o) h' a o):jC P w (upd H a o) h':=fun b u e=>by
 have hn:=x.fresh hp
 by_cases hb:b=a
 ·subst hb; rw [ai] at e; cases e; exact new
 ·rw [ak hb] at e
  exact (x b u e).stay (fun c v _ q=>k c v q) (fun c q=>by rw [ak (aB q hn)]; exact q) fun c xs q=>by rw [ak (aB q hn)]; exact q
end
noncomputable def Rd (H:Hp) (a:Addr) (u:HO):Prop:=H a=some u∨∃ o,H a=some (.frz o u)
theorem Rd.ok (r:Rd H a u) (x:jC P w H h):bq P w H h a u:=by
 rcases r with r | ⟨o,r⟩
 ·exact x a u r
 ·obtain ⟨_,q⟩:=x a _ r
  exact q
noncomputable def KR:Option HO→Prop
 | some (.lst _)=>True
 | some (.dK _)=>True
 | some (.dT _)=>True
 | some (.set _ _)=>True
 | some (.ins _ _ _)=>True
 | some (.ext _)=>True
 | _=>False
section
theorem jC.write (ok:jC P w H h) (mu:KR (H x)) (he:e=x∨H e=some (.own x)) (k:∀ b u,b≠e→h.get? b=some u→h'.get? b=some u) (heo:∃ u,h'.get? e=some u)
 (new:bq P w (upd H x o') h' x o'):jC P w (upd H x o') h':=fun b u q=>by
 have nown:∀ c y,H c=some (.own y)→c≠x:=fun c y r z=>by subst z; rw [r] at mu; exact mu
 have ntup:∀ c xs,H c=some (.tup xs)→c≠x:=fun c xs r z=>by subst z; rw [r] at mu; exact mu
 by_cases hb:b=x
 ·subst hb; rw [ai] at q; cases q; exact new
 ·rw [ak hb] at q
  by_cases hbe:b=e
  ·have q':H b=some (.own x):=by
    rcases he with z | z
    ·exact absurd (hbe.trans z) hb
    ·rw [hbe]; exact z
   rw [q] at q'; cases q'
   obtain ⟨v,hv⟩:=heo
   exact ⟨v,by rw [hbe]; exact hv⟩
  ·refine (ok b u q).stay (fun c v hc r=>k c v ?_ r) (fun c r=>by rw [ak (nown c b r)]; exact r) fun c xs r=>by rw [ak (ntup c xs r)]; exact r
   rcases hc with rfl | hc
   ·exact hbe
   ·rintro rfl
    rcases he with z | z
    ·exact nown c b hc z
    ·rw [hc] at z; cases z; exact hb rfl
end
structure Un (fs ex:List Addr) (H H':Hp) (h h':Heap):Prop where
 keep:∀ b o,h.get? b=some o→H b=none→b∉fs→b∉ex→h'.get? b=some o
 slot:∀ b o,h.get? b=some o→H b=none→b∈fs→b∉ex→∃ sl,h'.get? b=some { o with slots:=sl }
 free:∀ b o,h.get? b=some o→H b=none→b∉ex→H' b=none
 there:∀ b o,h.get? b=some o→b∉ex→∃ o',h'.get? b=some o'
 tups:∀ b xs,H b=some (.tup xs)→H' b=some (.tup xs)
 frzs:∀ b o u,H b=some (.frz o u)→H' b=some (.frz o u)
 tbls:∀ b ps,H b=some (.tbl ps)→∃ more,H' b=some (.tbl (ps++more))
section
variable {fs fs' ex ex':List Addr} {H H1 H2:Hp} {h h1 h2 h':Heap} {a x e:Addr} {o:HO}
theorem Un.any (u:Un fs ex H H1 h h1) (q:h.get? b=some ob) (n:H b=none) (hx:b∉ex):∃ sl,h1.get? b=some { ob with slots:=sl }:=by
 by_cases hb:b∈fs
 ·exact u.slot b ob q n hb hx
 ·exact ⟨ob.slots,u.keep b ob q n hb hx⟩
theorem Un.kept (k:∀ b u,h.get? b=some u→h'.get? b=some u):Un fs ex H H h h' :=
 ⟨fun b ob q _ _ _=>k b ob q,fun b ob q _ _ _=>⟨ob.slots,k b ob q⟩,fun _ _ _ n _=>n,fun b ob q _=>⟨ob,k b ob q⟩,fun _ _ q=>q,fun _ _ _ q=>q,fun _ ps q=>⟨#[],by rw [q]; simp⟩⟩
theorem Un.refl:Un fs ex H H h h:=Un.kept fun _ _ q=>q
theorem Un.laid (k:∀ b u,h.get? b=some u→h'.get? b=some u) (hp:h.objs.size≤a) (hn:H a=none):Un fs ex H (upd H a o) h h' where
 keep:=fun b u q _ _ _=>k b u q
 slot:=fun b u q _ _ _=>⟨u.slots,k b u q⟩
 free:=fun b u q n _=>by rw [ak (Pk (PN (OW q) hp))]; exact n
 there:=fun b u q _=>⟨u,k b u q⟩
 tups:=fun b xs q=>by rw [ak (aB q hn)]; exact q
 frzs:=fun b u xs q=>by rw [ak (aB q hn)]; exact q
 tbls:=fun b ps q=>⟨#[],by rw [ak (aB q hn),q]; simp⟩
theorem Un.write (mu:KR (H x)) (he:e=x∨H e=some (.own x)) (k:∀ b u,b≠e→h.get? b=some u→h'.get? b=some u) (heo:∃ u,h'.get? e=some u):Un fs ex H (upd H x o) h h':=by
 have hx:∀ b,H b=none→b≠x:=fun b n z=>by subst z; rw [n] at mu; exact mu
 have hb:∀ b,H b=none→b≠e:=fun b n z=>by
  subst z
  rcases he with r | r
  ·exact hx b n r
  ·rw [n] at r; cases r
 have hm:∀ b u,H b=some u→¬ KR (some u)→b≠x:=fun b u q nm z=>by subst z; rw [q] at mu; exact nm mu
 refine ⟨fun b u q n _ _=>k b u (hb b n) q,fun b u q n _ _=>⟨u.slots,k b u (hb b n) q⟩,fun b u q n _=>by rw [ak (hx b n)]; exact n,fun b u q _=>?_,
  fun b xs q=>by rw [ak (hm b _ q fun z=>z)]; exact q,fun b u xs q=>by rw [ak (hm b _ q fun z=>z)]; exact q,fun b ps q=>⟨#[],by rw [ak (hm b _ q fun z=>z),q]; simp⟩⟩
 by_cases hbe:b=e
 ·subst hbe; exact heo
 ·exact ⟨u,k b u hbe q⟩
end
noncomputable def M0 (h:Heap) (H:Hp):List Addr:=(PF h.objs.size).filter fun a=>(H a).isSome
noncomputable def oS (h:Heap) (H:Hp):Heap:=PySem.W.hideAll h (M0 h H)
theorem xT (h) (H):(oS h H).objs.size=h.objs.size:=PySem.W.hideAll_size _ _
theorem zO (e:h.get? b=some o) (n:H b=none):(oS h H).get? b=some o :=
 PySem.W.hideAll_get _ e fun hm=>by
  have q:(H b).isSome=true:=(Sq.mp hm).2
  rw [n] at q; simp at q
theorem D9 (e:(oS h H).get? b=some o):h.get? b=some o∧H b=none:=by
 have e':h.get? b=some o:=PySem.W.of_hideAll (M0 h H) e
 refine ⟨e',?_⟩
 cases q:H b with
 | none=>rfl
 | some x =>
  have hm:b∈M0 h H:=Sq.mpr ⟨T4.mpr (OW e'),by simp [q]⟩
  have z:(oS h H).get? b=none:=PySem.W.hideAll_none (M0 h H) hm
  rw [z] at e; cases e
structure Mod (K:ON) (mg:Str→Option Value) (base:Heap):Prop where
 kin:K.In base
 glob:base.Ns mainGlobals mg
 blt:∃ mb,base.Ns builtinsNs mb∧∀ x:Str,x≠"__name__"→mb x=bootBuiltins x
 nolimit:base.NoLimit
structure Cx where
 prog:Program
 w:World
 K:ON
 mg:Str→Option Value
 base:Heap
 A:Around
 N:List Str
 s₀:Shared
 H₀:Hp
 env:Env
 outer:List Env
 stack:List Env
 ex:List Addr
 fn:Str→Bool
 calm:Bool
 pn:List (Addr×Obj)
 xe:Value→Shared→Prop
noncomputable def frs (l:List Env):List Addr:=l.filterMap (·.frame)
noncomputable abbrev Cx.fs (X:Cx):List Addr:=frs X.outer
noncomputable def Ng (sc:Scope) (x:Str):Prop:=sc.names.lookup x=some .local∨sc.names.lookup x=some .cell∨sc.names.lookup x=some .free
noncomputable def Loc (sc:Scope) (x:Str):Prop:=sc.names.lookup x=some .local∨sc.names.lookup x=some .cell
noncomputable def Look (env:Env) (h:Heap) (m:Str→Option Value) (x:Str) (u:Value):Prop :=
 (env.kindOf x=some .local∧m x=some u)∨((env.kindOf x=some .cell∨env.kindOf x=some .free)∧∃ c,env.cells.lookup x=some c∧h.IsCell c (some u))
structure Cx.Ok (X:Cx):Prop where
 mod:Mod X.K X.mg X.base
 kind:X.env.scope.kind=.function
 glob:X.env.globals=mainGlobals
 blt:X.env.builtins=builtinsNs
 above:X.s₀.heap.objs.size≤X.env.locals
 inj:∀ x y c,X.env.cells.lookup x=some c→X.env.cells.lookup y=some c→x=y
 has:∀ x,(X.env.kindOf x=some .cell∨X.env.kindOf x=some .free)→∃ c,X.env.cells.lookup x=some c
 cab:∀ x c,X.fn x=true→X.env.cells.lookup x=some c→X.s₀.heap.objs.size≤c
 hd:X.calm=true→X.A.handled=none
 frames:X.A.frames=some X.stack
 stk:X.stack=X.outer∨(X.stack=X.env::X.outer∧X.env.frame=some X.env.locals)
 exf:∀ b∈X.ex,b≠X.env.locals∧∀ x c,X.env.cells.lookup x=some c→c≠b
 bs:∀ b o,X.base.get? b=some o→X.s₀.heap.get? b=some o∧X.H₀ b=none
 bsz:X.base.objs.size≤X.s₀.heap.objs.size
 noex:∀ b o,X.base.get? b=some o→b∉X.ex
 exfs:∀ b∈X.ex,b∉X.fs
 jD:X.s₀.heap.FunFrames X.base X.outer
 frf:∀ b∈X.fs,X.H₀ b=none
structure Inv (X:Cx) (aa:List (Addr×Obj)) (σ:List (Option V)) (H:Hp) (s:Shared):Prop where
 ok:X.Ok
 os:s.os=X.s₀.os
 bare:AllBare s.gens
 base:Un X.fs X.ex X.H₀ H X.s₀.heap s.heap
 loc:∃ m,s.heap.Ns X.env.locals m∧∀ (i:Nat) (x:Str) (v:V),X.N[i]?=some x→σ[i]?=some (some v)→Ng X.env.scope x→∃ u,RelV v u∧Look X.env s.heap m x u
 cell:∀ x c,X.env.cells.lookup x=some c→∃ v,s.heap.IsCell c v
 free:H X.env.locals=none
 freeC:∀ x c,X.env.cells.lookup x=some c→H c=none
 pin:∀ p∈X.pn++aa,s.heap.get? p.1=some p.2∧H p.1=none∧p.1≠X.env.locals∧p.1∉X.fs∧∀ v,p.2.data≠.cell v
 hok:jC X.prog X.w H s.heap
 len:σ.length=X.N.length
section
variable {X:Cx}
theorem Cx.Ok.Nh (ok:X.Ok) (e:X.base.get? b=some o):b∉X.fs:=fun hb=>by
 have:=(ok.jD.mem hb).1
 rw [e] at this; cases this
theorem Inv.bs (I:Inv X aa σ H s):∀ b o,X.base.get? b=some o→s.heap.get? b=some o∧H b=none:=fun b o e =>
 ⟨I.base.keep b o (I.ok.bs b o e).1 (I.ok.bs b o e).2 (I.ok.Nh e) (I.ok.noex b o e),I.base.free b o (I.ok.bs b o e).1 (I.ok.bs b o e).2 (I.ok.noex b o e)⟩
theorem Inv.bk (I:Inv X aa σ H s):∀ b o,X.base.get? b=some o→s.heap.get? b=some o:=fun b o e=>(I.bs b o e).1
theorem Inv.mod (I:Inv X aa σ H s):Mod X.K X.mg X.base:=I.ok.mod
theorem Inv.oU (I:Inv X aa σ H s):X.K.In s.heap:=I.ok.mod.kin.keeps I.bk
theorem Inv.lt (I:Inv X aa σ H s):X.env.locals<s.heap.objs.size:=let ⟨_,hn,_⟩:=I.loc; hn.lt
theorem Inv.sz (I:Inv X aa σ H s):X.s₀.heap.objs.size≤s.heap.objs.size:=OV I.ok.above (Q9 I.lt)
theorem Inv.KS (I:Inv X aa σ H s) (h:s.heap.objs.size≤a):a∉X.fs:=fun hb=>by
 obtain ⟨_,o,ho,_⟩:=I.ok.jD.mem hb
 exact absurd (PN (OW ho) (OV I.sz h)) (Qy _)
theorem Inv.Hx (I:Inv X aa σ H s):∀ x c,X.env.cells.lookup x=some c→c≠X.env.locals:=fun x c e z=>by
 obtain ⟨v,o,ho,hd⟩:=I.cell x c e
 obtain ⟨m,⟨o',es,ep,ho',hd',_⟩,_⟩:=I.loc
 rw [z,ho'] at ho; cases ho; rw [hd'] at hd; cases hd
theorem Inv.jD (I:Inv X aa σ H s):s.heap.FunFrames X.base X.outer:=by
 have all:∀ (l:List Env),(∀ b∈frs l,b∈X.fs)→X.s₀.heap.FunFrames X.base l→s.heap.FunFrames X.base l:=by
  intro l
  induction l with
  | nil=>intro _ _; trivial
  | cons env r ih =>
   intro hs hl
   obtain ⟨hk,⟨L,o,hf,hn,ho,hd⟩,hr⟩:=hl
   have hL:L∈X.fs:=hs L (by unfold frs; rw [Qm,hf]; exact O1)
   obtain ⟨sl,e⟩:=I.base.slot L o ho (I.ok.frf L hL) hL fun z=>I.ok.exfs L z hL
   exact ⟨hk,⟨L,_,hf,hn,e,hd⟩,ih (fun b hb=>hs b (by unfold frs; rw [Qm,hf]; exact O2 _ hb)) hr⟩
 exact all X.outer (fun _ hb=>hb) I.ok.jD
theorem Inv.stack (I:Inv X aa σ H s):s.heap.FunFrames X.base X.stack:=by
 rcases I.ok.stk with e | ⟨e,hf⟩
 ·rw [e]; exact I.jD
 ·rw [e]
  obtain ⟨m,hn,_⟩:=I.loc
  refine .cons (by rw [I.ok.kind]; decide) hf hn ?_ I.jD
  exact Heap.get?_none_of_le (OV I.ok.bsz I.ok.above)
theorem Inv.tX (I:Inv X aa σ H s):∀ b∈frs X.stack,b∈X.env.locals::X.fs:=fun b hb=>by
 rcases I.ok.stk with e | ⟨e,hf⟩
 ·rw [e] at hb; exact O2 _ hb
 ·rw [e] at hb
  unfold frs at hb
  rw [Qm,hf] at hb
  exact hb
theorem Inv.vG (I:Inv X aa σ H s):∀ b∈frs X.stack,H b=none:=fun b hb=>by
 rcases O5.mp (I.tX b hb) with e | hb
 ·rw [e]; exact I.free
 ·obtain ⟨_,o,ho,_⟩:=I.ok.jD.mem hb
  exact I.base.free b o ho (I.ok.frf b hb) fun z=>I.ok.exfs b z hb
theorem Inv.step {ch:List Addr} (I:Inv X aa σ H s)
 (hch:∀ b∈ch,(b∈X.ex∨X.s₀.heap.objs.size≤b)∧b≠X.env.locals∧(∀ x c,X.env.cells.lookup x=some c→c≠b)∧∀ p∈X.pn++aa,p.1≠b)
 (keep:∀ b o,b≠X.env.locals→b∉X.fs→b∉ch→s.heap.get? b=some o→H b=none→h'.get? b=some o)
 (slot:∀ b o,b≠X.env.locals→b∈X.fs→b∉ch→s.heap.get? b=some o→H b=none→∃ sl,h'.get? b=some { o with slots:=sl }) (free:∀ b o,b∉ch→s.heap.get? b=some o→H b=none→H' b=none)
 (there:∀ b o,b∉ch→s.heap.get? b=some o→∃ o',h'.get? b=some o')
 (tups:∀ b xs,H b=some (.tup xs)→H' b=some (.tup xs)) (frzs:∀ b o u,H b=some (.frz o u)→H' b=some (.frz o u)) (tbls:∀ b ps,H b=some (.tbl ps)→∃ more,H' b=some (.tbl (ps++more)))
 (ns:∀ m,s.heap.Ns X.env.locals m→h'.Ns X.env.locals m) (hok:jC X.prog X.w H' h') (hg:AllBare g') :
 Inv X aa σ H' { s with heap:=h',gens:=g',drawn:=d',toks:=t' }:=by
 have neL:∀ b o,X.s₀.heap.get? b=some o→b≠X.env.locals:=fun b o e=>Pk (PN (OW e) I.ok.above)
 have neC:∀ b o,X.s₀.heap.get? b=some o→b∉X.ex→b∉ch:=fun b o e hx hb=>by
  rcases (hch b hb).1 with z | z
  ·exact hx z
  ·exact absurd (PN (OW e) z) (Qy _)
 have cellK:∀ x c,X.env.cells.lookup x=some c→∀ v,s.heap.IsCell c v→h'.IsCell c v:=fun x c e v ⟨o,ho,hd⟩=>by
  have nch:c∉ch:=fun z=>(hch c z).2.2.1 x c e rfl
  by_cases hc:c∈X.fs
  ·obtain ⟨sl,q⟩:=slot c o (I.Hx x c e) hc nch ho (I.freeC x c e)
   exact ⟨_,q,hd⟩
  ·exact ⟨o,keep c o (I.Hx x c e) hc nch ho (I.freeC x c e),hd⟩
 refine ⟨I.ok,I.os,hg,⟨fun b o e n hb hx=>?_,fun b o e n hb hx=>?_,fun b o e n hx=>?_,fun b o e hx=>?_,fun b xs e=>tups b xs (I.base.tups b xs e),fun b o xs e=>frzs b o xs (I.base.frzs b o xs e),fun b ps e=>?_⟩,?_,fun x c e=>?_,?_,fun x c e=>?_,fun p hp=>?_,hok,I.len⟩
 ·exact keep b o (neL b o e) hb (neC b o e hx) (I.base.keep b o e n hb hx) (I.base.free b o e n hx)
 ·obtain ⟨sl,e1⟩:=I.base.slot b o e n hb hx
  obtain ⟨sl',e2⟩:=slot b _ (neL b o e) hb (neC b o e hx) e1 (I.base.free b o e n hx)
  exact ⟨sl',e2⟩
 ·obtain ⟨o',e1⟩:=I.base.there b o e hx
  exact free b o' (neC b o e hx) e1 (I.base.free b o e n hx)
 ·obtain ⟨o',e1⟩:=I.base.there b o e hx
  exact there b o' (neC b o e hx) e1
 ·obtain ⟨m1,e1⟩:=I.base.tbls b ps e
  obtain ⟨m2,e2⟩:=tbls b _ e1
  exact ⟨m1++m2,by rw [e2,Array.append_assoc]⟩
 ·obtain ⟨m,hn,hl⟩:=I.loc
  refine ⟨m,ns m hn,fun i x v e1 e2 e3=>?_⟩
  obtain ⟨u,r,l⟩:=hl i x v e1 e2 e3
  refine ⟨u,r,?_⟩
  rcases l with l | ⟨k,c,e,z⟩
  ·exact .inl l
  ·exact .inr ⟨k,c,e,cellK x c e _ z⟩
 ·obtain ⟨v,z⟩:=I.cell x c e
  exact ⟨v,cellK x c e v z⟩
 ·obtain ⟨m,⟨o,_,_,ho,_⟩,_⟩:=I.loc
  exact free _ o (fun z=>(hch _ z).2.1 rfl) ho I.free
 ·obtain ⟨v,o,ho,hd⟩:=I.cell x c e
  exact free c o (fun z=>(hch c z).2.2.1 x c e rfl) ho (I.freeC x c e)
 ·obtain ⟨e,n,ne,nf,d⟩:=I.pin p hp
  have nch:p.1∉ch:=fun z=>(hch p.1 z).2.2.2 p hp rfl
  exact ⟨keep p.1 p.2 ne nf nch e n,free p.1 p.2 nch e n,ne,nf,d⟩
theorem Inv.un (I:Inv X aa σ H s) (u:Un X.fs [] H H' s.heap h') (hok:jC X.prog X.w H' h'):Inv X aa σ H' { s with heap:=h',toks:=t' }:=by
 obtain ⟨m,⟨o,es,ep,ho,r⟩,_⟩:=id I.loc
 obtain ⟨sl,hL⟩:=u.any ho I.free (by simp)
 exact I.step (g':=s.gens) (d':=s.drawn) (ch:=[]) (fun _ z=>nomatch z) (fun b o _ hb _ e n=>u.keep b o e n hb (by simp)) (fun b o _ hb _ e n=>u.slot b o e n hb (by simp)) (fun b o _ e n=>u.free b o e n (by simp)) (fun b o _ e=>u.there b o e (by simp)) u.tups u.frzs u.tbls (fun m' hm=>by
  obtain ⟨o',es',ep',ho',r'⟩:=hm
  rw [ho] at ho'; cases ho'
  exact ⟨_,es',ep',hL,r'⟩) hok I.bare
theorem Inv.call (I:Inv X aa σ H s) (u:Un (frs X.stack) ch H H' s.heap h') (hok:jC X.prog X.w H' h') (hg:AllBare g')
 (hch:∀ b∈ch,(b∈X.ex∨X.s₀.heap.objs.size≤b)∧b≠X.env.locals∧(∀ x c,X.env.cells.lookup x=some c→c≠b)∧∀ p∈X.pn++aa,p.1≠b) :
 Inv X aa σ H' { s with heap:=h',gens:=g',drawn:=d',toks:=t' }:=by
 obtain ⟨m,⟨o,es,ep,ho,r⟩,_⟩:=id I.loc
 obtain ⟨sl,hL⟩:=u.any ho I.free fun z=>(hch _ z).2.1 rfl
 exact I.step (ch:=ch) hch (fun b o hL hb hc e n=>u.keep b o e n (fun z=>(O5.mp (I.tX b z)).elim hL hb) hc) (fun b o _ _ hc e n=>u.any e n hc) (fun b o hc e n=>u.free b o e n hc) (fun b o hc e=>u.there b o e hc) u.tups u.frzs u.tbls (fun m' hm=>by
  obtain ⟨o',es',ep',ho',r'⟩:=hm
  rw [ho] at ho'; cases ho'
  exact ⟨_,es',ep',hL,r'⟩) hok hg
theorem Inv.turned (I:Inv X aa σ H s) (k:∀ b o,b≠it→s.heap.get? b=some o→h'.get? b=some o) (hn:H it=none) (hL:it≠X.env.locals)
 (h1:it∈X.ex∨X.s₀.heap.objs.size≤it) (h2:∀ x c,X.env.cells.lookup x=some c→c≠it) (h3:∀ p∈X.pn++aa,p.1≠it):Inv X aa σ H { s with heap:=h',toks:=t' }:=by
 have nit:∀ b u,H b=some u→b≠it:=fun b u e z=>by rw [z,hn] at e; cases e
 refine I.step (g':=s.gens) (d':=s.drawn) (ch:=[it]) (fun b hb=>?_) (fun b o _ _ hc e _=>k b o (fun z=>hc (by simp [z])) e) (fun b o _ _ hc e _=>⟨o.slots,k b o (fun z=>hc (by simp [z])) e⟩) (fun _ _ _ _ n=>n)
  (fun b o hc e=>⟨o,k b o (fun z=>hc (by simp [z])) e⟩) (fun _ _ e=>e) (fun _ _ _ e=>e) (fun b ps e=>⟨#[],by rw [e]; simp⟩) (fun m hm=>?_) (fun b u e=>?_) I.bare
 ·have e:b=it:=by simpa using hb
  subst e
  exact ⟨h1,hL,h2,h3⟩
 ·obtain ⟨o,es,ep,ho,r⟩:=hm
  exact ⟨o,es,ep,k _ o (Pf hL) ho,r⟩
 ·refine (I.hok b u e).stay (fun c v hc q=>k c v ?_ q) (fun _ q=>q) fun _ _ q=>q
  rcases hc with z | z
  ·rw [z]; exact nit b u e
  ·exact nit c _ z
theorem Inv.tok (I:Inv X aa σ H s) (t):Inv X aa σ H { s with toks:=t }:=I.un (h':=s.heap) (t':=t) Un.refl I.hok
theorem Inv.kept (I:Inv X aa σ H s) (k:∀ b u,s.heap.get? b=some u→h'.get? b=some u):Inv X aa σ H { s with heap:=h',toks:=t' }:=I.un (Un.kept k) (I.hok.kept k)
theorem Inv.laid (I:Inv X aa σ H s) (k:∀ b u,s.heap.get? b=some u→h'.get? b=some u) (hp:s.heap.objs.size≤a) (new:bq X.prog X.w (upd H a o) h' a o) :
 Inv X aa σ (upd H a o) { s with heap:=h',toks:=t' }:=I.un (Un.laid k hp (I.hok.fresh hp)) (I.hok.laid k hp new)
theorem Inv.write (I:Inv X aa σ H s) (mu:KR (H x)) (he:e=x∨H e=some (.own x)) (k:∀ b u,b≠e→s.heap.get? b=some u→h'.get? b=some u) (heo:∃ u,h'.get? e=some u)
 (new:bq X.prog X.w (upd H x o) h' x o):Inv X aa σ (upd H x o) { s with heap:=h',toks:=t' }:=I.un (Un.write mu he k heo) (I.hok.write mu he k heo new)
theorem Inv.vH (I:Inv X aa σ H s) (h:∀ p∈pins',s.heap.get? p.1=some p.2∧H p.1=none∧p.1≠X.env.locals∧p.1∉X.fs∧∀ v,p.2.data≠.cell v):Inv X pins' σ H s :=
 ⟨I.ok,I.os,I.bare,I.base,I.loc,I.cell,I.free,I.freeC,fun p hp=>(Pg.mp hp).elim (fun z=>I.pin p (Rl _ z)) (h p),I.hok,I.len⟩
theorem qA {N:List Str} (hN:N.Nodup) {i j:Nat} (a:N[i]?=some x) (b:N[j]?=some x):i=j:=by
 obtain ⟨h1,e1⟩:=OZ.mp a
 obtain ⟨h2,e2⟩:=OZ.mp b
 exact (List.getElem_inj hN).mp (e1.trans e2.symm)
theorem xU (I:Inv X aa σ H s) (hN:X.N.Nodup) (hi:X.N[i]?=some x) (hx:Loc X.env.scope x) (r:RelV v u)
 (h:∀ s',Inv X aa (σ.set i (some v)) H s'→(∃ a,QG a s.heap s'.heap∧(a=X.env.locals∨X.env.cells.lookup x=some a))→Q () s') (hf:X.fn x=true∨X.env.scope.names.lookup x=some .local:=by first | exact .inl rfl | exact .inr rfl | assumption):wpAny M A (storeName X.env x u) Q E s:=by
 obtain ⟨m,hn,hl⟩:=id I.loc
 have hcls:(X.env.scope.kind == .class || (X.env.scope.kind == .module && X.env.locals != X.env.globals))=false:=by rw [I.ok.kind]; rfl
 have hiσ:i<σ.length:=by rw [I.len]; exact (OZ.mp hi).1
 have Hx:=I.Hx
 have tracked:∀ {a:Addr} {h':Heap},(∃ o,s.heap.get? a=some o∧H a=none)→QG a s.heap h'→jC X.prog X.w H h':=fun {a h'} ha hs b ob e=>by
  obtain ⟨_,_,hfree⟩:=ha
  refine (I.hok b ob e).stay (fun c w' hc q=>(hs.2 c ?_).trans q) (fun _ q=>q) fun _ _ q=>q
  rintro rfl
  rcases hc with rfl | hc
  ·rw [hfree] at e; cases e
  ·rw [hfree] at hc; cases hc
 rcases hx with hk | hk
 ·refine wpAny_storeName_local hk hn (fun h' hn' hs=>?_) hcls
  obtain ⟨oL,_,_,hoL,_⟩:=id hn
  refine h _ ⟨I.ok,I.os,I.bare,⟨fun b o e n hb hx=>?_,fun b o e n hb hx=>?_,I.base.free,fun b o e hx=>?_,I.base.tups,I.base.frzs,I.base.tbls⟩,⟨_,hn',fun j y v' e1 e2 e3=>?_⟩,fun y c e=>?_,I.free,I.freeC,fun p hp=>?_,tracked ⟨oL,hoL,I.free⟩ hs,by simpa using I.len⟩ ⟨_,hs,.inl rfl⟩
  ·exact (hs.2 b (Pk (PN (OW e) I.ok.above))).trans (I.base.keep b o e n hb hx)
  ·obtain ⟨sl,e1⟩:=I.base.slot b o e n hb hx
   exact ⟨sl,(hs.2 b (Pk (PN (OW e) I.ok.above))).trans e1⟩
  ·obtain ⟨o',e1⟩:=I.base.there b o e hx
   exact ⟨o',(hs.2 b (Pk (PN (OW e) I.ok.above))).trans e1⟩
  ·by_cases hj:j=i
   ·subst hj
    rw [hi] at e1; cases e1
    rw [Qf hiσ] at e2
    cases e2
    exact ⟨u,r,.inl ⟨hk,by simp⟩⟩
   ·rw [Qh (Pf hj)] at e2
    obtain ⟨u',r',q⟩:=hl j y v' e1 e2 e3
    refine ⟨u',r',?_⟩
    rcases q with ⟨k,e⟩ | ⟨k,c,e,z⟩
    ·refine .inl ⟨k,?_⟩
     have:y≠x:=fun e=>hj (qA hN e1 (e ▸ hi))
     simp [this,e]
    ·exact .inr ⟨k,c,e,z.sameBut hs (Hx y c e)⟩
  ·obtain ⟨w',z⟩:=I.cell y c e
   exact ⟨w',z.sameBut hs (Hx y c e)⟩
  ·obtain ⟨e,n,ne,nf,d⟩:=I.pin p hp
   exact ⟨(hs.2 p.1 ne).trans e,n,ne,nf,d⟩
 ·have hfn:X.fn x=true:=by
   rcases hf with z | z
   ·exact z
   ·rw [z] at hk; cases hk
  obtain ⟨c,hc⟩:=I.ok.has x (.inl hk)
  obtain ⟨w',z⟩:=I.cell x c hc
  refine wpAny_storeName_cell I.ok.kind hk hc z (fun h' hc' hs=>?_)
  obtain ⟨oc,hoc,hocd⟩:=id z
  refine h { s with heap:=h' } ⟨I.ok,I.os,I.bare,⟨fun b o e n hb hx=>?_,fun b o e n hb hx=>?_,I.base.free,fun b o e hx=>?_,I.base.tups,I.base.frzs,I.base.tbls⟩,⟨m,hn.sameBut hs (Pf (Hx x c hc)),fun j y v' e1 e2 e3=>?_⟩,fun y c' e=>?_,I.free,I.freeC,fun p hp=>?_,tracked ⟨oc,hoc,I.freeC x c hc⟩ hs,by simpa using I.len⟩ ⟨c,hs,.inr hc⟩
  ·exact (hs.2 b (Pk (PN (OW e) (I.ok.cab x c hfn hc)))).trans (I.base.keep b o e n hb hx)
  ·obtain ⟨sl,e1⟩:=I.base.slot b o e n hb hx
   exact ⟨sl,(hs.2 b (Pk (PN (OW e) (I.ok.cab x c hfn hc)))).trans e1⟩
  ·obtain ⟨o',e1⟩:=I.base.there b o e hx
   exact ⟨o',(hs.2 b (Pk (PN (OW e) (I.ok.cab x c hfn hc)))).trans e1⟩
  ·by_cases hj:j=i
   ·subst hj
    rw [hi] at e1; cases e1
    rw [Qf hiσ] at e2
    cases e2
    exact ⟨u,r,.inr ⟨.inl hk,c,hc,hc'⟩⟩
   ·rw [Qh (Pf hj)] at e2
    obtain ⟨u',r',q⟩:=hl j y v' e1 e2 e3
    refine ⟨u',r',?_⟩
    rcases q with q | ⟨k,c',e,z'⟩
    ·exact .inl q
    ·refine .inr ⟨k,c',e,z'.sameBut hs ?_⟩
     rintro rfl
     exact hj (qA hN e1 (I.ok.inj _ _ _ e hc ▸ hi))
  ·by_cases hcc:c'=c
   ·subst hcc; exact ⟨_,hc'⟩
   ·obtain ⟨w2,z2⟩:=I.cell y c' e
    exact ⟨w2,z2.sameBut hs hcc⟩
  ·obtain ⟨e,n,ne,nf,d⟩:=I.pin p hp
   refine ⟨(hs.2 p.1 ?_).trans e,n,ne,nf,d⟩
   intro q
   rw [q,hoc] at e
   have q':oc=p.2:=Qw e
   exact d w' (by rw [← q']; exact hocd)
theorem kW (I:Inv X aa σ H s) (hN:X.N.Nodup) (hi:X.N[i]?=some x) (hx:Loc X.env.scope x) (r:RelV v u)
 (h:∀ s',Inv X aa (σ.set i (some v)) H s'→Q () s') (hf:X.fn x=true∨X.env.scope.names.lookup x=some .local:=by first | exact .inl rfl | exact .inr rfl | assumption):wpAny M A (storeName X.env x u) Q E s :=
 xU I hN hi hx r (fun s' I' _=>h s' I') hf
theorem Inv.KU (I:Inv X aa σ H s) (ho:s'.os=s.os) (u:Un (frs X.stack) ch H H' s.heap s'.heap) (hok:jC X.prog X.w H' s'.heap) (hg:AllBare s'.gens)
 (hch:∀ b∈ch,(b∈X.ex∨X.s₀.heap.objs.size≤b)∧b≠X.env.locals∧(∀ x c,X.env.cells.lookup x=some c→c≠b)∧∀ p∈X.pn++aa,p.1≠b):Inv X aa σ H' s':=by
 obtain ⟨h',g',d',t',o'⟩:=s'
 have e:o'=s.os:=ho
 subst e
 exact I.call (g':=g') (t':=t') (d':=d') u hok hg hch
end
noncomputable abbrev XK:=Value→Option Addr→Hp→Prop
noncomputable abbrev St:=List (Option V)
noncomputable abbrev VK:=V→Hp→Prop
noncomputable abbrev TE:=St→Hp→VK→Prop
noncomputable abbrev TT:=St→Hp→(Bool→Hp→Prop)→Prop
noncomputable abbrev TA:=St→Hp→(List V→Hp→Prop)→Prop
structure Ends where
 nx:St→Hp→Prop
 rt:VK
 bk:St→Hp→Prop:=fun _ _=>False
 ct:St→Hp→Prop:=fun _ _=>False
noncomputable abbrev TS:=Ends→St→Hp→Prop
noncomputable def EP (X:Cx) (aa:List (Addr×Obj)) (σ:St) (Q:VK) (u:Value) (s':Shared):Prop:=∃ v H',Inv X aa σ H' s'∧RelV v u∧Q v H'
noncomputable def TP (X:Cx) (aa:List (Addr×Obj)) (σ:St) (Q:Bool→Hp→Prop) (b:Bool) (s':Shared):Prop:=∃ H',Inv X aa σ H' s'∧Q b H'
noncomputable def AP (X:Cx) (aa:List (Addr×Obj)) (σ:St) (Q:List V→Hp→Prop) (us:List Value) (s':Shared):Prop:=∃ vs H',Inv X aa σ H' s'∧Vals vs us∧Q vs H'
noncomputable def SP (X:Cx) (aa:List (Addr×Obj)) (D:Ends) (f:Flow) (s':Shared):Prop :=
 match f with
 | .next=>∃ σ' H',Inv X aa σ' H' s'∧D.nx σ' H'
 | .brk=>∃ σ' H',Inv X aa σ' H' s'∧D.bk σ' H'
 | .cont=>∃ σ' H',Inv X aa σ' H' s'∧D.ct σ' H'
 | .ret u=>∃ v σ' H',Inv X aa σ' H' s'∧RelV v u∧D.rt v H'
noncomputable def PE (X:Cx) (e:Expr) (t:TE):Prop :=
 ∀ (aa:List (Addr×Obj)) (s:Shared) (σ:St) (H:Hp) (Q:VK),Inv X aa σ H s→t σ H Q→wpAny (model X.prog X.w) X.A (eval e X.env) (EP X aa σ Q) X.xe s
noncomputable def PT (X:Cx) (e:Expr) (t:TT):Prop :=
 ∀ (aa:List (Addr×Obj)) (s:Shared) (σ:St) (H:Hp) (Q:Bool→Hp→Prop),Inv X aa σ H s→t σ H Q→wpAny (model X.prog X.w) X.A (isTrue e X.env (eval e X.env)) (TP X aa σ Q) X.xe s
noncomputable def PW (X:Cx) (e:Expr) (t:TT):Prop :=
 ∀ (whole:Sem Value) (aa:List (Addr×Obj)) (s:Shared) (σ:St) (H:Hp) (Q:Bool→Hp→Prop),Inv X aa σ H s→t σ H Q→wpAny (model X.prog X.w) X.A (isTrue e X.env whole) (TP X aa σ Q) X.xe s
noncomputable def PA (X:Cx) (es:List Expr) (t:TA):Prop :=
 ∀ (pos:Pos) (aa:List (Addr×Obj)) (s:Shared) (σ:St) (H:Hp) (Q:List V→Hp→Prop),Inv X aa σ H s→t σ H Q→wpAny (model X.prog X.w) X.A (spliced (backTo pos (starEach es X.env))) (AP X aa σ Q) X.xe s
noncomputable def PS (X:Cx) (st:Stmt) (t:TS):Prop :=
 ∀ (aa:List (Addr×Obj)) (s:Shared) (σ:St) (H:Hp) (D:Ends),Inv X aa σ H s→t D σ H→wpAny (model X.prog X.w) X.A (exec st X.env) (SP X aa D) X.xe s
noncomputable def tV (X:Cx) (st:List Stmt) (t:TS):Prop :=
 ∀ (aa:List (Addr×Obj)) (s:Shared) (σ:St) (H:Hp) (D:Ends),Inv X aa σ H s→t D σ H→wpAny (model X.prog X.w) X.A (execs st X.env) (SP X aa D) X.xe s
theorem bJ (h:wpAny M A t Q E s) (hQ:∀ a s,Q a s→Q' a s):wpAny M A t Q' E s:=PD h hQ fun _ _ x=>x
section
noncomputable def KW (i:Nat):TE:=fun σ H Q=>∃ v,σ[i]?=some (some v)∧Q v H
noncomputable def tC (v:V):TE:=fun _ H Q=>Q v H
theorem tY (hN:X.N[i]?=some x) (hv:Ng X.env.scope x) (hd:(x == ("__debug__":Str))=false:=by decide) (hcd:(x == ("__classdict__":Str))=false:=by decide):PE X (.Name x pos) (KW i):=by
 intro aa s σ H Q I h
 obtain ⟨v,e,h⟩:=h
 obtain ⟨m,hn,hl⟩:=I.loc
 obtain ⟨u,r,l⟩:=hl i x v hN e hv
 have fin:EP X aa σ Q u s:=⟨v,H,I,r,h⟩
 rcases l with ⟨hk,hm⟩ | ⟨hk,c,hc,hcell⟩
 ·exact wpAny_Name (wpAny_loadName_local I.ok.kind hk hn hm fin) hd
 ·rcases hk with hk | hk
  ·exact wpAny_Name (wpAny_loadName_cell I.ok.kind hk hc hcell fin) hd
  ·exact wpAny_Name (wpAny_loadName_free I.ok.kind hk hc hcell fin hcd) hd
theorem zP {i j pos}:PE X (.Constant (.int i) j pos) (tC (.int i)):=fun _ _ _ H _ I h=>wpAny_Constant_int ⟨.int i,H,I.tok _,⟨_,rfl⟩,h⟩
theorem Gz {b j pos}:PE X (.Constant (.bool b) j pos) (tC (.bl b)):=fun _ _ _ H _ I h=>Constant_bool ⟨.bl b,H,I,rfl,h⟩
noncomputable def Gl (X:Cx) (x:Str):Prop:=X.env.kindOf x=some .globalImplicit
theorem iZ (I:Inv X aa σ H s) (hg:Gl X x) (hm:X.mg x=some u) (h:Q u s)
 (hd:(x == ("__debug__":Str))=false:=by decide):wpAny (model X.prog X.w) X.A (eval (.Name x pos) X.env) Q E s :=
 Calls.Name_function_global I.ok.kind hg (Calls.loadGlobal_global (by rw [I.ok.glob]; exact I.mod.glob.keeps I.bk) hm h) hd
theorem dI (I:Inv X aa σ H s) (hg:Gl X x) (hm:X.mg x=none) (hv:bootBuiltins x=some u) (h:Q u s)
 (hn:x≠"__name__":=by decide) (hd:(x == ("__debug__":Str))=false:=by decide):wpAny (model X.prog X.w) X.A (eval (.Name x pos) X.env) Q E s:=by
 obtain ⟨mb,h1,h2⟩:=I.mod.blt
 exact Calls.Name_function_global I.ok.kind hg (Calls.loadGlobal_builtin (by rw [I.ok.glob]; exact I.mod.glob.keeps I.bk) hm (by rw [I.ok.blt]; exact h1.keeps I.bk) ((h2 x hn).trans hv) h) hd
theorem vI (hg:Gl X x) (hm:X.mg x=some u) (r:RelV v u) (hd:(x == ("__debug__":Str))=false:=by decide):PE X (.Name x pos) (tC v) :=
 fun _ _ _ H _ I h=>iZ I hg hm ⟨v,H,I,r,h⟩ hd
noncomputable def PC (X:Cx) (op:CmpOp) (a b:Expr) (t:TE):Prop :=
 ∀ (aa:List (Addr×Obj)) (s:Shared) (σ:St) (H:Hp) (Q:VK),Inv X aa σ H s→t σ H Q →
  wpAny (model X.prog X.w) X.A (eval a X.env) (fun v s₁=>wpAny (model X.prog X.w) X.A (eval b X.env) (fun u s₂=>wpAny (model X.prog X.w) X.A (compareOp op v u) (EP X aa σ Q) X.xe s₂) X.xe s₁) X.xe s
noncomputable def tB (t:TE):TT:=fun σ H Q=>t σ H fun x H1=>∃ c,x=.bl c∧Q c H1
theorem Hy (h:PC X op a b t) (h1:behindInMarks op b=false:=by first | exact nobehind _ (by decide) (by decide) | rfl):PT X (.Compare a [op] [b] pos) (tB t):=by
 intro aa s σ H Q I hw
 refine wpAny_isTrue_Compare1 (bJ (h aa s σ H _ I hw) fun v s1 h1=>bJ h1 fun u s2 h2=>bJ h2 fun c s3 ⟨x,H1,I1,r1,q1⟩=>?_) h1
 obtain ⟨d,rfl,q⟩:=q1
 cases r1
 exact Tr ⟨H1,I1,q⟩
theorem Hz (h:PE X e t) (he:∀ whole,isTrue e X.env whole=(do let v ← whole; standAt e.pos; holding [v] (truthy v)):=by intro _; rfl):PT X e (tB t):=by
 intro aa s σ H Q I hw
 refine isTrue_plain (bJ (h aa s σ H _ I hw) fun v s1 ⟨x,H1,I1,r1,q1⟩=>?_) (he _)
 obtain ⟨d,rfl,q⟩:=q1
 cases r1
 exact Tr ⟨H1,I1,q⟩
variable {rest:List Expr}
noncomputable def Ni (t u:TT):TT:=fun σ H Q=>t σ H fun c H1=>if c=true then u σ H1 Q else Q false H1
noncomputable def Ov (t u:TT):TT:=fun σ H Q=>t σ H fun c H1=>if c=true then Q true H1 else u σ H1 Q
noncomputable def Nj (t:TT):TT:=fun σ H Q=>t σ H fun c H1=>Q (!c) H1
theorem pw_and1 (ha:PT X a tA):PW X (.BoolOp .And [a] pos) tA:=by
 intro wh aa s σ H Q I h
 refine isTrue_and (bJ (ha aa s σ H Q I h) fun c s1 e=>?_)
 cases c with
 | true=>exact isTrue_and_nil e
 | false=>exact e
theorem pw_or1 (ha:PT X a tA):PW X (.BoolOp .Or [a] pos) tA:=by
 intro wh aa s σ H Q I h
 refine isTrue_or (bJ (ha aa s σ H Q I h) fun c s1 e=>?_)
 cases c with
 | false=>exact isTrue_or_nil e
 | true=>exact e
theorem pw_and (ha:PT X a tA) (hb:PW X (.BoolOp .And (b::rest) pos) tB'):PW X (.BoolOp .And (a::b::rest) pos) (Ni tA tB'):=by
 intro wh aa s σ H Q I h
 refine isTrue_and (bJ (ha aa s σ H _ I h) fun c s1 ⟨H1,I1,q1⟩=>?_)
 cases c with
 | true=>exact hb wh aa s1 σ H1 Q I1 q1
 | false=>exact ⟨H1,I1,q1⟩
theorem pw_or (ha:PT X a tA) (hb:PW X (.BoolOp .Or (b::rest) pos) tB'):PW X (.BoolOp .Or (a::b::rest) pos) (Ov tA tB'):=by
 intro wh aa s σ H Q I h
 refine isTrue_or (bJ (ha aa s σ H _ I h) fun c s1 ⟨H1,I1,q1⟩=>?_)
 cases c with
 | true=>exact ⟨H1,I1,q1⟩
 | false=>exact hb wh aa s1 σ H1 Q I1 q1
theorem HA (ha:PT X a tA):PT X (.UnaryOp .Not a pos) (Nj tA):=by
 intro aa s σ H Q I h
 exact isTrue_not (ha aa s σ H (fun c H1=>Q (!c) H1) I h)
noncomputable def Ow (t:TT) (ta tb:TE):TE:=fun σ H Q=>t σ H fun c H1=>if c=true then ta σ H1 Q else tb σ H1 Q
theorem zQ (hc:PT X c tA) (ha:PE X a ta) (hb:PE X b tb):PE X (.IfExp c a b pos) (Ow tA ta tb):=by
 intro aa s σ H Q I h
 refine wpAny_IfExp (bJ (hc aa s σ H _ I h) fun d s1 ⟨H1,I1,q1⟩=>?_)
 cases d with
 | true=>exact ha aa s1 σ H1 Q I1 q1
 | false=>exact hb aa s1 σ H1 Q I1 q1
end
noncomputable def gX (K:ON) (H:Hp) (a:Addr) (xs:List V):Prop :=
 Rd H a (.lst xs) ∨
  ∃ (o:Obj) (its:Array Value) (n:Nat),K.lookup a=some o∧o.cls=.type "list"∧o.dict=none∧o.data=.seq its n∧its.size≤sizeLine∧Vals xs its.toList
noncomputable def c8 (K:ON) (H:Hp) (a:Addr) (xs:List V):Prop :=
 Rd H a (.tup xs) ∨
  ∃ (o:Obj) (its:Array Value) (n:Nat),K.lookup a=some o∧o.cls=.type "tuple"∧o.data=.seq its n∧its.size≤sizeLine∧Vals xs its.toList
noncomputable def Nk:Value→Option V
 | .none=>some .non
 | .bool b=>some (.bl b)
 | .int i _=>some (.int i)
 | .str x _=>some (.str x)
 | .bytes b _=>some (.byt b)
 | .float b _=>some (.flt b)
 | .ref a=>some (.ref a)
 | .type n=>some (.ty n)
 | _=>none
theorem RelV.abs (r:RelV x u):Nk u=some x:=by
 cases x with
 | non=>cases r; rfl
 | bl _=>cases r; rfl
 | int _=>obtain ⟨t,rfl⟩:=r; rfl
 | str _=>obtain ⟨t,rfl⟩:=r; rfl
 | byt _=>obtain ⟨t,rfl⟩:=r; rfl
 | flt _=>obtain ⟨t,rfl⟩:=r; rfl
 | ref _=>cases r; rfl
 | ty _=>cases r; rfl
theorem RelV.inj (r:RelV x u) (q:RelV y u):x=y:=Qw (r.abs.symm.trans q.abs)
theorem Vals.inj:∀ {xs ys:List V} {us:List Value},Vals xs us→Vals ys us→xs=ys
 | _,_,_,.nil,.nil=>rfl
 | _,_,_,.cons r t,.cons r' t'=>by rw [r.inj r',Vals.inj t t']
section
theorem Inv.list (I:Inv X aa σ H s) (h:gX X.K H a xs):∃ its:List Value,Vals xs its∧PlainL s.heap a its.toArray∧xs.length≤sizeLine:=by
 rcases h with h | ⟨o,its,n,hk,hc,hd,hs,hz,r⟩
 ·obtain ⟨z,its,n,r,e⟩:=h.ok I.hok
  exact ⟨its,r,⟨_,n,e,rfl,rfl,rfl⟩,z⟩
 ·refine ⟨its.toList,r,⟨o,n,I.oU a o hk,hc,hd,by simpa using hs⟩,?_⟩
  have e:=r.length
  simp only [PM] at e
  lia
theorem Inv.tuple (I:Inv X aa σ H s) (h:c8 X.K H a xs):∃ its:List Value,Vals xs its∧IsTup s.heap a its.toArray∧xs.length≤sizeLine:=by
 rcases h with h | ⟨o,its,n,hk,hc,hs,hz,r⟩
 ·obtain ⟨z,its,r,p⟩:=h.ok I.hok
  exact ⟨its,r,p,z⟩
 ·refine ⟨its.toList,r,⟨o,I.oU a o hk,hc,n,by simpa using hs⟩,?_⟩
  have e:=r.length
  simp only [PM] at e
  lia
theorem Inv.qB (I:Inv X aa σ H s) (h:gX X.K H a xs) (h':gX X.K H a ys):xs=ys:=by
 obtain ⟨its,r,⟨o,n,e,_,_,d⟩,_⟩:=I.list h
 obtain ⟨its',r',⟨o',n',e',_,_,d'⟩,_⟩:=I.list h'
 rw [e] at e'; cases e'
 rw [d] at d'
 injection d' with d1 _
 have:its=its':=by simpa using congrArg Array.toList d1
 subst this
 exact r.inj r'
theorem Inv.jE (I:Inv X aa σ H s) (h:c8 X.K H a xs) (h':c8 X.K H a ys):xs=ys:=by
 obtain ⟨its,r,⟨o,e,_,n,d⟩,_⟩:=I.tuple h
 obtain ⟨its',r',⟨o',e',_,n',d'⟩,_⟩:=I.tuple h'
 rw [e] at e'; cases e'
 rw [d] at d'
 injection d' with d1 _
 have:its=its':=by simpa using congrArg Array.toList d1
 subst this
 exact r.inj r'
end
noncomputable abbrev Cx.mS (X:Cx) (E:Value→Shared→Prop):Cx:={ X with xe:=E }
noncomputable abbrev Cx.GA (X:Cx):Cx:=X.mS fun _ _=>False
theorem Cx.Ok.mS {X:Cx} (ok:X.Ok) (E):(X.mS E).Ok :=
 ⟨ok.mod,ok.kind,ok.glob,ok.blt,ok.above,ok.inj,ok.has,ok.cab,ok.hd,ok.frames,ok.stk,ok.exf,ok.bs,ok.bsz,ok.noex,ok.exfs,ok.jD,ok.frf⟩
theorem Cx.Ok.gc {X:Cx} (ok:(X.mS E).Ok):X.Ok :=
 ⟨ok.mod,ok.kind,ok.glob,ok.blt,ok.above,ok.inj,ok.has,ok.cab,ok.hd,ok.frames,ok.stk,ok.exf,ok.bs,ok.bsz,ok.noex,ok.exfs,ok.jD,ok.frf⟩
section
theorem Inv.mS (I:Inv X aa σ H s) (E):Inv (X.mS E) aa σ H s:=⟨I.ok.mS E,I.os,I.bare,I.base,I.loc,I.cell,I.free,I.freeC,I.pin,I.hok,I.len⟩
theorem Inv.gc (I:Inv (X.mS E) aa σ H s):Inv X aa σ H s:=⟨I.ok.gc,I.os,I.bare,I.base,I.loc,I.cell,I.free,I.freeC,I.pin,I.hok,I.len⟩
theorem SP.gc (h:SP (X.mS E) aa D f s'):SP X aa D f s':=by
 cases f with
 | next=>obtain ⟨σ',H',I,q⟩:=h; exact ⟨σ',H',I.gc,q⟩
 | brk=>obtain ⟨σ',H',I,q⟩:=h; exact ⟨σ',H',I.gc,q⟩
 | cont=>obtain ⟨σ',H',I,q⟩:=h; exact ⟨σ',H',I.gc,q⟩
 | ret u=>obtain ⟨v,σ',H',I,r,q⟩:=h; exact ⟨v,σ',H',I.gc,r,q⟩
theorem tV.GA {st:List Stmt} (h:tV X.GA st t):tV X st t:=fun aa s σ H D I hw =>
 PD (h aa s σ H D (I.mS _) hw) (fun _ _ q=>q.gc) fun _ _ z=>PZ z
end
section
variable {st:Stmt} {rest:List Stmt}
noncomputable def KY:TS:=fun D σ H=>D.nx σ H
noncomputable def Nl (t u:TS):TS:=fun D σ H=>t { D with nx:=u D } σ H
theorem Ea:tV X [] KY:=fun _ _ σ H _ I h=>wpAny_execs_nil ⟨σ,H,I,h⟩
theorem zR (h1:PS X st t) (h2:tV X rest u):tV X (st::rest) (Nl t u):=by
 intro aa s σ H D I h
 refine wpAny_execs_cons (bJ (h1 aa s σ H { D with nx:=u D } I h) fun f s1 q=>?_)
 cases f with
 | next =>
  obtain ⟨σ',H',I',q⟩:=q
  exact h2 aa s1 σ' H' D I' q
 | ret v=>exact q
 | brk=>exact q
 | cont=>exact q
theorem Inv.quiet (I:Inv X aa σ H s):interactive X.env=false:=by simp [interactive,I.ok.kind]
noncomputable def KZ (te:TE):TS:=fun D σ H=>te σ H fun _ H1=>D.nx σ H1
theorem kD (he:PE X e te) (hs:swapsWith e none pos.line X.env=pure false:=by rfl):PS X (.Expr e pos) (KZ te):=by
 intro aa s σ H D I h
 exact wpAny_Expr_any (bJ (he aa s σ H _ I h) fun v s1 ⟨x,H1,I1,r1,q1⟩=>⟨σ,H1,I1,q1⟩) I.quiet hs
noncomputable def Nm (te:TE):TS:=fun D σ H=>te σ H D.rt
theorem zS (he:PE X e te):PS X (.Return (some e) pos) (Nm te):=by
 intro aa s σ H D I h
 exact wpAny_Return_some (bJ (he aa s σ H _ I h) fun v s1 ⟨x,H1,I1,r1,q1⟩=>⟨x,σ,H1,I1,r1,q1⟩)
noncomputable def Nn (c:TT) (t u:TS):TS:=fun D σ H=>c σ H fun b H1=>if b=true then t D σ H1 else u D σ H1
theorem K0 (hc:PT X c tc) (ha:tV X a t) (hb:tV X b u):PS X (.If c a b pos) (Nn tc t u):=by
 intro aa s σ H D I h
 refine wpAny_If (bJ (hc aa s σ H _ I h) fun d s1 ⟨H1,I1,q1⟩=>?_)
 cases d with
 | true=>exact ha aa s1 σ H1 D I1 q1
 | false=>exact hb aa s1 σ H1 D I1 q1
end
noncomputable abbrev TG:=V→St→Hp→(St→Hp→Prop)→Prop
noncomputable abbrev K1:=List V→St→Hp→(St→Hp→Prop)→Prop
noncomputable def PG (X:Cx) (target:Expr) (t:TG):Prop :=
 ∀ (aa:List (Addr×Obj)) (s:Shared) (σ:St) (H:Hp) (v:V) (u:Value) (Q:St→Hp→Prop),Inv X aa σ H s→RelV v u→t v σ H Q →
  wpAny (model X.prog X.w) X.A (assign target X.env u) (fun _ s'=>∃ σ' H',Inv X aa σ' H' s'∧Q σ' H') X.xe s
noncomputable def KC (X:Cx) (ts:List Expr) (t:K1):Prop :=
 ∀ (aa:List (Addr×Obj)) (s:Shared) (σ:St) (H:Hp) (vs:List V) (us:List Value) (Q:St→Hp→Prop),Inv X aa σ H s→Vals vs us→t vs σ H Q →
  wpAny (model X.prog X.w) X.A (assignInOrder ((assignEach ts X.env).map (·.2)) us) (fun _ s'=>∃ σ' H',Inv X aa σ' H' s'∧Q σ' H') X.xe s
noncomputable abbrev HB:=V→V→V→Hp→(Hp→Prop)→Prop
noncomputable def K2 (X:Cx) (t:HB):Prop :=
 ∀ (aa:List (Addr×Obj)) (s:Shared) (σ:St) (H:Hp) (o i v:V) (ov iv u:Value) (Q:Hp→Prop),Inv X aa σ H s→RelV o ov→RelV i iv→RelV v u→t o i v H Q →
  wpAny (model X.prog X.w) X.A (setItem ov iv u) (fun _ s'=>∃ H',Inv X aa σ H' s'∧Q H') X.xe s
noncomputable abbrev Og:=V→V→Hp→VK→Prop
noncomputable def Oh (X:Cx) (op:Operator) (t:Og):Prop :=
 ∀ (aa:List (Addr×Obj)) (s:Shared) (σ:St) (H:Hp) (x y:V) (v u:Value) (Q:VK),Inv X aa σ H s→RelV x v→RelV y u→t x y H Q →
  wpAny (model X.prog X.w) X.A (inplaceOp op v u) (EP X aa σ Q) X.xe s
section
noncomputable def GB (i:Nat):TG:=fun v σ H Q=>Q (σ.set i (some v)) H
theorem vJ (hN:X.N.Nodup) (hi:X.N[i]?=some x) (hx:Loc X.env.scope x) (hf:X.fn x=true∨X.env.scope.names.lookup x=some .local:=by first | exact .inl rfl | exact .inr rfl | assumption):PG X (.Name x pos) (GB i):=by
 intro aa s σ H v u Q I r h
 exact wpAny_assign_Name (kW I hN hi hx r (fun s' I'=>⟨_,H,I',h⟩) hf)
noncomputable def Np:K1:=fun vs σ H Q=>vs=[]∧Q σ H
noncomputable def K3 (t:TG) (u:K1):K1:=fun vs σ H Q=>∃ v r,vs=v::r∧t v σ H fun σ' H'=>u r σ' H' Q
theorem Eb:KC X [] Np:=by
 intro aa s σ H vs us Q I r h
 obtain ⟨e,h⟩:=h
 subst e
 cases r
 exact assignInOrder_nil ⟨σ,H,I,h⟩
theorem zT (h1:PG X e t) (h2:KC X es u)
 (hs:(assignEach (e::es) X.env).map (·.2)=assign e X.env::(assignEach es X.env).map (·.2):=by rfl):KC X (e::es) (K3 t u):=by
 intro aa s σ H vs us Q I r h
 obtain ⟨v,vr,e1,h⟩:=h
 subst e1
 cases r with
 | cons r rr =>
  rw [hs]
  refine assignInOrder_cons (bJ (h1 aa s σ H _ _ _ I r h) fun _ s1 ⟨σ1,H1,I1,q1⟩=>?_)
  exact h2 aa s1 σ1 H1 _ _ Q I1 rr q1
noncomputable def Nq (K:ON) (n:Nat) (t:K1):TG:=fun v σ H Q=>∃ a xs,v=.ref a∧c8 K H a xs∧xs.length=n∧t xs σ H Q
theorem HC (hc:X.calm=true) (h:KC X es t)
 (hn:(assignEach es X.env).length=n:=by rfl) (hst:(assignEach es X.env).findIdx? (·.1)=none:=by rfl):PG X (.Tuple es k pos) (Nq X.K n t):=by
 intro aa s σ H v u Q I r hw
 obtain ⟨a,xs,e1,hq,hl,hw⟩:=hw
 subst e1
 cases r
 obtain ⟨its,rv,ht,hz⟩:=I.tuple hq
 refine assign_Tuple_tuple (I.ok.hd hc) ht (by simp [hn,← hl,rv.length]) hst fun h' hx=>?_
 have I1:Inv X aa σ H { s with heap:=h' }:=I.kept (t':=s.toks) fun b o e=>hx b o (Pk (OW e)) e
 exact h aa _ σ H xs _ Q I1 (by simpa using rv) hw
noncomputable def Nr (to ti:TE) (t:HB):TG:=fun v σ H Q=>to σ H fun o H1=>ti σ H1 fun i H2=>t o i v H2 fun H3=>Q σ H3
theorem HD (ho:PE X o to) (hi:PE X i ti) (hs:K2 X t)
 (ha:∀ v,assign (.Subscript o i pos) X.env v=(do
   let ov ← holding [v] (eval o X.env)
   let iv ← holding [v,ov] (eval i X.env)
   standAt pos
   holding [v,ov,iv] (setItem ov iv v)
   release [v,ov,iv] []):=by intro _; rfl):PG X (.Subscript o i pos) (Nr to ti t):=by
 intro aa s σ H v u Q I r h
 rw [ha]
 refine OM (Qa (bJ (ho aa s σ H _ I h) fun ov s1 ⟨x,H1,I1,r1,q1⟩=>?_))
 refine OM (Qa (bJ (hi aa s1 σ H1 _ I1 q1) fun iv s2 ⟨y,H2,I2,r2,q2⟩=>?_))
 refine OM (wpAny_standAt (OM (Qa (bJ (hs aa s2 σ H2 x y v ov iv u _ I2 r1 r2 r q2) fun _ s3 ⟨H3,I3,q3⟩=>?_))))
 exact wpAny_release ⟨σ,H3,I3,q3⟩
noncomputable def K4 (te:TE) (g:TG):TS:=fun D σ H=>te σ H fun x H1=>g x σ H1 D.nx
theorem zU (he:PE X e te) (hg:PG X tg g) (hs:swapsWithSole [tg] e pos.line X.env=pure false:=by rfl) (hw:swappedStores [tg] e X.env=pure none:=by rfl)
 (h1:(assignEach [tg] X.env).map (·.2)=[assign tg X.env]:=by rfl):PS X (.Assign [tg] e pos) (K4 te g):=by
 intro aa s σ H D I h
 refine wpAny_Assign_stores (bJ (he aa s σ H _ I h) fun v s1 ⟨x,H1,I1,r1,q1⟩=>?_) hs hw
 rw [h1]
 exact bJ (hg aa s1 σ H1 x v _ I1 r1 q1) fun _ s2 q=>q
theorem zV (hN:X.N.Nodup) (hi:X.N[i]?=some x) (hx:Loc X.env.scope x) (he:PE X e te) (hs:swapsWith e (some (.Name x pos')) pos.line X.env=pure false:=by rfl) (hf:X.fn x=true∨X.env.scope.names.lookup x=some .local:=by first | exact .inl rfl | exact .inr rfl | assumption) :
 PS X (.Assign [.Name x pos'] e pos) (K4 te (GB i)):=by
 intro aa s σ H D I h
 refine wpAny_Assign_Name (bJ (he aa s σ H _ I h) fun v s1 ⟨y,H1,I1,r1,q1⟩=>?_) hs
 exact kW I1 hN hi hx r1 (fun s2 I2=>⟨_,H1,I2,q1⟩) hf
noncomputable def Nt (i:Nat) (te:TE) (ti:Og):TS:=fun D σ H=>∃ x,σ[i]?=some (some x)∧te σ H fun y H1=>ti x y H1 fun z H2=>D.nx (σ.set i (some z)) H2
theorem HE (hN:X.N.Nodup) (hi:X.N[i]?=some x) (hx:Loc X.env.scope x) (he:PE X e te) (ho:Oh X op ti) (hf:X.fn x=true∨X.env.scope.names.lookup x=some .local:=by first | exact .inl rfl | exact .inr rfl | assumption) :
 PS X (.AugAssign (.Name x pos') op e pos) (Nt i te ti):=by
 intro aa s σ H D I h
 obtain ⟨v,e1,h⟩:=h
 obtain ⟨m,hn,hl⟩:=I.loc
 have vis:Ng X.env.scope x:=by rcases hx with k | k; exact .inl k; exact .inr (.inl k)
 obtain ⟨u,r,l⟩:=hl i x v hi e1 vis
 refine wpAny_AugAssign_Name ?_
 have go:wpAny (model X.prog X.w) X.A (eval e X.env) (fun w s₂=>wpAny (model X.prog X.w) X.A (inplaceOp op u w) (fun r s₃=>wpAny (model X.prog X.w) X.A (storeName X.env x r) (fun _=>SP X aa D .next) X.xe s₃) X.xe s₂) X.xe s:=by
  refine bJ (he aa s σ H _ I h) fun w s1 ⟨y,H1,I1,r1,q1⟩=>?_
  refine bJ (ho aa s1 σ H1 v y u w _ I1 r r1 q1) fun z s2 ⟨zv,H2,I2,r2,q2⟩=>?_
  exact kW I2 hN hi hx r2 (fun s3 I3=>⟨_,H2,I3,q2⟩) hf
 rcases l with ⟨hk,hm⟩ | ⟨hk,c,hc,hcell⟩
 ·exact wpAny_loadName_local I.ok.kind hk hn hm go
 ·rcases hk with hk | hk
  ·exact wpAny_loadName_cell I.ok.kind hk hc hcell go
  ·rcases hx with k | k
   ·have:X.env.scope.names.lookup x=some .free:=hk
    rw [k] at this; cases this
   ·have:X.env.scope.names.lookup x=some .free:=hk
    rw [k] at this; cases this
noncomputable def HF (c:TT) (tb:TS):TS:=fun D σ H=>∃ W:Nat→St→Hp→Prop,(∃ m,W m σ H)∧∀ m σ H,W m σ H →
 c σ H fun b H1=>if b=true then ∃ N:St→Hp→Prop,(∀ σ' H',N σ' H'→∃ m',m'<m∧W m' σ' H')∧tb { D with nx:=N,ct:=N,bk:=D.nx } σ H1 else D.nx σ H1
theorem zW (hp:PassesOwn (model X.prog X.w) X.A X.env X.xe) (hc:PT X c tc) (hb:tV X body tb):PS X (.While c body [] pos) (HF tc tb):=by
 intro aa s σ H D I h
 obtain ⟨W,⟨m0,w0⟩,turn⟩:=h
 refine wpAny_While (codeAny_whileLoop (fun n s'=>∃ σ' H',Inv X aa σ' H' s'∧W n σ' H') ?_ m0 ⟨σ,H,I,w0⟩)
 rintro n s1 ⟨σ1,H1,I1,w1⟩
 refine Rp hp (bJ (hc aa s1 σ1 H1 _ I1 (turn n σ1 H1 w1)) fun b s2 ⟨H2,I2,q2⟩=>?_)
 cases b with
 | true =>
  obtain ⟨N,hN,q2⟩:=q2
  rw [if_pos rfl]
  refine Rp hp (bJ (hb aa s2 σ1 H2 _ I2 q2) fun f s3 q3=>?_)
  cases f with
  | next =>
   obtain ⟨σ3,H3,I3,n3⟩:=q3
   obtain ⟨m',hm,w3⟩:=hN σ3 H3 n3
   exact ⟨m',hm,σ3,H3,I3,w3⟩
  | cont =>
   obtain ⟨σ3,H3,I3,n3⟩:=q3
   obtain ⟨m',hm,w3⟩:=hN σ3 H3 n3
   exact ⟨m',hm,σ3,H3,I3,w3⟩
  | brk=>exact q3
  | ret v=>exact q3
 | false =>
  rw [if_neg O0]
  exact wpAny_execs_nil ⟨σ1,H2,I2,q2⟩
end
structure It where
 go:Nat→Hp→Prop
 yld:Nat→Hp→V→Hp→Prop
 stop:Nat→Hp→Prop
noncomputable def gh (X:Cx) (aa:List (Addr×Obj)) (H:Hp) (b:Addr):Prop :=
 H b=none∧b≠X.env.locals∧b∉X.fs∧(b∈X.ex∨X.s₀.heap.objs.size≤b)∧(∀ x c,X.env.cells.lookup x=some c→c≠b)∧∀ p∈X.pn++aa,p.1≠b
theorem Inv.mT (I:Inv X aa σ H s) (hb:s.heap.objs.size≤b) (hn:H' b=none):gh X aa H' b:=by
 refine ⟨hn,RZ (PN I.lt hb),I.KS hb,.inr (OV I.sz hb),fun x c e z=>?_,fun p hp z=>?_⟩
 ·obtain ⟨v,q⟩:=I.cell x c e
  exact absurd (PN q.lt (by rw [z]; exact hb)) (Qy _)
 ·exact absurd (PN (OW (I.pin p hp).1) (by rw [z]; exact hb)) (Qy _)
structure Turn (P:Program) (w:World) (K:ON) (tg:Expr) (J:It) (fp:List Addr) (it:Addr) (tn:Nat→Heap→Prop):Prop where
 mem:it∈fp
 obj:∀ i h,tn i h→∀ b∈fp,∃ o,h.get? b=some o∧∀ v,o.data≠.cell v
 keep:∀ i h h',tn i h→(∀ b∈fp,∀ o,h.get? b=some o→h'.get? b=some o)→tn i h'
 item:∀ (X:Cx),X.prog=P→X.w=w→X.K=K→X.calm=true→∀ (i:Nat) (aa:List (Addr×Obj)) (s:Shared) (σ:St) (H:Hp) (E:Value→Shared→Prop),Inv X aa σ H s→(∀ b∈fp,gh X aa H b)→tn i s.heap→J.go i H →
  wpAny (model P w) X.A (pyNext (.ref it)) (fun r s1=>∃ u,r=some u ∧
   wpAny (model P w) X.A (letOwnedTupleGo tg (.ref it) u) (fun _ s2=>∃ x H',Inv X aa σ H' s2∧RelV x u∧J.yld i H x H'∧tn (i+1) s2.heap∧∀ b∈fp,H' b=none) E s1) E s
 done:∀ (X:Cx),X.prog=P→X.w=w→X.K=K→X.calm=true→∀ (i:Nat) (aa:List (Addr×Obj)) (s:Shared) (σ:St) (H:Hp) (E:Value→Shared→Prop),Inv X aa σ H s→(∀ b∈fp,gh X aa H b)→tn i s.heap→J.stop i H →
  wpAny (model P w) X.A (pyNext (.ref it)) (fun r s1=>r=none∧Inv X aa σ H s1) E s
 self:∀ (A:Around) (i:Nat) (s:Shared) (Q:Value→Shared→Prop) (E:Value→Shared→Prop),tn i s.heap→Q (.ref it) s→wpAny (model P w) A (pyIter (.ref it)) Q E s
noncomputable abbrev TI:=St→Hp→(It→Hp→Prop)→Prop
noncomputable def Nu (X:Cx) (aa:List (Addr×Obj)) (σ:St) (tg:Expr) (R:It→Hp→Prop) (itv:Value) (s2:Shared):Prop :=
 ∃ (it:Addr) (fp:List Addr) (tn:Nat→Heap→Prop) (J:It) (H':Hp),itv=.ref it∧Inv X aa σ H' s2∧Turn X.prog X.w X.K tg J fp it tn∧tn 0 s2.heap∧(∀ b∈fp,gh X aa H' b)∧R J H'
noncomputable def PI (X:Cx) (tg iter:Expr) (wi:TI):Prop :=
 ∀ (aa:List (Addr×Obj)) (s:Shared) (σ:St) (H:Hp) (R:It→Hp→Prop),Inv X aa σ H s→wi σ H R →
  wpAny (model X.prog X.w) X.A (eval iter X.env) (fun v s1=>wpAny (model X.prog X.w) X.A (pyIter v) (Nu X aa σ tg R) X.xe s1) X.xe s
theorem nE (ho:s.heap.get? it=some o) (hc:o.cls=.type n) (hd:o.data=.fields vs)
 (hn:["enumerate","zip","dict_itemiterator","dict_reverseitemiterator","odict_iterator","itertools.zip_longest","itertools.pairwise"].contains n=false) (hQ:Q () s):wpAny M A (letOwnedTupleGo tg (.ref it) u) Q E s:=by
 unfold letOwnedTupleGo
 cases tg <;> first
  | exact OO hQ
  | (cases u <;> first
      | exact OO hQ
      | (refine OM (wpAny_load ho ?_)
         rw [hc,hd]
         show wpAny M A (if (["enumerate","zip","dict_itemiterator","dict_reverseitemiterator","odict_iterator","itertools.zip_longest","itertools.pairwise"].contains n && vs[0]? == some (rawInt _))=true then _ else _) Q E s
         rw [if_neg (by intro h; rw [hn,Bool.false_and] at h; cases h)]
         exact OO hQ))
noncomputable def Nv (K:ON) (a:Addr):It :=
 ⟨fun i H=>∃ xs x,gX K H a xs∧xs[i]?=some x,fun i H x H'=>H'=H∧∀ xs,gX K H a xs→xs[i]?=some x,fun i H=>∃ xs,gX K H a xs∧xs.length≤i⟩
noncomputable def Ny (K:ON) (a:Addr):It :=
 ⟨fun i H=>∃ xs x,c8 K H a xs∧xs[i]?=some x,fun i H x H'=>H'=H∧∀ xs,c8 K H a xs→xs[i]?=some x,fun i H=>∃ xs,c8 K H a xs∧xs.length≤i⟩
noncomputable def M3 (lo:Int) (n:Nat):It:=⟨fun i _=>i<n,fun i H x H'=>H'=H∧x=.int (lo+i),fun i _=>n≤i⟩
theorem xV {P:Program} {w:World} {K:ON} {tg:Expr} (a it:Addr):Turn P w K tg (Nv K a) [it] it (fun i h=>h.IsListIter it a i) where
 mem:=by simp
 obj:=fun i h st b hb=>by
  have e:b=it:=by simpa using hb
  subst e
  obtain ⟨o,e,c,d⟩:=st
  exact ⟨o,e,fun v z=>by rw [d] at z; cases z⟩
 keep:=fun i h h' st k=>st.at fun o e=>k it (by simp) o e
 item:=by
  intro X hP hw hK hc i aa s σ H E I hf st hg
  subst hP hw hK
  obtain ⟨xs,x,hq,hx⟩:=hg
  obtain ⟨its,rv,p,hz⟩:=I.list hq
  obtain ⟨u,hu,ru⟩:=rv.get hx
  obtain ⟨f0,f1,f2,f3,f4,f5⟩:=hf it (by simp)
  refine wpAny_pyNext_list_item st p.isList (x:=u) (by simpa using hu) fun h' st' sb=>?_
  have I1:Inv X aa σ H { s with heap:=h' }:=I.turned (t':=s.toks) (fun b o hb e=>(sb.2 b hb).trans e) f0 f1 f3 f4 f5
  obtain ⟨o,e,c,d⟩:=id st'
  exact ⟨u,rfl,nE (s:={ s with heap:=h' }) e c d (by decide) ⟨x,H,I1,ru,⟨rfl,fun ys hy=>by rw [I.qB hy hq]; exact hx⟩,st',fun b hb=>(hf b hb).1⟩⟩
 done:=by
  intro X hP hw hK hc i aa s σ H E I hf st hg
  subst hP hw hK
  obtain ⟨xs,hq,hx⟩:=hg
  obtain ⟨its,rv,p,hz⟩:=I.list hq
  obtain ⟨f0,f1,f2,f3,f4,f5⟩:=hf it (by simp)
  have hl:=rv.length
  exact wpAny_pyNext_list_end (I.ok.hd hc) st p.isList (by simp; lia) fun h' eb=>⟨rfl,I.turned (t':=s.toks) (fun b o hb e=>eb b o hb e) f0 f1 f3 f4 f5⟩
 self:=fun _ _ _ _ _ st h=>wpAny_pyIter_listiter st h
theorem tZ {P:Program} {w:World} {K:ON} {tg:Expr} (a it:Addr):Turn P w K tg (Ny K a) [it] it (fun i h=>h.IsTupleIter it a i) where
 mem:=by simp
 obj:=fun i h st b hb=>by
  have e:b=it:=by simpa using hb
  subst e
  obtain ⟨o,e,c,d⟩:=st
  exact ⟨o,e,fun v z=>by rw [d] at z; cases z⟩
 keep:=fun i h h' st k=>st.at fun o e=>k it (by simp) o e
 item:=by
  intro X hP hw hK hc i aa s σ H E I hf st hg
  subst hP hw hK
  obtain ⟨xs,x,hq,hx⟩:=hg
  obtain ⟨its,rv,p,hz⟩:=I.tuple hq
  obtain ⟨u,hu,ru⟩:=rv.get hx
  obtain ⟨f0,f1,f2,f3,f4,f5⟩:=hf it (by simp)
  refine wpAny_pyNext_tuple_item st (show s.heap.IsTuple a its.toArray from p) (x:=u) (by simpa using hu) fun h' st' sb=>?_
  have I1:Inv X aa σ H { s with heap:=h' }:=I.turned (t':=s.toks) (fun b o hb e=>(sb.2 b hb).trans e) f0 f1 f3 f4 f5
  obtain ⟨o,e,c,d⟩:=id st'
  exact ⟨u,rfl,nE (s:={ s with heap:=h' }) e c d (by decide) ⟨x,H,I1,ru,⟨rfl,fun ys hy=>by rw [I.jE hy hq]; exact hx⟩,st',fun b hb=>(hf b hb).1⟩⟩
 done:=by
  intro X hP hw hK hc i aa s σ H E I hf st hg
  subst hP hw hK
  obtain ⟨xs,hq,hx⟩:=hg
  obtain ⟨its,rv,p,hz⟩:=I.tuple hq
  obtain ⟨f0,f1,f2,f3,f4,f5⟩:=hf it (by simp)
  have hl:=rv.length
  exact wpAny_pyNext_tuple_end (I.ok.hd hc) st (show s.heap.IsTuple a its.toArray from p) (by simp; lia) fun h' eb=>⟨rfl,I.turned (t':=s.toks) (fun b o hb e=>eb b o hb e) f0 f1 f3 f4 f5⟩
 self:=fun _ _ _ _ _ st h=>wpAny_pyIter_tupleiter st h
theorem t6 {P:Program} {w:World} {K:ON} {tg:Expr} (it:Addr) (lo:Int) (n:Nat):Turn P w K tg (M3 lo n) [it] it (fun i h=>IsRangeIter h it (lo+(i:Nat) * 1) ((n:Int) - (i:Nat)) 1) where
 mem:=by simp
 obj:=fun i h st b hb=>by
  have e:b=it:=by simpa using hb
  subst e
  exact ⟨_,st,fun v z=>by
   have z':Uj _=Data.cell v:=z
   cases z'⟩
 keep:=fun i h h' st k=>k it (by simp) _ st
 item:=by
  intro X hP hw hK hc i aa s σ H E I hf st hg
  subst hP hw hK
  obtain ⟨f0,f1,f2,f3,f4,f5⟩:=hf it (by simp)
  have W:=Walks.range (prog:=X.prog) (w:=X.w) (I.ok.hd hc) it lo 1 n
  refine W.item i s _ _ hg st fun v h' tk hv st' kk=>?_
  obtain ⟨t,rfl⟩:=hv
  have I1:Inv X aa σ H { s with heap:=h',toks:=tk }:=I.turned (fun b o hb e=>kk b o (by simpa using hb) e) f0 f1 f3 f4 f5
  refine ⟨_,rfl,nE (s:={ s with heap:=h',toks:=tk }) (n:="range_iterator") st' rfl rfl (by decide) ⟨.int (lo+i),H,I1,⟨t,?_⟩,⟨rfl,rfl⟩,st',fun b hb=>(hf b hb).1⟩⟩
  rw [Int.mul_one]
 done:=by
  intro X hP hw hK hc i aa s σ H E I hf st hg
  subst hP hw hK
  obtain ⟨f0,f1,f2,f3,f4,f5⟩:=hf it (by simp)
  exact wpAny_pyNext_range_end (I.ok.hd hc) st (by have:n≤i:=hg; lia) fun h' eb=>⟨rfl,I.turned (t':=s.toks) (fun b o hb e=>eb b o hb e) f0 f1 f3 f4 f5⟩
 self:=fun _ _ _ _ _ st h=>wpAny_pyIter_rangeiter st h
section
theorem zX {lo hi:Int} (I:Inv X aa σ H s) (h1: -(2 ^ 62)≤lo) (h2:lo<2 ^ 62) (h3: -(2 ^ 62)≤hi) (h4:hi<2 ^ 62)
 (q:R (M3 lo (hi - lo).toNat) H):wpAny (model X.prog X.w) X.A (pyIter (.ref s.heap.objs.size)) (Nu X aa σ tg R) E { s with heap:=s.heap.push { cls:=.type "range",data:=.fields #[.int lo t,.int hi u,.int 1 v] },toks:=tk }:=by
 refine wpAny_pyIter_range (IsRange.new ..) (small_one h1 h2 h3 h4) ?_
 have I1:Inv X aa σ H { s with heap:=s.heap.push { cls:=.type "range",data:=.fields #[.int lo t,.int hi u,.int 1 v] },toks:=tk }:=I.kept fun b o e=>OU _ e
 refine ⟨(s.heap.push { cls:=.type "range",data:=.fields #[.int lo t,.int hi u,.int 1 v] }).objs.size,[(s.heap.push { cls:=.type "range",data:=.fields #[.int lo t,.int hi u,.int 1 v] }).objs.size],_,_,H,rfl,
  I1.kept (t':=tk) fun b o e=>OU _ e,t6 _ lo (hi - lo).toNat,?_,fun b hb=>?_,q⟩
 ·have e1:lo+((0:Nat):Int) * 1=lo:=by simp
  have e2:(((hi - lo).toNat:Nat):Int) - ((0:Nat):Int)=S9 lo hi 1:=by rw [rangeSize_one]; split <;> lia
  show IsRangeIter _ _ (lo+((0:Nat):Int) * 1) ((((hi - lo).toNat:Nat):Int) - ((0:Nat):Int)) 1
  rw [e1,e2]
  exact O6 _ rfl
 ·have e:b=(s.heap.push { cls:=.type "range",data:=.fields #[.int lo t,.int hi u,.int 1 v] }).objs.size:=by simpa using hb
  subst e
  exact I1.mT (OP _) (I1.hok.fresh (OP _))
noncomputable def K5 (ta:TA):TI:=fun σ H R=>ta σ H fun vs H1=>∃ j:Int,vs=[.int j]∧ -(2 ^ 62)≤j∧j<2 ^ 62∧R (M3 0 j.toNat) H1
theorem xW (hg:Gl X "range") (hm:X.mg "range"=none) (ha:PA X [a] ta) (hs:starEach [a] X.env=[(false,eval a X.env)]:=by rfl):PI X tg (.Call (.Name "range" p) [a] [] pos) (K5 ta):=by
 intro aa s σ H R I h
 refine Call_ (dI I hg hm boot_range (R8 (bJ (ha pos aa s σ H _ I h) fun us s1 ⟨vs,H1,I1,r1,q1⟩=>?_) hs rfl))
 obtain ⟨j,e,q1,q2,q⟩:=q1
 subst e
 cases r1 with
 | cons r rr =>
  cases rr
  obtain ⟨t,rfl⟩:=r
  exact call_range_1 (zX I1 (by lia) (by lia) q1 q2 (by simpa using q))
noncomputable def Nz (wi:TI) (g:TG) (tb:TS):TS:=fun D σ H=>wi σ H fun J H1=>∃ W:Nat→Nat→St→Hp→Prop,(∃ m,W 0 m σ H1)∧∀ i m σ H,W i m σ H →
 (J.stop i H∧D.nx σ H)∨(J.go i H∧∃ N:St→Hp→Prop,(∀ σ' H',N σ' H'→∃ m',m'<m∧W (i+1) m' σ' H')∧∀ x H',J.yld i H x H'→g x σ H' fun σ2 H2=>tb { D with nx:=N,ct:=N,bk:=D.nx } σ2 H2)
noncomputable def kX (fp:List Addr) (h:Heap):List (Addr×Obj):=fp.filterMap fun b=>(h.get? b).map fun o=>(b,o)
theorem fN (hb:b∈fp) (e:h.get? b=some o):(b,o)∈kX fp h:=List.mem_filterMap.mpr ⟨b,hb,by rw [e]; rfl⟩
theorem xX (hp:p∈kX fp h):p.1∈fp∧h.get? p.1=some p.2:=by
 obtain ⟨b,hb,e⟩:=List.mem_filterMap.mp hp
 cases q:h.get? b with
 | none=>rw [q] at e; cases e
 | some o =>
  rw [q] at e
  have e':(b,o)=p:=Qw e
  subst e'
  exact ⟨hb,q⟩
theorem Inv.pinned (I:Inv X aa σ H s) (hf:∀ b∈fp,gh X aa H b) (ho:∀ b∈fp,∃ o,s.heap.get? b=some o∧∀ v,o.data≠.cell v):Inv X (aa++kX fp s.heap) σ H s :=
 I.vH fun p hp=>(Pg.mp hp).elim (fun z=>I.pin p (Qg _ z)) fun z=>by
  obtain ⟨hb,e⟩:=xX z
  obtain ⟨f0,f1,f2,_⟩:=hf p.1 hb
  obtain ⟨o,e',d⟩:=ho p.1 hb
  rw [e] at e'; cases e'
  exact ⟨e,f0,f1,f2,d⟩
theorem Inv.gi (I:Inv X (aa++pl) σ H s):Inv X aa σ H s:=I.vH fun p hp=>I.pin p (Qg _ (Rl _ hp))
theorem HG (hp:PassesOwn (model X.prog X.w) X.A X.env X.xe) (hc:X.calm=true) (hi:PI X tg iter wi) (hg:PG X tg g) (hb:tV X body tb)
 (hs:∀ x,foldedSetIterable iter X.env x=pure x:=by intro _; rfl):PS X (.For tg iter body [] pos) (Nz wi g tb):=by
 intro aa s σ H D I h
 refine wpAny_For (bJ (hi aa s σ H _ I h) fun v s1 h1=>bJ h1 fun itv s2 h2=>?_) hs
 obtain ⟨it,fp,tn,J,H2,e,I2,T,st2,f2,W,⟨m0,w0⟩,turn⟩:=h2
 subst e
 have stat:∀ {H':Hp},(∀ b∈fp,H' b=none)→∀ b∈fp,gh X aa H' b:=fun hn b hb=>⟨hn b hb,(f2 b hb).2⟩
 refine codeAny_forLoop_any (fun n s'=>∃ i σ' H',Inv X aa σ' H' s'∧tn i s'.heap∧(∀ b∈fp,H' b=none)∧W i n σ' H') ?_ m0 ⟨0,σ,H2,I2,st2,fun b hb=>(f2 b hb).1,w0⟩
 rintro n s3 ⟨i,σ3,H3,I3,st3,fr3,w3⟩
 rcases turn i n σ3 H3 w3 with ⟨stop,qn⟩ | ⟨go,N,hN,step⟩
 ·refine Rp hp (bJ (T.done X rfl rfl rfl hc i aa s3 σ3 H3 X.xe I3 (stat fr3) st3 stop) fun r s4 ⟨hr,I4⟩=>?_)
  subst hr
  exact wpAny_execs_nil ⟨σ3,H3,I4,qn⟩
 ·refine Rp hp (bJ (T.item X rfl rfl rfl hc i aa s3 σ3 H3 X.xe I3 (stat fr3) st3 go) fun r s4 ⟨u,hr,h4⟩=>?_)
  subst hr
  refine Rp hp (bJ h4 fun _ s5 ⟨x,H5,I5,r5,y5,st5,fr5⟩=>?_)
  have I5':=I5.pinned (stat fr5) (T.obj _ _ st5)
  refine Rp hp (bJ (hg _ s5 σ3 H5 x u _ I5' r5 (step x H5 y5)) fun _ s6 ⟨σ6,H6,I6,q6⟩=>?_)
  refine Rp hp (bJ (hb _ s6 σ6 H6 _ I6 q6) fun f s7 q7=>?_)
  have again:∀ {σ7:St} {H7:Hp},Inv X (aa++kX fp s5.heap) σ7 H7 s7→N σ7 H7→∃ m,m<n∧∃ i σ' H',Inv X aa σ' H' s7∧tn i s7.heap∧(∀ b∈fp,H' b=none)∧W i m σ' H':=fun {σ7 H7} I7 n7=>by
   obtain ⟨m',hm,w7⟩:=hN σ7 H7 n7
   refine ⟨m',hm,i+1,σ7,H7,I7.gi,T.keep _ _ _ st5 fun b hb o e=>(I7.pin (b,o) (Qg _ (Qg _ (fN hb e)))).1,fun b hb=>?_,w7⟩
   obtain ⟨o,e,d⟩:=T.obj _ _ st5 b hb
   exact (I7.pin (b,o) (Qg _ (Qg _ (fN hb e)))).2.1
  cases f with
  | next=>obtain ⟨σ7,H7,I7,n7⟩:=q7; exact again I7 n7
  | cont=>obtain ⟨σ7,H7,I7,n7⟩:=q7; exact again I7 n7
  | brk=>obtain ⟨σ7,H7,I7,q7⟩:=q7; exact ⟨σ7,H7,I7.gi,q7⟩
  | ret v=>obtain ⟨x7,σ7,H7,I7,r7,q7⟩:=q7; exact ⟨x7,σ7,H7,I7.gi,r7,q7⟩
end
noncomputable abbrev R2:=V→V→Hp→VK→Prop
noncomputable def fM (X:Cx) (f:Value→Value→Sem Value) (r:R2):Prop :=
 ∀ (aa:List (Addr×Obj)) (s:Shared) (σ:St) (H:Hp) (x y:V) (v u:Value) (Q:VK),Inv X aa σ H s→RelV x v→RelV y u→r x y H Q →
  wpAny (model X.prog X.w) X.A (f v u) (EP X aa σ Q) X.xe s
noncomputable def NB (X:Cx) (f:Value→Sem Value) (r:V→Hp→VK→Prop):Prop :=
 ∀ (aa:List (Addr×Obj)) (s:Shared) (σ:St) (H:Hp) (x:V) (v:Value) (Q:VK),Inv X aa σ H s→RelV x v→r x H Q →
  wpAny (model X.prog X.w) X.A (f v) (EP X aa σ Q) X.xe s
noncomputable def gj (X:Cx) (f:Value) (r:List V→Hp→VK→Prop):Prop :=
 ∀ (aa:List (Addr×Obj)) (s:Shared) (σ:St) (H:Hp) (xs:List V) (us:List Value) (Q:VK),Inv X aa σ H s→Vals xs us→r xs H Q →
  wpAny (model X.prog X.w) X.A (call f us) (EP X aa σ Q) X.xe s
noncomputable def M4 (r:R2) (ta tb:TE):TE:=fun σ H Q=>ta σ H fun x H1=>tb σ H1 fun y H2=>r x y H2 Q
noncomputable def Ox (r:V→Hp→VK→Prop) (ta:TE):TE:=fun σ H Q=>ta σ H fun x H1=>r x H1 Q
noncomputable def rI (C:Int→Int→Prop) (g:Int→Int→V):R2:=fun x y H Q=>∃ i j,x=.int i∧y=.int j∧C i j∧Q (g i j) H
noncomputable def vK (g:Int→Int→V):R2:=fun x y H Q=>∃ i j,x=.int i∧y=.int j∧Q (g i j) H
noncomputable def rU (g:Int→V):V→Hp→VK→Prop:=fun x H Q=>∃ i,x=.int i∧Q (g i) H
section
theorem HH (ha:PE X a ta) (hb:PE X b tb) {R:V→V→Hp→Prop} (I:Inv X aa σ H s)
 (h:ta σ H fun x H1=>tb σ H1 fun y H2=>R x y H2) {f:Value→Value→Sem Value}
 (hf:∀ v u s2 x y H2,Inv X aa σ H2 s2→RelV x v→RelV y u→R x y H2→wpAny (model X.prog X.w) X.A (f v u) Q X.xe s2) :
 wpAny (model X.prog X.w) X.A (eval a X.env) (fun v s₁=>wpAny (model X.prog X.w) X.A (eval b X.env) (fun u s₂=>wpAny (model X.prog X.w) X.A (f v u) Q X.xe s₂) X.xe s₁) X.xe s:=by
 refine bJ (ha aa s σ H _ I h) fun v s1 ⟨x,H1,I1,r1,q1⟩=>?_
 refine bJ (hb aa s1 σ H1 _ I1 q1) fun u s2 ⟨y,H2,I2,r2,q2⟩=>?_
 exact hf v u s2 x y H2 I2 r1 r2 q2
theorem zY (ho:fM X (binaryOp op) r) (ha:PE X a ta) (hb:PE X b tb):PE X (.BinOp a op b pos) (M4 r ta tb):=by
 intro aa s σ H Q I h
 exact wpAny_BinOp (HH ha hb I h fun v u s2 x y H2 I2 rx ry q=>ho aa s2 σ H2 x y v u Q I2 rx ry q)
theorem K6 (ho:NB X (unaryOp op) r) (ha:PE X a ta):PE X (.UnaryOp op a pos) (Ox r ta):=by
 intro aa s σ H Q I h
 exact UnaryOp_ (bJ (ha aa s σ H _ I h) fun v s1 ⟨x,H1,I1,r1,q1⟩=>ho aa s1 σ H1 x v Q I1 r1 q1)
theorem KD {g:Int→Int→Int}
 (rule:∀ (i j:Int) (t u:Tok) (s:Shared) (Q:Value→Shared→Prop) (E:Value→Shared→Prop),C i j→Q (.int (g i j) s.toks) { s with toks:=s.toks+1 }→wpAny (model X.prog X.w) X.A (f (.int i t) (.int j u)) Q E s) :
 fM X f (rI C fun i j=>.int (g i j)):=by
 intro aa s σ H x y v u Q I rx ry h
 obtain ⟨i,j,rfl,rfl,hc,q⟩:=h
 obtain ⟨t,rfl⟩:=rx
 obtain ⟨t',rfl⟩:=ry
 exact rule i j t t' s _ _ hc ⟨.int (g i j),H,I.tok _,⟨_,rfl⟩,q⟩
theorem zZ {g:Int→Int→Int}
 (rule:∀ (i j:Int) (t u:Tok) (s:Shared) (Q:Value→Shared→Prop) (E:Value→Shared→Prop),Q (.int (g i j) s.toks) { s with toks:=s.toks+1 }→wpAny (model X.prog X.w) X.A (f (.int i t) (.int j u)) Q E s) :
 fM X f (vK fun i j=>.int (g i j)):=by
 intro aa s σ H x y v u Q I rx ry h
 obtain ⟨i,j,rfl,rfl,q⟩:=h
 obtain ⟨t,rfl⟩:=rx
 obtain ⟨t',rfl⟩:=ry
 exact rule i j t t' s _ _ ⟨.int (g i j),H,I.tok _,⟨_,rfl⟩,q⟩
theorem HJ {g:Int→Int→Bool}
 (rule:∀ (i j:Int) (t u:Tok) (s:Shared) (Q:Value→Shared→Prop) (E:Value→Shared→Prop),Q (.bool (g i j)) s→wpAny (model X.prog X.w) X.A (f (.int i t) (.int j u)) Q E s) :
 fM X f (vK fun i j=>.bl (g i j)):=by
 intro aa s σ H x y v u Q I rx ry h
 obtain ⟨i,j,rfl,rfl,q⟩:=h
 obtain ⟨t,rfl⟩:=rx
 obtain ⟨t',rfl⟩:=ry
 exact rule i j t t' s _ _ ⟨.bl (g i j),H,I,rfl,q⟩
noncomputable def t8 (i j:Int):Prop:=0≤j∧j≤1000000∧i.natAbs<2 ^ 64
theorem uc (k):(0:Int)≤2 ^ k:=by
 rw [two_pow_cast]
 exact Int.natCast_nonneg _
theorem HK:fM X (binaryOp .Add) (vK fun i j=>.int (i+j)):=zZ fun _ _ _ _ _ _ _ q=>add_int q
theorem HL:fM X (binaryOp .Sub) (vK fun i j=>.int (i - j)):=zZ fun _ _ _ _ _ _ _ q=>sub_int q
theorem HM:fM X (binaryOp .Mod) (rI (fun _ j=>0<j) fun i j=>.int (i % j)):=KD fun i j _ _ _ _ _ hc q=>by
 have h1:(0:Int)<j:=hc
 exact mod_int' (by lia) (by rw [Int.fmod_eq_emod_of_nonneg i (by lia)]; exact q)
theorem HN:fM X (binaryOp .Pow) (rI t8 fun i j=>.int (i ^ j.toNat)):=KD fun _ _ _ _ _ _ _ hc q=>pow_int_small hc.1 hc.2.1 hc.2.2 q
theorem HP:fM X (binaryOp .LShift) (rI t8 fun i j=>.int (i * 2 ^ j.toNat)):=KD fun _ _ _ _ _ _ _ hc q=>lshift_int_small hc.1 hc.2.1 hc.2.2 q
theorem HQ:fM X (binaryOp .RShift) (rI (fun _ j=>0≤j) fun i j=>.int (i / 2 ^ j.toNat)):=KD fun i j _ _ _ _ _ hc q =>
 rshift_int hc (by rw [Int.fdiv_eq_ediv_of_nonneg i (uc _)]; exact q)
theorem HR:fM X (binaryOp .BitAnd) (vK fun i j=>.int (Builtin.bitAnd i j)):=zZ fun _ _ _ _ _ _ _ q=>and_int q
theorem Ec:fM X (inplaceOp .Add) (vK fun i j=>.int (i+j)):=zZ fun _ _ _ _ _ _ _ q=>iadd_int q
theorem Ed:fM X (inplaceOp .Sub) (vK fun i j=>.int (i - j)):=zZ fun _ _ _ _ _ _ _ q=>isub_int q
theorem Oz {g:Int→Int}
 (rule:∀ (i:Int) (t:Tok) (s:Shared) (Q:Value→Shared→Prop) (E:Value→Shared→Prop),Q (.int (g i) s.toks) { s with toks:=s.toks+1 }→wpAny (model X.prog X.w) X.A (f (.int i t)) Q E s) :
 NB X f (rU fun i=>.int (g i)):=by
 intro aa s σ H x v Q I rx h
 obtain ⟨i,rfl,q⟩:=h
 obtain ⟨t,rfl⟩:=rx
 exact rule i t s _ _ ⟨.int (g i),H,I.tok _,⟨_,rfl⟩,q⟩
theorem HU:NB X (unaryOp .USub) (rU fun i=>.int (-i)):=Oz fun _ _ _ _ _ q=>neg_int q
end
noncomputable def Ef:V→V→Bool
 | .non,.non=>true | .non,.int _=>true | .int _,.non=>true | .non,.bl _=>true | .bl _,.non=>true | .non,.str _=>true | .str _,.non=>true
 | .int _,.int _=>true | .bl _,.bl _=>true | .str _,.str _=>true | .byt _,.byt _=>true
 | .int _,.str _=>true | .str _,.int _=>true | .bl _,.str _=>true | .str _,.bl _=>true
 | _,_=>false
noncomputable def OA:R2:=fun x y H Q=>Ef x y=true∧Q (.bl (decide (x=y))) H
noncomputable def OB:R2:=fun x y H Q=>Ef x y=true∧Q (.bl (!decide (x=y))) H
theorem vL:decide (V.int i=V.int j)=(i == j):=by
 rw [Su]
 simp
theorem z0:decide (V.bl i=V.bl j)=(i == j):=by
 rw [Su]
 simp
theorem vM:decide (V.str i=V.str j)=(i == j):=by
 rw [Su]
 simp
theorem vN:decide (V.byt i=V.byt j)=(i.toList == j.toList):=by
 rw [Su]
 cases i
 cases j
 simp
section
theorem bh (I:Inv X aa σ H s) (q:Q (.bl k) H) (e:k=k'):EP X aa σ Q (.bool k') s:=by
 subst e
 exact ⟨.bl k,H,I,rfl,q⟩
theorem K7:fM X (compareOp .Eq) OA:=by
 intro aa s σ H x y v u Q I rx ry h
 obtain ⟨hs,q⟩:=h
 cases x with
 | non =>
  cases rx
  cases y with
  | non=>cases ry; exact PySem.EqNone.eq_none_none (bh I q (by simp))
  | bl j=>cases ry; exact PySem.EqNone.eq_none_bool (bh I q (by simp))
  | int j=>obtain ⟨t',rfl⟩:=ry; exact PySem.EqNone.eq_none_int (bh I q (by simp))
  | str j=>obtain ⟨t',rfl⟩:=ry; exact PySem.EqNone.eq_none_str (bh I q (by simp))
  | _=>exact absurd (show false=true from hs) O0
 | bl i =>
  cases rx
  cases y with
  | non=>cases ry; exact PySem.EqNone.eq_bool_none (bh I q (by simp))
  | bl j=>cases ry; exact eq_bool (bh I q z0)
  | str j=>obtain ⟨t',rfl⟩:=ry; exact PySem.EqMixed.eq_bool_str (bh I q (by simp))
  | _=>exact absurd (show false=true from hs) O0
 | int i =>
  obtain ⟨t,rfl⟩:=rx
  cases y with
  | non=>cases ry; exact PySem.EqNone.eq_int_none (bh I q (by simp))
  | int j=>obtain ⟨t',rfl⟩:=ry; exact eq_int (bh I q vL)
  | str j=>obtain ⟨t',rfl⟩:=ry; exact PySem.EqMixed.eq_int_str (bh I q (by simp))
  | _=>exact absurd (show false=true from hs) O0
 | str i =>
  obtain ⟨t,rfl⟩:=rx
  cases y with
  | non=>cases ry; exact PySem.EqNone.eq_str_none (bh I q (by simp))
  | bl j=>cases ry; exact PySem.EqMixed.eq_str_bool (bh I q (by simp))
  | int j=>obtain ⟨t',rfl⟩:=ry; exact PySem.EqMixed.eq_str_int (bh I q (by simp))
  | str j=>obtain ⟨t',rfl⟩:=ry; exact eq_str (bh I q vM)
  | _=>exact absurd (show false=true from hs) O0
 | byt i =>
  obtain ⟨t,rfl⟩:=rx
  cases y with
  | byt j=>obtain ⟨t',rfl⟩:=ry; exact PySem.W.eq_bytes (bh I q vN)
  | _=>exact absurd (show false=true from hs) O0
 | _=>cases y <;> exact absurd (show false=true from hs) O0
theorem K8:fM X (compareOp .NotEq) OB:=by
 intro aa s σ H x y v u Q I rx ry h
 obtain ⟨hs,q⟩:=h
 cases x with
 | non =>
  cases rx
  cases y with
  | non=>cases ry; exact PySem.EqNone.ne_none_none (bh I q (by simp))
  | bl j=>cases ry; exact PySem.EqNone.ne_none_bool (bh I q (by simp))
  | int j=>obtain ⟨t',rfl⟩:=ry; exact PySem.EqNone.ne_none_int (bh I q (by simp))
  | str j=>obtain ⟨t',rfl⟩:=ry; exact PySem.EqNone.ne_none_str (bh I q (by simp))
  | _=>exact absurd (show false=true from hs) O0
 | bl i =>
  cases rx
  cases y with
  | non=>cases ry; exact PySem.EqNone.ne_bool_none (bh I q (by simp))
  | bl j=>cases ry; exact ne_bool (bh I q (congrArg not z0))
  | str j=>obtain ⟨t',rfl⟩:=ry; exact PySem.EqMixed.ne_bool_str (bh I q (by simp))
  | _=>exact absurd (show false=true from hs) O0
 | int i =>
  obtain ⟨t,rfl⟩:=rx
  cases y with
  | non=>cases ry; exact PySem.EqNone.ne_int_none (bh I q (by simp))
  | int j=>obtain ⟨t',rfl⟩:=ry; exact ne_int (bh I q (congrArg not vL))
  | str j=>obtain ⟨t',rfl⟩:=ry; exact PySem.EqMixed.ne_int_str (bh I q (by simp))
  | _=>exact absurd (show false=true from hs) O0
 | str i =>
  obtain ⟨t,rfl⟩:=rx
  cases y with
  | non=>cases ry; exact PySem.EqNone.ne_str_none (bh I q (by simp))
  | bl j=>cases ry; exact PySem.EqMixed.ne_str_bool (bh I q (by simp))
  | int j=>obtain ⟨t',rfl⟩:=ry; exact PySem.EqMixed.ne_str_int (bh I q (by simp))
  | str j=>obtain ⟨t',rfl⟩:=ry; exact ne_str (bh I q (congrArg not vM))
  | _=>exact absurd (show false=true from hs) O0
 | byt i =>
  obtain ⟨t,rfl⟩:=rx
  cases y with
  | byt j=>obtain ⟨t',rfl⟩:=ry; exact PySem.W.ne_bytes (bh I q (congrArg not vN))
  | _=>exact absurd (show false=true from hs) O0
 | _=>cases y <;> exact absurd (show false=true from hs) O0
theorem K9:fM X (compareOp .Lt) (vK fun i j=>.bl (decide (i<j))):=HJ fun _ _ _ _ _ _ _ q=>lt_int q
theorem La:fM X (compareOp .Gt) (vK fun i j=>.bl (decide (j<i))):=HJ fun _ _ _ _ _ _ _ q=>gt_int q
theorem Lb:fM X (compareOp .GtE) (vK fun i j=>.bl (decide (j≤i))):=HJ fun _ _ _ _ _ _ _ q=>ge_int q
theorem fM.or (h:fM X f r) (h':fM X f r'):fM X f (fun x y H Q=>r x y H Q∨r' x y H Q):=by
 intro aa s σ H x y v u Q I rx ry q
 rcases q with q | q
 ·exact h aa s σ H x y v u Q I rx ry q
 ·exact h' aa s σ H x y v u Q I rx ry q
theorem jF (b) (h:op≠.In:=by decide) (h2:op≠.NotIn:=by decide):behindInMarks op b=false:=by
 have e1:(op == CmpOp.In)=false:=by cases op <;> first | rfl | exact absurd rfl h
 have e2:(op == CmpOp.NotIn)=false:=by cases op <;> first | rfl | exact absurd rfl h2
 cases b <;> simp [behindInMarks,e1,e2]
theorem Eg (ho:fM X (compareOp op) r) (ha:PE X a ta) (hb:PE X b tb) (hm:behindInMarks op b=false):PE X (.Compare a [op] [b] pos) (M4 r ta tb):=by
 intro aa s σ H Q I h
 exact wpAny_Compare1 (HH ha hb I h fun v u s2 x y H2 I2 rx ry q=>ho aa s2 σ H2 x y v u Q I2 rx ry q) hm
noncomputable def Lc (t:TE):TT:=fun σ H Q=>t σ H fun x H'=>∃ k,x=.bl k∧Q k H'
theorem Eh (ho:fM X (compareOp op) r) (ha:PE X a ta) (hb:PE X b tb) (hm:behindInMarks op b=false):PT X (.Compare a [op] [b] pos) (Lc (M4 r ta tb)):=by
 intro aa s σ H Q I h
 refine wpAny_isTrue_Compare1 (bJ (ha aa s σ H _ I h) fun v s1 ⟨x,H1,I1,r1,q1⟩=>bJ (hb aa s1 σ H1 _ I1 q1) fun u s2 ⟨y,H2,I2,r2,q2⟩ =>
  bJ (ho aa s2 σ H2 x y v u _ I2 r1 r2 q2) fun c s3 ⟨z,H3,I3,r3,k,e,q3⟩=>?_) hm
 subst e
 cases r3
 exact Tr ⟨H3,I3,q3⟩
theorem oV:(sizeLine:Nat)<2 ^ 63:=by rw [sizeLine_eq]; decide
theorem ud:fM X (binaryOp .Add) (fun x y H Q=>∃ i j,x=.str i∧y=.str j∧i.length+j.length≤sizeLine∧Q (.str (i++j)) H):=by
 intro aa s σ H x y v u Q I rx ry h
 obtain ⟨i,j,rfl,rfl,hz,q⟩:=h
 obtain ⟨t,rfl⟩:=rx
 obtain ⟨t',rfl⟩:=ry
 exact add_str (fun t' tk=>⟨.str (i++j),H,I.tok _,⟨_,rfl⟩,q⟩) hz
theorem vals1 (r:Vals [x] us):∃ u,us=[u]∧RelV x u:=by
 cases r with
 | cons r1 r2=>cases r2; exact ⟨_,rfl,r1⟩
theorem vals2 (r:Vals [x,y] us):∃ u w',us=[u,w']∧RelV x u∧RelV y w':=by
 cases r with
 | cons r1 r2 =>
  cases r2 with
  | cons r3 r4=>cases r4; exact ⟨_,_,rfl,r1,r3⟩
theorem xY (hc:X.calm=true):gj X (.builtin "max") (fun xs H Q=>∃ i j,xs=[.int i,.int j]∧Q (.int (if j>i then j else i)) H):=by
 intro aa s σ H xs us Q I r h
 obtain ⟨i,j,rfl,q⟩:=h
 obtain ⟨u,w',rfl,⟨t,rfl⟩,⟨t',rfl⟩⟩:=vals2 r
 refine max_two_ints (I.ok.hd hc) fun h' tk k=>⟨_,H,I.kept k,?_,q⟩
 by_cases hj:j>i
 ·rw [if_pos hj,if_pos hj]; exact ⟨_,rfl⟩
 ·rw [if_neg hj,if_neg hj]; exact ⟨_,rfl⟩
end
structure OC (h:Heap) (x dx C:Addr) (mA:Str→Option Value):Prop where
 obj:h.get? x=some (PySem.W.instObj C dx)
 ns:h.Ns1 dx mA
 ne:dx≠x
section
end
theorem kh.some_of (r:kh (some v) o):∃ u,o=some u∧RelV v u:=by
 cases o with
 | none=>exact (show False from r).elim
 | some u=>exact ⟨u,rfl,r⟩
section
end
structure OD (K:ON) (C:Addr):Prop where
 pg:PySem.W.plainGet K C Str.empty=true
 hd:PySem.W.hasDictIn K C=true
 po:PySem.W.plainOver K C=true
 sa:Q4 K (.ref C) "__setattr__"=some (some (.builtin "object.__setattr__"))
structure Con (K:ON) (C:Addr) (f:Str) (v:V) (u:Value):Prop where
 at_:Q4 K (.ref C) f=some (some u)
 rel:RelV v u
 get:UT K u "__get__"=some none
 cp:PySem.W.copiedNames.contains f=false
structure Meth (K:ON) (C:Addr) (m:Str) (f:Addr):Prop where
 at_:Q4 K (.ref C) m=some (some (.ref f))
 fn:PySem.W.isFn K (.ref f)=true
 kp:QE K (.ref f)=true
section
end
noncomputable def Ld (X:Cx) (op:Operator) (rd:V→V→Hp→VK→Prop):Prop :=
 ∀ (aa:List (Addr×Obj)) (s:Shared) (σ:St) (H:Hp) (x y:V) (u v:Value) (Q:VK),Inv X aa σ H s→RelV x u→RelV y v→rd x y H Q→wpAny (model X.prog X.w) X.A (inplaceOp op u v) (EP X aa σ Q) X.xe s
section
end
section
variable {X:Cx} {aa:List (Addr×Obj)} {σ:St} {H:Hp} {s:Shared} {A:Around} {E:Value→Shared→Prop} {Q:Value→Shared→Prop} {c:Value} {b:Bool}
inductive kY (K:ON) (H:Hp):V→Value→Prop where
 | non:kY K H .non (.type "NoneType")
 | bl (x:Bool):kY K H (.bl x) (.type "bool")
 | int (i:Int):kY K H (.int i) (.type "int")
 | str (x:Str):kY K H (.str x) (.type "str")
 | flt (x:UInt64):kY K H (.flt x) (.type "float")
 | lst {a:Addr} {xs:List V} (e:H a=some (.lst xs)):kY K H (.ref a) (.type "list")
 | frz {a:Addr} {o:Obj} {xs:List V} (e:H a=some (.frz o (.lst xs))):kY K H (.ref a) (.type "list")
 | tup {a:Addr} {xs:List V} (e:H a=some (.tup xs)):kY K H (.ref a) (.type "tuple")
 | dK {a:Addr} {kvs:List (Key×V)} (e:H a=some (.dK kvs)):kY K H (.ref a) (.type "dict")
 | dT {a:Addr} {kvs:List (List Key×Addr×V)} (e:H a=some (.dT kvs)):kY K H (.ref a) (.type "dict")
 | ins {a C dx:Addr} {fs:List (Str×V)} (e:H a=some (.ins C dx fs)) (cl:OD K C) (ha:Q4 K (.ref C) "__class__"=some (some (.builtin "object.__class__")))
  (hn:UT K (.builtin "object.__class__") "__get__"=some (some (.builtin "getset_descriptor.__get__"))) (htk:PySem.W.takesIn K (.builtin "object.__class__")=some true)
  (hm:T5 K C (.type "object")=some true):kY K H (.ref a) (.ref C)
end
structure iy (k:Nat) (A:Around):Prop where
 hd:A.handled=none
 dp:A.depth+3 * k+5<recursionLimit
 un:A.units+16 * k+200<cLine
theorem iy.mono (r:iy k A) (h:j≤k):iy j A:=⟨r.hd,by have:=r.dp; lia,by have:=r.un; lia⟩
theorem iy.deeper (r:iy (k+1) A) (env:Env):iy k (A.deeper env) :=
 ⟨r.hd,by have:=r.dp; show A.depth+1+3 * k+5<_; lia,by have:=r.un; show A.units+3+16 * k+200<_; lia⟩
theorem iy.depth (r:iy k A):A.depth<recursionLimit:=by have:=r.dp; lia
theorem iy.units (r:iy k A):A.units+64<cLine:=by have:=r.un; lia
noncomputable def NC:TA:=fun _ H Q=>Q [] H
noncomputable def Le (ta:TE) (tr:TA):TA:=fun σ H Q=>ta σ H fun x H1=>tr σ H1 fun xs H2=>Q (x::xs) H2
section
theorem dJ:PA X [] NC:=fun _ _ _ _ H Q I h=>Calls.spliced_nil ⟨[],H,I,.nil,h⟩
theorem bN (ha:PE X e te) (hr:PA X es t) (hs:starEach (e::es) X.env=(false,eval e X.env)::starEach es X.env:=by rfl):PA X (e::es) (Le te t):=by
 intro pos aa s σ H Q I h
 rw [hs]
 show wpAny _ _ (spliced ((false,eval e X.env)::backTo pos (starEach es X.env))) _ _ s
 refine UO (bJ (ha aa s σ H _ I h) fun u s1 ⟨x,H1,I1,r1,q1⟩=>?_)
 exact bJ (hr pos aa s1 σ H1 _ I1 q1) fun us s2 ⟨xs,H2,I2,r2,q2⟩=>⟨x::xs,H2,I2,.cons r1 r2,q2⟩
noncomputable def ND (t:TA):TE:=fun σ H Q=>t σ H fun xs H1=>xs.length≤sizeLine∧∀ p,H1 p=none→Q (.ref p) (upd H1 p (.tup xs))
noncomputable def NF (t:TA):TE:=fun σ H Q=>t σ H fun xs H1=>xs.length≤sizeLine∧∀ p,H1 p=none→Q (.ref p) (upd H1 p (.lst xs))
theorem Aa {x1} (h:PA X es t):PE X (.Tuple es x1 pos) (ND t):=by
 intro aa s σ H Q I hq
 refine wpAny_Tuple_spliced (bJ (h pos aa s σ H _ I hq) fun us s1 ⟨xs,H1,I1,r,z,q⟩=>⟨by rw [← r.length]; exact z,?_⟩)
 have hf:H1 s1.heap.objs.size=none:=I1.hok.fresh (OP _)
 refine ⟨.ref s1.heap.objs.size,upd H1 s1.heap.objs.size (.tup xs),I1.laid (t':=s1.toks) (fun b u e=>OU _ e) (OP _) ?_,rfl,q _ hf⟩
 exact ⟨z,us,r,⟨_,O6 _ rfl,rfl,_,rfl⟩⟩
theorem HV (h:PA X es t):PE X (.List es pos) (NF t):=by
 intro aa s σ H Q I hq
 refine wpAny_List_spliced (bJ (h pos aa s σ H _ I hq) fun us s1 ⟨xs,H1,I1,r,z,q⟩=>⟨by rw [← r.length]; exact z,?_⟩)
 have hf:H1 s1.heap.objs.size=none:=I1.hok.fresh (OP _)
 refine ⟨.ref s1.heap.objs.size,upd H1 s1.heap.objs.size (.lst xs),I1.laid (t':=s1.toks) (fun b u e=>OU _ e) (OP _) ?_,rfl,q _ hf⟩
 exact ⟨z,us,0,r,O6 _ rfl⟩
end
noncomputable abbrev Sp:=List V→Hp→VK→XK→Prop
noncomputable abbrev HW:=List Env→Hp→Shared→XK→Value→Shared→Prop
structure Ei (P:Program) (w:World) (K:ON) (mg:Str→Option Value) (base:Heap) (A:Around) (outer:List Env) (s:Shared) (H:Hp):Prop where
 frames:A.frames=some outer
 mod:Mod K mg base
 bs:∀ b o,base.get? b=some o→s.heap.get? b=some o∧H b=none
 bsz:base.objs.size≤s.heap.objs.size
 jD:s.heap.FunFrames base outer
 frf:∀ b∈frs outer,H b=none
 hok:jC P w H s.heap
 bare:AllBare s.gens
noncomputable def CE (outer:List Env) (P:Program) (w:World) (H:Hp) (s:Shared) (Q:VK) (u:Value) (s':Shared):Prop :=
 ∃ v H',s'.os=s.os∧AllBare s'.gens∧Un (frs outer) [] H H' s.heap s'.heap∧jC P w H' s'.heap∧RelV v u∧Q v H'
noncomputable def CR (CX:HW) (outer:List Env) (P:Program) (w:World) (H:Hp) (s:Shared) (Q:VK) (E:XK) (r:Result) (s':Shared):Prop :=
 match r with
 | .ok (.ret u)=>CE outer P w H s Q u s'
 | .ok _=>False
 | .error e=>CX outer H s E e s'
structure bx (P:Program) (w:World) (K:ON) (mg:Str→Option Value) (base:Heap) (CX:HW) (k:Nat) (f:Addr) (fd:FuncData) (ps:List Str) (sp:Sp):Prop where
 len:∀ vs H Q E,sp vs H Q E→vs.length=ps.length
 run:∀ (A:Around) (outer:List Env) (s:Shared) (H:Hp) (args:Args) (us:List Value) (vs:List V) (Q:VK) (E:XK),iy k A→Ei P w K mg base A outer s H→BindsTo s fd args (ps.zip us)→Vals vs us→sp vs H Q E →
  codeAny (model P w) A (.call (.ref f) args) (CR CX outer P w H s Q E) s
theorem bx.mono {K:ON} (F:bx P w K mg base CX j f fd ps sp) (h:j≤k) :
 bx P w K mg base CX k f fd ps sp:=⟨F.len,fun A outer s H args us vs Q E hr=>F.run A outer s H args us vs Q E (hr.mono h)⟩
section
theorem Inv.Ej (I:Inv X aa σ H s):Ei X.prog X.w X.K X.mg X.base X.A X.stack s H :=
 ⟨I.ok.frames,I.ok.mod,I.bs,OV I.ok.bsz I.sz,I.stack,I.vG,I.hok,I.bare⟩
theorem Inv.after (I:Inv X aa σ H s) (h:CE X.stack X.prog X.w H s Q u s'):EP X aa σ Q u s':=by
 obtain ⟨v,H',os,bare,un,hok,r,q⟩:=h
 obtain ⟨hh,g,d,t,os'⟩:=s'
 obtain rfl:os'=s.os:=os
 exact ⟨v,H',I.call (h':=hh) (g':=g) (d':=d) (t':=t) (ch:=[]) un hok bare (fun b z=>absurd z (by simp)),r,q⟩
end
noncomputable def Binds (K:ON) (fd:FuncData) (ps:List Str) (ds:List Value):Prop :=
 ∀ (s:Shared) (us:List Value),K.In s.heap→(us++ds).length=ps.length→BindsTo s fd ⟨us,[]⟩ (ps.zip (us++ds))
theorem Binds.all {K:ON} (h:∀ us:List Value,us.length=ps.length→bindArgs fd ⟨us,[]⟩=pure (ps.zip us)):Binds K fd ps []:=fun s us _ hl=>by
 rw [P1] at hl ⊢
 exact .of_eq (h us hl)
section
variable {X:Cx} {CX:HW} {k:Nat} {f C:Addr} {fd:FuncData} {ps:List Str} {sp:Sp} {dvs:List V} {ds:List Value} {E:XK} {x m:Str} {p pos apos:Pos} {e o:Expr} {es:List Expr} {ta:TE} {t:TA}
structure Mk (K:ON) (C f:Addr):Prop where
 makes:PySem.W.makesIn K C=true
 init:Q4 K (.ref C) "__init__"=some (some (.ref f))
 fn:PySem.W.isFn K (.ref f)=true
 kp:QE K (.ref C)=true
end
section
variable {X:Cx} {CX:HW} {k:Nat} {f C:Addr} {fd:FuncData} {ps ks:List Str} {sp:Sp} {E:XK} {x m:Str} {p pos apos kpos:Pos} {e o:Expr} {es:List Expr} {kws:List Keyword} {te ta:TE} {t tk:TA} {nm:Option Str}
structure NG (K:ON) (fd:FuncData) (ps ks:List Str) (g:List Value→List Value→List Value) (gV:List V→List V→List V):Prop where
 to:∀ (s:Shared) (us ws:List Value),K.In s.heap→(g us ws).length=ps.length→BindsTo s fd ⟨us,ks.zip ws⟩ (ps.zip (g us ws))
 rel:∀ {vs:List V} {us:List Value} {zs:List V} {ws:List Value},Vals vs us→Vals zs ws→Vals (gV vs zs) (g us ws)
end
structure aE (N P:List Str) (sc:Scope):Prop where
 kind:sc.kind=.function
 co:sc.isCoroutine=false
 gen:sc.isGenerator=false
 nd:N.Nodup
 pre:N.take P.length=P
 par:∀ x∈P,sc.names.lookup x=some .local∨sc.names.lookup x=some .cell
 nofree:∀ y∈sc.names,y.2≠.free
theorem nF {kindOf:Str→Option NameKind}:∀ {binds:List (Str×Value)} {m:Str→Option Value},(∀ v,(x,v)∉binds)→bindL kindOf binds m x=m x
 | [],_,_=>rfl
 | (n,v)::r,m,h=>by
  unfold bindL
  rw [nF fun w hw=>h w (O2 _ hw)]
  split
  ·have:x≠n:=by rintro rfl; exact h v O1
   simp [this]
  ·rfl
theorem nG {kindOf:Str→Option NameKind}:∀ {binds:List (Str×Value)} {m:Str→Option Value},(∀ v,(x,v)∉binds)→bindC kindOf binds m x=m x
 | [],_,_=>rfl
 | (n,v)::r,m,h=>by
  unfold bindC
  rw [nG fun w hw=>h w (O2 _ hw)]
  split
  ·rfl
  ·have:x≠n:=by rintro rfl; exact h v O1
   simp [this]
theorem nH {kindOf:Str→Option NameKind}:∀ {P:List Str} {vs:List Value} {i:Nat} {m:Str→Option Value},P.Nodup→P[i]?=some x→vs[i]?=some v→kindOf x=some .local →
 bindL kindOf (P.zip vs) m x=some v
 | [],_,_,_,_,h,_,_=>by simp at h
 | _::_,[],_,_,_,_,h,_=>by simp at h
 | p::P,w::vs,0,m,nd,h1,h2,hk=>by
  simp at h1 h2; subst h1; subst h2
  show bindL kindOf ((p,w)::P.zip vs) m p=_
  unfold bindL
  rw [nF fun v hv=>(Qn.mp nd).1 (TR hv).1,if_pos hk]
  simp
 | p::P,w::vs,i+1,m,nd,h1,h2,hk=>by
  show bindL kindOf ((p,w)::P.zip vs) m x=_
  unfold bindL
  exact nH (i:=i) (Qn.mp nd).2 (by simpa using h1) (by simpa using h2) hk
theorem nI {kindOf:Str→Option NameKind}:∀ {P:List Str} {vs:List Value} {i:Nat} {m:Str→Option Value},P.Nodup→P[i]?=some x→vs[i]?=some v→kindOf x≠some .local →
 bindC kindOf (P.zip vs) m x=some v
 | [],_,_,_,_,h,_,_=>by simp at h
 | _::_,[],_,_,_,_,h,_=>by simp at h
 | p::P,w::vs,0,m,nd,h1,h2,hk=>by
  simp at h1 h2; subst h1; subst h2
  show bindC kindOf ((p,w)::P.zip vs) m p=_
  unfold bindC
  rw [nG fun v hv=>(Qn.mp nd).1 (TR hv).1,if_neg hk]
  simp
 | p::P,w::vs,i+1,m,nd,h1,h2,hk=>by
  show bindC kindOf ((p,w)::P.zip vs) m x=_
  unfold bindC
  exact nI (i:=i) (Qn.mp nd).2 (by simpa using h1) (by simpa using h2) hk
noncomputable def start (N:List Str) (vs:List V):St:=vs.map some++OX (N.length - vs.length) none
noncomputable def qC (CX:HW) (P:Program) (w:World) (K:ON) (mg:Str→Option Value) (base:Heap) (N:List Str) (qual:Str) (scope:Scope) (f:Addr) (cd:Value) (A:Around) (outer:List Env) (s:Shared) (H:Hp) (E:XK):Cx where
 prog:=P
 w:=w
 K:=K
 mg:=mg
 base:=base
 A:=A.deeper (envOfC qual scope s.heap.objs.size f cd)
 N:=N
 s₀:=s
 H₀:=H
 env:=envOfC qual scope s.heap.objs.size f cd
 outer:=outer
 stack:=envOfC qual scope s.heap.objs.size f cd::outer
 ex:=[]
 calm:=true
 fn:=fun _=>true
 pn:=[]
 xe:=fun e s'=>wpAny (model P w) (A.deeper (envOfC qual scope s.heap.objs.size f cd)) (leaving (envOfC qual scope s.heap.objs.size f cd) e) (fun _ s''=>CX outer H s E e s'') (fun e' s''=>CX outer H s E e' s'') s'
theorem qD {sc:Scope} (h:sc.names.lookup x=some .cell):∃ c,(cellsFrom n sc.names []).lookup x=some c:=by
 have q:=PySem.W.cellsFrom_some sc.names n [] (.inl h)
 exact Option.isSome_iff_exists.mp q
theorem xZ {K:ON}
 (S:aE N ps scope) (hd:A.handled=none) (e0:Ei P w K mg base A outer s H) (hl:vs.length=ps.length) (r:Vals vs us)
 (x:InCallC s s.heap.objs.size (bindL (envOfC qual scope s.heap.objs.size f cd).kindOf (ps.zip us) fun _=>none) (cellsFrom (s.heap.objs.size+1) scope.names []) (bindC (envOfC qual scope s.heap.objs.size f cd).kindOf (ps.zip us) fun _=>none) s1) :
 Inv (qC CX P w K mg base N qual scope f cd A outer s H E) [] (start N vs) H s1:=by
 have hpl:ps.length≤N.length:=by have:=congrArg Rw S.pre; rw [P9] at this; lia
 obtain ⟨h1,tk,rfl,hk⟩:=x.done
 have noA:∀ b:Addr,b∉(qC CX P w K mg base N qual scope f cd A outer s H E).ex:=fun b z=>absurd (show b∈([]:List Addr) from z) (by simp)
 refine ⟨⟨e0.mod,S.kind,rfl,rfl,OP _,fun y z c h1 h2=>?_,fun y hy=>?_,fun y c _ h=>?_,fun _=>hd,Around.frames_deeper e0.frames,.inr ⟨rfl,rfl⟩,fun b z=>absurd z (noA b),e0.bs,e0.bsz,fun b _ _=>noA b,fun b z=>absurd z (noA b),e0.jD,e0.frf⟩,
  rfl,e0.bare,Un.kept hk,⟨_,x.toInCall.ns,fun i y v h1 h2 h3=>?_⟩,fun y c h=>⟨_,x.cell y c h⟩,e0.hok.fresh (OP _),fun y c h=>?_,fun p hp=>absurd (show p∈([]:List (Addr×Obj)) from hp) (by simp),e0.hok.kept hk,?_⟩
 ·exact name_of_addr x.apart (Si h1) (Si h2)
 ·have hy:scope.names.lookup y=some .cell∨scope.names.lookup y=some .free:=hy
  rcases hy with hy | hy
  ·exact qD hy
  ·exact absurd rfl (S.nofree _ (Si hy))
 ·exact Q9 (x.above y c (Si h))
 ·have hi:i<vs.length:=by
   unfold start at h2
   by_cases hi:i<vs.length
   ·exact hi
   ·rw [RE (by simpa using hi)] at h2
    rw [Ux] at h2
    split at h2 <;> cases h2
  have ha:vs[i]?=some v:=by
   unfold start at h2
   rw [QX (by simpa using hi),OY] at h2
   cases e:vs[i]? with
   | none=>rw [e] at h2; cases h2
   | some a=>rw [e] at h2; cases h2; rfl
  obtain ⟨u,hu,rv⟩:=r.get ha
  have hp:ps[i]?=some y:=by
   rw [← S.pre,S0 (by lia)]; exact h1
  have ndP:ps.Nodup:=by rw [← S.pre]; exact S.nd.sublist (Tu _ _)
  refine ⟨u,rv,?_⟩
  rcases S.par y (Qc hp) with k | k
  ·exact .inl ⟨k,nH ndP hp hu k⟩
  ·obtain ⟨c,e⟩:=qD (n:=s.heap.objs.size+1) k
   refine .inr ⟨.inl k,c,e,?_⟩
   have q:=x.cell y c e
   rw [nI ndP hp hu (by show scope.names.lookup y≠_; rw [k]; decide)] at q
   exact q
 ·exact e0.hok.fresh (Q9 (x.above y c (Si h)))
 ·unfold start
  show _=N.length
  rw [Py,OT,List.length_replicate]
  lia
theorem Ab {K:ON} {dV kV doc pm cdv ct oc:Value}
 (lk:K.lookup f=some ⟨oc,od,.func (QJ name qual params body scope dV kV doc pm an cdv ct),osl⟩) (hcd:T3 K cdv qual=true) (S:aE N ps scope)
  (len:∀ vs H Q E,sp vs H Q E→vs.length=ps.length)
  (hbody:∀ (A:Around) (outer:List Env) (s:Shared) (H:Hp) (vs:List V) (Q:VK) (E:XK),iy k (A.deeper (envOfC qual scope s.heap.objs.size f cdv))→sp vs H Q E →
    ∃ t,tV (qC CX P w K mg base N qual scope f cdv A outer s H E) body t∧t { nx:=fun _ H'=>Q .non H',rt:=Q } (start N vs) H) :
  bx P w K mg base CX (k+1) f (QJ name qual params body scope dV kV doc pm an cdv ct) ps sp:=by
  refine ⟨len,fun A outer s H args us vs Q E hr e0 hb r qx=>?_⟩
  have hl:=len _ _ _ _ qx
  have KX:K.In s.heap:=e0.mod.kin.keeps fun b o e=>(e0.bs b o e).1
  have lim:s.heap.NoLimit:=e0.mod.nolimit.keeps fun b o e=>(e0.bs b o e).1
  have hkind:∀ y∈ps.zip us,scope.names.lookup y.1=some .local∨(scope.names.lookup y.1=some .cell∧((cellsFrom (s.heap.objs.size+1) scope.names []).lookup y.1).isSome=true):=fun ⟨n,v⟩ hy=>by
   rcases S.par n (TR hy).1 with q | q
   ·exact .inl q
   ·exact .inr ⟨q,PySem.W.cellsFrom_some _ _ _ (.inl q)⟩
  refine codeAny_call_function hr.depth (KX _ _ lk) rfl S.co S.gen rfl (PySem.W.codeRec_of KX hcd) (hb _ _ _ _ ?_)
  refine wpAny_newFunctionEnv_cells S.kind hkind fun env he s1 x=>?_
  subst he
  refine ⟨lim.keeps x.toInCall.keep,codeAny_func ?_⟩
  obtain ⟨t,ht,hq⟩:=hbody A outer s H vs Q E (hr.deeper _) qx
  have I:Inv (qC CX P w K mg base N qual scope f cdv A outer s H E) [] (start N vs) H s1:=xZ S hr.hd e0 hl r x
  refine PD (ht [] s1 (start N vs) H _ I hq) (fun fl s' hs=>?_) fun e s' hs=>hs
  have fin:∀ {σ':St} {H':Hp} {v:V} {u:Value},Inv (qC CX P w K mg base N qual scope f cdv A outer s H E) [] σ' H' s'→RelV v u→Q v H'→CE outer P w H s Q u s' :=
   fun {σ' H' v u} J rv q=>⟨v,H',J.os,J.bare,J.base,J.hok,rv,q⟩
  cases fl with
  | ret u =>
   obtain ⟨v,σ',H',J,rv,q⟩:=hs
   exact fin J rv q
  | next =>
   obtain ⟨σ',H',J,q⟩:=hs
   exact fin (v:=V.non) (u:=P4) J rfl q
  | brk =>
   obtain ⟨_,_,_,q⟩:=hs
   exact PZ q
  | cont =>
   obtain ⟨_,_,_,q⟩:=hs
   exact PZ q
section
variable {id T:String}
noncomputable def Oi (r:List V→Hp→VK→Prop) (t:TA):TE:=fun σ H Q=>t σ H fun vs H1=>r vs H1 Q
theorem Ac (hc:gj X (.builtin id) r) (hg:Gl X x) (hm:X.mg x=none) (hv:bootBuiltins x=some (.builtin id)) (ha:PA X (e::es) t) (hn:x≠"__name__":=by decide) (hdb:(x == ("__debug__":Str))=false:=by decide)
 (he:starEach (e::es) X.env=(false,eval e X.env)::starEach es X.env:=by rfl) (hpl:(backTo pos (starEach es X.env)).any (·.1)=false:=by rfl):PE X (.Call (.Name x p) (e::es) [] pos) (Oi r t):=by
 intro aa s σ H Q I h
 refine QB (dI I hg hm hv ?_ hn hdb)
 exact Um (bJ (ha pos aa s σ H _ I h) fun us s1 ⟨vs,H1,I1,r1,q1⟩=>hc aa s1 σ H1 vs us Q I1 r1 q1) he hpl
theorem nJ (hc:gj X (.type T) r) (hg:Gl X x) (hm:X.mg x=none) (hv:bootBuiltins x=some (.type T)) (ha:PA X (e::es) t) (hn:x≠"__name__":=by decide) (hdb:(x == ("__debug__":Str))=false:=by decide)
 (he:starEach (e::es) X.env=(false,eval e X.env)::starEach es X.env:=by rfl) (hpl:(backTo pos (starEach es X.env)).any (·.1)=false:=by rfl):PE X (.Call (.Name x p) (e::es) [] pos) (Oi r t):=by
 intro aa s σ H Q I h
 refine QB (dI I hg hm hv ?_ hn hdb)
 exact R8 (bJ (ha pos aa s σ H _ I h) fun us s1 ⟨vs,H1,I1,r1,q1⟩=>hc aa s1 σ H1 vs us Q I1 r1 q1) he hpl
end
end L2
namespace HT
open PySem PyProof.Rows
noncomputable def lexLt:List Int→List Int→Bool
 | [],[]=>false
 | [],_::_=>true
 | _::_,[]=>false
 | x::xs,y::ys=>if x=y then lexLt xs ys else decide (x<y)
theorem cJ (x y) (xs ys):lexLt (x::xs) (y::ys)=if x=y then lexLt xs ys else decide (x<y):=rfl
theorem iD:lexLt [] []=false:=rfl
theorem gm (y) (ys):lexLt [] (y::ys)=true:=rfl
theorem gn (x) (xs):lexLt (x::xs) []=false:=rfl
theorem Ad (A:Around) (s) (a) (t:Tok) (c) (u:Tok):∃ e,Ph A s (.int a t) (.int c u) e∧(e=true↔a=c) :=
 ⟨(a == c),Ph.int_int a t c u,by simp⟩
theorem Ae (A:Around) (s) (a) (t:Tok) (c) (u:Tok) (prog) (w) (E) (Q) (h:Q (.bool (decide (a<c))) s) :
 wpAny (model prog w) A (richCompare .Lt (.int a t) (.int c u)) Q E s :=
 (PyProof.Rows.lt_int h:wpAny (model prog w) A (compareOp .Lt (.int a t) (.int c u)) Q E s)
section
open PySem.SeqAt
open PySem.AutoSeq1 (wpAny_loadPart')
open PySem.MeetsSeq PySem.MeetsSeq2 PySem.MeetsSeq3
theorem iE (l b) (items items2) (n n2) (dd dd2) (sl sl2) (ns ms) (hi:IntsAre items.toList ns) (hj:IntsAre items2.toList ms) :
 Meets (Builtin.«tuple.__lt__» ⟨[.ref l,.ref b],[]⟩)
  (fun _ R s=>s.heap.get? l=some { cls:=.type "tuple",dict:=dd,data:=.seq items n,slots:=sl }∧s.heap.get? b=some { cls:=.type "tuple",dict:=dd2,data:=.seq items2 n2,slots:=sl2 } ∧
    R (.ok (.ret (.bool (lexLt ns ms)))) s) :=
 .of_wp fun prog w A R s h=>by
  obtain ⟨hp,g,d,tk,os⟩:=s; obtain ⟨hl,hb,h⟩:=h
  have f2:=AutoSeq1.sub_tuple_tuple
  have z1:items.size=ns.length:=by rw [← hi.length]; simp
  have z2:items2.size=ms.length:=by rw [← hj.length]; simp
  wp_walk using wpAny_loadPart' hl,wpAny_loadPart' hb,wpAny_forIn_list _ (fun rest b s'=>b.1=none∧s'=⟨hp,g,d,tk,os⟩∧∃ (vs ws:List Value) (ns' ms':List Int),rest=vs.zip ws ∧
   IntsAre vs ns'∧IntsAre ws ms'∧ns'.length+items2.size=ms'.length+items.size∧R (.ok (.ret (.bool (lexLt ns' ms')))) ⟨hp,g,d,tk,os⟩) _
  case turn =>
   rintro ⟨y,x⟩ rest b s' ⟨hb',rfl,vs,ws,ns',ms',hz,hvi,hwi,hlen,hR⟩
   cases hvi with
   | nil=>rw [List.zip_nil_left] at hz; cases hz
   | cons a t hvi' =>
    cases hwi with
    | nil=>rw [List.zip_nil_right] at hz; cases hz
    | cons c u hwi' =>
     rw [Tp] at hz
     injection hz with hyx hrest
     injection hyx with hy hx
     subst hy hx
     rw [cJ] at hR
     simp only [Pr] at hlen
     obtain ⟨e,he,hiff⟩:=Ad A.in1 ⟨hp,g,d,tk,os⟩ a t c u
     refine OM (he prog w _ _ ?_)
     cases e with
     | true =>
      rw [if_pos (hiff.mp rfl)] at hR
      wp_walk
      exact ⟨rfl,rfl,_,_,_,_,hrest,hvi',hwi',by lia,hR⟩
     | false =>
      rw [if_neg (fun q=>absurd (hiff.mpr q) O0)] at hR
      have hri:=Ae A.in1 ⟨hp,g,d,tk,os⟩ a t c u prog w
      wp_walk using hri
      exact ⟨_,rfl,by simpa using hR⟩
  case fin =>
   rintro ⟨b1,b2⟩ s' ⟨hb',rfl,vs,ws,ns',ms',hz,hvi,hwi,hlen,hR⟩
   simp only at hb'
   subst hb'
   have hv:lexLt ns' ms'=decide (items.size<items2.size):=by
    cases hvi with
    | nil =>
     cases hwi with
     | nil =>
      simp only [QD] at hlen
      rw [iD]
      exact (decide_eq_false (by lia)).symm
     | cons c u hw =>
      simp only [QD,Pr] at hlen
      rw [gm]
      exact (decide_eq_true (by lia)).symm
    | cons a t hv =>
     cases hwi with
     | nil =>
      simp only [QD,Pr] at hlen
      rw [gn]
      exact (decide_eq_false (by lia)).symm
     | cons c u hw =>
      rw [Tp] at hz
      cases hz
   rw [hv] at hR
   wp_walk
   exact ⟨_,rfl,by simpa [Builtin.Tuple.tupleCompareSizes] using hR⟩
  case h =>
   exact ⟨rfl,rfl,items.toList,items2.toList,ns,ms,rfl,hi,hj,by lia,h⟩
end
section
theorem ue (hl:IsTup s.heap l items) (hb:IsTup s.heap b items2) (hi:IntsAre items.toList ns) (hj:IntsAre items2.toList ms)
 (hu:A.units<cLine) (h:Q (.bool (lexLt ns ms)) s):wpAny (model prog w) A (compareOp .Lt (.ref l) (.ref b)) Q E s:=by
 obtain ⟨⟨cls,dd,data,sl⟩,ho,hc,n,hd⟩:=id hl
 obtain ⟨⟨cls2,dd2,data2,sl2⟩,ho2,hc2,n2,hd2⟩:=id hb
 simp only at hc hd hc2 hd2
 subst hc hd hc2 hd2
 exact richCompare_meets_room (op:=.Lt) ⟨_,ho,rfl⟩ ⟨_,ho2,rfl⟩ UC PySem.F.entry_tuple_lt (PySem.F.args_tuple_lt_2 _ _) (iE l b items items2 n n2 dd dd2 sl sl2 ns ms hi hj)
  ⟨ho,ho2,show Value.bool (lexLt ns ms)≠Value.notImplemented∧Q (.bool (lexLt ns ms)) s from ⟨(fun x=>nomatch x),h⟩⟩ hu
noncomputable def cg (n d:Nat):Option Int→Nat
 | none=>d
 | some v=>if v<0 then (v+(n:Int)).toNat else min v.toNat n
theorem HX (n d) (hd:d≤n) (o):cg n d o≤n:=by
 cases o with
 | none=>exact hd
 | some v =>
  show (if v<0 then (v+(n:Int)).toNat else min v.toNat n)≤n
  by_cases hv:v<0
  ·rw [if_pos hv]; lia
  ·rw [if_neg hv]; exact Nat.min_le_right _ _
theorem vO (v) (n d:Nat):(if v<0 then max (v+(n:Int)) 0 else min v (n:Int))=((cg n d (some v):Nat):Int):=by
 show (if v<0 then max (v+(n:Int)) 0 else min v (n:Int))=(((if v<0 then (v+(n:Int)).toNat else min v.toNat n):Nat):Int)
 by_cases hv:v<0
 ·simp only [if_pos hv]; lia
 ·simp only [if_neg hv]; lia
theorem uf (lo hi) (n:Nat):Us lo hi 1 (n:Int)=(((cg n 0 lo:Nat):Int),((cg n n hi:Nat):Int)):=by
 have h1:¬ ((1:Int)<0):=by lia
 unfold Us
 simp only [h1,if_false]
 refine Prod.ext ?_ ?_
 ·cases lo with
  | none=>rfl
  | some v=>exact vO v n 0
 ·cases hi with
  | none=>rfl
  | some v=>exact vO v n n
theorem ug (i j:Nat):SX (i:Int) (j:Int) 1=j - i:=by
 unfold SX
 have h1:(1:Int)>0:=by lia
 simp only [h1,if_true,Int.ediv_one]
 split <;> lia
theorem kZ (p:IsPart v o) (h:Q o s):wpAny (model prog w) A (Builtin.Slice.slicePartIndex v) Q E s:=by
 cases p with
 | none=>exact slicePart_none h
 | int i t=>exact slicePart_int h
theorem fC {sl:Addr} {vl vu:Value} {lo hi:Option Int} {n:Nat} {Q:Int×Int×Nat→Shared→Prop} (hs:s.heap.IsSliceOf sl vl vu .none) (pl:IsPart vl lo) (pu:IsPart vu hi)
 (h:Q (((cg n 0 lo:Nat):Int),1,cg n n hi - cg n 0 lo) s):wpAny (model prog w) A (Builtin.Slice.sliceApplied (.ref sl) (pure (n:Int))) Q E s:=by
 obtain ⟨os,hos,hcs,hds⟩:=id hs
 unfold Builtin.Slice.sliceApplied Builtin.Slice.sliceFields
 refine OM (OM (QK hos hds (x:=vl) rfl (OM (QK hos hds (x:=vu) rfl (OM (QK hos hds (x:=.none) rfl (OO ?_)))))))
 refine OM (slicePart_none ?_)
 show wpAny _ _ (if ((1:Int) == 0)=true then _ else _) _ _ s
 rw [if_neg (by decide)]
 refine OM (kZ pl (OM (kZ pu (OM (OO ?_)))))
 show wpAny _ _ (match Us lo hi 1 (n:Int) with | (lo,hi)=>pure (lo,(1:Int),SX lo hi 1)) _ _ s
 rw [uf lo hi n]
 show wpAny _ _ (pure (((cg n 0 lo:Nat):Int),(1:Int),SX ((cg n 0 lo:Nat):Int) ((cg n n hi:Nat):Int) 1)) _ _ s
 rw [ug]
 exact OO h
theorem Af (xs:Array Value) (i k:Nat):((PF k).filterMap fun (m:Nat)=>xs[((i:Int)+(m:Int) * 1).toNat]?).toArray=((xs.toList.drop i).take k).toArray:=by
 have e:(fun (m:Nat)=>xs[((i:Int)+(m:Int) * 1).toNat]?)=fun m=>xs[i+m]?:=by
  funext m
  have:((i:Int)+(m:Int) * 1).toNat=i+m:=by lia
  rw [this]
 rw [e]
 have:=pick_run xs i k
 rw [UN] at this
 have e2:((fun x=>xs[x]?)∘fun x=>i+x)=fun m=>xs[i+m]?:=rfl
 rw [e2] at this
 rw [this]
theorem i6 {lo hi:Option Int} (ht:IsTup s.heap t items) (hs:s.heap.IsSliceOf sl vl vu .none) (pl:IsPart vl lo) (pu:IsPart vu hi)
 (hw:¬ (cg items.size 0 lo=0∧cg items.size items.size hi=items.size))
 (h:Q (.ref s.heap.objs.size) { s with heap:=s.heap.push { cls:=.type "tuple",data:=.seq ((items.toList.drop (cg items.size 0 lo)).take (cg items.size items.size hi - cg items.size 0 lo)).toArray } })
 (hsz:items.size≤sizeLine):wpAny (model prog w) A (getItem (.ref t) (.ref sl)) Q E s:=by
 have htake:sizeOk (.seq ((items.toList.drop (cg items.size 0 lo)).take (cg items.size items.size hi - cg items.size 0 lo)).toArray):=by
  show ((items.toList.drop (cg items.size 0 lo)).take (cg items.size items.size hi - cg items.size 0 lo)).toArray.size≤sizeLine
  rw [O9,P9,List.length_drop,PM]
  lia
 have hj:cg items.size items.size hi≤items.size:=HX _ _ (OP _) hi
 obtain ⟨os,hos,hcs,hds⟩:=id hs
 have hTs:s.TypeIs (.ref sl) "slice":=⟨os,hos,hcs⟩
 unfold getItem
 try with_reducible refine Qa ?_
 first | refine OM (OO ?_) | skip
 refine OM (UP ht.typeIs (by decide) ?_)
 refine OM (QY (name:=OL "__getitem__") ht.typeIs RB
  (Qv RB ht.typeIs entry_tuple_getitem ?_ (args_tuple_getitem _ _)))
 show wpAny _ _ (Builtin.Tuple.tupleItemsOf (.ref t) >>= _) _ _ s
 refine OM (tupleItemsOf_ ht ?_)
 refine OM (Q7 hTs ?_)
 rw [if_pos (by decide)]
 refine OM (fC hs pl pu ?_)
 have hno:¬ ((((cg items.size 0 lo:Nat):Int) == 0 && (1:Int) == 1 && (cg items.size items.size hi - cg items.size 0 lo) == items.size)=true):=by
  intro q
  rw [Sm,Sm] at q
  have q1:((cg items.size 0 lo:Nat):Int)=0:=eq_of_beq q.1.1
  have q2:cg items.size items.size hi - cg items.size 0 lo=items.size:=eq_of_beq q.2
  exact hw ⟨by lia,by lia⟩
 show wpAny _ _ (if (((cg items.size 0 lo:Nat):Int) == 0 && (1:Int) == 1 && (cg items.size items.size hi - cg items.size 0 lo) == items.size)=true then _ else _) _ _ s
 rw [if_neg hno,Af]
 first
  | exact OM (m:=S3 _) (P6 (OO ⟨_,rfl,OO h⟩) htake)
  | exact OM (m:=S3 _) (P6 (OM (OO (OO ⟨_,rfl,OO h⟩))) htake)
  | exact OM (OM (m:=S3 _) (P6 (OO (OO ⟨_,rfl,OO h⟩)) htake))
  | exact OM (OM (m:=S3 _) (P6 (OO ⟨_,rfl,OO h⟩) htake))
end
end HT
namespace L2
open PySem PySem.Spec PyProof.Rows
noncomputable abbrev TO:=St→Hp→(Option Int→Hp→Prop)→Prop
noncomputable def PO (X:Cx) (e:Option Expr) (t:TO):Prop :=
 ∀ (aa:List (Addr×Obj)) (s:Shared) (σ:St) (H:Hp) (Q:Option Int→Hp→Prop),Inv X aa σ H s→t σ H Q →
  wpAny (model X.prog X.w) X.A (evalPart e X.env) (fun u s'=>∃ o H',Inv X aa σ H' s'∧IsPart u o∧Q o H') X.xe s
noncomputable def Ek:TO:=fun _ H Q=>Q none H
noncomputable def Lf (t:TE):TO:=fun σ H Q=>t σ H fun x H1=>∃ i,x=.int i∧Q (some i) H1
theorem intsAre_of:∀ {us:List Value},Vals (ns.map V.int) us→IntsAre us ns:=by
 induction ns with
 | nil=>intro us r; rw [Ra] at r; cases r; exact .nil
 | cons n ns ih =>
  intro us r
  rw [OS] at r
  cases r with
  | cons r1 r2 =>
   obtain ⟨t,e⟩:=r1
   subst e
   exact .cons n t (ih r2)
section
variable {lo hi:Option Expr}
theorem El:PO X none Ek:=by
 intro aa s σ H Q I h
 rw [evalPart_none]
 exact OO ⟨none,H,I,.none,h⟩
theorem Em (h:PE X e te):PO X (some e) (Lf te):=by
 intro aa s σ H Q I hw
 rw [evalPart_some]
 refine bJ (h aa s σ H _ I hw) fun u s1 ⟨x,H1,I1,r1,q1⟩=>?_
 obtain ⟨i,rfl,q⟩:=q1
 obtain ⟨t,rfl⟩:=r1
 exact ⟨some i,H1,I1,.int i t,q⟩
noncomputable def DU (X:Cx) (r:V→Option Int→Option Int→Hp→VK→Prop):Prop :=
 ∀ (aa:List (Addr×Obj)) (s:Shared) (σ:St) (H:Hp) (x:V) (v vl vu:Value) (lo hi:Option Int) (sl:Addr) (Q:VK),Inv X aa σ H s→RelV x v→s.heap.IsSliceOf sl vl vu .none→IsPart vl lo→IsPart vu hi→r x lo hi H Q →
  ∃ T id,typeLookup (.type T) "__getitem__"=pure (some (.builtin id))∧s.TypeIs v T∧wpAny (model X.prog X.w) X.A (getItem v (.ref sl)) (EP X aa σ Q) X.xe s
theorem DU.or (h:DU X r) (h':DU X r'):DU X (fun x lo hi H Q=>r x lo hi H Q∨r' x lo hi H Q):=by
 intro aa s σ H x v vl vu lo hi sl Q I rx hs pl pu q
 rcases q with q | q
 ·exact h aa s σ H x v vl vu lo hi sl Q I rx hs pl pu q
 ·exact h' aa s σ H x v vl vu lo hi sl Q I rx hs pl pu q
noncomputable def OE (r:V→Option Int→Option Int→Hp→VK→Prop) (te:TE) (tl th:TO):TE:=fun σ H Q=>te σ H fun x H1=>tl σ H1 fun l H2=>th σ H2 fun u H3=>r x l u H3 Q
theorem Ag (hr:DU X r) (he:PE X e te) (hl:PO X lo tl) (hu:PO X hi th):PE X (.Subscript e (.Slice lo hi none p2) pos) (OE r te tl th):=by
 intro aa s σ H Q I h
 refine Subscript_ (bJ (he aa s σ H _ I h) fun v s1 ⟨x,H1,I1,r1,q1⟩=>?_)
 refine wpAny_Slice (bJ (hl aa s1 σ H1 _ I1 q1) fun vl s2 ⟨l,H2,I2,pl,q2⟩=>bJ (hu aa s2 σ H2 _ I2 q2) fun vu s3 ⟨u,H3,I3,pu,q3⟩=>?_)
 rw [evalPart_none]
 refine OO ?_
 have I4:Inv X aa σ H3 { s3 with heap:=s3.heap.push { cls:=.type "slice",data:=.fields #[vl,vu,.none] } }:=I3.kept (t':=s3.toks) fun b ob q=>OU _ q
 obtain ⟨T,id,hT,ht,hg⟩:=hr aa { s3 with heap:=s3.heap.push { cls:=.type "slice",data:=.fields #[vl,vu,.none] } } σ H3 x v vl vu l u s3.heap.objs.size Q I4 r1 (Heap.IsSliceOf.new ..) pl pu q3
 show wpAny (model X.prog X.w) X.A (subscriptTail e (.Slice lo hi none p2) v (.ref s3.heap.objs.size)) (EP X aa σ Q) X.xe { s3 with heap:=s3.heap.push { cls:=.type "slice",data:=.fields #[vl,vu,.none] } }
 exact tail_any (ops:=[.ref s3.heap.objs.size,v]) ht hT hg (by walk_at "u")
noncomputable def oW (xs:List V) (lo hi:Option Int):List V:=(xs.drop (HT.cg xs.length 0 lo)).take (HT.cg xs.length xs.length hi - HT.cg xs.length 0 lo)
theorem j7 (xs) (lo hi):(oW xs lo hi).length≤xs.length:=by
 unfold oW
 rw [P9,List.length_drop]
 lia
noncomputable def NH (K:ON):V→Option Int→Option Int→Hp→VK→Prop:=fun x lo hi H Q=>∃ a xs,x=.ref a∧c8 K H a xs ∧
 ¬ (HT.cg xs.length 0 lo=0∧HT.cg xs.length xs.length hi=xs.length)∧∀ p,H p=none→Q (.ref p) (upd H p (.tup (oW xs lo hi)))
theorem HY:DU X (NH X.K):=by
 intro aa s σ H x v vl vu lo hi sl Q I rx hs pl pu h
 obtain ⟨a,xs,rfl,hx,hw,q⟩:=h
 cases rx
 obtain ⟨its,r,ht,hz⟩:=I.tuple hx
 have hlen:its.toArray.size=xs.length:=by rw [O9]; exact r.length.symm
 refine ⟨"tuple",_,RB.lookup,ht.typeIs,?_⟩
 refine HT.i6 ht hs pl pu (by rw [hlen]; exact hw) ?_ (by rw [hlen]; exact hz)
 rw [hlen]
 refine ⟨.ref s.heap.objs.size,_,I.laid (t':=s.toks) (o:=.tup (oW xs lo hi)) (fun b ob q=>OU _ q) (OP _) ?_,rfl,q _ (I.hok.fresh (OP _))⟩
 exact ⟨OV (j7 xs lo hi) hz,_,(r.drop (HT.cg xs.length 0 lo)).take (HT.cg xs.length xs.length hi - HT.cg xs.length 0 lo),IsTup.new _ _⟩
theorem Vals.vP (r:Vals xs us):us=[]↔xs=[]:=by
 cases r with
 | nil=>simp
 | cons _ _=>simp
end
noncomputable def KG (n:Nat) (i:Int):Option Nat:=if 0≤i then (if i<n then some i.toNat else none) else if -(n:Int)≤i then some (i+n).toNat else none
noncomputable def kE {α:Type} (xs:List α) (i:Int):Option α:=(KG xs.length i).bind fun j=>xs[j]?
theorem En (h:KG n i=some j):seqIndex? i n=some j∧j<n∧ -(n:Int)≤i∧i<n:=by
 unfold KG at h
 by_cases h0:0≤i
 ·rw [if_pos h0] at h
  by_cases h1:i<n
  ·rw [if_pos h1] at h
   have e:i.toNat=j:=Qw h
   exact ⟨by rw [seqIndex_of h0 h1,e],by lia,by lia,h1⟩
  ·rw [if_neg h1] at h; cases h
 ·rw [if_neg h0] at h
  by_cases h1: -(n:Int)≤i
  ·rw [if_pos h1] at h
   have e:(i+n).toNat=j:=Qw h
   exact ⟨by rw [seqIndex_neg (by lia) h1,e],by lia,h1,by lia⟩
  ·rw [if_neg h1] at h; cases h
theorem vQ (h:kE xs i=some v):∃ j,seqIndex? i xs.length=some j∧xs[j]?=some v∧j<xs.length∧ -(xs.length:Int)≤i∧i<xs.length:=by
 unfold kE at h
 cases e:KG xs.length i with
 | none=>rw [e] at h; cases h
 | some j =>
  rw [e] at h
  obtain ⟨h1,h2,h3,h4⟩:=En e
  exact ⟨j,h1,h,h2,h3,h4⟩
noncomputable def kF (b:Expr):Prop:=∀ o i,subscripted b false o i=operate [o,i] (getItem o i)
noncomputable def GC (X:Cx) (r:R2):Prop :=
 ∀ (value slice:Expr) (aa:List (Addr×Obj)) (s:Shared) (σ:St) (H:Hp) (x y:V) (v u:Value) (Q:VK),Inv X aa σ H s→RelV x v→RelV y u→r x y H Q →
  subscripted slice false v u=operate [v,u] (getItem v u)→wpAny (model X.prog X.w) X.A (subscriptTail value slice v u) (EP X aa σ Q) X.xe s
noncomputable def NI (X:Cx) (id:String) (r:V→List V→Hp→VK→Prop):Prop :=
 ∀ (aa:List (Addr×Obj)) (s:Shared) (σ:St) (H:Hp) (x:V) (xs:List V) (v:Value) (us:List Value) (Q:VK),Inv X aa σ H s→RelV x v→Vals xs us→r x xs H Q →
  wpAny (model X.prog X.w) X.A (call (.builtin id) (v::us)) (EP X aa σ Q) X.xe s
section
theorem GC.or (h:GC X r) (h':GC X r'):GC X (fun x y H Q=>r x y H Q∨r' x y H Q):=by
 intro value slice aa s σ H x y v u Q I rx ry q hs
 rcases q with q | q
 ·exact h value slice aa s σ H x y v u Q I rx ry q hs
 ·exact h' value slice aa s σ H x y v u Q I rx ry q hs
theorem Lg (hr:GC X r) (ha:PE X a ta) (hb:PE X b tb) (hs:kF b):PE X (.Subscript a b pos) (M4 r ta tb):=by
 intro aa s σ H Q I h
 exact Subscript_ (HH ha hb I h fun v u s2 x y H2 I2 rx ry q=>hr a b aa s2 σ H2 x y v u Q I2 rx ry q (hs _ _))
noncomputable def NJ (K:ON):R2:=fun x y H Q=>∃ p xs i v,x=.ref p∧y=.int i∧gX K H p xs∧kE xs i=some v∧Q v H
noncomputable def NK (K:ON):R2:=fun x y H Q=>∃ p xs i v,x=.ref p∧y=.int i∧c8 K H p xs∧kE xs i=some v∧Q v H
theorem Eo:GC X (NJ X.K):=by
 intro value slice aa s σ H x y v u Q I rx ry h hs
 obtain ⟨p,xs,i,z,rfl,rfl,hq,he,q⟩:=h
 cases rx
 obtain ⟨t,rfl⟩:=ry
 obtain ⟨its,r,pl,hz⟩:=I.list hq
 obtain ⟨j,h1,h2,h3,h4,h5⟩:=vQ he
 obtain ⟨w,ew,rw'⟩:=r.get h2
 have hl:=r.length
 have hn:=oV
 have fin:EP X aa σ Q w s:=⟨z,H,I,rw',q⟩
 by_cases h0:0≤i
 ·have hj:i.toNat=j:=by
   rw [seqIndex_of h0 h5] at h1
   exact Qw h1
  exact item_listR pl.isList h0 (by lia) (by rw [hj]; simpa using ew) fin hs
 ·have hj:(i+(its.toArray.size:Int)).toNat=j:=by
   rw [seqIndex_neg (by lia) h4] at h1
   rw [O9,← hl]
   exact Qw h1
  exact subscriptTail_builtinR (x:=w) pl.isList.typeIs US.lookup
   (wpAny_getItem_list_neg (Q:=fun r s'=>r=w∧EP X aa σ Q r s') pl.isList (by lia) (by rw [O9] <;> lia) (by lia) (by rw [hj]; simpa using ew) ⟨rfl,fin⟩) hs
theorem HZ:GC X (NK X.K):=by
 intro value slice aa s σ H x y v u Q I rx ry h hs
 obtain ⟨p,xs,i,z,rfl,rfl,hq,he,q⟩:=h
 cases rx
 obtain ⟨t,rfl⟩:=ry
 obtain ⟨its,r,pl,hz⟩:=I.tuple hq
 obtain ⟨j,h1,h2,h3,h4,h5⟩:=vQ he
 obtain ⟨w,ew,rw'⟩:=r.get h2
 have hl:=r.length
 have hn:=oV
 have fin:EP X aa σ Q w s:=⟨z,H,I,rw',q⟩
 exact subscriptTail_builtinR (x:=w) pl.typeIs slot_tuple_getitem.lookup
  (getItem_tuple (j:=j) (Q:=fun r s'=>r=w∧EP X aa σ Q r s') pl (by lia) (by lia) (by rw [O9,← hl]; exact h1) (by simpa using ew) ⟨rfl,fin⟩) hs
theorem oX (lo hi) (n):(sliceBounds lo hi none n).1=((HT.cg n 0 lo:Nat):Int)∧(sliceBounds lo hi none n).2.1=((HT.cg n n hi:Nat):Int)∧(sliceBounds lo hi none n).2.2=1:=by
 refine ⟨?_,?_,rfl⟩
 ·cases lo with
  | none=>simp [sliceBounds,HT.cg]
  | some i =>
   simp only [sliceBounds,HT.cg,Option.getD_none,show (1:Int)>0 by decide,if_true]
   by_cases h:i<0
   ·simp only [h,if_true] <;> lia
   ·simp only [h,if_false] <;> lia
 ·cases hi with
  | none=>simp [sliceBounds,HT.cg]
  | some i =>
   simp only [sliceBounds,HT.cg,Option.getD_none,show (1:Int)>0 by decide,if_true]
   by_cases h:i<0
   ·simp only [h,if_true] <;> lia
   ·simp only [h,if_false] <;> lia
theorem mU (its:List Value) (lo hi):slicePick its.toArray lo hi none=((its.drop (HT.cg its.length 0 lo)).take (HT.cg its.length its.length hi - HT.cg its.length 0 lo)).toArray:=by
 obtain ⟨h1,h2,h3⟩:=oX lo hi its.toArray.size
 unfold slicePick
 rw [h1,h2,h3]
 simp only [sliceRange_one,pick_run,O9] <;> rfl
noncomputable def NL (K:ON):V→Option Int→Option Int→Hp→VK→Prop:=fun x lo hi H Q=>∃ a xs,x=.ref a∧gX K H a xs∧∀ p,H p=none→Q (.ref p) (upd H p (.lst (oW xs lo hi)))
theorem Ep:DU X (NL X.K):=by
 intro aa s σ H x v vl vu lo hi sl Q I rx hs pl pu h
 obtain ⟨a,xs,rfl,hx,q⟩:=h
 cases rx
 obtain ⟨its,r,ht,hz⟩:=I.list hx
 have hlen:=r.length
 refine ⟨"list",_,US.lookup,ht.isList.typeIs,?_⟩
 refine wpAny_getItem_list_slice ht.isList hs pl pu .none (by simp) ?_ (by rw [O9] <;> lia)
 rw [mU,← hlen]
 refine ⟨.ref s.heap.objs.size,_,I.laid (t':=s.toks) (o:=.lst (oW xs lo hi)) (fun b ob q=>OU _ q) (OP _) ?_,rfl,q _ (I.hok.fresh (OP _))⟩
 exact ⟨OV (j7 xs lo hi) hz,_,0,(r.drop (HT.cg xs.length 0 lo)).take (HT.cg xs.length xs.length hi - HT.cg xs.length 0 lo),O6 _ rfl⟩
theorem oY:gj X (.builtin "len") (fun xs H Q=>∃ p ys,xs=[.ref p]∧(gX X.K H p ys∨c8 X.K H p ys)∧Q (.int ys.length) H):=by
 intro aa s σ H xs us Q I r h
 obtain ⟨p,ys,rfl,hq,q⟩:=h
 obtain ⟨u,rfl,rx⟩:=vals1 r
 cases rx
 have hn:=oV
 rcases hq with hq | hq
 ·obtain ⟨its,r',pl,hz⟩:=I.list hq
  have hlen:=r'.length
  exact Calls.call_len_list pl.isList (by simp only [O9] <;> lia) ⟨.int ys.length,H,I.tok _,⟨s.toks+1,by rw [O9,hlen]⟩,q⟩
 ·obtain ⟨its,r',pl,hz⟩:=I.tuple hq
  have hlen:=r'.length
  exact len_tuple pl (by simp only [O9] <;> lia) ⟨.int ys.length,H,I.tok _,⟨s.toks+1,by rw [O9,hlen]⟩,q⟩
theorem oZ:gj X (.type "list") (fun xs H Q=>∃ p ys,xs=[.ref p]∧(gX X.K H p ys∨c8 X.K H p ys)∧∀ l,H l=none→Q (.ref l) (upd H l (.lst ys))):=by
 intro aa s σ H xs us Q I r h
 obtain ⟨p,ys,rfl,hq,q⟩:=h
 obtain ⟨u,rfl,rx⟩:=vals1 r
 cases rx
 have fin:∀ (its:List Value),Vals ys its→ys.length≤sizeLine→∀ (h':Heap) (c':Nat),(∀ b o',s.heap.get? b=some o'→h'.get? b=some o') →
  h'.get? s.heap.objs.size=some { cls:=.type "list",dict:=none,data:=.seq its.toArray c',slots:= #[] }→EP X aa σ Q (.ref s.heap.objs.size) { s with heap:=h' }:=fun its r' hz h' c' kp e =>
  ⟨.ref s.heap.objs.size,_,I.laid (t':=s.toks) kp (OP _) (show bq X.prog X.w _ h' _ (.lst ys) from ⟨hz,its,c',r',e⟩),rfl,q _ (I.hok.fresh (OP _))⟩
 rcases hq with hq | hq
 ·obtain ⟨its,r',pl,hz⟩:=I.list hq
  have hlen:=r'.length
  obtain ⟨o,ho,hc,n,hd⟩:=pl.isList
  exact call_list_seq p (.inl rfl) ho hc hd (fun h' c' kp e=>fin its r' hz h' c' kp e) (by simp only [O9] <;> lia)
 ·obtain ⟨its,r',pl,hz⟩:=I.tuple hq
  have hlen:=r'.length
  obtain ⟨o,ho,hc,n,hd⟩:=pl
  exact call_list_seq p (.inr rfl) ho hc hd (fun h' c' kp e=>fin its r' hz h' c' kp e) (by simp only [O9] <;> lia)
theorem mV:gj X (.type "tuple") (fun xs H Q=>∃ p ys,xs=[.ref p]∧((gX X.K H p ys∧∀ l,H l=none→Q (.ref l) (upd H l (.tup ys)))∨(c8 X.K H p ys∧Q (.ref p) H))):=by
 intro aa s σ H xs us Q I r h
 obtain ⟨p,ys,rfl,h⟩:=h
 obtain ⟨u,rfl,rx⟩:=vals1 r
 cases rx
 rcases h with ⟨hq,q⟩ | ⟨hq,q⟩
 ·obtain ⟨its,r',pl,hz⟩:=I.list hq
  have hlen:=r'.length
  refine call_tuple_list pl.isList (fun h' kp=>?_) (by simp only [O9] <;> lia)
  have I1:Inv X aa σ H { s with heap:=h' }:=I.kept (t':=s.toks) kp
  have I2:Inv X aa σ (upd H h'.objs.size (.tup ys)) { s with heap:=h'.push { cls:=.type "tuple",data:=.seq its.toArray } } :=
   I1.laid (t':=s.toks) (fun b o e=>OU _ e) (OP _) (show bq X.prog X.w _ _ _ (.tup ys) from ⟨hz,its,r',IsTup.new _ _⟩)
  exact ⟨.ref h'.objs.size,_,I2,rfl,q _ (I1.hok.fresh (OP _))⟩
 ·obtain ⟨its,r',pl,hz⟩:=I.tuple hq
  exact call_tuple_same pl ⟨.ref p,H,I,rfl,q⟩
noncomputable def NN (K:ON) (T:String) (x:V) (H:Hp):Prop:=match x with
 | .str _=>T="str"
 | .int _=>T="int"
 | .ref p=>(T="list"∧∃ xs,gX K H p xs)∨(T="tuple"∧∃ o,K.lookup p=some o∧o.cls=.type "tuple"∧o.dict=none) ∨
  (T="dict"∧((∃ kvs,H p=some (.dK kvs))∨∃ kvs,H p=some (.dT kvs)))∨(T="set"∧∃ S n,H p=some (.set S n))
 | _=>False
theorem Ah (I:Inv X aa σ H s) (r:RelV x v) (ty:NN X.K T x H) :
 s.TypeIs v T∧∀ a,v=.ref a→∃ ob,s.heap.get? a=some ob∧ob.dict=none:=by
 cases x with
 | str z =>
  obtain ⟨t,rfl⟩:=r
  cases (show T="str" from ty)
  exact ⟨typeIs_str s z t,fun _ e=>nomatch e⟩
 | int i =>
  obtain ⟨t,rfl⟩:=r
  cases (show T="int" from ty)
  exact ⟨R3 s i t,fun _ e=>nomatch e⟩
 | ref p =>
  cases r
  rcases ty with ⟨rfl,xs,hq⟩ | ⟨rfl,o,hk,hc,hd⟩ | ⟨rfl,hk⟩ | ⟨rfl,S,n,hk⟩
  ·obtain ⟨its,_,pl,_⟩:=I.list hq
   refine ⟨pl.isList.typeIs,fun a e=>?_⟩
   cases e
   obtain ⟨o,n,e,c,hd,_⟩:=pl
   exact ⟨o,e,hd⟩
  ·refine ⟨⟨o,I.oU p o hk,hc⟩,fun a e=>?_⟩
   cases e
   exact ⟨o,I.oU _ o hk,hd⟩
  ·have z:∃ o,s.heap.get? p=some o∧o.ExactDict:=by
    rcases hk with ⟨kvs,hk⟩ | ⟨kvs,hk⟩
    ·obtain ⟨_,_,_,_,o,_,_,e,ex,_⟩:=I.hok p _ hk
     exact ⟨o,e,ex⟩
    ·obtain ⟨_,_,_,_,o,_,_,e,ex,_⟩:=I.hok p _ hk
     exact ⟨o,e,ex⟩
   obtain ⟨o,e,ex⟩:=z
   refine ⟨⟨o,e,ex.1⟩,fun a e2=>?_⟩
   cases e2
   exact ⟨o,e,ex.2.1⟩
  ·obtain ⟨o,_,_,_,e,ex,_⟩:=I.hok p _ hk
   refine ⟨⟨o,e,ex.1⟩,fun a e2=>?_⟩
   cases e2
   exact ⟨o,e,ex.2.1⟩
 | _=>exact PZ ty
noncomputable def NO (K:ON) (T:String) (r:V→List V→Hp→VK→Prop) (to:TE):TE:=fun σ H Q=>to σ H fun x H1=>NN K T x H1∧r x [] H1 Q
noncomputable def OF (K:ON) (T:String) (r:V→List V→Hp→VK→Prop) (to:TE) (t:TA):TE:=fun σ H Q=>to σ H fun x H1=>NN K T x H1∧t σ H1 fun xs H2=>r x xs H2 Q
variable {T id:String}
theorem Ia (pa:PlainAttrs T) (slot:Slot T name id) (hty:typeOf (.builtin id)=pure (.type "method_descriptor")) (hm:NI X id r) (ho:PE X o to)
 (hbase:attributeBase o name X.env (eval o X.env)=eval o X.env:=by rfl) (hline:(apos.endLine == cpos.line)=true:=by rfl):PE X (.Call (.Attribute o name apos) [] [] cpos) (NO X.K T r to):=by
 intro aa s σ H Q I h
 refine wpAny_Call_method0_late hbase hline (bJ (ho aa s σ H _ I h) fun v s1 ⟨x,H1,I1,r1,ty,q1⟩=>?_)
 obtain ⟨h1,h2⟩:=Ah I1 r1 ty
 exact ⟨T,id,pa,slot,hty,h1,h2,UB rfl (PySem.evalArgs_none (hm aa s1 σ H1 x [] v [] Q I1 r1 .nil q1))⟩
theorem GD (pa:PlainAttrs T) (slot:Slot T name id) (hty:typeOf (.builtin id)=pure (.type "method_descriptor")) (hm:NI X id r) (ho:PE X o to) (ha:PA X (e::es) t)
 (hbase:attributeBase o name X.env (eval o X.env)=eval o X.env:=by rfl)
 (hfew:((backTo cpos (starEach (e::es) X.env)).all (fun x=> !x.1) && (backToKw cpos (keywordEach [] X.env)).all (fun x=>x.1.isSome)
   && decide ((e::es).length+([]:List Keyword).length+(if ([]:List Keyword).isEmpty then 0 else 1)<30))=true:=by rfl)
 (hline:(apos.endLine == cpos.line)=true:=by rfl) (hs:starEach (e::es) X.env=(false,eval e X.env)::starEach es X.env:=by rfl) (hplain:(backTo cpos (starEach es X.env)).any (·.1)=false:=by rfl) :
 PE X (.Call (.Attribute o name apos) (e::es) [] cpos) (OF X.K T r to t):=by
 intro aa s σ H Q I h
 refine wpAny_Call_method_late hbase hfew hline rfl (bJ (ho aa s σ H _ I h) fun v s1 ⟨x,H1,I1,r1,ty,q1⟩=>?_)
 obtain ⟨h1,h2⟩:=Ah I1 r1 ty
 refine ⟨T,id,pa,slot,hty,h1,h2,?_⟩
 have hA:=ha cpos aa s1 σ H1 _ I1 q1
 rw [hs] at hA ⊢
 refine UB (by show (false || (backTo cpos (starEach es X.env)).any (·.1))=false; rw [hplain] <;> rfl) (Calls.evalArgs_plain ?_)
 exact bJ hA fun us s2 ⟨vs,H2,I2,r2,q2⟩=>hm aa s2 σ H2 x vs v us Q I2 r1 r2 q2
end
noncomputable def Oj (X:Cx) (id:String) (r:V→List V→Hp→VK→Prop):Prop :=
 ∀ (aa:List (Addr×Obj)) (s:Shared) (σ:St) (H:Hp) (x:V) (xs:List V) (v:Value) (us:List Value) (Q:VK),Inv X aa σ H s→RelV x v→Vals xs us→r x xs H Q →
  wpAny (model X.prog X.w) X.A (call (.builtin id) (v::us)) (EP X aa σ Q) X.xe s
theorem Vals.one:∀ {x:V} {us:List Value},Vals [x] us→∃ u,us=[u]∧RelV x u
 | _,_,.cons r .nil=>⟨_,rfl,r⟩
theorem Vals.rep (h:Vals xs us):∀ k:Nat,Vals (OX k xs).flatten (OX k us).flatten
 | 0=>.nil
 | k+1=>by
  rw [Qu,Qu,Q2,Q2]
  exact Vals.append h (Vals.rep h k)
theorem foldl_rep (its):∀ (k:Nat) (acc:List Value),
 R5 (fun x1 x2=>x1++x2) acc.toArray (OX k its.toArray)=(acc++(OX k its).flatten).toArray
 | 0,acc=>by simp
 | k+1,acc=>by
  have e:acc.toArray++its.toArray=(acc++its).toArray:=by simp
  have e2:(acc++its)++(OX k its).flatten=acc++(OX (k+1) its).flatten:=by
   rw [Qu,Q2,Pd]
  rw [← e2,← foldl_rep its k (acc++its),← e,Qu,Qo]
section
theorem Inv.uh {its its':List Value} (I:Inv X aa σ H s) (hH:H l=some (.lst xs))
 (e:s.heap.get? l=some { cls:=.type "list",data:=.seq its.toArray n }) (hf:f its.toArray=its'.toArray) (hv:Vals ys its') (hz:ys.length≤sizeLine) :
 Inv X aa σ (upd H l (.lst ys)) { s with heap:=s.heap.update l (Pw f),toks:=t' }:=by
 have q:=PySem.IsL.update e f
 rw [hf] at q
 refine I.write (x:=l) (e:=l) (by rw [hH]; exact trivial) (.inl rfl) (fun b' u hb hu=>(Tc s.heap (Pw f) (Pf hb)).trans hu) ⟨_,q⟩ ?_
 exact ⟨hz,its',_,hv,q⟩
theorem Inv.Er (I:Inv X aa σ H s) (hv:Vals ys its) (hz:ys.length≤sizeLine) :
 Inv X aa σ (upd H s.heap.objs.size (.lst ys)) { s with heap:=s.heap.push { cls:=.type "list",data:=.seq its.toArray },toks:=t' } :=
 I.laid (fun _ _ q=>OU _ q) (OP _) ⟨hz,its,0,hv,O6 _ rfl⟩
theorem Inv.fresh (I:Inv X aa σ H s):H s.heap.objs.size=none:=I.hok.fresh (OP _)
theorem Inv.qE (I:Inv X aa σ H s) (hH:H l=some (.lst xs)):xs.length≤sizeLine∧∃ (its:List Value) (n:Nat),Vals xs its∧xs.length=its.length∧s.heap.get? l=some { cls:=.type "list",data:=.seq its.toArray n }:=by
 obtain ⟨z,its,n,r,e⟩:=I.hok l _ hH
 exact ⟨z,its,n,r,r.length,e⟩
theorem Ai (h:n≤sizeLine):Uu n=false:=by
 unfold Uu
 exact decide_eq_false (by lia)
end
section
noncomputable def Es:V→List V→Hp→VK→Prop:=fun x vs H Q=>∃ l xs y,x=.ref l∧vs=[y]∧H l=some (.lst xs)∧xs.length<sizeLine∧Q .non (upd H l (.lst (xs++[y])))
theorem nK:Oj X "list.append" Es:=by
 intro aa s σ H x vs v us Q I rx rv h
 obtain ⟨l,xs,y,rfl,rfl,hH,hz,q⟩:=h
 cases rx
 obtain ⟨u,rfl,ru⟩:=rv.one
 obtain ⟨z,its,n,r,hl,e⟩:=I.qE hH
 refine R4 F.slot_list_append ⟨_,e,rfl⟩ F.entry_list_append (F.args_list_append_2 _ _) (PySem.list_append l its.toArray n u (by rw [O9]; lia)) ⟨e,?_⟩
 refine ⟨.non,_,I.uh (its':=its++[u]) hH e (by simp) (r.append (.cons ru .nil)) ?_,rfl,q⟩
 rw [Py,RK]
 lia
noncomputable def NP:R2:=fun x y H Q=>∃ l k xs,x=.ref l∧y=.int k∧H l=some (.lst xs)∧ -(2 ^ 63)≤k∧k<2 ^ 63∧xs.length * k.toNat≤sizeLine ∧
 ∀ p,H p=none→Q (.ref p) (upd H p (.lst (OX k.toNat xs).flatten))
theorem len_rep {α:Type} (xs:List α) (k):(OX k xs).flatten.length=k * xs.length:=by
 induction k with
 | zero=>simp
 | succ k ih=>rw [Qu,Q2,Py,ih,SD,Nat.add_comm]
theorem Ib:fM X (binaryOp .Mult) NP:=by
 intro aa s σ H x y v u Q I rx ry h
 obtain ⟨l,k,xs,rfl,rfl,hH,h1,h2,hz,q⟩:=h
 cases rx
 obtain ⟨t,rfl⟩:=ry
 obtain ⟨z,its,n,r,hl,e⟩:=I.qE hH
 have hlen:its.toArray.size * k.toNat≤sizeLine:=by rw [O9,← hl]; exact hz
 have hcap:¬ its.toArray.size * k.toNat>(2 ^ 63 - 1) / 8:=by
  have:(sizeLine:Nat)≤(2 ^ 63 - 1) / 8:=by decide
  lia
 have hfit:¬ (!Builtin.List.listFitsIndex k)=true:=by
  rw [fitsIndex_both h1 h2]
  exact O0
 have hlong:¬ Uu (its.toArray.size * k.toNat)=true:=by
  rw [Ai hlen]
  exact O0
 have hnew:R5 (fun x1 x2=>x1++x2) #[] (OX (if its.toArray.isEmpty=true then 0 else k.toNat) its.toArray)=(OX k.toNat its).flatten.toArray:=by
  have f0:∀ m:Nat,R5 (fun x1 x2=>x1++x2) #[] (OX m its.toArray)=(OX m its).flatten.toArray:=fun m=>by
   have:=foldl_rep its m []
   rw [Q3] at this
   exact this
  rw [f0]
  cases its with
  | nil=>simp
  | cons a r'=>rw [if_neg (by simp)]
 refine wpAny_binaryOp_repeat_ref (T:="list") (U:="int") (by decide) ⟨_,e,rfl⟩ (fun s'=>R3 s' k t) noFill_list_mul F.fills_int_mul TV repeat_list F.slot_int_index.lookup
  (R4 TV (R3 s k t) F.entry_int_rmul (F.args_int_rmul_2 _ _) (int___rmul___int_list k t l its.toArray n)
    ⟨e,rfl,⟨_,e,rfl⟩,R4 F.slot_list_mul ⟨_,e,rfl⟩ F.entry_list_mul (F.args_list_mul_2 _ _) (AutoListH.list___mul___list_int_3 l its.toArray n k t hfit hcap hlong) ⟨e,?_⟩⟩)
 rw [hnew]
 exact ⟨.ref _,_,I.Er (t':=s.toks) (r.rep k.toNat) (by rw [len_rep,SE]; exact hz),rfl,q _ I.fresh⟩
end
section
end
section
end
section
variable {κ:Type} [DecidableEq κ]
noncomputable def k6 (kvs:List (κ×V)) (k:κ):Option V:=(kvs.find? fun kv=>decide (kv.1=k)).map (·.2)
noncomputable def putK (kvs:List (κ×V)) (k:κ) (v:V):List (κ×V) :=
 if (kvs.any fun kv=>decide (kv.1=k))=true then kvs.map (fun kv=>if kv.1=k then (kv.1,v) else kv) else kvs++[(k,v)]
theorem k7 {p:κ×V} {r:List (κ×V)} {k:κ} (e:p.1=k):k6 (p::r) k=some p.2:=by simp [k6,Qx,e]
theorem k8 {p:κ×V} {r:List (κ×V)} {k:κ} (e:¬ p.1=k):k6 (p::r) k=k6 r k:=by simp [k6,Qx,e]
theorem qF (k:κ):∀ kvs:List (κ×V),(kvs.any fun kv=>decide (kv.1=k))=(k6 kvs k).isSome
 | []=>rfl
 | p::r=>by
  rw [List.any_cons]
  by_cases e:p.1=k
  ·simp only [k7 e,decide_eq_true e,Bool.true_or,Option.isSome_some]
  ·rw [k8 e,decide_eq_false e,Bool.false_or]; exact qF k r
theorem qG (kvs) (k:κ) (v):(putK kvs k v).length≤kvs.length+1:=by
 unfold putK
 split
 ·rw [OT]; lia
 ·rw [Py,Pr,QD]; lia
theorem kh.jG (r:kh o u):o.isSome=u.isSome:=by
 cases o with
 | none=>cases u with
  | none=>rfl
  | some _=>exact (show False from r).elim
 | some _=>cases u with
  | none=>exact (show False from r).elim
  | some _=>rfl
theorem kh.getD (r:kh o u) (rd:RelV d d'):RelV (o.getD d) (u.getD d'):=by
 cases o with
 | none=>cases u with
  | none=>exact rd
  | some _=>exact (show False from r).elim
 | some _=>cases u with
  | none=>exact (show False from r).elim
  | some _=>exact r
theorem KV.val (r:KV kvs vs) (k:κ):kh (k6 kvs k) (valueAt vs k):=by
 unfold KV at r
 induction r with
 | nil=>exact QL
 | @cons p q ps qs h t ih =>
  obtain ⟨h1,h2⟩:=h
  by_cases e:p.1=k
  ·have e':q.1=k:=h1.symm.trans e
   have b:valueAt (q::qs) k=some q.2:=by simp [valueAt,Qx,e']
   rw [k7 e,b]; exact h2
  ·have e':¬ q.1=k:=fun z=>e (h1.trans z)
   have b:valueAt (q::qs) k=valueAt qs k:=by simp [valueAt,Qx,e']
   rw [k8 e,b]; exact ih
theorem KV.any (r:KV kvs vs) (k:κ):(kvs.any fun kv=>decide (kv.1=k))=vs.any fun kv=>decide (kv.1=k):=by
 unfold KV at r
 induction r with
 | nil=>rfl
 | cons h t ih=>rw [List.any_cons,List.any_cons,ih,h.1]
theorem KV.repl (r:KV kvs vs) (k:κ) (ry:RelV y u) :
 KV (kvs.map fun kv=>if kv.1=k then (kv.1,y) else kv) (vs.map fun kv=>if kv.1=k then (kv.1,u) else kv):=by
 unfold KV at r ⊢
 induction r with
 | nil=>exact .nil
 | @cons p q ps qs h t ih =>
  rw [OS,OS]
  refine .cons ?_ ih
  obtain ⟨h1,h2⟩:=h
  by_cases e:p.1=k
  ·rw [if_pos e,if_pos (h1.symm.trans e)]; exact ⟨h1,ry⟩
  ·rw [if_neg e,if_neg (fun z=>e (h1.trans z))]; exact ⟨h1,h2⟩
theorem KV.put (r:KV kvs vs) (k:κ) (ry:RelV y u):KV (putK kvs k y) (stored vs k u):=by
 unfold putK stored
 rw [r.any k]
 by_cases e:(vs.any fun kv=>decide (kv.1=k))=true
 ·rw [if_pos e,if_pos e]; exact r.repl k ry
 ·rw [if_neg e,if_neg e]; exact Uh r ⟨rfl,ry⟩
theorem KV.length {kvs:List (κ×V)} {vs:List (κ×Value)} (r:KV kvs vs):kvs.length=vs.length:=Qj r
end
theorem qH (r:RelV (kV k) u):(bV P w).is k u=true:=by
 cases k with
 | inl i=>obtain ⟨t,e⟩:=(show ∃ t,u=SM i t from r); subst e; exact qy P w i t
 | inr x=>obtain ⟨t,e⟩:=(show ∃ t,u=SK x t from r); subst e; exact qz P w x t
theorem nL:∀ {ks:List Key} {us:List Value},Vals (ks.map kV) us→ItemsAre (bV P w) ks us
 | [],_,r=>by rw [Ra] at r; cases r; exact .nil
 | k::ks,_,r=>by
  rw [OS] at r
  cases r with
  | cons h t=>exact .cons (qH h) (nL t)
noncomputable abbrev KT:List (List Key×Addr×V)→List (List Key×Addr×Value)→Prop:=Paired fun p q=>p.1=q.1∧p.2.1=q.2.1∧RelV p.2.2 q.2.2
noncomputable def atT (kvs:List (List Key×Addr×V)) (k:List Key):Option V:=(kvs.find? fun kv=>decide (kv.1=k)).map (·.2.2)
noncomputable def o4 (k:List Key) (v:V) (x:List Key×Addr×V):List Key×Addr×V:=if x.1=k then (x.1,x.2.1,v) else x
noncomputable def qI (kvs:List (List Key×Addr×V)) (k:List Key) (b:Addr) (v:V):List (List Key×Addr×V) :=
 if (atT kvs k).isSome=true then kvs.map (o4 k v) else kvs++[(k,b,v)]
theorem qJ (kvs) (k) (b) (v):(qI kvs k b v).length≤kvs.length+1:=by
 unfold qI
 split
 ·rw [OT]; lia
 ·rw [Py,Pr,QD]; lia
theorem KT.val (r:KT kvs xs) (k):kh (atT kvs k) ((atKey xs k).map (·.2)):=by
 induction r with
 | nil=>exact QL
 | @cons p q ps qs h t ih =>
  obtain ⟨h1,_,h2⟩:=h
  by_cases e:p.1=k
  ·have e':q.1=k:=h1.symm.trans e
   have b:atKey (q::qs) k=some q.2:=by simp [atKey,Qx,e']
   have b2:atT (p::ps) k=some p.2.2:=by simp [atT,Qx,e]
   rw [b2,b]; exact h2
  ·have e':¬ q.1=k:=fun z=>e (h1.trans z)
   have b:atKey (q::qs) k=atKey qs k:=by simp [atKey,Qx,e']
   have b2:atT (p::ps) k=atT ps k:=by simp [atT,Qx,e]
   rw [b2,b]; exact ih
theorem KT.repl (r:KT kvs xs) (k) (ry:RelV y u) :
 KT (kvs.map (o4 k y)) (xs.map (putAt k u)):=by
 induction r with
 | nil=>exact .nil
 | @cons p q ps qs h t ih =>
  rw [OS,OS]
  refine .cons ?_ ih
  obtain ⟨h1,h2,h3⟩:=h
  unfold putAt o4
  by_cases e:p.1=k
  ·rw [if_pos e,if_pos (h1.symm.trans e)]; exact ⟨h1,h2,ry⟩
  ·rw [if_neg e,if_neg (fun z=>e (h1.trans z))]; exact ⟨h1,h2,h3⟩
theorem KT.put (r:KT kvs xs) (k) (ry:RelV y u) :
 KT (qI kvs k b y) (storedH xs k b u):=by
 have e:(atT kvs k).isSome=(atKey xs k).isSome:=by
  rw [(r.val k).jG,Rn]
 unfold qI storedH
 rw [e]
 by_cases q:(atKey xs k).isSome=true
 ·rw [if_pos q,if_pos q]; exact r.repl k ry
 ·rw [if_neg q,if_neg q]; exact Uh r ⟨rfl,rfl,ry⟩
section
theorem Aj (ok:jC P w H h) (e:Rd H a u):bq P w H h a u:=e.ok ok
theorem nM (ok:jC P w H h) (e:Rd H a (.dK kvs)):kvs.length≤sizeLine∧(a == sysModules)=false∧∃ vs,KV kvs vs∧h.DictOf (bV P w) a vs :=
 show bq P w H h a (.dK kvs) from Aj ok e
theorem Lh (ok:jC P w H h) (e:H a=some (.dK kvs)):kvs.length≤sizeLine∧(a == sysModules)=false∧∃ vs,KV kvs vs∧h.DictOf (bV P w) a vs:=nM ok (.inl e)
end
section
theorem k9 (I:Inv X aa σ H s) (e:c8 X.K H a (ks.map kV)):(tupleKind (bV X.prog X.w)).is s.heap ks a:=by
 obtain ⟨its,r,⟨o,h1,h2,n,h3⟩,_⟩:=I.tuple e
 exact ⟨o,its.toArray,n,h1,h2,h3,by simpa using nL r⟩
theorem qK (I:Inv X aa σ H s) (e:Rd H a (.dT kvs)) (hk:∀ x∈kvs,c8 X.K H x.2.1 (x.1.map kV)):kvs.length≤sizeLine∧(a == sysModules)=false ∧
 ∃ xs,KT kvs xs∧s.heap.DictOfH (tupleKind (bV X.prog X.w)) a xs:=by
 obtain ⟨z,y,xs,r,o,es,ep,h1,h2,h3,h4,h5⟩:=(show bq X.prog X.w H s.heap a (.dT kvs) from Aj I.hok e)
 refine ⟨z,y,xs,r,o,es,ep,h1,h2,h3,h4,?_,h5⟩
 have all:∀ {l:List (List Key×Addr×V)} {m:List (List Key×Addr×Value)},KT l m→(∀ x∈l,c8 X.K H x.2.1 (x.1.map kV))→∀ x∈m,(tupleKind (bV X.prog X.w)).is s.heap x.1 x.2.1:=by
  intro l m q
  induction q with
  | nil=>intro _ x hx; exact nomatch hx
  | @cons p q ps qs hq t ih =>
   intro hl x hx
   rcases O5.mp hx with e | hx
   ·subst e
    rw [← hq.1,← hq.2.1]
    exact k9 I (hl p O1)
   ·exact ih (fun y hy=>hl y (O2 _ hy)) x hx
 exact all r hk
end
noncomputable def o5 (K:ON) (H:Hp) (a:Addr) (y:V) (r:Option V):Prop :=
 (∃ kvs k,Rd H a (.dK kvs)∧y=kV k∧r=k6 kvs k)∨∃ kvs k b,Rd H a (.dT kvs)∧(∀ x∈kvs,c8 K H x.2.1 (x.1.map kV))∧y=.ref b∧c8 K H b (k.map kV)∧r=atT kvs k
noncomputable def Et (K:ON) (H:Hp) (a:Addr) (y v:V) (H':Hp):Prop :=
 (∃ kvs k,H a=some (.dK kvs)∧y=kV k∧kvs.length<sizeLine∧H'=upd H a (.dK (putK kvs k v))) ∨
 ∃ kvs k b,H a=some (.dT kvs)∧(∀ x∈kvs,c8 K H x.2.1 (x.1.map kV))∧y=.ref b∧c8 K H b (k.map kV)∧kvs.length<sizeLine∧H'=upd H a (.dT (qI kvs k b v))
section
theorem Inv.big (I:Inv X aa σ H s):sysModules<s.heap.objs.size:=by
 have h:mainGlobals<s.heap.objs.size:=(I.mod.glob.keeps I.bk).lt
 exact Nat.lt_trans (by decide) h
theorem nN (hu:A.units+1<cLine) (I:Inv X aa σ H s) (g:o5 X.K H a y (some v)) (ry:RelV y u) (h:∀ w' s',Inv X aa σ H s'→RelV v w'→Q w' s') :
 wpAny (model X.prog X.w) A (getItem (.ref a) u) Q E s:=by
 rcases g with ⟨kvs,k,e,ey,l⟩ | ⟨kvs,k,b,e,hk,ey,eb,l⟩
 ·subst ey
  obtain ⟨z,hd,vs,rel,dd⟩:=nM I.hok e
  obtain ⟨w',hw,rw'⟩:=kh.some_of (v:=v) (o:=valueAt vs k) (by rw [l]; exact rel.val k)
  exact wpAny_getItem_of (qH ry) dd.mapOf hw (h w' _ (I.tok _) rw')
 ·subst ey
  cases (show u=Pe b from ry)
  obtain ⟨z,hd,xs,rel,dd⟩:=qK I e hk
  obtain ⟨w',hw,rw'⟩:=kh.some_of (v:=v) (o:=(atKey xs k).map (·.2)) (by rw [l]; exact rel.val k)
  obtain ⟨p,hp,hp2⟩:=O4.mp hw
  refine wpAny_getItem_heap (Ti hu) (k9 I eb) dd hp ?_
  rw [hp2]
  exact h w' _ (I.tok _) rw'
theorem NQ (hu:A.units+1<cLine) (I:Inv X aa σ H s) (g:o5 X.K H a y o) (ry:RelV y u) (h:∀ s',Inv X aa σ H s'→Q (.bool o.isSome) s') :
 wpAny (model X.prog X.w) A (compareOp .In u (.ref a)) Q E s:=by
 rcases g with ⟨kvs,k,e,ey,l⟩ | ⟨kvs,k,b,e,hk,ey,eb,l⟩
 ·subst ey
  obtain ⟨z,hd,vs,rel,dd⟩:=nM I.hok e
  refine wpAny_in_of (qH ry) hd dd.mapOf ?_
  rw [← (rel.val k).jG,← l]
  exact h _ (I.tok _)
 ·subst ey
  cases (show u=Pe b from ry)
  obtain ⟨z,hd,xs,rel,dd⟩:=qK I e hk
  refine wpAny_in_heap (Ti hu) (k9 I eb) hd dd ?_
  have q:=(rel.val k).jG
  rw [Rn] at q
  rw [← q,← l]
  exact h _ (I.tok _)
theorem vR (I:Inv X aa σ H s) (mu:KR (H a)) (hs:QG a s.heap h') (he:∃ q,h'.get? a=some q) (new:bq X.prog X.w (upd H a ob) h' a ob) :
 Inv X aa σ (upd H a ob) { s with heap:=h',toks:=t' } :=
 I.write (x:=a) (e:=a) mu (.inl rfl) (fun b q hb z=>(hs.2 b hb).trans z) he new
theorem Ic (z:kvs.length≤sizeLine) (hd:(a == sysModules)=false) (rel:KV kvs vs) (dd:h'.DictOf (bV P w) a vs) :
 bq P w H' h' a (.dK kvs):=⟨z,hd,vs,rel,dd⟩
theorem nO (hu:A.units+1<cLine) (I:Inv X aa σ H s) (g:Et X.K H a y v H') (ry:RelV y u) (rv:RelV v r) (h:∀ s',Inv X aa σ H' s'→Q () s') :
 wpAny (model X.prog X.w) A (setItem (.ref a) u r) Q E s:=by
 rcases g with ⟨kvs,k,e,ey,l,eH⟩ | ⟨kvs,k,b,e,hk,ey,eb,l,eH⟩
 ·subst ey eH
  obtain ⟨z,hd,vs,rel,dd⟩:=Lh I.hok e
  have hz:vs.length≤sizeLine:=by rw [← rel.length]; exact z
  have hl:(putK kvs k v).length≤sizeLine:=by have:=qG kvs k v; lia
  refine wpAny_setItem_pairs (hsz:=hz) (qH ry) dd fun h' dd' hs=>h _ ?_
  have he:∃ q,h'.get? a=some q:=let ⟨q,_,_,hq,_⟩:=dd'; ⟨q,hq⟩
  exact vR I (by rw [e]; exact QL) hs he (Ic hl hd (rel.put k rv) dd')
 ·subst ey eH
  cases (show u=Pe b from ry)
  obtain ⟨z,hd,xs,rel,dd⟩:=qK I (.inl e) hk
  have hz:xs.length≤sizeLine:=by rw [← Qj rel]; exact z
  have hl:(qI kvs k b v).length≤sizeLine:=by have:=qJ kvs k b v; lia
  refine wpAny_setItem_heap (hsz:=hz) (Ti hu) (k9 I eb) dd fun h' dd' hs=>h _ ?_
  obtain ⟨q,es,ep,hq,h2,h3,h4,_,h5⟩:=dd'
  exact vR I (by rw [e]; exact QL) hs ⟨q,hq⟩ ⟨hl,hd,_,rel.put k rv,q,es,ep,hq,h2,h3,h4,h5⟩
end
section
end
noncomputable def Eu (i:Expr):Prop:=∀ ov iv,subscripted i false ov iv=operate [ov,iv] (getItem ov iv)
theorem Ew {T id:String}
 (hl:typeLookup (.type T) "__getitem__"=pure (some (.builtin id))) (hs:Eu slice)
 (h:wpAny (model prog w) A (eval value env) (fun o s₁=>wpAny (model prog w) A (eval slice env) (fun i s₂=>s₂.TypeIs o T∧wpAny (model prog w) A (getItem o i) Q E s₂) E s₁) E s) :
 wpAny (model prog w) A (eval (.Subscript value slice pos) env) Q E s:=by
 refine Subscript_ (PD h (fun o s₁ h₁=>PD h₁ (fun i s₂ h₂=>?_) fun _ _ x=>x) fun _ _ x=>x)
 obtain ⟨hT,h₂⟩:=h₂
 unfold subscriptTail
 refine OM ?_
 rw [getitemInPython_of_ne hT.not_modules]
 refine OM (wpAny_specialOf hT hl ?_)
 have fin:wpAny (model prog w) A (subscripted slice false o i) (fun r s₃=>wpAny (model prog w) A (letTemporaryGo value o r >>= fun _=>pure r) Q E s₃) E s₂:=by
  rw [hs o i]
  exact wpAny_operating (PD h₂ (fun r s₃ h₃=>OM (wpAny_letTemporaryGo (OO h₃))) fun _ _ x=>x)
 first
  | exact OO (OM fin)
  | exact OM (OO (OM fin))
  | exact OM fin
theorem qL (I:Inv X aa σ H s) (g:o5 X.K H a y o):s.TypeIs (.ref a) "dict":=by
 rcases g with ⟨kvs,k,e,_,_⟩ | ⟨kvs,k,b,e,hk,_,_,_⟩
 ·obtain ⟨_,_,vs,_,dd⟩:=nM I.hok e
  exact dd.typeIs
 ·obtain ⟨_,_,xs,_,dd⟩:=qK I e hk
  exact dd.typeIs
noncomputable def Li (X:Cx) (td ty:TE):TE:=fun σ H Q=>td σ H fun x H1=>ty σ H1 fun y H2=>∃ a v,x=.ref a∧o5 X.K H2 a y (some v)∧Q v H2
noncomputable def NR (X:Cx) (ty td:TE):TE:=fun σ H Q=>ty σ H fun y H1=>td σ H1 fun x H2=>∃ a o,x=.ref a∧o5 X.K H2 a y o∧Q (.bl o.isSome) H2
noncomputable def Lj (X:Cx) (td ty tv:TE):TS:=fun D σ H=>tv σ H fun v H1=>td σ H1 fun x H2=>ty σ H2 fun y H3=>∃ a H4,x=.ref a∧Et X.K H3 a y v H4∧D.nx σ H4
noncomputable def Lk (X:Cx) (td ty tv:TE) (rd:V→V→Hp→VK→Prop):TS:=fun D σ H=>td σ H fun x H1=>ty σ H1 fun y H2=>∃ a v,x=.ref a∧o5 X.K H2 a y (some v) ∧
 tv σ H2 fun y2 H3=>rd v y2 H3 fun z H4=>∃ H5,Et X.K H4 a y z H5∧D.nx σ H5
section
theorem vS (hu:X.A.units+1<cLine) (ho:PE X o td) (hi:PE X i ty) (hs:Eu i):PE X (.Subscript o i pos) (Li X td ty):=by
 intro aa s σ H Q I h
 refine Ew PySem.F.slot_dict_getitem.lookup hs (bJ (ho aa s σ H _ I h) fun u s1 ⟨x,H1,I1,rx,q1⟩=>bJ (hi aa s1 σ H1 _ I1 q1) fun iv s2 ⟨y,H2,I2,ry,a,v,ex,g,q2⟩=>?_)
 subst ex
 obtain rfl:u=Pe a:=rx
 exact ⟨qL I2 g,nN hu I2 g ry fun w' s3 I3 rw'=>⟨v,H2,I3,rw',q2⟩⟩
theorem Ie (hu:X.A.units+1<cLine) (hi:PE X i ty) (ho:PE X o td):PC X .In i o (NR X ty td):=by
 intro aa s σ H Q I h
 refine bJ (hi aa s σ H _ I h) fun iv s1 ⟨y,H1,I1,ry,q1⟩=>bJ (ho aa s1 σ H1 _ I1 q1) fun u s2 ⟨x,H2,I2,rx,a,ov,ex,g,q2⟩=>?_
 subst ex
 obtain rfl:u=Pe a:=rx
 exact NQ hu I2 g ry fun s3 I3=>⟨.bl ov.isSome,H2,I3,rfl,q2⟩
theorem Ey (hu:X.A.units+1<cLine) (ho:PE X o td) (hi:PE X i ty) (hv:PE X value tv) (hs:swapsWith value (some (.Subscript o i pos')) pos.line X.env=pure false) :
 PS X (.Assign [.Subscript o i pos'] value pos) (Lj X td ty tv):=by
 intro aa s σ H D I h
 refine wpAny_Assign_Subscript (bJ (hv aa s σ H _ I h) fun r s1 ⟨v,H1,I1,rv,q1⟩=>bJ (ho aa s1 σ H1 _ I1 q1) fun u s2 ⟨x,H2,I2,rx,q2⟩=>bJ (hi aa s2 σ H2 _ I2 q2) fun iv s3 ⟨y,H3,I3,ry,a,H4,ex,g,q3⟩=>?_) hs
 subst ex
 obtain rfl:u=Pe a:=rx
 exact nO hu I3 g ry rv fun s4 I4=>⟨σ,H4,I4,q3⟩
theorem Ez (hu:X.A.units+1<cLine) (ho:PE X o td) (hi:PE X i ty) (hv:PE X value tv) (hop:Ld X op rd)
 (ha:∀ ov iv new,augStore i ov iv new=(do holding [new,ov,iv] (setItem ov iv new); release [new,ov,iv] []; pure .next)):PS X (.AugAssign (.Subscript o i tpos) op value pos) (Lk X td ty tv rd):=by
 intro aa s σ H D I h
 refine wpAny_AugAssign_SubscriptAny (bJ (ho aa s σ H _ I h) fun u s1 ⟨x,H1,I1,rx,q1⟩=>bJ (hi aa s1 σ H1 _ I1 q1) fun iv s2 ⟨y,H2,I2,ry,a,v,ex,g,q2⟩=>?_) ha
 subst ex
 obtain rfl:u=Pe a:=rx
 refine nN hu I2 g ry fun w' s3 I3 rw'=>bJ (hv aa s3 σ H2 _ I3 q2) fun w2 s4 ⟨y2,H3,I4,ry2,q3⟩=>bJ (hop aa s4 σ H3 v y2 w' w2 _ I4 rw' ry2 q3) fun w3 s5 ⟨z,H4,I5,rz,H5,g5,q4⟩=>?_
 exact nO hu I5 g5 ry rz fun s6 I6=>⟨σ,H5,I6,q4⟩
end
theorem Ak (h:Heap) (hb:sysModules<h.objs.size):bq P w H (h.push { cls:=.type "dict",data:=.dict #[] }) h.objs.size (.dK []) :=
 ⟨Pn _,beq_eq_false_iff_ne.mpr (Pf (Pk hb)),[],.nil,Heap.DictOf.new h⟩
theorem Al (h:Heap) (hb:sysModules<h.objs.size):bq P w H (h.push { cls:=.type "dict",data:=.dict #[] }) h.objs.size (.dT []) :=
 ⟨Pn _,beq_eq_false_iff_ne.mpr (Pf (Pk hb)),[],.nil,_,#[],0,O6 _ rfl,⟨rfl,rfl,rfl⟩,rfl,rfl,List.nodup_nil⟩
noncomputable def Ig:TE:=fun _ H Q=>∀ p,H p=none→Q (.ref p) (upd H p (.dK []))
noncomputable def Ih:TE:=fun _ H Q=>∀ p,H p=none→Q (.ref p) (upd H p (.dT []))
section
theorem Am:PE X (.Dict [] [] pos) Ig:=fun aa s σ H Q I h =>
 wpAny_Dict_empty ⟨.ref s.heap.objs.size,_,I.laid (a:=s.heap.objs.size) (o:=.dK []) (t':=s.toks) (fun _ _ q=>OU _ q) (OP _) (Ak s.heap I.big),rfl,h _ (I.hok.fresh (OP _))⟩
theorem An:PE X (.Dict [] [] pos) Ih:=fun aa s σ H Q I h =>
 wpAny_Dict_empty ⟨.ref s.heap.objs.size,_,I.laid (a:=s.heap.objs.size) (o:=.dT []) (t':=s.toks) (fun _ _ q=>OU _ q) (OP _) (Al s.heap I.big),rfl,h _ (I.hok.fresh (OP _))⟩
end
structure M1 (X:Cx) (o:Expr) (m:Str) (apos:Pos) (e:Expr) (cpos:Pos):Prop where
 base:attributeBase o m X.env (eval o X.env)=eval o X.env
 few:((backTo cpos (starEach [e] X.env)).all (fun x=> !x.1) && (backToKw cpos (keywordEach [] X.env)).all (fun x=>x.1.isSome)
  && decide (([e]:List Expr).length+([]:List Keyword).length+(if ([]:List Keyword).isEmpty then 0 else 1)<30))=true
 line:(apos.endLine == cpos.line)=true
 trees:backTo cpos (starEach [e] X.env)=[(false,eval e X.env)]
structure M2 (X:Cx) (o:Expr) (m:Str) (apos:Pos) (e f:Expr) (cpos:Pos):Prop where
 base:attributeBase o m X.env (eval o X.env)=eval o X.env
 few:((backTo cpos (starEach [e,f] X.env)).all (fun x=> !x.1) && (backToKw cpos (keywordEach [] X.env)).all (fun x=>x.1.isSome)
  && decide (([e,f]:List Expr).length+([]:List Keyword).length+(if ([]:List Keyword).isEmpty then 0 else 1)<30))=true
 line:(apos.endLine == cpos.line)=true
 trees:backTo cpos (starEach [e,f] X.env)=[(false,eval e X.env),(false,eval f X.env)]
noncomputable def NS (H:Hp) (a:Addr):Prop:=(∃ kvs,Rd H a (.dK kvs))∨∃ kvs,Rd H a (.dT kvs)
theorem Ii (I:Inv X aa σ H s) (d:NS H a) :
 s.TypeIs (.ref a) "dict"∧(∀ b,Pe a=.ref b→∃ ob,s.heap.get? b=some ob∧ob.dict=none)∧(a == sysModules)=false:=by
 rcases d with ⟨kvs,e⟩ | ⟨kvs,e⟩
 ·obtain ⟨_,hd,vs,_,dd⟩:=nM I.hok e
  refine ⟨dd.typeIs,fun b q=>?_,hd⟩
  cases q
  obtain ⟨ob,_,_,h1,h2,_⟩:=dd
  exact ⟨ob,h1,h2.2.1⟩
 ·obtain ⟨_,hd,xs,_,ob,es,ep,h1,h2,_⟩:=(show bq X.prog X.w H s.heap a (.dT kvs) from Aj I.hok e)
  refine ⟨⟨ob,h1,h2.1⟩,fun b q=>?_,hd⟩
  cases q
  exact ⟨ob,h1,h2.2.1⟩
section
theorem Ij (hu:A.units+1<cLine) (I:Inv X aa σ H s) (g:o5 X.K H a y o) (ry:RelV y u) (rd:RelV d r) (h:∀ w' s',Inv X aa σ H s'→RelV (o.getD d) w'→Q w' s') :
 wpAny (model X.prog X.w) A (call (.builtin "dict.get") [.ref a,u,r]) Q E s:=by
 rcases g with ⟨kvs,k,e,ey,l⟩ | ⟨kvs,k,b,e,hk,ey,eb,l⟩
 ·subst ey
  obtain ⟨z,hd,vs,rel,dd⟩:=nM I.hok e
  refine call_meetsIn UD dd.typeIs PySem.F.entry_dict_get (PySem.F.args_dict_get_3 _ _ _) (meets_dict_get_default (bV X.prog X.w) a (qH ry) hd r) ⟨_,dd.mapOf,h _ _ (I.tok _) ?_⟩
  rw [l]
  exact (rel.val k).getD rd
 ·subst ey
  cases (show u=Pe b from ry)
  obtain ⟨z,hd,xs,rel,dd⟩:=qK I e hk
  refine call_meetsIn UD dd.typeIs PySem.F.entry_dict_get (PySem.F.args_dict_get_3 _ _ _) (meetsH_dict_get_default (tupleKind (bV X.prog X.w)) a b hd r) ⟨Ti hu,k,xs,k9 I eb,dd,h _ _ (I.tok _) ?_⟩
  rw [l]
  exact (rel.val k).getD rd
end
noncomputable def Ik (X:Cx) (td ty tx:TE):TE:=fun σ H Q=>td σ H fun x H1=>∃ a,x=.ref a∧NS H1 a∧ty σ H1 fun y H2=>tx σ H2 fun z H3=>∃ o,o5 X.K H3 a y o∧Q (o.getD z) H3
section
theorem Ao (hu:X.A.units+1<cLine) (ho:PE X o td) (he:PE X e ty) (hf:PE X f tx) (m:M2 X o "get" apos e f cpos):PE X (.Call (.Attribute o "get" apos) [e,f] [] cpos) (Ik X td ty tx):=by
 intro aa s σ H Q I h
 refine wpAny_Call_method m.base m.few m.line PySem.F.plainAttrs_dict UD PySem.F.type_dict_get (bJ (ho aa s σ H _ I h) fun u s1 ⟨x,H1,I1,rx,a,ex,d,q1⟩=>?_)
 subst ex
 obtain rfl:u=Pe a:=rx
 obtain ⟨t1,t2,_⟩:=Ii I1 d
 refine ⟨t1,t2,?_⟩
 rw [m.trees]
 refine UB rfl (Calls.evalArgs_plain (UO (bJ (he aa s1 σ H1 _ I1 q1) fun iv s2 ⟨y,H2,I2,ry,q2⟩ =>
  UO (bJ (hf aa s2 σ H2 _ I2 q2) fun fv s3 ⟨z,H3,I3,rz,ov,g,q3⟩=>Calls.spliced_nil ?_))))
 exact Ij hu I3 g ry rz fun w' s4 I4 rw'=>⟨_,H3,I4,rw',q3⟩
end
section
end
section
end
end L2
namespace Att
open PySem PySem.W PySem.Calls PyProof.Rows
theorem ki:∀ (ns:List Int) (vs:List Value),WellAll P h vs (ns.map WData.int)→IntsAre vs ns:=by
 intro ns
 induction ns with
 | nil =>
  intro vs w
  rw [Ra] at w
  cases w
  exact .nil
 | cons n ns ih =>
  intro vs w
  rw [OS] at w
  cases w with
  | cons a b =>
   cases a
   exact .cons _ _ (ih _ b)
theorem x6 {l:OpenLaw} (hn:l.most=some n)
 (hpre:l.row.toRowW.claim.pre args=true) (hwl:WellAll P h vals args) :
 ∃ a vs ns,vals=[Pe a]∧args=[WData.list (ns.map WData.int)]∧h.get? a=some { cls:=.type "list",data:=.seq vs.toArray }∧IntsAre vs ns∧ns.length≤n:=by
 have hsh:WShape.hasAll [] args [.list .int]=true:=(pre_splitW hpre).1
 have hc:l.pre.holds [] { args:=args }=true:=(pre_splitW hpre).2
 obtain ⟨d,r,rfl,h1,h2⟩:=hasAllW_cons hsh
 obtain rfl:=hasAllW_nil h2
 obtain ⟨xs,rfl,h3⟩:=hasW_list h1
 obtain ⟨ns,rfl⟩:=items_int h3
 have hlen:ns.length≤n:=by
  unfold OpenLaw.pre at hc
  have h4:(WTm.not (.lt (.lit (.int (n:Int))) (.len (.arg 0)))).holds [] { args:=[.list (ns.map .int)] }=true:=by
   have h4:=(holds_andW hc).1
   rw [hn] at h4
   exact h4
  have h5:=condW_of h4 (w_not (w_lt w_lit (w_len_list (w_arg rfl))))
  rw [OT] at h5
  refine Nat.le_of_not_lt fun q=>?_
  have q':(n:Int)<((ns.length:Nat):Int):=by lia
  first
   | (rw [decide_eq_true q'] at h5; exact absurd h5 (by decide))
   | (simp at h5; lia)
 cases hwl with
 | cons w1 w2 =>
  cases w2
  cases w1 with
  | list ho hall=>exact ⟨_,_,ns,rfl,rfl,ho,ki ns _ hall,hlen⟩
theorem x8 (l:OpenLaw) (args):l.row.toRowW.claim.post args (.bool true) args=true :=
 postW_of (r:=l.row.toRowW) (X:=(true == true))
  (show WShape.has [] (.bool true) .bool=true by first | rfl | decide | simp [WShape.has,WShape.arms,WShape.armsAll])
  (show (WTm.eq .res (.lit (.bool true))).value [] { args:=args,res:=some (.bool true),after:=args }=some (.bool (true == true)) from w_eq_bool (w_res rfl) w_lit) rfl
theorem qM {l:OpenLaw}
 (hn:l.most=some n) (hdf:d.params.defaults=[])
 (call:∀ (w:World) (s₀ s₁:Shared) (mg mb:Str→Option Value) (fa:Addr) (o:Obj) (pm cd doc:Value) (a:Addr) (vs:List Value) (ns:List Int),
   Ground q loose [] XP w s₀ mg mb s₁.heap→YP w s₁.heap →
   s₁.heap.get? fa=some o→o.data=.func (docDef d.name d.params d.body d.scope pm cd doc)→s₁.heap.CodeRec cd d.name→mg d.name=some (.ref fa) →
   s₁.heap.get? a=some { cls:=.type "list",data:=.seq vs.toArray }→IntsAre vs ns→ns.length≤n→s₁.gens= #[] →
   codeAny (model l.prog w) callerA (.call (.ref fa) ⟨[.ref a],[]⟩) (fun r s'=>r=.ok (.ret (.bool true))∧OldK s₁.heap s'.heap∧s'.os=s₁.os∧AllBare s'.gens) s₁) :
 WalkO q loose XP YP l.row.toRowW d [] (fun f vs=>PySem.call f vs):=by
 intro w s₀ s₁ mg mb G Y fa o pm cd doc dV kV ho hd hcd hD hmg hg args vals as hpre hlay hrd hwl hlo
 obtain rfl:dV=.none:=Dflts.none hD hdf
 obtain rfl:kV=.none:=Dflts.noKw hD
 obtain ⟨a,vs,ns,rfl,rfl,hobj,hints,hlen⟩:=x6 hn hpre hwl
 refine enter_call (RY (call w s₀ s₁ mg mb fa o pm cd doc a vs ns G Y ho (fd_plain hd) hcd hmg hobj hints hlen hg) fun r s' hq=>?_)
 obtain ⟨rfl,h2,h3,h4⟩:=hq
 exact ⟨.inl ⟨.bool true,.bool true,[],rfl,fun _=>rfl,.bool true,x8 l _,fun _=>⟨Sk,fun _ hm=>(nomatch hm)⟩⟩,h2,h3,h4⟩
section
end
end Att
namespace L2
open PySem PySem.Spec PyProof.Rows
theorem nP:∀ {vs:List Value} {ns:List Int},IntsAre vs ns→Vals (ns.map V.int) vs
 | _,_,.nil=>.nil
 | _,_,.cons n t h=>.cons ⟨t,rfl⟩ (nP h)
noncomputable def Il (H:Hp):Prop:=∀ b,H b=none∨∃ o xs,H b=some (.frz o (.lst xs))
theorem Aq {K:ON}
 (KX:K.In s₁.heap) (hns:s₁.heap.Ns mainGlobals mg) (hb:s₁.heap.Ns builtinsNs mb) (hbb:∀ x:Str,x≠"__name__"→mb x=bootBuiltins x) (hlim:s₁.heap.NoLimit) (hg:s₁.gens= #[])
 (ha:s₁.heap.get? a=some { cls:=.type "list",data:=.seq vs.toArray }) (hi:IntsAre vs ns) (hl:ns.length≤sizeLine) (hr:iy k callerA)
 (F:∀ base:Heap,K.In base→base.Ns mainGlobals mg→bx P w K mg base CX k fa fd [x] sp) (hbind:∀ (s:Shared) (u:Value),BindsTo s fd ⟨[u],[]⟩ [(x,u)])
 (qx:∀ H:Hp,Il H→gX K H a (ns.map V.int)→sp [.ref a] H (fun v _=>v=.bl true) fun _ _ _=>False)
 (hCX:∀ H e s',CX [] H s₁ (fun _ _ _=>False) e s'→False) :
 codeAny (model P w) callerA (.call (.ref fa) ⟨[.ref a],[]⟩) (fun r s'=>r=.ok (.ret (.bool true))∧OldK s₁.heap s'.heap∧s'.os=s₁.os∧AllBare s'.gens) s₁:=by
 have rv:=nP hi
 have lenV:=hi.length
 have core:∀ H:Hp,Il H→gX K H a (ns.map V.int)→jC P w H s₁.heap→(∀ b,H b≠none→b=a)→(H a≠none→K.lookup a=none) →
  codeAny (model P w) callerA (.call (.ref fa) ⟨[.ref a],[]⟩) (fun r s'=>r=.ok (.ret (.bool true))∧OldK s₁.heap s'.heap∧s'.os=s₁.os∧AllBare s'.gens) s₁:=by
  intro H hO hS hok hA hK
  have base_of:∀ {b:Addr} {o:Obj},s₁.heap.get? b=some o→H b=none→(oS s₁.heap H).get? b=some o:=fun e n=>zO e n
  have noA:∀ {b:Addr} {o:Obj} {es:Array DictEntry} {ep:Nat},s₁.heap.get? b=some o→o.data=.dict es ep→H b=none:=fun {b o es ep} e d=>by
   cases q:H b with
   | none=>rfl
   | some u =>
    have e':b=a:=hA b (by rw [q]; simp)
    subst e'
    rw [ha] at e; cases e
    have d':Data.seq vs.toArray _=Data.dict es ep:=d
    cases d'
  have nsK:∀ {b:Addr} {m:Str→Option Value},s₁.heap.Ns b m→(oS s₁.heap H).Ns b m:=fun {b m} ⟨o,es,ep,e,d,r⟩=>⟨o,es,ep,base_of e (noA e d),d,r⟩
  have hKb:K.In (oS s₁.heap H):=fun b o e=>base_of (KX b o e) (by
   cases q:H b with
   | none=>rfl
   | some u =>
    have e':b=a:=hA b (by rw [q]; simp)
    subst e'
    rw [hK (by rw [q]; simp)] at e; cases e)
  have hM:Mod K mg (oS s₁.heap H):=⟨hKb,nsK hns,⟨mb,nsK hb,hbb⟩,let ⟨mc,h1,h2⟩:=hlim; ⟨mc,nsK h1,h2⟩⟩
  have e0:Ei P w K mg (oS s₁.heap H) callerA [] s₁ H:=⟨rfl,hM,fun b o e=>D9 e,Nat.le_of_eq (xT _ _),trivial,fun b hb=>absurd (show b∈([]:List Addr) from hb) (by simp),hok,.of_eq hg⟩
  refine RY ((F _ hKb (nsK hns)).run callerA [] s₁ H ⟨[.ref a],[]⟩ [.ref a] [.ref a] _ _ hr e0 (hbind s₁ (.ref a)) (.cons rfl .nil) (qx H hO hS)) fun r s' h=>?_
  cases r with
  | error e=>exact (hCX H e s' h).elim
  | ok fl =>
   cases fl with
   | next=>exact PZ h
   | brk=>exact PZ h
   | cont=>exact PZ h
   | ret u =>
    obtain ⟨v,H',os,bare,un,hok',r',q⟩:=h
    have q':v=.bl true:=q
    subst q'
    obtain rfl:u=Value.bool true:=r'
    refine ⟨rfl,OldK.of_keep fun b o e=>?_,os,bare⟩
    cases q:H b with
    | none=>exact un.keep b o e q (by intro z; exact absurd (show b∈([]:List Addr) from z) (by simp)) (by simp)
    | some u =>
     rcases hO b with z | ⟨ob,xs,z⟩
     ·rw [q] at z; cases z
     ·have z2:=un.frzs b ob _ z
      obtain ⟨e1,_⟩:=hok b _ z
      obtain ⟨e2,_⟩:=hok' b _ z2
      rw [e] at e1; cases e1
      exact e2
 cases hk:K.lookup a with
 | some o =>
  have e:=KX a o hk
  rw [ha] at e
  cases e
  refine core (fun _=>none) (fun _=>.inl rfl) (.inr ⟨_,vs.toArray,_,hk,rfl,rfl,rfl,by rw [O9,lenV]; exact hl,by simpa using rv⟩) (fun b u z=>by have z':(none:Option HO)=some u:=z; cases z') (fun b z=>absurd rfl z) fun z=>absurd rfl z
 | none =>
  refine core (fun b=>if b=a then some (.frz { cls:=.type "list",data:=.seq vs.toArray } (.lst (ns.map V.int))) else none) (fun b=>?_) (.inl (.inr ⟨{ cls:=.type "list",data:=.seq vs.toArray },if_pos rfl⟩)) (fun b u z=>?_) (fun b z=>?_) fun _=>hk
  ·by_cases hb:b=a
   ·exact .inr ⟨_,_,if_pos hb⟩
   ·exact .inl (if_neg hb)
  ·by_cases hb:b=a
   ·have z':=(if_pos hb).symm.trans z
    cases z'
    subst hb
    exact ⟨ha,by rw [OT]; exact hl,vs,_,rv,ha⟩
   ·have z':=(if_neg hb).symm.trans z
    cases z'
  ·by_cases hb:b=a
   ·exact hb
   ·exact absurd (if_neg hb) z
noncomputable abbrev cF {K:ON} {h:Heap} (_:K.In h):ON:=K
theorem EA {l:PySem.W.OpenLaw} {K:Params→ON} {CX:World→HW} {sp:World→Sp}
 (hn:l.most=some n) (hn2:n≤sizeLine) (hdf:d.params.defaults=[]) (hr:iy k callerA)
 (hY:∀ (w:World) (h:Heap),YP w h→(K w.params).In h)
 (F:∀ (w:World) (mg:Str→Option Value) (fa:Addr) (h:Heap),(K w.params).In h→h.Ns mainGlobals mg→mg d.name=some (.ref fa) →
   ∃ fd:FuncData,(∀ (s:Shared) (u:Value),BindsTo s fd ⟨[u],[]⟩ [(x,u)]) ∧
    ∀ base:Heap,(K w.params).In base→base.Ns mainGlobals mg→bx l.prog w (K w.params) mg base (CX w) k fa fd [x] (sp w))
 (qx:∀ (w:World) (H:Hp) (a:Addr) (ns:List Int),ns.length≤n→Il H→gX (K w.params) H a (ns.map V.int)→sp w [.ref a] H (fun v _=>v=.bl true) fun _ _ _=>False)
 (hCX:∀ (w:World) (H:Hp) (s:Shared) (e:Value) (s':Shared),CX w [] H s (fun _ _ _=>False) e s'→False) :
 PySem.W.WalkO q loose XP YP l.row.toRowW d [] (fun f vs=>PySem.call f vs):=by
 refine Att.qM hn hdf fun w s₀ s₁ mg mb fa o pm cd doc a vs ns G Y ho hd hcd hmg hobj hints hlen hg=>?_
 have KX:=hY w _ Y
 obtain ⟨fd,hb,hF⟩:=F w mg fa _ KX G.T.g hmg
 exact Aq KX G.T.g G.T.b G.T.builtins G.T.nolimit hg hobj hints (OV hlen hn2) hr hF hb (fun H hO hS=>qx w H a ns hlen hO hS) fun H e s'=>hCX w H s₁ e s'
end L2
namespace L2
open PySem PySem.Spec PyProof.Rows
noncomputable def eU (s:Stmt):Arguments:=match s with
 | .FunctionDef _ a _ _ _ _ _ _ _ _=>a
 | _=>{ posonlyargs:=[],args:=[],vararg:=none,kwonlyargs:=[],kw_defaults:=[],kwarg:=none,defaults:=[] }
noncomputable def ay (s:Stmt):List Stmt:=match s with
 | .FunctionDef _ _ b _ _ _ _ _ _ _=>b
 | _=>[]
noncomputable def ah (s:Stmt):Scope:=match s with
 | .FunctionDef _ _ _ _ _ _ sc _ _ _=>sc
 | _=>{ kind:=.function,names:=[],isGenerator:=false,isCoroutine:=false }
structure fu (K:ON) (x qual:Str) (st:Stmt) (f:Addr) (fd:FuncData):Prop where
 ex:∃ (oc:Value) (od:Option Addr) (kV doc pm:Value) (an:Option Addr) (cdv ct:Value) (osl:Array (Option Value)),
  fd=QJ x qual (eU st) (ay st) (ah st) .none kV doc pm an cdv ct∧K.lookup f=some ⟨oc,od,.func fd,osl⟩∧T3 K cdv qual=true
 kp:QE K (.ref f)=true
section
variable {K:ON}
theorem fu.binds {st:Stmt} (F:fu K x qual st f fd)
 (h:∀ (kV doc pm:Value) (an:Option Addr) (cdv ct:Value) (us:List Value),us.length=ps.length→bindArgs (QJ x qual (eU st) (ay st) (ah st) .none kV doc pm an cdv ct) ⟨us,[]⟩=pure (ps.zip us)):Binds K fd ps []:=by
 obtain ⟨oc,od,kV,doc,pm,an,cdv,ct,osl,rfl,lk,hcd⟩:=F.ex
 exact .all (h kV doc pm an cdv ct)
theorem Im {st:Stmt} {kV doc pm cdv ct:Value} (l:K.lookup f=some ⟨oc,od,.func (QJ x qual (eU st) (ay st) (ah st) .none kV doc pm an cdv ct),osl⟩)
 (c:T3 K cdv qual=true) (k:QE K (.ref f)=true):fu K x qual st f (QJ x qual (eU st) (ay st) (ah st) .none kV doc pm an cdv ct):=⟨⟨oc,od,kV,doc,pm,an,cdv,ct,osl,rfl,l,c⟩,k⟩
end
theorem Ll (hr:iy k A):A.units+1<cLine:=QO (Nat.add_le_add_left (by decide:1≤64) _) hr.units
theorem x9 (h:n≤1000):n<sizeLine:=QO h (by decide)
section
end
noncomputable def aH (H H':Hp):Prop:=∀ b o,H b=some o→H' b=some o
theorem aH.refl (H):aH H H:=fun _ _ h=>h
theorem aH.trans (a:aH H H1) (b:aH H1 H2):aH H H2:=fun c o h=>b c o (a c o h)
theorem aH.free (e:aH H H') (h:H' l=Option.none):H l=Option.none:=by
 cases q:H l with
 | none=>rfl
 | some o =>
  rw [e l o q] at h
  cases h
theorem aH.seq {K:ON} (e:aH H H') (h:gX K H a xs):gX K H' a xs:=by
 rcases h with (h | ⟨o,h⟩) | h
 ·exact .inl (.inl (e _ _ h))
 ·exact .inl (.inr ⟨o,e _ _ h⟩)
 ·exact .inr h
section
end
section
variable {κ:Type} [DecidableEq κ]
end
end L2
namespace EV
open PySem PySem.Spec PyProof.Rows L2
inductive D where
 | non | bl (b:Bool) | int (i:Int) | str (x:Str) | tup (ds:List D) | lst (ds:List D) | exc (C:Addr)
 | fdK (ks:List Key) (ds:List D) | fdT (ks:List (List Key)) (ds:List D) | adr (a:Addr)
noncomputable def um (a C:Addr):Heap→Prop:=fun h=>∃ o,h.get? a=some o∧o.cls=.ref C∧∃ vs,o.data=.fields vs
mutual
def Rep (K:ON) (H:Hp):D→V→Prop
 | .non,v=>v=.non
 | .bl b,v=>v=.bl b
 | .int i,v=>v=.int i
 | .str x,v=>v=.str x
 | .tup ds,v=>∃ a xs,v=.ref a∧c8 K H a xs∧aq K H ds xs
 | .lst ds,v=>∃ a xs,v=.ref a∧gX K H a xs∧aq K H ds xs
 | .exc C,v=>∃ a,v=.ref a∧H a=some (.ext (um a C))
 | .fdK ks ds,v=>∃ a ys o,v=.ref a∧H a=some (.frz o (.dK ys))∧ys.map (·.1)=ks∧aq K H ds (ys.map (·.2))
 | .fdT ks ds,v=>∃ a ys o,v=.ref a∧H a=some (.frz o (.dT ys))∧ys.map (·.1)=ks∧(∀ y∈ys,c8 K H y.2.1 (y.1.map kV))∧aq K H ds (ys.map (·.2.2))
 | .adr a,v=>v=.ref a
def aq (K:ON) (H:Hp):List D→List V→Prop
 | [],xs=>xs=[]
 | d::ds,xs=>∃ x r,xs=x::r∧Rep K H d x∧aq K H ds r
end
theorem av {K:ON} (e:aH H H') (h:c8 K H a xs):c8 K H' a xs:=by
 rcases h with (h | ⟨o,h⟩) | h
 ·exact .inl (.inl (e _ _ h))
 ·exact .inl (.inr ⟨o,e _ _ h⟩)
 ·exact .inr h
mutual
theorem Rep.mono {K:ON} {H H':Hp} (e:aH H H'):∀ (d:D) {v:V},Rep K H d v→Rep K H' d v
 | .non,_,h=>by simpa [Rep] using h
 | .bl b,_,h=>by simpa [Rep] using h
 | .int i,_,h=>by simpa [Rep] using h
 | .str x,_,h=>by simpa [Rep] using h
 | .tup ds,_,h=>by
  simp only [Rep] at h ⊢
  obtain ⟨a,xs,e1,h1,h2⟩:=h
  exact ⟨a,xs,e1,av e h1,aq.mono e ds h2⟩
 | .lst ds,_,h=>by
  simp only [Rep] at h ⊢
  obtain ⟨a,xs,e1,h1,h2⟩:=h
  exact ⟨a,xs,e1,e.seq h1,aq.mono e ds h2⟩
 | .exc C,_,h=>by
  simp only [Rep] at h ⊢
  obtain ⟨a,e1,h1⟩:=h
  exact ⟨a,e1,e _ _ h1⟩
 | .fdK ks ds,_,h=>by
  simp only [Rep] at h ⊢
  obtain ⟨a,ys,o,e1,h1,h2,h3⟩:=h
  exact ⟨a,ys,o,e1,e _ _ h1,h2,aq.mono e ds h3⟩
 | .fdT ks ds,_,h=>by
  simp only [Rep] at h ⊢
  obtain ⟨a,ys,o,e1,h1,h2,h3,h4⟩:=h
  exact ⟨a,ys,o,e1,e _ _ h1,h2,fun y hy=>av e (h3 y hy),aq.mono e ds h4⟩
 | .adr a,_,h=>by simpa [Rep] using h
theorem aq.mono {K:ON} {H H':Hp} (e:aH H H'):∀ (ds:List D) {xs:List V},aq K H ds xs→aq K H' ds xs
 | [],_,h=>by simpa [aq] using h
 | d::ds,_,h=>by
  simp only [aq] at h ⊢
  obtain ⟨x,r,e1,h1,h2⟩:=h
  exact ⟨x,r,e1,Rep.mono e d h1,aq.mono e ds h2⟩
end
section
variable {K:ON}
theorem az:Rep K H (.int i) v↔v=.int i:=by simp only [Rep]
theorem gp:Rep K H (.bl i) v↔v=.bl i:=by simp only [Rep]
theorem bO:Rep K H .non v↔v=.non:=by simp only [Rep]
theorem fO:Rep K H (.str i) v↔v=.str i:=by simp only [Rep]
theorem aI:Rep K H (.tup ds) v↔∃ a xs,v=.ref a∧c8 K H a xs∧aq K H ds xs:=by simp only [Rep]
theorem aY:Rep K H (.lst ds) v↔∃ a xs,v=.ref a∧gX K H a xs∧aq K H ds xs:=by simp only [Rep]
theorem i7:Rep K H (.fdK ks ds) v↔∃ a ys o,v=.ref a∧H a=some (.frz o (.dK ys))∧ys.map (·.1)=ks∧aq K H ds (ys.map (·.2)):=by simp only [Rep]
theorem i8:Rep K H (.fdT ks ds) v↔∃ a ys o,v=.ref a∧H a=some (.frz o (.dT ys))∧ys.map (·.1)=ks∧(∀ y∈ys,c8 K H y.2.1 (y.1.map kV))∧aq K H ds (ys.map (·.2.2)):=by simp only [Rep]
theorem fD:Rep K H (.adr a) v↔v=.ref a:=by simp only [Rep]
theorem EB:Rep K H (.exc C) v↔∃ a,v=.ref a∧H a=some (.ext (um a C)):=by simp only [Rep]
theorem aA:aq K H [] xs↔xs=[]:=by simp only [aq]
theorem aD:aq K H (d::ds) xs↔∃ x r,xs=x::r∧Rep K H d x∧aq K H ds r:=by simp only [aq]
theorem aq.length:∀ {ds:List D} {xs:List V},aq K H ds xs→ds.length=xs.length
 | [],_,h=>by rw [aA] at h; subst h; rfl
 | d::ds,_,h=>by
  rw [aD] at h
  obtain ⟨x,r,rfl,_,h2⟩:=h
  simp [aq.length h2]
theorem aq.get:∀ {ds:List D} {xs:List V} {i:Nat} {d:D},aq K H ds xs→ds[i]?=some d→∃ x,xs[i]?=some x∧Rep K H d x
 | [],_,_,_,_,e=>by simp at e
 | d::ds,_,i,d',h,e=>by
  rw [aD] at h
  obtain ⟨x,r,rfl,h1,h2⟩:=h
  cases i with
  | zero=>simp at e; subst e; exact ⟨x,by simp,h1⟩
  | succ i =>
   obtain ⟨y,e2,h3⟩:=aq.get (i:=i) (d:=d') h2 (by simpa using e)
   exact ⟨y,by simpa using e2,h3⟩
theorem aq.get':∀ {ds:List D} {xs:List V} {i:Nat} {x:V},aq K H ds xs→xs[i]?=some x→∃ d,ds[i]?=some d∧Rep K H d x:=fun {ds xs i x} h e=>by
 have hl:=h.length
 have hi:i<xs.length:=(OZ.mp e).1
 obtain ⟨y,e2,h2⟩:=h.get (i:=i) (d:=ds[i]'(by lia)) (by simp)
 rw [e] at e2; cases e2
 exact ⟨_,by simp,h2⟩
theorem aq.append:∀ {ds es:List D} {xs ys:List V},aq K H ds xs→aq K H es ys→aq K H (ds++es) (xs++ys)
 | [],_,_,_,h,g=>by rw [aA] at h; subst h; exact g
 | d::ds,_,_,_,h,g=>by
  rw [aD] at h
  obtain ⟨x,r,rfl,h1,h2⟩:=h
  exact aD.mpr ⟨x,r++_,rfl,h1,aq.append h2 g⟩
theorem aq.drop:∀ (n:Nat) {ds:List D} {xs:List V},aq K H ds xs→aq K H (ds.drop n) (xs.drop n)
 | 0,_,_,h=>h
 | n+1,[],_,h=>by rw [aA] at h; subst h; exact aA.mpr rfl
 | n+1,d::ds,_,h=>by
  rw [aD] at h
  obtain ⟨x,r,rfl,h1,h2⟩:=h
  exact aq.drop n h2
theorem aq.take:∀ (n:Nat) {ds:List D} {xs:List V},aq K H ds xs→aq K H (ds.take n) (xs.take n)
 | 0,_,_,h=>aA.mpr rfl
 | n+1,[],_,h=>by rw [aA] at h; subst h; exact aA.mpr rfl
 | n+1,d::ds,_,h=>by
  rw [aD] at h
  obtain ⟨x,r,rfl,h1,h2⟩:=h
  exact aD.mpr ⟨x,r.take n,rfl,h1,aq.take n h2⟩
theorem aq.one (h:Rep K H d v):aq K H [d] [v]:=aD.mpr ⟨v,[],rfl,h,aA.mpr rfl⟩
theorem aq.cons (h:Rep K H d v) (t:aq K H ds xs):aq K H (d::ds) (v::xs):=aD.mpr ⟨v,xs,rfl,h,t⟩
theorem jH:∀ (ns:List Int),aq K H (ns.map D.int) (ns.map V.int)
 | []=>aA.mpr rfl
 | n::ns=>.cons (az.mpr rfl) (jH ns)
end
inductive Sh where
 | v (d:D) | l (ds:List D) | la (a:Addr) (ds:List D) | t (ss:List Sh) | ls (ss:List Sh)
noncomputable def pl (p:Addr) (xs:List V):HO:=.ext fun h=>xs.length≤sizeLine∧∃ (its:List Value) (n:Nat),Vals xs its∧h.get? p=some { cls:=.type "list",data:=.seq its.toArray n }
mutual
def aN (K:ON) (H Hf:Hp):Sh→V→List (Addr×List V)→Prop
 | .v d,v,fp=>Rep K Hf d v∧fp=[]
 | .l ds,v,fp=>∃ p xs,v=.ref p∧H p=some (pl p xs)∧Hf p=none∧aq K Hf ds xs∧fp=[(p,xs)]
 | .la p ds,v,fp=>∃ xs,v=.ref p∧H p=some (pl p xs)∧Hf p=none∧aq K Hf ds xs∧fp=[(p,xs)]
 | .t ss,v,fp=>∃ a xs,v=.ref a∧c8 K Hf a xs∧au K H Hf ss xs fp
 | .ls ss,v,fp=>∃ p xs fq,v=.ref p∧H p=some (pl p xs)∧Hf p=none∧au K H Hf ss xs fq∧fp=(p,xs)::fq
def au (K:ON) (H Hf:Hp):List Sh→List V→List (Addr×List V)→Prop
 | [],xs,fp=>xs=[]∧fp=[]
 | s::ss,xs,fp=>∃ x r f1 f2,xs=x::r∧aN K H Hf s x f1∧au K H Hf ss r f2∧fp=f1++f2
end
noncomputable def Ar (H:Hp) (q:Addr):Prop:=∃ xs,H q=some (pl q xs)
mutual
theorem aN.mv {K:ON} {H Hf H' aj:Hp} (sf:aH Hf aj):∀ (s:Sh) {v:V} {fp:List (Addr×List V)},(∀ q∈fp,H q.1=some (pl q.1 q.2)→Hf q.1=none→H' q.1=some (pl q.1 q.2)∧aj q.1=none)→aN K H Hf s v fp→aN K H' aj s v fp
 | .v d,_,_,_,h=>by simp only [aN] at h ⊢; exact ⟨h.1.mono sf d,h.2⟩
 | .l ds,_,_,hk,h=>by
  simp only [aN] at h ⊢
  obtain ⟨p,xs,e,h1,h2,h3,rfl⟩:=h
  obtain ⟨q1,q2⟩:=hk _ O1 h1 h2
  exact ⟨p,xs,e,q1,q2,h3.mono sf ds,rfl⟩
 | .la p ds,_,_,hk,h=>by
  simp only [aN] at h ⊢
  obtain ⟨xs,e,h1,h2,h3,rfl⟩:=h
  obtain ⟨q1,q2⟩:=hk _ O1 h1 h2
  exact ⟨xs,e,q1,q2,h3.mono sf ds,rfl⟩
 | .t ss,_,_,hk,h=>by
  simp only [aN] at h ⊢
  obtain ⟨a,xs,e,h1,h2⟩:=h
  exact ⟨a,xs,e,av sf h1,au.mv sf ss hk h2⟩
 | .ls ss,_,_,hk,h=>by
  simp only [aN] at h ⊢
  obtain ⟨p,xs,fq,e,h1,h2,h3,rfl⟩:=h
  obtain ⟨q1,q2⟩:=hk _ O1 h1 h2
  exact ⟨p,xs,fq,e,q1,q2,au.mv sf ss (fun q hq=>hk q (O2 _ hq)) h3,rfl⟩
theorem au.mv {K:ON} {H Hf H' aj:Hp} (sf:aH Hf aj):∀ (ss:List Sh) {xs:List V} {fp:List (Addr×List V)},(∀ q∈fp,H q.1=some (pl q.1 q.2)→Hf q.1=none→H' q.1=some (pl q.1 q.2)∧aj q.1=none)→au K H Hf ss xs fp→au K H' aj ss xs fp
 | [],_,_,_,h=>by simpa only [au] using h
 | s::ss,_,_,hk,h=>by
  simp only [au] at h ⊢
  obtain ⟨x,r,f1,f2,e,h1,h2,rfl⟩:=h
  exact ⟨x,r,f1,f2,e,aN.mv sf s (fun q hq=>hk q (Rl _ hq)) h1,au.mv sf ss (fun q hq=>hk q (Qg _ hq)) h2,rfl⟩
end
inductive Sl where
 | un
 | va (d:D)
 | ow (ds:List D)
 | oT (kvs:List (List Key×D))
 | oK (kvs:List (Key×D))
 | aw (a:Addr) (ds:List D)
 | aT (a:Addr) (kvs:List (List Key×D))
 | aK (a:Addr) (kvs:List (Key×D))
 | fo (s:Sh)
noncomputable def mQ (K:ON) (H:Hp) {κ:Type}:List (κ×D)→List (κ×V)→Prop:=Paired fun a b=>a.1=b.1∧Rep K H a.2 b.2
theorem mQ.mono {K:ON} (e:aH H H') (h:mQ K H ks xs):mQ K H' ks xs :=
 Paired.Hw h fun a b z=>⟨z.1,Rep.mono e _ z.2⟩
noncomputable def lu (K:ON) (H:Hp):List (List Key×D)→List (List Key×Addr×V)→Prop:=Paired fun a b=>a.1=b.1∧c8 K H b.2.1 (a.1.map kV)∧Rep K H a.2 b.2.2
theorem lu.mono {K:ON} (e:aH H H') (h:lu K H ks xs):lu K H' ks xs :=
 Paired.Hw h fun a b z=>⟨z.1,av e z.2.1,Rep.mono e _ z.2.2⟩
noncomputable def aZ (K:ON) (fr:Addr→Prop) (H Hf:Hp):Sl→V→Prop
 | .un,_=>False
 | .va d,v=>Rep K Hf d v
 | .ow ds,v=>∃ p xs,v=.ref p∧fr p∧H p=some (.lst xs)∧Hf p=none∧aq K Hf ds xs
 | .oT kvs,v=>∃ p xs,v=.ref p∧fr p∧H p=some (.dT xs)∧Hf p=none∧lu K Hf kvs xs
 | .oK kvs,v=>∃ p xs,v=.ref p∧fr p∧H p=some (.dK xs)∧Hf p=none∧mQ K Hf kvs xs
 | .aw a ds,v=>∃ p xs,v=.ref p∧(fr p∧p=a)∧H p=some (.lst xs)∧Hf p=none∧aq K Hf ds xs
 | .aT a kvs,v=>∃ p xs,v=.ref p∧(fr p∧p=a)∧H p=some (.dT xs)∧Hf p=none∧lu K Hf kvs xs
 | .aK a kvs,v=>∃ p xs,v=.ref p∧(fr p∧p=a)∧H p=some (.dK xs)∧Hf p=none∧mQ K Hf kvs xs
 | .fo s,v=>∃ fp,aN K H Hf s v fp∧(fp.map (·.1)).Nodup∧∀ a∈fp,fr a.1
noncomputable def Sl.owned:Sl→Bool
 | .ow _=>true | .oT _=>true | .oK _=>true | .aw _ _=>true | .aT _ _=>true | .aK _ _=>true | _=>false
structure bu (H Hf H' aj:Hp):Prop where
 s:aH H H'
 f:aH Hf aj
 b:aH aj H'
 n:∀ b,Hf b=none→H b≠none→(∀ xs,H b≠some (.tup xs))→aj b=none
theorem bu.refl (b:aH Hf H):bu H Hf H Hf:=⟨.refl _,.refl _,b,fun _ h _ _=>h⟩
theorem bu.trans (a:bu H Hf H1 aQ) (b:bu H1 aQ H2 cQ):bu H Hf H2 cQ :=
 ⟨a.s.trans b.s,a.f.trans b.f,b.b,fun c h1 h2 h3=>by
   cases q:H c with
   | none=>exact absurd q h2
   | some o =>
    have e:=a.s c o q
    exact b.n c (a.n c h1 h2 h3) (by rw [e]; simp) (by intro xs; rw [e,← q]; exact h3 xs)⟩
theorem bu.new (b:aH Hf H) (hp:H p=none):bu H Hf (upd H p o) (upd Hf p o):=by
 have hf:Hf p=none:=b.free hp
 refine ⟨fun c u h=>?_,fun c u h=>?_,fun c u h=>?_,fun c h1 h2 _=>?_⟩
 ·rw [ak (aB h hp)]; exact h
 ·rw [ak (aB h hf)]; exact h
 ·by_cases e:c=p
  ·subst e; rw [ai] at h ⊢; exact h
  ·rw [ak e] at h ⊢; exact b c u h
 ·by_cases e:c=p
  ·subst e; exact absurd hp h2
  ·rw [ak e]; exact h1
theorem bu.gq (b:aH Hf H) (hp:H p=none):bu H Hf (upd H p o) Hf :=
 ⟨(bu.new b hp (o:=o)).s,.refl _,fun c u h=>(bu.new b hp (o:=o)).s c u (b c u h),fun _ h _ _=>h⟩
inductive At {α:Type}:List α→Nat→α→Prop where
 | z {x:α} {l:List α}:At (x::l) 0 x
 | s {x y:α} {l:List α} {i:Nat}:At l i x→At (y::l) (i+1) x
theorem At.get (h:At l i x):l[i]?=some x:=by
 induction h with
 | z=>rfl
 | s _ ih=>simpa using ih
theorem At.mem (h:At l i x):x∈l:=Qc h.get
inductive SSet {α:Type}:List α→Nat→α→List α→Prop where
 | z {x r:α} {l:List α}:SSet (x::l) 0 r (r::l)
 | s {r y:α} {l l':List α} {i:Nat}:SSet l i r l'→SSet (y::l) (i+1) r (y::l')
theorem SSet.eq (h:SSet l i r l'):l'=l.set i r:=by
 induction h with
 | z=>rfl
 | s _ ih=>simp [ih]
structure c9 (K:ON) (H₀ dU:Hp) (σ:L2.St) (H Hf:Hp) (ρ:List Sl):Prop where
 bas:bu H₀ dU H Hf
 len:σ.length=ρ.length
 at_:∀ (i:Nat) (r:Sl),ρ[i]?=some r→r≠.un→∃ v,σ[i]?=some (some v)∧aZ K (fun p=>H₀ p=none) H Hf r v
 sep:∀ (i j:Nat) (r r':Sl) (p:Addr),i≠j→ρ[i]?=some r→ρ[j]?=some r'→r.owned=true→r'.owned=true→σ[i]?=some (some (.ref p))→σ[j]?≠some (some (.ref p))
structure Ln (P:Program) (w:World) (outer:List Env) (H:Hp) (s:Shared) (a C:Addr) (H':Hp) (s':Shared):Prop where
 os:s'.os=s.os
 bare:AllBare s'.gens
 un:Un (frs outer) [] H H' s.heap s'.heap
 hok:jC P w H' s'.heap
 new:s.heap.get? a=none
 free:H' a=none
 fly:∃ (t:Addr) (B:Heap),Heap.FlyingW B outer a (.ref C) (.ref t) s'.heap∧(∀ b o,s.heap.get? b=some o→b∉frs outer→∃ o',s'.heap.get? b=some o'∧B.get? b=some o') ∧
  ∀ b o,H' b≠none→s'.heap.get? b=some o→B.get? b=some o
noncomputable def dH (P:Program) (w:World):HW:=fun outer H s E e s'=>∃ a C H',e=.ref a∧Ln P w outer H s a C H' s'∧E (.ref C) (some a) H'
set_option genInjectivity false in
structure Ctx (P:Program) (w:World) (K:ON) (mg:Str→Option Value) (base:Heap) (k:Nat) (N:List Str) (sc:Scope) (bk:Bool) where
 X:Cx
 eP:X.prog=P
 ew:X.w=w
 eK:X.K=K
 emg:X.mg=mg
 eb:X.base=base
 eN:X.N=N
 esc:X.env.scope=sc
 calm:X.calm=true
 top:bk=false→X.stack=X.env::X.outer∧X.env.frame=some X.env.locals∧X.ex=[]
 cb:bk=false→∀ (aa:List (Addr×Obj)) (σ:L2.St) (H:Hp) (s:Shared),Inv X aa σ H s→∀ (x:Str) (c:Addr),X.env.cells.lookup x=some c→X.s₀.heap.objs.size≤c
 fn:∀ x,bk=false∨sc.names.lookup x=some .local→X.fn x=true∨X.env.scope.names.lookup x=some .local
 room:iy k X.A
 nd:N.Nodup
 vis:∀ x∈N,Loc sc x
 Hf:Hp
 B:Hp
 RX:Addr→List Sl→Prop
 exc:∀ (C a:Addr) (aa:List (Addr×Obj)) (σ:L2.St) (H aj:Hp) (ρ:List Sl) (s:Shared) (H':Hp) (s':Shared),Inv X aa σ H s→c9 X.K B Hf σ H aj ρ→RX C ρ→Ln X.prog X.w X.stack H s a C H' s'→aH H H'→X.xe (.ref a) s'
 RM:Addr→List Sl→Prop
 mde:∀ (C a:Addr) (aa:List (Addr×Obj)) (σ:L2.St) (H aj:Hp) (ρ:List Sl) (s:Shared) (h':Heap) (us:List Value),Inv X aa σ H s→c9 X.K B Hf σ H aj ρ→RM C ρ→Heap.MadeExcOf s.heap h' a (.ref C) us→X.xe (.ref a) { s with heap:=h' }
noncomputable def Sl.EC:Sl→Bool | .fo _=>true | _=>false
noncomputable abbrev qt {α:Type} (fr:Addr→Prop) (H Hf:Hp) (o:α→HO) (R:α→Prop) (v:V):Prop:=∃ (p:Addr) (xs:α),v=.ref p∧fr p∧H p=some (o xs)∧Hf p=none∧R xs
theorem qt.KH (h:qt fr H Hf o R v) (hk:∀ p,v=.ref p→∀ u,(∀ ys,u≠.tup ys)→H p=some u→Hf p=none→H' p=some u∧aj p=none) (ho:∀ xs ys,o xs≠.tup ys) (hR:∀ xs,R xs→R' xs):qt fr H' aj o R' v:=by
 obtain ⟨p,xs,e,f,h1,h2,h3⟩:=h
 exact ⟨p,xs,e,f,(hk p e _ (ho xs) h1 h2).1,(hk p e _ (ho xs) h1 h2).2,hR xs h3⟩
theorem qt.KI (h:qt fr H Hf o R v) (hf:∀ p,fr p→fr' p):qt fr' H Hf o R v :=
 let ⟨p,xs,e,f,h⟩:=h; ⟨p,xs,e,hf p f,h⟩
theorem aZ.mv {K:ON} {B:Addr→Prop} (sf:aH Hf aj) (hk:∀ q o,¬ B q→H q=some o→(∀ xs,o≠.tup xs)→Hf q=none→H' q=some o∧aj q=none):∀ {r:Sl} {v:V},
 (r.EC=true→∀ q,B q→¬ Ar H q)→(r.owned=true→∀ q,v=.ref q→¬ B q)→aZ K fr H Hf r v→aZ K fr H' aj r v
 | .un,_,_,_,h=>h
 | .va d,_,_,_,h=>Rep.mono sf d h
 | .ow ds,_,_,hv,h=>qt.KH h (fun p e o z ho hf=>hk p o (hv rfl p e) ho z hf) (fun _ _ z=>by cases z) fun _ h=>h.mono sf
 | .oT kvs,_,_,hv,h=>qt.KH h (fun p e o z ho hf=>hk p o (hv rfl p e) ho z hf) (fun _ _ z=>by cases z) fun _ h=>h.mono sf
 | .oK kvs,_,_,hv,h=>qt.KH h (fun p e o z ho hf=>hk p o (hv rfl p e) ho z hf) (fun _ _ z=>by cases z) fun _ h=>h.mono sf
 | .aw a ds,_,_,hv,h=>qt.KH h (fun p e o z ho hf=>hk p o (hv rfl p e) ho z hf) (fun _ _ z=>by cases z) fun _ h=>h.mono sf
 | .aT a kvs,_,_,hv,h=>qt.KH h (fun p e o z ho hf=>hk p o (hv rfl p e) ho z hf) (fun _ _ z=>by cases z) fun _ h=>h.mono sf
 | .aK a kvs,_,_,hv,h=>qt.KH h (fun p e o z ho hf=>hk p o (hv rfl p e) ho z hf) (fun _ _ z=>by cases z) fun _ h=>h.mono sf
 | .fo s,_,hB,_,⟨fp,h1,h2,h3⟩=>⟨fp,aN.mv sf s (fun q _ e1 e2=>hk q.1 _ (fun b=>hB rfl q.1 b ⟨q.2,e1⟩) e1 (by intro ys z; cases z) e2) h1,h2,h3⟩
theorem aZ.cG {K:ON} (g:bu H Hf H' aj) (h:aZ K fr H Hf r v):aZ K fr H' aj r v :=
 aZ.mv (B:=fun _=>False) g.f (fun q o _ e1 e2 e3=>⟨g.s _ _ e1,g.n q e3 (by rw [e1]; simp) fun xs z=>e2 xs (by rw [e1] at z; exact Qw z)⟩) (fun _ _ z=>z.elim) (fun _ _ _ z=>z) h
theorem aZ.weak {K:ON} (hf:∀ p,fr p→fr' p):∀ {r:Sl} {v:V},aZ K fr H Hf r v→aZ K fr' H Hf r v
 | .un,_,h=>h
 | .va d,_,h=>h
 | .ow ds,_,h=>qt.KI h hf
 | .oT ds,_,h=>qt.KI h hf
 | .oK ds,_,h=>qt.KI h hf
 | .aw a ds,_,h=>qt.KI h fun p f=>⟨hf p f.1,f.2⟩
 | .aT a ds,_,h=>qt.KI h fun p f=>⟨hf p f.1,f.2⟩
 | .aK a ds,_,h=>qt.KI h fun p f=>⟨hf p f.1,f.2⟩
 | .fo s,_,⟨fp,h1,h2,h3⟩=>⟨fp,h1,h2,fun a ha=>hf _ (h3 a ha)⟩
section
variable {K:ON}
noncomputable def Ctx.fr (c:Ctx P w K mg base k N sc bk) (p:Addr):Prop:=c.B p=none
noncomputable abbrev bz (c:Ctx P w K mg base k N sc bk) (σ:L2.St) (H Hf:Hp) (ρ:List Sl):Prop:=c9 c.X.K c.B c.Hf σ H Hf ρ
theorem c9.cG (S:c9 K H₀ dU σ H Hf ρ) (g:bu H Hf H' aj):c9 K H₀ dU σ H' aj ρ :=
 ⟨S.bas.trans g,S.len,fun i r h hr=>let ⟨v,e,q⟩:=S.at_ i r h hr; ⟨v,e,q.cG g⟩,S.sep⟩
theorem c9.sb (S:c9 K H₀ dU σ H Hf ρ):aH Hf H:=S.bas.b
theorem c9.va (S:c9 K H₀ dU σ H Hf ρ) {i:Nat} (h:ρ[i]?=some (.va d)):∃ v,σ[i]?=some (some v)∧Rep K Hf d v:=S.at_ i _ h (by simp)
theorem c9.set (S:c9 K H₀ dU σ H Hf ρ) (g:bu H Hf H1 aQ) (hr:aZ K (fun p=>H p=none) H1 aQ r v) :
 c9 K H₀ dU (σ.set i (some v)) H1 aQ (ρ.set i r):=by
 have S1:=S.cG g
 have fr0:∀ p,H p=none→H₀ p=none:=fun p h=>S.bas.s.free h
 have fresh:∀ p,r.owned=true→v=.ref p→H p=none:=fun p ho e=>by
  subst e
  cases r with
  | un=>cases ho
  | va d=>cases ho
  | ow ds=>obtain ⟨p',xs,e,h,_⟩:=hr; cases e; exact h
  | oT ds=>obtain ⟨p',xs,e,h,_⟩:=hr; cases e; exact h
  | oK ds=>obtain ⟨p',xs,e,h,_⟩:=hr; cases e; exact h
  | aw a ds=>obtain ⟨p',xs,e,h,_⟩:=hr; cases e; exact h.1
  | aT a ds=>obtain ⟨p',xs,e,h,_⟩:=hr; cases e; exact h.1
  | aK a ds=>obtain ⟨p',xs,e,h,_⟩:=hr; cases e; exact h.1
  | fo s=>cases ho
 have old:∀ (j:Nat) (r':Sl) (p:Addr),ρ[j]?=some r'→r'.owned=true→σ[j]?=some (some (.ref p))→H p≠none:=fun j r' p h ho hs=>by
  obtain ⟨v',e,q⟩:=S.at_ j r' h (by rintro rfl; cases ho)
  rw [hs] at e; cases e
  cases r' with
  | un=>cases ho
  | va d=>cases ho
  | ow ds=>obtain ⟨p',xs,e,_,h,_⟩:=q; cases e; rw [h]; simp
  | oT ds=>obtain ⟨p',xs,e,_,h,_⟩:=q; cases e; rw [h]; simp
  | oK ds=>obtain ⟨p',xs,e,_,h,_⟩:=q; cases e; rw [h]; simp
  | aw a ds=>obtain ⟨p',xs,e,_,h,_⟩:=q; cases e; rw [h]; simp
  | aT a ds=>obtain ⟨p',xs,e,_,h,_⟩:=q; cases e; rw [h]; simp
  | aK a ds=>obtain ⟨p',xs,e,_,h,_⟩:=q; cases e; rw [h]; simp
  | fo s=>cases ho
 refine ⟨S1.bas,by simp [S.len],fun j r' hj hu=>?_,fun j j' r1 r2 p hne h1 h2 o1 o2 e1 e2=>?_⟩
 ·by_cases q:j=i
  ·subst q
   have hi:j<ρ.length:=by
    have:=(OZ.mp hj).1
    simpa using this
   rw [Qf hi] at hj; cases hj
   exact ⟨v,Qf (by rw [S.len]; exact hi),hr.weak fr0⟩
  ·rw [Qh (Pf q)] at hj ⊢
   exact S1.at_ j r' hj hu
 ·have hlt:∀ {j:Nat} {r:Sl},(ρ.set i r)[j]?=some r→j<ρ.length:=fun {j r} h=>by
   have:=(OZ.mp h).1
   simpa using this
  by_cases q1:j=i
  ·subst q1
   have hi:j<ρ.length:=by have:=(OZ.mp h1).1; simpa using this
   rw [Qf hi] at h1; cases h1
   rw [Qf (by rw [S.len]; exact hi)] at e1
   rw [Qh hne] at h2 e2
   exact old j' r2 p h2 o2 e2 (fresh p o1 (by simpa using e1))
  ·by_cases q2:j'=i
   ·subst q2
    have hi:j'<ρ.length:=by have:=(OZ.mp h2).1; simpa using this
    rw [Qf hi] at h2; cases h2
    rw [Qf (by rw [S.len]; exact hi)] at e2
    rw [Qh (Pf hne)] at h1 e1
    exact old j r1 p h1 o1 e1 (fresh p o2 (by simpa using e2))
   ·rw [Qh (Pf q1)] at h1 e1
    rw [Qh (Pf q2)] at h2 e2
    exact S.sep j j' r1 r2 p hne h1 h2 o1 o2 e1 e2
theorem c9.weak (S:c9 K H₀ dU σ H Hf ρ) (hl:ρ'.length=ρ.length) (h:∀ (i:Nat) (r:Sl),ρ'[i]?=some r→r≠.un→ρ[i]?=some r):c9 K H₀ dU σ H Hf ρ' :=
 ⟨S.bas,by rw [S.len,hl],fun i r e hu=>S.at_ i r (h i r e hu) hu,fun i j r r' p hne h1 h2 o1 o2=>S.sep i j r r' p hne (h i r h1 (by rintro rfl; cases o1)) (h j r' h2 (by rintro rfl; cases o2)) o1 o2⟩
end
section
variable {P:Program} {w:World} {K:ON} {mg:Str→Option Value} {base:Heap} {k:Nat} {N:List Str} {sc:Scope} {bk:Bool}
noncomputable def bE (X:Cx) (e:Expr):TE:=fun σ H Q=>∀ aa s,Inv X aa σ H s→wpAny (model X.prog X.w) X.A (eval e X.env) (EP X aa σ Q) X.xe s
theorem dB:PE X e (bE X e):=fun aa s σ H Q I h=>h aa s I
theorem bR (h:PE X e t) (q:t σ H Q):bE X e σ H Q:=fun aa s I=>h aa s σ H Q I q
noncomputable def bT (X:Cx) (e:Expr):TT:=fun σ H Q=>∀ aa s,Inv X aa σ H s→wpAny (model X.prog X.w) X.A (isTrue e X.env (eval e X.env)) (TP X aa σ Q) X.xe s
theorem GF:PT X e (bT X e):=fun aa s σ H Q I h=>h aa s I
theorem vU (h:PT X e t) (q:t σ H Q):bT X e σ H Q:=fun aa s I=>h aa s σ H Q I q
noncomputable def bA (X:Cx) (es:List Expr):TA:=fun σ H Q=>∀ pos aa s,Inv X aa σ H s→wpAny (model X.prog X.w) X.A (spliced (backTo pos (starEach es X.env))) (AP X aa σ Q) X.xe s
theorem ED:PA X es (bA X es):=fun pos aa s σ H Q I h=>h pos aa s I
theorem nQ (h:PA X es t) (q:t σ H Q):bA X es σ H Q:=fun pos aa s I=>h pos aa s σ H Q I q
noncomputable def bS (X:Cx) (st:Stmt):TS:=fun D σ H=>∀ aa s,Inv X aa σ H s→wpAny (model X.prog X.w) X.A (exec st X.env) (SP X aa D) X.xe s
theorem OG {st:Stmt}:PS X st (bS X st):=fun aa s σ H D I h=>h aa s I
theorem dQ {st:Stmt} (h:PS X st t) {D:Ends} (q:t D σ H):bS X st D σ H:=fun aa s I=>h aa s σ H D I q
noncomputable def Io (X:Cx) (st:List Stmt):TS:=fun D σ H=>∀ aa s,Inv X aa σ H s→wpAny (model X.prog X.w) X.A (execs st X.env) (SP X aa D) X.xe s
theorem qN {st:List Stmt}:tV X st (Io X st):=fun aa s σ H D I h=>h aa s I
theorem Au {st:List Stmt} (h:tV X st t) {D:Ends} (q:t D σ H):Io X st D σ H:=fun aa s I=>h aa s σ H D I q
noncomputable def bG (X:Cx) (tg:Expr):TG:=fun v σ H Q=>∀ aa s u,Inv X aa σ H s→RelV v u→wpAny (model X.prog X.w) X.A (assign tg X.env u) (fun _ s'=>∃ σ' H',Inv X aa σ' H' s'∧Q σ' H') X.xe s
theorem Ol:PG X tg (bG X tg):=fun aa s σ H v u Q I r h=>h aa s u I r
theorem GG (h:PG X tg t) (q:t v σ H Q):bG X tg v σ H Q:=fun aa s u I r=>h aa s σ H v u Q I r q
variable (c:Ctx P w K mg base k N sc bk)
noncomputable def dD (e:Expr) (ρ:List Sl) (R:Sl→Prop):Prop :=
 ∀ (σ:L2.St) (H Hf:Hp) (Q:VK),bz c σ H Hf ρ→(∀ r v H' aj,R r→aZ c.X.K (fun p=>H p=none) H' aj r v→bu H Hf H' aj→Q v H')→bE c.X e σ H Q
noncomputable def aJ (e:Expr) (ρ:List Sl) (R:D→Prop):Prop :=
 ∀ (σ:L2.St) (H Hf:Hp) (Q:VK),bz c σ H Hf ρ→(∀ d v H' aj,R d→Rep c.X.K aj d v→bu H Hf H' aj→Q v H')→bE c.X e σ H Q
noncomputable def jI (e:Expr) (ρ:List Sl) (R:Bool→Prop):Prop :=
 ∀ (σ:L2.St) (H Hf:Hp) (Q:Bool→Hp→Prop),bz c σ H Hf ρ→(∀ b H' aj,R b→bu H Hf H' aj→Q b H')→bT c.X e σ H Q
noncomputable def qO (es:List Expr) (ρ:List Sl) (R:List D→Prop):Prop :=
 ∀ (σ:L2.St) (H Hf:Hp) (Q:List V→Hp→Prop),bz c σ H Hf ρ→(∀ ds vs H' aj,R ds→aq c.X.K aj ds vs→bu H Hf H' aj→Q vs H')→bA c.X es σ H Q
structure Pt where
 rt:Sl→Prop
 bk:List Sl→Prop:=fun _=>False
 ct:List Sl→Prop:=fun _=>False
structure Av (nx:List Sl→Prop) (p:Pt) (D:Ends):Prop where
 nx:∀ σ H Hf ρ,bz c σ H Hf ρ→nx ρ→D.nx σ H
 rt:∀ r v H Hf,bu c.B c.Hf H Hf→aZ c.X.K c.fr H Hf r v→p.rt r→D.rt v H
 bk:∀ σ H Hf ρ,bz c σ H Hf ρ→p.bk ρ→D.bk σ H
 ct:∀ σ H Hf ρ,bz c σ H Hf ρ→p.ct ρ→D.ct σ H
noncomputable def eV (st:Stmt) (ρ:List Sl) (nx:List Sl→Prop) (p:Pt):Prop :=
 ∀ (σ:L2.St) (H Hf:Hp) (D:Ends),bz c σ H Hf ρ→Av c nx p D→bS c.X st D σ H
noncomputable def aS (st:List Stmt) (ρ:List Sl) (nx:List Sl→Prop) (p:Pt):Prop :=
 ∀ (σ:L2.St) (H Hf:Hp) (D:Ends),bz c σ H Hf ρ→Av c nx p D→Io c.X st D σ H
noncomputable def nR (tg:Expr) (d:D) (ρ:List Sl) (R:List Sl→Prop):Prop :=
 ∀ (σ:L2.St) (H Hf:Hp) (v:V) (Q:L2.St→Hp→Prop),bz c σ H Hf ρ→Rep c.X.K Hf d v→(∀ σ' H' aj ρ',bz c σ' H' aj ρ'→bu H Hf H' aj→R ρ'→Q σ' H')→bG c.X tg v σ H Q
variable {c}
noncomputable def Sl.fz:Sl→Option D
 | .va d=>some d
 | .ow ds=>some (.lst ds)
 | _=>none
noncomputable def GH (R:D→Prop) (r:Sl):Prop:=∃ d,r.fz=some d∧R d
theorem Ip (e:r.fz=some d) (h:aZ K (fun p=>H p=none) H' aj r v) (g:bu H Hf H' aj) :
 ∃ cQ,Rep K cQ d v∧bu H Hf H' cQ:=by
 cases r with
 | un=>cases e
 | va d'=>cases e; exact ⟨aj,h,g⟩
 | oT _=>cases e
 | oK _=>cases e
 | aw _ _=>cases e
 | aT _ _=>cases e
 | aK _ _=>cases e
 | fo _=>cases e
 | ow ds =>
  cases e
  obtain ⟨p,xs,rfl,hp,h1,h2,h3⟩:=h
  have sf:aH aj (upd aj p (.lst xs)):=fun b o e=>by rw [ak (aB e h2)]; exact e
  have sb:aH (upd aj p (.lst xs)) H':=fun b o e=>by
   by_cases q:b=p
   ·subst q; rw [ai] at e; rw [h1]; exact e
   ·rw [ak q] at e; exact g.b b o e
  refine ⟨upd aj p (.lst xs),aY.mpr ⟨p,xs,rfl,.inl (.inl ai),h3.mono sf⟩,g.s,g.f.trans sf,sb,fun b q1 q2 q3=>?_⟩
  have e:=g.n b q1 q2 q3
  by_cases q:b=p
  ·subst q; exact absurd hp q2
  ·rw [ak q]; exact e
theorem e_x (h:dD c e ρ (GH R)):aJ c e ρ R:=fun σ H Hf Q S q =>
 h σ H Hf Q S fun r v H' aj ⟨d,e1,rd⟩ rs g=>let ⟨cQ,h1,g2⟩:=Ip e1 rs g; q d v H' cQ rd h1 g2
theorem KJ (h:aJ c e ρ fun d=>R (.va d)):dD c e ρ R:=fun σ H Hf Q S q =>
 h σ H Hf Q S fun d v H' aj rd h1 g=>q (.va d) v H' aj rd h1 g
theorem aJ.imp (h:aJ c e ρ R) (hi:∀ d,R d→R' d):aJ c e ρ R':=fun σ H Hf Q S q=>h σ H Hf Q S fun d v H' aj rd=>q d v H' aj (hi d rd)
theorem dD.imp (h:dD c e ρ R) (hi:∀ d,R d→R' d):dD c e ρ R':=fun σ H Hf Q S q=>h σ H Hf Q S fun d v H' aj rd=>q d v H' aj (hi d rd)
theorem jI.imp (h:jI c e ρ R) (hi:∀ d,R d→R' d):jI c e ρ R':=fun σ H Hf Q S q=>h σ H Hf Q S fun d H' aj rd=>q d H' aj (hi d rd)
theorem nS (hN:At N i x) (hs:At ρ i (.va d)) (hR:R d)
 (hd:(x == ("__debug__":Str))=false:=by decide) (hcd:(x == ("__classdict__":Str))=false:=by decide) :
 aJ c (.Name x pos) ρ R:=fun σ H Hf Q S q=>by
 obtain ⟨v,e,r⟩:=S.va hs.get
 exact bR (tY (X:=c.X) (i:=i) (by rw [c.eN]; exact hN.get) (by rw [c.esc]; rcases c.vis x hN.mem with h | h; exact .inl h; exact .inr (.inl h)) hd hcd) ⟨v,e,q d v H Hf hR r (.refl S.sb)⟩
theorem Lo (hR:R (.int i)):aJ c (.Constant (.int i) j pos) ρ R:=fun σ H Hf Q S q =>
 bR zP (q _ _ H Hf hR (az.mpr rfl) (.refl S.sb))
theorem NT (hR:R (.bl i)):aJ c (.Constant (.bool i) j pos) ρ R:=fun σ H Hf Q S q =>
 bR Gz (q _ _ H Hf hR (gp.mpr rfl) (.refl S.sb))
theorem uo (hm:mg x=some (.int i t)) (hR:R (.int i)) (hg:sc.names.lookup x=some .globalImplicit:=by walk_at "u") (hd:(x == ("__debug__":Str))=false:=by decide) :
 aJ c (.Name x pos) ρ R:=fun σ H Hf Q S q =>
 bR (vI (X:=c.X) (v:=.int i) (u:=.int i t) (by unfold Gl PJ; rw [c.esc]; exact hg) (by rw [c.emg]; exact hm) ⟨t,rfl⟩ hd) (q _ _ H Hf hR (az.mpr rfl) (.refl S.sb))
noncomputable def M5 (K:ON) (r:R2) (p:D→D→(Sl→Prop)→Prop):Prop :=
 ∀ (x y:D) (v u:V) (H Hf:Hp) (Q:VK) (R:Sl→Prop),aH Hf H→Rep K Hf x v→Rep K Hf y u→p x y R →
  (∀ z v' H' aj,R z→aZ K (fun p=>H p=none) H' aj z v'→bu H Hf H' aj→Q v' H')→r v u H Q
theorem o6 (ho:fM c.X (binaryOp op) r) (hd:M5 c.X.K r p)
 (h:aJ c a ρ fun x=>aJ c b ρ fun y=>p x y R):dD c (.BinOp a op b pos) ρ R:=fun σ H Hf Q S q =>
 bR (zY ho dB dB) (h σ H Hf _ S fun x v1 H1 aQ h1 r1 g1=>h1 σ H1 aQ _ (S.cG g1) fun y v2 H2 cQ h2 r2 g2 =>
  hd x y v1 v2 H2 cQ Q R g2.b (Rep.mono g2.f x r1) r2 h2 fun z v' H' aj hz rz g3 =>
   q z v' H' aj hz (rz.weak fun p hp=>(g1.trans g2).s.free hp) ((g1.trans g2).trans g3))
theorem nT {f:Int→Int→Int}:M5 K (rI C fun i j=>.int (f i j)) fun x y R=>∃ i j,x=.int i∧y=.int j∧C i j∧R (.va (.int (f i j))):=by
 rintro x y v u H Hf Q R s rx ry ⟨i,j,rfl,rfl,hC,hR⟩ q
 rw [az] at rx ry
 exact ⟨i,j,rx,ry,hC,q (.va (.int (f i j))) _ H Hf hR (show Rep K Hf (.int (f i j)) _ from az.mpr rfl) (.refl s)⟩
theorem Aw {f:Int→Int→Int}:M5 K (vK fun i j=>.int (f i j)) fun x y R=>∃ i j,x=.int i∧y=.int j∧R (.va (.int (f i j))):=by
 rintro x y v u H Hf Q R s rx ry ⟨i,j,rfl,rfl,hR⟩ q
 rw [az] at rx ry
 exact ⟨i,j,rx,ry,q (.va (.int (f i j))) _ H Hf hR (show Rep K Hf (.int (f i j)) _ from az.mpr rfl) (.refl s)⟩
theorem i9 (h:dD c e ρ fun r=>∃ d,r=.va d∧R d):aJ c e ρ R:=e_x (h.imp fun r ⟨d,e,hr⟩=>⟨d,by subst e; rfl,hr⟩)
noncomputable def j8:D→D→Bool
 | .non,.non=>true | .non,.int _=>true | .int _,.non=>true | .non,.bl _=>true | .bl _,.non=>true | .non,.str _=>true | .str _,.non=>true
 | .int _,.int _=>true | .bl _,.bl _=>true | .str _,.str _=>true | .int _,.str _=>true | .str _,.int _=>true | .bl _,.str _=>true | .str _,.bl _=>true
 | _,_=>false
noncomputable instance:DecidableEq D:=fun _ _=>Classical.propDecidable _
inductive ly:Nat→D→D→Prop where
 | sc {n:Nat} {x y:D} (h:j8 x y=true):ly n x y
 | tup {n:Nat} {ds es:List D} (h:∀ (i:Nat) (d e:D),ds[i]?=some d→es[i]?=some e→ly n d e):ly (n+1) (.tup ds) (.tup es)
 | lst {n:Nat} {ds es:List D} (h:∀ (i:Nat) (d e:D),ds[i]?=some d→es[i]?=some e→ly n d e):ly (n+1) (.lst ds) (.lst es)
 | ln {n:Nat} {ds:List D}:ly n (.lst ds) .non
 | nl {n:Nat} {ds:List D}:ly n .non (.lst ds)
 | tn {n:Nat} {ds:List D}:ly n (.tup ds) .non
 | nt {n:Nat} {ds:List D}:ly n .non (.tup ds)
noncomputable def o7 (ds es:List D):Prop:=∀ (i:Nat) (d e:D),ds[i]?=some d→es[i]?=some e→ly 40 d e
noncomputable def Lp (x y:D):Prop:=j8 x y=true∨∃ ds es,((x=.tup ds∧y=.tup es)∨(x=.lst ds∧y=.lst es))∧o7 ds es
section
variable {a b:Expr} {pos:Pos} {ρ:List Sl} {R:D→Prop}
structure Sd (A B:Prop):Prop where
 s:A
 r:B
structure o8 (A B:Prop) (x:Bool):Prop where
 t:x=true→A
 f:x=false→B
theorem Lq (h1:A):o8 A B true:=⟨fun _=>h1,fun h=>by cases h⟩
theorem Lr (h1:B):o8 A B false:=⟨fun h=>(by cases h),fun _=>h1⟩
theorem EE (h1:p→A) (h2:¬ p→B):o8 A B (@decide p i):=⟨fun h=>h1 (of_decide_eq_true h),fun h=>h2 (of_decide_eq_false h)⟩
theorem EF (h:o8 B A x):o8 A B (!x):=⟨fun e=>h.f (by simpa using e),fun e=>h.t (by simpa using e)⟩
noncomputable def EG (x y:D) (T:Bool→Prop):Prop:=Lp x y∧T (decide (x=y))
theorem EH (h:T (decide (i=j))):EG (.int i) (.int j) T:=⟨.inl rfl,by
 have e:decide (D.int i=D.int j)=decide (i=j):=by simp
 rw [e]; exact h⟩
theorem EI (h:Sd (o7 ds es) (T (decide (ds=es)))):EG (.lst ds) (.lst es) T:=⟨.inr ⟨ds,es,.inr ⟨rfl,rfl⟩,h.s⟩,by
 have e:decide (D.lst ds=D.lst es)=decide (ds=es):=by simp
 rw [e]; exact h.r⟩
noncomputable def I2 (k:Int→Int→Prop):D→D→Prop:=fun x y=>∃ i j,x=.int i∧y=.int j∧k i j
theorem i2 {k:Int→Int→Prop} (h:k i j):I2 k (.int i) (.int j):=⟨i,j,rfl,rfl,h⟩
noncomputable def I1 (k:Int→Prop):D→Prop:=fun x=>∃ i,x=.int i∧k i
theorem i1 {k:Int→Prop} (h:k i):I1 k (.int i):=⟨i,rfl,h⟩
noncomputable def B1 (k:Bool→Prop):D→Prop:=fun x=>∃ i,x=.bl i∧k i
theorem b1 {k:Bool→Prop} (h:k i):B1 k (.bl i):=⟨i,rfl,h⟩
theorem Lu (h:aJ c a ρ fun x=>aJ c b ρ fun y=>I2 (fun i j=>R (.int (i - j))) x y):aJ c (.BinOp a .Sub b pos) ρ R :=
 i9 (o6 HL Aw (h.imp fun x hx=>hx.imp fun y ⟨i,j,e1,e2,r⟩=>⟨i,j,e1,e2,_,rfl,r⟩))
noncomputable def MulOk (i j:Int):Prop:=IntMulOk i j
noncomputable def Ax (j:Int):Prop:=0<j∧j.natAbs.log2<9000
theorem EJ:fM c.X (binaryOp .Mult) (rI MulOk fun i j=>.int (i * j)):=KD fun _ _ _ _ _ _ _ hc q=>mul_int q hc
theorem Ay:fM c.X (binaryOp .FloorDiv) (rI (fun _ j=>Ax j) fun i j=>.int (i / j)):=KD fun i j _ _ _ _ _ hc q=>by
 have h1:(0:Int)<j:=hc.1
 exact floordiv_int (by lia) (by rw [Int.fdiv_eq_ediv_of_nonneg i (by lia)]; exact q) (.inl (PyProof.noPylong_of_log2 hc.2))
theorem Lv (h:aJ c a ρ fun x=>aJ c b ρ fun y=>I2 (fun i j=>Sd (MulOk i j) (R (.int (i * j)))) x y):aJ c (.BinOp a .Mult b pos) ρ R :=
 i9 (o6 EJ nT (h.imp fun x hx=>hx.imp fun y ⟨i,j,e1,e2,⟨hc,r⟩⟩=>⟨i,j,e1,e2,hc,_,rfl,r⟩))
theorem Iq (h:aJ c a ρ fun x=>aJ c b ρ fun y=>I2 (fun i j=>Sd (Ax j) (R (.int (i / j)))) x y):aJ c (.BinOp a .FloorDiv b pos) ρ R :=
 i9 (o6 Ay nT (h.imp fun x hx=>hx.imp fun y ⟨i,j,e1,e2,⟨hc,r⟩⟩=>⟨i,j,e1,e2,hc,_,rfl,r⟩))
theorem Lw (h:aJ c a ρ fun x=>aJ c b ρ fun y=>I2 (fun i j=>Sd (0<j) (R (.int (i % j)))) x y):aJ c (.BinOp a .Mod b pos) ρ R :=
 i9 (o6 HM nT (h.imp fun x hx=>hx.imp fun y ⟨i,j,e1,e2,⟨hc,r⟩⟩=>⟨i,j,e1,e2,hc,_,rfl,r⟩))
theorem Lx (h:aJ c a ρ fun x=>aJ c b ρ fun y=>I2 (fun i j=>Sd (t8 i j) (R (.int (i ^ j.toNat)))) x y):aJ c (.BinOp a .Pow b pos) ρ R :=
 i9 (o6 HN nT (h.imp fun x hx=>hx.imp fun y ⟨i,j,e1,e2,⟨hc,r⟩⟩=>⟨i,j,e1,e2,hc,_,rfl,r⟩))
theorem Ly (h:aJ c a ρ (I1 fun i=>R (.int (-i)))):aJ c (.UnaryOp .USub a pos) ρ R:=fun σ H Hf Q S q =>
 bR (K6 HU dB) (h σ H Hf _ S fun x v H' aj hx r g=>by
  obtain ⟨i,rfl,hR⟩:=hx
  rw [az] at r
  exact ⟨i,r,q _ _ H' aj hR (az.mpr rfl) g⟩)
noncomputable def Az (K:ON) (r:R2) (p:D→D→(Bool→Prop)→Prop):Prop :=
 ∀ (x y:D) (v u:V) (H Hf:Hp) (Q:VK) (R:Bool→Prop),aH Hf H→Rep K Hf x v→Rep K Hf y u→p x y R→(∀ b,R b→Q (.bl b) H)→r v u H Q
theorem Lz (ho:fM c.X (compareOp op) r) (hd:Az c.X.K r p) (h:aJ c a ρ fun x=>aJ c b ρ fun y=>p x y fun z=>R (.bl z))
 (hm:behindInMarks op b=false):aJ c (.Compare a [op] [b] pos) ρ R:=fun σ H Hf Q S q =>
 bR (Eg ho dB dB hm) (h σ H Hf _ S fun x v1 H1 aQ h1 r1 g1=>h1 σ H1 aQ _ (S.cG g1) fun y v2 H2 cQ h2 r2 g2 =>
  hd x y v1 v2 H2 cQ Q _ g2.b (Rep.mono g2.f x r1) r2 h2 fun z hz=>q _ _ H2 cQ hz (gp.mpr rfl) (g1.trans g2))
theorem qP (ho:fM c.X (compareOp op) r) (hd:Az c.X.K r p) (h:aJ c a ρ fun x=>aJ c b ρ fun y=>p x y T)
 (hm:behindInMarks op b=false):jI c (.Compare a [op] [b] pos) ρ T:=fun σ H Hf Q S q =>
 vU (Eh ho dB dB hm) (h σ H Hf _ S fun x v1 H1 aQ h1 r1 g1=>h1 σ H1 aQ _ (S.cG g1) fun y v2 H2 cQ h2 r2 g2 =>
  hd x y v1 v2 H2 cQ _ T g2.b (Rep.mono g2.f x r1) r2 h2 fun z hz=>⟨z,rfl,q _ H2 cQ hz (g1.trans g2)⟩)
theorem AA {f:Int→Int→Bool}:Az K (vK fun i j=>.bl (f i j)) fun x y R=>I2 (fun i j=>R (f i j)) x y:=by
 rintro x y v u H Hf Q R s rx ry ⟨i,j,rfl,rfl,hR⟩ q
 rw [az] at rx ry
 exact ⟨i,j,rx,ry,q _ hR⟩
theorem vV (h:j8 x y=true) (rx:Rep K H x v) (ry:Rep K H y u):Ef v u=true∧decide (v=u)=decide (x=y):=by
 cases x <;> cases y <;> simp [j8] at h <;> simp only [az,gp,bO,fO] at rx ry <;> subst rx <;> subst ry <;> simp [Ef]
theorem NU (h:aJ c a ρ fun x=>aJ c b ρ fun y=>I2 (fun i j=>T (decide (i<j))) x y):jI c (.Compare a [.Lt] [b] pos) ρ T:=qP K9 AA h (jF b)
theorem NV (h:aJ c a ρ fun x=>aJ c b ρ fun y=>I2 (fun i j=>T (decide (j<i))) x y):jI c (.Compare a [.Gt] [b] pos) ρ T:=qP La AA h (jF b)
theorem NW (h:aJ c a ρ fun x=>aJ c b ρ fun y=>I2 (fun i j=>T (decide (j≤i))) x y):jI c (.Compare a [.GtE] [b] pos) ρ T:=qP Lb AA h (jF b)
end
end
section
variable {K:ON} {c:Ctx P w K mg base k N sc bk}
variable {es rest:List Expr}
noncomputable def bW (X:Cx) (e:Expr):TT:=fun σ H Q=>∀ whole aa s,Inv X aa σ H s→wpAny (model X.prog X.w) X.A (isTrue e X.env whole) (TP X aa σ Q) X.xe s
theorem Om:PW X e (bW X e):=fun whole aa s σ H Q I h=>h whole aa s I
theorem vW (h:PW X e t) (q:t σ H Q):bW X e σ H Q:=fun whole aa s I=>h whole aa s σ H Q I q
noncomputable def GI (c:Ctx P w K mg base k N sc bk) (e:Expr) (ρ:List Sl) (R:Bool→Prop):Prop :=
 ∀ (σ:L2.St) (H Hf:Hp) (Q:Bool→Hp→Prop),bz c σ H Hf ρ→(∀ b H' aj,R b→bu H Hf H' aj→Q b H')→bW c.X e σ H Q
theorem Oo (h:GI c e ρ T):jI c e ρ T:=fun σ H Hf Q S q aa s I=>h σ H Hf Q S q _ aa s I
theorem Ir (h:jI c a ρ T):GI c (.BoolOp .And [a] pos) ρ T:=fun σ H Hf Q S q=>vW (pw_and1 GF) (h σ H Hf Q S q)
theorem LA (h:jI c a ρ T):GI c (.BoolOp .Or [a] pos) ρ T:=fun σ H Hf Q S q=>vW (pw_or1 GF) (h σ H Hf Q S q)
theorem w_and (h:jI c a ρ (o8 (GI c (.BoolOp .And (b::rest) pos) ρ T) (T false))):GI c (.BoolOp .And (a::b::rest) pos) ρ T:=fun σ H Hf Q S q =>
 vW (pw_and GF Om) (h σ H Hf _ S fun x H' aj hx g=>by
  cases x with
  | true=>exact hx.t rfl σ H' aj Q (S.cG g) fun y H2 cQ hy g2=>q y H2 cQ hy (g.trans g2)
  | false=>exact q false H' aj (hx.f rfl) g)
theorem w_or (h:jI c a ρ (o8 (T true) (GI c (.BoolOp .Or (b::rest) pos) ρ T))):GI c (.BoolOp .Or (a::b::rest) pos) ρ T:=fun σ H Hf Q S q =>
 vW (pw_or GF Om) (h σ H Hf _ S fun x H' aj hx g=>by
  cases x with
  | false=>exact hx.f rfl σ H' aj Q (S.cG g) fun y H2 cQ hy g2=>q y H2 cQ hy (g.trans g2)
  | true=>exact q true H' aj (hx.t rfl) g)
theorem LB (h:jI c a ρ fun x=>T (!x)):jI c (.UnaryOp .Not a pos) ρ T:=fun σ H Hf Q S q =>
 vU (HA GF) (h σ H Hf _ S fun x H' aj hx g=>q _ H' aj hx g)
theorem EK {R:Sl→Prop} (h:jI c t ρ (o8 (dD c a ρ R) (dD c b ρ R))):dD c (.IfExp t a b pos) ρ R:=fun σ H Hf Q S q =>
 bR (zQ GF dB dB) (h σ H Hf _ S fun x H' aj hx g=>by
  cases x with
  | true=>rw [if_pos rfl]; exact hx.t rfl σ H' aj Q (S.cG g) fun y v2 H2 cQ hy r2 g2=>q y v2 H2 cQ hy (r2.weak fun p hp=>g.s.free hp) (g.trans g2)
  | false=>rw [if_neg O0]; exact hx.f rfl σ H' aj Q (S.cG g) fun y v2 H2 cQ hy r2 g2=>q y v2 H2 cQ hy (r2.weak fun p hp=>g.s.free hp) (g.trans g2))
theorem EL (h:jI c t ρ (o8 (aJ c a ρ R) (aJ c b ρ R))):aJ c (.IfExp t a b pos) ρ R :=
 i9 (EK (h.imp fun x hx=>⟨fun e=>KJ ((hx.t e).imp fun d h=>⟨d,rfl,h⟩),fun e=>KJ ((hx.f e).imp fun d h=>⟨d,rfl,h⟩)⟩))
theorem LC (h:aJ c e ρ (B1 T)) (he:∀ (env:Env) whole,isTrue e env whole=(do let v ← whole; standAt e.pos; holding [v] (truthy v)):=by intro _ _; walk_at "u"):jI c e ρ T:=fun σ H Hf Q S q =>
 vU (Hz dB (he _)) (h σ H Hf _ S fun x v H' aj ⟨k,e,h1⟩ r g=>by
  subst e; rw [gp] at r
  exact ⟨k,r,q k H' aj h1 g⟩)
theorem lz {R:List D→Prop} (h:R []):qO c [] ρ R:=fun σ H Hf Q S q=>nQ dJ (q [] [] H Hf h (aA.mpr rfl) (.refl S.sb))
theorem cB {R:List D→Prop} (h:aJ c e ρ fun d=>qO c es ρ fun ds=>R (d::ds)) (hs:∀ env,starEach (e::es) env=(false,eval e env)::starEach es env:=by intro _; walk_at "u"):qO c (e::es) ρ R:=fun σ H Hf Q S q =>
 nQ (bN dB ED (hs _)) (h σ H Hf _ S fun d v H1 aQ h1 r1 g1=>h1 σ H1 aQ _ (S.cG g1) fun ds vs H2 cQ h2 r2 g2=>q _ _ H2 cQ h2 (.cons (Rep.mono g2.f d r1) r2) (g1.trans g2))
theorem GJ (h:qO c es ρ fun ds=>Sd (ds.length≤sizeLine) (R (.tup ds))):aJ c (.Tuple es j pos) ρ R:=fun σ H Hf Q S q =>
 bR (Aa ED) (h σ H Hf _ S fun ds vs H' aj ⟨hl,hR⟩ r g=>⟨by rw [← r.length]; exact hl,fun p hp=>by
  have g2:=bu.new g.b hp (o:=.tup vs)
  exact q _ _ _ _ hR (aI.mpr ⟨p,vs,rfl,.inl (.inl ai),r.mono g2.f⟩) (g.trans g2)⟩)
theorem GK {R:Sl→Prop} (h:qO c es ρ fun ds=>Sd (ds.length≤sizeLine) (R (.ow ds))):dD c (.List es pos) ρ R:=fun σ H Hf Q S q =>
 bR (HV ED) (h σ H Hf _ S fun ds vs H' aj ⟨hl,hR⟩ r g=>⟨by rw [← r.length]; exact hl,fun p hp=>by
  have g2:=bu.gq g.b hp (o:=.lst vs)
  exact q _ _ _ _ hR ⟨p,vs,rfl,g.s.free hp,ai,g.b.free hp,r⟩ (g.trans g2)⟩)
variable {st:Stmt}
theorem uq (h:nx ρ):aS c [] ρ nx p:=fun σ H Hf D S o=>Au Ea (o.nx σ H Hf ρ S h)
theorem aO (h:eV c st ρ (fun ρ'=>aS c sts ρ' nx p) p):aS c (st::sts) ρ nx p:=fun σ H Hf D S o =>
 Au (zR OG qN) (h σ H Hf { D with nx:=Io c.X sts D } S ⟨fun σ' H' aj ρ' S' q=>q σ' H' aj D S' o,o.rt,o.bk,o.ct⟩)
theorem dR (h:dD c e ρ p.rt):eV c (.Return (some e) pos) ρ nx p:=fun σ H Hf D S o =>
 dQ (zS dB) (h σ H Hf _ S fun r v H' aj hr rs g=>o.rt r v H' aj (S.bas.trans g) (rs.weak fun p hp=>S.bas.s.free hp) hr)
theorem AB (hN:At N i x) (hi:At ρ i r) (hu:r.owned=true) (h:p.rt r)
 (hd:(x == ("__debug__":Str))=false:=by decide) (hcd:(x == ("__classdict__":Str))=false:=by decide) :
 eV c (.Return (some (.Name x pos2)) pos) ρ nx p:=fun σ H Hf D S o=>by
 obtain ⟨v,e,rs⟩:=S.at_ i r hi.get (by rintro rfl; cases hu)
 exact dQ (zS (tY (X:=c.X) (i:=i) (by rw [c.eN]; exact hN.get) (by rw [c.esc]; rcases c.vis x hN.mem with h | h; exact .inl h; exact .inr (.inl h)) hd hcd)) ⟨v,e,o.rt r v H Hf S.bas rs h⟩
theorem Iu (h:jI c t ρ (o8 (aS c A ρ nx p) (aS c B ρ nx p))):eV c (.If t A B pos) ρ nx p:=fun σ H Hf D S o =>
 dQ (K0 GF qN qN) (h σ H Hf _ S fun x H' aj hx g=>by
  cases x with
  | true=>rw [if_pos rfl]; exact hx.t rfl σ H' aj D (S.cG g) o
  | false=>rw [if_neg O0]; exact hx.f rfl σ H' aj D (S.cG g) o)
noncomputable def Nx (ρ:List Sl) (i:Nat) (R:List Sl→Prop) (r:Sl):Prop:=∃ ρ',SSet ρ i r ρ'∧R ρ'
theorem qQ {R:List Sl→Prop} (h:SSet ρ i r ρ') (hr:R ρ'):Nx ρ i R r:=⟨ρ',h,hr⟩
theorem AD (hN:At N i x) (h:dD c e ρ (Nx ρ i nx))
 (hs:∀ env,swapsWith e (some (.Name x pos2)) pos.line env=pure false:=by intro _; walk_at "u") (hf:bk=false∨sc.names.lookup x=some .local:=by first | exact .inl rfl | exact .inr (by walk_at "u")):eV c (.Assign [.Name x pos2] e pos) ρ nx p:=fun σ H Hf D S o =>
 dQ (zV (X:=c.X) (i:=i) (by rw [c.eN]; exact c.nd) (by rw [c.eN]; exact hN.get) (by rw [c.esc]; exact c.vis x hN.mem) dB (hs _) (c.fn x hf)) (h σ H Hf _ S fun r v H' aj ⟨ρ',hs,hx⟩ rs g=>o.nx _ H' aj _ (hs.eq ▸ S.set g rs) hx)
theorem dM {R:List Sl→Prop} (hN:At N i x) (h:Nx ρ i R (.va d)) (hf:bk=false∨sc.names.lookup x=some .local:=by first | exact .inl rfl | exact .inr (by walk_at "u")):nR c (.Name x pos) d ρ R:=fun σ H Hf v Q S r q=>by
 obtain ⟨ρ',hs,h⟩:=h
 exact GG (vJ (X:=c.X) (i:=i) (by rw [c.eN]; exact c.nd) (by rw [c.eN]; exact hN.get) (by rw [c.esc]; exact c.vis x hN.mem) (c.fn x hf)) (q _ H Hf _ (hs.eq ▸ S.set (.refl S.sb) (r:=.va d) r) (.refl S.sb) h)
noncomputable def ya (c:Ctx P w K mg base k N sc bk) (ts:List Expr) (ds:List D) (ρ:List Sl) (R:List Sl→Prop):Prop :=
 ∀ (σ:L2.St) (H Hf:Hp) (vs:List V) (Q:L2.St→Hp→Prop),bz c σ H Hf ρ→aq c.X.K Hf ds vs→(∀ σ' H' aj ρ',bz c σ' H' aj ρ'→bu H Hf H' aj→R ρ'→Q σ' H') →
  ∀ aa s us,Inv c.X aa σ H s→Vals vs us→wpAny (model c.X.prog c.X.w) c.X.A (assignInOrder ((assignEach ts c.X.env).map (·.2)) us) (fun _ s'=>∃ σ' H',Inv c.X aa σ' H' s'∧Q σ' H') c.X.xe s
theorem Iv {R:List Sl→Prop} (h:R ρ):ya c [] [] ρ R:=fun σ H Hf vs Q S r q aa s us I rv=>by
 rw [aA] at r; subst r
 exact Eb aa s σ H [] us Q I rv ⟨rfl,q σ H Hf ρ S (.refl S.sb) h⟩
theorem EM {R:List Sl→Prop} (hN:At N i x) (h:Nx ρ i (fun ρ'=>ya c ts ds ρ' R) (.va d))
 (hs:∀ env,(assignEach (.Name x pos::ts) env).map (·.2)=assign (.Name x pos) env::(assignEach ts env).map (·.2):=by intro _; walk_at "u") (hf:bk=false∨sc.names.lookup x=some .local:=by first | exact .inl rfl | exact .inr (by walk_at "u")):ya c (.Name x pos::ts) (d::ds) ρ R:=fun σ H Hf vs Q S r q aa s us I rv=>by
 obtain ⟨ρ',hs',h⟩:=h
 rw [aD] at r
 obtain ⟨v,vr,rfl,r1,r2⟩:=r
 have hp:KC c.X ts (fun vs' σ' H' Q'=>∀ aa s us,Inv c.X aa σ' H' s→Vals vs' us→wpAny (model c.X.prog c.X.w) c.X.A (assignInOrder ((assignEach ts c.X.env).map (·.2)) us) (fun _ s'=>∃ σ'' H'',Inv c.X aa σ'' H'' s'∧Q' σ'' H'') c.X.xe s) :=
  fun aa s σ H vs us Q I r h=>h aa s us I r
 refine zT (vJ (X:=c.X) (i:=i) (by rw [c.eN]; exact c.nd) (by rw [c.eN]; exact hN.get) (by rw [c.esc]; exact c.vis x hN.mem) (c.fn x hf)) hp (hs _) aa s σ H _ us Q I rv ⟨v,vr,rfl,?_⟩
 have S1:=S.set (i:=i) (.refl S.sb) (r:=.va d) (v:=v) r1
 rw [← hs'.eq] at S1
 exact h _ H Hf vr Q S1 r2 q
theorem LD {R:List Sl→Prop} (he:d=.tup ds) (hl:ds.length=ts.length) (h:ya c ts ds ρ R)
 (hn:∀ env,(assignEach ts env).length=ts.length:=by intro _; walk_at "u") (hst:∀ env,(assignEach ts env).findIdx? (·.1)=none:=by intro _; walk_at "u"):nR c (.Tuple ts j pos) d ρ R:=fun σ H Hf v Q S r q=>by
 subst he
 rw [aI] at r
 obtain ⟨a,xs,rfl,h1,h2⟩:=r
 have hp:KC c.X ts (fun vs' σ' H' Q'=>∀ aa s us,Inv c.X aa σ' H' s→Vals vs' us→wpAny (model c.X.prog c.X.w) c.X.A (assignInOrder ((assignEach ts c.X.env).map (·.2)) us) (fun _ s'=>∃ σ'' H'',Inv c.X aa σ'' H'' s'∧Q' σ'' H'') c.X.xe s) :=
  fun aa s σ H vs us Q I r h=>h aa s us I r
 refine GG (HC (X:=c.X) (k:=j) (n:=ts.length) c.calm hp (hn _) (hst _)) ⟨a,xs,rfl,av S.sb h1,by rw [← h2.length,hl],?_⟩
 exact h σ H Hf xs Q S h2 fun σ' H' aj ρ' S' g' hR=>q σ' H' aj ρ' S' g' hR
theorem LF (h:aJ c e ρ fun d=>nR c tg d ρ nx) (hs:∀ env,swapsWithSole [tg] e pos.line env=pure false:=by intro _; walk_at "u") (hw:∀ env,swappedStores [tg] e env=pure none:=by intro _; walk_at "u") (h1:∀ env,(assignEach [tg] env).map (·.2)=[assign tg env]:=by intro _; walk_at "u"):eV c (.Assign [tg] e pos) ρ nx p:=fun σ H Hf D S o =>
 dQ (zU dB Ol (hs _) (hw _) (h1 _)) (h σ H Hf _ S fun d v H' aj hx r g=>hx σ H' aj v _ (S.cG g) r fun σ' H2 cQ ρ' S' _ hR=>o.nx σ' H2 cQ ρ' S' hR)
theorem LG {f:Int→Int→Int} (ho:fM c.X (inplaceOp op) (rI C fun i j=>.int (f i j))) (hN:At N i x) (hi:At ρ i (.va (.int m)))
 (h:aJ c e ρ (I1 fun j=>Sd (C m j) (Nx ρ i nx (.va (.int (f m j)))))) (hf:bk=false∨sc.names.lookup x=some .local:=by first | exact .inl rfl | exact .inr (by walk_at "u")):eV c (.AugAssign (.Name x pos2) op e pos) ρ nx p:=fun σ H Hf D S o=>by
 obtain ⟨v,e1,r1⟩:=S.va hi.get
 rw [az] at r1; subst r1
 have hip:Oh c.X op (rI C fun i j=>.int (f i j)):=fun aa s σ H x y v u Q I rx ry h=>ho aa s σ H x y v u Q I rx ry h
 refine dQ (HE (X:=c.X) (i:=i) (by rw [c.eN]; exact c.nd) (by rw [c.eN]; exact hN.get) (by rw [c.esc]; exact c.vis x hN.mem) dB hip (c.fn x hf)) ⟨_,e1,h σ H Hf _ S fun d v H' aj ⟨j,ed,⟨hC,ρ',hs,hn⟩⟩ r g=>?_⟩
 subst ed; rw [az] at r
 have S2:=S.set g (i:=i) (r:=.va (.int (f m j))) (show Rep c.X.K aj (.int (f m j)) (.int (f m j)) from az.mpr rfl)
 rw [← hs.eq] at S2
 exact ⟨m,j,rfl,r,hC,o.nx _ H' aj _ S2 hn⟩
theorem Iw (hN:At N i x) (hi:At ρ i (.va (.int m))) (h:aJ c e ρ (I1 fun j=>Nx ρ i nx (.va (.int (m - j))))) (hf:bk=false∨sc.names.lookup x=some .local:=by first | exact .inl rfl | exact .inr (by walk_at "u")) :
 eV c (.AugAssign (.Name x pos2) .Sub e pos) ρ nx p :=
 LG (C:=fun _ _=>True) (f:=fun i j=>i - j) (fun aa s σ H x y v u Q I rx ry ⟨i,j,e1,e2,_,q⟩=>Ed aa s σ H x y v u Q I rx ry ⟨i,j,e1,e2,q⟩) hN hi (h.imp fun d ⟨j,e,q⟩=>⟨j,e,trivial,q⟩) hf
theorem vX (hq:c.X.xe=fun _ _=>False) (I:Nat→List Sl→Prop) (h0:I m₀ ρ)
 (h:∀ m ρ',I m ρ'→jI c t ρ' (o8 (aS c body ρ' (fun r=>∃ m',m'<m∧I m' r) { ct:=fun r=>∃ m',m'<m∧I m' r,bk:=nx,rt:=p.rt }) (nx ρ'))) :
 eV c (.While t body [] pos) ρ nx p:=fun σ H Hf D S o =>
 dQ (zW (by rw [hq]; exact PassesOwn.never) GF qN) ⟨fun m σ H=>∃ Hf ρ',bz c σ H Hf ρ'∧I m ρ',⟨m₀,Hf,ρ,S,h0⟩,fun m σ H ⟨Hf,ρ',S,hI⟩=>h m ρ' hI σ H Hf _ S fun x H' aj hx g=>by
  cases x with
  | false=>rw [if_neg O0]; exact o.nx σ H' aj ρ' (S.cG g) (hx.f rfl)
  | true =>
   rw [if_pos rfl]
   refine ⟨fun σ' H'=>∃ m',m'<m∧∃ Hf ρ',bz c σ' H' Hf ρ'∧I m' ρ',fun σ' H' ⟨m',hl,hh⟩=>⟨m',hl,hh⟩,?_⟩
   exact hx.t rfl σ H' aj _ (S.cG g) ⟨fun σ H Hf ρ S ⟨m',hl,hi⟩=>⟨m',hl,Hf,ρ,S,hi⟩,o.rt,fun σ H Hf ρ S q=>o.nx σ H Hf ρ S q,fun σ H Hf ρ S ⟨m',hl,hi⟩=>⟨m',hl,Hf,ρ,S,hi⟩⟩⟩
end
theorem gr (h:n≤1000):n≤sizeLine:=Q9 (x9 h)
theorem AE (h:0<j) (h2:j.natAbs.log2<9000):Ax j:=⟨h,h2⟩
inductive Res where
 | ok (r:Sl)
 | ex (C:Addr)
noncomputable abbrev Fn:=List D→Res→Prop
noncomputable def fE (K:ON) (F:Fn):Sp:=fun vs H Q E=>∃ Hf ds r,aH Hf H∧aq K Hf ds vs∧F ds r∧match r with
 | .ok sl=>∀ v H' aj,bu H Hf H' aj→aZ K (fun p=>H p=none) H' aj sl v→Q v H'
 | .ex C=>∀ a H',aH H H'→E (.ref C) (some a) H'
structure cz (P:Program) (w:World) (K:ON) (mg:Str→Option Value) (base:Heap) (k:Nat) (x:Str) (F:Fn):Prop where
 ex:∃ f fd ps,mg x=some (.ref f)∧QE K (.ref f)=true∧Binds K fd ps []∧bx P w K mg base (dH P w) k f fd ps (fE K F)
section
variable {K:ON} {c:Ctx P w K mg base k N sc bk}
noncomputable def Iz (c:Ctx P w K mg base k N sc bk) (ρ:List Sl) (R:Sl→Prop):Res→Prop
 | .ok sl=>R sl
 | .ex C=>c.RX C ρ
theorem EN (h:cz P w K mg base j x F) (hj:j≤k):∃ f,mg x=some (.ref f)∧QE K (.ref f)=true ∧
 ∀ (aa:List (Addr×Obj)) (σ:L2.St) (H Hf:Hp) (s:Shared) (us:List Value) (vs:List V) (ds:List D) (r:Res) (Q:VK),Inv c.X aa σ H s→bz c σ H Hf ρ→Vals vs us→aq c.X.K Hf ds vs→F ds r →
  (∀ sl v H' aj,r=.ok sl→aZ c.X.K (fun p=>H p=none) H' aj sl v→bu H Hf H' aj→Q v H')→(∀ C,r=.ex C→c.RX C ρ)→wpAny (model c.X.prog c.X.w) c.X.A (call (.ref f) us) (EP c.X aa σ Q) c.X.xe s:=by
 obtain ⟨f,fd,ps,hm,hk,hb,hF⟩:=h.ex
 refine ⟨f,hm,hk,fun aa σ H Hf s us vs ds r Q I S rv rs hr q hx=>?_⟩
 have hF':bx c.X.prog c.X.w c.X.K c.X.mg c.X.base (dH c.X.prog c.X.w) k f fd ps (fE c.X.K F):=by rw [c.eP,c.ew,c.eK,c.emg,c.eb]; exact hF.mono hj
 have qx:fE c.X.K F vs H Q (fun cv ao H'=>∃ C,r=.ex C∧cv=.ref C∧aH H H'):=by
  refine ⟨Hf,ds,r,S.bas.b,rs,hr,?_⟩
  cases r with
  | ok sl=>exact fun v H' aj g rs2=>q sl v H' aj rfl rs2 g
  | ex C=>exact fun a H' s2=>⟨C,rfl,rfl,s2⟩
 have hl:us.length=ps.length:=by rw [← rv.length]; exact hF'.len _ _ _ _ qx
 have hb':Binds c.X.K fd ps []:=by rw [c.eK]; exact hb
 have hb2:=hb' s us I.oU (by simpa using hl)
 rw [P1] at hb2
 refine R1 (RY (hF'.run c.X.A c.X.stack s H ⟨us,[]⟩ us vs Q _ c.room I.Ej hb2 rv qx) fun r' s' hq=>?_)
 cases r' with
 | error e =>
  obtain ⟨a,C,H',rfl,hE,C',e1,e2,sm⟩:=hq
  cases e2
  exact c.exc C a aa σ H Hf ρ s H' s' I S (hx C e1) hE sm
 | ok fl =>
  cases fl with
  | ret u=>exact I.after hq
  | next=>exact PZ hq
  | brk=>exact PZ hq
  | cont=>exact PZ hq
theorem x_call {R:Sl→Prop} (h:cz P w K mg base j x F) (hj:j≤k)
 (ha:qO c (e::es) ρ fun ds=>∃ r,F ds r∧Iz c ρ R r)
 (hg:sc.names.lookup x=some .globalImplicit:=by walk_at "u") (hdb:(x == ("__debug__":Str))=false:=by decide) (he:∀ env,starEach (e::es) env=(false,eval e env)::starEach es env:=by intro _; walk_at "u")
 (hpl:∀ env,(backTo pos (starEach es env)).any (·.1)=false:=by intro _; walk_at "u"):dD c (.Call (.Name x p) (e::es) [] pos) ρ R:=fun σ H Hf Q S q aa s I=>by
 obtain ⟨f,hm,hk,run⟩:=EN (c:=c) (ρ:=ρ) h hj
 refine QB (iZ I (by unfold Gl PJ; rw [c.esc]; exact hg) (by rw [c.emg]; exact hm) ?_ hdb)
 refine Tj (h₀:=c.X.base) I.ok.mod.kin (by rw [c.eK]; exact hk) (bJ (ha σ H Hf (fun vs H1=>∃ aQ ds,(∃ r,F ds r∧Iz c ρ R r)∧aq c.X.K aQ ds vs∧bu H Hf H1 aQ) S (fun ds vs H1 aQ hr rs g=>⟨aQ,ds,hr,rs,g⟩) pos aa s I) fun us s1 hh=>z2 hh fun vs H1 hh=>w3 hh fun I1 rv hh=>z2 hh fun aQ ds hh=>w3 hh fun hh rs g=>hh.elim fun r hh=>w2 hh fun hF hR=>⟨I1.oU,?_⟩) (he _) (hpl _)
 refine run aa σ H1 aQ s1 us vs ds r Q I1 (S.cG g) rv rs hF (fun sl v H' aj e1 rs2 g2=>?_) fun C e1=>?_
 ·subst e1
  exact q sl v H' aj hR (rs2.weak fun p hp=>g.s.free hp) (g.trans g2)
 ·subst e1
  exact hR
theorem cC (h:cz P w K mg base j x F) (hj:j≤k)
 (ha:qO c (e::es) ρ fun ds=>∃ r,F ds r∧Iz c ρ (GH R) r)
 (hg:sc.names.lookup x=some .globalImplicit:=by walk_at "u") (hdb:(x == ("__debug__":Str))=false:=by decide) (he:∀ env,starEach (e::es) env=(false,eval e env)::starEach es env:=by intro _; walk_at "u")
 (hpl:∀ env,(backTo pos (starEach es env)).any (·.1)=false:=by intro _; walk_at "u"):aJ c (.Call (.Name x p) (e::es) [] pos) ρ R:=e_x (x_call h hj ha hg hdb he hpl)
noncomputable def iG (N:List Str) (ds:List D):List Sl:=ds.map .va++OX (N.length - ds.length) .un
theorem AF (r:aq K dU ds vs) (sb:aH dU H₀):c9 K H₀ dU (L2.start N vs) H₀ dU (iG N ds):=by
 have hl:=r.length
 refine ⟨.refl sb,by simp [L2.start,iG,hl],fun i r' h hu=>?_,fun i j r1 r2 p hne h1 h2 o1 o2=>?_⟩
 ·by_cases q:i<ds.length
  ·have e:(iG N ds)[i]?=some (.va ds[i]):=by
    unfold iG
    rw [QX (by simpa using q)]; simp [q]
   rw [e] at h; cases h
   obtain ⟨x,e2,rx⟩:=r.get (i:=i) (d:=ds[i]) (by simp)
   refine ⟨x,?_,rx⟩
   unfold L2.start
   rw [QX (by simp; lia)]
   simp [e2]
  ·unfold iG at h
   rw [RE (by simp; lia)] at h
   have:=Qc h
   exact absurd (R9 this) hu
 ·exfalso
  unfold iG at h1
  by_cases q:i<(ds.map Sl.va).length
  ·rw [QX q] at h1
   rw [OY] at h1
   cases z:ds[i]? with
   | none=>rw [z] at h1; cases h1
   | some d=>rw [z] at h1; cases h1; cases o1
  ·rw [RE (by lia)] at h1
   have e3:=R9 (Qc h1)
   subst e3; cases o1
theorem cR {st:Stmt} (Fu:fu K x qual st f fd) (Sc:aE N ps (ah st)) (Vi:∀ x∈N,Loc (ah st) x) (ar:∀ ds r,F ds r→ds.length=ps.length)
 (hok:∀ ds r,F ds r→∃ sl,r=.ok sl)
 (body:∀ (c:Ctx P w K mg base k N (ah st) false),c.X.xe=(fun _ _=>False)→∀ ds sl,F ds (.ok sl)→aS c (ay st) (iG N ds) (fun _=>sl=.va .non) { rt:=fun r=>r=sl }) :
 bx P w K mg base (dH P w) (k+1) f fd ps (fE K F):=by
 obtain ⟨oc,od,kV,doc,pm,an,cdv,ct,osl,rfl,lk,hcd⟩:=Fu.ex
 refine Ab lk hcd Sc (fun vs H Q E ⟨Hf,ds,r,_,rs,hF,_⟩=>by rw [← rs.length]; exact ar _ _ hF) fun A outer s H vs Q E hr ⟨Hf,ds,r,sb,rs,hF,hq⟩=>?_
 obtain ⟨sl,rfl⟩:=hok _ _ hF
 let X:Cx:=(qC (dH P w) P w K mg base N qual (ah st) f cdv A outer s H E).GA
 let c:Ctx P w K mg base k N (ah st) false :=
  { X:=X,eP:=rfl,ew:=rfl,eK:=rfl,emg:=rfl,eb:=rfl,eN:=rfl,esc:=rfl,calm:=rfl,top:=fun _=>⟨rfl,rfl,rfl⟩,cb:=fun _ _ _ _ _ I x c h=>I.ok.cab x c rfl h,fn:=fun _ _=>.inl rfl,B:=H,room:=hr,nd:=Sc.nd,vis:=Vi,Hf:=Hf,RX:=fun _ _=>False,
    exc:=fun _ _ _ _ _ _ _ _ _ _ _ _ h _ _=>h.elim,RM:=fun _ _=>False,mde:=fun _ _ _ _ _ _ _ _ _ _ _ _ h _=>h.elim }
 refine ⟨_,tV.GA (t:=Io X (ay st)) (qN (X:=X)),?_⟩
 refine body c rfl ds sl hF (L2.start N vs) H Hf _ (AF rs sb) ⟨fun σ H' aj ρ S e=>?_,fun r v H' aj g rv e=>?_,fun _ _ _ _ _ h=>h.elim,fun _ _ _ _ _ h=>h.elim⟩
 ·subst e
  exact hq .non H' aj S.bas (show Rep K aj .non .non from bO.mpr rfl)
 ·have e:r=sl:=e
  subst e
  exact hq v H' aj g rv
noncomputable def NX (K:ON) (r:List V→Hp→VK→Prop) (p:List D→(Sl→Prop)→Prop):Prop :=
 ∀ (ds:List D) (vs:List V) (H Hf:Hp) (Q:VK) (R:Sl→Prop),aH Hf H→aq K Hf ds vs→p ds R→(∀ z v' H' aj,R z→aZ K (fun p=>H p=none) H' aj z v'→bu H Hf H' aj→Q v' H')→r vs H Q
theorem LH {id:String} {R:Sl→Prop} (hc:gj c.X (.type id) r) (hd:NX c.X.K r q) (hm:mg x=none) (hv:bootBuiltins x=some (.type id))
 (ha:qO c (e::es) ρ fun ds=>q ds R) (hg:sc.names.lookup x=some .globalImplicit:=by walk_at "u") (hn:x≠"__name__":=by decide) (hdb:(x == ("__debug__":Str))=false:=by decide)
 (he:∀ env,starEach (e::es) env=(false,eval e env)::starEach es env:=by intro _; walk_at "u") (hpl:∀ env,(backTo pos (starEach es env)).any (·.1)=false:=by intro _; walk_at "u"):dD c (.Call (.Name x p) (e::es) [] pos) ρ R:=fun σ H Hf Q S qq =>
 bR (nJ hc (by unfold Gl PJ; rw [c.esc]; exact hg) (by rw [c.emg]; exact hm) hv ED hn hdb (he _) (hpl _))
  (ha σ H Hf _ S fun ds vs H1 aQ h1 rs g=>hd ds vs H1 aQ Q R g.b rs h1 fun z v' H' aj hz rz g2=>qq z v' H' aj hz (rz.weak fun p hp=>g.s.free hp) (g.trans g2))
theorem qR (h:aq K H [d] vs):∃ v,vs=[v]∧Rep K H d v:=by
 rw [aD] at h
 obtain ⟨x,r,rfl,h1,h2⟩:=h
 rw [aA] at h2; subst h2
 exact ⟨x,rfl,h1⟩
noncomputable def AG (K:ON) (r:List V→Hp→VK→Prop) (p:List D→(D→Prop)→Prop):Prop :=
 ∀ (ds:List D) (vs:List V) (H Hf:Hp) (Q:VK) (R:D→Prop),aH Hf H→aq K Hf ds vs→p ds R→(∀ d v H' aj,R d→Rep K aj d v→bu H Hf H' aj→Q v H')→r vs H Q
theorem vY {id:String} (hc:gj c.X (.builtin id) r) (hd:AG c.X.K r q) (hm:mg x=none) (hv:bootBuiltins x=some (.builtin id))
 (ha:qO c (e::es) ρ fun ds=>q ds R) (hg:sc.names.lookup x=some .globalImplicit) (hn:x≠"__name__") (hdb:(x == ("__debug__":Str))=false)
 (he:∀ env,starEach (e::es) env=(false,eval e env)::starEach es env) (hpl:∀ env,(backTo pos (starEach es env)).any (·.1)=false):aJ c (.Call (.Name x p) (e::es) [] pos) ρ R:=fun σ H Hf Q S qq =>
 bR (Ac hc (by unfold Gl PJ; rw [c.esc]; exact hg) (by rw [c.emg]; exact hm) hv ED hn hdb (he _) (hpl _))
  (ha σ H Hf _ S fun ds vs H1 aQ h1 rs g=>hd ds vs H1 aQ Q R g.b rs h1 fun z v' H' aj hz rz g2=>qq z v' H' aj hz rz (g.trans g2))
theorem LJ {id:String} (hc:gj c.X (.type id) r) (hd:AG c.X.K r q) (hm:mg x=none) (hv:bootBuiltins x=some (.type id))
 (ha:qO c (e::es) ρ fun ds=>q ds R) (hg:sc.names.lookup x=some .globalImplicit) (hn:x≠"__name__") (hdb:(x == ("__debug__":Str))=false)
 (he:∀ env,starEach (e::es) env=(false,eval e env)::starEach es env) (hpl:∀ env,(backTo pos (starEach es env)).any (·.1)=false):aJ c (.Call (.Name x p) (e::es) [] pos) ρ R:=fun σ H Hf Q S qq =>
 bR (nJ hc (by unfold Gl PJ; rw [c.esc]; exact hg) (by rw [c.emg]; exact hm) hv ED hn hdb (he _) (hpl _))
  (ha σ H Hf _ S fun ds vs H1 aQ h1 rs g=>hd ds vs H1 aQ Q R g.b rs h1 fun z v' H' aj hz rz g2=>qq z v' H' aj hz rz (g.trans g2))
section
end
end
end EV
namespace EV
open PySem PySem.Spec PySem.Calls PyProof.Rows L2
theorem IB (x:bq P w H h a o):∃ u,h.get? a=some u:=by
 cases o with
 | lst xs=>obtain ⟨_,_,_,_,e⟩:=x; exact ⟨_,e⟩
 | tup xs=>obtain ⟨_,_,_,ob,e,_⟩:=x; exact ⟨_,e⟩
 | dK kvs=>obtain ⟨_,_,_,_,o,_,_,e,_⟩:=x; exact ⟨_,e⟩
 | dT kvs=>obtain ⟨_,_,_,_,o,_,_,e,_⟩:=x; exact ⟨_,e⟩
 | set S n=>obtain ⟨o,_,_,_,e,_⟩:=x; exact ⟨_,e⟩
 | ins C dx fs=>obtain ⟨_,_,_,e,_⟩:=x; exact ⟨_,e⟩
 | own y=>exact x
 | xd fs=>obtain ⟨_,⟨_,_,_,e,_⟩,_⟩:=x; exact ⟨_,e⟩
 | rng lo hi=>obtain ⟨_,_,_,e⟩:=x; exact ⟨_,e⟩
 | frz ob u=>obtain ⟨e,_⟩:=x; exact ⟨_,e⟩
 | tbl ps=>exact ⟨_,x⟩
 | met f y=>exact ⟨_,x⟩
 | ext φ =>exact x.2.1
section
end
section
variable {K:ON}
end
open PySem.W Builtin Builtin.ObjectAttr Builtin.Getset_descriptor
structure M6 (K:ON) (C:Addr):Prop where
 ga:Q4 K (.ref C) "__getattribute__"=some (some (.builtin "BaseException.__getattribute__"))
 hk:Q4 K (.ref C) "__getattr__"=some none
 ca:Q4 K (.ref C) "__class__"=some (some (.builtin "object.__class__"))
 gt:UT K (.builtin "object.__class__") "__get__"=some (some (.builtin "getset_descriptor.__get__"))
 tk:PySem.W.takesIn K (.builtin "object.__class__")=some true
 mo:T5 K C (.type "object")=some true
 mb:T5 K C (.type "BaseException")=some true
section
variable {prog:Program} {w:World} {A:Around} {E:Value→Shared→Prop} {s:Shared} {K:ON} {x C:Addr} {R:Result→Shared→Prop}
theorem vZ (p:um x C h):Looks M h (typeOf (.ref x)) (.ref C):=by
 obtain ⟨o,ho,hc,_⟩:=p
 rw [← hc]
 exact (Looks.ld ho).andThen .now
theorem mW (X:K.In s.heap) (L:Looks (model prog w) s.heap (typeOf (.ref x)) (.ref C)) (hm:T5 K C (.type "object")=some true)
 (h:R (.ok (.ret (.ref C))) s):codeAny (model prog w) A (.call (.builtin "getset_descriptor.__get__") ⟨[.builtin "object.__class__",.ref x,tp],[]⟩) R s:=by
 obtain ⟨hh,g,dr,t,os⟩:=s
 have L0:=L
 have L1:=looks_mroIn (M:=model prog w) X hm
 refine codeAny_call_builtin KF.slot_gs.plain KF.entry_gs (KF.slot_gs.check _ _ _ _ _ _ _ _ KF.type_class (KF.args_gs _ _ _) ?_)
 unfold Builtin.«getset_descriptor.__get__» descrGet
 rw [dga_obj]
 refine OM (OO ?_)
 unfold descrGetter descrCheckInstance descrNameAndClass isInstance
 simp only [KF.owner_class]
 repeat lk
 refine ⟨Code.quiet_builtin _ (by decide +kernel),Sn KF.entry_class ?_⟩
 unfold Builtin.«object.__class__» shownTypeOf
 repeat lk
 exact h
theorem AH (X:K.In h) (k:M6 K C):Looks M h (find (.ref x) (.ref C) "__class__") (.bind (.builtin "getset_descriptor.__get__") (.builtin "object.__class__")):=by
 have L1:=looks_findIn (M:=M) X k.ca
 have L2:Looks M h (getOf (some (.builtin "object.__class__"))) (some (.builtin "getset_descriptor.__get__")):=looks_specialIn X k.gt
 have L3:=looks_takesIn (M:=M) X k.tk
 unfold find
 refine L1.andThen (L2.andThen ?_)
 refine Looks.andThen (a:=some (.builtin "getset_descriptor.__get__",.builtin "object.__class__")) ?_ (Looks.tag .now)
 unfold dataDescriptor?
 exact L3.andThen .now
theorem yb (X:K.In s.heap) (p:um x C s.heap) (k:M6 K C) (h:Q (some (.ref C)) { s with toks:=s.toks+1 }):wpAny (model prog w) A (getAttr? (.ref x) "__class__") Q E s:=by
 obtain ⟨hh,g,d,t,os⟩:=s
 have L0:Looks (model prog w) hh (typeOf (.ref x)) (.ref C):=vZ p
 have L1:=looks_findIn (M:=model prog w) X k.ga
 have L2:=looks_findIn (M:=model prog w) X k.hk
 have L3:=looks_mroIn (M:=model prog w) X k.mb
 have L4:=AH (M:=model prog w) (x:=x) X k
 unfold getAttr? getAttrBy? getAttrBy
 refine OM (wpAny_mkText (OM (Q6 (Qa (OM (L0.at (OM (L1.at ?_))))))))
 dsimp only
 have hx2:(Value.builtin "BaseException.__getattribute__" == Value.builtin "object.__getattribute__")=false:=by decide +kernel
 rw [hx2,Bool.and_false,if_neg O0]
 unfold getAttrByItsOwn hookBefore
 rw [if_pos (by rfl)]
 refine OM (L2.at ?_)
 refine OM (Q6 (Qa ?_))
 unfold callGetattribute
 rw [if_neg (by simp)]
 unfold boundAndCalled
 have f3:=PySem.F.attrBase_ValueError.ga.bind (.ref x)
 rw [f3]
 refine OM (OO ?_)
 refine R1 (codeAny_call_builtin PySem.F.attrBase_ValueError.ga.plain PySem.F.entry_bexc_ga ?_)
 have hk:builtinKind "BaseException.__getattribute__"=some .slot:=by decide +kernel
 have hsplit:splitId "BaseException.__getattribute__"=some ("BaseException","__getattribute__"):=by decide +kernel
 have ha:=PySem.F.args_bexc_ga (.ref x) (SK "__class__" t)
 simp only [checkBuiltinCall,hk,hsplit]
 dsimp only [QC,Q3]
 have LI:Looks (model prog w) hh (isInstance (.ref x) (.type "BaseException")) true:=L0.andThen L3
 refine OM (LI.at ?_)
 rw [if_neg (by decide)]
 refine PD (Q:=fun _ s1=>s1=⟨hh,g,d,t+1,os⟩) (E:=fun _ _=>False) ?_ (fun _ s1 e1=>?_) (fun _ _ z=>z.elim)
 ·repeat (any_goals (first | assumption | rfl | wp_step))
 subst e1
 unfold «object.__getattribute__»
 repeat (first | with_reducible refine R1 ?_ | lk)
 refine mW X L0 k.mo ?_
 repeat lk
 exact h
theorem AI (k:M6 K C):PySem.W.KitX K (.ref x) (.ref C) (um x C) where
 ty:=fun _ _ _ p=>vZ p
 it:=fun _ _ X _=>by
  have hdct:∃ cd,Sx K C=some cd:=by
   obtain ⟨cd,h1,_⟩:=Uw.mp (show (Sx K C).bind _=some true from k.mo)
   exact ⟨cd,h1⟩
  obtain ⟨cdD,hcD⟩:=hdct
  unfold Sx at hcD
  split at hcD
  ·rename_i c' d' cd' sl' ho
   intro A' Q' E' s' k q
   unfold isType loadHead
   exact OM (wpAny_loadPart (k _ _ (X _ _ ho)) (OO q))
  ·cases hcD
 ne:=fun h tp dd its n sl X htp=>by
  obtain ⟨cdD,hcD,_⟩:=Uw.mp (show (Sx K C).bind _=some true from k.mo)
  refine Bool.eq_false_iff.mpr fun q=>?_
  have e:C=tp:=Pe.inj (beq_iff_eq.mp q)
  subst e
  unfold Sx at hcD
  split at hcD
  ·rename_i c' d' cd' sl' ho
   have z:=(X _ _ ho).symm.trans htp
   cases z
  ·cases hcD
 ca:=fun X p h=>yb X p k h
end
inductive yc (K:ON):D→Value→Prop where
 | non:yc K .non (.type "NoneType")
 | bl {x:Bool}:yc K (.bl x) (.type "bool")
 | int {i:Int}:yc K (.int i) (.type "int")
 | str {x:Str}:yc K (.str x) (.type "str")
 | lst {ds:List EV.D}:yc K (.lst ds) (.type "list")
 | tup {ds:List EV.D}:yc K (.tup ds) (.type "tuple")
 | exc {C:Addr} (k:M6 K C):yc K (.exc C) (.ref C)
section
theorem EO (I:Inv X aa σ H s) (sb:aH Hf H) (rx:RelV v u) (rd:Rep X.K Hf d v) (ty:yc X.K d t) (e:Qp X.K t cv=some b) (h:∀ tk,Q (.bool b) { s with toks:=tk }) :
 wpAny (model X.prog X.w) A (call (.builtin "isinstance") [u,cv]) Q E s:=by
 cases ty with
 | non=>rw [bO] at rd; subst rd; cases (show u=P4 from rx); exact Rq PySem.W.kitx_none I.oU QL e (fun z=>nomatch z) h
 | bl=>rw [gp] at rd; subst rd; cases (show u=Value.bool _ from rx); exact Rq PySem.W.kitx_bool I.oU QL e (fun z=>nomatch z) h
 | int=>rw [az] at rd; subst rd; obtain ⟨t,q⟩:=(show ∃ t,u=SM _ t from rx); cases q; exact Rq PySem.W.kitx_int I.oU QL e (fun z=>nomatch z) h
 | str=>rw [fO] at rd; subst rd; obtain ⟨t,q⟩:=(show ∃ t,u=SK _ t from rx); cases q; exact Rq PySem.W.kitx_str I.oU QL e (fun z=>nomatch z) h
 | lst =>
  rw [aY] at rd
  obtain ⟨a,xs,rfl,h1,_⟩:=rd
  cases (show u=Pe a from rx)
  obtain ⟨its,_,p,_⟩:=I.list (sb.seq h1)
  obtain ⟨o,n1,p1,p2,_⟩:=p
  exact Rq PySem.W.kitx_list I.oU ⟨o,p1,p2⟩ e (fun z=>nomatch z) h
 | tup =>
  rw [aI] at rd
  obtain ⟨a,xs,rfl,h1,_⟩:=rd
  cases (show u=Pe a from rx)
  obtain ⟨its,_,p,_⟩:=I.tuple (av sb h1)
  obtain ⟨o,p1,p2,_⟩:=p
  exact Rq PySem.W.kitx_tuple I.oU ⟨o,p1,p2⟩ e (fun z=>nomatch z) h
 | @exc C k =>
  rw [EB] at rd
  obtain ⟨a,rfl,h1⟩:=rd
  cases (show u=Pe a from rx)
  have p:um a C s.heap:=(show bq X.prog X.w H s.heap a (.ext (um a C)) from I.hok a _ (sb _ _ h1)).1
  exact Rq (AI k) I.oU p e (fun z=>nomatch z) h
end
section
variable {K:ON} {c:Ctx P w K mg base k N sc bk}
noncomputable def ja (mg:Str→Option Value) (x:Str) (cv:Value):Prop:=(∃ C,cv=.ref C∧mg x=some (.ref C))∨(∃ T,cv=.type T∧mg x=none∧bootBuiltins x=some (.type T)∧x≠"__name__")
theorem yd:bootBuiltins "isinstance"=some (.builtin "isinstance"):=by decide +kernel
theorem o9 (hm:mg "isinstance"=none) (hc:ja mg x cv) (h:aJ c e ρ fun d=>∃ t b,yc K d t∧Qp K t cv=some b∧R (.bl b))
 (hgi:sc.names.lookup (OL "isinstance")=some .globalImplicit:=by walk_at "u") (hgx:sc.names.lookup x=some .globalImplicit:=by walk_at "u") (hdx:(x == ("__debug__":Str))=false:=by decide)
 (he:∀ env,starEach [e,.Name x cp] env=(false,eval e env)::starEach [.Name x cp] env:=by intro _; walk_at "u") (he2:∀ env,starEach [.Name x cp] env=[(false,eval (.Name x cp) env)]:=by intro _; walk_at "u")
 (hpl:∀ env,(backTo pos (starEach [.Name x cp] env)).any (·.1)=false:=by intro _; walk_at "u"):aJ c (.Call (.Name "isinstance" np) [e,.Name x cp] [] pos) ρ R:=fun σ H Hf Q S q aa s I=>by
 refine QB (dI I (by unfold Gl PJ; rw [c.esc]; exact hgi) (by rw [c.emg]; exact hm) yd ?_ (by decide) (by decide))
 have hx:∀ (s1:Shared) (H1:Hp) (Q':Value→Shared→Prop),Inv c.X aa σ H1 s1→Q' cv s1→wpAny (model c.X.prog c.X.w) c.X.A (eval (.Name x cp) c.X.env) Q' c.X.xe s1:=fun s1 H1 Q' I1 q'=>by
  rcases hc with ⟨C,rfl,hm'⟩ | ⟨T,rfl,hm',hb,hn⟩
  ·exact iZ I1 (by unfold Gl PJ; rw [c.esc]; exact hgx) (by rw [c.emg]; exact hm') q' hdx
  ·exact dI I1 (by unfold Gl PJ; rw [c.esc]; exact hgx) (by rw [c.emg]; exact hm') hb q' hn hdx
 refine Um (spliced_more (h σ H Hf (fun v H1=>∃ d aQ,(∃ t b,yc K d t∧Qp K t cv=some b∧R (.bl b))∧Rep c.X.K aQ d v∧bu H Hf H1 aQ) S (fun d v H' aj hR r g=>⟨d,aj,hR,r,g⟩) aa s I |> (bJ · fun u s1 hh=>z2 hh fun v H1 hh=>w3 hh fun I1 rv hh=>z2 hh fun d aQ hh=>w3 hh fun hh rd g=>z2 hh fun t b hh=>w3 hh fun ty ek hR=>?_)) (he _)) (he _) (hpl _)
 refine spliced_more (hx s1 H1 _ I1 (spliced_none ?_)) (he2 _)
 refine EO I1 g.b rv rd (by rw [c.eK]; exact ty) (by rw [c.eK]; exact ek) fun tk=>?_
 exact ⟨.bl b,H1,I1.tok tk,rfl,q _ _ H1 aQ hR (gp.mpr rfl) g⟩
end
section
variable {X:Cx}
theorem pe (I:Inv X aa σ H s) (sb:aH Hf H):∀ (n:Nat) (d e:D) (v:V),ly n d e→Rep X.K Hf d v→Rep X.K Hf e v→d=e:=by
 intro n
 induction n with
 | zero =>
  intro d e v h r1 r2
  cases h with
  | sc h=>cases d <;> cases e <;> simp [j8] at h <;> simp_all [Rep]
  | ln=>rw [bO] at r2; subst r2; rw [aY] at r1; obtain ⟨_,_,e,_⟩:=r1; cases e
  | nl=>rw [bO] at r1; subst r1; rw [aY] at r2; obtain ⟨_,_,e,_⟩:=r2; cases e
  | tn=>rw [bO] at r2; subst r2; rw [aI] at r1; obtain ⟨_,_,e,_⟩:=r1; cases e
  | nt=>rw [bO] at r1; subst r1; rw [aI] at r2; obtain ⟨_,_,e,_⟩:=r2; cases e
 | succ n ih =>
  have els:∀ (ds es:List D) (xs:List V),(∀ (i:Nat) (d e:D),ds[i]?=some d→es[i]?=some e→ly n d e)→aq X.K Hf ds xs→aq X.K Hf es xs→ds=es:=fun ds es xs h q1 q2=>by
   apply TF
   intro i
   cases a:ds[i]? with
   | none =>
    have:ds.length≤i:=by simpa using a
    symm
    rw [List.getElem?_eq_none_iff,q2.length,← q1.length]; exact this
   | some d =>
    obtain ⟨x,ex,rx⟩:=q1.get a
    obtain ⟨e,ee,re⟩:=q2.get' ex
    rw [ee,ih d e x (h i d e a ee) rx re]
  intro d e v h r1 r2
  cases h with
  | sc h=>cases d <;> cases e <;> simp [j8] at h <;> simp_all [Rep]
  | ln=>rw [bO] at r2; subst r2; rw [aY] at r1; obtain ⟨_,_,e,_⟩:=r1; cases e
  | nl=>rw [bO] at r1; subst r1; rw [aY] at r2; obtain ⟨_,_,e,_⟩:=r2; cases e
  | tn=>rw [bO] at r2; subst r2; rw [aI] at r1; obtain ⟨_,_,e,_⟩:=r1; cases e
  | nt=>rw [bO] at r1; subst r1; rw [aI] at r2; obtain ⟨_,_,e,_⟩:=r2; cases e
  | tup h =>
   rw [aI] at r1 r2
   obtain ⟨a,xs,rfl,p1,q1⟩:=r1
   obtain ⟨a',ys,e',p2,q2⟩:=r2
   cases e'
   have:=I.jE (av sb p1) (av sb p2)
   subst this
   rw [els _ _ _ h q1 q2]
  | lst h =>
   rw [aY] at r1 r2
   obtain ⟨a,xs,rfl,p1,q1⟩:=r1
   obtain ⟨a',ys,e',p2,q2⟩:=r2
   cases e'
   have:=I.qB (sb.seq p1) (sb.seq p2)
   subst this
   rw [els _ _ _ h q1 q2]
theorem pq {α:Type} [BEq α] [LawfulBEq α] {a b:α} {i:Decidable (a=b)}:(a == b)=@decide (a=b) i:=by
 by_cases h:a=b
 ·subst h; simp
 ·simp [h]
theorem all_range {ds es:List D} (hn:ds.length=n) (hm:es.length=m) (h:n=m):((PF n).all fun j=>decide (ds[j]?=es[j]?))=decide (ds=es):=by
 rw [Su,List.all_eq_true]
 simp only [T4,decide_eq_true_eq]
 constructor
 ·intro q
  apply TF
  intro i
  by_cases hi:i<n
  ·exact q i hi
  ·rw [QA (by lia),QA (by lia)]
 ·rintro rfl; intro _ _; rfl
theorem v5 (h:j8 x y=true) (r1:Rep X.K Hf x v) (r2:Rep X.K Hf y v') (e1:RelV v u) (e2:RelV v' u'):Ph A s u u' (decide (x=y)):=by
 cases x <;> cases y <;> simp [j8] at h <;> simp only [az,gp,bO,fO] at r1 r2 <;> subst r1 <;> subst r2
 case non.non=>cases e1; cases e2; simpa using Ph.same _
 case non.bl b=>cases e1; cases e2; simpa using Ph.none_bool (A:=A) (s:=s) b
 case non.int i=>cases e1; obtain ⟨t,rfl⟩:=e2; simpa using Ph.none_int (A:=A) (s:=s) i t
 case non.str i=>cases e1; obtain ⟨t,rfl⟩:=e2; simpa using Ph.none_str (A:=A) (s:=s) i t
 case bl.non b=>cases e1; cases e2; simpa using Ph.bool_none (A:=A) (s:=s) b
 case bl.bl a b=>cases e1; cases e2; have q:=Ph.bool_bool (A:=A) (s:=s) a b; rw [pq (i:=inferInstance)] at q; simpa using q
 case bl.str a b=>cases e1; obtain ⟨t,rfl⟩:=e2; simpa using Ph.bool_str (A:=A) (s:=s) a b t
 case int.non a=>obtain ⟨t,rfl⟩:=e1; cases e2; simpa using Ph.int_none (A:=A) (s:=s) a t
 case int.int a b=>obtain ⟨t,rfl⟩:=e1; obtain ⟨t',rfl⟩:=e2; have q:=Ph.int_int (A:=A) (s:=s) a t b t'; rw [pq (i:=inferInstance)] at q; simpa using q
 case int.str a b=>obtain ⟨t,rfl⟩:=e1; obtain ⟨t',rfl⟩:=e2; simpa using Ph.int_str (A:=A) (s:=s) a t b t'
 case str.non a=>obtain ⟨t,rfl⟩:=e1; cases e2; simpa using Ph.str_none (A:=A) (s:=s) a t
 case str.bl a b=>obtain ⟨t,rfl⟩:=e1; cases e2; simpa using Ph.str_bool (A:=A) (s:=s) a t b
 case str.int a b=>obtain ⟨t,rfl⟩:=e1; obtain ⟨t',rfl⟩:=e2; simpa using Ph.str_int (A:=A) (s:=s) a t b t'
 case str.str a b=>obtain ⟨t,rfl⟩:=e1; obtain ⟨t',rfl⟩:=e2; have q:=Ph.str_str (A:=A) (s:=s) a t b t'; rw [pq (i:=inferInstance)] at q; simpa using q
theorem in1_units (A:Around):A.in1.units=A.units+1:=rfl
theorem v7:decide (D.tup ds=D.tup es)=decide (ds=es):=by simp
theorem kG:decide (D.lst ds=D.lst es)=decide (ds=es):=by simp
theorem pA (I:Inv X aa σ H s) {A:Around} (h:∀ (i:Nat) (d e:D),ds[i]?=some d→es[i]?=some e→ly n d e)
 (ih:∀ (d e:D) (v v':V) (u u':Value) (A:Around),ly n d e→Rep X.K Hf d v→Rep X.K Hf e v'→RelV v u→RelV v' u'→A.units+n<cLine→Ph A s u u' (decide (d=e)))
 (q1:aq X.K Hf ds xs) (q2:aq X.K Hf es ys) (r1:Vals xs us) (r2:Vals ys ws) (hu:A.in1.units+n<cLine) :
 ∀ j (h1:j<us.toArray.size) (h2:j<ws.toArray.size),Ph A.in1 s us.toArray[j] ws.toArray[j] (decide (ds[j]?=es[j]?)):=fun j h1 h2=>by
 have l1:=q1.length
 have l2:=q2.length
 have m1:=r1.length
 have m2:=r2.length
 simp only [O9] at h1 h2
 have hd:ds[j]?=some ds[j]:=Pc (by lia)
 have he:es[j]?=some es[j]:=Pc (by lia)
 obtain ⟨x,ex,rx⟩:=q1.get hd
 obtain ⟨y,ey,ry⟩:=q2.get he
 obtain ⟨u,eu,ru⟩:=r1.get ex
 obtain ⟨u',eu',ru'⟩:=r2.get ey
 have z1:us.toArray[j]=u:=by
  have:=Pc h1
  rw [this] at eu
  simpa using eu
 have z2:ws.toArray[j]=u':=by
  have:=Pc h2
  rw [this] at eu'
  simpa using eu'
 rw [z1,z2,hd,he]
 have q:=ih _ _ x y u u' A.in1 (h j _ _ hd he) rx ry ru ru' hu
 simpa using q
theorem ye (I:Inv X aa σ H s) (sb:aH Hf H):∀ (n:Nat) (d e:D) (v v':V) (u u':Value) (A:Around),ly n d e→Rep X.K Hf d v→Rep X.K Hf e v'→RelV v u→RelV v' u'→A.units+n<cLine→Ph A s u u' (decide (d=e)):=by
 have non:∀ (n:Nat) (d e:D) (v v':V) (u u':Value) (A:Around),A.units<cLine→Rep X.K Hf d v→Rep X.K Hf e v'→RelV v u→RelV v' u' →
  ((∃ ds,d=.lst ds∧e=.non)∨(∃ ds,d=.non∧e=.lst ds)∨(∃ ds,d=.tup ds∧e=.non)∨(∃ ds,d=.non∧e=.tup ds))→Ph A s u u' (decide (d=e)):=by
  intro n d e v v' u u' A hu r1 r2 e1 e2 h
  rcases h with ⟨ds,rfl,rfl⟩ | ⟨ds,rfl,rfl⟩ | ⟨ds,rfl,rfl⟩ | ⟨ds,rfl,rfl⟩
  ·rw [bO] at r2; subst r2; rw [aY] at r1; obtain ⟨a,xs,rfl,p,_⟩:=r1; cases e1; cases e2
   obtain ⟨its,_,q,_⟩:=I.list (sb.seq p)
   simpa using Ph.list_none (A:=A) q.isList hu
  ·rw [bO] at r1; subst r1; rw [aY] at r2; obtain ⟨a,xs,rfl,p,_⟩:=r2; cases e1; cases e2
   obtain ⟨its,_,q,_⟩:=I.list (sb.seq p)
   simpa using Ph.none_list (A:=A) q.isList hu
  ·rw [bO] at r2; subst r2; rw [aI] at r1; obtain ⟨a,xs,rfl,p,_⟩:=r1; cases e1; cases e2
   obtain ⟨its,_,q,_⟩:=I.tuple (av sb p)
   simpa using Ph.tuple_none (A:=A) (show s.heap.IsTuple a its.toArray from q) hu
  ·rw [bO] at r1; subst r1; rw [aI] at r2; obtain ⟨a,xs,rfl,p,_⟩:=r2; cases e1; cases e2
   obtain ⟨its,_,q,_⟩:=I.tuple (av sb p)
   simpa using Ph.none_tuple (A:=A) (show s.heap.IsTuple a its.toArray from q) hu
 intro n
 induction n with
 | zero =>
  intro d e v v' u u' A h r1 r2 e1 e2 hu
  cases h with
  | sc h=>exact v5 h r1 r2 e1 e2
  | ln=>exact non 0 _ _ _ _ _ _ A (by lia) r1 r2 e1 e2 (.inl ⟨_,rfl,rfl⟩)
  | nl=>exact non 0 _ _ _ _ _ _ A (by lia) r1 r2 e1 e2 (.inr (.inl ⟨_,rfl,rfl⟩))
  | tn=>exact non 0 _ _ _ _ _ _ A (by lia) r1 r2 e1 e2 (.inr (.inr (.inl ⟨_,rfl,rfl⟩)))
  | nt=>exact non 0 _ _ _ _ _ _ A (by lia) r1 r2 e1 e2 (.inr (.inr (.inr ⟨_,rfl,rfl⟩)))
 | succ n ih =>
  intro d e v v' u u' A h r1 r2 e1 e2 hu
  cases h with
  | sc h=>exact v5 h r1 r2 e1 e2
  | ln=>exact non 0 _ _ _ _ _ _ A (by lia) r1 r2 e1 e2 (.inl ⟨_,rfl,rfl⟩)
  | nl=>exact non 0 _ _ _ _ _ _ A (by lia) r1 r2 e1 e2 (.inr (.inl ⟨_,rfl,rfl⟩))
  | tn=>exact non 0 _ _ _ _ _ _ A (by lia) r1 r2 e1 e2 (.inr (.inr (.inl ⟨_,rfl,rfl⟩)))
  | nt=>exact non 0 _ _ _ _ _ _ A (by lia) r1 r2 e1 e2 (.inr (.inr (.inr ⟨_,rfl,rfl⟩)))
  | @tup _ ds es h =>
   have hh:=ly.tup h
   have r1':=r1; have r2':=r2
   rw [aI] at r1 r2
   obtain ⟨a,xs,rfl,p1,q1⟩:=r1
   obtain ⟨b,ys,rfl,p2,q2⟩:=r2
   cases e1; cases e2
   by_cases hab:a=b
   ·subst hab
    have:=pe I sb _ _ _ _ hh r1' r2'
    rw [this]
    simpa using Ph.same _
   ·obtain ⟨us,v1,t1,_⟩:=I.tuple (av sb p1)
    obtain ⟨ws,v2,t2,_⟩:=I.tuple (av sb p2)
    have key:=Rz.tuples (A:=A) (s:=s) (show s.heap.IsTuple a us.toArray from t1) (show s.heap.IsTuple b ws.toArray from t2) (by lia) (pA I h ih q1 q2 v1 v2 (by rw [in1_units]; lia))
    have hl1:us.toArray.size=ds.length:=by simp [← v1.length,q1.length]
    have hl2:ws.toArray.size=es.length:=by simp [← v2.length,q2.length]
    have e:((PF (min us.toArray.size ws.toArray.size)).all (fun j=>decide (ds[j]?=es[j]?)) && us.toArray.size == ws.toArray.size)=decide (D.tup ds=D.tup es):=by
     rw [v7,hl1,hl2]
     by_cases hl:ds.length=es.length
     ·rw [hl,Nat.min_self]
      simp only [beq_self_eq_true,Bool.and_true]
      exact all_range hl rfl rfl
     ·have:¬ ds=es:=fun z=>hl (by rw [z])
      simp [hl,this]
    rw [e] at key
    exact .of_refs hab key
  | @lst _ ds es h =>
   have hh:=ly.lst h
   have r1':=r1; have r2':=r2
   rw [aY] at r1 r2
   obtain ⟨a,xs,rfl,p1,q1⟩:=r1
   obtain ⟨b,ys,rfl,p2,q2⟩:=r2
   cases e1; cases e2
   by_cases hab:a=b
   ·subst hab
    have:=pe I sb _ _ _ _ hh r1' r2'
    rw [this]
    simpa using Ph.same _
   ·obtain ⟨us,v1,t1,_⟩:=I.list (sb.seq p1)
    obtain ⟨ws,v2,t2,_⟩:=I.list (sb.seq p2)
    have hl1:us.toArray.size=ds.length:=by simp [← v1.length,q1.length]
    have hl2:ws.toArray.size=es.length:=by simp [← v2.length,q2.length]
    by_cases hl:ds.length=es.length
    ·have key:=Rz.lists (A:=A) (s:=s) t1.isList t2.isList (by rw [hl1,hl2,hl]) (by lia) (pA I h ih q1 q2 v1 v2 (by rw [in1_units]; lia))
     rw [hl1,all_range rfl hl.symm rfl,← kG] at key
     exact .of_refs hab key
    ·have key:=Rz.lists_lengths (A:=A) (s:=s) t1.isList t2.isList (by rw [hl1,hl2]; simpa using hl) (by lia)
     have e:decide (D.lst ds=D.lst es)=false:=by
      rw [kG]; exact decide_eq_false fun z=>hl (by rw [z])
     rw [e]
     exact .of_refs hab key
theorem qS (I:Inv X aa σ H s) (sb:aH Hf H) (hu:A.units+50<cLine) (hk:(d=.tup ds∧e=.tup es)∨(d=.lst ds∧e=.lst es)) (h:o7 ds es)
 (r1:Rep X.K Hf d v) (r2:Rep X.K Hf e v') (e1:RelV v u) (e2:RelV v' u'):Rz A s u u' (decide (d=e))∧T9 A s u u' (!decide (d=e)):=by
 have ih:=ye I sb 40
 rcases hk with ⟨rfl,rfl⟩ | ⟨rfl,rfl⟩
 ·rw [aI] at r1 r2
  obtain ⟨a,xs,rfl,p1,q1⟩:=r1
  obtain ⟨b,ys,rfl,p2,q2⟩:=r2
  cases e1; cases e2
  obtain ⟨us,v1,t1,_⟩:=I.tuple (av sb p1)
  obtain ⟨ws,v2,t2,_⟩:=I.tuple (av sb p2)
  have els:=pA (A:=A) I h ih q1 q2 v1 v2 (by rw [in1_units]; lia)
  have key:=Rz.tuples (A:=A) (s:=s) (show s.heap.IsTuple a us.toArray from t1) (show s.heap.IsTuple b ws.toArray from t2) (by lia) els
  have key2:=T9.tuples (A:=A) (s:=s) (show s.heap.IsTuple a us.toArray from t1) (show s.heap.IsTuple b ws.toArray from t2) (by lia) els
  have hl1:us.toArray.size=ds.length:=by simp [← v1.length,q1.length]
  have hl2:ws.toArray.size=es.length:=by simp [← v2.length,q2.length]
  have e:((PF (min us.toArray.size ws.toArray.size)).all (fun j=>decide (ds[j]?=es[j]?)) && us.toArray.size == ws.toArray.size)=decide (D.tup ds=D.tup es):=by
   rw [v7,hl1,hl2]
   by_cases hl:ds.length=es.length
   ·rw [hl,Nat.min_self]
    simp only [beq_self_eq_true,Bool.and_true]
    exact all_range hl rfl rfl
   ·have:¬ ds=es:=fun z=>hl (by rw [z])
    simp [hl,this]
  rw [e] at key key2
  exact ⟨key,key2⟩
 ·rw [aY] at r1 r2
  obtain ⟨a,xs,rfl,p1,q1⟩:=r1
  obtain ⟨b,ys,rfl,p2,q2⟩:=r2
  cases e1; cases e2
  obtain ⟨us,v1,t1,_⟩:=I.list (sb.seq p1)
  obtain ⟨ws,v2,t2,_⟩:=I.list (sb.seq p2)
  have hl1:us.toArray.size=ds.length:=by simp [← v1.length,q1.length]
  have hl2:ws.toArray.size=es.length:=by simp [← v2.length,q2.length]
  by_cases hl:ds.length=es.length
  ·have els:=pA (A:=A) I h ih q1 q2 v1 v2 (by rw [in1_units]; lia)
   have key:=Rz.lists (A:=A) (s:=s) t1.isList t2.isList (by rw [hl1,hl2,hl]) (by lia) els
   have key2:=T9.lists (A:=A) (s:=s) t1.isList t2.isList (by rw [hl1,hl2,hl]) (by lia) els
   rw [hl1,all_range rfl hl.symm rfl,← kG] at key key2
   exact ⟨key,key2⟩
  ·have key:=Rz.lists_lengths (A:=A) (s:=s) t1.isList t2.isList (by rw [hl1,hl2]; simpa using hl) (by lia)
   have key2:=T9.lists_lengths (A:=A) (s:=s) t1.isList t2.isList (by rw [hl1,hl2]; simpa using hl) (by lia)
   have e:decide (D.lst ds=D.lst es)=false:=by
    rw [kG]; exact decide_eq_false fun z=>hl (by rw [z])
   rw [e]
   exact ⟨key,key2⟩
end
section
variable {K:ON} {c:Ctx P w K mg base k N sc bk}
noncomputable def ER (K:ON) (neg:Bool):R2:=fun v u H Q=>∃ x y Hf,aH Hf H∧Rep K Hf x v∧Rep K Hf y u∧Lp x y∧Q (.bl (if neg then !decide (x=y) else decide (x=y))) H
theorem AJ:fM c.X (compareOp .Eq) (ER c.X.K false):=fun aa s σ H v u v' u' Q I rv ru ⟨x,y,Hf,sb,rx,ry,ok,q⟩=>by
 rcases ok with h | ⟨ds,es,hk,hi⟩
 ·obtain ⟨z1,z2⟩:=vV h rx ry
  exact K7 aa s σ H v u v' u' Q I rv ru ⟨z1,by rw [z2]; exact q⟩
 ·exact (qS I sb (by have:=c.room.un; lia) hk hi rx ry rv ru).1 _ _ _ _ ⟨.bl (decide (x=y)),H,I,rfl,q⟩
theorem IC:fM c.X (compareOp .NotEq) (ER c.X.K true):=fun aa s σ H v u v' u' Q I rv ru ⟨x,y,Hf,sb,rx,ry,ok,q⟩=>by
 rcases ok with h | ⟨ds,es,hk,hi⟩
 ·obtain ⟨z1,z2⟩:=vV h rx ry
  exact K8 aa s σ H v u v' u' Q I rv ru ⟨z1,by rw [z2]; exact q⟩
 ·exact (qS I sb (by have:=c.room.un; lia) hk hi rx ry rv ru).2 _ _ _ _ ⟨.bl (!decide (x=y)),H,I,rfl,q⟩
theorem AK:Az K (ER K false) fun x y R=>EG x y R:=fun x y v u H Hf Q R s rx ry ⟨h1,h2⟩ q=>⟨x,y,Hf,s,rx,ry,h1,q _ h2⟩
theorem ID:Az K (ER K true) fun x y R=>EG x y fun b=>R (!b):=fun x y v u H Hf Q R s rx ry ⟨h1,h2⟩ q=>⟨x,y,Hf,s,rx,ry,h1,q _ h2⟩
theorem NY (h:aJ c a ρ fun x=>aJ c b ρ fun y=>EG x y T):jI c (.Compare a [.Eq] [b] pos) ρ T:=qP AJ AK h (jF b)
theorem NZ (h:aJ c a ρ fun x=>aJ c b ρ fun y=>EG x y fun b=>T (!b)):jI c (.Compare a [.NotEq] [b] pos) ρ T:=qP IC ID h (jF b)
theorem N1 (h:aJ c a ρ fun x=>aJ c b ρ fun y=>EG x y fun b=>R (.bl b)):aJ c (.Compare a [.Eq] [b] pos) ρ R:=Lz AJ AK h (jF b)
end
section
variable {P:Program} {w:World} {K:ON} {mg:Str→Option Value} {base:Heap} {k:Nat} {N:List Str} {sc:Scope} {bk:Bool} {c:Ctx P w K mg base k N sc bk} {ρ:List Sl} {pos:Pos} {a b e:Expr} {es:List Expr} {R:D→Prop} {T:Bool→Prop}
noncomputable def D.row:D→Option (List D)
 | .lst ds=>some ds
 | .tup ds=>some ds
 | _=>none
theorem jb (e:d.row=some ds) (h:Rep K H d v):∃ p xs,v=.ref p∧aq K H ds xs∧((d=.lst ds∧gX K H p xs)∨(d=.tup ds∧c8 K H p xs)):=by
 cases d with
 | lst _=>cases e; rw [aY] at h; obtain ⟨p,xs,rfl,h1,h2⟩:=h; exact ⟨p,xs,rfl,h2,.inl ⟨rfl,h1⟩⟩
 | tup _=>cases e; rw [aI] at h; obtain ⟨p,xs,rfl,h1,h2⟩:=h; exact ⟨p,xs,rfl,h2,.inr ⟨rfl,h1⟩⟩
 | _=>cases e
noncomputable def KL (x y:D) (R:D→Prop):Prop:=∃ ds i d,x.row=some ds∧y=.int i∧kE ds i=some d∧R d
theorem AL (h:kE ds i=some d) (hR:R d):KL (.lst ds) (.int i) R:=⟨ds,i,d,rfl,rfl,h,hR⟩
theorem jc (h:kE ds i=some d) (hR:R d):KL (.tup ds) (.int i) R:=⟨ds,i,d,rfl,rfl,h,hR⟩
theorem AM (h:aq K H ds xs) (e:kE ds i=some d):∃ x,kE xs i=some x∧Rep K H d x:=by
 unfold kE at e ⊢
 rw [← h.length]
 obtain ⟨j,e1,e2⟩:=Uw.mp e
 obtain ⟨x,e3,rx⟩:=h.get e2
 exact ⟨x,by rw [e1]; exact e3,rx⟩
theorem LK (h:aJ c a ρ fun x=>aJ c b ρ fun y=>KL x y R) (hs:kF b:=by intro _ _; walk_at "u"):aJ c (.Subscript a b pos) ρ R:=fun σ H Hf Q S q =>
 bR (Lg (GC.or Eo HZ) dB dB hs) (h σ H Hf _ S fun x v H1 aQ h1 r1 g1=>h1 σ H1 aQ _ (S.cG g1) fun y u H2 cQ ⟨ds,i,d,e1,e2,e3,hR⟩ r2 g2=>by
  subst e2
  rw [az] at r2; subst r2
  obtain ⟨p,xs,rfl,hr,hk⟩:=jb e1 (Rep.mono g2.f x r1)
  obtain ⟨z,ez,rz⟩:=AM hr e3
  have fin:=q d z H2 cQ hR rz (g1.trans g2)
  rcases hk with ⟨_,hk⟩ | ⟨_,hk⟩
  ·exact .inl ⟨p,xs,i,z,rfl,rfl,g2.b.seq hk,ez,fin⟩
  ·exact .inr ⟨p,xs,i,z,rfl,rfl,av g2.b hk,ez,fin⟩)
theorem v8 (sb:aH Hf H) {d:D} (h:(d=.lst ds∧gX K Hf p xs)∨(d=.tup ds∧c8 K Hf p xs)):gX K H p xs∨c8 K H p xs:=h.elim (fun z=>.inl (sb.seq z.2)) fun z=>.inr (av sb z.2)
theorem AN:AG K (fun xs H Q=>∃ p ys,xs=[.ref p]∧(gX K H p ys∨c8 K H p ys)∧Q (.int ys.length) H) (fun ds R=>∃ x,ds=[x]∧∃ ys,x.row=some ys∧R (.int ys.length)):=by
 rintro ds vs H Hf Q R s rs ⟨x,rfl,ys,e,hR⟩ q
 obtain ⟨v,rfl,rv⟩:=qR rs
 obtain ⟨p,xs,rfl,hr,hk⟩:=jb e rv
 exact ⟨p,xs,rfl,v8 s hk,q _ _ H Hf hR (by rw [hr.length]; exact az.mpr rfl) (.refl s)⟩
theorem e_len (hm:mg "len"=none) (h:aJ c e ρ fun x=>∃ ys,x.row=some ys∧R (.int ys.length)) (hg:sc.names.lookup (OL "len")=some .globalImplicit:=by walk_at "u")
 (he:∀ env,starEach [e] env=(false,eval e env)::starEach [] env:=by intro _; walk_at "u"):aJ c (.Call (.Name "len" p) [e] [] pos) ρ R :=
 vY oY AN hm PySem.boot_len (cB (h.imp fun d hd=>lz ⟨d,rfl,hd⟩) he) hg (by decide) (by decide) he (by intro _; walk_at "u")
theorem AO {R:Sl→Prop} (hm:mg "list"=none) (h:aJ c e ρ fun x=>∃ ys,x.row=some ys∧R (.ow ys)) (hg:sc.names.lookup (OL "list")=some .globalImplicit:=by walk_at "u")
 (he:∀ env,starEach [e] env=(false,eval e env)::starEach [] env:=by intro _; walk_at "u"):dD c (.Call (.Name "list" p) [e] [] pos) ρ R :=
 LH oZ (q:=fun ds R=>∃ x ys,ds=[x]∧x.row=some ys∧R (.ow ys)) (fun ds vs H Hf Q R s rs ⟨x,ys,e1,e2,hR⟩ q=>by
  subst e1
  obtain ⟨v,rfl,rv⟩:=qR rs
  obtain ⟨p,xs,rfl,hr,hk⟩:=jb e2 rv
  exact ⟨p,xs,rfl,v8 s hk,fun l hl=>by
   have g2:=bu.gq s hl (o:=.lst xs)
   exact q _ _ _ _ hR ⟨l,xs,rfl,hl,ai,s.free hl,hr⟩ g2⟩) hm PyProof.Rows.boot_list (cB (h.imp fun d ⟨ys,h1,h2⟩=>lz ⟨d,ys,rfl,h1,h2⟩) he) hg (by decide) (by decide) he (by intro _; walk_at "u")
theorem kH (hm:mg "tuple"=none) (h:aJ c e ρ fun x=>∃ ys,x.row=some ys∧R (.tup ys)) (hg:sc.names.lookup (OL "tuple")=some .globalImplicit:=by walk_at "u")
 (he:∀ env,starEach [e] env=(false,eval e env)::starEach [] env:=by intro _; walk_at "u"):aJ c (.Call (.Name "tuple" p) [e] [] pos) ρ R :=
 LJ mV (q:=fun ds R=>∃ x ys,ds=[x]∧x.row=some ys∧R (.tup ys)) (fun ds vs H Hf Q R s rs ⟨x,ys,e1,e2,hR⟩ q=>by
  subst e1
  obtain ⟨v,rfl,rv⟩:=qR rs
  obtain ⟨p,xs,rfl,hr,hk⟩:=jb e2 rv
  rcases hk with ⟨_,hk⟩ | ⟨_,hk⟩
  ·exact ⟨p,xs,rfl,.inl ⟨s.seq hk,fun l hl=>by
    have g2:=bu.new s hl (o:=.tup xs)
    exact q _ _ _ _ hR (aI.mpr ⟨l,xs,rfl,.inl (.inl ai),hr.mono g2.f⟩) g2⟩⟩
  ·exact ⟨p,xs,rfl,.inr ⟨av s hk,q _ _ H Hf hR (aI.mpr ⟨p,xs,rfl,hk,hr⟩) (.refl s)⟩⟩) hm PyProof.Rows.boot_tuple (cB (h.imp fun d ⟨ys,h1,h2⟩=>lz ⟨d,ys,rfl,h1,h2⟩) he) hg (by decide) (by decide) he (by intro _; walk_at "u")
noncomputable def GL (K:ON):R2:=fun x y H Q=>∃ l b xs zs,x=.ref l∧y=.ref b∧gX K H l xs∧gX K H b zs∧xs.length+zs.length≤sizeLine∧∀ p,H p=none→Q (.ref p) (upd H p (.lst (xs++zs)))
theorem ES:fM X (binaryOp .Add) (GL X.K):=by
 intro aa s σ H x y v u Q I rx ry h
 obtain ⟨l,b,xs,zs,rfl,rfl,hH,hB,hz,q⟩:=h
 cases rx
 cases ry
 obtain ⟨its,r,hl,z⟩:=I.list hH
 obtain ⟨its2,r2,hl2,z2⟩:=I.list hB
 have e1:=r.length
 have e2:=r2.length
 obtain ⟨⟨cls,dd,data,sl⟩,n,p1,p2,p3,p4⟩:=hl
 obtain ⟨⟨cls2,dd2,data2,sl2⟩,n',q1,q2,q3,q4⟩:=hl2
 simp only at p2 p3 p4 q2 q3 q4
 subst p2 p3 p4 q2 q3 q4
 have ea:its.toArray++its2.toArray=(its++its2).toArray:=by simp
 refine T8 ⟨_,p1,rfl⟩ ⟨_,q1,rfl⟩ noFill_list_add seq_list_add PySem.F.slot_list_add PySem.F.entry_list_add (PySem.F.args_list_add_2 _ _) (list_addW l b its.toArray its2.toArray n n' none none sl sl2 (by simp; lia)) ⟨p1,q1,?_⟩
 rw [ea]
 exact ⟨.ref _,_,I.Er (t':=s.toks) (r.append r2) (by rw [Py]; lia),rfl,q _ I.fresh⟩
noncomputable def AQ (K:ON):R2:=fun x y H Q=>∃ a b xs ys,x=.ref a∧y=.ref b∧c8 K H a xs∧c8 K H b ys∧xs.length+ys.length≤sizeLine ∧
 (xs=[]→Q (.ref b) H)∧(ys=[]→Q (.ref a) H)∧∀ p,H p=none→Q (.ref p) (upd H p (.tup (xs++ys)))
theorem AR:fM X (binaryOp .Add) (AQ X.K):=by
 intro aa s σ H x y v u Q I rx ry h
 obtain ⟨t,b,xs,ys,rfl,rfl,hH,hB,hz,c1,c2,q⟩:=h
 cases rx
 cases ry
 obtain ⟨vs,r,ht,z⟩:=I.tuple hH
 obtain ⟨ws,r2,hb,z2⟩:=I.tuple hB
 obtain ⟨⟨cls,dd,data,sl⟩,ho,hc,n,hd⟩:=id ht
 obtain ⟨⟨cls2,dd2,data2,sl2⟩,ho2,hc2,n2,hd2⟩:=id hb
 simp only at hc hd hc2 hd2
 subst hc hd hc2 hd2
 have e:vs.toArray++ws.toArray=(vs++ws).toArray:=by simp
 have e1:=r.length
 have e2:=r2.length
 by_cases hv:vs=[]
 ·exact T8 ⟨_,ho,rfl⟩ ⟨_,ho2,rfl⟩ U0 seq_tuple_add Uz Uv (Ut _ _)
   (tuple_addW0 t b vs.toArray ws.toArray n n2 dd dd2 sl sl2 (by simp [hv])) ⟨ho,ho2,⟨.ref b,H,I,rfl,c1 (by rw [Vals.vP r] at hv; exact hv)⟩⟩
 ·by_cases hw:ws=[]
  ·exact T8 ⟨_,ho,rfl⟩ ⟨_,ho2,rfl⟩ U0 seq_tuple_add Uz Uv (Ut _ _)
    (tuple_addW1 t b vs.toArray ws.toArray n n2 dd dd2 sl sl2 (by simpa using hv) (by simp [hw])) ⟨ho,ho2,⟨.ref t,H,I,rfl,c2 (by rw [Vals.vP r2] at hw; exact hw)⟩⟩
  ·refine T8 ⟨_,ho,rfl⟩ ⟨_,ho2,rfl⟩ U0 seq_tuple_add Uz Uv (Ut _ _)
    (tuple_addW2 t b vs.toArray ws.toArray n n2 dd dd2 sl sl2 (by simpa using hv) (by simpa using hw) (by rw [O9,O9]; lia)) ⟨ho,ho2,?_⟩
   rw [e]
   refine ⟨.ref s.heap.objs.size,_,I.laid (t':=s.toks) (o:=.tup (xs++ys)) (fun b ob q=>OU _ q) (OP _) ?_,rfl,q _ (I.hok.fresh (OP _))⟩
   exact ⟨by rw [Py]; exact hz,_,r.append r2,IsTup.new _ _⟩
inductive lB:D→D→(Sl→Prop)→Prop where
 | int {i j:Int} {R:Sl→Prop} (h:R (.va (.int (i+j)))):lB (.int i) (.int j) R
 | lst {ds es:List D} {R:Sl→Prop} (h:Sd (ds.length+es.length≤sizeLine) (R (.ow (ds++es)))):lB (.lst ds) (.lst es) R
 | tup {ds es:List D} {R:Sl→Prop} (h:Sd (ds.length+es.length≤sizeLine) (R (.va (.tup (ds++es))))):lB (.tup ds) (.tup es) R
 | str {x y:Str} {R:Sl→Prop} (h:Sd (x.length+y.length≤sizeLine) (R (.va (.str (x++y))))):lB (.str x) (.str y) R
theorem j9 (h:aq K H ds []):ds=[]:=by
 have:=h.length; cases ds with
 | nil=>rfl
 | cons _ _=>simp at this
theorem ET:M5 K (fun x y H Q=>(((vK fun i j=>V.int (i+j)) x y H Q∨GL K x y H Q)∨AQ K x y H Q)∨∃ i j,x=.str i∧y=.str j∧i.length+j.length≤sizeLine∧Q (.str (i++j)) H) lB:=by
 rintro x y v u H Hf Q R s rx ry h q
 cases h with
 | @int i j _ h =>
  rw [az] at rx ry
  exact .inl (.inl (.inl ⟨i,j,rx,ry,q (.va (.int (i+j))) _ H Hf h (show Rep K Hf (.int (i+j)) _ from az.mpr rfl) (.refl s)⟩))
 | @lst ds es _ h =>
  rw [aY] at rx ry
  obtain ⟨a,xs,rfl,h1,h2⟩:=rx
  obtain ⟨b,ys,rfl,h3,h4⟩:=ry
  refine .inl (.inl (.inr ⟨a,b,xs,ys,rfl,rfl,s.seq h1,s.seq h3,by rw [← h2.length,← h4.length]; exact h.s,fun p hp=>?_⟩))
  exact q (.ow (ds++es)) _ _ _ h.r ⟨p,xs++ys,rfl,hp,ai,s.free hp,h2.append h4⟩ (bu.gq s hp)
 | @tup ds es _ h =>
  rw [aI] at rx ry
  obtain ⟨a,xs,rfl,h1,h2⟩:=rx
  obtain ⟨b,ys,rfl,h3,h4⟩:=ry
  refine .inl (.inr ⟨a,b,xs,ys,rfl,rfl,av s h1,av s h3,by rw [← h2.length,← h4.length]; exact h.s,fun e=>?_,fun e=>?_,fun p hp=>?_⟩)
  ·subst e
   have:=j9 h2
   subst this
   exact q (.va (.tup ([]++es))) _ H Hf h.r (show Rep K Hf (.tup ([]++es)) _ from aI.mpr ⟨b,ys,rfl,h3,h4⟩) (.refl s)
  ·subst e
   have:=j9 h4
   subst this
   exact q (.va (.tup (ds++[]))) _ H Hf h.r (show Rep K Hf (.tup (ds++[])) _ from aI.mpr ⟨a,xs,rfl,h1,by rw [P1]; exact h2⟩) (.refl s)
  ·have g:=bu.new s hp (o:=.tup (xs++ys))
   exact q (.va (.tup (ds++es))) _ _ _ h.r (show Rep K _ (.tup (ds++es)) _ from aI.mpr ⟨p,xs++ys,rfl,.inl (.inl ai),(h2.append h4).mono g.f⟩) g
 | @str x y _ h =>
  rw [fO] at rx ry
  exact .inr ⟨x,y,rx,ry,h.s,q (.va (.str (x++y))) _ H Hf h.r (show Rep K Hf (.str (x++y)) _ from fO.mpr rfl) (.refl s)⟩
theorem AS {R:Sl→Prop} (h:aJ c a ρ fun x=>aJ c b ρ fun y=>lB x y R):dD c (.BinOp a .Add b pos) ρ R :=
 o6 (fM.or (fM.or (fM.or HK ES) AR) ud) ET h
noncomputable def cutD {α:Type} (xs:List α) (lo hi:Option Int):List α:=(xs.drop (HT.cg xs.length 0 lo)).take (HT.cg xs.length xs.length hi - HT.cg xs.length 0 lo)
theorem qT (h:aq K H ds xs) (lo hi):aq K H (cutD ds lo hi) (oW xs lo hi):=by
 unfold cutD oW
 rw [h.length]
 exact (h.drop _).take _
noncomputable def bP (X:Cx) (e:Option Expr):TO:=fun σ H Q=>∀ aa s,Inv X aa σ H s→wpAny (model X.prog X.w) X.A (evalPart e X.env) (fun u s'=>∃ o H',Inv X aa σ H' s'∧IsPart u o∧Q o H') X.xe s
theorem LL {X:Cx} {e:Option Expr}:PO X e (bP X e):=fun aa s σ H Q I h=>h aa s I
noncomputable def DV (c:Ctx P w K mg base k N sc bk) (e:Option Expr) (ρ:List Sl) (R:Option Int→Prop):Prop :=
 ∀ (σ:L2.St) (H Hf:Hp) (Q:Option Int→Hp→Prop),bz c σ H Hf ρ→(∀ o H' aj,R o→bu H Hf H' aj→Q o H')→bP c.X e σ H Q
theorem IE {R:Option Int→Prop} (h:R none):DV c none ρ R:=fun σ H Hf Q S q aa s I=>El aa s σ H Q I (q none H Hf h (.refl S.sb))
theorem IF {R:Option Int→Prop} (h:aJ c e ρ (I1 fun i=>R (some i))):DV c (some e) ρ R:=fun σ H Hf Q S q aa s I =>
 Em dB aa s σ H Q I (h σ H Hf _ S fun d v H' aj ⟨i,e,hR⟩ r g=>by subst e; rw [az] at r; exact ⟨i,r,q _ H' aj hR g⟩)
noncomputable def LM (K:ON):V→Option Int→Option Int→Hp→VK→Prop:=fun x lo hi H Q=>∃ a xs,x=.ref a∧c8 K H a xs ∧
 (HT.cg xs.length 0 lo=0∧HT.cg xs.length xs.length hi=xs.length)∧Q (.ref a) H
theorem iz {lo hi:Option Int} (ht:IsTup s.heap t items) (hs:s.heap.IsSliceOf sl vl vu .none) (pl:IsPart vl lo) (pu:IsPart vu hi)
 (hw:HT.cg items.size 0 lo=0∧HT.cg items.size items.size hi=items.size) (h:Q (.ref t) s):wpAny (model prog w) A (getItem (.ref t) (.ref sl)) Q E s:=by
 obtain ⟨os,hos,hcs,hds⟩:=id hs
 have hTs:s.TypeIs (.ref sl) "slice":=⟨os,hos,hcs⟩
 unfold getItem
 try with_reducible refine Qa ?_
 first | refine OM (OO ?_) | skip
 refine OM (UP ht.typeIs (by decide) ?_)
 refine OM (QY (name:=OL "__getitem__") ht.typeIs RB
  (Qv RB ht.typeIs entry_tuple_getitem ?_ (args_tuple_getitem _ _)))
 show wpAny _ _ (Builtin.Tuple.tupleItemsOf (.ref t) >>= _) _ _ s
 refine OM (tupleItemsOf_ ht ?_)
 refine OM (Q7 hTs ?_)
 rw [if_pos (by decide)]
 refine OM (HT.fC hs pl pu ?_)
 have hyes:((((HT.cg items.size 0 lo:Nat):Int) == 0 && (1:Int) == 1 && (HT.cg items.size items.size hi - HT.cg items.size 0 lo) == items.size)=true):=by
  rw [hw.1,hw.2]; simp
 show wpAny _ _ (if (((HT.cg items.size 0 lo:Nat):Int) == 0 && (1:Int) == 1 && (HT.cg items.size items.size hi - HT.cg items.size 0 lo) == items.size)=true then _ else _) _ _ s
 rw [if_pos hyes]
 obtain ⟨⟨cls,dd,data,sl'⟩,ho,hc,n,hd⟩:=id ht
 simp only at hc hd
 subst hc hd
 unfold Builtin.Tuple.tupleIsExact
 wp_walk using S6 ho
 exact ⟨_,rfl,OO h⟩
theorem AU:DU X (LM X.K):=by
 intro aa s σ H x v vl vu lo hi sl Q I rx hs pl pu h
 obtain ⟨a,xs,rfl,hx,hw,q⟩:=h
 cases rx
 obtain ⟨its,r,ht,hz⟩:=I.tuple hx
 have hlen:its.toArray.size=xs.length:=by rw [O9]; exact r.length.symm
 refine ⟨"tuple",_,RB.lookup,ht.typeIs,?_⟩
 exact iz ht hs pl pu (by rw [hlen]; exact hw) ⟨.ref a,H,I,rfl,q⟩
inductive IG:D→Option Int→Option Int→(Sl→Prop)→Prop where
 | lst {ds:List D} {lo hi:Option Int} {R:Sl→Prop} (h:R (.ow (cutD ds lo hi))):IG (.lst ds) lo hi R
 | tup {ds:List D} {lo hi:Option Int} {R:Sl→Prop} (h:R (.va (.tup (cutD ds lo hi)))):IG (.tup ds) lo hi R
theorem yf {lo hi:Option Int} (h:HT.cg xs.length 0 lo=0∧HT.cg xs.length xs.length hi=xs.length):cutD xs lo hi=xs:=by
 unfold cutD; rw [h.1,h.2]; simp
theorem v9 {lo hi:Option Expr} {R:Sl→Prop} (h:aJ c e ρ fun x=>DV c lo ρ fun l=>DV c hi ρ fun u=>IG x l u R):dD c (.Subscript e (.Slice lo hi none p2) pos) ρ R:=fun σ H Hf Q S q =>
 bR (Ag (DU.or (DU.or Ep HY) AU) dB LL LL) (h σ H Hf _ S fun x v H1 aQ h1 r1 g1=>h1 σ H1 aQ _ (S.cG g1) fun l H2 cQ h2 g2=>h2 σ H2 cQ _ (S.cG (g1.trans g2)) fun u H3 Hf3 h3 g3=>by
  have r3:=Rep.mono g3.f x (Rep.mono g2.f x r1)
  have g:=(g1.trans g2).trans g3
  cases h3 with
  | lst h =>
   rw [aY] at r3
   obtain ⟨a,xs,rfl,k1,k2⟩:=r3
   refine .inl (.inl ⟨a,xs,rfl,g3.b.seq k1,fun p hp=>?_⟩)
   exact q _ _ _ _ h ⟨p,_,rfl,g.s.free hp,ai,g3.b.free hp,qT k2 l u⟩ (g.trans (bu.gq g3.b hp))
  | tup h =>
   rw [aI] at r3
   obtain ⟨a,xs,rfl,k1,k2⟩:=r3
   by_cases hw:HT.cg xs.length 0 l=0∧HT.cg xs.length xs.length u=xs.length
   ·refine .inr ⟨a,xs,rfl,av g3.b k1,hw,?_⟩
    refine q _ _ _ _ h (show Rep c.X.K Hf3 _ _ from aI.mpr ⟨a,xs,rfl,k1,?_⟩) g
    rw [yf (by rw [k2.length]; exact hw)]; exact k2
   ·refine .inl (.inr ⟨a,xs,rfl,av g3.b k1,hw,fun p hp=>?_⟩)
    have g4:=bu.new g3.b hp (o:=.tup (oW xs l u))
    exact q _ _ _ _ h (show Rep c.X.K _ _ _ from aI.mpr ⟨p,_,rfl,.inl (.inl ai),(qT k2 l u).mono g4.f⟩) (g.trans g4))
theorem AV (a:bu H₀ dU H1 aQ) (b:bu H₀ aQ H Hf):bu H₀ dU H Hf :=
 ⟨b.s,a.f.trans b.f,b.b,fun c h1 h2 h3=>b.n c (a.n c h1 h2 h3) h2 h3⟩
theorem c9.re (a:bu H₀ dU H1 aQ) (S:c9 K H₀ aQ σ H Hf ρ):c9 K H₀ dU σ H Hf ρ:=⟨AV a S.bas,S.len,S.at_,S.sep⟩
theorem c9.anew (S:c9 K H₀ dU σ H Hf ρ):c9 K H₀ Hf σ H Hf ρ:=⟨⟨S.bas.s,.refl _,S.bas.b,fun _ h _ _=>h⟩,S.len,S.at_,S.sep⟩
noncomputable def Ctx.at_ (c:Ctx P w K mg base k N sc bk) {H1 aQ:Hp} (a:bu c.B c.Hf H1 aQ):Ctx P w K mg base k N sc bk :=
 { X:=c.X,eP:=c.eP,ew:=c.ew,eK:=c.eK,emg:=c.emg,eb:=c.eb,eN:=c.eN,esc:=c.esc,calm:=c.calm,top:=c.top,cb:=c.cb,fn:=c.fn,room:=c.room,nd:=c.nd,vis:=c.vis,B:=c.B,Hf:=aQ,RX:=c.RX,RM:=c.RM,
   exc:=fun C x aa σ H aj ρ s H' s' I S h X sm=>c.exc C x aa σ H aj ρ s H' s' I (S.re a) h X sm,mde:=fun C x aa σ H aj ρ s h' us I S h hx=>c.mde C x aa σ H aj ρ s h' us I (S.re a) h hx }
theorem Av.at_ {nx:List Sl→Prop} {p:Pt} {D:Ends} {H1 aQ:Hp} (a:bu c.B c.Hf H1 aQ) (o:Av c nx p D):Av (c.at_ a) nx p D :=
 ⟨fun σ H Hf ρ S q=>o.nx σ H Hf ρ (c9.re a S) q,fun r v H Hf g rv q=>o.rt r v H Hf (AV a g) rv q,fun σ H Hf ρ S q=>o.bk σ H Hf ρ (c9.re a S) q,fun σ H Hf ρ S q=>o.ct σ H Hf ρ (c9.re a S) q⟩
noncomputable def bI (X:Cx) (tg iter:Expr):TI:=fun σ H R=>∀ aa s,Inv X aa σ H s→wpAny (model X.prog X.w) X.A (eval iter X.env) (fun v s1=>wpAny (model X.prog X.w) X.A (pyIter v) (Nu X aa σ tg R) X.xe s1) X.xe s
theorem OH {X:Cx} {tg iter:Expr}:PI X tg iter (bI X tg iter):=fun aa s σ H R I h=>h aa s I
structure jJ (K:ON) (J:It) (ds:List D) (dU:Hp):Prop where
 go:∀ i d H Hf,aH dU Hf→aH Hf H→ds[i]?=some d→J.go i H∧∀ x H',J.yld i H x H'→∃ aj,bu H Hf H' aj∧Rep K aj d x
 stop:∀ i H Hf,aH dU Hf→aH Hf H→ds.length≤i→J.stop i H
noncomputable def II (c:Ctx P w K mg base k N sc bk) (tg iter:Expr) (ρ:List Sl) (R:List D→Prop):Prop :=
 ∀ (σ:L2.St) (H Hf:Hp) (Q:It→Hp→Prop),bz c σ H Hf ρ→(∀ ds J H' aj,R ds→bu H Hf H' aj→jJ c.X.K J ds aj→Q J H')→bI c.X tg iter σ H Q
theorem yg {K:ON} {ds:List D} {xs:List V} {p:Addr} {dU:Hp} (h:gX K dU p xs) (r:aq K dU ds xs):jJ K (Nv K p) ds dU where
 go:=fun i d H Hf s1 s2 e=>by
  obtain ⟨x,ex,rx⟩:=r.get e
  refine ⟨⟨xs,x,(s1.trans s2).seq h,ex⟩,fun y H' ⟨e1,e2⟩=>?_⟩
  subst e1
  have:=e2 xs ((s1.trans s2).seq h)
  rw [ex] at this; cases this
  exact ⟨Hf,.refl s2,Rep.mono s1 d rx⟩
 stop:=fun i H Hf s1 s2 e=>⟨xs,(s1.trans s2).seq h,by rw [← r.length]; exact e⟩
theorem AW {K:ON} {ds:List D} {xs:List V} {p:Addr} {dU:Hp} (h:c8 K dU p xs) (r:aq K dU ds xs):jJ K (Ny K p) ds dU where
 go:=fun i d H Hf s1 s2 e=>by
  obtain ⟨x,ex,rx⟩:=r.get e
  refine ⟨⟨xs,x,av (s1.trans s2) h,ex⟩,fun y H' ⟨e1,e2⟩=>?_⟩
  subst e1
  have:=e2 xs (av (s1.trans s2) h)
  rw [ex] at this; cases this
  exact ⟨Hf,.refl s2,Rep.mono s1 d rx⟩
 stop:=fun i H Hf s1 s2 e=>⟨xs,av (s1.trans s2) h,by rw [← r.length]; exact e⟩
noncomputable def N2 (K:ON) (tl:TE):TI:=fun σ H R=>tl σ H fun x H1=>∃ a,x=.ref a∧(((∃ xs,gX K H1 a xs)∧R (Nv K a) H1)∨((∃ xs,c8 K H1 a xs)∧R (Ny K a) H1))
theorem IJ (hl:PE X l tl):PI X tg l (N2 X.K tl):=by
 intro aa s σ H R I h
 refine bJ (hl aa s σ H _ I h) fun v s1 ⟨x,H1,I1,r1,q1⟩=>?_
 obtain ⟨a,e,h⟩:=q1
 subst e
 cases r1
 rcases h with ⟨⟨xs,hq⟩,q⟩ | ⟨⟨xs,hq⟩,q⟩
 ·obtain ⟨its,rv,p,hz⟩:=I1.list hq
  refine UR p.isList ?_
  refine ⟨s1.heap.objs.size,[s1.heap.objs.size],_,_,H1,rfl,I1.kept (t':=s1.toks) fun b o e=>OU _ e,xV a _,⟨_,O6 _ rfl,rfl,rfl⟩,fun b hb=>?_,q⟩
  have e:b=s1.heap.objs.size:=by simpa using hb
  subst e
  exact I1.mT (OP _) (I1.hok.fresh (OP _))
 ·obtain ⟨its,rv,p,hz⟩:=I1.tuple hq
  refine UK (show s1.heap.IsTuple a its.toArray from p) ?_
  refine ⟨s1.heap.objs.size,[s1.heap.objs.size],_,_,H1,rfl,I1.kept (t':=s1.toks) fun b o e=>OU _ e,tZ a _,⟨_,O6 _ rfl,rfl,rfl⟩,fun b hb=>?_,q⟩
  have e:b=s1.heap.objs.size:=by simpa using hb
  subst e
  exact I1.mT (OP _) (I1.hok.fresh (OP _))
theorem cA {R:List D→Prop} (h:aJ c e ρ fun d=>∃ ds,d.row=some ds∧R ds):II c tg e ρ R:=fun σ H Hf Q S q aa s I =>
 IJ dB aa s σ H Q I (h σ H Hf _ S fun d v H' aj ⟨ds,er,hR⟩ r g=>by
  obtain ⟨p,xs,rfl,hr,hk⟩:=jb er r
  refine ⟨p,rfl,?_⟩
  rcases hk with ⟨_,hk⟩ | ⟨_,hk⟩
  ·exact .inl ⟨⟨xs,g.b.seq hk⟩,q ds _ H' aj hR g (yg hk hr)⟩
  ·exact .inr ⟨⟨xs,av g.b hk⟩,q ds _ H' aj hR g (AW hk hr)⟩)
noncomputable def qU (lo:Int) (n:Nat):List D:=(PF n).map fun (i:Nat)=>D.int (lo+(i:Int))
theorem AX {K:ON} {lo:Int} {n:Nat} {dU:Hp}:jJ K (M3 lo n) (qU lo n) dU where
 go:=fun i d H Hf s1 s2 e=>by
  unfold qU at e
  rw [OY] at e
  obtain ⟨j,e1,e2⟩:=O4.mp e
  have hi:i<n:=by
   have:=(OZ.mp e1).1
   simpa using this
  have:j=i:=by
   rw [RP hi] at e1; cases e1; rfl
  subst this
  refine ⟨hi,fun x H' ⟨e3,e4⟩=>?_⟩
  subst e3 e4 e2
  exact ⟨Hf,.refl s2,az.mpr rfl⟩
 stop:=fun i H Hf s1 s2 e=>by
  show n≤i
  simpa [qU] using e
noncomputable def AY (i:Int):Prop:= -(2 ^ 62)≤i∧i<2 ^ 62
theorem gu {R:List D→Prop} (hm:mg "range"=none) (h:aJ c e ρ (I1 fun j=>Sd (AY j) (R (qU 0 j.toNat)))) (hg:sc.names.lookup (OL "range")=some .globalImplicit:=by walk_at "u")
 (hs:∀ env,starEach [e] env=(false,eval e env)::starEach [] env:=by intro _; walk_at "u"):II c tg (.Call (.Name "range" p) [e] [] pos) ρ R:=fun σ H Hf Q S q aa s I =>
 xW (by unfold Gl PJ; rw [c.esc]; exact hg) (by rw [c.emg]; exact hm) (bN dB dJ (hs _)) (hs _) aa s σ H Q I (h σ H Hf _ S fun d v H' aj ⟨j,ed,⟨hj,hR⟩⟩ r g=>by
  subst ed; rw [az] at r; subst r
  exact ⟨j,rfl,hj.1,hj.2,q _ _ H' aj hR g AX⟩)
theorem cS {tg iter:Expr} {body:List Stmt} {nx:List Sl→Prop} {p:Pt} (hq:c.X.xe=fun _ _=>False)
 (h:II c tg iter ρ fun ds=>∃ I:Nat→List Sl→Prop,I 0 ρ ∧
   (∀ c':Ctx P w K mg base k N sc bk,c'.X=c.X→c'.RX=c.RX→c'.RM=c.RM→∀ i d ρ',ds[i]?=some d→I i ρ'→nR c' tg d ρ' fun ρ''=>aS c' body ρ'' (I (i+1)) { rt:=p.rt,bk:=nx,ct:=I (i+1) })∧∀ ρ',I ds.length ρ'→nx ρ')
 (hs:∀ env x,foldedSetIterable iter env x=pure x:=by intro _ _; walk_at "u"):eV c (.For tg iter body [] pos) ρ nx p:=fun σ H Hf D S o =>
 dQ (HG (by rw [hq]; exact PassesOwn.never) c.calm OH Ol qN (hs _)) (h σ H Hf _ S fun ds J H1 aQ ⟨I,h0,hb,he⟩ g io=>by
  have S1:=S.cG g
  have gb:bu c.B c.Hf H1 aQ:=S1.bas
  refine ⟨fun i m σ H=>m=ds.length - i∧i≤ds.length∧∃ Hf ρ',bz (c.at_ gb) σ H Hf ρ'∧I i ρ',⟨_,rfl,Pn _,aQ,ρ,S1.anew,h0⟩,?_⟩
  rintro i m σ H ⟨rfl,hi,Hf,ρ',S',hI⟩
  by_cases hlt:i<ds.length
  ·have ed:ds[i]?=some ds[i]:=Pc hlt
   obtain ⟨hgo,hy⟩:=io.go i _ H Hf S'.bas.f S'.bas.b ed
   refine .inr ⟨hgo,fun σ' H'=>∃ aj ρ'',bz (c.at_ gb) σ' H' aj ρ''∧I (i+1) ρ'',fun σ' H' ⟨aj,ρ'',S'',hI'⟩=>⟨_,by omega,rfl,hlt,aj,ρ'',S'',hI'⟩,fun x H' hx=>?_⟩
   obtain ⟨aj,g',rx⟩:=hy x H' hx
   refine hb (c.at_ gb) rfl rfl rfl i _ ρ' ed hI σ H' aj x _ (S'.cG g') rx fun σ2 H2 cQ ρ2 S2 _ hbody=>?_
   exact hbody σ2 H2 cQ _ S2 ⟨fun σ H Hf ρ S q=>⟨Hf,ρ,S,q⟩,(o.at_ gb).rt,fun σ H Hf ρ S q=>(o.at_ gb).nx σ H Hf ρ S q,fun σ H Hf ρ S q=>⟨Hf,ρ,S,q⟩⟩
  ·have e:i=ds.length:=by omega
   subst e
   exact .inl ⟨io.stop _ H Hf S'.bas.f S'.bas.b (OP _),(o.at_ gb).nx σ H Hf ρ' S' (he ρ' hI)⟩)
end
section
end
section
end
section
variable {K:ON}
end
section
variable {K:ON} {R:D→Prop}
theorem qV (h:R d):GH R (.va d):=⟨d,rfl,h⟩
theorem cj (h:R (.lst ds)):GH R (.ow ds):=⟨.lst ds,rfl,h⟩
theorem IK (h:aJ c a ρ fun x=>aJ c b ρ fun y=>lB x y (GH R)):aJ c (.BinOp a .Add b pos) ρ R:=e_x (AS h)
theorem qO.imp {R R':List D→Prop} (h:qO c es ρ R) (hi:∀ d,R d→R' d):qO c es ρ R':=fun σ H Hf Q S q=>h σ H Hf Q S fun d v H' aj rd=>q d v H' aj (hi d rd)
theorem IL (h:qO c es ρ fun ds=>Sd (ds.length≤sizeLine) (R (.lst ds))):aJ c (.List es pos) ρ R:=e_x (GK (h.imp fun ds hd=>⟨hd.s,cj hd.r⟩))
theorem AZ {lo hi:Option Expr} (h:aJ c e ρ fun x=>DV c lo ρ fun l=>DV c hi ρ fun u=>IG x l u (GH R)):aJ c (.Subscript e (.Slice lo hi none p2) pos) ρ R:=e_x (v9 h)
theorem A0 {R:Sl→Prop} (h:R (.va (.int (i+j)))):lB (.int i) (.int j) R:=.int h
theorem A1 {ds es:List D} {R:Sl→Prop} (h:Sd (ds.length+es.length≤sizeLine) (R (.ow (ds++es)))):lB (.lst ds) (.lst es) R:=.lst h
theorem A2 {ds es:List D} {R:Sl→Prop} (h:Sd (ds.length+es.length≤sizeLine) (R (.va (.tup (ds++es))))):lB (.tup ds) (.tup es) R:=.tup h
theorem IM {b:Bool} (ty:yc K d t) (e:Qp K t cv=some b) (h:R (.bl b)):∃ t b,yc K d t∧Qp K t cv=some b∧R (.bl b):=⟨t,b,ty,e,h⟩
theorem GN (h:aJ c a ρ fun x=>aJ c b ρ fun y=>KL x y R) (hs:kF b:=by with_unfolding_all exact fun _ _=>rfl):aJ c (.Subscript a b pos) ρ R:=LK h hs
theorem A3 {x:D} {Q:List D→Prop} (e:x.row=some ds) (h:Q ds):∃ ys,x.row=some ys∧Q ys:=⟨ds,e,h⟩
theorem aF {F:Fn} {R:Sl→Prop} (h:F ds (.ok sl)) (r:R sl):∃ r,F ds r∧Iz c ρ R r:=⟨_,h,r⟩
end
section
variable {K:ON}
end
noncomputable def del (H:Hp) (p:Addr):Hp:=fun b=>if b=p then none else H b
theorem jd:del H p p=none:=if_pos rfl
theorem ck (h:b≠p):del H p b=H b:=if_neg h
theorem A4 (h:H₀ p=none) (s:aH H₀ H):aH H₀ (del H p):=fun b o e=>by
 rw [ck (aB e h)]; exact s b o e
theorem je (h:del H p b=some o):b≠p∧H b=some o:=by
 by_cases e:b=p
 ·subst e; rw [jd] at h; cases h
 ·rw [ck e] at h; exact ⟨e,h⟩
theorem gY (sb:aH Hf H) (hp:Hf p=none):bu (del H p) Hf (upd H p o) Hf :=
 ⟨fun b u e=>by obtain ⟨h1,h2⟩:=je e; rw [ak h1]; exact h2,.refl _,fun b u e=>by rw [ak (aB e hp)]; exact sb b u e,fun _ h _ _=>h⟩
section
variable {K:ON}
theorem aZ.wc (ho:r.owned=true) (h:aZ K fr H Hf r v):∃ p o,v=.ref p∧fr p∧H p=some o∧Hf p=none∧¬ Ar H p:=by
 have nf:∀ {p:Addr} {u:HO},H p=some u→(∀ φ,u≠.ext φ)→¬ Ar H p:=fun e k ⟨z,e2⟩=>by rw [e] at e2; exact k _ (Qw e2)
 cases r with
 | un=>cases ho
 | va d=>cases ho
 | fo s=>cases ho
 | ow ds=>obtain ⟨p,xs,rfl,f,h1,h2,_⟩:=h; exact ⟨p,_,rfl,f,h1,h2,nf h1 (by intro _ z; cases z)⟩
 | oT ds=>obtain ⟨p,xs,rfl,f,h1,h2,_⟩:=h; exact ⟨p,_,rfl,f,h1,h2,nf h1 (by intro _ z; cases z)⟩
 | oK ds=>obtain ⟨p,xs,rfl,f,h1,h2,_⟩:=h; exact ⟨p,_,rfl,f,h1,h2,nf h1 (by intro _ z; cases z)⟩
 | aw a ds=>obtain ⟨p,xs,rfl,f,h1,h2,_⟩:=h; exact ⟨p,_,rfl,f.1,h1,h2,nf h1 (by intro _ z; cases z)⟩
 | aT a ds=>obtain ⟨p,xs,rfl,f,h1,h2,_⟩:=h; exact ⟨p,_,rfl,f.1,h1,h2,nf h1 (by intro _ z; cases z)⟩
 | aK a ds=>obtain ⟨p,xs,rfl,f,h1,h2,_⟩:=h; exact ⟨p,_,rfl,f.1,h1,h2,nf h1 (by intro _ z; cases z)⟩
theorem aZ.qW (ho:r.owned=true) (h:aZ K fr H Hf r v):∃ p o,v=.ref p∧fr p∧H p=some o∧Hf p=none :=
 let ⟨p,o,a,b,c,d,_⟩:=h.wc ho; ⟨p,o,a,b,c,d⟩
theorem aZ.LN (nf:¬ Ar H p) (hv:r.owned=true→v≠.ref p) (h:aZ K fr H Hf r v):aZ K fr (del H p) Hf r v :=
 aZ.mv (B:=fun q=>q=p) (.refl _) (fun q o hq e1 _ e3=>⟨by rw [ck hq]; exact e1,e3⟩) (fun _ q e=>by subst e; exact nf) (fun ho q z e=>by subst e; exact hv ho z) h
theorem c9.own (S:c9 K H₀ dU σ H Hf ρ) {i:Nat} (hi:ρ[i]?=some r) (ho:r.owned=true):∃ p,σ[i]?=some (some (.ref p))∧aZ K (fun p=>H₀ p=none) H Hf r (.ref p):=by
 obtain ⟨v,e,q⟩:=S.at_ i r hi (by rintro rfl; cases ho)
 obtain ⟨p,o,rfl,_⟩:=q.qW ho
 exact ⟨p,e,q⟩
theorem c9.upd (S:c9 K H₀ dU σ H Hf ρ) (hi:ρ[i]?=some r) (ho:r.owned=true) (hp:σ[i]?=some (some (.ref p))) (g:bu (del H p) Hf H1 aQ)
 (hr:aZ K (fun q=>q=p) H1 aQ r' (.ref p)) (ho':r'.owned=true):c9 K H₀ dU σ H1 aQ (ρ.set i r'):=by
 obtain ⟨p',ep,q⟩:=S.own hi ho
 rw [hp] at ep; cases ep
 obtain ⟨_,o,e,fp,hHp,hfp,nfz⟩:=q.wc ho
 cases e
 have hlt:i<ρ.length:=(OZ.mp hi).1
 refine ⟨⟨(A4 fp S.bas.s).trans g.s,S.bas.f.trans g.f,g.b,fun b h1 h2 h3=>?_⟩,by simp [S.len],fun j r1 hj hu=>?_,fun j j' r1 r2 q' hne h1 h2 o1 o2=>?_⟩
 ·have hb:b≠p:=fun z=>by subst z; exact h2 fp
  cases z:H₀ b with
  | none=>exact absurd z h2
  | some o1 =>
   have e1:=S.bas.s b o1 z
   refine g.n b (S.bas.n b h1 h2 h3) (by rw [ck hb,e1]; simp) fun xs=>?_
   rw [ck hb,e1,← z]; exact h3 xs
 ·by_cases e:j=i
  ·subst e
   rw [Qf hlt] at hj; cases hj
   exact ⟨_,hp,hr.weak fun q' z=>by subst z; exact fp⟩
  ·rw [Qh (Pf e)] at hj
   obtain ⟨v,e1,e2⟩:=S.at_ j r1 hj hu
   exact ⟨v,e1,(e2.LN (p:=p) nfz fun ow z=>by subst z; exact S.sep i j _ _ p (Pf e) hi hj ho ow hp e1).cG g⟩
 ·have out:∀ {j:Nat} {r1:Sl},(ρ.set i r')[j]?=some r1→r1.owned=true→∃ r2,ρ[j]?=some r2∧r2.owned=true:=fun {j r1} hj how=>by
   by_cases e:j=i
   ·subst e; exact ⟨r,hi,ho⟩
   ·rw [Qh (Pf e)] at hj; exact ⟨r1,hj,how⟩
  obtain ⟨r3,a1,a2⟩:=out h1 o1
  obtain ⟨r4,b1,b2⟩:=out h2 o2
  exact S.sep j j' r3 r4 q' hne a1 b1 a2 b2
end
section
variable {K:ON} {c:Ctx P w K mg base k N sc bk}
theorem Ctx.lC (c:Ctx P w K mg base k N sc bk) (hN:At N i x) (hd:(x == ("__debug__":Str))=false) (hcd:(x == ("__classdict__":Str))=false):PE c.X (.Name x px) (KW i) :=
 tY (X:=c.X) (i:=i) (by rw [c.eN]; exact hN.get) (by rw [c.esc]; rcases c.vis x hN.mem with h | h; exact .inl h; exact .inr (.inl h)) hd hcd
noncomputable def Sl.getL:Sl→Option (List D) | .ow ds=>some ds | .aw _ ds=>some ds | _=>none
noncomputable def Sl.putL:Sl→List D→Sl | .ow _,es=>.ow es | .aw a _,es=>.aw a es | s,_=>s
theorem dh {r:Sl} (h:r.getL=some ds):r.owned=true:=by cases r <;> first | rfl | cases h
theorem iH {r:Sl} {ds es:List D} (h:r.getL=some ds):(r.putL es).owned=true:=by cases r <;> first | rfl | cases h
theorem IP {p:Addr} (h:r.getL=some ds) (q:aZ K fr H Hf r (.ref p)):∃ xs,H p=some (.lst xs)∧Hf p=none∧aq K Hf ds xs:=by
 cases r with
 | ow es=>cases h; obtain ⟨_,xs,e,_,h1,h2,h3⟩:=q; cases e; exact ⟨xs,h1,h2,h3⟩
 | aw a es=>cases h; obtain ⟨_,xs,e,_,h1,h2,h3⟩:=q; cases e; exact ⟨xs,h1,h2,h3⟩
 | _=>cases h
theorem lD {ds es:List D} {p:Addr} (h:r.getL=some ds) (q:aZ K fr H Hf r (.ref p)) (h1:H1 p=some (.lst ys)) (h2:aQ p=none) (h3:aq K aQ es ys) :
 aZ K (fun q=>q=p) H1 aQ (r.putL es) (.ref p):=by
 cases r with
 | ow _=>exact ⟨p,ys,rfl,rfl,h1,h2,h3⟩
 | aw a _=>obtain ⟨_,xs,e,f,_⟩:=q; cases e; exact ⟨p,ys,rfl,⟨rfl,f.2⟩,h1,h2,h3⟩
 | _=>cases h
theorem uu (hN:At N i x) (hi:At ρ i r) (hr:r.getL=some ds) (h:aJ c e ρ fun d=>Sd (ds.length<sizeLine) (Nx ρ i nx (r.putL (ds++[d]))))
 (hs:∀ env,swapsWith (.Call (.Attribute (.Name x px) "append" ap) [e] [] cp) none pos.line env=pure false:=by intro _; walk_at "u") (hd:(x == ("__debug__":Str))=false:=by decide) (hcd:(x == ("__classdict__":Str))=false:=by decide)
 (hbase:∀ env,attributeBase (.Name x px) "append" env (eval (.Name x px) env)=eval (.Name x px) env:=by intro _; walk_at "u")
 (hfew:∀ env,((backTo cp (starEach [e] env)).all (fun x=> !x.1) && (backToKw cp (keywordEach [] env)).all (fun x=>x.1.isSome)
   && decide (([e]:List Expr).length+([]:List Keyword).length+(if ([]:List Keyword).isEmpty then 0 else 1)<30))=true:=by intro _; walk_at "u")
 (hline:(ap.endLine == cp.line)=true:=by walk_at "u") (he:∀ env,starEach [e] env=(false,eval e env)::starEach [] env:=by intro _; walk_at "u") (hpl:∀ env,(backTo cp (starEach [] env)).any (·.1)=false:=by intro _; walk_at "u") :
 eV c (.Expr (.Call (.Attribute (.Name x px) "append" ap) [e] [] cp) pos) ρ nx p:=fun σ H Hf D S o=>by
 obtain ⟨q,eq,rq⟩:=S.own hi.get (dh hr)
 obtain ⟨xs,h1,h2,h3⟩:=IP hr rq
 refine dQ (kD (GD PySem.F.plainAttrs_list PySem.F.slot_list_append PySem.F.type_list_append nK (c.lC hN hd hcd) (bN dB dJ (he _)) (hbase _) (hfew _) hline (he _) (hpl _)) (hs _)) ⟨_,eq,.inl ⟨rfl,xs,.inl (.inl h1)⟩,?_⟩
 refine h σ H Hf _ S fun d v H' aj ⟨hz,ρ',hs',hn⟩ rd g=>?_
 have S':=S.cG g
 have e1:H' q=some (.lst xs):=g.s _ _ h1
 have e2:aj q=none:=g.n q h2 (by rw [h1]; simp) (by intro ys; rw [h1]; simp)
 refine ⟨q,xs,v,rfl,rfl,e1,by rw [← h3.length]; exact hz,?_⟩
 refine o.nx _ _ aj ρ' ?_ hn
 rw [hs'.eq]
 have rq':=rq.cG g
 exact S'.upd hi.get (dh hr) eq (gY g.b e2) (lD hr rq' ai e2 ((h3.mono g.f).append (.one rd))) (iH hr)
end
section
variable {κ β:Type} [DecidableEq κ]
noncomputable def bD (kvs:List (κ×β)) (k:κ):Option β:=(kvs.find? fun kv=>decide (kv.1=k)).map (·.2)
noncomputable def putD (kvs:List (κ×β)) (k:κ) (v:β):List (κ×β) :=
 if (bD kvs k).isSome=true then kvs.map (fun kv=>if kv.1=k then (kv.1,v) else kv) else kvs++[(k,v)]
theorem br {q:κ×β} {r:List (κ×β)} {k:κ} (e:q.1=k):bD (q::r) k=some q.2:=by simp [bD,Qx,e]
theorem aU {q:κ×β} {r:List (κ×β)} {k:κ} (e:¬ q.1=k):bD (q::r) k=bD r k:=by simp [bD,Qx,e]
end
noncomputable def D.yh:D→Option Key | .int i=>some (.inl i) | .str x=>some (.inr x) | _=>none
noncomputable def D.keys:List D→Option (List Key)
 | []=>some []
 | d::r=>match d.yh,D.keys r with | some k,some ks=>some (k::ks) | _,_=>none
theorem jf {K:ON} (h:d.yh=some k) (r:Rep K H d v):v=kV k:=by
 cases d with
 | int i=>cases h; exact az.mp r
 | str x=>cases h; exact fO.mp r
 | _=>cases h
theorem gZ {K:ON}:∀ {ds:List D} {ks:List Key} {xs:List V},D.keys ds=some ks→aq K H ds xs→xs=ks.map kV
 | [],ks,xs,h,r=>by cases h; rw [aA.mp r]; rfl
 | d::ds,ks,xs,h,r=>by
  obtain ⟨x,t,rfl,r1,r2⟩:=aD.mp r
  unfold D.keys at h
  cases e1:d.yh with
  | none=>rw [e1] at h; cases h
  | some k =>
   cases e2:D.keys ds with
   | none=>rw [e1,e2] at h; cases h
   | some ks' =>
    rw [e1,e2] at h; cases h
    rw [jf e1 r1,gZ e2 r2]; rfl
noncomputable def Sl.GO:Sl→Bool | .oK _=>true | .aK _ _=>true | .oT _=>true | .aT _ _=>true | _=>false
theorem qX {r:Sl} (h:r.GO=true):r.owned=true:=by cases r <;> first | rfl | cases h
noncomputable def Sl.uv:Sl→Option (List (Key×D)) | .oK kvs=>some kvs | .aK _ kvs=>some kvs | _=>none
noncomputable def Sl.qY:Sl→List (Key×D)→Sl | .oK _,es=>.oK es | .aK a _,es=>.aK a es | s,_=>s
noncomputable def Sl.yi:Sl→Option (List (List Key×D)) | .oT kvs=>some kvs | .aT _ kvs=>some kvs | _=>none
noncomputable def Sl.A5:Sl→List (List Key×D)→Sl | .oT _,es=>.oT es | .aT a _,es=>.aT a es | s,_=>s
theorem lE {r:Sl} (h:r.uv=some kvs):r.owned=true:=by cases r <;> first | rfl | cases h
theorem lF {r:Sl} (h:r.uv=some kvs):(r.qY es).owned=true:=by cases r <;> first | rfl | cases h
theorem uw {r:Sl} (h:r.yi=some kvs):(r.A5 es).owned=true:=by cases r <;> first | rfl | cases h
section
variable {K:ON} {fr:Addr→Prop} {H Hf H1 aQ:Hp} {r:Sl} {p:Addr}
theorem yj (h:r.uv=some kvs) (q:aZ K fr H Hf r (.ref p)):∃ xs,H p=some (.dK xs)∧Hf p=none∧mQ K Hf kvs xs:=by
 cases r with
 | oK es=>cases h; obtain ⟨_,xs,e,_,h1,h2,h3⟩:=q; cases e; exact ⟨xs,h1,h2,h3⟩
 | aK a es=>cases h; obtain ⟨_,xs,e,_,h1,h2,h3⟩:=q; cases e; exact ⟨xs,h1,h2,h3⟩
 | _=>cases h
theorem EU (h:r.yi=some kvs) (q:aZ K fr H Hf r (.ref p)):∃ xs,H p=some (.dT xs)∧Hf p=none∧lu K Hf kvs xs:=by
 cases r with
 | oT es=>cases h; obtain ⟨_,xs,e,_,h1,h2,h3⟩:=q; cases e; exact ⟨xs,h1,h2,h3⟩
 | aT a es=>cases h; obtain ⟨_,xs,e,_,h1,h2,h3⟩:=q; cases e; exact ⟨xs,h1,h2,h3⟩
 | _=>cases h
theorem qZ (h:r.uv=some kvs) (q:aZ K fr H Hf r (.ref p)) (h1:H1 p=some (.dK ys)) (h2:aQ p=none) (h3:mQ K aQ es ys):aZ K (fun q=>q=p) H1 aQ (r.qY es) (.ref p):=by
 cases r with
 | oK _=>exact ⟨p,ys,rfl,rfl,h1,h2,h3⟩
 | aK a _=>obtain ⟨_,xs,e,f,_⟩:=q; cases e; exact ⟨p,ys,rfl,⟨rfl,f.2⟩,h1,h2,h3⟩
 | _=>cases h
theorem A6 (h:r.yi=some kvs) (q:aZ K fr H Hf r (.ref p)) (h1:H1 p=some (.dT ys)) (h2:aQ p=none) (h3:lu K aQ es ys):aZ K (fun q=>q=p) H1 aQ (r.A5 es) (.ref p):=by
 cases r with
 | oT _=>exact ⟨p,ys,rfl,rfl,h1,h2,h3⟩
 | aT a _=>obtain ⟨_,xs,e,f,_⟩:=q; cases e; exact ⟨p,ys,rfl,⟨rfl,f.2⟩,h1,h2,h3⟩
 | _=>cases h
noncomputable def A7 (K:ON) (Hf:Hp):Option D→Option V→Prop
 | none,none=>True
 | some d,some v=>Rep K Hf d v
 | _,_=>False
theorem mQ.val (h:mQ K Hf kvs xs) (k:Key):A7 K Hf (bD kvs k) (k6 xs k):=by
 unfold mQ at h
 induction h with
 | nil=>exact QL
 | @cons a b as bs h t ih =>
  by_cases e:a.1=k
  ·rw [br e,k7 (h.1.symm.trans e)]; exact h.2
  ·rw [aU e,k8 (fun z=>e (h.1.trans z))]; exact ih
theorem A7.isSome (h:A7 K Hf o u):o.isSome=u.isSome:=by
 cases o <;> cases u <;> first | rfl | exact h.elim
theorem mQ.put (h:mQ K Hf kvs xs) (k:Key) (rd:Rep K Hf d v):mQ K Hf (putD kvs k d) (putK xs k v):=by
 have e:=(h.val k).isSome
 unfold putD putK
 rw [e,qF]
 by_cases q:(k6 xs k).isSome=true
 ·rw [if_pos q,if_pos q]
  unfold mQ at h ⊢
  clear e q
  induction h with
  | nil=>exact .nil
  | @cons a b as bs h t ih =>
   rw [OS,OS]
   refine .cons ?_ ih
   by_cases e:a.1=k
   ·rw [if_pos e,if_pos (h.1.symm.trans e)]; exact ⟨h.1,rd⟩
   ·rw [if_neg e,if_neg (fun z=>e (h.1.trans z))]; exact h
 ·rw [if_neg q,if_neg q]; exact Uh h ⟨rfl,rd⟩
theorem lu.val (h:lu K Hf kvs xs) (k):A7 K Hf (bD kvs k) (atT xs k):=by
 unfold lu at h
 induction h with
 | nil=>exact QL
 | @cons a b as bs h t ih =>
  by_cases e:a.1=k
  ·have z:L2.atT (b::bs) k=some b.2.2:=by simp [L2.atT,Qx,h.1.symm.trans e]
   rw [br e,z]; exact h.2.2
  ·have z:L2.atT (b::bs) k=L2.atT bs k:=by
    have:¬ b.1=k:=fun z=>e (h.1.trans z)
    simp [L2.atT,Qx,this]
   rw [aU e,z]; exact ih
theorem lu.put (h:lu K Hf kvs xs) (k) (hb:c8 K Hf b (k.map kV)) (rd:Rep K Hf d v):lu K Hf (putD kvs k d) (qI xs k b v):=by
 have e:=(h.val k).isSome
 unfold putD qI
 rw [e]
 by_cases q:(atT xs k).isSome=true
 ·rw [if_pos q,if_pos q]
  unfold lu at h ⊢
  clear e q
  induction h with
  | nil=>exact .nil
  | @cons a b' as bs h t ih =>
   rw [OS,OS]
   refine .cons ?_ ih
   unfold o4
   by_cases e:a.1=k
   ·rw [if_pos e,if_pos (h.1.symm.trans e)]; exact ⟨h.1,h.2.1,rd⟩
   ·rw [if_neg e,if_neg (fun z=>e (h.1.trans z))]; exact h
 ·rw [if_neg q,if_neg q]; exact Uh h ⟨rfl,hb,rd⟩
theorem lu.A8 (h:lu K Hf kvs xs):∀ x∈xs,c8 K Hf x.2.1 (x.1.map kV):=by
 unfold lu at h
 induction h with
 | nil=>intro x hx; cases hx
 | @cons a b as bs h t ih =>
  intro x hx
  rcases O5.mp hx with e | hx
  ·subst e; rw [← h.1]; exact h.2.1
  ·exact ih x hx
inductive GP:Sl→D→Option D→Prop
 | k {r:Sl} {kvs:List (Key×D)} {d:D} {k:Key} (h:r.uv=some kvs) (hk:d.yh=some k):GP r d (bD kvs k)
 | t {r:Sl} {kvs:List (List Key×D)} {ds:List D} {k:List Key} (h:r.yi=some kvs) (hk:D.keys ds=some k):GP r (.tup ds) (bD kvs k)
inductive EW:Sl→D→D→Sl→Prop
 | k {r:Sl} {kvs:List (Key×D)} {d e:D} {k:Key} (h:r.uv=some kvs) (hk:d.yh=some k) (hz:kvs.length<sizeLine):EW r d e (r.qY (putD kvs k e))
 | t {r:Sl} {kvs:List (List Key×D)} {ds:List D} {e:D} {k:List Key} (h:r.yi=some kvs) (hk:D.keys ds=some k) (hz:kvs.length<sizeLine):EW r (.tup ds) e (r.A5 (putD kvs k e))
theorem EW.owned' (h:EW r d e r'):r'.owned=true:=by cases h with | k h _ _=>exact lF h | t h _ _=>exact uw h
theorem GP.get (h:GP r d o) (q:aZ K fr H Hf r (.ref p)) (rv:Rep K Hf d v) (sb:aH Hf H):∃ u,o5 K H p v u∧A7 K Hf o u:=by
 cases h with
 | k h hk =>
  obtain ⟨xs,h1,_,h3⟩:=yj h q
  rw [jf hk rv]
  exact ⟨_,.inl ⟨xs,_,.inl h1,rfl,rfl⟩,h3.val _⟩
 | t h hk =>
  obtain ⟨xs,h1,_,h3⟩:=EU h q
  obtain ⟨a,ys,rfl,h4,h5⟩:=aI.mp rv
  have:=gZ hk h5
  subst this
  exact ⟨_,.inr ⟨xs,_,a,.inl h1,fun x hx=>av sb (h3.A8 x hx),rfl,av sb h4,rfl⟩,h3.val _⟩
theorem mQ.length (h:mQ K Hf kvs xs):kvs.length=xs.length:=Qj h
theorem lu.length (h:lu K Hf kvs xs):kvs.length=xs.length:=Qj h
theorem EW.put (h:EW r d e r') (q:aZ K fr H Hf r (.ref p)) (rv:Rep K Hf d v) (ry:Rep K Hf e y) (sb:aH Hf H) :
 ∃ o,Et K H p v y (upd H p o)∧aZ K (fun q=>q=p) (upd H p o) Hf r' (.ref p):=by
 cases h with
 | k h hk hz =>
  obtain ⟨xs,h1,h2,h3⟩:=yj h q
  rw [jf hk rv]
  exact ⟨_,.inl ⟨xs,_,h1,rfl,by rw [← h3.length]; exact hz,rfl⟩,qZ h q ai h2 (h3.put _ ry)⟩
 | t h hk hz =>
  obtain ⟨xs,h1,h2,h3⟩:=EU h q
  obtain ⟨a,ys,rfl,h4,h5⟩:=aI.mp rv
  have:=gZ hk h5
  subst this
  exact ⟨_,.inr ⟨xs,_,a,h1,fun x hx=>av sb (h3.A8 x hx),rfl,av sb h4,by rw [← h3.length]; exact hz,rfl⟩,A6 h q ai h2 (h3.put _ h4 ry)⟩
end
section
variable {K:ON} {c:Ctx P w K mg base k N sc bk}
theorem Ctx.hu (c:Ctx P w K mg base k N sc bk):c.X.A.units+1<cLine:=Ll c.room
theorem we {R:Sl→Prop} (h:R (.oK [])):dD c (.Dict [] [] pos) ρ R:=fun σ H Hf Q S q =>
 bR Am fun p hp=>q (.oK []) (.ref p) _ Hf h ⟨p,[],rfl,hp,ai,S.sb.free hp,.nil⟩ (bu.gq S.sb hp)
theorem EX {R:Sl→Prop} (h:R (.oT [])):dD c (.Dict [] [] pos) ρ R:=fun σ H Hf Q S q =>
 bR An fun p hp=>q (.oT []) (.ref p) _ Hf h ⟨p,[],rfl,hp,ai,S.sb.free hp,.nil⟩ (bu.gq S.sb hp)
theorem IQ (hN:At N i x) (hi:At ρ i r) (h:aJ c e ρ fun dk=>aJ c f ρ fun df=>∃ o,GP r dk o∧R (o.getD df)) (hd:(x == ("__debug__":Str))=false:=by decide) (hcd:(x == ("__classdict__":Str))=false:=by decide) (ho:r.GO=true:=by rfl)
 (m1:∀ env,attributeBase (.Name x px) "get" env (eval (.Name x px) env)=eval (.Name x px) env:=by intro _; walk_at "u")
 (m2:∀ env,((backTo cp (starEach [e,f] env)).all (fun x=> !x.1) && (backToKw cp (keywordEach [] env)).all (fun x=>x.1.isSome)
   && decide (([e,f]:List Expr).length+([]:List Keyword).length+(if ([]:List Keyword).isEmpty then 0 else 1)<30))=true:=by intro _; walk_at "u")
 (m3:(ap.endLine == cp.line)=true:=by walk_at "u") (m4:∀ env,backTo cp (starEach [e,f] env)=[(false,eval e env),(false,eval f env)]:=by intro _; walk_at "u") :
 aJ c (.Call (.Attribute (.Name x px) "get" ap) [e,f] [] cp) ρ R:=fun σ H Hf Q S q=>by
 obtain ⟨p,ep,rp⟩:=S.own hi.get (qX ho)
 have IM:NS H p:=by
  cases r with
  | oK kvs=>obtain ⟨xs,h1,_⟩:=yj (r:=.oK kvs) rfl rp; exact .inl ⟨xs,.inl h1⟩
  | aK a kvs=>obtain ⟨xs,h1,_⟩:=yj (r:=.aK a kvs) rfl rp; exact .inl ⟨xs,.inl h1⟩
  | oT kvs=>obtain ⟨xs,h1,_⟩:=EU (r:=.oT kvs) rfl rp; exact .inr ⟨xs,.inl h1⟩
  | aT a kvs=>obtain ⟨xs,h1,_⟩:=EU (r:=.aT a kvs) rfl rp; exact .inr ⟨xs,.inl h1⟩
  | _=>cases ho
 refine bR (Ao c.hu (c.lC hN hd hcd) dB dB ⟨m1 _,m2 _,m3,m4 _⟩) ⟨_,ep,p,rfl,IM,h σ H Hf _ S fun dk v H1 aQ h1 rv g1=>h1 σ H1 aQ _ (S.cG g1) fun df y H2 cQ ⟨o,lk,hR⟩ ry g2=>?_⟩
 obtain ⟨u,dg,rel⟩:=lk.get (rp.cG (g1.trans g2)) (Rep.mono g2.f _ rv) g2.b
 refine ⟨u,dg,?_⟩
 cases o with
 | none=>cases u with
  | none=>exact q df y H2 cQ hR ry (g1.trans g2)
  | some _=>exact rel.elim
 | some d=>cases u with
  | none=>exact rel.elim
  | some v'=>exact q d v' H2 cQ hR rel (g1.trans g2)
theorem IS (hN:At N i x) (hi:At ρ i r) (h:aJ c e ρ fun dv=>aJ c b ρ fun dk=>∃ r',EW r dk dv r'∧Nx ρ i nx r') (ho:r.owned=true:=by rfl)
 (hs:∀ env,swapsWith e (some (.Subscript (.Name x px) b tp)) pos.line env=pure false:=by intro _; walk_at "u") (hd:(x == ("__debug__":Str))=false:=by decide) (hcd:(x == ("__classdict__":Str))=false:=by decide) :
 eV c (.Assign [.Subscript (.Name x px) b tp] e pos) ρ nx p:=fun σ H Hf D S o=>by
 obtain ⟨p,ep,rp⟩:=S.own hi.get ho
 refine dQ (Ey c.hu (c.lC hN hd hcd) dB dB (hs _)) (h σ H Hf _ S fun dv v H1 aQ h1 rv g1=>⟨_,ep,h1 σ H1 aQ _ (S.cG g1) fun dk y H2 cQ ⟨r',pt,ρ',hs',hn⟩ ry g2=>?_⟩)
 have g:=g1.trans g2
 obtain ⟨ob,dp,rp'⟩:=pt.put (rp.cG g) ry (Rep.mono g2.f _ rv) g.b
 refine ⟨p,_,rfl,dp,o.nx _ _ cQ ρ' ?_ hn⟩
 rw [hs'.eq]
 obtain ⟨_,_,e0,_,_,hf⟩:=(rp.cG g).qW ho
 cases e0
 exact (S.cG g).upd hi.get ho ep (gY g.b hf) rp' pt.owned'
theorem wg (hN:At N i x) (hi:At ρ i r) (h:aJ c b ρ fun dk=>∃ m:Int,GP r dk (some (.int m))∧aJ c e ρ (I1 fun j=>∃ r',EW r dk (.int (m+j)) r'∧Nx ρ i nx r')) (ho:r.owned=true:=by rfl)
 (ha:∀ ov iv new,augStore b ov iv new=(do holding [new,ov,iv] (setItem ov iv new); release [new,ov,iv] []; pure .next):=by intro _ _ _; walk_at "u") (hd:(x == ("__debug__":Str))=false:=by decide) (hcd:(x == ("__classdict__":Str))=false:=by decide) :
 eV c (.AugAssign (.Subscript (.Name x px) b tp) .Add e pos) ρ nx p:=fun σ H Hf D S o=>by
 obtain ⟨p,ep,rp⟩:=S.own hi.get ho
 have hop:Ld c.X .Add (vK fun i j=>.int (i+j)):=Ec
 refine dQ (Ez c.hu (c.lC hN hd hcd) dB dB hop ha) ⟨_,ep,h σ H Hf _ S fun dk y H1 aQ ⟨m,lk,h1⟩ ry g1=>?_⟩
 obtain ⟨u,dg,rel⟩:=lk.get (rp.cG g1) ry g1.b
 cases u with
 | none=>exact rel.elim
 | some u =>
  have eu:u=V.int m:=(az (K:=c.X.K) (H:=aQ)).mp rel
  subst eu
  refine ⟨p,_,rfl,dg,h1 σ H1 aQ _ (S.cG g1) fun dj y2 H2 cQ ⟨j,ej,r',pt,ρ',hs',hn⟩ ry2 g2=>?_⟩
  subst ej
  rw [az.mp ry2]
  have g:=g1.trans g2
  obtain ⟨ob,dp,rp'⟩:=pt.put (rp.cG g) (Rep.mono g2.f _ ry) (v:=y) (y:=.int (m+j)) (az.mpr rfl) g.b
  refine ⟨m,j,rfl,rfl,_,dp,o.nx _ _ cQ ρ' ?_ hn⟩
  rw [hs'.eq]
  obtain ⟨_,_,e0,_,_,hf⟩:=(rp.cG g).qW ho
  cases e0
  exact (S.cG g).upd hi.get ho ep (gY g.b hf) rp' pt.owned'
theorem GQ (hN:At N i x) (hi:At ρ i r) (h:aJ c e ρ fun dk=>∃ o,GP r dk o∧T o.isSome) (ho:r.owned=true:=by rfl) (hm:behindInMarks CmpOp.In (.Name x px)=false:=by walk_at "u")
 (hd:(x == ("__debug__":Str))=false:=by decide) (hcd:(x == ("__classdict__":Str))=false:=by decide):jI c (.Compare e [.In] [.Name x px] pos) ρ T:=fun σ H Hf Q S q=>by
 obtain ⟨p,ep,rp⟩:=S.own hi.get ho
 refine vU (Hy (Ie c.hu dB (c.lC hN hd hcd)) hm) (h σ H Hf _ S fun dk y H1 aQ ⟨o,lk,hT⟩ ry g=>⟨_,ep,?_⟩)
 obtain ⟨u,dg,rel⟩:=lk.get (rp.cG g) ry g.b
 refine ⟨p,u,rfl,dg,u.isSome,rfl,q _ H1 aQ ?_ g⟩
 rw [← rel.isSome]; exact hT
end
noncomputable abbrev kI:Value→Shared→Prop:=fun _ _=>False
section
variable {prog:Program} {w:World} {A:Around} {R:Result→Shared→Prop} {s:Shared}
theorem pB {elt target iter:Expr} {ifs:List Expr} {scope:Scope} {pos:Pos} {it acc:Value} {env:Env} (I:Nat→Shared→Prop)
 (turn:∀ n s,I n s→wpAny (model prog w) A (pyNext it) (fun r s₁=>match r with
   | none=>R (.ok .next) s₁
   | some v=>wpAny (model prog w) A (letOwnedTupleGo target it v) (fun _ s₁'=>wpAny (model prog w) A (assign target env v) (fun _ s₂ =>
    wpAny (model prog w) A (forIn ifs true fun c r=>if r=true then do let ok ← isTrue c env (eval c env); pure (PV ok) else pure (PV r)) (fun ok s₃ =>
     if ok=true then wpAny (model prog w) A (eval elt env) (fun x s₄ =>
      wpAny (model prog w) A (call (.builtin "list.append") [acc,x]) (fun _ s₅=>∃ m,m<n∧I m s₅) kI s₄) kI s₃
     else ∃ m,m<n∧I m s₃) kI s₂) kI s₁') kI s₁) kI s)
 (n:Nat) (h:I n s) :
 codeAny (model prog w) A (.compLoop (.ListComp elt [⟨target,iter,ifs,0⟩] scope pos) 0 it acc env) R s:=by
 refine codeAny_loop rfl I (fun n s hI=>?_) n h
 show wpAny _ A ((compTurn (.ListComp elt [⟨target,iter,ifs,0⟩] scope pos) 0 it acc env).onRaise (fun x=>do noteFrame x env; theTreesLotGoes x)) _ _ s
 refine wpAny_noted ?_
 rw [compTurn_list]
 refine OM (wpAny_standAt (OM (PD (turn n s hI) (fun r s₁ h₁=>?_) fun _ _ f=>f.elim)))
 cases r with
 | none=>exact OO h₁
 | some v =>
  refine OM (PD h₁ (fun _ s₁' h₁'=>?_) fun _ _ f=>f.elim)
  refine OM (PD h₁' (fun _ s₂ h₂=>OM (PD h₂ (fun ok s₃ h₃=>?_) fun _ _ f=>f.elim)) fun _ _ f=>f.elim)
  cases ok with
  | false=>exact OO ⟨rfl,h₃⟩
  | true =>
   exact OM (OM (PD h₃ (fun x s₄ h₄=>OM (PD h₄ (fun _ s₅ h₅=>OO (OO ⟨rfl,h₅⟩)) fun _ _ f=>f.elim)) fun _ _ f=>f.elim))
theorem kc:∀ (ifs:List Expr),Q false s →
 wpAny (model prog w) A (forIn ifs false fun c r=>if r=true then do let ok ← isTrue c env (eval c env); pure (PV ok) else pure (PV r)) Q E s
 | [],h=>OO h
 | t::ts,h=>by
  simp only [TU,PR,if_false]
  exact OM (OO (kc ts h))
theorem uz
 (h:wpAny (model prog w) A (isTrue t env (eval t env)) (fun b s'=>if b=true then wpAny (model prog w) A (forIn ts true fun c r=>if r=true then do let ok ← isTrue c env (eval c env); pure (PV ok) else pure (PV r)) Q E s' else Q false s') E s) :
 wpAny (model prog w) A (forIn (t::ts) true fun c r=>if r=true then do let ok ← isTrue c env (eval c env); pure (PV ok) else pure (PV r)) Q E s:=by
 simp only [TU,if_true]
 refine OM (OM (PD h (fun b s' hb=>OO ?_) fun _ _ x=>x))
 cases b with
 | true=>exact hb
 | false=>exact kc ts hb
end
noncomputable def bX (scope sc:Scope):Scope:={ scope with names:=scope.names.map fun (n,k)=>if (k == .free && sc.kind == .function && sc.names.lookup n == some .cell) then (n,.cell) else (n,k) }
theorem q8 (h:env.scope=sc):relabel scope env=bX scope sc:=by
 subst h; rfl
noncomputable def Sl.tag (a:Addr):Sl→Sl
 | .ow ds=>.aw a ds | .oT ds=>.aT a ds | .oK ds=>.aK a ds
 | .aw b ds=>.aw b ds | .aT b ds=>.aT b ds | .aK b ds=>.aK b ds | .fo s=>.fo s
 | .un=>.un | .va d=>.va d
inductive A9 (t:Str→Addr) (nm:List (Str×NameKind)) (N:List Str) (ρ:List Sl):List Str→List Sl→Prop
 | nil:A9 t nm N ρ [] []
 | un {y:Str} {M:List Str} {r:List Sl}:A9 t nm N ρ M r→A9 t nm N ρ (y::M) (.un::r)
 | fr {y:Str} {i:Nat} {s s':Sl} {M:List Str} {r:List Sl} (hN:At N i y) (hs:At ρ i s) (hy:(y,QU)∈nm) (ht:s.tag (t y)=s'):A9 t nm N ρ M r→A9 t nm N ρ (y::M) (s'::r)
theorem A9.len (h:A9 t nm N ρ M r):M.length=r.length:=by
 induction h with
 | nil=>rfl
 | un t ih=>simp [ih]
 | fr hN hs hy ht t ih=>simp [ih]
inductive EY:List Sl→List Sl→Prop
 | nil:EY [] []
 | un {r:Sl} {a b:List Sl}:EY a b→EY (.un::a) (r::b)
 | same {r:Sl} {a b:List Sl}:EY a b→EY (r::a) (r::b)
theorem EY.weak (h:EY a b):a.length=b.length∧∀ (i:Nat) (r:Sl),a[i]?=some r→r≠.un→b[i]?=some r:=by
 induction h with
 | nil=>exact ⟨rfl,fun i r e=>by simp at e⟩
 | un t ih=>exact ⟨by simp [ih.1],fun i r e hu=>by cases i with | zero=>simp at e; exact absurd e.symm hu | succ i=>simpa using ih.2 i r (by simpa using e) hu⟩
 | same t ih=>exact ⟨by simp [ih.1],fun i r e hu=>by cases i with | zero=>simpa using e | succ i=>simpa using ih.2 i r (by simpa using e) hu⟩
section
variable {K:ON}
noncomputable def uA (c:Ctx P w K mg base k N sc bk):List Expr→List Sl→(Bool→Prop)→Prop
 | [],_,T=>T true
 | t::ts,ρ,T=>jI c t ρ (o8 (uA c ts ρ T) (T false))
theorem nU (hq:c.X.xe=kI):∀ (ifs:List Expr) {H Hf:Hp} {s:Shared},bz c σ H Hf ρ→uA c ifs ρ T→(∀ b H' aj,T b→bu H Hf H' aj→Q b H')→Inv c.X aa σ H s →
 wpAny (model c.X.prog c.X.w) c.X.A (forIn ifs true fun t r=>if r=true then do let ok ← isTrue t c.X.env (eval t c.X.env); pure (PV ok) else pure (PV r)) (TP c.X aa σ Q) kI s
 | [],H,Hf,s,S,h,q,I=>wpAny_tests_nil ⟨H,I,q true H Hf h (.refl S.sb)⟩
 | t::ts,H,Hf,s,S,h,q,I=>by
  have h0:=h σ H Hf (fun b H'=>∃ aj,o8 (uA c ts ρ T) (T false) b∧bu H Hf H' aj) S (fun b H' aj hb g=>⟨aj,hb,g⟩) aa s I
  rw [hq] at h0
  refine uz (bJ h0 fun b s' ⟨H',I',aj,hb,g⟩=>?_)
  cases b with
  | true=>exact nU hq ts (S.cG g) (hb.t rfl) (fun b H2 cQ hT g2=>q b H2 cQ hT (g.trans g2)) I'
  | false=>exact ⟨H',I',q false H' aj (hb.f rfl) g⟩
end
theorem lG:∀ (names:List (Str×NameKind)) (cs:List (Str×Addr)),(∀ x∈names,x.2=.free→∃ a,env.cells.lookup x.1=some a) →
 ∃ cl,(forIn names cs (fun (x:Str×NameKind) (r:List (Str×Addr))=>(if (x.2 == QU)=true then do let a ← cellOf env x.1; pure (PV ((x.1,a)::r)) else pure (PV r):Sem (ForInStep (List (Str×Addr))))))=(pure cl:Sem (List (Str×Addr))) ∧
  (∀ y a,cl.lookup y=some a→cs.lookup y=some a∨env.cells.lookup y=some a∧(y,QU)∈names)∧(∀ y a,(y,QU)∈names∨(∃ b,cs.lookup y=some b∧env.cells.lookup y=some b)→env.cells.lookup y=some a→cl.lookup y=some a)
 | [],cs,_=>⟨cs,rfl,fun y a e=>.inl e,fun y a h e=>by
  rcases h with h | ⟨b,h1,h2⟩
  ·cases h
  ·rw [e] at h2; cases h2; exact h1⟩
 | (n,kd)::r,cs,h=>by
  by_cases hk:kd=.free
  ·subst hk
   obtain ⟨a,ea⟩:=h (n,.free) O1 rfl
   obtain ⟨cl,e1,e2,e3⟩:=lG r ((n,a)::cs) fun x hx=>h x (O2 _ hx)
   refine ⟨cl,?_,fun y b e=>?_,fun y b hy e=>?_⟩
   ·rw [TU]
    simp only [beq_self_eq_true,if_true,cellOf,ea,pure_bind]
    exact e1
   ·rcases e2 y b e with z | ⟨z1,z2⟩
    ·rw [U1] at z
     cases q:(y == n) with
     | true =>
      rw [q] at z; cases z
      have:y=n:=by simpa using q
      subst this
      exact .inr ⟨ea,O1⟩
     | false=>rw [q] at z; exact .inl z
    ·exact .inr ⟨z1,O2 _ z2⟩
   ·refine e3 y b ?_ e
    rcases hy with hy | ⟨b',h1,h2⟩
    ·rcases O5.mp hy with z | z
     ·cases z; exact .inr ⟨a,by simp,ea⟩
     ·exact .inl z
    ·refine .inr ⟨b',?_,h2⟩
     rw [U1]
     cases q:(y == n) with
     | true =>
      have:y=n:=by simpa using q
      subst this
      rw [ea] at h2; exact h2
     | false=>exact h1
  ·have hb:(kd == QU)=false:=by simpa using hk
   obtain ⟨cl,e1,e2,e3⟩:=lG r cs fun x hx=>h x (O2 _ hx)
   refine ⟨cl,?_,fun y b e=>?_,fun y b hy e=>?_⟩
   ·rw [TU]
    simp only [hb,PR,if_false,pure_bind]
    exact e1
   ·rcases e2 y b e with z | ⟨z1,z2⟩
    ·exact .inl z
    ·exact .inr ⟨z1,O2 _ z2⟩
   ·refine e3 y b ?_ e
    rcases hy with hy | hy
    ·rcases O5.mp hy with z | z
     ·cases z; exact absurd rfl hk
     ·exact .inl z
    ·exact .inr hy
theorem EZ (h:∀ x∈scope.names,x.2=.free→∃ a,env.cells.lookup x.1=some a) :
 ∃ cl,closureFor scope env=pure cl∧(∀ y a,cl.lookup y=some a→env.cells.lookup y=some a∧(y,QU)∈scope.names)∧(∀ y a,(y,QU)∈scope.names→env.cells.lookup y=some a→cl.lookup y=some a):=by
 obtain ⟨cl,e1,e2,e3⟩:=lG scope.names [] h
 refine ⟨cl,?_,fun y a e=>?_,fun y a hy e=>e3 y a (.inl hy) e⟩
 ·unfold closureFor
  have e1':=congrArg (· >>= fun cs=>(pure cs:Sem _)) e1
  simp only [pure_bind] at e1'
  exact e1'
 ·rcases e2 y a e with z | z
  ·simp at z
  ·exact z
section
variable {P:Program} {w:World} {K:ON} {mg:Str→Option Value} {base:Heap} {k:Nat} {N:List Str} {sc:Scope} {bk:Bool} {c:Ctx P w K mg base k N sc bk} {ρ:List Sl} {pos:Pos}
noncomputable def Ba (c:Ctx P w K mg base k N sc bk) (tg:Expr) (ifs:List Expr) (elt:Expr) (ρ0:List Sl) (d:D) (o:Option D):Prop :=
 nR c tg d ρ0 fun ρ1=>EY ρ0 ρ1∧uA c ifs ρ1 (o8 (aJ c elt ρ1 fun e=>o=some e) (o=none))
theorem jg {nm:List (Str×NameKind)}:∀ {y:Str} {kd:NameKind},(nm.map fun (x:Str×NameKind)=>match x with | (n,k)=>(if (k == .free && sc.kind == .function && sc.names.lookup n == some .cell)=true then (n,NameKind.cell) else (n,k))).lookup y=some kd→∃ k0,(y,k0)∈nm∧(kd=k0∨kd=.cell∧k0=.free):=by
 induction nm with
 | nil=>intro y kd h; simp at h
 | cons x r ih =>
  obtain ⟨n,k0⟩:=x
  intro y kd h
  rw [OS,U1] at h
  by_cases e:(k0 == .free && sc.kind == .function && sc.names.lookup n == some .cell)=true
  ·simp only [e,if_true] at h
   cases q:(y == n) with
   | true =>
    rw [q] at h; cases h
    have:y=n:=by simpa using q
    subst this
    have hf:k0=.free:=by simp only [Sm,beq_iff_eq] at e; exact e.1.1
    exact ⟨k0,O1,.inr ⟨rfl,hf⟩⟩
   | false=>rw [q] at h; obtain ⟨k1,h1,h2⟩:=ih h; exact ⟨k1,O2 _ h1,h2⟩
  ·simp only [e,PR,if_false] at h
   cases q:(y == n) with
   | true =>
    rw [q] at h; cases h
    have:y=n:=by simpa using q
    subst this
    exact ⟨k0,O1,.inl rfl⟩
   | false=>rw [q] at h; obtain ⟨k1,h1,h2⟩:=ih h; exact ⟨k1,O2 _ h1,h2⟩
theorem A9.start {σ:L2.St} (h:A9 t nm N ρ M r) (hσ:∀ (i:Nat) (s:Sl),ρ[i]?=some s→s≠.un→∃ v,σ[i]?=some (some v)) :
 ∃ σ0:L2.St,σ0.length=r.length∧∀ (j:Nat) (s:Sl),r[j]?=some s→(s=.un∧σ0[j]?=some none)∨∃ (i:Nat) (y:Str) (v:V) (s0:Sl),M[j]?=some y∧(y,QU)∈nm∧N[i]?=some y∧ρ[i]?=some s0∧s=s0.tag (t y)∧s0≠.un∧σ[i]?=some (some v)∧σ0[j]?=some (some v):=by
 induction h with
 | nil=>exact ⟨[],rfl,fun j s e=>by simp at e⟩
 | un t ih =>
  obtain ⟨σ0,hl,h0⟩:=ih
  refine ⟨none::σ0,by simp [hl],fun j s e=>?_⟩
  cases j with
  | zero=>simp at e; exact .inl ⟨e.symm,by simp⟩
  | succ j =>
   rcases h0 j s (by simpa using e) with ⟨h1,h2⟩ | ⟨i,y,v,s0,h1,h2,h3,h4,h5,h6,h7,h8⟩
   ·exact .inl ⟨h1,by simpa using h2⟩
   ·exact .inr ⟨i,y,v,s0,by simpa using h1,h2,h3,h4,h5,h6,h7,by simpa using h8⟩
 | @fr y i s' s'' M r hN hs hy ht t ih =>
  obtain ⟨σ0,hl,h0⟩:=ih
  by_cases hu:s'=.un
  ·refine ⟨none::σ0,by simp [hl],fun j s e=>?_⟩
   cases j with
   | zero=>simp at e; subst hu; exact .inl ⟨e.symm.trans ht.symm,by simp⟩
   | succ j =>
    rcases h0 j s (by simpa using e) with ⟨h1,h2⟩ | ⟨i,y,v,s0,h1,h2,h3,h4,h5,h6,h7,h8⟩
    ·exact .inl ⟨h1,by simpa using h2⟩
    ·exact .inr ⟨i,y,v,s0,by simpa using h1,h2,h3,h4,h5,h6,h7,by simpa using h8⟩
  ·obtain ⟨v,ev⟩:=hσ i s' hs.get hu
   refine ⟨some v::σ0,by simp [hl],fun j s e=>?_⟩
   cases j with
   | zero=>simp at e; subst e; exact .inr ⟨i,y,v,s',by simp,hy,hN.get,hs.get,ht.symm,hu,ev,by simp⟩
   | succ j =>
    rcases h0 j s (by simpa using e) with ⟨h1,h2⟩ | ⟨i,y,v,s0,h1,h2,h3,h4,h5,h6,h7,h8⟩
    ·exact .inl ⟨h1,by simpa using h2⟩
    ·exact .inr ⟨i,y,v,s0,by simpa using h1,h2,h3,h4,h5,h6,h7,by simpa using h8⟩
noncomputable def Sl.adr:Sl→Option Addr | .aw a _=>some a | .aT a _=>some a | .aK a _=>some a | _=>none
theorem nV {s:Sl}:(s.tag a).owned=s.owned:=by cases s <;> rfl
theorem E0 {s:Sl} (h:s.owned=true):∃ b,(s.tag a).adr=some b:=by cases s <;> first | exact ⟨_,rfl⟩ | cases h
theorem wj (hv:s.owned=true→v=.ref a) (h:aZ K fr H Hf s v):aZ K fr H Hf (s.tag a) v:=by
 cases s with
 | ow ds=>obtain ⟨p,xs,e,f,r⟩:=h; exact ⟨p,xs,e,⟨f,by have:=hv rfl; rw [e] at this; cases this; rfl⟩,r⟩
 | oT ds=>obtain ⟨p,xs,e,f,r⟩:=h; exact ⟨p,xs,e,⟨f,by have:=hv rfl; rw [e] at this; cases this; rfl⟩,r⟩
 | oK ds=>obtain ⟨p,xs,e,f,r⟩:=h; exact ⟨p,xs,e,⟨f,by have:=hv rfl; rw [e] at this; cases this; rfl⟩,r⟩
 | _=>exact h
theorem wm (hb:s.adr=some b) (h:aZ K fr H Hf s (.ref p)):p=b:=by
 cases s with
 | aw a ds=>cases hb; obtain ⟨q,xs,e,f,r⟩:=h; cases e; exact f.2
 | aT a ds=>cases hb; obtain ⟨q,xs,e,f,r⟩:=h; cases e; exact f.2
 | aK a ds=>cases hb; obtain ⟨q,xs,e,f,r⟩:=h; cases e; exact f.2
 | _=>cases hb
theorem c9.apart (S:c9 K H₀ dU σ H Hf ρ) (h0:H₀ a=none) (hf:Hf a=none) (nf:¬ Ar H a) (ha:∀ (i:Nat) (r:Sl),ρ[i]?=some r→r.owned=true→σ[i]?≠some (some (.ref a))):c9 K H₀ dU σ (L2.upd H a o) Hf ρ :=
 ⟨⟨fun b u e=>by rw [L2.ak (aB e h0)]; exact S.bas.s b u e,S.bas.f,fun b u e=>by rw [L2.ak (aB e hf)]; exact S.bas.b b u e,S.bas.n⟩,S.len,fun i r hi hu=>by
   obtain ⟨v,e,q⟩:=S.at_ i r hi hu
   refine ⟨v,e,?_⟩
   have hg:bu (del H a) Hf (L2.upd H a o) Hf:=gY S.bas.b hf
   exact (q.LN (p:=a) nf fun ow z=>by subst z; exact ha i r hi ow e).cG hg,S.sep⟩
theorem pC (g:bu H1 aQ H' aj) (h1:H1 a=none) (hf:aj a=none):bu H1 aQ (upd H' a o) aj :=
 ⟨fun b u e=>by rw [ak (aB e h1)]; exact g.s b u e,g.f,fun b u e=>by rw [ak (aB e hf)]; exact g.b b u e,g.n⟩
theorem E1 {elt tg iter:Expr} {ifs:List Expr} {scope:Scope} {N':List Str} {ρ0:(Str→Addr)→List Sl} {R:Sl→Prop} (hq:c.X.xe=kI) (hfr:∀ t,A9 t scope.names N ρ N' (ρ0 t))
 (h:II c tg iter ρ fun ds=>Sd (ds.length≤sizeLine) (∃ os:List (Option D),os.length=ds.length ∧
   (∀ c':Ctx P w K mg base k N' (bX scope sc) true,c'.X.xe=kI→∀ (t:Str→Addr) (i:Nat) (d:D) (o:Option D),ds[i]?=some d→os[i]?=some o→Ba c' tg ifs elt (ρ0 t) d o)∧R (.ow (os.filterMap id))))
 (hk:scope.kind=.function:=by walk_at "u") (hnc:∀ x∈scope.names,x.2≠.cell:=by decide +kernel) (hnl:∀ x∈scope.names,x.2=.local→scope.names.lookup x.1=some .local:=by decide +kernel)
 (hfree:∀ x∈scope.names,x.2=.free→sc.names.lookup x.1=some .cell:=by decide +kernel) (hnd:N'.Nodup:=by decide +kernel) (hv:∀ x∈N',Loc (bX scope sc) x:=by unfold L2.Loc; decide +kernel)
 (hvf:∀ x∈scope.names,x.2=.free→(bX scope sc).names.lookup x.1=some .cell:=by decide +kernel)
 (hs:∀ env v,foldedSetIterable iter env v=pure v:=by intro _ _; walk_at "u")
 {σ:L2.St} {H Hf:Hp} (S:bz c σ H Hf ρ) {aa:List (Addr×Obj)} {s:Shared} (I:Inv c.X aa σ H s) {use:Option (Value→Sem Unit)} {QQ:Value→Shared→Prop}
 (kont:∀ (s':Shared) (H' aj:Hp) (a C:Addr) (r:Sl),R r→(∃ m,s'.heap.Ns C m)→C∉c.X.fs→gh c.X aa H' C→aZ c.X.K (fun p=>H p=none) H' aj r (.ref a)→bu H Hf H' aj→(∀ h5,QG C s'.heap h5→Inv c.X aa σ H' { s' with heap:=h5 })→compPost (model c.X.prog c.X.w) c.X.A kI use QQ (.ref a) C (.ok .next) s') :
 wpAny (model c.X.prog c.X.w) c.X.A (comprehension (.ListComp elt [⟨tg,iter,ifs,0⟩] scope pos) scope c.X.env (firstIterPos [⟨tg,iter,ifs,0⟩] pos) (newList []) (firstAsync [⟨tg,iter,ifs,0⟩]) (firstIter [⟨tg,iter,ifs,0⟩] c.X.env) use) QQ kI s:=by
 have hI:=h σ H Hf (fun J H1=>∃ ds aQ,Sd (ds.length≤sizeLine) (∃ os:List (Option D),os.length=ds.length ∧
  (∀ c':Ctx P w K mg base k N' (bX scope sc) true,c'.X.xe=kI→∀ (t:Str→Addr) (i:Nat) (d:D) (o:Option D),ds[i]?=some d→os[i]?=some o→Ba c' tg ifs elt (ρ0 t) d o)∧R (.ow (os.filterMap id)))∧bu H Hf H1 aQ∧jJ c.X.K J ds aQ) S (fun ds J H' aj hR g io=>⟨ds,aj,hR,g,io⟩) aa s I
 rw [hq] at hI
 have hcells:∀ x∈scope.names,x.2=.free→∃ a,c.X.env.cells.lookup x.1=some a:=fun x hx hf=>I.ok.has x.1 (.inl (by unfold PJ; rw [c.esc]; exact hfree x hx hf))
 obtain ⟨cl,hclos,zJ,hcl2⟩:=EZ hcells
 refine wpAny_comprehension_free (cl:=cl) (use:=use) rfl (hs _) hclos hk hnl ?_
 refine bJ (show wpAny _ _ (eval iter c.X.env) _ _ _ from hI) fun v s1 h1=>bJ h1 fun itv s2 hh=>z5 hh fun it fp tn J H1 hh=>w6 hh fun e0 I1 Tn t0 hfp hh=>z2 hh fun ds aQ hh=>w3 hh fun hz g io=>?_
 obtain ⟨hz,os,hh⟩:=hz
 refine w3 hh fun hol hb hR=>?_
 subst e0
 have hcell':∀ y∈scope.names,y.2≠.cell:=hnc
 refine P6 (wpAny_newFunctionEnv hcell' (by intro y hy; simp at hy) (fun h4 hns hsb=>?_) hk)
 dsimp only at hns hsb ⊢
 generalize hDe:s2.heap.objs.size=Da at *
 have k3:∀ b u,s2.heap.get? b=some u→(s2.heap.push { cls:=.type "list",dict:=none,data:=.seq ([]:List Value).toArray }).get? b=some u:=fun b u e=>OU _ e
 generalize hH3:s2.heap.push { cls:=.type "list",dict:=none,data:=.seq ([]:List Value).toArray }=h3 at *
 have hCe:h3.objs.size=Da+1:=by rw [← hH3,Q5,hDe]
 have hgD:h3.get? Da=some { cls:=.type "list",dict:=none,data:=.seq ([]:List Value).toArray }:=by rw [← hH3,← hDe]; exact O6 _ rfl
 have vF:H1 Da=none:=by rw [← hDe]; exact I1.hok.fresh (OP _)
 have I3:Inv c.X aa σ (upd H1 Da (.lst [])) { s2 with heap:=h3,toks:=s2.toks }:=I1.laid (a:=Da) (o:=.lst []) (t':=s2.toks) k3 (by rw [hDe]; exact OP _) ⟨Pn _,[],0,.nil,hgD⟩
 have fpne:∀ b∈fp,b≠Da:=fun b hb z=>by
  obtain ⟨o,e,_⟩:=Tn.obj _ _ t0 b hb
  subst z
  exact absurd (OW e) (by rw [hDe]; exact Qy _)
 have fplt:∀ b∈fp,b<h3.objs.size:=fun b hb=>by
  obtain ⟨o,e,_⟩:=Tn.obj _ _ t0 b hb
  exact OW (k3 b o e)
 let s3:Shared:={ s2 with heap:=h3,toks:=s2.toks }
 let H2:Hp:=upd H1 Da (.lst [])
 let X':Cx:={ prog:=c.X.prog,w:=c.X.w,K:=c.X.K,mg:=c.X.mg,base:=c.X.base,A:=c.X.A,N:=N',s₀:=s3,H₀:=H2,env:=compEnvC scope cl h3.objs.size c.X.env,outer:=c.X.stack,stack:=c.X.stack,ex:=fp,fn:=fun _=>false,calm:=true,pn:=[],xe:=kI }
 have S1:=S.cG g
 have S2:bz c σ H2 aQ ρ:=S1.cG (bu.gq g.b vF)
 obtain ⟨t,ht⟩:∃ t:Str→Addr,∀ (i:Nat) (y:Str) (p:Addr),N[i]?=some y→σ[i]?=some (some (.ref p))→t y=p:=by
  classical
  refine ⟨fun y=>if h:∃ (i:Nat) (p:Addr),N[i]?=some y∧σ[i]?=some (some (.ref p)) then h.choose_spec.choose else 0,fun i y p e1 e2=>?_⟩
  have h:∃ (i:Nat) (p:Addr),N[i]?=some y∧σ[i]?=some (some (.ref p)):=⟨i,p,e1,e2⟩
  show (if h:_ then _ else _)=p
  rw [dif_pos h]
  obtain ⟨e3,e4⟩:=h.choose_spec.choose_spec
  have hi:h.choose<N.length:=(OZ.mp e3).1
  have e5:h.choose=i:=(List.getElem?_inj hi c.nd).mp (e3.trans e1.symm)
  have e6:=(congrArg (fun z=>σ[z]?) e5).symm.trans e4
  rw [show σ[i]?=some (some (.ref p)) from e2] at e6
  have e4:=e6
  exact (V.ref.inj (Qw (Qw e4))).symm
 have hfr:=hfr t
 generalize hρ:ρ0 t=ρt at hfr
 obtain ⟨σ0,hσl,hσ0⟩:=hfr.start (σ:=σ) fun i s e hu=>let ⟨v,e2,_⟩:=S2.at_ i s e hu; ⟨v,e2⟩
 have k4:∀ b u,h3.get? b=some u→h4.get? b=some u:=fun b u e=>hsb.extBut b u (Pk (OW e)) (OU _ e)
 have hsc:X'.env.scope=bX scope sc:=q8 c.esc
 have okX:X'.Ok:={
  mod:=I3.ok.mod
  kind:=hk
  glob:=I3.ok.glob
  blt:=I3.ok.blt
  above:=OP _
  inj:=fun x y a e1 e2=>I3.ok.inj x y a (zJ x a e1).1 (zJ y a e2).1
  has:=fun x hx=>by
   have key:(x,QU)∈scope.names:=by
    have hx':(bX scope sc).names.lookup x=some .cell∨(bX scope sc).names.lookup x=some .free:=by
     unfold PJ at hx; rw [hsc] at hx; exact hx
    rcases hx' with hx' | hx'
    ·obtain ⟨k0,h1,h2⟩:=jg hx'
     rcases h2 with h2 | ⟨_,h2⟩
     ·subst h2; exact absurd rfl (hnc _ h1)
     ·subst h2; exact h1
    ·obtain ⟨k0,h1,h2⟩:=jg hx'
     rcases h2 with h2 | ⟨h2,_⟩
     ·subst h2; exact h1
     ·cases h2
   obtain ⟨a,ea⟩:=hcells _ key rfl
   exact ⟨a,hcl2 x a key ea⟩
  cab:=fun x a hf=>by cases hf
  hd:=fun _=>I3.ok.hd c.calm
  frames:=I3.ok.frames
  stk:=.inl rfl
  exf:=fun b hb=>⟨Pk (fplt b hb),fun x a ea=>(hfp b hb).2.2.2.2.1 x a (zJ x a ea).1⟩
  bs:=I3.bs
  bsz:=OV I3.ok.bsz I3.sz
  noex:=fun b o e hb=>by
   rcases (hfp b hb).2.2.2.1 with z | z
   ·exact I3.ok.noex b o e z
   ·exact absurd (PN (OW e) (OV I3.ok.bsz z)) (Qy _)
  exfs:=fun b hb m=>by
   rcases O5.mp (I3.tX b m) with z | z
   ·exact (hfp b hb).2.1 z
   ·exact (hfp b hb).2.2.1 z
  jD:=I3.stack
  frf:=I3.vG }
 have I4:Inv X' [] σ0 H2 { s2 with heap:=h4,toks:=s2.toks+([]:List (Str×Value)).length }:={
  ok:=okX
  os:=rfl
  bare:=I3.bare
  base:=Un.kept k4
  loc:=⟨_,hns,fun j y v hy hv' _=>by
   have hj:j<ρt.length:=by
    have:=(OZ.mp hv').1
    rw [hσl] at this; exact this
   rcases hσ0 j ρt[j] (Pc hj) with ⟨_,z⟩ | hh
   ·rw [z] at hv'; cases hv'
   ·refine z4 hh fun i y' v' s0 hh=>w8 hh fun h1 h2 h3' h4' hs5 hs6 h5 h6=>?_
    rw [h6] at hv'; cases hv'
    have hy':N'[j]?=some y:=hy
    rw [h1] at hy'; cases hy'
    obtain ⟨m0,hm0,hl⟩:=I3.loc
    have hkc:c.X.env.kindOf y=some .cell:=by unfold PJ; rw [c.esc]; exact hfree _ h2 rfl
    obtain ⟨u,r,lk⟩:=hl i y v (by rw [c.eN]; exact h3') h5 (.inr (.inl hkc))
    refine ⟨u,r,?_⟩
    rcases lk with ⟨q1,_⟩ | ⟨_,a,e1,e2⟩
    ·rw [hkc] at q1; cases q1
    ·refine .inr ⟨.inl ?_,a,hcl2 _ a h2 e1,?_⟩
     ·show List.lookup y X'.env.scope.names=_
      rw [hsc]; exact hvf _ h2 rfl
     ·obtain ⟨oc,e3,e4⟩:=e2
      exact ⟨oc,k4 _ _ e3,e4⟩⟩
  cell:=fun x a ea=>by
   obtain ⟨v',oc,e3,e4⟩:=I3.cell x a (zJ x a ea).1
   exact ⟨v',oc,k4 _ _ e3,e4⟩
  free:=I3.hok.fresh (OP _)
  freeC:=fun x a ea=>I3.freeC x a (zJ x a ea).1
  pin:=fun q hq'=>by simp at hq'; cases hq'
  hok:=I3.hok.kept k4
  len:=by rw [hσl]; exact hfr.len.symm }
 let c':Ctx P w K mg base k N' (bX scope sc) true :=
  { X:=X',eP:=c.eP,ew:=c.ew,eK:=c.eK,emg:=c.emg,eb:=c.eb,eN:=rfl,esc:=hsc,calm:=rfl,top:=fun z=>(by cases z),cb:=fun z=>(by cases z),fn:=fun x hx=>.inr (by rw [hsc]; exact hx.resolve_left (fun z=>by cases z)),room:=c.room,nd:=hnd,vis:=hv,
    Hf:=c.Hf,B:=c.B,RX:=fun _ _=>False,exc:=fun _ _ _ _ _ _ _ _ _ _ _ _ h _ _=>h.elim,RM:=fun _ _=>False,mde:=fun _ _ _ _ _ _ _ _ _ _ _ _ h _=>h.elim }
 have hN0:N'.length=ρt.length:=hfr.len
 have S4:bz c' σ0 H2 aQ ρt:=by
  refine ⟨S2.bas,hσl,fun j r hj hu=>?_,fun j j' r r' p hne e1 e2 o1 o2 f1 f2=>?_⟩
  ·rcases hσ0 j r hj with ⟨z,_⟩ | hh
   ·exact absurd z hu
   ·refine z4 hh fun i y v s0 hh=>w8 hh fun h1 h2 h3' h4' hs5 hs6 h5 h6=>?_
    obtain ⟨v',e3,q3⟩:=S2.at_ i s0 h4' hs6
    rw [h5] at e3; cases e3
    subst hs5
    exact ⟨v,h6,wj (fun ow=>by
     obtain ⟨p,_,rfl,_⟩:=q3.qW ow
     rw [ht i y p h3' h5]) q3⟩
  ·have u1:r≠.un:=by rintro rfl; cases o1
   have u2:r'≠.un:=by rintro rfl; cases o2
   rcases hσ0 j r e1 with ⟨z,_⟩ | hh
   ·exact u1 z
   rcases hσ0 j' r' e2 with ⟨z,_⟩ | hh'
   ·exact u2 z
   refine z4 hh fun i y v s0 hh=>w8 hh fun h1 h2 h3' h4' hs5 hs6 h5 h6=>z4 hh' fun i' y' v' s0' hh'=>w8 hh' fun h1' h2' h3'' h4'' hs5' hs6' h5' h6'=>?_
   rw [f1] at h6; cases h6
   rw [f2] at h6'; cases h6'
   have hii:i≠i':=fun z=>by
    subst z
    rw [h3'] at h3''; cases h3''
    have a1:j<N'.length:=(OZ.mp h1).1
    exact hne ((List.getElem?_inj a1 hnd).mp (h1.trans h1'.symm))
   subst hs5; subst hs5'
   rw [nV] at o1 o2
   exact S2.sep i i' s0 s0' p hii h4' h4'' o1 o2 h5 h5'
 have howA:∀ (j:Nat) (r:Sl),ρt[j]?=some r→r.owned=true→∃ b,r.adr=some b∧b≠Da:=fun j r hj ho=>by
  rcases hσ0 j r hj with ⟨z,_⟩ | hh
  ·subst z; cases ho
  ·refine z4 hh fun i y v s0 hh=>w8 hh fun h1 h2 h3' h4' hs5 hs6 h5 h6=>?_
   subst hs5
   rw [nV] at ho
   obtain ⟨b,eb⟩:=E0 (a:=t y) ho
   refine ⟨b,eb,fun z=>?_⟩
   obtain ⟨v',e3,q3⟩:=S1.at_ i s0 h4' hs6
   obtain ⟨p,o,e4,_,e5,_⟩:=q3.qW ho
   subst e4
   have q4:=wj (a:=t y) (fun _=>by rw [ht i y p h3' e3]) q3
   have:=wm eb q4
   rw [this,z,vF] at e5; cases e5
 have hB0:c.B Da=none:=S1.bas.s.free vF
 have fps:∀ {H':Hp},(∀ b∈fp,H' b=none)→∀ b∈fp,gh X' [] H' b:=fun hn b hb =>
  ⟨hn b hb,Pk (fplt b hb),okX.exfs b hb,.inl hb,fun x a ea=>(hfp b hb).2.2.2.2.1 x a (zJ x a ea).1,fun p hp=>by cases hp⟩
 have fin:∀ (s':Shared) (σ':L2.St) (H' aj:Hp) (vs:List V),Inv X' [] σ' H' s'→bu H1 aQ H' aj→H' Da=some (.lst vs)→aj Da=none→aq c.X.K aj (os.filterMap id) vs →
  compPost (model c.X.prog c.X.w) c.X.A kI use QQ (.ref Da) h3.objs.size (.ok .next) s':=fun s' σ' H' aj vs I' g' hD hfD hr=>by
  obtain ⟨m,hm,_⟩:=I'.loc
  have hCX:h3.objs.size∉c.X.fs:=I3.KS (OP _)
  have hCf:gh c.X aa H' h3.objs.size:=by
   refine ⟨I'.free,fun z=>?_,hCX,.inr I3.sz,fun x a ea z=>?_,fun p hp z=>?_⟩
   ·obtain ⟨m0,hm0,_⟩:=I3.loc
    obtain ⟨o,_,_,e,_⟩:=hm0
    exact absurd (OW e) (by rw [← z]; exact Qy _)
   ·obtain ⟨v',oc,e,_⟩:=I3.cell x a ea
    exact absurd (OW e) (by rw [z]; exact Qy _)
   ·exact absurd (OW (I3.pin p hp).1) (by rw [z]; exact Qy _)
  refine kont s' H' aj Da h3.objs.size (.ow (os.filterMap id)) hR ⟨m,hm⟩ hCX hCf ⟨Da,vs,rfl,g.s.free vF,hD,hfD,hr⟩ (g.trans g') fun h5 zK=>?_
  have ub:Un (frs c.X.stack) fp H2 H' s3.heap h5:=by
   have u:=I'.base
   have ne:∀ b o,s3.heap.get? b=some o→b≠h3.objs.size:=fun b o e=>Pk (OW e)
   refine ⟨fun b o e n hf hx=>(zK.2 b (ne b o e)).trans (u.keep b o e n hf hx),fun b o e n hf hx=>?_,u.free,fun b o e hx=>?_,u.tups,u.frzs,u.tbls⟩
   ·obtain ⟨sl,e2⟩:=u.slot b o e n hf hx
    exact ⟨sl,(zK.2 b (ne b o e)).trans e2⟩
   ·obtain ⟨o',e2⟩:=u.there b o e hx
    exact ⟨o',(zK.2 b (ne b o e)).trans e2⟩
  have hokf:jC c.X.prog c.X.w H' h5:=fun b u e=>(I'.hok b u e).stay (fun a o ha e2=>by
   refine (zK.2 a ?_).trans e2
   intro z; subst z
   have hfree':H' h3.objs.size=none:=I'.free
   rcases ha with z | z
   ·subst z; rw [hfree'] at e; cases e
   ·rw [hfree'] at z; cases z) (fun _ z=>z) fun _ _ z=>z
  exact I3.KU (ch:=fp) I'.os ub hokf I'.bare fun b hb=>⟨(hfp b hb).2.2.2.1,(hfp b hb).2.1,(hfp b hb).2.2.2.2.1,(hfp b hb).2.2.2.2.2⟩
 have loop:codeAny (model c.X.prog c.X.w) c.X.A (.compLoop (.ListComp elt [⟨tg,iter,ifs,0⟩] scope pos) 0 (.ref it) (.ref Da) X'.env) (compPost (model c.X.prog c.X.w) c.X.A kI use QQ (.ref Da) h3.objs.size) { s2 with heap:=h4,toks:=s2.toks+([]:List (Str×Value)).length }:=by
  refine pB (fun n s'=>∃ (i:Nat) (σ':L2.St) (H' aj:Hp) (vs:List V),n=ds.length - i∧i≤ds.length∧Inv X' [] σ' H' s'∧tn i s'.heap∧bz c' σ' H' aj ρt∧bu H1 aQ H' aj∧H' Da=some (.lst vs)∧aj Da=none∧aq c.X.K aj ((os.take i).filterMap id) vs∧vs.length≤i∧∀ b∈fp,H' b=none) ?_ ds.length
   ⟨0,σ0,H2,aQ,[],by simp,Pn _,I4,Tn.keep _ _ _ t0 fun b hb o e=>k4 b o (k3 b o e),S4,bu.gq g.b vF,ai,g.b.free vF,by simpa using aA.mpr rfl,OP _,fun b hb=>by show upd H1 Da _ b=none; rw [ak (fpne b hb)]; exact (hfp b hb).1⟩
  refine fun n s5 hh=>z5 hh fun i σ5 H5 Hf5 vs hh=>w6 hh fun en hi I5 t5 S5 hh=>w6 hh fun g5 hD5 hfD5 hr5 hlv fr5=>?_
  subst en
  by_cases hlt:i<ds.length
  ·have ed:ds[i]?=some ds[i]:=Pc hlt
   have eo:os[i]?=some (os[i]'(by rw [hol]; exact hlt)):=Pc _
   generalize ds[i]=d at ed
   generalize os[i]'(by rw [hol]; exact hlt)=o at eo
   obtain ⟨hgo,hy⟩:=io.go i d H5 Hf5 g5.f g5.b ed
   refine bJ (Tn.item X' rfl rfl rfl rfl i [] s5 σ5 H5 kI I5 (fps fr5) t5 hgo) fun r s6 hh=>hh.elim fun u hh=>w2 hh fun hr h6=>?_
   subst hr
   refine bJ h6 fun _ s7 hh=>z2 hh fun x H7 hh=>w5 hh fun I7 rx y7 t7 fr7=>?_
   obtain ⟨Hf7,g7,rx7⟩:=hy x H7 y7
   have I7':=I7.pinned (fps fr7) (Tn.obj _ _ t7)
   have S7:bz c' σ5 H7 Hf7 ρt:=S5.cG g7
   have hasg0:=hb c' rfl t i d o ed eo
   rw [hρ] at hasg0
   have hasg:=hasg0 σ5 H7 Hf7 x (fun σ2 H2'=>∃ cQ ρ1,bz c' σ2 H2' cQ ρ1∧bu H7 Hf7 H2' cQ∧EY ρt ρ1∧uA c' ifs ρ1 (o8 (aJ c' elt ρ1 fun e=>o=some e) (o=none))) S7 rx7 (fun σ2 H2' cQ ρ1 S' g' hw=>⟨cQ,ρ1,S',g',hw⟩) _ s7 u I7' rx
   refine bJ (show wpAny _ _ _ _ kI _ from hasg) fun _ s8 hh=>z2 hh fun σ8 H8 hh=>w2 hh fun I8 hh=>z2 hh fun Hf8 ρ8 hh=>w4 hh fun S8 g8 w8 hC8=>?_
   refine bJ (nU (c:=c') rfl ifs S8 hC8 (Q:=fun b H'=>∃ aj,o8 (aJ c' elt ρ8 fun e=>o=some e) (o=none) b∧bu H8 Hf8 H' aj) (fun b H' aj hb' g'=>⟨aj,hb',g'⟩) I8) fun b s9 hh=>hh.elim fun H9 hh=>w2 hh fun I9 hh=>hh.elim fun Hf9 hh=>w2 hh fun hb9 g9=>?_
   have g79:=(g7.trans g8).trans g9
   have hD9:H9 Da=some (.lst vs):=g79.s _ _ hD5
   have hfD9:Hf9 Da=none:=g79.n Da hfD5 (by rw [hD5]; simp) (by intro ys; rw [hD5]; simp)
   have keepT:∀ {σ':L2.St} {H':Hp} {s':Shared},Inv X' ([]++kX fp s7.heap) σ' H' s'→tn (i+1) s'.heap∧∀ b∈fp,H' b=none:=fun {σ' H' s'} I' =>
    ⟨Tn.keep _ _ _ t7 fun b hb' ob e=>(I'.pin (b,ob) (Qg _ (Qg _ (fN hb' e)))).1,fun b hb'=>by
      obtain ⟨ob,e,_⟩:=Tn.obj _ _ t7 b hb'
      exact (I'.pin (b,ob) (Qg _ (Qg _ (fN hb' e)))).2.1⟩
   have wk:∀ {σ':L2.St} {H' aj:Hp},bz c' σ' H' aj ρ8→bz c' σ' H' aj ρt:=fun S'=>c9.weak S' w8.weak.1 w8.weak.2
   have tk:(os.take (i+1)).filterMap id=(os.take i).filterMap id++o.toList:=by
    rw [UW,eo,List.filterMap_append]
    cases o <;> rfl
   cases b with
   | false =>
    have eo':=hb9.f rfl
    subst eo'
    rw [if_neg O0]
    obtain ⟨t9,fr9⟩:=keepT I9
    exact ⟨_,Nat.sub_lt_sub_left hlt (Ro i),i+1,σ8,H9,Hf9,vs,rfl,hlt,I9.gi,t9,wk (S8.cG g9),g5.trans g79,hD9,hfD9,by rw [tk]; simpa using hr5.mono g79.f,Nat.le_succ_of_le hlv,fr9⟩
   | true =>
    rw [if_pos rfl]
    have hev:=hb9.t rfl σ8 H9 Hf9 (fun v H'=>∃ aj e,o=some e∧Rep c.X.K aj e v∧bu H9 Hf9 H' aj) (S8.cG g9) (fun e v H' aj he r g'=>⟨aj,e,he,r,g'⟩) _ s9 I9
    refine bJ (show wpAny _ _ _ _ kI _ from hev) fun u2 s10 hh=>z2 hh fun v2 H10 hh=>w3 hh fun I10 r10 hh=>z2 hh fun Hf10 e hh=>w3 hh fun eo' re g10=>?_
    subst eo'
    have hD10:H10 Da=some (.lst vs):=g10.s _ _ hD9
    have hfD10:Hf10 Da=none:=g10.n Da hfD9 (by rw [hD9]; simp) (by intro ys; rw [hD9]; simp)
    have app:=nK (X:=X') _ s10 σ8 H10 (.ref Da) [v2] (.ref Da) [u2] (fun _ H'=>H'=upd H10 Da (.lst (vs++[v2]))) I10 rfl (.cons r10 .nil) ⟨Da,vs,v2,rfl,rfl,hD10,PN (QO hlv hlt) hz,rfl⟩
    refine bJ (show wpAny _ _ _ _ kI _ from app) fun _ s11 ⟨_,H11,I11,_,e11⟩=>?_
    subst e11
    obtain ⟨t11,fr11⟩:=keepT I11
    have S10:bz c' σ8 H10 Hf10 ρ8:=(S8.cG g9).cG g10
    have gA:bu H1 aQ (upd H10 Da (.lst (vs++[v2]))) Hf10:=pC ((g5.trans g79).trans g10) vF hfD10
    refine ⟨_,Nat.sub_lt_sub_left hlt (Ro i),i+1,σ8,_,Hf10,vs++[v2],rfl,hlt,I11.gi,t11,?_,gA,ai,hfD10,?_,by rw [Py]; exact TJ hlv,fr11⟩
    ·refine (wk S10).apart hB0 hfD10 (fun ⟨_,z⟩=>by rw [hD10] at z; cases z) fun j r hj ho=>fun z=>?_
     obtain ⟨b,eb,nb⟩:=howA j r hj ho
     obtain ⟨v',e3,q3⟩:=(wk S10).at_ j r hj (by rintro rfl; cases ho)
     rw [z] at e3; cases e3
     exact nb (wm eb q3).symm
    ·rw [tk]
     exact (hr5.mono (g79.f.trans g10.f)).append (by simpa using aq.one re)
  ·have e:i=ds.length:=Nat.le_antisymm hi (Nat.le_of_not_lt hlt)
   subst e
   refine bJ (Tn.done X' rfl rfl rfl rfl ds.length [] s5 σ5 H5 kI I5 (fps fr5) t5 (io.stop _ H5 Hf5 g5.f g5.b (OP _))) fun r s6 ⟨hr,I6⟩=>?_
   subst hr
   refine fin s6 σ5 H5 Hf5 vs I6 g5 hD5 hfD5 ?_
   rw [Sb (by rw [hol]; exact OP _)] at hr5
   exact hr5
 exact codeAny_compStart_list loop (Tn.self _ 0 _ _ _ (Tn.keep _ _ _ t0 fun b hb o e=>k4 b o (k3 b o e)) loop)
theorem ff {elt tg iter:Expr} {ifs:List Expr} {scope:Scope} {N':List Str} {ρ0:(Str→Addr)→List Sl} {R:Sl→Prop} (hq:c.X.xe=kI) (hfr:∀ t,A9 t scope.names N ρ N' (ρ0 t))
 (h:II c tg iter ρ fun ds=>Sd (ds.length≤sizeLine) (∃ os:List (Option D),os.length=ds.length ∧
   (∀ c':Ctx P w K mg base k N' (bX scope sc) true,c'.X.xe=kI→∀ (t:Str→Addr) (i:Nat) (d:D) (o:Option D),ds[i]?=some d→os[i]?=some o→Ba c' tg ifs elt (ρ0 t) d o)∧R (.ow (os.filterMap id))))
 (hk:scope.kind=.function:=by walk_at "u") (hnc:∀ x∈scope.names,x.2≠.cell:=by decide +kernel) (hnl:∀ x∈scope.names,x.2=.local→scope.names.lookup x.1=some .local:=by decide +kernel)
 (hfree:∀ x∈scope.names,x.2=.free→sc.names.lookup x.1=some .cell:=by decide +kernel) (hnd:N'.Nodup:=by decide +kernel) (hv:∀ x∈N',Loc (bX scope sc) x:=by unfold L2.Loc; decide +kernel)
 (hvf:∀ x∈scope.names,x.2=.free→(bX scope sc).names.lookup x.1=some .cell:=by decide +kernel)
 (hs:∀ env v,foldedSetIterable iter env v=pure v:=by intro _ _; walk_at "u"):dD c (.ListComp elt [⟨tg,iter,ifs,0⟩] scope pos) ρ R:=fun σ H Hf Q S q aa s I=>by
 rw [hq]
 rw [show (eval (.ListComp elt [⟨tg,iter,ifs,0⟩] scope pos) c.X.env)=comprehension (.ListComp elt [⟨tg,iter,ifs,0⟩] scope pos) scope c.X.env (firstIterPos [⟨tg,iter,ifs,0⟩] pos) (newList []) (firstAsync [⟨tg,iter,ifs,0⟩]) (firstIter [⟨tg,iter,ifs,0⟩] c.X.env) from rfl]
 exact E1 hq hfr h hk hnc hnl hfree hnd hv hvf hs S I fun s' H' aj a C r hr ⟨m,hm⟩ _ _ hrep g hJ=>⟨m,hm,fun h5 zK=>⟨.ref a,H',hJ h5 zK,rfl,q r _ H' aj hr hrep g⟩⟩
end
mutual
def D.nl:D→Prop
 | .lst _=>False
 | .fdK _ _=>False
 | .fdT _ _=>False
 | .tup ds=>D.qu ds
 | _=>True
def D.qu:List D→Prop
 | []=>True
 | d::ds=>d.nl∧D.qu ds
end
theorem wo:∀ {ds:List D},D.qu ds↔∀ d∈ds,d.nl
 | []=>by simp [D.qu]
 | d::ds=>by simp [D.qu,wo (ds:=ds)]
theorem dW {α:Type} {f:α→D} {l:List α} (h:∀ x∈l,(f x).nl):D.qu (l.map f):=wo.mpr fun d hd=>by
 obtain ⟨x,hx,rfl⟩:=Pa.mp hd
 exact h x hx
theorem lH:(D.int i).nl:=by simp [D.nl]
theorem E2 (l:List Int):D.qu (l.map D.int):=dW fun x _=>lH
theorem uB (h:D.qu ds):(D.tup ds).nl:=by simpa [D.nl] using h
noncomputable def HO.mt:HO→Prop | .lst _=>True | .dK _=>True | .dT _=>True | _=>False
theorem yk {K:ON} (hp:Hf p=some o) (hm:HO.mt o) (h:c8 K Hf a xs):c8 K (del Hf p) a xs:=by
 rcases h with (h | ⟨o',h⟩) | h
 ·exact .inl (.inl (by rw [ck (by rintro rfl; rw [hp] at h; cases h; exact hm)]; exact h))
 ·exact .inl (.inr ⟨o',by rw [ck (by rintro rfl; rw [hp] at h; cases h; exact hm)]; exact h⟩)
 ·exact .inr h
mutual
theorem uC {K:ON} {Hf:Hp} {p:Addr} {o:HO} (hp:Hf p=some o) (hm:HO.mt o):∀ (d:D) {v:V},d.nl→Rep K Hf d v→Rep K (del Hf p) d v
 | .non,_,_,h=>by simpa [Rep] using h
 | .bl _,_,_,h=>by simpa [Rep] using h
 | .int _,_,_,h=>by simpa [Rep] using h
 | .str _,_,_,h=>by simpa [Rep] using h
 | .adr _,_,_,h=>by simpa [Rep] using h
 | .tup ds,v,f,h=>by
  simp only [Rep] at h ⊢
  obtain ⟨a,xs,e,h1,h2⟩:=h
  exact ⟨a,xs,e,yk hp hm h1,pD hp hm ds (by simpa [D.nl] using f) h2⟩
 | .lst _,_,f,_=>by simp [D.nl] at f
 | .fdK _ _,_,f,_=>by simp [D.nl] at f
 | .fdT _ _,_,f,_=>by simp [D.nl] at f
 | .exc C,_,_,h=>by
  simp only [Rep] at h ⊢
  obtain ⟨a,e,h⟩:=h
  exact ⟨a,e,by rw [ck (by rintro rfl; rw [hp] at h; cases h; exact hm)]; exact h⟩
theorem pD {K:ON} {Hf:Hp} {p:Addr} {o:HO} (hp:Hf p=some o) (hm:HO.mt o):∀ (ds:List D) {xs:List V},D.qu ds→aq K Hf ds xs→aq K (del Hf p) ds xs
 | [],_,_,h=>by simpa [aq] using h
 | d::ds,xs,f,h=>by
  simp only [aq] at h ⊢
  simp only [D.qu] at f
  obtain ⟨x,r,e,h1,h2⟩:=h
  exact ⟨x,r,e,uC hp hm d f.1 h1,pD hp hm ds f.2 h2⟩
end
noncomputable def Sl.nl:Sl→Prop
 | .va d=>d.nl
 | .ow ds=>D.qu ds
 | _=>False
theorem aZ.N3 {K:ON} {H H' aj:Hp} (hp:aj p=some oz) (hm:HO.mt oz) (h0:H p=some o) (f:r.nl) (h:aZ K (fun p=>H p=none) H' aj r v):aZ K (fun p=>H p=none) H' (del aj p) r v:=by
 cases r with
 | va d=>exact uC hp hm d f h
 | ow ds =>
  obtain ⟨q,xs,rfl,fq,h1,h2,h3⟩:=h
  refine ⟨q,xs,rfl,fq,h1,?_,pD hp hm ds f h3⟩
  rw [ck (by rintro rfl; rw [h0] at fq; cases fq)]; exact h2
 | _=>exact f.elim
section
variable {P:Program} {w:World} {K:ON} {mg:Str→Option Value} {base:Heap} {k:Nat} {N:List Str} {sc:Scope} {bk:Bool} {c:Ctx P w K mg base k N sc bk} {ρ ρ':List Sl} {pos ap cp px tp:Pos} {a b e f:Expr} {es:List Expr} {R:D→Prop} {T:Bool→Prop} {nx:List Sl→Prop} {p:Pt} {x:Str} {i:Nat} {r:Sl} {ds:List D}
noncomputable def Sl.mX:Sl→Option D
 | .ow ds=>some (.lst ds) | .aw _ ds=>some (.lst ds)
 | _=>none
theorem lI (h:r.mX=some d):r.owned=true:=by cases r <;> first | rfl | cases h
theorem jh {κ:Type} {Hf:Hp} {kvs:List (κ×D)} {xs:List (κ×V)} (h:mQ K Hf kvs xs):xs.map (·.1)=kvs.map (·.1)∧aq K Hf (kvs.map (·.2)) (xs.map (·.2)):=by
 unfold mQ at h
 induction h with
 | nil=>exact ⟨rfl,aA.mpr rfl⟩
 | cons h t ih=>exact ⟨by rw [OS,OS,ih.1,h.1],.cons h.2 ih.2⟩
theorem fF (h:lu K Hf kvs xs):xs.map (·.1)=kvs.map (·.1)∧(∀ y∈xs,c8 K Hf y.2.1 (y.1.map kV))∧aq K Hf (kvs.map (·.2)) (xs.map (·.2.2)):=by
 refine ⟨?_,h.A8,?_⟩
 ·unfold lu at h
  induction h with
  | nil=>rfl
  | cons h t ih=>rw [OS,OS,ih,h.1]
 ·unfold lu at h
  induction h with
  | nil=>exact aA.mpr rfl
  | cons h t ih=>exact .cons h.2.2 ih
theorem aZ.mX (h:r.mX=some d) (q:aZ K fr H Hf r v):∃ p o,v=.ref p∧fr p∧H p=some o∧Hf p=none∧HO.mt o∧Rep K (upd Hf p o) d v:=by
 have sf:∀ {p:Addr} {o:HO},Hf p=none→aH Hf (upd Hf p o):=fun hp b u e=>by rw [ak (aB e hp)]; exact e
 cases r with
 | ow ds=>cases h; obtain ⟨p,xs,rfl,f,h1,h2,h3⟩:=q; exact ⟨p,_,rfl,f,h1,h2,trivial,aY.mpr ⟨p,xs,rfl,.inl (.inl ai),h3.mono (sf h2)⟩⟩
 | aw a ds=>cases h; obtain ⟨p,xs,rfl,f,h1,h2,h3⟩:=q; exact ⟨p,_,rfl,f.1,h1,h2,trivial,aY.mpr ⟨p,xs,rfl,.inl (.inl ai),h3.mono (sf h2)⟩⟩
 | _=>cases h
theorem c9.kJ (S:c9 K H₀ dU σ H Hf ρ) (h:ρ[i]?=some r) (hr:r.mX=some d) :
 ∃ q o,H q=some o∧Hf q=none∧HO.mt o∧c9 K H₀ dU σ H (L2.upd Hf q o) (ρ.set i (.va d)):=by
 obtain ⟨q,ev,rq⟩:=S.own h (lI hr)
 obtain ⟨_,o,e0,fq,hq,tW,hm,rd⟩:=rq.mX hr
 cases e0
 have hi:i<ρ.length:=(OZ.mp h).1
 have hown:=lI hr
 have sf:aH Hf (L2.upd Hf q o):=fun b u e=>by rw [L2.ak (aB e tW)]; exact e
 have sb:aH (L2.upd Hf q o) H:=fun b u e=>by
  by_cases z:b=q
  ·subst z; rw [L2.ai] at e; rw [hq]; exact e
  ·rw [L2.ak z] at e; exact S.sb b u e
 refine ⟨q,o,hq,tW,hm,⟨S.bas.s,S.bas.f.trans sf,sb,fun b h1 h2 h3=>?_⟩,by simp [S.len],fun j r' hj hu=>?_,fun j j' r1 r2 q' hne h1 h2 o1 o2=>?_⟩
 ·have e:=S.bas.n b h1 h2 h3
  by_cases z:b=q
  ·subst z; exact absurd fq h2
  ·rw [L2.ak z]; exact e
 ·by_cases z:j=i
  ·subst z
   rw [Qf hi] at hj
   cases hj
   exact ⟨_,ev,rd⟩
  ·rw [Qh (Pf z)] at hj
   obtain ⟨v,e1,e2⟩:=S.at_ j r' hj hu
   refine ⟨v,e1,?_⟩
   have key:r'.owned=true→v≠.ref q:=fun ho z=>by
    subst z
    exact S.sep i j _ _ q (Pf ‹_›) h hj hown ho ev e1
   exact aZ.mv (B:=fun z=>z=q) sf (fun z u hz e1 _ e3=>⟨e1,by rw [L2.ak hz]; exact e3⟩) (by rintro _ z rfl ⟨ys,e9⟩; rw [hq] at e9; cases e9; exact hm) (fun ho z e=>by rintro rfl; exact key ho e) e2
 ·have out:∀ {j:Nat} {r:Sl},(ρ.set i (.va d))[j]?=some r→r.owned=true→ρ[j]?=some r:=fun {j r} hj ho=>by
   by_cases z:j=i
   ·subst z; rw [Qf hi] at hj; cases hj; cases ho
   ·rw [Qh (Pf z)] at hj; exact hj
  exact S.sep j j' r1 r2 q' hne (out h1 o1) (out h2 o2) o1 o2
theorem q9 (sb:aH Hf H) (hq:H q=some o) (tW:Hf q=none) (g:bu H (upd Hf q o) H' aj):bu H Hf H' (del aj q) :=
 ⟨g.s,fun b o e=>by rw [ck (aB e tW)]; exact g.f b o (by rw [ak (aB e tW)]; exact e),fun b o e=>by obtain ⟨_,e2⟩:=je e; exact g.b b o e2,fun b h1 h2 h3=>by
   by_cases z:b=q
   ·subst z; exact jd
   ·rw [ck z]; exact g.n b (by rw [ak z]; exact h1) h2 h3⟩
section
theorem LO (i) (hi:At ρ i r) (hr:r.mX=some d0) (hs:SSet ρ i (.va d0) ρ') (h:aJ c e ρ' fun d=>Sd d.nl (R d)):aJ c e ρ R:=fun σ H Hf Q S q=>by
 obtain ⟨a,o,ha,zL,hm,S1⟩:=S.kJ hi.get hr
 rw [← hs.eq] at S1
 exact h σ H _ Q S1 fun d v H' aj ⟨fl,rd⟩ rv g=>q d v H' _ rd (uC (g.f a _ ai) hm d fl rv) (q9 S.sb ha zL g)
theorem wu (i) {R:Sl→Prop} (hi:At ρ i r) (hr:r.mX=some d0) (hs:SSet ρ i (.va d0) ρ') (h:dD c e ρ' fun d=>Sd d.nl (R d)):dD c e ρ R:=fun σ H Hf Q S q=>by
 obtain ⟨a,o,ha,zL,hm,S1⟩:=S.kJ hi.get hr
 rw [← hs.eq] at S1
 exact h σ H _ Q S1 fun d v H' aj ⟨fl,rd⟩ rv g=>q d v H' _ rd (rv.N3 (g.f a _ ai) hm ha fl) (q9 S.sb ha zL g)
theorem lJ {st:List Stmt} (i) (hi:At ρ i r) (hr:r.mX=some d0) (hs:SSet ρ i (.va d0) ρ') (h:aS c st ρ' nx p):aS c st ρ nx p:=fun σ H Hf D S o=>by
 obtain ⟨a,ob,ha,zL,hm,S1⟩:=S.kJ hi.get hr
 rw [← hs.eq] at S1
 exact h σ H _ D S1 o
theorem LP {st:Stmt} (i) (hi:At ρ i r) (hr:r.mX=some d0) (hs:SSet ρ i (.va d0) ρ') (h:eV c st ρ' nx p):eV c st ρ nx p:=fun σ H Hf D S o=>by
 obtain ⟨a,ob,ha,zL,hm,S1⟩:=S.kJ hi.get hr
 rw [← hs.eq] at S1
 exact h σ H _ D S1 o
end
theorem LQ (hN:At N i x) (hi:At ρ i r) (hr:r.mX=some (.lst ds)) (hs:SSet ρ i (.va (.lst ds)) ρ') (h:aJ c b ρ' fun y=>Sd y.nl (∃ j d,y=.int j∧kE ds j=some d∧Sd d.nl (R d))) (hx:At ρ' i (.va (.lst ds)))
 (hd:(x == ("__debug__":Str))=false:=by decide) (hcd:(x == ("__classdict__":Str))=false:=by decide) (hp:kF b:=by with_unfolding_all exact fun _ _=>rfl):aJ c (.Subscript (.Name x p2) b pos) ρ R :=
 LO i hi hr hs (LK (nS hN hx (h.imp fun y ⟨_,j,d,e1,e2,e3⟩=>⟨ds,j,d,rfl,e1,e2,e3⟩) hd hcd) hp)
theorem N4 (h:dD c e ρ (GH R)):aJ c e ρ R:=e_x h
end
end EV
set_option maxHeartbeats 0
namespace EV
open PySem PySem.Spec PyProof.Rows L2
section
variable {P:Program} {w:World} {K:ON} {mg:Str→Option Value} {base h:Heap}
noncomputable def aC (K:ON) (mg:Str→Option Value) (x:Str) (st:Stmt):Prop:=∃ f fd,mg x=some (.ref f)∧fu K x x st f fd
theorem aV {st:Stmt} {kV doc pm cdv ct:Value} (KX:K.In h) (G:h.Ns mainGlobals mg) (a:PY K mainGlobals x=some (some (.ref f)))
 (l:K.lookup f=some ⟨oc,od,.func (QJ x x (eU st) (ay st) (ah st) .none kV doc pm an cdv ct),osl⟩) (c:T3 K cdv x=true) (k:QE K (.ref f)=true):aC K mg x st :=
 ⟨f,_,PySem.W.mg_of KX G a,Im l c k⟩
theorem IT (e:(t == Qe T)=false) (m:PySem.W.kitMeta T=true) (s:PySem.W.subIn K t (.type T)=some b):Qp K t (.type T)=some b:=by
 unfold Qp PySem.W.kitCls
 simp [e,m,s]
theorem lK (e:(t == t)=true):Qp K t t=some true:=by
 unfold Qp
 simp [e]
structure Txt (K:ON) (mg:Str→Option Value):Prop where
 abs:mg "abs"=none
 len:mg "len"=none
 isin:mg "isinstance"=none
 range:mg "range"=none
 int:mg "int"=none
 bool:mg "bool"=none
 tuple:mg "tuple"=none
 list:mg "list"=none
 max:mg "max"=none
 min:mg "min"=none
 sum:mg "sum"=none
 sorted:mg "sorted"=none
 zip:mg "zip"=none
 enum:mg "enumerate"=none
 all:mg "all"=none
 any:mg "any"=none
 dict:mg "dict"=none
 ib:Qp K (.type "int") (.type "bool")=some false
theorem Txt.LR (T:Txt K mg):ja mg "int" (.type "int"):=.inr ⟨_,rfl,T.int,by decide +kernel,by decide +kernel⟩
theorem Txt.IU (T:Txt K mg):ja mg "bool" (.type "bool"):=.inr ⟨_,rfl,T.bool,by decide +kernel,by decide +kernel⟩
theorem Txt.E3 (T:Txt K mg):ja mg "tuple" (.type "tuple"):=.inr ⟨_,rfl,T.tuple,by decide +kernel,by decide +kernel⟩
theorem Txt.IV (T:Txt K mg):ja mg "list" (.type "list"):=.inr ⟨_,rfl,T.list,by decide +kernel,by decide +kernel⟩
theorem IW:Qp K (.type "int") (.type "int")=some true:=lK (by decide)
theorem IX:Qp K (.type "tuple") (.type "tuple")=some true:=lK (by decide)
theorem IY:Qp K (.type "list") (.type "list")=some true:=lK (by decide)
theorem IZ (KX:K.In h) (G:h.Ns mainGlobals mg)
 (z1:PY K mainGlobals "abs"=some none)
 (z2:PY K mainGlobals "len"=some none)
 (z3:PY K mainGlobals "isinstance"=some none)
 (z4:PY K mainGlobals "range"=some none)
 (z5:PY K mainGlobals "int"=some none)
 (z6:PY K mainGlobals "bool"=some none)
 (z7:PY K mainGlobals "tuple"=some none)
 (z8:PY K mainGlobals "list"=some none)
 (z9:PY K mainGlobals "max"=some none)
 (z10:PY K mainGlobals "min"=some none)
 (z11:PY K mainGlobals "sum"=some none)
 (z12:PY K mainGlobals "sorted"=some none)
 (z13:PY K mainGlobals "zip"=some none)
 (z14:PY K mainGlobals "enumerate"=some none)
 (z15:PY K mainGlobals "all"=some none)
 (z16:PY K mainGlobals "any"=some none)
 (z17:PY K mainGlobals "dict"=some none)
 (sib:PySem.W.subIn K (.type "int") (.type "bool")=some false):Txt K mg :=
 ⟨P5 KX G z1,P5 KX G z2,P5 KX G z3,P5 KX G z4,P5 KX G z5,P5 KX G z6,P5 KX G z7,P5 KX G z8,
  P5 KX G z9,P5 KX G z10,P5 KX G z11,P5 KX G z12,P5 KX G z13,P5 KX G z14,P5 KX G z15,P5 KX G z16,P5 KX G z17,
  IT (by decide) (by decide) sib⟩
theorem bw {st:Stmt} (m:mg x=some (.ref f)) (Fu:fu K x x st f fd) (ok:bx P w K mg base (dH P w) k f fd ps (fE K F))
 (hb:∀ (kV doc pm:Value) (an:Option Addr) (cdv ct:Value) (us:List Value),us.length=ps.length→bindArgs (QJ x x (eU st) (ay st) (ah st) .none kV doc pm an cdv ct) ⟨us,[]⟩=pure (ps.zip us)):cz P w K mg base k x F :=
 ⟨f,fd,ps,m,Fu.kp,Fu.binds hb,ok⟩
theorem jK {α:Type} (us:List α) (h:us.length=1):∃ a,us=[a]:=by match us,h with | [a],_=>exact ⟨a,rfl⟩
theorem pF {α:Type} (us:List α) (h:us.length=2):∃ a b,us=[a,b]:=by match us,h with | [a,b],_=>exact ⟨a,b,rfl⟩
theorem yl {α:Type} (us:List α) (h:us.length=3):∃ a b c,us=[a,b,c]:=by match us,h with | [a,b,c],_=>exact ⟨a,b,c,rfl⟩
theorem I0 {α:Type} (us:List α) (h:us.length=4):∃ a b c d,us=[a,b,c,d]:=by match us,h with | [a,b,c,d],_=>exact ⟨a,b,c,d,rfl⟩
noncomputable def Bb:Fn:=fun ds r=>∃ ns:List Int,ns.length≤63∧ds=[.lst (ns.map D.int)]∧r=.ok (.va (.bl true))
theorem Ja (H) (a) (ns:List Int) (hl:ns.length≤63) (hS:gX K H a (ns.map V.int)):fE K Bb [.ref a] H (fun v _=>v=.bl true) fun _ _ _=>False :=
 ⟨H,[.lst (ns.map D.int)],.ok (.va (.bl true)),.refl H,.cons (aY.mpr ⟨a,_,rfl,hS,jH ns⟩) (aA.mpr rfl),⟨ns,hl,rfl,rfl⟩,fun v H' aj _ r=>(gp (K:=K) (H:=aj)).mp r⟩
theorem walk {l:PySem.W.OpenLaw} {K:Params→ON} (hk:k≤20) (hn:l.most=some 63) (hdf:d.params.defaults=[])
 (hY:∀ (w:World) (h:Heap),YP w h→(K w.params).In h)
 (F:∀ (w:World) (mg:Str→Option Value) (fa:Addr) (h:Heap),(K w.params).In h→h.Ns mainGlobals mg→mg d.name=some (.ref fa) →
   ∃ fd:FuncData,(∀ (s:Shared) (u:Value),BindsTo s fd ⟨[u],[]⟩ [("_law_script",u)])∧∀ base:Heap,(K w.params).In base→base.Ns mainGlobals mg→bx l.prog w (K w.params) mg base (dH l.prog w) 20 fa fd ["_law_script"] (fE (K w.params) Bb)) :
 PySem.W.WalkO q loose XP YP l.row.toRowW d [] (fun f vs=>PySem.call f vs) :=
 L2.EA (n:=63) (k:=20) (x:="_law_script") (CX:=fun w=>dH l.prog w) (sp:=fun w=>fE (K w.params) Bb) hn (by decide) hdf ⟨rfl,by decide,by decide⟩ hY F (fun _ H a ns hl _ hS=>Ja H a ns hl hS) fun _ _ _ _ _ ⟨_,_,_,_,_,q⟩=>q
end
section
end
theorem rg (f:α→β) (xs) (lo hi):EV.cutD (xs.map f) lo hi=(EV.cutD xs lo hi).map f:=by
 unfold EV.cutD; simp only [OT,List.map_take,List.map_drop]
theorem g6 (h0:0≤j) (h1:j<xs.length):kE xs j=xs[j.toNat]?:=by
 unfold kE KG
 rw [if_pos h0,if_pos h1]; rfl
theorem wz {j:Int} (h0:j<0) (h1:0≤j+xs.length):kE xs j=xs[(j+xs.length).toNat]?:=by
 unfold kE KG
 rw [if_neg (by lia)]
 rw [if_pos (by lia)]; rfl
theorem ri (h:a.natAbs<2 ^ 63):Qi a≤64:=by
 unfold Qi
 by_cases z:a=0
 ·subst z; decide
 ·have e:(a == 0)=false:=by simpa using z
  rw [e,if_neg O0]
  have:=(Nat.log2_lt (n:=a.natAbs) (k:=63) (by lia)).mpr h
  lia
theorem rm (h:a.natAbs<2 ^ 63):EV.MulOk a b:=IntMulOk.of_left (ri h)
theorem ji (h:(qU 0 n)[i]?=some d):i<n∧d=.int (i:Int):=by
 unfold qU at h
 simp only [OY,O4] at h
 obtain ⟨j,h1,rfl⟩:=h
 obtain ⟨hj,rfl⟩:=OZ.mp h1
 simp at hj
 exact ⟨hj,by simp⟩
section
variable {K:ON}
end
end EV
namespace EV
open PySem PySem.Spec PySem.Calls PyProof.Rows L2
noncomputable def HO.dct:HO→Prop | .dK _=>True | .dT _=>True | _=>False
theorem pG (I:Inv X aa σ H s) (hu:H a=some u) (nu:∀ xs,u≠.tup xs) (nw:∀ y,u≠.own y) (nt:∀ ps,u≠.tbl ps) (nf:∀ o z,X.H₀ a≠some (.frz o z))
 (hv:bq X.prog X.w H s.heap a v):Inv X aa σ (upd H a v) s:=by
 have hne:∀ {b:Addr} {z:HO},H b=some z→z≠u→b≠a:=fun e d q=>by subst q; rw [hu] at e; cases e; exact d rfl
 have hno:∀ {b:Addr},H b=none→b≠a:=fun e q=>by subst q; rw [hu] at e; cases e
 have hst:∀ {b:Addr} {z:HO},bq X.prog X.w H s.heap b z→bq X.prog X.w (upd H a v) s.heap b z:=fun q =>
  q.stay (fun _ _ _ e=>e) (fun b e=>by rw [ak (hne e (Pf (nw _)))]; exact e) fun b xs e=>by rw [ak (hne e (Pf (nu xs)))]; exact e
 have fr:=I.free
 exact {
  ok:=I.ok,os:=I.os,bare:=I.bare,loc:=I.loc,cell:=I.cell,len:=I.len
  base:=⟨I.base.keep,I.base.slot,fun b o h1 h2 h3=>by have e:=I.base.free b o h1 h2 h3; rw [ak (hno e)]; exact e,I.base.there,
   fun b xs e=>by have q:=I.base.tups b xs e; rw [ak (hne q (Pf (nu xs)))]; exact q,
   fun b o z e=>by
    have q:=I.base.frzs b o z e
    by_cases w:b=a
    ·subst w; exact absurd e (nf o z)
    ·rw [ak w]; exact q,
   fun b ps e=>by obtain ⟨m,q⟩:=I.base.tbls b ps e; exact ⟨m,by rw [ak (hne q (Pf (nt _)))]; exact q⟩⟩
  free:=by rw [ak (hno I.free)]; exact I.free
  freeC:=fun x c e=>by have q:=I.freeC x c e; rw [ak (hno q)]; exact q
  pin:=fun q hq=>by obtain ⟨h1,h2,h3⟩:=I.pin q hq; exact ⟨h1,by rw [ak (hno h2)]; exact h2,h3⟩
  hok:=fun b z e=>by
   by_cases w:b=a
   ·subst w; rw [ai] at e; cases e; exact hst hv
   ·rw [ak w] at e; exact hst (I.hok b z e) }
theorem E4 (I:Inv X aa σ H s) (hu:H a=some u) (hd:HO.dct u) :
 ∃ o,Inv X aa σ (upd H a (.frz o u)) s∧∀ o z,X.H₀ a≠some (.frz o z):=by
 obtain ⟨o,ho⟩:=IB (I.hok a u hu)
 have nf:∀ o z,X.H₀ a≠some (.frz o z):=fun o z e=>by
  have q:=I.base.frzs a o z e
  rw [hu] at q; cases q; exact hd
 exact ⟨o,pG I hu (by rintro xs rfl; exact hd) (by rintro y rfl; exact hd) (by rintro ps rfl; exact hd) nf ⟨ho,I.hok a u hu⟩,nf⟩
theorem Bc (I:Inv X aa σ H s) (hu:H a=some (.frz o u)) (nf:∀ o z,X.H₀ a≠some (.frz o z)):Inv X aa σ (upd H a u) s :=
 pG I hu (by intro xs z; cases z) (by intro y z; cases z) (by intro ps z; cases z) nf (I.hok a _ hu).2
noncomputable def Sl.rA:Sl→Option D
 | .oK kvs=>some (.fdK (kvs.map (·.1)) (kvs.map (·.2))) | .aK _ kvs=>some (.fdK (kvs.map (·.1)) (kvs.map (·.2)))
 | .oT kvs=>some (.fdT (kvs.map (·.1)) (kvs.map (·.2))) | .aT _ kvs=>some (.fdT (kvs.map (·.1)) (kvs.map (·.2)))
 | _=>none
theorem lM {r:Sl} (h:r.rA=some d):r.owned=true:=by cases r <;> first | rfl | cases h
section
variable {K:ON}
theorem aZ.rA (h:r.rA=some d) (q:aZ K fr H Hf r v):∃ p u,v=.ref p∧fr p∧H p=some u∧Hf p=none∧HO.dct u∧∀ o,Rep K (L2.upd Hf p (.frz o u)) d v:=by
 have sf:∀ {p:Addr} {o:HO},Hf p=none→aH Hf (L2.upd Hf p o):=fun hp b u e=>by rw [ak (aB e hp)]; exact e
 cases r with
 | oK ds=>cases h; obtain ⟨p,xs,rfl,f,h1,h2,h3⟩:=q; exact ⟨p,_,rfl,f,h1,h2,trivial,fun o=>i7.mpr ⟨p,xs,o,rfl,ai,(jh h3).1,(jh h3).2.mono (sf h2)⟩⟩
 | aK a ds=>cases h; obtain ⟨p,xs,rfl,f,h1,h2,h3⟩:=q; exact ⟨p,_,rfl,f.1,h1,h2,trivial,fun o=>i7.mpr ⟨p,xs,o,rfl,ai,(jh h3).1,(jh h3).2.mono (sf h2)⟩⟩
 | oT ds=>cases h; obtain ⟨p,xs,rfl,f,h1,h2,h3⟩:=q; exact ⟨p,_,rfl,f,h1,h2,trivial,fun o=>i8.mpr ⟨p,xs,o,rfl,ai,(fF h3).1,fun y hy=>av (sf h2) ((fF h3).2.1 y hy),(fF h3).2.2.mono (sf h2)⟩⟩
 | aT a ds=>cases h; obtain ⟨p,xs,rfl,f,h1,h2,h3⟩:=q; exact ⟨p,_,rfl,f.1,h1,h2,trivial,fun o=>i8.mpr ⟨p,xs,o,rfl,ai,(fF h3).1,fun y hy=>av (sf h2) ((fF h3).2.1 y hy),(fF h3).2.2.mono (sf h2)⟩⟩
 | _=>cases h
theorem c9.E5 (S:c9 K H₀ dU σ H Hf ρ) (h:ρ[i]?=some r) (hr:r.rA=some d) :
 ∃ q u,H q=some u∧Hf q=none∧HO.dct u∧∀ o,c9 K H₀ dU σ (L2.upd H q (.frz o u)) (L2.upd Hf q (.frz o u)) (ρ.set i (.va d)):=by
 obtain ⟨q,ev,rq⟩:=S.own h (lM hr)
 obtain ⟨_,u,e0,fq,hq,tW,hd,rd⟩:=rq.rA hr
 cases e0
 have hi:i<ρ.length:=(OZ.mp h).1
 have hown:=lM hr
 refine ⟨q,u,hq,tW,hd,fun o=>⟨⟨fun b z e=>?_,fun b z e=>?_,fun b z e=>?_,fun b h1 h2 h3=>?_⟩,by simp [S.len],fun j r' hj hu=>?_,fun j j' r1 r2 q' hne h1 h2 o1 o2=>?_⟩⟩
 ·rw [L2.ak (aB e fq)]; exact S.bas.s b z e
 ·have e2:=S.bas.f b z e
  rw [L2.ak (aB e2 tW)]; exact e2
 ·by_cases w:b=q
  ·subst w; rw [L2.ai] at e ⊢; exact e
  ·rw [L2.ak w] at e ⊢; exact S.sb b z e
 ·have e:=S.bas.n b h1 h2 h3
  by_cases z:b=q
  ·subst z; exact absurd fq h2
  ·rw [L2.ak z]; exact e
 ·have sf:aH Hf (L2.upd Hf q (.frz o u)):=fun b z e=>by rw [L2.ak (aB e tW)]; exact e
  by_cases z:j=i
  ·subst z
   rw [Qf hi] at hj
   cases hj
   exact ⟨_,ev,rd o⟩
  ·rw [Qh (Pf z)] at hj
   obtain ⟨v,e1,e2⟩:=S.at_ j r' hj hu
   refine ⟨v,e1,?_⟩
   have key:r'.owned=true→v≠.ref q:=fun ho z=>by
    subst z
    exact S.sep i j _ _ q (Pf ‹_›) h hj hown ho ev e1
   exact aZ.mv (B:=fun z=>z=q) sf (fun z w hz e1 _ e3=>⟨by rw [L2.ak hz]; exact e1,by rw [L2.ak hz]; exact e3⟩) (by rintro _ z rfl ⟨ys,e9⟩; rw [hq] at e9; cases e9; exact hd) (fun ho z e=>by rintro rfl; exact key ho e) e2
 ·have out:∀ {j:Nat} {r:Sl},(ρ.set i (.va d))[j]?=some r→r.owned=true→ρ[j]?=some r:=fun {j r} hj ho=>by
   by_cases z:j=i
   ·subst z; rw [Qf hi] at hj; cases hj; cases ho
   ·rw [Qh (Pf z)] at hj; exact hj
  exact S.sep j j' r1 r2 q' hne (out h1 o1) (out h2 o2) o1 o2
end
theorem ym (sb:aH Hf H) (hq:H q=some u) (tW:Hf q=none) (g:bu (upd H q (.frz o u)) (upd Hf q (.frz o u)) H' aj):bu H Hf (upd H' q u) (del aj q) :=
 ⟨fun b z e=>by
   by_cases w:b=q
   ·subst w; rw [ai]; rw [hq] at e; exact e
   ·rw [ak w]; exact g.s b z (by rw [ak w]; exact e),
   fun b z e=>by rw [ck (aB e tW)]; exact g.f b z (by rw [ak (aB e tW)]; exact e),
   fun b z e=>by obtain ⟨w,e2⟩:=je e; rw [ak w]; exact g.b b z e2,fun b h1 h2 h3=>by
   by_cases w:b=q
   ·subst w; exact jd
   ·rw [ck w]; exact g.n b (by rw [ak w]; exact h1) (by rw [ak w]; exact h2) fun xs=>by rw [ak w]; exact h3 xs⟩
theorem E6 {K:ON} (hp:Hf p=some (.frz o u)) (hd:HO.dct u) (h:c8 K Hf a xs):c8 K (del Hf p) a xs:=by
 rcases h with (h | ⟨o',h⟩) | h
 ·exact .inl (.inl (by rw [ck (by rintro rfl; rw [hp] at h; cases h)]; exact h))
 ·exact .inl (.inr ⟨o',by rw [ck (by rintro rfl; rw [hp] at h; cases h; exact hd)]; exact h⟩)
 ·exact .inr h
mutual
theorem Be {K:ON} {Hf:Hp} {p:Addr} {o:Obj} {u:HO} (hp:Hf p=some (.frz o u)) (hd:HO.dct u):∀ (d:D) {v:V},d.nl→Rep K Hf d v→Rep K (del Hf p) d v
 | .non,_,_,h=>by simpa [Rep] using h
 | .bl _,_,_,h=>by simpa [Rep] using h
 | .int _,_,_,h=>by simpa [Rep] using h
 | .str _,_,_,h=>by simpa [Rep] using h
 | .adr _,_,_,h=>by simpa [Rep] using h
 | .tup ds,v,f,h=>by
  simp only [Rep] at h ⊢
  obtain ⟨a,xs,e,h1,h2⟩:=h
  exact ⟨a,xs,e,E6 hp hd h1,pH hp hd ds (by simpa [D.nl] using f) h2⟩
 | .lst _,_,f,_=>by simp [D.nl] at f
 | .fdK _ _,_,f,_=>by simp [D.nl] at f
 | .fdT _ _,_,f,_=>by simp [D.nl] at f
 | .exc C,_,_,h=>by
  simp only [Rep] at h ⊢
  obtain ⟨a,e,h⟩:=h
  exact ⟨a,e,by rw [ck (by rintro rfl; rw [hp] at h; cases h)]; exact h⟩
theorem pH {K:ON} {Hf:Hp} {p:Addr} {o:Obj} {u:HO} (hp:Hf p=some (.frz o u)) (hd:HO.dct u):∀ (ds:List D) {xs:List V},D.qu ds→aq K Hf ds xs→aq K (del Hf p) ds xs
 | [],_,_,h=>by simpa [aq] using h
 | d::ds,xs,f,h=>by
  simp only [aq] at h ⊢
  simp only [D.qu] at f
  obtain ⟨x,r,e,h1,h2⟩:=h
  exact ⟨x,r,e,Be hp hd d f.1 h1,pH hp hd ds f.2 h2⟩
end
section
variable {K:ON}
theorem Bf (S:bz c σ H Hf ρ) (hi:At ρ i r) (hr:r.rA=some d0) (hs:SSet ρ i (.va d0) ρ')
 (h:∀ q u o,H q=some u→Hf q=none→HO.dct u→bz c σ (upd H q (.frz o u)) (upd Hf q (.frz o u)) ρ'→bE c.X e σ (upd H q (.frz o u)) fun v H'=>∃ aj,bu (upd H q (.frz o u)) (upd Hf q (.frz o u)) H' aj∧Q v (upd H' q u)):bE c.X e σ H Q:=by
 obtain ⟨q,u,hq,tW,hd,S1⟩:=S.E5 hi.get hr
 intro aa s I
 obtain ⟨o,I1,nf⟩:=E4 I hq hd
 have S2:=S1 o
 rw [← hs.eq] at S2
 refine bJ (h q u o hq tW hd S2 aa s I1) fun v s' ⟨x,H',I',rv,aj,g,hQ⟩=>⟨x,_,Bc I' (g.s q _ ai) nf,rv,hQ⟩
theorem uD (i) {R:Sl→Prop} (hi:At ρ i r) (hr:r.rA=some d0) (hs:SSet ρ i (.va d0) ρ') (h:dD c e ρ' fun d=>Sd d.nl (R d)):dD c e ρ R:=fun σ H Hf Q S q=>by
 refine Bf S hi hr hs fun a u o ha zL hd S1=>h σ _ _ _ S1 fun r1 v H' aj ⟨fl,rd⟩ rv g=>⟨aj,g,?_⟩
 have hp:=g.f a _ ai
 refine q r1 v _ (del aj a) rd ?_ (ym S.sb ha zL g)
 have hH:H' a=some (.frz o u):=g.s a _ ai
 cases r1 with
 | va d=>exact Be hp hd d fl rv
 | ow ds =>
  obtain ⟨b,xs,rfl,fb,h1,h2,h3⟩:=rv
  have nb:b≠a:=by rintro rfl; rw [show (upd H b (.frz o u)) b=_ from ai] at fb; cases fb
  exact ⟨b,xs,rfl,by rw [ak nb] at fb; exact fb,by rw [ak nb]; exact h1,by rw [ck nb]; exact h2,pH hp hd ds fl h3⟩
 | _=>exact fl.elim
end
noncomputable def Bg (h:Heap) (it d:Addr) (i n ep:Nat):Prop :=
 ∃ (x:Value) (f:Bool) (k v:Value),h.get? it=some { cls:=.type "dict_itemiterator",dict:=none,data:=.fields #[x,.bool f,.ref d,.int i 0,.int n 0,.int ep 0,k,v],slots:= #[] }∧(x=.none∨∃ a:Addr,x=rawInt a)
section
variable {s:Shared} {i n ep:Nat}
theorem pI:Uo "dict_itemiterator"=true:=by decide
theorem rB (h:Q (s.heap.get? a) s):wpAny M A (loadIfAlive a) Q E s:=fun Γ p z=>by
 show Sem.wp M Γ (Sem.loadIfAlive a Sem.pure) _ _ p s
 rw [Sem.wp_loadIfAlive,Sem.wp]
 exact h
theorem Bh (hs:s.heap=h) (hit:h.get? it=some { cls:=.type "dict_itemiterator",dict:=none,data:=.fields #[x,.bool f,.ref d,.int i 0,.int n 0,.int ep 0,k,v],slots:= #[] }) (hx:x=.none∨∃ a:Addr,x=rawInt a)
 (hQ:∀ h',Bg h' it d i n ep→h'.get? h.objs.size=some { cls:=.type "tuple",data:=.seq #[a,b] }→h'.objs.size=h.objs.size+1→(∀ c o,c≠it→h.get? c=some o→h'.get? c=some o)→Q (.ref h.objs.size) { s with heap:=h' }) :
 wpAny (model prog w) A (Uk (.ref it) 6 a b) Q E s:=by
 subst hs
 have lt:it<s.heap.objs.size:=OW hit
 have ne:s.heap.objs.size≠it:=RZ lt
 unfold Uk
 refine OM (wpAny_newTuple ?_)
 have tU:=OU ({ cls:=.type "tuple",data:=.seq [a,b].toArray }:Obj) hit
 have htu:(s.heap.push { cls:=.type "tuple",data:=.seq [a,b].toArray }).get? s.heap.objs.size=some { cls:=.type "tuple",data:=.seq #[a,b] }:=O6 _ rfl
 have hsz:(s.heap.push { cls:=.type "tuple",data:=.seq [a,b].toArray }).objs.size=s.heap.objs.size+1:=Q5 ..
 have hold:∀ c o,s.heap.get? c=some o→(s.heap.push { cls:=.type "tuple",data:=.seq [a,b].toArray }).get? c=some o:=fun c o e=>OU _ e
 generalize (s.heap.push { cls:=.type "tuple",data:=.seq [a,b].toArray })=h2 at tU htu hsz hold ⊢
 have free:wpAny (model prog w) A (do
  let old:=[← field (.ref it) 6,← field (.ref it) (6+1)]
  setField (.ref it) 6 a; setField (.ref it) (6+1) b
  setField (.ref it) 0 (rawInt s.heap.objs.size); setField (.ref it) 1 (.bool false)
  letGo old [.ref s.heap.objs.size]
  pure (Pe s.heap.objs.size)) Q E { s with heap:=h2 }:=by
  refine OM (QK tU rfl (x:=k) rfl (OM (QK tU rfl (x:=v) rfl ?_)))
  refine OM (Rm tU (by simp) fun h3 e3 s3=>?_)
  refine OM (Rm e3 (by simp) fun h4 e4 s4=>?_)
  refine OM (Rm e4 (by simp) fun h5 e5 s5=>?_)
  refine OM (Rm e5 (by simp) fun h6 e6 s6=>?_)
  have keep:∀ c o,c≠it→h2.get? c=some o→h6.get? c=some o:=fun c o hc e=>s6.extBut c o hc (s5.extBut c o hc (s4.extBut c o hc (s3.extBut c o hc e)))
  refine OM (Ue (OO (hQ h6 ⟨_,_,_,_,e6,.inr ⟨_,rfl⟩⟩ (keep _ _ ne htu) ?_ fun c o hc e=>keep c o hc (hold c o e))))
  rw [s6.1,s5.1,s4.1,s3.1,hsz]
 have told:∀ (h3:Heap) (x:Value) (f:Bool),h3.get? it=some { cls:=.type "dict_itemiterator",dict:=none,data:=.fields #[x,.bool f,.ref d,.int i 0,.int n 0,.int ep 0,k,v],slots:= #[] }→(x=.none∨∃ a:Addr,x=rawInt a) →
  QG it h2 h3→Q (.ref s.heap.objs.size) { s with heap:=h3 }:=fun h3 x f e hx' s3 =>
  hQ h3 ⟨x,f,k,v,e,hx'⟩ (s3.extBut _ _ ne htu) (by rw [s3.1,hsz]) fun c o hc e=>s3.extBut c o hc (hold c o e)
 show wpAny _ _ (U8 (.ref it) >>= _) _ _ _
 unfold U8
 refine OM (OM (QK tU rfl (x:=x) rfl ?_))
 rcases hx with rfl | ⟨a0,rfl⟩
 ·exact OO free
 ·show wpAny _ _ (loadIfAlive (a0:Int).toNat >>= _) _ _ _
  refine OM (rB ?_)
  split
  ·exact OO free
  ·refine OM ?_
   refine QK tU rfl (x:=.bool f) rfl ?_
   cases f with
   | true =>
    dsimp only
    rw [if_neg (by decide)]
    exact OO (OO (told h2 _ _ tU (.inr ⟨a0,rfl⟩) (.refl ..)))
   | false =>
    dsimp only
    rw [if_pos (by decide)]
    refine OM (Rm tU (by simp) fun h3 e3 s3=>?_)
    exact OO (OO (told h3 _ true e3 (.inr ⟨a0,rfl⟩) s3))
theorem Bg.Jb (h:Bg s.heap it d i n ep):s.TypeIs (.ref it) "dict_itemiterator":=let ⟨_,_,_,_,e,_⟩:=h; ⟨_,e,rfl⟩
theorem next_item (hit:Bg s.heap it d i es.size ep) (hod:s.heap.get? d=some od) (hdd:od.data=.dict es ep) (hx:es[i]?=some e)
 (hQ:∀ h',Bg h' it d (i+1) es.size ep→h'.get? s.heap.objs.size=some { cls:=.type "tuple",data:=.seq #[e.key,e.val] }→h'.objs.size=s.heap.objs.size+1→(∀ c o,c≠it→s.heap.get? c=some o→h'.get? c=some o)→Q (some (.ref s.heap.objs.size)) { s with heap:=h' }) :
 wpAny (model prog w) A (pyNext (.ref it)) Q E s:=by
 have hT:=hit.Jb
 obtain ⟨x,f,k,v,hat,hxx⟩:=hit
 have hlt:i<es.size:=(RH.mp hx).1
 unfold pyNext
 refine OM (Q6 (QY (name:=OL "__next__") hT RC (Qv RC hT Vd ?_ (Va _))))
 refine OM (OO (OM (OM ?_)))
 first | refine OM (SO hT (OO ?_)) | refine OM (SV hT (OO ?_))
 refine OM (TX hat rfl ?_)
 simp only [pI,if_true]
 show wpAny _ _ (if (Pe d == P4)=true then _ else _) _ _ _
 rw [if_neg (show ¬ (Pe d == P4)=true from O0)]
 refine OM (OO (OM (RT hod hdd ?_)))
 rw [if_neg (by simp)]
 refine OM (OO (OM (RW hod hdd ?_)))
 rw [if_neg (by simp)]
 refine OO ?_
 simp only [show ¬ ((i:Int)<0) from by lia,if_false,Pz,hx]
 refine OM ?_
 first | refine OM (SO hT (OO ?_)) | refine OM (SV hT (OO ?_))
 refine OM (Uy hT ?_)
 show wpAny _ _ (setField (.ref it) 3 (rawInt ((i:Int)+1)) >>= _) _ _ s
 refine OM (Rm hat (by simp) fun h1 e1 s1=>?_)
 have e1':h1.get? it=some { cls:=.type "dict_itemiterator",dict:=none,data:=.fields #[x,.bool f,.ref d,.int ((i+1:Nat):Int) 0,.int es.size 0,.int ep 0,k,v],slots:= #[] }:=by
  have q:((i+1:Nat):Int)=(i:Int)+1:=by lia
  rw [q]; simpa [rawInt] using e1
 have hT1:Shared.TypeIs { s with heap:=h1 } (.ref it) "dict_itemiterator":=⟨_,e1',rfl⟩
 refine OM (Qa ?_)
 refine OM (Uy hT1 (OM (Uy hT1 ?_)))
 show wpAny _ _ (Uk (.ref it) 6 e.key e.val) _ _ { s with heap:=h1 }
 have z1:h1.objs.size=s.heap.objs.size:=s1.1
 refine Bh (s:={ s with heap:=h1 }) rfl e1' hxx fun h2 g2 t2 z2 k2=>?_
 rw [z1] at t2 z2 ⊢
 exact OO ⟨_,rfl,OO (hQ h2 g2 t2 z2 fun c o hc q=>k2 c o hc (s1.extBut c o hc q))⟩
theorem next_end (hh:A.handled=none) (hit:Bg s.heap it d i es.size ep) (hod:s.heap.get? d=some od) (hdd:od.data=.dict es ep) (hx:es.size≤i)
 (hQ:∀ h',Rb it s.heap h'→Q none { s with heap:=h' }):wpAny (model prog w) A (pyNext (.ref it)) Q E s:=by
 have hT:=hit.Jb
 obtain ⟨x,f,k,v,hat,hxx⟩:=hit
 unfold pyNext
 refine OM (Q6 (QY (name:=OL "__next__") hT RC (Qv RC hT Vd ?_ (Va _))))
 refine OM (OO (OM (OM ?_)))
 first | refine OM (SO hT (OO ?_)) | refine OM (SV hT (OO ?_))
 refine OM (TX hat rfl ?_)
 simp only [pI,if_true]
 show wpAny _ _ (if (Pe d == P4)=true then _ else _) _ _ _
 rw [if_neg (show ¬ (Pe d == P4)=true from O0)]
 refine OM (OO (OM (RT hod hdd ?_)))
 rw [if_neg (by simp)]
 refine OM (OO (OM (RW hod hdd ?_)))
 rw [if_neg (by simp)]
 refine OO ?_
 simp only [show ¬ ((i:Int)<0) from by lia,if_false,Pz,Array.getElem?_eq_none hx]
 refine OM ?_
 first | refine OM (SO hT (OO ?_)) | refine OM (SV hT (OO ?_))
 show wpAny _ _ (setField (.ref it) 2 .none >>= _) _ _ s
 refine OM (Sv hat rfl (by simp) (OM ?_))
 simp only [newExc,newTuple]
 refine OM (P6 ?_ (by size_fits))
 refine OM (m:=firstArgMember _ _) (wpAny_of_eq (a:=P4) (by first | rfl | (simp only [firstArgMember]; rfl)) ?_)
 refine P6 ?_ (by size_fits)
 simp only [raiseNew]
 refine OM (wpAny_handled ?_)
 rw [show A.in1.handled=none from hh]
 refine OM (OO (wpAny_throw ?_))
 refine OM (TH (T:="StopIteration") (b:=true) ⟨_,O6 _ rfl,rfl⟩ isSubtype_stop ?_)
 exact OO (hQ _ (((Sj ..).extBut.push _).push _))
theorem E7 (hit:Bg s.heap it d i n ep) (h:∀ h',Bg h' it d i n ep→QG it s.heap h'→Q () { s with heap:=h' }):wpAny (model prog w) A (letOwnedTupleGo tg (.ref it) (.ref a)) Q E s:=by
 have stay:Q () s:=h s.heap hit (.refl ..)
 obtain ⟨x,f,k,v,hat,hxx⟩:=hit
 have part:wpAny (model prog w) A (do
  let o ← load it
  match o.cls,o.data with
  | .type n,.fields vs =>
   if (["enumerate","zip","dict_itemiterator","dict_reverseitemiterator","odict_iterator","itertools.zip_longest","itertools.pairwise"].contains n && vs[0]? == some (rawInt a))=true then do
    rule "for.unpacks-the-owned-tuple"
    updateField it 0 .none
   else pure ()
  | _,_=>pure ()) Q E s:=by
  refine OM (wpAny_load hat ?_)
  dsimp only
  split
  ·refine OM (Ql ?_)
   show wpAny _ _ (setField (.ref it) 0 .none) Q E s
   exact Rm hat (by simp) fun h' e' s'=>h h' ⟨_,_,_,_,e',.inl rfl⟩ s'
  ·exact OO stay
 unfold letOwnedTupleGo
 cases tg <;> first
  | exact OO stay
  | exact part
end
noncomputable def bK:HO→List (V×V)
 | .dK ys=>ys.map fun y=>(kV y.1,y.2)
 | .dT ys=>ys.map fun y=>(.ref y.2.1,y.2.2)
 | _=>[]
theorem wA (h:kU k v=true):RelV (kV k) v:=by
 rcases bH h with ⟨i,t,rfl,rfl⟩ | ⟨x,t,rfl,rfl⟩
 ·exact ⟨t,rfl⟩
 ·exact ⟨t,rfl⟩
theorem cM (ok:bq P w H h d u) (hd:HO.dct u) (ho:h.get? d=some o) :
 o.ExactDict∧∃ es ep,o.data=.dict es ep∧Paired (fun (a:V×V) (e:DictEntry)=>RelV a.1 e.key∧RelV a.2 e.val) (bK u) es.toList∧(d == sysModules)=false∧(bK u).length≤sizeLine:=by
 cases u with
 | dK ys =>
  obtain ⟨z,y,vs,kv,o',es,ep,h1,h2,h3,h4,h5,h6⟩:=ok
  rw [ho] at h1; cases h1
  refine ⟨h2,es,ep,h3,?_,y,by simpa [bK] using z⟩
  show Paired _ (ys.map _) _
  clear h3 h4 h6 z
  generalize es.toList=l at h5 ⊢
  unfold KV at kv
  induction kv generalizing l with
  | nil=>cases h5; exact .nil
  | @cons a b as bs q t ih =>
   cases h5 with
   | cons r t' t''=>exact .cons ⟨by show L2.RelV (kV a.1) _; rw [q.1]; exact wA r,by rw [t']; exact q.2⟩ (ih hd _ t'')
 | dT ys =>
  obtain ⟨z,y,xs,kv,o',es,ep,h1,h2,h3,h4,h5⟩:=ok
  rw [ho] at h1; cases h1
  refine ⟨h2,es,ep,h3,?_,y,by simpa [bK] using z⟩
  rw [h4]
  show Paired _ (ys.map _) _
  clear h3 h4 h5 z
  induction kv with
  | nil=>exact .nil
  | @cons a b as bs q t ih =>
   rw [OS,OS]
   refine .cons ⟨?_,q.2.2⟩ (ih hd)
   show Pe b.2.1=Pe a.2.1
   rw [q.2.1]
 | _=>exact hd.elim
theorem di:∀ {l:List α} {m:List β} {i:Nat} {a:α},Paired F l m→l[i]?=some a→∃ b,m[i]?=some b∧F a b
 | _,_,_,_,.nil,e=>by simp at e
 | _,_,0,_,.cons r _,e=>by simp at e; subst e; exact ⟨_,rfl,r⟩
 | _,_,i+1,a,.cons _ t,e=>by
  obtain ⟨b,h1,h2⟩:=di (i:=i) t (by simpa using e)
  exact ⟨b,by simpa using h1,h2⟩
noncomputable def N5 (d:Addr) (o:Obj) (u:HO):It :=
 ⟨fun i H=>H d=some (.frz o u)∧i<(bK u).length,fun i H x H'=>∃ p kv,(bK u)[i]?=some kv∧x=.ref p∧H p=none∧H'=upd H p (.tup [kv.1,kv.2]),fun i H=>H d=some (.frz o u)∧(bK u).length≤i⟩
theorem yo:entryFor table "dict_itemiterator.__iter__"=some Builtin.«dict_keyiterator.__iter__» :=entryFor_alias (id':="dict_keyiterator.__iter__") (by kernel_rfl) rfl (by decide +kernel) (by kernel_rfl)
theorem uE {P:Program} {w:World} {K:ON} {tg:Expr} {d it:Addr} {o:Obj} {u:HO} {es:Array DictEntry} {ep:Nat} (hd:HO.dct u) (hod:o.data=.dict es ep) (hne:it≠d) (hes:es.size=(bK u).length) :
 Turn P w K tg (N5 d o u) [it] it (fun i h=>Bg h it d i es.size ep) where
 mem:=by simp
 obj:=fun i h st b hb=>by
  have e:b=it:=by simpa using hb
  subst e
  obtain ⟨x,f,k,v,e,_⟩:=st
  exact ⟨_,e,fun v z=>by
   have z':Uj _=Data.cell v:=z
   cases z'⟩
 keep:=fun i h h' st k=>by
  obtain ⟨x,f,kk,v,e,hx⟩:=st
  exact ⟨x,f,kk,v,k it (by simp) _ e,hx⟩
 item:=by
  intro X hP hw hK hc i aa s σ H E I hf st hg
  subst hP hw hK
  obtain ⟨hH,hi⟩:=hg
  obtain ⟨f0,f1,f2,f3,f4,f5⟩:=hf it (by simp)
  obtain ⟨ho,ok⟩:=(show bq X.prog X.w H s.heap d (.frz o u) from I.hok d _ hH)
  obtain ⟨_,es',ep',e1,e2,_⟩:=cM ok hd ho
  rw [hod] at e1; cases e1
  obtain ⟨e,he,re⟩:=di e2 (Pc hi)
  have he':es[i]?=some e:=by simpa using he
  refine next_item st ho hod he' fun h1 g1 t1 z1 k1=>?_
  have hil:it<s.heap.objs.size:=by
   obtain ⟨_,_,_,_,q,_⟩:=st
   exact OW q
  have Hp:H s.heap.objs.size=none:=I.hok.fresh (OP _)
  have hit0:it≠s.heap.objs.size:=Pk hil
  generalize hkv:(bK u)[i]=kv at re
  have IA:Inv X aa σ (upd H s.heap.objs.size (.tup [kv.1,kv.2])) { s with heap:=s.heap.push { cls:=.type "tuple",data:=.seq #[e.key,e.val] },toks:=s.toks } :=
   I.laid (a:=s.heap.objs.size) (o:=.tup [kv.1,kv.2]) (fun _ _ q=>OU _ q) (OP _) ⟨by show 2≤sizeLine; decide,[e.key,e.val],.cons re.1 (.cons re.2 .nil),_,O6 _ rfl,rfl,0,rfl⟩
  have g0:upd H s.heap.objs.size (.tup [kv.1,kv.2]) it=none:=by rw [ak hit0]; exact f0
  have I1:Inv X aa σ (upd H s.heap.objs.size (.tup [kv.1,kv.2])) { s with heap:=h1,toks:=s.toks }:=IA.turned (fun b o hb q=>by
   by_cases z:b=s.heap.objs.size
   ·subst z
    rw [O6 _ rfl] at q; cases q; exact t1
   ·have lt:b<s.heap.objs.size:=by
     have:=OW q
     rw [Q5] at this
     exact Nat.lt_of_le_of_ne (Nat.le_of_lt_succ this) z
    refine k1 b o hb ?_
    rw [Heap.get?_push_ne _ _ _ z] at q; exact q) g0 f1 f3 f4 f5
  refine ⟨_,rfl,E7 (s:={ s with heap:=h1 }) g1 fun h2 g2 s2=>?_⟩
  refine ⟨.ref s.heap.objs.size,_,I1.turned (t':=s.toks) (fun b o hb q=>(s2.2 b hb).trans q) g0 f1 f3 f4 f5,rfl,⟨_,kv,by rw [Pc hi,hkv],rfl,Hp,rfl⟩,g2,fun b hb=>?_⟩
  have e:b=it:=by simpa using hb
  rw [e]; exact g0
 done:=by
  intro X hP hw hK hc i aa s σ H E I hf st hg
  subst hP hw hK
  obtain ⟨hH,hi⟩:=hg
  obtain ⟨f0,f1,f2,f3,f4,f5⟩:=hf it (by simp)
  obtain ⟨ho,ok⟩:=(show bq X.prog X.w H s.heap d (.frz o u) from I.hok d _ hH)
  exact next_end (I.ok.hd hc) st ho hod (by lia) fun h' eb=>⟨rfl,I.turned (t':=s.toks) (fun b o hb e=>eb b o hb e) f0 f1 f3 f4 f5⟩
 self:=by
  intro A i s Q E st h
  have hT:=st.Jb
  refine UQ hT Vg (Qv Vg hT yo ?_ (F.args_dict_itemiterator_iter_1 _))
  show wpAny _ _ (ret (.ref it)) _ _ s
  exact OO ⟨_,rfl,"dict_itemiterator",_,hT,RC.lookup,h⟩
section
theorem rC (d) (hd:(d == sysModules)=false) :
 MeetsIn prog w (Builtin.«dict.items» ⟨[.ref d],[]⟩) (fun _ R s=>s.TypeIs (.ref d) "dict"∧R (.ok (.ret (.ref s.heap.objs.size))) { s with heap:=s.heap.push { cls:=.type "dict_items",data:=.fields #[.ref d] } }) :=
 .of_wp fun A R s ⟨hT,h⟩=>by
  unfold Builtin.«dict.items»
  refine OM ?_
  unfold Builtin.Dict.noArgs
  refine OM (wpAny_notOrdered_dict hT (show wpAny _ _ (pure d) _ _ s from OO ?_))
  show wpAny _ _ (Te d >>= _) _ _ s
  unfold Te
  rw [if_neg (by rw [hd]; exact O0)]
  exact OM (OO (OM (P6 (OO ⟨_,rfl,h⟩))))
theorem yp (hv:s.heap.IsItemsView v d) (hod:s.heap.get? d=some od) (hdd:od.data=.dict es ep)
 (hQ:Q (.ref s.heap.objs.size) { s with heap:=s.heap.push { cls:=.type "dict_itemiterator",data:=.fields #[.none,.bool false,.ref d,.int 0 0,.int es.size 0,.int ep 0,.none,.none] } }) :
 wpAny (model prog w) A (pyIter (.ref v)) Q E s:=by
 obtain ⟨ov,hov,hcv,hdv⟩:=id hv
 refine UQ hv.typeIs F.slot_dict_items_iter (Qv F.slot_dict_items_iter hv.typeIs F.entry_dict_items_iter ?_ (F.args_dict_items_iter_1 _))
 unfold Builtin.«dict_items.__iter__»
 refine OM (OO (OM ?_))
 unfold Builtin.Dict_items.dictOf
 refine OM (QK hov hdv (x:=.ref d) rfl (OO (OM ?_)))
 unfold Builtin.Dict_items.newIterator
 refine OM (RT hod hdd (OM (RW hod hdd ?_)))
 simp only [pI,if_true]
 refine P6 (OO ⟨_,rfl,"dict_itemiterator",_,⟨_,O6 _ rfl,rfl⟩,RC.lookup,?_⟩)
  (by simp only [sizeOk,U9,O9,Py,Pr,QD,sizeLine_eq]; lia)
 simpa [rawInt,U9] using hQ
end
noncomputable def yq:Key→D | .inl i=>.int i | .inr x=>.str x
noncomputable def D.pairs:D→Option (List D)
 | .fdK ks ds=>some (Ub (fun k d=>D.tup [yq k,d]) ks ds)
 | .fdT ks ds=>some (Ub (fun k d=>D.tup [.tup (k.map yq),d]) ks ds)
 | _=>none
section
variable {K:ON} {Hf:Hp}
theorem rD:Rep K Hf (yq k) (kV k):=by
 cases k with
 | inl i=>exact az.mpr rfl
 | inr x=>exact fO.mpr rfl
theorem nW:∀ {ks:List Key},aq K Hf (ks.map yq) (ks.map kV)
 | []=>aA.mpr rfl
 | k::ks=>.cons rD nW
noncomputable def nX (K:ON) (Hf:Hp) (d:D) (kv:V×V):Prop:=∃ k e,d=.tup [k,e]∧Rep K Hf k kv.1∧Rep K Hf e kv.2
theorem wB:∀ {ys:List (Key×V)} {vs:List D},aq K Hf vs (ys.map (·.2))→Paired (nX K Hf) (Ub (fun k d=>D.tup [yq k,d]) (ys.map (·.1)) vs) (ys.map fun y=>(kV y.1,y.2))
 | [],vs,h=>by
  cases vs with
  | nil=>exact .nil
  | cons d ds=>obtain ⟨x,r,e,_⟩:=aD.mp h; cases e
 | y::ys,vs,h=>by
  cases vs with
  | nil=>rw [aA] at h; cases h
  | cons d ds =>
   obtain ⟨x,r,e,h1,h2⟩:=aD.mp h
   cases e
   exact .cons ⟨_,_,rfl,rD,h1⟩ (wB h2)
theorem wC:∀ {ys:List (List Key×Addr×V)} {vs:List D},(∀ y∈ys,c8 K Hf y.2.1 (y.1.map kV))→aq K Hf vs (ys.map (·.2.2))→Paired (nX K Hf) (Ub (fun k d=>D.tup [.tup (k.map yq),d]) (ys.map (·.1)) vs) (ys.map fun y=>(.ref y.2.1,y.2.2))
 | [],vs,_,h=>by
  cases vs with
  | nil=>exact .nil
  | cons d ds=>obtain ⟨x,r,e,_⟩:=aD.mp h; cases e
 | y::ys,vs,hk,h=>by
  cases vs with
  | nil=>rw [aA] at h; cases h
  | cons d ds =>
   obtain ⟨x,r,e,h1,h2⟩:=aD.mp h
   cases e
   exact .cons ⟨_,_,rfl,aI.mpr ⟨_,_,rfl,hk y O1,nW⟩,h1⟩ (wC (fun z hz=>hk z (O2 _ hz)) h2)
theorem yr (hp:d.pairs=some ds) (h:Rep K Hf d v):∃ a o u,v=.ref a∧Hf a=some (.frz o u)∧HO.dct u∧Paired (nX K Hf) ds (bK u):=by
 cases d with
 | fdK ks vs =>
  cases hp
  obtain ⟨a,ys,o,rfl,h1,h2,h3⟩:=i7.mp h
  subst h2
  exact ⟨a,o,_,rfl,h1,trivial,wB h3⟩
 | fdT ks vs =>
  cases hp
  obtain ⟨a,ys,o,rfl,h1,h2,h3,h4⟩:=i8.mp h
  subst h2
  exact ⟨a,o,_,rfl,h1,trivial,wC h3 h4⟩
 | _=>cases hp
theorem uF {ds:List D} {a:Addr} {o:Obj} {u:HO} (h:Hf a=some (.frz o u)) (hp:Paired (nX K Hf) ds (bK u)):jJ K (N5 a o u) ds Hf where
 go:=fun i d H aQ s1 s2 e=>by
  obtain ⟨kv,ekv,k,dd,rfl,r1,r2⟩:=di hp e
  refine ⟨⟨s2 _ _ (s1 _ _ h),(OZ.mp ekv).1⟩,fun x H' ⟨p,kv',e1,e2,e3,e4⟩=>?_⟩
  rw [ekv] at e1; cases e1
  subst e2 e4
  have g:=bu.new s2 e3 (o:=.tup [kv.1,kv.2])
  exact ⟨upd aQ p (.tup [kv.1,kv.2]),g,aI.mpr ⟨p,_,rfl,.inl (.inl ai),.cons (Rep.mono (s1.trans g.f) _ r1) (.cons (Rep.mono (s1.trans g.f) _ r2) (aA.mpr rfl))⟩⟩
 stop:=fun i H aQ s1 s2 e=>⟨s2 _ _ (s1 _ _ h),by rw [← Qj hp]; exact e⟩
end
section
variable {K:ON}
end
end EV
namespace SR
open PySem PyProof.Rows
noncomputable def cU:Bool→Keyed→Array Keyed→Nat→Nat→Nat→StateT SortSt Sem (Option Nat):=sortPriv% PySem.Builtin.gallop
noncomputable def cH:Nat→StateT SortSt Sem Unit:=sortPriv% PySem.Builtin.setMinGallop
noncomputable def dX (left:Bool) (key:Keyed) (arr:Array Keyed) (base i:Nat):StateT SortSt Sem (Option Bool):=do
 let x ← elem' arr (base+i)
 if left then lt' x key else return (← lt' key x).map (!·)
noncomputable abbrev rE:=Option (Option Nat)×Nat×Nat
noncomputable def lN (bey:Nat→StateT SortSt Sem (Option Bool)) (n lo hi:Nat):StateT SortSt Sem (Option Nat):=do
 let __s ← forIn [0:n] ((none,lo,hi):rE) fun _ __s =>
  if __s.snd.fst≥__s.snd.snd then pure (Qq (none,__s.snd.fst,__s.snd.snd))
  else do
   let __x ← bey (__s.snd.fst+(__s.snd.snd - __s.snd.fst) / 2)
   match __x with
   | some more=>if more=true then pure (PV (none,__s.snd.fst+(__s.snd.snd - __s.snd.fst) / 2+1,__s.snd.snd)) else pure (PV (none,__s.snd.fst,__s.snd.fst+(__s.snd.snd - __s.snd.fst) / 2))
   | _=>pure (Qq (some none,__s.snd.fst,__s.snd.snd))
 match __s.fst with
 | some r=>pure r
 | none=>pure (some __s.snd.snd)
noncomputable def Bj (bey:Nat→StateT SortSt Sem (Option Bool)) (n hint maxofs:Nat):StateT SortSt Sem rE :=
 forIn [0:n] ((none,0,1):rE) fun _ __s =>
  if __s.snd.snd≥maxofs then pure (Qq (none,__s.snd.fst,__s.snd.snd))
  else do
   let __x ← bey (hint+__s.snd.snd)
   match __x with
   | some more=>if (!more)=true then pure (Qq (none,__s.snd.fst,__s.snd.snd)) else pure (PV (none,__s.snd.snd,2 * __s.snd.snd+1))
   | _=>pure (Qq (some none,__s.snd.fst,__s.snd.snd))
noncomputable def Bk (bey:Nat→StateT SortSt Sem (Option Bool)) (n hint maxofs:Nat):StateT SortSt Sem rE :=
 forIn [0:n] ((none,0,1):rE) fun _ __s =>
  if __s.snd.snd≥maxofs then pure (Qq (none,__s.snd.fst,__s.snd.snd))
  else do
   let __x ← bey (hint - __s.snd.snd)
   match __x with
   | some found=>if found=true then pure (Qq (none,__s.snd.fst,__s.snd.snd)) else pure (PV (none,__s.snd.snd,2 * __s.snd.snd+1))
   | _=>pure (Qq (some none,__s.snd.fst,__s.snd.snd))
local macro_rules | `(tactic| walk_at "dl gallop")=>do
 let i:=Ru (Rj `PySem.Builtin.List.W1All `PySem.Builtin.gallop)
 `(tactic| delta $i)
theorem uG (left) (key) (arr) (base n hint):cU left key arr base n hint=(do
 let __x ← dX left key arr base hint
 match __x with
 | some right =>
  if right=true then do
   let __s ← Bj (dX left key arr base) n hint (n - hint)
   match __s.fst with
   | some r=>pure r
   | none=>lN (dX left key arr base) n (hint+__s.snd.fst+1) (hint+min __s.snd.snd (n - hint))
  else do
   let __s ← Bk (dX left key arr base) n hint (hint+1)
   match __s.fst with
   | some r=>pure r
   | none=>lN (dX left key arr base) n (hint+1 - min __s.snd.snd (hint+1)) (hint - __s.snd.fst)
 | _=>pure none):=by
 unfold cU
 walk_at "dl gallop"
 unfold Bj Bk lN dX
 dsimp only
 congr 1
 funext x
 cases x with
 | none=>rfl
 | some right =>
  dsimp only
  cases right with
  | true =>
   rw [if_pos rfl,if_pos rfl]
   congr 1
   funext c
   obtain ⟨r,l,o⟩:=c
   cases r with
   | some r=>rfl
   | none =>
    dsimp only
    congr 1
    funext c
    obtain ⟨r,l,o⟩:=c
    cases r <;> rfl
  | false =>
   rw [if_neg O0,if_neg O0]
   congr 1
   funext c
   obtain ⟨r,l,o⟩:=c
   cases r with
   | some r=>rfl
   | none =>
    dsimp only
    congr 1
    funext c
    obtain ⟨r,l,o⟩:=c
    cases r <;> rfl
section
noncomputable def iY (prog:Program) (w:World) (A:Around) (s:Shared) (κ:SortKind) (rk:Keyed→Int) (L:List Keyed):Prop :=
 ∀ x∈L,∀ y∈L,∀ (E:Value→Shared→Prop) (Q:Bool→Shared→Prop),Q (decide (rk x<rk y)) s→wpAny (model prog w) A (keyLt' κ x.1 y.1) Q E s
noncomputable def R (rk:Keyed→Int) (xs:Array Keyed) (i:Nat):Int:=match xs[i]? with | some p=>rk p | none=>0
theorem dY (h:xs[i]?=some p):R rk xs i=rk p:=by unfold R; rw [h]
theorem b9 (h:xs[i]?=ys[j]?):R rk xs i=R rk ys j:=by unfold R; rw [h]
theorem lO {st:SortSt} (hC:iY prog w A s κ rk L) (hk:kindOf st=κ) (hx:x∈L) (hy:y∈L) (h:Q (some (decide (rk x<rk y))) st):wpS (model prog w) A E s (lt' x y) Q st:=by
 rw [lt'_eq]
 refine OQ (Qt ?_)
 rw [hk]
 refine OQ (Rg (Q6 (hC x hx y hy _ _ ⟨rfl,?_⟩)))
 exact OR h
theorem aR {st:SortSt} (hi:arr[i]?=some p) (h:Q p st):wpS (model prog w) A E s (elem' arr i) Q st:=by
 rw [elem'_eq,hi]; exact OR h
theorem yt {st:SortSt} (hC:iY prog w A s κ rk L) (hk:kindOf st=κ) (hi:(arrOf st)[i]?=some p) (hj:(arrOf st)[j]?=some q) (hp:p∈L) (hq:q∈L)
 (h:Q (some (decide (R rk (arrOf st) i<R rk (arrOf st) j))) st):wpS (model prog w) A E s (ltAt' i j) Q st:=by
 rw [ltAt'_eq]
 refine OQ (Qt ?_)
 show wpS _ _ _ _ (do let x ← elem' (arrOf st) i; let y ← elem' (arrOf st) j; lt' x y) Q st
 refine OQ (aR hi (OQ (aR hj (lO hC hk hp hq ?_))))
 rw [dY hi,dY hj] at h
 exact h
theorem uH {st:SortSt} (hC:iY prog w A s κ rk L) (hk:kindOf st=κ) (hkey:key∈L) (hi:arr[base+i]?=some p) (hp:p∈L)
 (hb:(if left=true then rk p<rk key else rk p≤rk key)↔i<k) (h:Q (some (decide (i<k))) st):wpS (model prog w) A E s (dX left key arr base i) Q st:=by
 unfold dX
 refine OQ (aR hi ?_)
 cases left with
 | true =>
  simp only [if_true] at hb ⊢
  refine lO hC hk hp hkey ?_
  rw [decide_eq_decide.mpr hb]; exact h
 | false =>
  simp only [PR,if_false] at hb ⊢
  refine OQ (lO hC hk hkey hp (OR ?_))
  have e:(!decide (rk key<rk p))=decide (i<k):=by
   rw [← decide_not]; exact decide_eq_decide.mpr (by rw [← hb]; omega)
  rw [Option.map_some,e]; exact h
theorem lP {st:SortSt} {n lo hi k:Nat} (hb:∀ i,i<n→∀ (Q:Option Bool→SortSt→Prop),Q (some (decide (i<k))) st→wpS (model prog w) A E s (bey i) Q st)
 (h1:lo≤k) (h2:k≤hi) (h3:hi≤n) (h:Q (some k) st):wpS (model prog w) A E s (lN bey n lo hi) Q st:=by
 unfold lN
 refine OQ (Px (P7 (I:=fun x c st'=>st'=st∧∃ l r,c=(none,l,r)∧l≤k∧k≤r∧r≤n∧r - l≤n - x) (Q:=fun c st'=>st'=st∧∃ l,c=(none,l,k)) ?step ?fin ⟨rfl,lo,hi,rfl,h1,h2,h3,by omega⟩) ?post)
 case fin =>
  rintro c st' ⟨rfl,l,r,rfl,a1,a2,a3,a4⟩
  have:r=k:=by omega
  subst this
  exact ⟨rfl,l,rfl⟩
 case step =>
  rintro x c st' _ hx ⟨rfl,l,r,rfl,a1,a2,a3,a4⟩
  dsimp only
  by_cases hge:l≥r
  ·rw [if_pos hge]
   have:r=k:=by omega
   subst this
   exact OR ⟨rfl,l,rfl⟩
  ·rw [if_neg hge]
   refine OQ (hb _ (by omega) _ ?_)
   dsimp only
   by_cases hm:l+(r - l) / 2<k
   ·rw [decide_eq_true hm,if_pos rfl]
    exact OR ⟨rfl,_,_,rfl,by omega,by omega,by omega,by omega⟩
   ·rw [decide_eq_false hm,if_neg O0]
    exact OR ⟨rfl,_,_,rfl,by omega,by omega,by omega,by omega⟩
 case post =>
  rintro c st' ⟨rfl,l,rfl⟩
  exact OR h
theorem fP {st:SortSt} (hC:iY prog w A s κ rk L) (hk:kindOf st=κ) (hkey:key∈L) (harr:∀ i,i<n→∃ p,arr[base+i]?=some p∧p∈L)
 (hb:∀ i,i<n→((if left=true then R rk arr (base+i)<rk key else R rk arr (base+i)≤rk key)↔i<k)) (hkn:k≤n) (hh:hint<n) (h:Q (some k) st):wpS (model prog w) A E s (cU left key arr base n hint) Q st:=by
 have bey:∀ i,i<n→∀ (Q:Option Bool→SortSt→Prop),Q (some (decide (i<k))) st→wpS (model prog w) A E s (dX left key arr base i) Q st:=fun i hi Q hQ=>by
  obtain ⟨p,e,hp⟩:=harr i hi
  refine uH hC hk hkey e hp ?_ hQ
  have:=hb i hi
  rw [dY e] at this
  exact this
 rw [uG]
 refine OQ (bey hint hh _ ?_)
 dsimp only
 by_cases hr:hint<k
 ·rw [decide_eq_true hr,if_pos rfl]
  unfold Bj
  refine OQ (Px (P7 (I:=fun x c st'=>st'=st∧∃ l o,c=(none,l,o)∧hint+l<k∧x<o) (Q:=fun c st'=>st'=st∧∃ l o,c=(none,l,o)∧hint+l<k∧(k≤hint+o∨n - hint≤o)) ?step ?fin ⟨rfl,0,1,rfl,hr,by omega⟩) ?post)
  case fin =>
   rintro c st' ⟨rfl,l,o,rfl,a1,a2⟩
   exact ⟨rfl,l,o,rfl,a1,.inr (by omega)⟩
  case step =>
   rintro x c st' _ hx ⟨rfl,l,o,rfl,a1,a2⟩
   dsimp only
   by_cases hge:o≥n - hint
   ·rw [if_pos hge]; exact OR ⟨rfl,l,o,rfl,a1,.inr hge⟩
   ·rw [if_neg hge]
    refine OQ (bey _ (by omega) _ ?_)
    dsimp only
    by_cases hm:hint+o<k
    ·rw [decide_eq_true hm]; simp only [Sz,PR,if_false]
     exact OR ⟨rfl,o,2 * o+1,rfl,hm,by omega⟩
    ·rw [decide_eq_false hm]; simp only [Bool.not_false,if_true]
     exact OR ⟨rfl,l,o,rfl,a1,.inl (by omega)⟩
  case post =>
   rintro c st' ⟨rfl,l,o,rfl,a1,a2⟩
   dsimp only
   exact lP bey (by omega) (by omega) (by omega) h
 ·rw [decide_eq_false hr,if_neg O0]
  unfold Bk
  refine OQ (Px (P7 (I:=fun x c st'=>st'=st∧∃ l o,c=(none,l,o)∧l≤hint∧k≤hint - l∧x<o) (Q:=fun c st'=>st'=st∧∃ l o,c=(none,l,o)∧l≤hint∧k≤hint - l∧(hint+1≤k+o∨hint+1≤o)) ?step ?fin ⟨rfl,0,1,rfl,by omega,by omega,by omega⟩) ?post)
  case fin =>
   rintro c st' ⟨rfl,l,o,rfl,a1,a2,a3⟩
   exact ⟨rfl,l,o,rfl,a1,a2,.inr (by omega)⟩
  case step =>
   rintro x c st' _ hx ⟨rfl,l,o,rfl,a1,a2,a3⟩
   dsimp only
   by_cases hge:o≥hint+1
   ·rw [if_pos hge]; exact OR ⟨rfl,l,o,rfl,a1,a2,.inr hge⟩
   ·rw [if_neg hge]
    refine OQ (bey _ (by omega) _ ?_)
    dsimp only
    by_cases hm:hint - o<k
    ·rw [decide_eq_true hm,if_pos rfl]
     exact OR ⟨rfl,l,o,rfl,a1,a2,.inl (by omega)⟩
    ·rw [decide_eq_false hm,if_neg O0]
     exact OR ⟨rfl,o,2 * o+1,rfl,by omega,by omega,by omega⟩
  case post =>
   rintro c st' ⟨rfl,l,o,rfl,a1,a2,a3⟩
   dsimp only
   exact lP bey (by omega) (by omega) (by omega) h
end
noncomputable def lQ:Array Keyed→Array Keyed→StateT SortSt Sem (Array Keyed):=sortPriv% PySem.Builtin.mergeLo
theorem fQ {st:SortSt} (h:Q () (Rc (kindOf st) (arrOf st) (pendingOf st) g (failedOf st))):wpS M A E s (cH g) Q st :=
 QF (f:=fun st=>Rc (kindOf st) (arrOf st) (pendingOf st) g (failedOf st)) h
section
variable {rk:Keyed→Int} {a b:Array Keyed}
noncomputable def Bl (rk:Keyed→Int) (xs:List Keyed):Prop:=xs.Pairwise fun p q=>rk p≤rk q
theorem wD (h:xs.length≤1):Bl rk xs:=by
 cases xs with
 | nil=>exact Sk
 | cons x xs =>
  cases xs with
  | nil=>exact RJ _ _
  | cons y ys=>simp at h
noncomputable def Res (rk:Keyed→Int) (a b r:Array Keyed):Prop:=r.toList.Perm (a.toList++b.toList)∧Bl rk r.toList
structure WL (rk:Keyed→Int) (a b:Array Keyed) (out:Array Keyed) (ia ib:Nat):Prop where
 pa:ia≤a.size
 pb:ib≤b.size
 pm:out.toList.Perm (a.toList.take ia++b.toList.take ib)
 sr:Bl rk out.toList
 ha:∀ p∈out.toList,∀ (j:Nat) (q:Keyed),ia≤j→a[j]?=some q→rk p≤rk q
 hb:∀ p∈out.toList,∀ (j:Nat) (q:Keyed),ib≤j→b[j]?=some q→rk p≤rk q
noncomputable def Up (rk:Keyed→Int) (a:Array Keyed):Prop:=∀ (i j:Nat) (p q:Keyed),i≤j→a[i]?=some p→a[j]?=some q→rk p≤rk q
theorem jL (h:Up rk a):Bl rk a.toList:=by
 unfold Bl
 rw [Uq]
 intro i j hi hj hij
 exact h i j _ _ (Q9 hij) (by simp at hi ⊢) (by simp at hj ⊢)
theorem Jc (h:Bl rk a.toList):Up rk a:=fun i j p q hij e1 e2=>by
 rw [← PK] at e1 e2
 obtain ⟨h1,r1⟩:=OZ.mp e1
 obtain ⟨h2,r2⟩:=OZ.mp e2
 subst r1 r2
 rcases Nat.lt_or_eq_of_le hij with z | z
 ·exact (Uq.mp h) i j h1 h2 z
 ·subst z; exact Qk _
theorem bL (h1:Bl rk xs) (h2:Bl rk ys) (h3:∀ p∈xs,∀ q∈ys,rk p≤rk q):Bl rk (xs++ys):=List.pairwise_append.mpr ⟨h1,h2,h3⟩
theorem d8 (xs:Array Keyed) (i j):(xs.extract i j).toList=(xs.toList.take j).drop i:=by
 rw [List.drop_take]; simp [List.extract_eq_take_drop]
theorem ic (xs:Array Keyed) (i):(xs.extract i xs.size).toList=xs.toList.drop i:=by
 rw [d8,Sb (by simp)]
theorem jj (xs:Array Keyed) (i):(xs.extract i i).toList=[]:=by
 rw [d8,List.drop_take]; simp
theorem wF {xs:Array Keyed} (h:q∈(xs.extract i j).toList):∃ k,i≤k∧k<j∧xs[k]?=some q:=by
 obtain ⟨n,hn⟩:=RN h
 rw [PK,Td] at hn
 split at hn
 ·rename_i z
  exact ⟨i+n,by lia,by lia,hn⟩
 ·cases hn
theorem WL.jM (h:WL rk a b out ia ib) (ua:Up rk a) (e:ib=b.size):Res rk a b (out++a.extract ia a.size++b.extract ib b.size):=by
 subst e
 have e0:(out++a.extract ia a.size++b.extract b.size b.size).toList=out.toList++a.toList.drop ia:=by
  rw [Qd,Qd,ic,ic,List.drop_of_length_le (show b.toList.length≤b.size by simp),P1]
 refine ⟨?_,?_⟩
 ·rw [e0]
  have hp:=h.pm
  rw [Sb (show b.toList.length≤b.size by simp)] at hp
  refine (hp.append_right _).trans ?_
  have:(a.toList.take ia++b.toList++a.toList.drop ia).Perm (a.toList.take ia++a.toList.drop ia++b.toList):=by
   rw [Pd,Pd]
   exact RL _ Rk
  rw [Qz] at this
  exact this
 ·rw [e0]
  refine bL h.sr ((jL ua).sublist (UY _ _)) fun p hp q hq=>?_
  obtain ⟨n,hn⟩:=RN hq
  rw [RS] at hn
  exact h.ha p hp (ia+n) q (by lia) (by rw [← PK]; exact hn)
theorem WL.jN (h:WL rk a b out ia ib) (ub:Up rk b) (e:ia=a.size):Res rk a b (out++a.extract ia a.size++b.extract ib b.size):=by
 subst e
 have e0:(out++a.extract a.size a.size++b.extract ib b.size).toList=out.toList++b.toList.drop ib:=by
  rw [Qd,Qd,ic,ic,List.drop_of_length_le (show a.toList.length≤a.size by simp),P1]
 refine ⟨?_,?_⟩
 ·rw [e0]
  have hp:=h.pm
  rw [Sb (show a.toList.length≤a.size by simp)] at hp
  refine (hp.append_right _).trans ?_
  rw [Pd,Qz]
 ·rw [e0]
  refine bL h.sr ((jL ub).sublist (UY _ _)) fun p hp q hq=>?_
  obtain ⟨n,hn⟩:=RN hq
  rw [RS] at hn
  exact h.hb p hp (ib+n) q (by lia) (by rw [← PK]; exact hn)
theorem WL.last (h:WL rk a b out ia ib) (ub:Up rk b) (e:ia+1=a.size) (hl:∀ (j:Nat) (p q:Keyed),a[ia]?=some p→b[j]?=some q→rk q≤rk p) :
 Res rk a b (out++b.extract ib b.size++a.extract ia a.size):=by
 have e0:(out++b.extract ib b.size++a.extract ia a.size).toList=out.toList++(b.toList.drop ib++a.toList.drop ia):=by
  rw [Qd,Qd,ic,ic,Pd]
 refine ⟨?_,?_⟩
 ·rw [e0]
  refine (h.pm.append_right _).trans ?_
  have:(a.toList.take ia++b.toList.take ib++(b.toList.drop ib++a.toList.drop ia)).Perm (a.toList.take ia++a.toList.drop ia++(b.toList.take ib++b.toList.drop ib)):=by
   rw [Pd,Pd]
   refine RL _ ?_
   rw [← Pd]
   exact Rk
  rw [Qz,Qz] at this
  exact this
 ·rw [e0]
  have ml:∀ q∈b.toList.drop ib,∃ j,ib≤j∧b[j]?=some q:=fun q hq=>by
   obtain ⟨n,hn⟩:=RN hq
   rw [RS] at hn
   exact ⟨ib+n,by lia,by rw [← PK]; exact hn⟩
  have ml2:∀ q∈a.toList.drop ia,a[ia]?=some q:=fun q hq=>by
   obtain ⟨n,hn⟩:=RN hq
   rw [RS] at hn
   have:=(OZ.mp hn).1
   have hn0:n=0:=by simp at this; lia
   subst hn0
   rw [← PK]; exact hn
  refine bL h.sr (bL ((jL ub).sublist (UY _ _)) ?_ fun p hp q hq=>?_) fun p hp q hq=>?_
  ·exact wD (by simp; lia)
  ·obtain ⟨j,_,e1⟩:=ml p hp
   exact hl j q p (ml2 q hq) e1
  ·rcases Pg.mp hq with z | z
   ·obtain ⟨j,h1,e1⟩:=ml q z
    exact h.hb p hp j q h1 e1
   ·exact h.ha p hp ia q (OP _) (ml2 q z)
theorem cV {xs:Array Keyed} (h:xs[i]?=some p):xs.toList.take (i+1)=xs.toList.take i++[p]:=by
 rw [UW,PK,h]; rfl
theorem WL.gv {out:Array Keyed} {ia ib:Nat} {p:Keyed} (h:WL rk a b out ia ib) (ub:Up rk b) (e:b[ib]?=some p) (hl:∀ (j:Nat) (q:Keyed),ia≤j→a[j]?=some q→rk p≤rk q):WL rk a b (out.push p) ia (ib+1) where
 pa:=h.pa
 pb:=(RH.mp e).1
 pm:=by
  rw [PB,cV e,← Pd]
  exact h.pm.append_right _
 sr:=by
  rw [PB]
  exact bL h.sr (RJ _ _) fun q hq r hr=>by
   rw [O3.mp hr]; exact h.hb q hq ib p (OP _) e
 ha:=fun q hq j r hj er=>by
  rw [PB] at hq
  rcases Pg.mp hq with z | z
  ·exact h.ha q z j r hj er
  ·rw [O3.mp z]; exact hl j r hj er
 hb:=fun q hq j r hj er=>by
  rw [PB] at hq
  rcases Pg.mp hq with z | z
  ·exact h.hb q z j r (by lia) er
  ·rw [O3.mp z]; exact ub ib j p r (by lia) e er
theorem WL.gw {out:Array Keyed} {ia ib:Nat} {p:Keyed} (h:WL rk a b out ia ib) (ua:Up rk a) (e:a[ia]?=some p) (hl:∀ (j:Nat) (q:Keyed),ib≤j→b[j]?=some q→rk p≤rk q):WL rk a b (out.push p) (ia+1) ib where
 pa:=(RH.mp e).1
 pb:=h.pb
 pm:=by
  rw [PB,cV e]
  refine (h.pm.append_right _).trans ?_
  rw [Pd,Pd]
  exact RL _ Rk
 sr:=by
  rw [PB]
  exact bL h.sr (RJ _ _) fun q hq r hr=>by
   rw [O3.mp hr]; exact h.ha q hq ia p (OP _) e
 hb:=fun q hq j r hj er=>by
  rw [PB] at hq
  rcases Pg.mp hq with z | z
  ·exact h.hb q z j r hj er
  ·rw [O3.mp z]; exact hl j r hj er
 ha:=fun q hq j r hj er=>by
  rw [PB] at hq
  rcases Pg.mp hq with z | z
  ·exact h.ha q z j r (by lia) er
  ·rw [O3.mp z]; exact ua ia j p r (by lia) e er
theorem WL.rF (h:WL rk a b out ia ib) (ua:Up rk a):∀ (k:Nat),ia+k≤a.size→(∀ (i j:Nat) (p q:Keyed),ia≤i→i<ia+k→ib≤j→a[i]?=some p→b[j]?=some q→rk p≤rk q)→WL rk a b (out++a.extract ia (ia+k)) (ia+k) ib
 | 0,_,_=>by
  have:out++a.extract ia (ia+0)=out:=by
   apply Rf
   rw [Qd,Nat.add_zero,jj,P1]
  rw [this]; exact h
 | k+1,hk,hl=>by
  have ih:=h.rF ua k (by lia) fun i j p q h1 h2=>hl i j p q h1 (by lia)
  have e:a[ia+k]?=some (a[ia+k]'(by lia)):=Pj _
  have z:=ih.gw ua e fun j q hj eq=>hl _ j _ q (by lia) (by lia) hj e eq
  have:out++a.extract ia (ia+(k+1))=(out++a.extract ia (ia+k)).push (a[ia+k]'(by lia)):=by
   apply Rf
   simp only [Qd,PB,d8]
   rw [show ia+(k+1)=(ia+k)+1 by lia,cV e,Vf (by simp; lia),Pd]
  rw [this]; exact z
theorem WL.rG (h:WL rk a b out ia ib) (ub:Up rk b):∀ (k:Nat),ib+k≤b.size→(∀ (i j:Nat) (p q:Keyed),ib≤i→i<ib+k→ia≤j→b[i]?=some p→a[j]?=some q→rk p≤rk q)→WL rk a b (out++b.extract ib (ib+k)) ia (ib+k)
 | 0,_,_=>by
  have:out++b.extract ib (ib+0)=out:=by
   apply Rf
   rw [Qd,Nat.add_zero,jj,P1]
  rw [this]; exact h
 | k+1,hk,hl=>by
  have ih:=h.rG ub k (by lia) fun i j p q h1 h2=>hl i j p q h1 (by lia)
  have e:b[ib+k]?=some (b[ib+k]'(by lia)):=Pj _
  have z:=ih.gv ub e fun j q hj eq=>hl _ j _ q (by lia) (by lia) hj e eq
  have:out++b.extract ib (ib+(k+1))=(out++b.extract ib (ib+k)).push (b[ib+k]'(by lia)):=by
   apply Rf
   simp only [Qd,PB,d8]
   rw [show ib+(k+1)=(ib+k)+1 by lia,cV e,Vf (by simp; lia),Pd]
  rw [this]; exact z
end
section
variable {prog:Program} {w:World} {A:Around} {E:Value→Shared→Prop} {s:Shared} {L:List Keyed} {κ:SortKind} {rk:Keyed→Int} {a b:Array Keyed}
theorem lR (f:Nat→Int) (c):∀ n,(∀ i j,i≤j→j<n→f i≤f j)→∃ k,k≤n∧∀ i,i<n→(f i≤c↔i<k)
 | 0,_=>⟨0,OP _,fun i hi=>by lia⟩
 | n+1,hm=>by
  obtain ⟨k,h1,h2⟩:=lR f c n fun i j hij hj=>hm i j hij (by lia)
  by_cases hc:f n≤c
  ·refine ⟨n+1,OP _,fun i hi=>⟨fun _=>hi,fun _=>?_⟩⟩
   exact Pu (hm i n (by lia) (by lia)) hc
  ·refine ⟨k,by lia,fun i hi=>?_⟩
   by_cases hin:i<n
   ·exact h2 i hin
   ·have:i=n:=by lia
    subst this
    exact ⟨fun z=>absurd z hc,fun z=>by lia⟩
theorem lT (f:Nat→Int) (c):∀ n,(∀ i j,i≤j→j<n→f i≤f j)→∃ k,k≤n∧∀ i,i<n→(f i<c↔i<k)
 | 0,_=>⟨0,OP _,fun i hi=>by lia⟩
 | n+1,hm=>by
  obtain ⟨k,h1,h2⟩:=lT f c n fun i j hij hj=>hm i j hij (by lia)
  by_cases hc:f n<c
  ·refine ⟨n+1,OP _,fun i hi=>⟨fun _=>hi,fun _=>?_⟩⟩
   exact Tq (hm i n (by lia) (by lia)) hc
  ·refine ⟨k,by lia,fun i hi=>?_⟩
   by_cases hin:i<n
   ·exact h2 i hin
   ·have:i=n:=by lia
    subst this
    exact ⟨fun z=>absurd z hc,fun z=>by lia⟩
theorem LS (h:Up rk a) (hij:i≤j) (hj:j<a.size):R rk a i≤R rk a j:=by
 have e1:a[i]?=some (a[i]'(by lia)):=Pj _
 have e2:a[j]?=some a[j]:=Pj _
 rw [dY e1,dY e2]
 exact h i j _ _ hij e1 e2
structure cW (st st':SortSt):Prop where
 k:kindOf st'=kindOf st
 a:arrOf st'=arrOf st
 p:pendingOf st'=pendingOf st
 f:failedOf st'=failedOf st
theorem cW.refl (st:SortSt):cW st st:=⟨rfl,rfl,rfl,rfl⟩
theorem cW.min {st st':SortSt} (h:cW st st') (g):cW st (Rc (kindOf st') (arrOf st') (pendingOf st') g (failedOf st')):=⟨h.k,h.a,h.p,h.f⟩
theorem cW.trans (h:cW s1 s2) (g:cW s2 s3):cW s1 s3:=⟨g.k.trans h.k,g.a.trans h.a,g.p.trans h.p,g.f.trans h.f⟩
theorem rH {st:SortSt} (hC:iY prog w A s κ rk L) (hk:kindOf st=κ) (hkey:key∈L) (mx:∀ (i:Nat) (p:Keyed),xs[i]?=some p→p∈L) (ux:Up rk xs) (n) (hn:base+n≤xs.size) (hh:hint<n)
 (h:∀ k,k≤n→(∀ (i:Nat) (p:Keyed),i<k→xs[base+i]?=some p→rk p≤rk key)→(∀ (i:Nat) (p:Keyed),k≤i→base+i<base+n→xs[base+i]?=some p→rk key<rk p)→Q (some k) st) :
 wpS (model prog w) A E s (cU false key xs base n hint) Q st:=by
 obtain ⟨k,h1,h2⟩:=lR (fun i=>R rk xs (base+i)) (rk key) n fun i j hij hj=>LS ux (by lia) (by lia)
 refine fP hC hk hkey (fun i hi=>⟨xs[base+i]'(by lia),Pj _,mx _ _ (Pj _)⟩) (fun i hi=>by simp only [PR,if_false]; exact h2 i hi) h1 hh (h k h1 (fun i p hi e=>?_) fun i p hi hb e=>?_)
 ·have:=(h2 i (by lia)).mpr hi
  rw [dY e] at this; exact this
 ·have:=mt (h2 i (by lia)).mp (by lia)
  rw [dY e] at this; lia
theorem rJ {st:SortSt} (hC:iY prog w A s κ rk L) (hk:kindOf st=κ) (hkey:key∈L) (mx:∀ (i:Nat) (p:Keyed),xs[i]?=some p→p∈L) (ux:Up rk xs) (n) (hn:base+n≤xs.size) (hh:hint<n)
 (h:∀ k,k≤n→(∀ (i:Nat) (p:Keyed),i<k→xs[base+i]?=some p→rk p<rk key)→(∀ (i:Nat) (p:Keyed),k≤i→base+i<base+n→xs[base+i]?=some p→rk key≤rk p)→Q (some k) st) :
 wpS (model prog w) A E s (cU true key xs base n hint) Q st:=by
 obtain ⟨k,h1,h2⟩:=lT (fun i=>R rk xs (base+i)) (rk key) n fun i j hij hj=>LS ux (by lia) (by lia)
 refine fP hC hk hkey (fun i hi=>⟨xs[base+i]'(by lia),Pj _,mx _ _ (Pj _)⟩) (fun i hi=>by simp only [if_true]; exact h2 i hi) h1 hh (h k h1 (fun i p hi e=>?_) fun i p hi hb e=>?_)
 ·have:=(h2 i (by lia)).mpr hi
  rw [dY e] at this; exact this
 ·have:=mt (h2 i (by lia)).mp (by lia)
  rw [dY e] at this; lia
structure mY (rk:Keyed→Int) (a b out:Array Keyed) (ia ib:Nat):Prop where
 w:WL rk a b out ia ib
 la:ia+1<a.size
 lb:ib<b.size
end
section
local macro_rules | `(tactic| walk_at "dl mergeLo")=>do
 let i:=Ru (Rj `PySem.Builtin.List.W1All `PySem.Builtin.mergeLo)
 `(tactic| delta $i)
noncomputable abbrev Bm:=Option (Array Keyed)×Array Keyed×Nat×Nat×Nat×Nat×Nat
noncomputable def GR (a b out:Array Keyed) (ia ib:Nat):Array Keyed:=out++a.extract ia a.size++b.extract ib b.size
noncomputable def DW (a b out:Array Keyed) (ia ib:Nat):Array Keyed:=out++b.extract ib b.size++a.extract ia a.size
noncomputable def wG (a b:Array Keyed) (mg ac bc ia ib:Nat) (out:Array Keyed):StateT SortSt Sem (ForInStep Bm):=do
 let p ← elem' a ia
 if (ia+1+1 == a.size)=true then pure (.done (some (DW a b (out.push p) (ia+1) ib),out.push p,ia+1,ib,mg,ac,bc))
 else if (decide (ac<7) && decide (bc<7))=true then pure (.done (none,out.push p,ia+1,ib,mg,ac,bc))
 else pure (.yield (none,out.push p,ia+1,ib,mg,ac,bc))
noncomputable def wH (a b:Array Keyed) (mg ac bc ia ib:Nat) (out:Array Keyed):StateT SortSt Sem (ForInStep Bm):=do
 let q ← elem' b ib
 if (ib+1 == b.size)=true then pure (.done (some (GR a b (out.push q) ia (ib+1)),out.push q,ia,ib+1,mg,ac,bc))
 else do
  let p ← elem' a ia
  let x ← cU true p b (ib+1) (b.size - (ib+1)) 0
  match x with
  | some k=>(if k>0 then
   (if (ib+1+k == b.size)=true then pure (.done (some (GR a b (out.push q++b.extract (ib+1) (ib+1+k)) ia (ib+1+k)),out.push q++b.extract (ib+1) (ib+1+k),ia,ib+1+k,mg,ac,k))
    else wG a b mg ac k ia (ib+1+k) (out.push q++b.extract (ib+1) (ib+1+k)))
   else wG a b mg ac k ia (ib+1) (out.push q))
  | _=>pure (.done (some (GR a b (out.push q) ia (ib+1)),out.push q,ia,ib+1,mg,ac,bc))
noncomputable def wI (a b:Array Keyed) (mg ac bc ia ib:Nat) (out:Array Keyed):StateT SortSt Sem (ForInStep Bm):=do
 cH mg
 let q ← elem' b ib
 let x ← cU false q a ia (a.size - ia) 0
 match x with
 | some k=>(if k>0 then
  (if (ia+k+1 == a.size)=true then pure (.done (some (DW a b (out++a.extract ia (ia+k)) (ia+k) ib),out++a.extract ia (ia+k),ia+k,ib,mg,k,bc))
   else if (ia+k == a.size)=true then pure (.done (some (GR a b (out++a.extract ia (ia+k)) (ia+k) ib),out++a.extract ia (ia+k),ia+k,ib,mg,k,bc))
   else wH a b mg k bc (ia+k) ib (out++a.extract ia (ia+k)))
  else wH a b mg k bc ia ib out)
 | _=>pure (.done (some (GR a b out ia ib),out,ia,ib,mg,ac,bc))
noncomputable def Bo (a b:Array Keyed) (c:Bm):StateT SortSt Sem (ForInStep Bm) :=
 if c.2.2.2.2.1>1 then wI a b (c.2.2.2.2.1 - 1) c.2.2.2.2.2.1 c.2.2.2.2.2.2 c.2.2.1 c.2.2.2.1 c.2.1 else wI a b c.2.2.2.2.1 c.2.2.2.2.2.1 c.2.2.2.2.2.2 c.2.2.1 c.2.2.2.1 c.2.1
noncomputable abbrev Jd:=Option (Array Keyed)×Array Keyed×Nat×Nat×Nat×Nat
noncomputable def Bp (a b:Array Keyed) (mg:Nat) (c:Jd):StateT SortSt Sem (ForInStep Jd):=do
 let q ← elem' b c.2.2.2.1
 let p ← elem' a c.2.2.1
 let x ← lt' q p
 match x with
 | some y=>(if y=true then (do
  let q ← elem' b c.2.2.2.1
  if (c.2.2.2.1+1 == b.size)=true then pure (.done (some (GR a b (c.2.1.push q) c.2.2.1 (c.2.2.2.1+1)),c.2.1.push q,c.2.2.1,c.2.2.2.1+1,0,c.2.2.2.2.2+1))
  else if c.2.2.2.2.2+1≥mg then pure (.done (none,c.2.1.push q,c.2.2.1,c.2.2.2.1+1,0,c.2.2.2.2.2+1))
  else pure (.yield (none,c.2.1.push q,c.2.2.1,c.2.2.2.1+1,0,c.2.2.2.2.2+1)))
  else (do
   let p ← elem' a c.2.2.1
   if (c.2.2.1+1+1 == a.size)=true then pure (.done (some (DW a b (c.2.1.push p) (c.2.2.1+1) c.2.2.2.1),c.2.1.push p,c.2.2.1+1,c.2.2.2.1,c.2.2.2.2.1+1,0))
   else if c.2.2.2.2.1+1≥mg then pure (.done (none,c.2.1.push p,c.2.2.1+1,c.2.2.2.1,c.2.2.2.2.1+1,0))
   else pure (.yield (none,c.2.1.push p,c.2.2.1+1,c.2.2.2.1,c.2.2.2.2.1+1,0))))
 | _=>pure (.done (some (GR a b c.2.1 c.2.2.1 c.2.2.2.1),c.2.1,c.2.2.1,c.2.2.2.1,c.2.2.2.2.1,c.2.2.2.2.2))
noncomputable abbrev E8:=Option (Array Keyed)×Array Keyed×Nat×Nat×Nat
noncomputable def pJ (a b:Array Keyed) (c:E8):StateT SortSt Sem (ForInStep E8):=do
 let s ← forIn [:a.size+b.size] ((none,c.2.1,c.2.2.1,c.2.2.2.1,0,0):Jd) fun _ s=>Bp a b c.2.2.2.2 s
 match s.1 with
 | some r=>pure (.done (some r,s.2.1,s.2.2.1,s.2.2.2.1,c.2.2.2.2))
 | none=>do
  liftM (rule "list.sort.gallop")
  let t ← forIn [:a.size+b.size] ((none,s.2.1,s.2.2.1,s.2.2.2.1,c.2.2.2.2+1,s.2.2.2.2.1,s.2.2.2.2.2):Bm) fun _ t=>Bo a b t
  match t.1 with
  | some r=>pure (.done (some r,t.2.1,t.2.2.1,t.2.2.2.1,t.2.2.2.2.1))
  | none=>do
   cH (t.2.2.2.2.1+1)
   pure (.yield (none,t.2.1,t.2.2.1,t.2.2.2.1,t.2.2.2.2.1+1))
theorem rK (a b):lQ a b=(do
 liftM (rule "list.sort.merge-lo")
 let p ← elem' b 0
 if (1 == b.size)=true then pure (GR a b #[p] 0 1)
 else if (0+1 == a.size)=true then pure (DW a b #[p] 0 1)
 else do
  let st ← get
  let s ← forIn [:a.size+b.size] ((none,#[p],0,1,gallopOf st):E8) fun _ c=>pJ a b c
  match s.1 with
  | some r=>pure r
  | none=>liftM (unsupported (α:=Array Keyed) "internal:list.sort.merge-bound")):=by
 unfold lQ
 walk_at "dl mergeLo"
 dsimp only
 refine congrArg _ (funext fun _=>?_)
 refine congrArg _ (funext fun p=>?_)
 refine congrArg _ (congrArg _ ?_)
 refine congrArg _ (funext fun st=>?_)
 have e:∀ (f g:Nat→E8→StateT SortSt Sem (ForInStep E8)) (c:E8) (k:E8→StateT SortSt Sem (Array Keyed)),f=g→(forIn [:a.size+b.size] c f >>= k)=(forIn [:a.size+b.size] c g >>= k):=fun _ _ _ _ h=>by rw [h]
 refine (e _ _ _ _ (funext fun _=>funext fun c=>?_)).trans (congrArg _ (funext fun s=>?_))
 ·obtain ⟨o,out,ia,ib,mg⟩:=c
  unfold pJ
  dsimp only
  have e2:∀ (f g:Nat→Jd→StateT SortSt Sem (ForInStep Jd)) (c:Jd) (k l:Jd→StateT SortSt Sem (ForInStep E8)),f=g→k=l→(forIn [:a.size+b.size] c f >>= k)=(forIn [:a.size+b.size] c g >>= l):=fun _ _ _ _ _ h h2=>by rw [h,h2]
  refine e2 _ _ _ _ _ (funext fun _=>funext fun c=>?_) (funext fun s=>?_)
  ·rfl
  ·obtain ⟨o,out,ia,ib,ac,bc⟩:=s
   cases o with
   | some r=>rfl
   | none =>
    dsimp only
    refine congrArg _ (funext fun _=>?_)
    have e3:∀ (f g:Nat→Bm→StateT SortSt Sem (ForInStep Bm)) (c:Bm) (k l:Bm→StateT SortSt Sem (ForInStep E8)),f=g→k=l→(forIn [:a.size+b.size] c f >>= k)=(forIn [:a.size+b.size] c g >>= l):=fun _ _ _ _ _ h h2=>by rw [h,h2]
    refine e3 _ _ _ _ _ (funext fun _=>funext fun c=>?_) (funext fun s=>?_)
    ·rfl
    ·obtain ⟨o,s⟩:=s
     cases o <;> rfl
 ·obtain ⟨o,s⟩:=s
  cases o <;> rfl
end
theorem some_at {xs:Array Keyed} (h:i<xs.size):∃ p,xs[i]?=some p:=⟨xs[i],Pj h⟩
section
noncomputable def E9 (rk:Keyed→Int) (a b:Array Keyed) (n:Nat) (o:Option (Array Keyed)) (ia ib:Nat) (out:Array Keyed):Prop:=(∃ r,o=some r∧Res rk a b r)∨(o=none∧mY rk a b out ia ib∧n≤ia+ib)
noncomputable def Fb (rk:Keyed→Int) (a b:Array Keyed) (n:Nat):ForInStep Bm→Prop
 | .done c=>E9 rk a b n c.1 c.2.2.1 c.2.2.2.1 c.2.1
 | .yield c=>c.1=none∧mY rk a b c.2.1 c.2.2.1 c.2.2.2.1∧n≤c.2.2.1+c.2.2.2.1
theorem nY {st:SortSt} (lA:∀ {out:Array Keyed} {ia ib:Nat},WL rk a b out ia ib→ia+1=a.size→Res rk a b (DW a b out ia ib)) (W:WL rk a b out ia ib) (ua:Up rk a) (la:ia+1<a.size) (lb:ib<b.size) (ep:a[ia]?=some p)
 (hl:∀ (j:Nat) (r:Keyed),ib≤j→b[j]?=some r→rk p≤rk r) (hn:n≤ia+1+ib) (hQ:∀ x,Fb rk a b n x→Q x st):wpS (model prog w) A E s (wG a b mg ac bc ia ib out) Q st:=by
 unfold wG
 have W4:=W.gw ua ep hl
 refine OQ (aR ep ?_)
 by_cases e9:ia+1+1=a.size
 ·rw [if_pos (by simpa using e9)]
  exact OR (hQ _ (.inl ⟨_,rfl,lA W4 e9⟩))
 rw [if_neg (by simpa using e9)]
 have hL:mY rk a b (out.push p) (ia+1) ib:=⟨W4,Nat.lt_of_le_of_ne la e9,lb⟩
 split
 ·exact OR (hQ _ (.inr ⟨rfl,hL,hn⟩))
 ·exact OR (hQ _ ⟨rfl,hL,hn⟩)
theorem pK {xs:Array Keyed} {i j:Nat} (h:i≤j) (e:xs[j]?=some p):xs[i+(j - i)]?=some p:=by rw [UH h]; exact e
theorem nZ {st:SortSt} (hC:iY prog w A s κ rk L) (hk:kindOf st=κ) (ma:∀ (i:Nat) (p:Keyed),a[i]?=some p→p∈L) (mb:∀ (i:Nat) (p:Keyed),b[i]?=some p→p∈L)
 (lA:∀ {out:Array Keyed} {ia ib:Nat},WL rk a b out ia ib→ia+1=a.size→Res rk a b (DW a b out ia ib)) (W:WL rk a b out ia ib) (ua:Up rk a) (ub:Up rk b) (la:ia+1<a.size) (lb:ib<b.size) (eq:b[ib]?=some q)
 (hl:∀ (j:Nat) (r:Keyed),ia≤j→a[j]?=some r→rk q≤rk r) (hn:n≤ia+ib+2) (hQ:∀ x,Fb rk a b n x→Q x st):wpS (model prog w) A E s (wH a b mg ac bc ia ib out) Q st:=by
 unfold wH
 have W2:=W.gv ub eq hl
 refine OQ (aR eq ?_)
 by_cases e5:ib+1=b.size
 ·rw [if_pos (by simpa using e5)]
  exact OR (hQ _ (.inl ⟨_,rfl,W2.jM ua e5⟩))
 rw [if_neg (by simpa using e5)]
 obtain ⟨p,ep⟩:=some_at (xs:=a) (i:=ia) (by lia)
 refine OQ (aR ep ?_)
 refine OQ (rJ hC hk (ma _ _ ep) mb ub _ (by lia) (by lia) fun k hj1 hj2 hj3=>?_)
 dsimp only
 have W3:=W2.rG ub k (by lia) fun i j r p' z1 z2 z3 e6 e7=>Pu (QW (hj2 (i - (ib+1)) r (by lia) (pK z1 e6))) (ua ia j p p' z3 ep e7)
 have bwd:∀ (j:Nat) (r:Keyed),ib+1+k≤j→b[j]?=some r→rk p≤rk r:=fun j r hj e6=>hj3 (j - (ib+1)) r (by lia) (by have:=(RH.mp e6).1; lia) (pK (OV (RV _ _) hj) e6)
 by_cases hj0:k>0
 ·rw [if_pos hj0]
  by_cases e8:ib+1+k=b.size
  ·rw [if_pos (by simpa using e8)]
   exact OR (hQ _ (.inl ⟨_,rfl,W3.jM ua e8⟩))
  rw [if_neg (by simpa using e8)]
  exact nY lA W3 ua la (by lia) ep bwd (by lia) hQ
 ·rw [if_neg hj0]
  exact nY lA W2 ua la (by lia) ep (fun j r hj e6=>bwd j r (by lia) e6) (by lia) hQ
theorem n5 {st:SortSt} (hC:iY prog w A s κ rk L) (hk:kindOf st=κ) (ma:∀ (i:Nat) (p:Keyed),a[i]?=some p→p∈L) (mb:∀ (i:Nat) (p:Keyed),b[i]?=some p→p∈L)
 (lA:∀ {out:Array Keyed} {ia ib:Nat},WL rk a b out ia ib→ia+1=a.size→Res rk a b (DW a b out ia ib)) (ua:Up rk a) (ub:Up rk b) (hL:mY rk a b out ia ib) (hn:n≤ia+ib) (hQ:∀ x st',cW st st'→Fb rk a b n x→Q x st') :
 wpS (model prog w) A E s (wI a b mg ac bc ia ib out) Q st:=by
 unfold wI
 have W:=hL.w
 have la:=hL.la
 have lb:=hL.lb
 obtain ⟨q,eq⟩:=some_at (xs:=b) lb
 refine OQ (fQ ?_)
 have Hq:=fun x=>hQ x _ ((cW.refl st).min mg)
 refine OQ (aR eq ?_)
 refine OQ (rH hC (by exact hk) (mb _ _ eq) ma ua _ (by lia) (by lia) fun k hk1 hk2 hk3=>?_)
 dsimp only
 have Wk:=W.rF ua k (by lia) fun i j p r z1 z2 z3 e3 e4=>Pu (hk2 (i - ia) p (by lia) (pK z1 e3)) (ub ib j q r z3 eq e4)
 have fwd:∀ (j:Nat) (r:Keyed),ia+k≤j→a[j]?=some r→rk q≤rk r:=fun j r hj e3=>QW (hk3 (j - ia) r (by lia) (by have:=(RH.mp e3).1; lia) (pK (OV (RV _ _) hj) e3))
 by_cases hk0:k>0
 ·rw [if_pos hk0]
  by_cases e3:ia+k+1=a.size
  ·rw [if_pos (by simpa using e3)]
   exact OR (Hq _ (.inl ⟨_,rfl,lA Wk e3⟩))
  rw [if_neg (by simpa using e3)]
  by_cases e4:ia+k=a.size
  ·rw [if_pos (by simpa using e4)]
   exact OR (Hq _ (.inl ⟨_,rfl,Wk.jN ub e4⟩))
  rw [if_neg (by simpa using e4)]
  exact nZ hC (by exact hk) ma mb lA Wk ua ub (by lia) lb eq fwd (by lia) Hq
 ·rw [if_neg hk0]
  exact nZ hC (by exact hk) ma mb lA W ua ub la lb eq (fun j r hj e3=>fwd j r (by lia) e3) (by lia) Hq
theorem yu {st:SortSt} (hC:iY prog w A s κ rk L) (hk:kindOf st=κ) (ma:∀ (i:Nat) (p:Keyed),a[i]?=some p→p∈L) (mb:∀ (i:Nat) (p:Keyed),b[i]?=some p→p∈L)
 (lA:∀ {out:Array Keyed} {ia ib:Nat},WL rk a b out ia ib→ia+1=a.size→Res rk a b (DW a b out ia ib)) (ua:Up rk a) (ub:Up rk b) (hL:mY rk a b c.2.1 c.2.2.1 c.2.2.2.1) (hn:n≤c.2.2.1+c.2.2.2.1+1)
 (hQ:∀ o ia ib out z y,E9 rk a b n o ia ib out→Q (.done (o,out,ia,ib,z)) st∧(o=none→Q (.yield (none,out,ia,ib,y)) st)):wpS (model prog w) A E s (Bp a b mg c) Q st:=by
 obtain ⟨_,out,ia,ib,ac,bc⟩:=c
 unfold Bp
 dsimp only at hL hn ⊢
 have W:=hL.w
 have la:=hL.la
 have lb:=hL.lb
 obtain ⟨q,eq⟩:=some_at (xs:=b) lb
 obtain ⟨p,ep⟩:=some_at (xs:=a) (Nat.lt_of_succ_lt la)
 refine OQ (aR eq (OQ (aR ep (OQ (lO hC hk (mb _ _ eq) (ma _ _ ep) ?_)))))
 dsimp only
 by_cases hw:rk q<rk p
 ·rw [decide_eq_true hw,if_pos rfl]
  have W1:=W.gv ub eq fun j r hj e=>Pu (QW hw) (ua ia j p r hj ep e)
  refine OQ (aR eq ?_)
  by_cases e3:ib+1=b.size
  ·rw [if_pos (by simpa using e3)]
   exact OR (hQ _ _ _ _ _ (0,0) (.inl ⟨_,rfl,W1.jM ua e3⟩)).1
  rw [if_neg (by simpa using e3)]
  have z:=hQ none ia (ib+1) (out.push q) (0,bc+1) (0,bc+1) (.inr ⟨rfl,⟨W1,la,by lia⟩,by lia⟩)
  split
  ·exact OR z.1
  ·exact OR (z.2 rfl)
 ·rw [decide_eq_false hw,if_neg O0]
  have W1:=W.gw ua ep fun j r hj e=>Pu (Int.not_lt.mp hw) (ub ib j q r hj eq e)
  refine OQ (aR ep ?_)
  by_cases e3:ia+1+1=a.size
  ·rw [if_pos (by simpa using e3)]
   exact OR (hQ _ _ _ _ _ (0,0) (.inl ⟨_,rfl,lA W1 e3⟩)).1
  rw [if_neg (by simpa using e3)]
  have z:=hQ none (ia+1) ib (out.push p) (ac+1,0) (ac+1,0) (.inr ⟨rfl,⟨W1,by lia,lb⟩,by lia⟩)
  split
  ·exact OR z.1
  ·exact OR (z.2 rfl)
theorem uI {st:SortSt} (hC:iY prog w A s κ rk L) (hk:kindOf st=κ) (ma:∀ (i:Nat) (p:Keyed),a[i]?=some p→p∈L) (mb:∀ (i:Nat) (p:Keyed),b[i]?=some p→p∈L)
 (lA:∀ {out:Array Keyed} {ia ib:Nat},WL rk a b out ia ib→ia+1=a.size→Res rk a b (DW a b out ia ib)) (ua:Up rk a) (ub:Up rk b) (hL:mY rk a b c.2.1 c.2.2.1 c.2.2.2.1) (hn:n≤c.2.2.1+c.2.2.2.1+1)
 (h1:∀ r z st',cW st st'→Res rk a b r→Q (.done (some r,z)) st') (h2:∀ ia ib out g st',cW st st'→mY rk a b out ia ib→n≤ia+ib→Q (.yield (none,out,ia,ib,g)) st'):wpS (model prog w) A E s (pJ a b c) Q st:=by
 unfold pJ
 refine OQ (Px (P7 (I:=fun y c st'=>st'=st∧c.1=none∧mY rk a b c.2.1 c.2.2.1 c.2.2.2.1∧n+y≤c.2.2.1+c.2.2.2.1+1) (Q:=fun c st'=>st'=st∧E9 rk a b n c.1 c.2.2.1 c.2.2.2.1 c.2.1) ?step ?fin ⟨rfl,rfl,hL,hn⟩) ?post)
 case fin =>
  rintro c st' ⟨rfl,hc,hL',hx⟩
  exact ⟨rfl,.inr ⟨hc,hL',by have:=hL'.la; have:=hL'.lb; lia⟩⟩
 case step =>
  rintro y c st' _ hy ⟨rfl,_,hL',hx⟩
  refine yu (n:=n+y) hC hk ma mb lA ua ub hL' hx fun o ia ib out z y hR=>⟨?_,?_⟩
  ·refine ⟨rfl,?_⟩
   rcases hR with hR | ⟨q1,q2,q3⟩
   ·exact .inl hR
   ·exact .inr ⟨q1,q2,OV (RV _ _) q3⟩
  ·rintro rfl
   rcases hR with ⟨_,q,_⟩ | ⟨q1,q2,q3⟩
   ·cases q
   ·exact ⟨rfl,rfl,q2,TJ q3⟩
 case post =>
  rintro ⟨o,out,ia,ib,ac,bc⟩ st' ⟨rfl,hR⟩
  dsimp only at hR ⊢
  rcases hR with ⟨r,rfl,hr⟩ | ⟨rfl,hL2,hn2⟩
  ·exact OR (h1 r _ _ (.refl _) hr)
  refine OQ (Rg (Ql ⟨rfl,?_⟩))
  refine OQ (Px (P7 (I:=fun y c st''=>cW st' st''∧c.1=none∧mY rk a b c.2.1 c.2.2.1 c.2.2.2.1∧n≤c.2.2.1+c.2.2.2.1) (Q:=fun c st''=>cW st' st''∧E9 rk a b n c.1 c.2.2.1 c.2.2.2.1 c.2.1) ?gstep ?gfin ⟨.refl _,rfl,hL2,hn2⟩) ?gpost)
  case gfin=>exact fun c st'' ⟨q1,q2,q3,q4⟩=>⟨q1,.inr ⟨q2,q3,q4⟩⟩
  case gstep =>
   rintro y c st'' _ _ ⟨q1,q2,q3,q4⟩
   have key:wpS (model prog w) A E s (Bo a b c) (fun x st3=>cW st'' st3∧Fb rk a b n x) st'':=by
    unfold Bo
    split
    ·exact n5 hC (q1.k.trans hk) ma mb lA ua ub q3 q4 fun x st3 k h=>⟨k,h⟩
    ·exact n5 hC (q1.k.trans hk) ma mb lA ua ub q3 q4 fun x st3 k h=>⟨k,h⟩
   refine Px key fun x st3 ⟨k,h⟩=>?_
   cases x with
   | done c=>exact ⟨q1.trans k,h⟩
   | yield c=>exact ⟨q1.trans k,h⟩
  case gpost =>
   rintro ⟨o,out,ia,ib,g,ac,bc⟩ st'' ⟨q1,hR⟩
   dsimp only at hR ⊢
   rcases hR with ⟨r,rfl,hr⟩ | ⟨rfl,hL3,hn3⟩
   ·exact OR (h1 r _ _ q1 hr)
   ·exact OQ (fQ (OR (h2 _ _ _ _ _ (q1.min _) hL3 hn3)))
theorem rL {st:SortSt} (hC:iY prog w A s κ rk L) (hk:kindOf st=κ) (ma:∀ (i:Nat) (p:Keyed),a[i]?=some p→p∈L) (mb:∀ (i:Nat) (p:Keyed),b[i]?=some p→p∈L) (ua:Up rk a) (ub:Up rk b) (na:1≤a.size) (nb:1≤b.size)
 (h0:∀ p q,a[0]?=some p→b[0]?=some q→rk q≤rk p) (hl:∀ (j:Nat) (p q:Keyed),a[a.size - 1]?=some p→b[j]?=some q→rk q≤rk p) (h:∀ r st',Res rk a b r→cW st st'→Q r st'):wpS (model prog w) A E s (lQ a b) Q st:=by
 have lastA:∀ {out:Array Keyed} {ia ib:Nat},WL rk a b out ia ib→ia+1=a.size→Res rk a b (DW a b out ia ib):=fun hw e=>hw.last ub e fun j p q e1 e2=>hl j p q (by rw [← e]; exact e1) e2
 obtain ⟨q0,eq0⟩:=some_at (xs:=b) (i:=0) nb
 obtain ⟨p0,ep0⟩:=some_at (xs:=a) (i:=0) na
 have W0:WL rk a b #[q0] 0 1:=by
  have z:WL rk a b #[] 0 0:=⟨Pn _,Pn _,by simp,Sk,by simp,by simp⟩
  exact z.gv ub eq0 fun j q _ e=>Pu (h0 p0 q0 ep0 eq0) (ua 0 j p0 q (Pn _) ep0 e)
 rw [rK]
 refine OQ (Rg (Ql ⟨rfl,?_⟩))
 refine OQ (aR eq0 ?_)
 by_cases e1:1=b.size
 ·rw [if_pos (by simpa using e1)]
  exact OR (h _ _ (W0.jM ua e1) (.refl _))
 rw [if_neg (by simpa using e1)]
 by_cases e2:0+1=a.size
 ·rw [if_pos (by simpa using e2)]
  exact OR (h _ _ (lastA W0 e2) (.refl _))
 rw [if_neg (by simpa using e2)]
 refine OQ (Qt ?_)
 refine OQ (Px (P7 (I:=fun x c st'=>cW st st'∧c.1=none∧mY rk a b c.2.1 c.2.2.1 c.2.2.2.1∧x+1≤c.2.2.1+c.2.2.2.1) (Q:=fun c st'=>cW st st'∧∃ r,c.1=some r∧Res rk a b r) ?step ?fin ⟨.refl _,rfl,⟨W0,by dsimp only; lia,by dsimp only; lia⟩,by dsimp only; lia⟩) ?post)
 case fin =>
  rintro c st' ⟨hK,hc,hL,hx⟩
  have h1:=hL.la
  have h2:=hL.lb
  lia
 case post =>
  rintro c st' ⟨hK,r,hc,hr⟩
  rw [hc]
  exact OR (h r st' hr hK)
 case step =>
  rintro x c st1 _ hx ⟨hK,_,hL,hn⟩
  exact uI (n:=x+2) hC (hK.k.trans hk) ma mb lastA ua ub hL (TJ hn) (fun r z st' k hr=>⟨hK.trans k,r,rfl,hr⟩) fun ia ib out g st' k q1 q2=>⟨hK.trans k,rfl,q1,q2⟩
end
noncomputable def lU:Array Keyed→Array Keyed→StateT SortSt Sem (Array Keyed):=sortPriv% PySem.Builtin.mergeHi
local macro_rules | `(tactic| walk_at "dl mergeHi")=>do
 let i:=Ru (Rj `PySem.Builtin.List.W1All `PySem.Builtin.mergeHi)
 `(tactic| delta $i)
section
variable {rk:Keyed→Int} {a b:Array Keyed}
structure WH (rk:Keyed→Int) (a b:Array Keyed) (out:Array Keyed) (na nb:Nat):Prop where
 pa:na≤a.size
 pb:nb≤b.size
 pm:out.toList.Perm (a.toList.drop na++b.toList.drop nb)
 sr:Bl rk out.toList.reverse
 ha:∀ p∈out.toList,∀ (j:Nat) (q:Keyed),j<na→a[j]?=some q→rk q≤rk p
 hb:∀ p∈out.toList,∀ (j:Nat) (q:Keyed),j<nb→b[j]?=some q→rk q≤rk p
theorem dF (xs:Array Keyed) (i):(xs.extract 0 i).toList=xs.toList.take i:=by rw [d8,List.drop_zero]
theorem jk {xs:Array Keyed} (h:q∈xs.toList.take i):∃ j,j<i∧xs[j]?=some q:=by
 obtain ⟨n,hn⟩:=RN h
 have hl:=(OZ.mp hn).1
 rw [P9] at hl
 rw [S0 (by lia)] at hn
 exact ⟨n,by lia,by rw [← PK]; exact hn⟩
theorem WH.res (h:WH rk a b out na nb) (x) (hx:x.toList.Perm (a.toList.take na++b.toList.take nb)) (hs:Bl rk x.toList):Res rk a b (x++out.reverse):=by
 have e0:(x++out.reverse).toList=x.toList++out.toList.reverse:=by simp
 refine ⟨?_,?_⟩
 ·rw [e0]
  refine (hx.append ((Tv _).trans h.pm)).trans ?_
  have:(a.toList.take na++b.toList.take nb++(a.toList.drop na++b.toList.drop nb)).Perm (a.toList.take na++a.toList.drop na++(b.toList.take nb++b.toList.drop nb)):=by
   rw [Pd,Pd]
   refine RL _ ?_
   rw [← Pd,← Pd]
   exact List.Perm.append_right _ Rk
  rw [Qz,Qz] at this
  exact this
 ·rw [e0]
  refine bL hs h.sr fun p hp q hq=>?_
  have hq':q∈out.toList:=by simpa using hq
  rcases Pg.mp (hx.mem_iff.mp hp) with z | z
  ·obtain ⟨j,h1,e⟩:=jk z
   exact h.ha q hq' j p h1 e
  ·obtain ⟨j,h1,e⟩:=jk z
   exact h.hb q hq' j p h1 e
theorem WH.jN (h:WH rk a b out na nb) (ub:Up rk b) (e:na=0):Res rk a b (a.extract 0 na++b.extract 0 nb++out.reverse):=by
 subst e
 refine h.res _ ?_ ?_
 ·simp [dF]
 ·have:(a.extract 0 0++b.extract 0 nb).toList=b.toList.take nb:=by rw [Qd,dF,dF]; simp
  rw [this]; exact (jL ub).sublist (Tu _ _)
theorem WH.jM (h:WH rk a b out na nb) (ua:Up rk a) (e:nb=0):Res rk a b (a.extract 0 na++b.extract 0 nb++out.reverse):=by
 subst e
 refine h.res _ ?_ ?_
 ·simp [dF]
 ·have:(a.extract 0 na++b.extract 0 0).toList=a.toList.take na:=by rw [Qd,dF,dF]; simp
  rw [this]; exact (jL ua).sublist (Tu _ _)
theorem WH.first (h:WH rk a b out na nb) (ua:Up rk a) (e:nb=1) (hf:∀ (j:Nat) (p q:Keyed),a[j]?=some p→b[0]?=some q→rk q≤rk p) :
 Res rk a b (b.extract 0 nb++a.extract 0 na++out.reverse):=by
 subst e
 have e1:(b.extract 0 1++a.extract 0 na).toList=b.toList.take 1++a.toList.take na:=by rw [Qd,dF,dF]
 refine h.res _ ?_ ?_
 ·rw [e1]; exact Rk
 ·rw [e1]
  refine bL ?_ ((jL ua).sublist (Tu _ _)) fun p hp q hq=>?_
  ·exact wD (by simp; lia)
  ·obtain ⟨j,h1,e2⟩:=jk hp
   obtain ⟨j2,h2,e3⟩:=jk hq
   have:j=0:=by lia
   subst this
   exact hf j2 q p e3 e2
theorem n6 {xs:Array Keyed} (hi:1≤i) (h:xs[i - 1]?=some p):xs.toList.drop (i - 1)=p::xs.toList.drop i:=by
 rw [← PK] at h
 obtain ⟨h1,h2⟩:=OZ.mp h
 rw [Ur h1,h2,show i - 1+1=i by lia]
theorem WH.gw {out:Array Keyed} {na nb:Nat} {p:Keyed} (h:WH rk a b out na nb) (ua:Up rk a) (hn:1≤na) (e:a[na - 1]?=some p) (hl:∀ (j:Nat) (q:Keyed),j<nb→b[j]?=some q→rk q≤rk p):WH rk a b (out.push p) (na - 1) nb where
 pa:=by have:=h.pa; lia
 pb:=h.pb
 pm:=by
  rw [PB,n6 hn e]
  refine (h.pm.append_right _).trans ?_
  rw [QC]
  exact Rk
 sr:=by
  rw [PB,UI]
  exact bL (RJ _ _) h.sr fun r hr q hq=>by
   have hr':r=p:=by simpa using hr
   rw [hr']
   exact h.ha q (by simpa using hq) (na - 1) p (by lia) e
 ha:=fun q hq j r hj er=>by
  rw [PB] at hq
  rcases Pg.mp hq with z | z
  ·exact h.ha q z j r (by lia) er
  ·rw [O3.mp z]; exact ua j (na - 1) r p (by lia) er e
 hb:=fun q hq j r hj er=>by
  rw [PB] at hq
  rcases Pg.mp hq with z | z
  ·exact h.hb q z j r hj er
  ·rw [O3.mp z]; exact hl j r hj er
theorem WH.gv {out:Array Keyed} {na nb:Nat} {p:Keyed} (h:WH rk a b out na nb) (ub:Up rk b) (hn:1≤nb) (e:b[nb - 1]?=some p) (hl:∀ (j:Nat) (q:Keyed),j<na→a[j]?=some q→rk q≤rk p):WH rk a b (out.push p) na (nb - 1) where
 pa:=h.pa
 pb:=by have:=h.pb; lia
 pm:=by
  rw [PB,n6 hn e]
  refine (h.pm.append_right _).trans ?_
  rw [Pd]
  exact RL _ Rk
 sr:=by
  rw [PB,UI]
  exact bL (RJ _ _) h.sr fun r hr q hq=>by
   have hr':r=p:=by simpa using hr
   rw [hr']
   exact h.hb q (by simpa using hq) (nb - 1) p (by lia) e
 hb:=fun q hq j r hj er=>by
  rw [PB] at hq
  rcases Pg.mp hq with z | z
  ·exact h.hb q z j r (by lia) er
  ·rw [O3.mp z]; exact ub j (nb - 1) r p (by lia) er e
 ha:=fun q hq j r hj er=>by
  rw [PB] at hq
  rcases Pg.mp hq with z | z
  ·exact h.ha q z j r hj er
  ·rw [O3.mp z]; exact hl j r hj er
theorem wJ {xs:Array Keyed} (h:m<n) (e:xs[m]?=some p):(xs.extract m n).reverse=(xs.extract (m+1) n).reverse.push p:=by
 apply Rf
 rw [PB,RO,RO,d8,d8]
 rw [← PK] at e
 obtain ⟨h1,h2⟩:=OZ.mp e
 have h3:m<(xs.toList.take n).length:=by rw [P9]; lia
 rw [Ur h3,List.reverse_cons,List.getElem_take,h2]
theorem rM (xs ys:Array Keyed) (p):xs++ys.push p=(xs++ys).push p:=by
 apply Rf; simp
theorem WH.rF (h:WH rk a b out na nb) (ua:Up rk a):∀ (k m:Nat),m+k=na→(∀ (i j:Nat) (p q:Keyed),m≤i→i<na→j<nb→a[i]?=some p→b[j]?=some q→rk q≤rk p)→WH rk a b (out++(a.extract m na).reverse) m nb
 | 0,m,hm,_=>by
  have e:m=na:=by lia
  subst e
  have:out++(a.extract m m).reverse=out:=by
   apply Rf
   rw [Qd,RO,jj,List.reverse_nil,P1]
  rw [this]; exact h
 | k+1,m,hm,hl=>by
  have hp:=h.pa
  have ih:=h.rF ua k (m+1) (by lia) fun i j p q h1 h2=>hl i j p q (by lia) h2
  have e:a[m+1 - 1]?=some (a[m]'(by lia)):=Pj (show m<a.size by lia)
  have z:=ih.gw ua (by lia) e fun j q hj eq=>hl m j _ q (OP _) (by lia) hj (Pj (show m<a.size by lia)) eq
  rw [wJ (show m<na by lia) (Pj (show m<a.size by lia)),rM]
  exact z
theorem WH.rG (h:WH rk a b out na nb) (ub:Up rk b):∀ (k m:Nat),m+k=nb→(∀ (i j:Nat) (p q:Keyed),m≤i→i<nb→j<na→b[i]?=some p→a[j]?=some q→rk q≤rk p)→WH rk a b (out++(b.extract m nb).reverse) na m
 | 0,m,hm,_=>by
  have e:m=nb:=by lia
  subst e
  have:out++(b.extract m m).reverse=out:=by
   apply Rf
   rw [Qd,RO,jj,List.reverse_nil,P1]
  rw [this]; exact h
 | k+1,m,hm,hl=>by
  have hp:=h.pb
  have ih:=h.rG ub k (m+1) (by lia) fun i j p q h1 h2=>hl i j p q (by lia) h2
  have e:b[m+1 - 1]?=some (b[m]'(by lia)):=Pj (show m<b.size by lia)
  have z:=ih.gv ub (by lia) e fun j q hj eq=>hl m j _ q (OP _) (by lia) hj (Pj (show m<b.size by lia)) eq
  rw [wJ (show m<nb by lia) (Pj (show m<b.size by lia)),rM]
  exact z
structure iF (rk:Keyed→Int) (a b out:Array Keyed) (na nb:Nat):Prop where
 w:WH rk a b out na nb
 la:1≤na
 lb:2≤nb
end
noncomputable abbrev Bq:=Option (Array Keyed)×Nat×Nat×Array Keyed×Nat×Nat×Nat
noncomputable def GS (a b out:Array Keyed) (na nb:Nat):Array Keyed:=a.extract 0 na++b.extract 0 nb++out.reverse
noncomputable def Fc (a b out:Array Keyed) (na nb:Nat):Array Keyed:=b.extract 0 nb++a.extract 0 na++out.reverse
noncomputable def wK (a b:Array Keyed) (mg ac bc na nb:Nat) (out:Array Keyed):StateT SortSt Sem (ForInStep Bq):=do
 let p ← elem' a (na - 1)
 if (na - 1 == 0)=true then pure (.done (some (GS a b (out.push p) (na - 1) nb),na - 1,nb,out.push p,mg,ac,bc))
 else if (decide (ac<7) && decide (bc<7))=true then pure (.done (none,na - 1,nb,out.push p,mg,ac,bc))
 else pure (.yield (none,na - 1,nb,out.push p,mg,ac,bc))
noncomputable def wL (a b:Array Keyed) (mg ac bc na nb:Nat) (out:Array Keyed):StateT SortSt Sem (ForInStep Bq):=do
 let q ← elem' b (nb - 1)
 if (nb - 1 == 1)=true then pure (.done (some (Fc a b (out.push q) na (nb - 1)),na,nb - 1,out.push q,mg,ac,bc))
 else do
  let p ← elem' a (na - 1)
  let x ← cU true p b 0 (nb - 1) (nb - 1 - 1)
  match x with
  | some k=>(if nb - 1 - k>0 then
   (if (k == 1)=true then pure (.done (some (Fc a b (out.push q++(b.extract k (nb - 1)).reverse) na k),na,k,out.push q++(b.extract k (nb - 1)).reverse,mg,ac,nb - 1 - k))
    else if (k == 0)=true then pure (.done (some (GS a b (out.push q++(b.extract k (nb - 1)).reverse) na k),na,k,out.push q++(b.extract k (nb - 1)).reverse,mg,ac,nb - 1 - k))
    else wK a b mg ac (nb - 1 - k) na k (out.push q++(b.extract k (nb - 1)).reverse))
   else wK a b mg ac (nb - 1 - k) na (nb - 1) (out.push q))
  | _=>pure (.done (some (GS a b (out.push q) na (nb - 1)),na,nb - 1,out.push q,mg,ac,bc))
noncomputable def wM (a b:Array Keyed) (mg ac bc na nb:Nat) (out:Array Keyed):StateT SortSt Sem (ForInStep Bq):=do
 cH mg
 let q ← elem' b (nb - 1)
 let x ← cU false q a 0 na (na - 1)
 match x with
 | some k=>(if na - k>0 then
  (if (k == 0)=true then pure (.done (some (GS a b (out++(a.extract k na).reverse) k nb),k,nb,out++(a.extract k na).reverse,mg,na - k,bc))
   else wL a b mg (na - k) bc k nb (out++(a.extract k na).reverse))
  else wL a b mg (na - k) bc na nb out)
 | _=>pure (.done (some (GS a b out na nb),na,nb,out,mg,ac,bc))
noncomputable def Br (a b:Array Keyed) (c:Bq):StateT SortSt Sem (ForInStep Bq) :=
 if c.2.2.2.2.1>1 then wM a b (c.2.2.2.2.1 - 1) c.2.2.2.2.2.1 c.2.2.2.2.2.2 c.2.1 c.2.2.1 c.2.2.2.1 else wM a b c.2.2.2.2.1 c.2.2.2.2.2.1 c.2.2.2.2.2.2 c.2.1 c.2.2.1 c.2.2.2.1
noncomputable abbrev Je:=Option (Array Keyed)×Nat×Nat×Array Keyed×Nat×Nat
noncomputable def Bt (a b:Array Keyed) (mg:Nat) (c:Je):StateT SortSt Sem (ForInStep Je):=do
 let q ← elem' b (c.2.2.1 - 1)
 let p ← elem' a (c.2.1 - 1)
 let x ← lt' q p
 match x with
 | some y=>(if y=true then (do
  let p ← elem' a (c.2.1 - 1)
  if (c.2.1 - 1 == 0)=true then pure (.done (some (GS a b (c.2.2.2.1.push p) (c.2.1 - 1) c.2.2.1),c.2.1 - 1,c.2.2.1,c.2.2.2.1.push p,c.2.2.2.2.1+1,0))
  else if c.2.2.2.2.1+1≥mg then pure (.done (none,c.2.1 - 1,c.2.2.1,c.2.2.2.1.push p,c.2.2.2.2.1+1,0))
  else pure (.yield (none,c.2.1 - 1,c.2.2.1,c.2.2.2.1.push p,c.2.2.2.2.1+1,0)))
  else (do
   let q ← elem' b (c.2.2.1 - 1)
   if (c.2.2.1 - 1 == 1)=true then pure (.done (some (Fc a b (c.2.2.2.1.push q) c.2.1 (c.2.2.1 - 1)),c.2.1,c.2.2.1 - 1,c.2.2.2.1.push q,0,c.2.2.2.2.2+1))
   else if c.2.2.2.2.2+1≥mg then pure (.done (none,c.2.1,c.2.2.1 - 1,c.2.2.2.1.push q,0,c.2.2.2.2.2+1))
   else pure (.yield (none,c.2.1,c.2.2.1 - 1,c.2.2.2.1.push q,0,c.2.2.2.2.2+1))))
 | _=>pure (.done (some (GS a b c.2.2.2.1 c.2.1 c.2.2.1),c.2.1,c.2.2.1,c.2.2.2.1,c.2.2.2.2.1,c.2.2.2.2.2))
noncomputable abbrev DX:=Option (Array Keyed)×Nat×Nat×Array Keyed×Nat
noncomputable def jO (a b:Array Keyed) (c:DX):StateT SortSt Sem (ForInStep DX):=do
 let s ← forIn [:a.size+b.size] ((none,c.2.1,c.2.2.1,c.2.2.2.1,0,0):Je) fun _ s=>Bt a b c.2.2.2.2 s
 match s.1 with
 | some r=>pure (.done (some r,s.2.1,s.2.2.1,s.2.2.2.1,c.2.2.2.2))
 | none=>do
  liftM (rule "list.sort.gallop")
  let t ← forIn [:a.size+b.size] ((none,s.2.1,s.2.2.1,s.2.2.2.1,c.2.2.2.2+1,s.2.2.2.2.1,s.2.2.2.2.2):Bq) fun _ t=>Br a b t
  match t.1 with
  | some r=>pure (.done (some r,t.2.1,t.2.2.1,t.2.2.2.1,t.2.2.2.2.1))
  | none=>do
   cH (t.2.2.2.2.1+1)
   pure (.yield (none,t.2.1,t.2.2.1,t.2.2.2.1,t.2.2.2.2.1+1))
theorem rN (a b):lU a b=(do
 liftM (rule "list.sort.merge-hi")
 let p ← elem' a (a.size - 1)
 if (a.size - 1 == 0)=true then pure (GS a b #[p] (a.size - 1) b.size)
 else if (b.size == 1)=true then pure (Fc a b #[p] (a.size - 1) b.size)
 else do
  let st ← get
  let s ← forIn [:a.size+b.size] ((none,a.size - 1,b.size,#[p],gallopOf st):DX) fun _ c=>jO a b c
  match s.1 with
  | some r=>pure r
  | none=>liftM (unsupported (α:=Array Keyed) "internal:list.sort.merge-bound")):=by
 unfold lU
 walk_at "dl mergeHi"
 dsimp only
 refine congrArg _ (funext fun _=>?_)
 refine congrArg _ (funext fun p=>?_)
 refine congrArg _ (congrArg _ ?_)
 refine congrArg _ (funext fun st=>?_)
 have h1:∀ (c:DX),jO a b c=jO a b c:=fun _=>rfl
 have e:∀ (f g:Nat→DX→StateT SortSt Sem (ForInStep DX)) (c:DX) (k:DX→StateT SortSt Sem (Array Keyed)),f=g→(forIn [:a.size+b.size] c f >>= k)=(forIn [:a.size+b.size] c g >>= k):=fun _ _ _ _ h=>by rw [h]
 refine (e _ _ _ _ (funext fun _=>funext fun c=>?_)).trans (congrArg _ (funext fun s=>?_))
 ·obtain ⟨o,na,nb,out,mg⟩:=c
  unfold jO
  dsimp only
  have e2:∀ (f g:Nat→Je→StateT SortSt Sem (ForInStep Je)) (c:Je) (k l:Je→StateT SortSt Sem (ForInStep DX)),f=g→k=l→(forIn [:a.size+b.size] c f >>= k)=(forIn [:a.size+b.size] c g >>= l):=fun _ _ _ _ _ h h2=>by rw [h,h2]
  refine e2 _ _ _ _ _ (funext fun _=>funext fun c=>?_) (funext fun s=>?_)
  ·rfl
  ·obtain ⟨o,na,nb,out,ac,bc⟩:=s
   cases o with
   | some r=>rfl
   | none =>
    dsimp only
    refine congrArg _ (funext fun _=>?_)
    have e3:∀ (f g:Nat→Bq→StateT SortSt Sem (ForInStep Bq)) (c:Bq) (k l:Bq→StateT SortSt Sem (ForInStep DX)),f=g→k=l→(forIn [:a.size+b.size] c f >>= k)=(forIn [:a.size+b.size] c g >>= l):=fun _ _ _ _ _ h h2=>by rw [h,h2]
    refine e3 _ _ _ _ _ (funext fun _=>funext fun c=>?_) (funext fun s=>?_)
    ·rfl
    ·obtain ⟨o,s⟩:=s
     cases o <;> rfl
 ·obtain ⟨o,s⟩:=s
  cases o <;> rfl
section
noncomputable def Fd (rk:Keyed→Int) (a b:Array Keyed) (n:Nat) (o:Option (Array Keyed)) (na nb:Nat) (out:Array Keyed):Prop:=(∃ r,o=some r∧Res rk a b r)∨(o=none∧iF rk a b out na nb∧na+nb≤n)
noncomputable def Fe (rk:Keyed→Int) (a b:Array Keyed) (n:Nat):ForInStep Bq→Prop
 | .done c=>Fd rk a b n c.1 c.2.1 c.2.2.1 c.2.2.2.1
 | .yield c=>c.1=none∧iF rk a b c.2.2.2.1 c.2.1 c.2.2.1∧c.2.1+c.2.2.1≤n
theorem n8 {st:SortSt} (W:WH rk a b out na nb) (ua:Up rk a) (ub:Up rk b) (la:1≤na) (lb:2≤nb) (ep:a[na - 1]?=some p)
 (hl:∀ (j:Nat) (r:Keyed),j<nb→b[j]?=some r→rk r≤rk p) (hn:na - 1+nb≤n) (hQ:∀ x,Fe rk a b n x→Q x st):wpS (model prog w) A E s (wK a b mg ac bc na nb out) Q st:=by
 unfold wK
 have W4:=W.gw ua la ep hl
 refine OQ (aR ep ?_)
 by_cases e9:na - 1=0
 ·rw [if_pos (by simpa using e9)]
  exact OR (hQ _ (.inl ⟨_,rfl,W4.jN ub e9⟩))
 rw [if_neg (by simpa using e9)]
 have hL:iF rk a b (out.push p) (na - 1) nb:=⟨W4,UA.mpr e9,lb⟩
 split
 ·exact OR (hQ _ (.inr ⟨rfl,hL,hn⟩))
 ·exact OR (hQ _ ⟨rfl,hL,hn⟩)
theorem n9 {st:SortSt} (hC:iY prog w A s κ rk L) (hk:kindOf st=κ) (ma:∀ (i:Nat) (p:Keyed),a[i]?=some p→p∈L) (mb:∀ (i:Nat) (p:Keyed),b[i]?=some p→p∈L)
 (fB:∀ {out:Array Keyed} {na nb:Nat},WH rk a b out na nb→nb=1→Res rk a b (Fc a b out na nb)) (W:WH rk a b out na nb) (ua:Up rk a) (ub:Up rk b) (la:1≤na) (lb:2≤nb) (eq:b[nb - 1]?=some q)
 (hl:∀ (j:Nat) (r:Keyed),j<na→a[j]?=some r→rk r≤rk q) (hn:na+nb≤n+2) (hQ:∀ x,Fe rk a b n x→Q x st):wpS (model prog w) A E s (wL a b mg ac bc na nb out) Q st:=by
 unfold wL
 have W2:=W.gv ub (Nat.le_of_succ_le lb) eq hl
 have hpa:=W.pa
 have hpb:=W.pb
 refine OQ (aR eq ?_)
 by_cases e5:nb - 1=1
 ·rw [if_pos (by simpa using e5)]
  exact OR (hQ _ (.inl ⟨_,rfl,fB W2 e5⟩))
 rw [if_neg (by simpa using e5)]
 have lb1:2≤nb - 1:=by lia
 obtain ⟨p,ep⟩:=some_at (xs:=a) (i:=na - 1) (by lia)
 refine OQ (aR ep ?_)
 refine OQ (rJ hC hk (ma _ _ ep) mb ub _ (by lia) (by lia) fun k hj1 hj2 hj3=>?_)
 dsimp only
 have dn2:∀ (i:Nat) (r:Keyed),i<k→b[i]?=some r→rk r<rk p:=fun i r z1 e6=>hj2 i r z1 (by rw [Q8]; exact e6)
 by_cases hj0:nb - 1 - k>0
 ·rw [if_pos hj0]
  have W3:=W2.rG ub (nb - 1 - k) k (UH hj1) fun i j r p' z1 z2 z3 e6 e7=>Pu (ua j (na - 1) p' p (Tf z3) e7 ep) (hj3 i r z1 (Nat.add_lt_add_left z2 0) (by rw [Q8]; exact e6))
  by_cases e8:k=1
  ·rw [if_pos (by simpa using e8)]
   exact OR (hQ _ (.inl ⟨_,rfl,fB W3 e8⟩))
  rw [if_neg (by simpa using e8)]
  by_cases e10:k=0
  ·rw [if_pos (by simpa using e10)]
   exact OR (hQ _ (.inl ⟨_,rfl,W3.jM ua e10⟩))
  rw [if_neg (by simpa using e10)]
  exact n8 W3 ua ub la (by lia) ep (fun j r hj e6=>QW (dn2 j r hj e6)) (by lia) hQ
 ·rw [if_neg hj0]
  exact n8 W2 ua ub la lb1 ep (fun j r hj e6=>QW (dn2 j r (by lia) e6)) (by lia) hQ
theorem oh {st:SortSt} (hC:iY prog w A s κ rk L) (hk:kindOf st=κ) (ma:∀ (i:Nat) (p:Keyed),a[i]?=some p→p∈L) (mb:∀ (i:Nat) (p:Keyed),b[i]?=some p→p∈L)
 (fB:∀ {out:Array Keyed} {na nb:Nat},WH rk a b out na nb→nb=1→Res rk a b (Fc a b out na nb)) (ua:Up rk a) (ub:Up rk b) (hL:iF rk a b out na nb) (hn:na+nb≤n) (hQ:∀ x st',cW st st'→Fe rk a b n x→Q x st') :
 wpS (model prog w) A E s (wM a b mg ac bc na nb out) Q st:=by
 unfold wM
 have W:=hL.w
 have la:=hL.la
 have lb:=hL.lb
 have hpa:=W.pa
 have hpb:=W.pb
 obtain ⟨q,eq⟩:=some_at (xs:=b) (i:=nb - 1) (by lia)
 refine OQ (fQ ?_)
 have Hq:=fun x=>hQ x _ ((cW.refl st).min mg)
 refine OQ (aR eq ?_)
 refine OQ (rH hC (by exact hk) (mb _ _ eq) ma ua _ (by lia) (by lia) fun k hk1 hk2 hk3=>?_)
 dsimp only
 have dn1:∀ (i:Nat) (p:Keyed),i<k→a[i]?=some p→rk p≤rk q:=fun i p z1 e3=>hk2 i p z1 (by rw [Q8]; exact e3)
 by_cases hk0:na - k>0
 ·rw [if_pos hk0]
  have Wk:=W.rF ua (na - k) k (UH hk1) fun i j p r z1 z2 z3 e3 e4=>Pu (ub j (nb - 1) r q (Tf z3) e4 eq) (QW (hk3 i p z1 (Nat.add_lt_add_left z2 0) (by rw [Q8]; exact e3)))
  by_cases e4:k=0
  ·rw [if_pos (by simpa using e4)]
   exact OR (Hq _ (.inl ⟨_,rfl,Wk.jN ub e4⟩))
  rw [if_neg (by simpa using e4)]
  exact n9 hC (by exact hk) ma mb fB Wk ua ub (UA.mpr e4) lb eq dn1 (by lia) Hq
 ·rw [if_neg hk0]
  exact n9 hC (by exact hk) ma mb fB W ua ub la lb eq (fun j r hj e3=>dn1 j r (by lia) e3) (by lia) Hq
theorem yv {st:SortSt} (hC:iY prog w A s κ rk L) (hk:kindOf st=κ) (ma:∀ (i:Nat) (p:Keyed),a[i]?=some p→p∈L) (mb:∀ (i:Nat) (p:Keyed),b[i]?=some p→p∈L)
 (fB:∀ {out:Array Keyed} {na nb:Nat},WH rk a b out na nb→nb=1→Res rk a b (Fc a b out na nb)) (ua:Up rk a) (ub:Up rk b) (hL:iF rk a b c.2.2.2.1 c.2.1 c.2.2.1) (hn:c.2.1+c.2.2.1≤n+1)
 (hQ:∀ o na nb out z y,Fd rk a b n o na nb out→Q (.done (o,na,nb,out,z)) st∧(o=none→Q (.yield (none,na,nb,out,y)) st)):wpS (model prog w) A E s (Bt a b mg c) Q st:=by
 obtain ⟨_,na,nb,out,ac,bc⟩:=c
 unfold Bt
 dsimp only at hL hn ⊢
 have W:=hL.w
 have la:=hL.la
 have lb:=hL.lb
 have hpa:=W.pa
 have hpb:=W.pb
 obtain ⟨q,eq⟩:=some_at (xs:=b) (i:=nb - 1) (by lia)
 obtain ⟨p,ep⟩:=some_at (xs:=a) (i:=na - 1) (by lia)
 refine OQ (aR eq (OQ (aR ep (OQ (lO hC hk (mb _ _ eq) (ma _ _ ep) ?_)))))
 dsimp only
 by_cases hw:rk q<rk p
 ·rw [decide_eq_true hw,if_pos rfl]
  have W1:=W.gw ua la ep fun j r hj e=>Pu (ub j (nb - 1) r q (Tf hj) e eq) (QW hw)
  refine OQ (aR ep ?_)
  by_cases e3:na - 1=0
  ·rw [if_pos (by simpa using e3)]
   exact OR (hQ _ _ _ _ _ (0,0) (.inl ⟨_,rfl,W1.jN ub e3⟩)).1
  rw [if_neg (by simpa using e3)]
  have z:=hQ none (na - 1) nb (out.push p) (ac+1,0) (ac+1,0) (.inr ⟨rfl,⟨W1,UA.mpr e3,lb⟩,by lia⟩)
  split
  ·exact OR z.1
  ·exact OR (z.2 rfl)
 ·rw [decide_eq_false hw,if_neg O0]
  have W1:=W.gv ub (Nat.le_of_succ_le lb) eq fun j r hj e=>Pu (ua j (na - 1) r p (Tf hj) e ep) (Int.not_lt.mp hw)
  refine OQ (aR eq ?_)
  by_cases e3:nb - 1=1
  ·rw [if_pos (by simpa using e3)]
   exact OR (hQ _ _ _ _ _ (0,0) (.inl ⟨_,rfl,fB W1 e3⟩)).1
  rw [if_neg (by simpa using e3)]
  have z:=hQ none na (nb - 1) (out.push q) (0,bc+1) (0,bc+1) (.inr ⟨rfl,⟨W1,la,by lia⟩,by lia⟩)
  split
  ·exact OR z.1
  ·exact OR (z.2 rfl)
theorem uJ {st:SortSt} (hC:iY prog w A s κ rk L) (hk:kindOf st=κ) (ma:∀ (i:Nat) (p:Keyed),a[i]?=some p→p∈L) (mb:∀ (i:Nat) (p:Keyed),b[i]?=some p→p∈L)
 (fB:∀ {out:Array Keyed} {na nb:Nat},WH rk a b out na nb→nb=1→Res rk a b (Fc a b out na nb)) (ua:Up rk a) (ub:Up rk b) (hL:iF rk a b c.2.2.2.1 c.2.1 c.2.2.1) (hn:c.2.1+c.2.2.1≤n+1) (hm:n+1≤a.size+b.size)
 (h1:∀ r z st',cW st st'→Res rk a b r→Q (.done (some r,z)) st') (h2:∀ na nb out g st',cW st st'→iF rk a b out na nb→na+nb≤n→Q (.yield (none,na,nb,out,g)) st'):wpS (model prog w) A E s (jO a b c) Q st:=by
 unfold jO
 refine OQ (Px (P7 (I:=fun y c st'=>st'=st∧c.1=none∧iF rk a b c.2.2.2.1 c.2.1 c.2.2.1∧y+c.2.1+c.2.2.1≤n+1) (Q:=fun c st'=>st'=st∧Fd rk a b n c.1 c.2.1 c.2.2.1 c.2.2.2.1) ?step ?fin ⟨rfl,rfl,hL,by dsimp only; lia⟩) ?post)
 case fin =>
  rintro c st' ⟨rfl,hc,hL',hx⟩
  exact ⟨rfl,.inr ⟨hc,hL',by lia⟩⟩
 case step =>
  rintro y c st' _ hy ⟨rfl,_,hL',hx⟩
  refine yv (n:=n - y) hC hk ma mb fB ua ub hL' (by have:=hL'.la; have:=hL'.lb; lia) fun o na nb out z y hR=>⟨?_,?_⟩
  ·refine ⟨rfl,?_⟩
   rcases hR with hR | ⟨q1,q2,q3⟩
   ·exact .inl hR
   ·exact .inr ⟨q1,q2,by dsimp only; lia⟩
  ·rintro rfl
   rcases hR with ⟨_,q,_⟩ | ⟨q1,q2,q3⟩
   ·cases q
   ·exact ⟨rfl,rfl,q2,by have:=q2.la; have:=q2.lb; dsimp only; lia⟩
 case post =>
  rintro ⟨o,na,nb,out,ac,bc⟩ st' ⟨rfl,hR⟩
  dsimp only at hR ⊢
  rcases hR with ⟨r,rfl,hr⟩ | ⟨rfl,hL2,hn2⟩
  ·exact OR (h1 r _ _ (.refl _) hr)
  refine OQ (Rg (Ql ⟨rfl,?_⟩))
  refine OQ (Px (P7 (I:=fun y c st''=>cW st' st''∧c.1=none∧iF rk a b c.2.2.2.1 c.2.1 c.2.2.1∧c.2.1+c.2.2.1≤n) (Q:=fun c st''=>cW st' st''∧Fd rk a b n c.1 c.2.1 c.2.2.1 c.2.2.2.1) ?gstep ?gfin ⟨.refl _,rfl,hL2,hn2⟩) ?gpost)
  case gfin=>exact fun c st'' ⟨q1,q2,q3,q4⟩=>⟨q1,.inr ⟨q2,q3,q4⟩⟩
  case gstep =>
   rintro y c st'' _ _ ⟨q1,q2,q3,q4⟩
   have key:wpS (model prog w) A E s (Br a b c) (fun x st3=>cW st'' st3∧Fe rk a b n x) st'':=by
    unfold Br
    split
    ·exact oh hC (q1.k.trans hk) ma mb fB ua ub q3 q4 fun x st3 k h=>⟨k,h⟩
    ·exact oh hC (q1.k.trans hk) ma mb fB ua ub q3 q4 fun x st3 k h=>⟨k,h⟩
   refine Px key fun x st3 ⟨k,h⟩=>?_
   cases x with
   | done c=>exact ⟨q1.trans k,h⟩
   | yield c=>exact ⟨q1.trans k,h⟩
  case gpost =>
   rintro ⟨o,na,nb,out,g,ac,bc⟩ st'' ⟨q1,hR⟩
   dsimp only at hR ⊢
   rcases hR with ⟨r,rfl,hr⟩ | ⟨rfl,hL3,hn3⟩
   ·exact OR (h1 r _ _ q1 hr)
   ·exact OQ (fQ (OR (h2 _ _ _ _ _ (q1.min _) hL3 hn3)))
theorem rP {st:SortSt} (hC:iY prog w A s κ rk L) (hk:kindOf st=κ) (ma:∀ (i:Nat) (p:Keyed),a[i]?=some p→p∈L) (mb:∀ (i:Nat) (p:Keyed),b[i]?=some p→p∈L) (ua:Up rk a) (ub:Up rk b) (na1:1≤a.size) (nb1:1≤b.size)
 (h0:∀ p q,a[0]?=some p→b[0]?=some q→rk q≤rk p) (hl:∀ (j:Nat) (p q:Keyed),a[a.size - 1]?=some p→b[j]?=some q→rk q≤rk p) (h:∀ r st',Res rk a b r→cW st st'→Q r st'):wpS (model prog w) A E s (lU a b) Q st:=by
 obtain ⟨p0,ep0⟩:=some_at (xs:=a) (i:=0) na1
 have firstB:∀ {out:Array Keyed} {na nb:Nat},WH rk a b out na nb→nb=1→Res rk a b (Fc a b out na nb):=fun hw e=>hw.first ua e fun j p q e1 e2=>Pu (h0 p0 q ep0 e2) (ua 0 j p0 p (Pn _) ep0 e1)
 obtain ⟨pl,epl⟩:=some_at (xs:=a) (i:=a.size - 1) (by lia)
 have W0:WH rk a b #[pl] (a.size - 1) b.size:=by
  have z:WH rk a b #[] a.size b.size:=⟨OP _,OP _,by simp,Sk,by simp,by simp⟩
  exact z.gw ua na1 epl fun j q _ e=>hl j pl q epl e
 rw [rN]
 refine OQ (Rg (Ql ⟨rfl,?_⟩))
 refine OQ (aR epl ?_)
 by_cases e1:a.size - 1=0
 ·rw [if_pos (by simpa using e1)]
  exact OR (h _ _ (W0.jN ub e1) (.refl _))
 rw [if_neg (by simpa using e1)]
 by_cases e2:b.size=1
 ·rw [if_pos (by simpa using e2)]
  exact OR (h _ _ (firstB W0 e2) (.refl _))
 rw [if_neg (by simpa using e2)]
 refine OQ (Qt ?_)
 refine OQ (Px (P7 (I:=fun x c st'=>cW st st'∧c.1=none∧iF rk a b c.2.2.2.1 c.2.1 c.2.2.1∧x+c.2.1+c.2.2.1<a.size+b.size) (Q:=fun c st'=>cW st st'∧∃ r,c.1=some r∧Res rk a b r) ?step ?fin ⟨.refl _,rfl,⟨W0,by dsimp only; lia,by dsimp only; lia⟩,by dsimp only; lia⟩) ?post)
 case fin =>
  rintro c st' ⟨hK,hc,hL,hx⟩
  have h1:=hL.la
  lia
 case post =>
  rintro c st' ⟨hK,r,hc,hr⟩
  rw [hc]
  exact OR (h r st' hr hK)
 case step =>
  rintro x c st1 _ hx ⟨hK,_,hL,hn⟩
  have l1:=hL.la
  have l2:=hL.lb
  exact uJ (n:=a.size+b.size - x - 2) hC (hK.k.trans hk) ma mb firstB ua ub hL (by lia) (by lia) (fun r z st' k hr=>⟨hK.trans k,r,rfl,hr⟩) fun na nb out g st' k q1 q2=>⟨hK.trans k,rfl,q1,by have:=q1.la; dsimp only; lia⟩
end
noncomputable def Seg (rk:Keyed→Int) (xs:Array Keyed) (lo hi:Nat):Prop:=∀ i j,lo≤i→i≤j→j<hi→R rk xs i≤R rk xs j
noncomputable def GU (rk:Keyed→Int) (xs:Array Keyed) (lo hi:Nat):Prop:=∀ i j,lo≤i→i≤j→j<hi→R rk xs j≤R rk xs i
structure Bs (κ:SortKind) (L:List Keyed) (st:SortSt):Prop where
 perm:(arrOf st).toList.Perm L
 kind:kindOf st=κ
 failed:failedOf st=none
structure Mv (st st':SortSt) (lo hi:Nat):Prop where
 out:∀ i,i<lo∨hi≤i→(arrOf st')[i]?=(arrOf st)[i]?
 pend:pendingOf st'=pendingOf st
section
variable {st st' st'':SortSt} {lo hi:Nat}
theorem Bs.size (h:Bs κ L st):(arrOf st).size=L.length:=by simpa using h.perm.length_eq
theorem Bs.at (h:Bs κ L st) (hi:i<L.length):∃ p,(arrOf st)[i]?=some p∧p∈L:=by
 have hs:=h.size
 refine ⟨(arrOf st)[i]'(by lia),Pj _,h.perm.mem_iff.mp ?_⟩
 rw [UE]; exact UZ _
theorem Bs.arr (h:Bs κ L st) (hp:xs.toList.Perm (arrOf st).toList):Bs κ L (setArr st xs):=⟨hp.trans h.perm,h.kind,h.failed⟩
theorem Mv.refl:Mv st st lo hi:=⟨fun _ _=>rfl,rfl⟩
theorem Mv.trans (a:Mv st st' lo hi) (b:Mv st' st'' lo hi):Mv st st'' lo hi:=⟨fun i h=>(b.out i h).trans (a.out i h),b.pend.trans a.pend⟩
theorem Bu (hj:j≤xs.size) (k):R rk (mirror xs i j ((j - i) / 2)) k=if i≤k∧k<j then R rk xs (i+j - 1 - k) else R rk xs k:=by
 have e:=getElem?_mirror_all (i:=i) hj k
 by_cases h:i≤k∧k<j
 ·rw [if_pos h] at e ⊢; exact b9 e
 ·rw [if_neg h] at e ⊢; exact b9 e
theorem lV (hj:j≤(arrOf st).size) (h1:lo≤i) (h2:j≤hi):Mv st (setArr st (mirror (arrOf st) i j ((j - i) / 2))) lo hi :=
 ⟨fun k hk=>by
   have e:=getElem?_mirror_all (i:=i) hj k
   rw [if_neg (by lia)] at e; exact e,rfl⟩
theorem Ff (i) (xs):Seg rk xs i (i+1):=fun a b h1 h2 h3=>by
 have:a=b:=by lia
 subst this; exact Qk _
theorem Bv (h:Seg rk xs lo (lo+n)) (hn:1≤n) (hl:¬ R rk xs (lo+n)<R rk xs (lo+n - 1)):Seg rk xs lo (lo+(n+1)):=fun a b h1 h2 h3=>by
 by_cases hb:b<lo+n
 ·exact h a b h1 h2 hb
 ·have e:b=lo+n:=by lia
  subst e
  by_cases ha:a=lo+n
  ·subst ha; exact Qk _
  ·exact Pu (h a (lo+n - 1) h1 (by lia) (by lia)) (Int.not_lt.mp hl)
theorem gx (h:GU rk xs lo (lo+n)) (hn:1≤n) (hl:R rk xs (lo+n)≤R rk xs (lo+n - 1)):GU rk xs lo (lo+(n+1)):=fun a b h1 h2 h3=>by
 by_cases hb:b<lo+n
 ·exact h a b h1 h2 hb
 ·have e:b=lo+n:=by lia
  subst e
  by_cases ha:a=lo+n
  ·subst ha; exact Qk _
  ·exact Pu hl (h a (lo+n - 1) h1 (by lia) (by lia))
end
section
variable {st:SortSt} {lo nrem:Nat}
theorem lW (hC:iY prog w A s κ rk L) (hB:Bs κ L st) (hi:i<L.length) (hj:j<L.length) (h:Q (some (decide (R rk (arrOf st) i<R rk (arrOf st) j))) st):wpS (model prog w) A E s (ltAt' i j) Q st:=by
 obtain ⟨p,ep,hp⟩:=hB.at hi
 obtain ⟨q,eq,hq⟩:=hB.at hj
 exact yt hC hB.kind ep eq hp hq h
theorem eX (h:Q () (setArr st (mirror (arrOf st) i j ((j - i) / 2)))):wpS (model prog w) A E s (reverseSlice' i j) Q st :=
 QF (f:=fun s=>setArr s (mirror (arrOf s) i j ((j - i) / 2))) h
noncomputable abbrev LU:=Option (Option Nat)×Nat
noncomputable def asc (lo a nrem:Nat):StateT SortSt Sem LU :=
 forIn [a:nrem] ((none,a):LU) fun _ c=>ltAt' (lo+c.2) (lo+c.2 - 1) >>= fun x=>match x with
  | some smaller=>if smaller=true then pure (Qq (none,c.2)) else pure (PV (none,c.2+1))
  | _=>pure (Qq (some none,c.2))
theorem wN (hC:iY prog w A s κ rk L) (hB:Bs κ L st) (hn:lo+nrem≤L.length) (h1:1≤a) (h2:a≤nrem) (hs:Seg rk (arrOf st) lo (lo+a))
 (h:∀ n,a≤n→n≤nrem→Seg rk (arrOf st) lo (lo+n)→(n=nrem∨R rk (arrOf st) (lo+n)<R rk (arrOf st) (lo+n - 1))→Q (none,n) st):wpS (model prog w) A E s (asc lo a nrem) Q st:=by
 unfold asc
 refine P7 (I:=fun x c st'=>st'=st∧c=(none,x)∧Seg rk (arrOf st) lo (lo+x)) ?step ?fin ⟨rfl,rfl,hs⟩
 case fin =>
  rintro c st' ⟨rfl,rfl,hs'⟩
  rw [show max a nrem=nrem by lia] at hs' ⊢
  exact h nrem h2 (OP _) hs' (.inl rfl)
 case step =>
  rintro x c st' hax hxn ⟨rfl,rfl,hs'⟩
  refine OQ (lW hC hB (by dsimp only; lia) (by dsimp only; lia) ?_)
  dsimp only
  by_cases hl:R rk (arrOf st') (lo+x)<R rk (arrOf st') (lo+x - 1)
  ·rw [decide_eq_true hl,if_pos rfl]
   exact OR (h x hax (by lia) hs' (.inr hl))
  ·rw [decide_eq_false hl,if_neg O0]
   exact OR ⟨rfl,rfl,Bv hs' (by lia) hl⟩
noncomputable abbrev LV:=Option (Option Nat)×Nat×Nat
noncomputable def LW (lo n nrem:Nat):StateT SortSt Sem LV :=
 forIn [n:nrem] ((none,n,0):LV) fun _ c=>ltAt' (lo+c.2.1) (lo+c.2.1 - 1) >>= fun x=>match x with
  | some smaller=>if smaller=true then
   (if c.2.2>0 then reverseSlice' (lo+c.2.1 - (c.2.2+1)) (lo+c.2.1) >>= fun _=>pure (PV (none,c.2.1+1,0)) else pure (PV (none,c.2.1+1,0)))
   else ltAt' (lo+c.2.1 - 1) (lo+c.2.1) >>= fun y=>match y with
    | some larger=>if larger=true then pure (Qq (none,c.2.1,c.2.2)) else pure (PV (none,c.2.1+1,c.2.2+1))
    | _=>pure (Qq (some none,c.2.1,c.2.2))
  | _=>pure (Qq (some none,c.2.1,c.2.2))
theorem jl (hj:j≤xs.size) (he:∀ k,i≤k→k<j→R rk xs k=R rk xs (j - 1)) (k):R rk (mirror xs i j ((j - i) / 2)) k=R rk xs k:=by
 rw [Bu hj]
 split
 ·rw [he _ (by lia) (by lia),he k (by lia) (by lia)]
 ·rfl
theorem Fg (hC:iY prog w A s κ rk L) (hB:Bs κ L st) (hn:lo+nrem≤L.length) (h1:1≤n) (h2:n≤nrem) (hs:GU rk (arrOf st) lo (lo+n))
 (h:∀ m neq st',Bs κ L st'→Mv st st' lo (lo+nrem)→n≤m→m≤nrem→GU rk (arrOf st') lo (lo+m)→neq+1≤m→(∀ i,lo+m - (neq+1)≤i→i<lo+m→R rk (arrOf st') i=R rk (arrOf st') (lo+m - 1))→Q (none,m,neq) st') :
 wpS (model prog w) A E s (LW lo n nrem) Q st:=by
 unfold LW
 refine P7 (I:=fun x c st'=>∃ neq,c=(none,x,neq)∧Bs κ L st'∧Mv st st' lo (lo+nrem)∧GU rk (arrOf st') lo (lo+x)∧neq+1≤x∧(∀ i,lo+x - (neq+1)≤i→i<lo+x→R rk (arrOf st') i=R rk (arrOf st') (lo+x - 1))) ?step ?fin
  ⟨0,rfl,hB,.refl,hs,h1,fun i a1 a2=>by congr 1; lia⟩
 case fin =>
  rintro c st' ⟨neq,rfl,j6,hM',hs',hq,he⟩
  rw [show max n nrem=nrem by lia] at hs' hq he ⊢
  exact h nrem neq st' j6 hM' h2 (OP _) hs' hq he
 case step =>
  rintro x c st' hax hxn ⟨neq,rfl,j6,hM',hs',hq,he⟩
  have hsz:=j6.size
  refine OQ (lW hC j6 (by dsimp only; lia) (by dsimp only; lia) ?_)
  dsimp only
  by_cases hl:R rk (arrOf st') (lo+x)<R rk (arrOf st') (lo+x - 1)
  ·rw [decide_eq_true hl,if_pos rfl]
   by_cases hq0:neq>0
   ·rw [if_pos hq0]
    have key:=jl (rk:=rk) (xs:=arrOf st') (i:=lo+x - (neq+1)) (j:=lo+x) (by lia) he
    refine OQ (eX (OR ⟨0,rfl,j6.arr (RG.mp (SH _ _ _ _)),hM'.trans (lV (by lia) (by lia) (by lia)),?_,by lia,fun i a1 a2=>by congr 1; lia⟩))
    refine gx (fun a b z1 z2 z3=>?_) (by lia) ?_
    ·show R rk (mirror _ _ _ _) b≤R rk (mirror _ _ _ _) a
     rw [key,key]; exact hs' a b z1 z2 z3
    ·show R rk (mirror _ _ _ _) _≤R rk (mirror _ _ _ _) _
     rw [key,key]; lia
   ·rw [if_neg hq0]
    exact OR ⟨0,rfl,j6,hM',gx hs' (by lia) (by lia),by lia,fun i a1 a2=>by congr 1; lia⟩
  ·rw [decide_eq_false hl,if_neg O0]
   refine OQ (lW hC j6 (by lia) (by lia) ?_)
   dsimp only
   by_cases hg:R rk (arrOf st') (lo+x - 1)<R rk (arrOf st') (lo+x)
   ·rw [decide_eq_true hg,if_pos rfl]
    exact OR (h x neq st' j6 hM' hax (by lia) hs' hq he)
   ·rw [decide_eq_false hg,if_neg O0]
    have heq:R rk (arrOf st') (lo+x)=R rk (arrOf st') (lo+x - 1):=by lia
    refine OR ⟨neq+1,rfl,j6,hM',gx hs' (by lia) (by lia),by lia,fun i a1 a2=>?_⟩
    rw [show lo+(x+1) - 1=lo+x by lia]
    by_cases hi:i=lo+x
    ·rw [hi]
    ·rw [heq]; exact he i (by lia) (by lia)
noncomputable def countRun':Nat→Nat→StateT SortSt Sem (Option Nat):=sortPriv% PySem.Builtin.countRun
theorem jm {Q:Option Nat→SortSt→Prop} (hC:iY prog w A s κ rk L) (hB:Bs κ L st) (hn:lo+nrem≤L.length) (h1:1≤n) (h2:n≤nrem) (hs:GU rk (arrOf st) lo (lo+n))
 (h:∀ m st',Bs κ L st'→Mv st st' lo (lo+nrem)→1≤m→m≤nrem→Seg rk (arrOf st') lo (lo+m)→Q (some m) st') :
 wpS (model prog w) A E s (asc lo n nrem) (fun c st'=>c.1=none∧Q (some c.2) st') (setArr st (mirror (arrOf st) lo (lo+n) ((lo+n - lo) / 2))):=by
 have hsz:=hB.size
 have j6:=hB.arr (RG.mp (SH (arrOf st) lo (lo+n) ((lo+n - lo) / 2)))
 refine wN hC j6 hn h1 h2 (fun a b z1 z2 z3=>?_) fun m m1 m2 ms _=>⟨rfl,h m _ j6 (lV (by lia) (OP _) (by lia)) (by lia) m2 ms⟩
 show R rk (mirror _ _ _ _) a≤R rk (mirror _ _ _ _) b
 rw [Bu (by lia),Bu (by lia),if_pos (by lia),if_pos (by lia)]
 exact hs _ _ (by lia) (by lia) (by lia)
local macro_rules | `(tactic| walk_at "dl countRun")=>do
 let i:=Ru (Rj `PySem.Builtin.List.W1All `PySem.Builtin.countRun)
 `(tactic| delta $i)
theorem wpS_countRun (hC:iY prog w A s κ rk L) (hB:Bs κ L st) (hn:lo+nrem≤L.length) (h1:1≤nrem)
 (h:∀ m st',Bs κ L st'→Mv st st' lo (lo+nrem)→1≤m→m≤nrem→Seg rk (arrOf st') lo (lo+m)→Q (some m) st'):wpS (model prog w) A E s (countRun' lo nrem) Q st:=by
 unfold countRun'
 walk_at "dl countRun"
 dsimp only
 have hsz:=hB.size
 refine OQ (show wpS _ _ _ _ (asc lo 1 nrem) _ _ from wN hC hB hn (OP _) h1 (Ff lo _) fun n n1 n2 ns nor=>?_)
 dsimp only
 by_cases hnn:n=nrem
 ·rw [if_pos (by simpa using hnn)]
  exact OR (h n st hB .refl n1 n2 ns)
 rw [if_neg (by simpa using hnn)]
 have hlt:=nor.resolve_left hnn
 have rest:∀ (st1:SortSt),Bs κ L st1→Mv st st1 lo (lo+nrem)→GU rk (arrOf st1) lo (lo+(n+1))→wpS (model prog w) A E s (LW lo (n+1) nrem) (fun c st2=>Bs κ L st2∧Mv st st2 lo (lo+nrem)∧c.1=none∧n+1≤c.2.1∧c.2.1≤nrem∧GU rk (arrOf st2) lo (lo+c.2.1)∧c.2.2+1≤c.2.1∧(∀ i,lo+c.2.1 - (c.2.2+1)≤i→i<lo+c.2.1→R rk (arrOf st2) i=R rk (arrOf st2) (lo+c.2.1 - 1))) st1 :=
  fun st1 hB1 hM1 hs1=>Fg hC hB1 hn (by lia) (by lia) hs1 fun m neq st2 a1 a2 a3 a4 a5 a6 a7=>⟨a1,hM1.trans a2,rfl,a3,a4,a5,a6,a7⟩
 by_cases hgt:n>1
 ·rw [if_pos hgt]
  refine OQ (lW hC hB (by lia) (by lia) ?_)
  dsimp only
  by_cases hrose:R rk (arrOf st) lo<R rk (arrOf st) (lo+n - 1)
  ·rw [decide_eq_true hrose,if_pos rfl]
   exact OR (h n st hB .refl n1 n2 ns)
  ·rw [decide_eq_false hrose,if_neg O0]
   have hall:∀ k,lo≤k→k<lo+n→R rk (arrOf st) k=R rk (arrOf st) (lo+n - 1):=fun k z1 z2=>by
    have a1:=ns lo k (OP _) z1 z2
    have a2:=ns k (lo+n - 1) z1 (by lia) (by lia)
    lia
   have key:=jl (rk:=rk) (xs:=arrOf st) (i:=lo) (j:=lo+n) (by lia) hall
   refine OQ (eX ?_)
   refine OQ (Rg (Ql ⟨rfl,?_⟩))
   refine OQ (Px (show wpS _ _ _ _ (LW lo (n+1) nrem) _ _ from rest _ (hB.arr (RG.mp (SH _ _ _ _))) (lV (by lia) (OP _) (by lia)) (gx (fun a b z1 z2 z3=>?_) (by lia) ?_)) fun c st2 hc=>?_)
   ·show R rk (mirror _ _ _ _) b≤R rk (mirror _ _ _ _) a
    rw [key,key,hall b (by lia) z3,hall a z1 (by lia)]; exact Qk _
   ·show R rk (mirror _ _ _ _) _≤R rk (mirror _ _ _ _) _
    rw [key,key]; lia
   ·obtain ⟨r,m,neq⟩:=c
    obtain ⟨b1,b2,b3,b4,b5,b6,b7,b8⟩:=hc
    dsimp only at b3 b4 b5 b6 b7 b8 ⊢
    rw [b3]
    dsimp only
    by_cases hq0:neq>0
    ·rw [if_pos hq0]
     have hsz2:=b1.size
     have key2:=jl (rk:=rk) (xs:=arrOf st2) (i:=lo+m - (neq+1)) (j:=lo+m) (by lia) b8
     refine OQ (eX (OQ (eX (OQ (Px (show wpS _ _ _ _ (asc lo m nrem) _ _ from jm (Q:=Q) hC (b1.arr (RG.mp (SH _ _ _ _))) hn (by lia) b5 (fun a b z1 z2 z3=>?_) fun k st3 c1 c2 c3 c4 c5=>h k st3 c1 ((b2.trans (lV (by lia) (by lia) (by lia))).trans c2) c3 c4 c5) fun c st4 hc=>?_)))))
     ·show R rk (mirror _ _ _ _) b≤R rk (mirror _ _ _ _) a
      rw [key2,key2]; exact b6 a b z1 z2 z3
     ·obtain ⟨r,k⟩:=c
      obtain ⟨e,hQ⟩:=hc
      dsimp only at e hQ ⊢
      rw [e]
      exact OR hQ
    ·rw [if_neg hq0]
     refine OQ (eX (OQ (Px (show wpS _ _ _ _ (asc lo m nrem) _ _ from jm (Q:=Q) hC b1 hn (by lia) b5 b6 fun k st3 c1 c2 c3 c4 c5=>h k st3 c1 (b2.trans c2) c3 c4 c5) fun c st4 hc=>?_)))
     obtain ⟨r,k⟩:=c
     obtain ⟨e,hQ⟩:=hc
     dsimp only at e hQ ⊢
     rw [e]
     exact OR hQ
 ·rw [if_neg hgt]
  have e1:n=1:=by lia
  subst e1
  refine OQ (Rg (Ql ⟨rfl,?_⟩))
  refine OQ (Px (show wpS _ _ _ _ (LW lo (1+1) nrem) _ _ from rest st hB .refl (gx (fun a b z1 z2 z3=>?_) (OP _) (QW hlt))) fun c st2 hc=>?_)
  ·have:a=b:=by lia
   subst this; exact Qk _
  ·obtain ⟨r,m,neq⟩:=c
   obtain ⟨b1,b2,b3,b4,b5,b6,b7,b8⟩:=hc
   dsimp only at b3 b4 b5 b6 b7 b8 ⊢
   rw [b3]
   dsimp only
   by_cases hq0:neq>0
   ·rw [if_pos hq0]
    have hsz2:=b1.size
    have key2:=jl (rk:=rk) (xs:=arrOf st2) (i:=lo+m - (neq+1)) (j:=lo+m) (by lia) b8
    refine OQ (eX (OQ (eX (OQ (Px (show wpS _ _ _ _ (asc lo m nrem) _ _ from jm (Q:=Q) hC (b1.arr (RG.mp (SH _ _ _ _))) hn (by lia) b5 (fun a b z1 z2 z3=>?_) fun k st3 c1 c2 c3 c4 c5=>h k st3 c1 ((b2.trans (lV (by lia) (by lia) (by lia))).trans c2) c3 c4 c5) fun c st4 hc=>?_)))))
    ·show R rk (mirror _ _ _ _) b≤R rk (mirror _ _ _ _) a
     rw [key2,key2]; exact b6 a b z1 z2 z3
    ·obtain ⟨r,k⟩:=c
     obtain ⟨e,hQ⟩:=hc
     dsimp only at e hQ ⊢
     rw [e]
     exact OR hQ
   ·rw [if_neg hq0]
    refine OQ (eX (OQ (Px (show wpS _ _ _ _ (asc lo m nrem) _ _ from jm (Q:=Q) hC b1 hn (by lia) b5 b6 fun k st3 c1 c2 c3 c4 c5=>h k st3 c1 (b2.trans c2) c3 c4 c5) fun c st4 hc=>?_)))
    obtain ⟨r,k⟩:=c
    obtain ⟨e,hQ⟩:=hc
    dsimp only at e hQ ⊢
    rw [e]
    exact OR hQ
end
section
variable {st:SortSt} {lo:Nat}
theorem GV (hs:src<xs.size) (hd:d≤src) (k):R rk (bubble xs src d) k=if k=src - d then R rk xs src else if src - d<k∧k≤src then R rk xs (k - 1) else R rk xs k:=by
 have e:=getElem?_bubble hs d hd k
 by_cases h1:k=src - d
 ·rw [if_pos h1] at e ⊢; exact b9 e
 ·rw [if_neg h1] at e ⊢
  by_cases h2:src - d<k∧k≤src
  ·rw [if_pos h2] at e ⊢; exact b9 e
  ·rw [if_neg h2] at e ⊢; exact b9 e
theorem Bw (h:Q () (setArr st (bubble (arrOf st) i (i - j)))):wpS (model prog w) A E s (moveDown' i j) Q st :=
 QF (f:=fun s=>setArr s (bubble (arrOf s) i (i - j))) h
noncomputable def binarySort':Nat→Nat→Nat→StateT SortSt Sem Bool:=sortPriv% PySem.Builtin.binarySort
local macro_rules | `(tactic| walk_at "dl binarySort")=>do
 let i:=Ru (Rj `PySem.Builtin.List.W1All `PySem.Builtin.binarySort)
 `(tactic| delta $i)
theorem wpS_binarySort (hC:iY prog w A s κ rk L) (hB:Bs κ L st) (hn:lo+n≤L.length) (hok:ok≤n) (hs:Seg rk (arrOf st) lo (lo+ok))
 (h:∀ st',Bs κ L st'→Mv st st' lo (lo+n)→Seg rk (arrOf st') lo (lo+n)→Q true st'):wpS (model prog w) A E s (binarySort' lo n ok) Q st:=by
 unfold binarySort'
 walk_at "dl binarySort"
 dsimp only
 refine OQ (Px (P7 (I:=fun k c st'=>c.1=none∧Bs κ L st'∧Mv st st' lo (lo+n)∧Seg rk (arrOf st') lo (lo+min k n)) (Q:=fun c st'=>c.1=none∧Bs κ L st'∧Mv st st' lo (lo+n)∧Seg rk (arrOf st') lo (lo+n)) ?step ?fin ?init) ?post)
 case post =>
  rintro ⟨c,u⟩ st' ⟨hc,j6,hM',hs'⟩
  dsimp only at hc ⊢
  rw [hc]
  exact OR (h st' j6 hM' hs')
 case init =>
  refine ⟨rfl,hB,.refl,fun a b z1 z2 z3=>?_⟩
  by_cases h1:ok=0
  ·have:a=b:=by lia
   subst this; exact Qk _
  ·exact hs a b z1 z2 (by lia)
 case fin =>
  rintro c st' ⟨hc,j6,hM',hs'⟩
  rw [show min (max (max ok 1) n) n=n by lia] at hs'
  exact ⟨hc,j6,hM',hs'⟩
 case step =>
  rintro k ⟨c,u⟩ st' hak hkn ⟨rfl,j6,hM',hs'⟩
  rw [show min k n=k by lia] at hs'
  have hsz:=j6.size
  refine OQ (Px (P7 (I:=fun x c st2=>st2=st'∧∃ l r,c=(none,l,r)∧l≤r∧r≤k∧r - l≤k - x∧(∀ i,i<l→R rk (arrOf st') (lo+i)≤R rk (arrOf st') (lo+k))∧(∀ i,r≤i→i<k→R rk (arrOf st') (lo+k)<R rk (arrOf st') (lo+i)))
   (Q:=fun c st2=>st2=st'∧∃ l r,c=(none,l,r)∧l≤k∧(∀ i,i<l→R rk (arrOf st') (lo+i)≤R rk (arrOf st') (lo+k))∧(∀ i,l≤i→i<k→R rk (arrOf st') (lo+k)<R rk (arrOf st') (lo+i))) ?istep ?ifin ⟨rfl,0,k,rfl,by lia,by lia,by lia,fun i hi=>by lia,fun i h1 h2=>by lia⟩) ?ipost)
  case ifin =>
   rintro c st2 ⟨rfl,l,r,rfl,a1,a2,a3,a4,a5⟩
   have:l=r:=by lia
   subst this
   exact ⟨rfl,l,l,rfl,a2,a4,a5⟩
  case istep =>
   rintro x c st2 _ hx ⟨rfl,l,r,rfl,a1,a2,a3,a4,a5⟩
   dsimp only
   by_cases hge:l≥r
   ·rw [if_pos hge]
    have:l=r:=by lia
    subst this
    exact OR ⟨rfl,l,l,rfl,a2,a4,a5⟩
   ·rw [if_neg hge]
    refine OQ (lW hC j6 (by lia) (by lia) ?_)
    dsimp only
    by_cases hl:R rk (arrOf st2) (lo+k)<R rk (arrOf st2) (lo+(l+r) / 2)
    ·rw [decide_eq_true hl,if_pos rfl]
     refine OR ⟨rfl,l,(l+r) / 2,rfl,by lia,by lia,by lia,a4,fun i h1 h2=>?_⟩
     exact Int.lt_of_lt_of_le hl (hs' _ _ (by lia) (by lia) (by lia))
    ·rw [decide_eq_false hl,if_neg O0]
     refine OR ⟨rfl,(l+r) / 2+1,r,rfl,by lia,by lia,by lia,fun i h1=>?_,a5⟩
     exact Pu (hs' (lo+i) (lo+(l+r) / 2) (by lia) (by lia) (by lia)) (Int.not_lt.mp hl)
  case ipost =>
   rintro c st2 ⟨rfl,l,r,rfl,hlk,a4,a5⟩
   dsimp only
   have e1:lo+k - (lo+l)=k - l:=by lia
   refine OQ (Bw (OR ⟨rfl,j6.arr (RG.mp (bubble_perm _ _ _)),?_,?_⟩))
   ·refine hM'.trans ⟨fun i hi=>?_,rfl⟩
    have e:=getElem?_bubble (xs:=arrOf st2) (src:=lo+k) (by lia) (lo+k - (lo+l)) (by lia) i
    rw [if_neg (by lia),if_neg (by lia)] at e
    exact e
   ·rw [show min (k+1) n=k+1 by lia]
    intro i j hi hij hj
    show R rk (bubble (arrOf st2) (lo+k) (lo+k - (lo+l))) i≤R rk (bubble (arrOf st2) (lo+k) (lo+k - (lo+l))) j
    rw [GV (by lia) (by lia),GV (by lia) (by lia),e1]
    have sub:∀ i,lo≤i→lo+(i - lo)=i:=fun i hi=>by lia
    have f4:∀ i,lo≤i→i<lo+l→R rk (arrOf st2) i≤R rk (arrOf st2) (lo+k):=fun i h1 h2=>by have:=a4 (i - lo) (by lia); rwa [sub i h1] at this
    have f5:∀ i,lo+l≤i→i<lo+k→R rk (arrOf st2) (lo+k)<R rk (arrOf st2) i:=fun i h1 h2=>by have:=a5 (i - lo) (by lia) (by lia); rwa [sub i (by lia)] at this
    repeat' split
    all_goals first
     | (exfalso; lia)
     | exact Qk _
     | exact f4 _ (by lia) (by lia)
     | exact QW (f5 _ (by lia) (by lia))
     | exact hs' _ _ (by lia) (by lia) (by lia)
theorem oi:∀ (l:List Keyed) (k sa:Nat) (A:Array Keyed),sa+k+l.length≤A.size→((l.zipIdx k).foldl (fun a (x:Keyed×Nat)=>a.setIfInBounds (sa+x.2) x.1) A).size=A.size ∧
 ∀ i:Nat,((l.zipIdx k).foldl (fun a (x:Keyed×Nat)=>a.setIfInBounds (sa+x.2) x.1) A)[i]?=if sa+k≤i∧i<sa+k+l.length then l[i - (sa+k)]? else A[i]?
 | [],k,sa,A,h=>⟨rfl,fun i=>by rw [if_neg (by simp only [QD]; lia)]; rfl⟩
 | x::l,k,sa,A,h=>by
  rw [Pr] at h
  obtain ⟨h1,h2⟩:=oi l (k+1) sa (A.setIfInBounds (sa+k) x) (by rw [Array.size_setIfInBounds]; lia)
  rw [List.zipIdx_cons,Qo]
  refine ⟨by rw [h1,Array.size_setIfInBounds],fun i=>?_⟩
  rw [h2 i,Pr]
  by_cases c1:sa+(k+1)≤i∧i<sa+(k+1)+l.length
  ·rw [if_pos c1,if_pos (by lia),show i - (sa+k)=i - (sa+(k+1))+1 by lia,List.getElem?_cons_succ]
  ·rw [if_neg c1]
   by_cases c2:i=sa+k
   ·subst c2
    rw [if_pos (by lia),Nat.sub_self,List.getElem?_cons_zero,Array.getElem?_setIfInBounds_self_of_lt (by lia)]
   ·rw [if_neg (by lia),Array.getElem?_setIfInBounds_ne (by lia)]
end
noncomputable def iI:Nat→StateT SortSt Sem Bool:=sortPriv% PySem.Builtin.mergeAt
local macro_rules | `(tactic| walk_at "dl mergeAt")=>do
 let i:=Ru (Rj `PySem.Builtin.List.W1All `PySem.Builtin.mergeAt)
 `(tactic| delta $i)
section
variable {st:SortSt}
theorem Fi (h:Q ⟨⟩ st1):wpS M A E s (set st1:StateT SortSt Sem PUnit) Q st:=by
 unfold wpS; rw [StateT.run_set]; exact OO ⟨rfl,h⟩
theorem yw (hC:iY prog w A s κ rk L) (hk:kindOf st=κ) (hkey:key∈L) (mx:∀ (i:Nat) (p:Keyed),xs[i]?=some p→p∈L) (hn:base+n≤xs.size) (us:Seg rk xs base (base+n)) (hh:hint<n)
 (h:∀ k,k≤n→(∀ i,base≤i→i<base+k→R rk xs i≤rk key)→(∀ i,base+k≤i→i<base+n→rk key<R rk xs i)→Q (some k) st):wpS (model prog w) A E s (cU false key xs base n hint) Q st:=by
 obtain ⟨k,h1,h2⟩:=lR (fun i=>R rk xs (base+i)) (rk key) n fun i j hij hj=>us _ _ (by lia) (by lia) (by lia)
 refine fP hC hk hkey (fun i hi=>⟨xs[base+i]'(by lia),Pj _,mx _ _ (Pj _)⟩) (fun i hi=>by simp only [PR,if_false]; exact h2 i hi) h1 hh (h k h1 (fun i hi hk=>?_) fun i hi hk=>?_)
 ·have:=(h2 (i - base) (by lia)).mpr (by lia)
  rwa [show base+(i - base)=i by lia] at this
 ·have:=mt (h2 (i - base) (by lia)).mp (by lia)
  rw [show base+(i - base)=i by lia] at this
  lia
theorem yx (hC:iY prog w A s κ rk L) (hk:kindOf st=κ) (hkey:key∈L) (mx:∀ (i:Nat) (p:Keyed),xs[i]?=some p→p∈L) (hn:base+n≤xs.size) (us:Seg rk xs base (base+n)) (hh:hint<n)
 (h:∀ k,k≤n→(∀ i,base≤i→i<base+k→R rk xs i<rk key)→(∀ i,base+k≤i→i<base+n→rk key≤R rk xs i)→Q (some k) st):wpS (model prog w) A E s (cU true key xs base n hint) Q st:=by
 obtain ⟨k,h1,h2⟩:=lT (fun i=>R rk xs (base+i)) (rk key) n fun i j hij hj=>us _ _ (by lia) (by lia) (by lia)
 refine fP hC hk hkey (fun i hi=>⟨xs[base+i]'(by lia),Pj _,mx _ _ (Pj _)⟩) (fun i hi=>by simp only [if_true]; exact h2 i hi) h1 hh (h k h1 (fun i hi hk=>?_) fun i hi hk=>?_)
 ·have:=(h2 (i - base) (by lia)).mpr (by lia)
  rwa [show base+(i - base)=i by lia] at this
 ·have:=mt (h2 (i - base) (by lia)).mp (by lia)
  rw [show base+(i - base)=i by lia] at this
  lia
theorem eY {xs:Array Keyed} (h:(xs.extract i j)[m]?=some p):xs[i+m]?=some p∧i+m<j:=by
 rw [Td] at h
 split at h
 ·exact ⟨h,by lia⟩
 ·cases h
theorem wO {lo hi i j:Nat} (h:Seg rk xs lo hi) (h1:lo≤i) (h2:j≤hi):Up rk (xs.extract i j):=fun a b p q hab e1 e2=>by
 obtain ⟨f1,g1⟩:=eY e1
 obtain ⟨f2,g2⟩:=eY e2
 have:=h (i+a) (i+b) (by lia) (by lia) (by lia)
 rwa [dY f1,dY f2] at this
theorem rQ (hC:iY prog w A s κ rk L) (hB:Bs κ L st) (p1:(pendingOf st)[i]?=some (sa,na,pw)) (p2:(pendingOf st)[i+1]?=some (sa+na,nb,pw2)) (h1:1≤na) (h2:1≤nb) (hz:sa+na+nb≤L.length)
 (s1:Seg rk (arrOf st) sa (sa+na)) (s2:Seg rk (arrOf st) (sa+na) (sa+na+nb))
 (h:∀ st',Bs κ L st'→(∀ j,j<sa∨sa+na+nb≤j→(arrOf st')[j]?=(arrOf st)[j]?)→pendingOf st'=((pendingOf st).setIfInBounds i (sa,na+nb,pw)).eraseIdxIfInBounds (i+1)→Seg rk (arrOf st') sa (sa+na+nb)→Q true st') :
 wpS (model prog w) A E s (iI i) Q st:=by
 unfold iI
 walk_at "dl mergeAt"
 dsimp only
 refine OQ (Qt ?_)
 rw [p1,p2]
 dsimp only
 have hsz:=hB.size
 have mL:∀ (i:Nat) (p:Keyed),(arrOf st)[i]?=some p→p∈L:=fun i p e=>hB.perm.mem_iff.mp (by
  obtain ⟨h1,h2⟩:=RH.mp e
  rw [← h2,UE]; exact UZ _)
 refine OQ (Fi ?_)
 obtain ⟨key,ek,hkL⟩:=hB.at (i:=sa+na) (by lia)
 refine OQ (aR ek ?_)
 have rkey:R rk (arrOf st) (sa+na)=rk key:=dY ek
 refine OQ (yw hC hB.kind hkL mL (by show _≤(arrOf st).size; lia) s1 (by lia) fun k k1 k2 k3=>?_)
 dsimp only
 by_cases e0:na - k=0
 ·rw [if_pos (by simpa using e0)]
  refine OR (h _ ⟨hB.perm,hB.kind,hB.failed⟩ (fun _ _=>rfl) rfl fun a b z1 z2 z3=>?_)
  by_cases hb:b<sa+na
  ·exact s1 a b z1 z2 hb
  ·by_cases ha:sa+na≤a
   ·exact s2 a b ha z2 z3
   ·refine Pu (k2 a z1 (by lia)) ?_
    rw [← rkey]; exact s2 (sa+na) b (OP _) (by lia) z3
 rw [if_neg (by simpa using e0)]
 obtain ⟨key2,ek2,hk2L⟩:=hB.at (i:=sa+k+(na - k) - 1) (by lia)
 have rkey2:R rk (arrOf st) (sa+na - 1)=rk key2:=by rw [← dY (rk:=rk) ek2]; congr 1; lia
 refine OQ (aR ek2 ?_)
 refine OQ (yx hC (by exact hB.kind) hk2L mL (by show _≤(arrOf st).size; lia) s2 (by lia) fun m m1 m2 m3=>?_)
 dsimp only
 by_cases e1:m=0
 ·exfalso
  have a1:=m3 (sa+na) (by lia) (by lia)
  have a2:=k3 (sa+na - 1) (by lia) (by lia)
  rw [rkey2] at a2; rw [rkey] at a1; lia
 rw [if_neg (by simpa using e1)]
 have mx:∀ (i:Nat) (p:Keyed),((arrOf st).extract (sa+k) (sa+na))[i]?=some p→p∈L:=fun i p e=>mL _ p (eY e).1
 have my:∀ (i:Nat) (p:Keyed),((arrOf st).extract (sa+na) (sa+na+m))[i]?=some p→p∈L:=fun i p e=>mL _ p (eY e).1
 have ux:Up rk ((arrOf st).extract (sa+k) (sa+na)):=wO s1 (by lia) (OP _)
 have uy:Up rk ((arrOf st).extract (sa+na) (sa+na+m)):=wO s2 (OP _) (by lia)
 have zx:((arrOf st).extract (sa+k) (sa+na)).size=na - k:=by rw [Array.size_extract]; lia
 have zy:((arrOf st).extract (sa+na) (sa+na+m)).size=m:=by rw [Array.size_extract]; lia
 have h0:∀ p q,((arrOf st).extract (sa+k) (sa+na))[0]?=some p→((arrOf st).extract (sa+na) (sa+na+m))[0]?=some q→rk q≤rk p:=fun p q e2 e3=>by
  obtain ⟨f1,g1⟩:=eY e2
  obtain ⟨f2,g2⟩:=eY e3
  have a1:=k3 (sa+k+0) (by lia) (by lia)
  rw [dY f1] at a1
  have a2:rk q=rk key:=by rw [← rkey,← dY (rk:=rk) f2]; rfl
  lia
 have hl:∀ (j:Nat) (p q:Keyed),((arrOf st).extract (sa+k) (sa+na))[((arrOf st).extract (sa+k) (sa+na)).size - 1]?=some p→((arrOf st).extract (sa+na) (sa+na+m))[j]?=some q→rk q≤rk p:=fun j p q e2 e3=>by
  rw [zx] at e2
  obtain ⟨f1,g1⟩:=eY e2
  obtain ⟨f2,g2⟩:=eY e3
  have a1:=m2 (sa+na+j) (by lia) (by lia)
  rw [dY f2] at a1
  have a2:rk p=rk key2:=by rw [← rkey2,← dY (rk:=rk) f1]; congr 1; lia
  lia
 have fin:∀ (r:Array Keyed) (st2:SortSt),Res rk ((arrOf st).extract (sa+k) (sa+na)) ((arrOf st).extract (sa+na) (sa+na+m)) r→kindOf st2=kindOf st→arrOf st2=arrOf st→pendingOf st2=((pendingOf st).setIfInBounds i (sa,na+nb,pw)).eraseIdxIfInBounds (i+1)→failedOf st2=failedOf st →
  Q true (setArr st2 (R5 (fun a (x:Keyed×Nat)=>a.setIfInBounds (sa+k+x.2) x.1) (arrOf st2) r.toList.zipIdx)):=fun r st2 hr e2 e3 e4 e5=>by
  have hlen:r.toList.length=na - k+m:=by
   have:=hr.1.length_eq
   simp only [Py,PM,zx,zy] at this ⊢
   exact this
  obtain ⟨w1,w2⟩:=oi r.toList 0 (sa+k) (arrOf st) (by lia)
  generalize hW:R5 (fun a (x:Keyed×Nat)=>a.setIfInBounds (sa+k+x.2) x.1) (arrOf st) r.toList.zipIdx=W at w1 w2
  rw [e3,hW]
  have rW:∀ i,sa+k≤i→i<sa+na+m→R rk W i=R rk r (i - (sa+k)):=fun i z1 z2=>by
   refine b9 ?_
   rw [w2,if_pos (by lia),PK]; rfl
  have rO:∀ i,(i<sa+k∨sa+na+m≤i)→R rk W i=R rk (arrOf st) i:=fun i z=>by
   refine b9 ?_
   rw [w2,if_neg (by lia)]
  have elt:∀ i,sa+k≤i→i<sa+na+m→∃ t,sa+k≤t∧t<sa+na+m∧R rk W i=R rk (arrOf st) t:=fun i z1 z2=>by
   have hi:i - (sa+k)<r.size:=by rw [← PM]; lia
   have e6:r[i - (sa+k)]?=some r[i - (sa+k)]:=Pj hi
   have hm:r[i - (sa+k)]∈r.toList:=by rw [UE]; exact UZ _
   rw [rW i z1 z2,dY e6]
   rcases Pg.mp (hr.1.mem_iff.mp hm) with z | z
   ·obtain ⟨t,t1,t2,t3⟩:=wF z
    exact ⟨t,t1,by lia,(dY t3).symm⟩
   ·obtain ⟨t,t1,t2,t3⟩:=wF z
    exact ⟨t,by lia,by lia,(dY t3).symm⟩
  have ur:=Jc hr.2
  refine h _ ⟨?_,e2.trans hB.kind,e5.trans hB.failed⟩ (fun j hj=>?_) e4 fun a b z1 z2 z3=>?_
  ·
   refine List.Perm.trans ?_ hB.perm
   have eW:W.toList=(arrOf st).toList.take (sa+k)++r.toList++(arrOf st).toList.drop (sa+na+m):=by
    apply TF
    intro j
    rw [PK,w2,Pd,Sg,Sg,P9,RS,So (by rw [PM]; lia)]
    by_cases c1:j<sa+k
    ·rw [if_neg (by lia),if_pos c1,S0 c1,PK]
    ·rw [if_neg c1]
     by_cases c2:j - (sa+k)<r.toList.length
     ·rw [if_pos (by lia),if_pos c2]; rfl
     ·rw [if_neg (by lia),if_neg c2,PK]; congr 1; lia
   have eA:(arrOf st).toList=(arrOf st).toList.take (sa+k)++(((arrOf st).extract (sa+k) (sa+na)).toList++((arrOf st).extract (sa+na) (sa+na+m)).toList)++(arrOf st).toList.drop (sa+na+m):=by
    apply TF
    intro j
    rw [Pd,Pd,Sg,Sg,Sg,P9,PM,PM,PM,zx,zy,RS,So (by lia)]
    by_cases c1:j<sa+k
    ·rw [if_pos c1,S0 c1]
    ·rw [if_neg c1]
     by_cases c2:j - (sa+k)<na - k
     ·rw [if_pos c2,PK,PK,Td,if_pos (by lia)]; congr 1; lia
     ·rw [if_neg c2]
      by_cases c3:j - (sa+k) - (na - k)<m
      ·rw [if_pos c3,PK,PK,Td,if_pos (by lia)]; congr 1; lia
      ·rw [if_neg c3]; congr 1; lia
   show W.toList.Perm _
   rw [eW]
   conv=>rhs; rw [eA]
   exact (RL _ hr.1).append_right _
  ·show W[j]?=_
   rw [w2,if_neg (by lia)]
  ·show R rk W a≤R rk W b
   have kk:∀ t,sa+na≤t→t<sa+na+nb→rk key≤R rk (arrOf st) t:=fun t t1 t2=>by rw [← rkey]; exact s2 _ t (OP _) t1 t2
   have kk2:∀ t,sa≤t→t<sa+na→R rk (arrOf st) t≤rk key2:=fun t t1 t2=>by rw [← rkey2]; exact s1 t _ t1 (by lia) (by lia)
   by_cases c1:a<sa+k
   ·rw [rO a (.inl c1)]
    have la:=k2 a z1 c1
    by_cases d1:b<sa+k
    ·rw [rO b (.inl d1)]; exact s1 a b z1 z2 (by lia)
    ·by_cases d2:b<sa+na+m
     ·obtain ⟨t,t1,t2,t3⟩:=elt b (by lia) d2
      rw [t3]
      by_cases d3:t<sa+na
      ·exact s1 a t z1 (by lia) d3
      ·exact Pu la (kk t (by lia) (by lia))
     ·rw [rO b (.inr (by lia))]
      exact Pu la (kk b (by lia) z3)
   ·by_cases c2:a<sa+na+m
    ·by_cases d2:b<sa+na+m
     ·rw [rW a (by lia) c2,rW b (by lia) d2]
      have f1:r[a - (sa+k)]?=some (r[a - (sa+k)]'(by rw [← PM]; lia)):=Pj _
      have f2:r[b - (sa+k)]?=some (r[b - (sa+k)]'(by rw [← PM]; lia)):=Pj _
      rw [dY f1,dY f2]
      exact ur _ _ _ _ (by lia) f1 f2
     ·obtain ⟨t,t1,t2,t3⟩:=elt a (by lia) c2
      rw [t3,rO b (.inr (by lia))]
      by_cases d3:t<sa+na
      ·exact Pu (kk2 t (by lia) d3) (m3 b (by lia) z3)
      ·exact s2 t b (by lia) (by lia) z3
    ·rw [rO a (.inr (by lia)),rO b (.inr (by lia))]
     exact s2 a b (by lia) z2 z3
 have post:∀ (r:Array Keyed) (st2:SortSt),failedOf st2=failedOf st→(failedOf st2).isNone=true:=fun r st2 e=>by rw [e,hB.failed]; rfl
 by_cases hle:na - k≤m
 ·rw [if_pos hle]
  refine OQ (rL hC (by exact hB.kind) mx my ux uy (by show 1≤((arrOf st).extract (sa+k) (sa+na)).size; lia) (by show 1≤((arrOf st).extract (sa+na) (sa+na+m)).size; lia) h0 hl fun r st2 hr hK=>?_)
  refine OQ (QF (OQ (Qt ?_)))
  have e9:failedOf st2=none:=hK.f.trans hB.failed
  have z:=fin r st2 hr hK.k hK.a hK.p hK.f
  refine OR ?_
  show Q (failedOf st2).isNone _
  rw [e9]; exact z
 ·rw [if_neg hle]
  refine OQ (rP hC (by exact hB.kind) mx my ux uy (by show 1≤((arrOf st).extract (sa+k) (sa+na)).size; lia) (by show 1≤((arrOf st).extract (sa+na) (sa+na+m)).size; lia) h0 hl fun r st2 hr hK=>?_)
  refine OQ (QF (OQ (Qt ?_)))
  have e9:failedOf st2=none:=hK.f.trans hB.failed
  have z:=fin r st2 hr hK.k hK.a hK.p hK.f
  refine OR ?_
  show Q (failedOf st2).isNone _
  rw [e9]; exact z
end
noncomputable abbrev LX:Nat→Nat→Nat→Nat:=sortPriv% PySem.Builtin.minRun
noncomputable def rR:StateT SortSt Sem Unit:=sortPriv% PySem.Builtin.sortRuns
local macro_rules | `(tactic| walk_at "dl sortRuns")=>do
 let i:=Ru (Rj `PySem.Builtin.List.W1All `PySem.Builtin.sortRuns)
 `(tactic| delta $i)
noncomputable def fG (rk:Keyed→Int) (xs:Array Keyed):Nat→List (Nat×Nat×Nat)→Nat→Prop
 | a,[],b=>a=b
 | a,p::r,b=>p.1=a∧1≤p.2.1∧Seg rk xs a (a+p.2.1)∧fG rk xs (a+p.2.1) r b
section
theorem fG.le:∀ {ps:List (Nat×Nat×Nat)} {a b:Nat},fG rk xs a ps b→a+ps.length≤b
 | [],a,b,h=>by have:a=b:=h; simp; lia
 | p::r,a,b,h=>by
  obtain ⟨_,h1,_,h2⟩:=h
  have:=h2.le
  rw [Pr]; lia
theorem fG.app:∀ {ps qs:List (Nat×Nat×Nat)} {a b:Nat},fG rk xs a (ps++qs) b↔∃ m,fG rk xs a ps m∧fG rk xs m qs b
 | [],qs,a,b=>⟨fun h=>⟨a,rfl,h⟩,fun ⟨m,h1,h2⟩=>by have:a=m:=h1; subst this; exact h2⟩
 | p::r,qs,a,b=>by
  constructor
  ·rintro ⟨h1,h2,h3,h4⟩
   obtain ⟨m,h5,h6⟩:=fG.app.mp h4
   exact ⟨m,⟨h1,h2,h3,h5⟩,h6⟩
  ·rintro ⟨m,⟨h1,h2,h3,h5⟩,h6⟩
   exact ⟨h1,h2,h3,fG.app.mpr ⟨m,h5,h6⟩⟩
theorem fG.congr:∀ {ps:List (Nat×Nat×Nat)} {a b:Nat},fG rk xs a ps b→(∀ i,a≤i→i<b→R rk ys i=R rk xs i)→fG rk ys a ps b
 | [],a,b,h,_=>h
 | p::r,a,b,h,e=>by
  obtain ⟨h1,h2,h3,h4⟩:=h
  have hl:=h4.le
  refine ⟨h1,h2,fun i j z1 z2 z3=>?_,h4.congr fun i z1 z2=>e i (by lia) z2⟩
  rw [e i z1 (by lia),e j (by lia) (by lia)]
  exact h3 i j z1 z2 z3
theorem fG.mod (f) (hf:∀ p,(f p).1=p.1∧(f p).2.1=p.2.1):∀ {ps:List (Nat×Nat×Nat)} {a b:Nat} (i:Nat),fG rk xs a ps b→fG rk xs a (ps.modify i f) b
 | [],a,b,i,h=>by simpa using h
 | p::r,a,b,0,h=>by
  obtain ⟨h1,h2,h3,h4⟩:=h
  rw [List.modify_zero_cons]
  refine ⟨(hf p).1.trans h1,by rw [(hf p).2]; exact h2,by rw [(hf p).2]; exact h3,by rw [(hf p).2]; exact h4⟩
 | p::r,a,b,i+1,h=>by
  obtain ⟨h1,h2,h3,h4⟩:=h
  rw [List.modify_succ_cons]
  exact ⟨h1,h2,h3,h4.mod f hf i⟩
theorem fG.two:∀ {ps:List (Nat×Nat×Nat)} {a b:Nat} (i:Nat),fG rk xs a ps b→i+1<ps.length→∃ s n pw m pw2,ps[i]?=some (s,n,pw)∧ps[i+1]?=some (s+n,m,pw2)∧1≤n∧1≤m∧a≤s∧s+n+m≤b∧Seg rk xs s (s+n)∧Seg rk xs (s+n) (s+n+m) ∧
 ∀ ys:Array Keyed,(∀ j,j<s∨s+n+m≤j→R rk ys j=R rk xs j)→Seg rk ys s (s+n+m)→fG rk ys a ((ps.set i (s,n+m,pw)).eraseIdx (i+1)) b
 | [],a,b,i,h,hi=>by simp at hi
 | [p],a,b,i,h,hi=>by simp at hi
 | p::q::r,a,b,0,h,hi=>by
  obtain ⟨h1,h2,h3,h4,h5,h6,h7⟩:=h
  obtain ⟨s,n,pw⟩:=p
  obtain ⟨s',m,pw2⟩:=q
  dsimp only at h1 h2 h3 h4 h5 h6 h7
  subst h1; subst h4
  have hl:=h7.le
  refine ⟨s,n,pw,m,pw2,rfl,rfl,h2,h5,OP _,by lia,h3,h6,fun ys e hs=>?_⟩
  refine ⟨rfl,by dsimp only; lia,by dsimp only; rw [← Nat.add_assoc]; exact hs,?_⟩
  dsimp only
  rw [← Nat.add_assoc]
  exact h7.congr fun i z1 z2=>e i (.inr z1)
 | p::q::r,a,b,i+1,h,hi=>by
  obtain ⟨h1,h2,h3,h4⟩:=h
  obtain ⟨s,n,pw,m,pw2,e1,e2,a1,a2,a3,a4,a5,a6,a7⟩:=h4.two i (by simpa using hi)
  refine ⟨s,n,pw,m,pw2,by simpa using e1,by simpa using e2,a1,a2,by lia,a4,a5,a6,fun ys e hs=>?_⟩
  rw [List.set_cons_succ,List.eraseIdx_cons_succ]
  refine ⟨h1,h2,fun j j' z1 z2 z3=>?_,a7 ys e hs⟩
  rw [e j (.inl (by lia)),e j' (.inl (by lia))]
  exact h3 j j' z1 z2 z3
end
section
variable {st:SortSt}
theorem iJ (hC:iY prog w A s κ rk L) (hB:Bs κ L st) (hc:fG rk (arrOf st) 0 (pendingOf st).toList b) (hb:b≤L.length) (hi:i+1<(pendingOf st).size)
 (h:∀ st',Bs κ L st'→fG rk (arrOf st') 0 (pendingOf st').toList b→(∀ j,b≤j→(arrOf st')[j]?=(arrOf st)[j]?)→(pendingOf st').size+1=(pendingOf st).size→Q true st'):wpS (model prog w) A E s (iI i) Q st:=by
 obtain ⟨sa,n,pw,m,pw2,e1,e2,a1,a2,a3,a4,a5,a6,a7⟩:=hc.two i (by rw [PM]; exact hi)
 rw [PK] at e1 e2
 refine rQ hC hB e1 e2 a1 a2 (by lia) a5 a6 fun st' b1 b2 b3 b4=>h st' b1 ?_ (fun j hj=>b2 j (.inr (by lia))) ?_
 ·rw [b3,Vb,Array.toList_setIfInBounds]
  exact a7 _ (fun j hj=>b9 (b2 j hj)) b4
 ·rw [b3,← PM,Vb,Array.toList_setIfInBounds,List.length_eraseIdx,List.length_set,PM,if_pos hi]; lia
theorem wpS_sortRuns (hC:iY prog w A s κ rk L) (hB:Bs κ L st) (hp:pendingOf st= #[]) (h:∀ st',Bs κ L st'→Seg rk (arrOf st') 0 L.length→Q () st'):wpS (model prog w) A E s rR Q st:=by
 unfold rR
 walk_at "dl sortRuns"
 dsimp only
 refine OQ (Qt ?_)
 have hsz:=hB.size
 rw [hsz]
 obtain ⟨mr,hmr⟩:∃ mr,LX L.length L.length 0=mr:=⟨_,rfl⟩
 delta LX at hmr
 rw [hmr]
 refine OQ (Px (P7 (I:=fun x c st'=>c.1=none∧Bs κ L st'∧fG rk (arrOf st') 0 (pendingOf st').toList c.2∧c.2≤L.length∧(x≤c.2∨L.length≤c.2)) (Q:=fun c st'=>c.1=none∧Bs κ L st'∧fG rk (arrOf st') 0 (pendingOf st').toList L.length) ?step ?fin ?init) ?post)
 case init=>exact ⟨rfl,hB,by rw [hp]; rfl,Pn _,.inl (OP _)⟩
 case fin =>
  rintro ⟨c,lo⟩ st' ⟨rfl,j6,hC',h1,h2⟩
  dsimp only at hC' h1 h2 ⊢
  have e:lo=L.length:=by
   rcases h2 with z | z
   ·lia
   ·lia
  subst e
  exact ⟨rfl,j6,hC'⟩
 case step =>
  rintro x ⟨c,lo⟩ st' _ hx ⟨rfl,j6,hC',h1,h2⟩
  dsimp only at hC' h1 h2 ⊢
  by_cases hge:lo≥L.length
  ·rw [if_pos hge]
   have e:lo=L.length:=by lia
   subst e
   exact OR ⟨rfl,j6,hC'⟩
  rw [if_neg hge]
  refine OQ (show wpS _ _ _ _ (countRun' lo (L.length - lo)) _ _ from wpS_countRun hC j6 (by lia) (by lia) fun m st1 hB1 hM1 m1 m2 ms=>?_)
  have hC1:fG rk (arrOf st1) 0 (pendingOf st1).toList lo:=by
   rw [hM1.pend]; exact hC'.congr fun i _ z=>b9 (hM1.out i (.inl z))
  dsimp only
  by_cases hmin:m<mr
  ·rw [if_pos (show m<_ from hmin)]
   refine OQ (Rg (Ql ⟨rfl,?_⟩))
   have hf1:m≤min (L.length - lo) mr:=by lia
   have hf2:lo+min (L.length - lo) mr≤L.length:=by lia
   refine OQ (show wpS _ _ _ _ (binarySort' lo (min (L.length - lo) mr) m) _ _ from wpS_binarySort hC hB1 hf2 hf1 ms fun st2 hB2 hM2 hS2=>?_)
   have hC2:fG rk (arrOf st2) 0 (pendingOf st2).toList lo:=by
    rw [hM2.pend]; exact hC1.congr fun i _ z=>b9 (hM2.out i (.inl z))
   simp only [Sz,PR,if_false]
   generalize hF:min (L.length - lo) mr=F at hf1 hf2 hS2
   have hF':=hF
   clear hM2 hM1
   refine OQ (Qt ?_)
   rcases hbk:(pendingOf st2).back? with _ | ⟨q1,q2,q3⟩
   ·dsimp only
    refine OQ (QF (OR ⟨rfl,⟨hB2.perm,hB2.kind,hB2.failed⟩,?_,by dsimp only; lia,by dsimp only; lia⟩))
    show fG rk (arrOf st2) 0 ((pendingOf st2).push (lo,F,0)).toList (lo+(F))
    rw [PB]
    exact fG.app.mpr ⟨lo,hC2,rfl,by dsimp only; lia,hS2,rfl⟩
   ·dsimp only
    refine OQ (Px (P7 (I:=fun y c st'=>c.1=none∧Bs κ L st'∧fG rk (arrOf st') 0 (pendingOf st').toList lo∧Seg rk (arrOf st') lo (lo+(F))) (Q:=fun c st'=>c.1=none∧Bs κ L st'∧fG rk (arrOf st') 0 (pendingOf st').toList lo∧Seg rk (arrOf st') lo (lo+(F))) ?_ (fun _ _ z=>z) ⟨rfl,hB2,hC2,hS2⟩) ?_)
    ·rintro y ⟨c,u⟩ st3 _ hy ⟨rfl,vE,DT,DS⟩
     refine OQ (Qt ?_)
     by_cases hs1:(pendingOf st3).size>1
     ·rw [if_pos hs1]
      obtain ⟨⟨r1,r2,r3⟩,er⟩:∃ t,(pendingOf st3)[(pendingOf st3).size - 2]?=some t:=⟨_,Pj (show (pendingOf st3).size - 2<(pendingOf st3).size by lia)⟩
      rw [er]
      dsimp only
      split
      ·exact OR ⟨rfl,vE,DT,DS⟩
      ·refine OQ (show wpS _ _ _ _ (iI ((pendingOf st3).size - 2)) _ _ from iJ hC vE DT (by lia) (by lia) fun st4 hB4 hC4 ho4 hz4=>?_)
       simp only [Sz,PR,if_false]
       exact OR ⟨rfl,hB4,hC4,fun a b z1 z2 z3=>by rw [b9 (ho4 a z1),b9 (ho4 b (by lia))]; exact DS a b z1 z2 z3⟩
     ·rw [if_neg hs1]
      exact OR ⟨rfl,vE,DT,DS⟩
    ·rintro ⟨c,u⟩ st3 ⟨hc,vE,DT,DS⟩
     dsimp only at hc ⊢
     rw [hc]
     dsimp only
     refine OQ (QF (OQ (QF (OR ⟨rfl,⟨vE.perm,vE.kind,vE.failed⟩,?_,by dsimp only; lia,by dsimp only; lia⟩))))
     show fG rk (arrOf st3) 0 (((pendingOf st3).modify ((pendingOf st3).size - 1) _).push (lo,F,0)).toList (lo+(F))
     rw [PB,Array.toList_modify]
     refine fG.app.mpr ⟨lo,?_,rfl,by dsimp only; lia,DS,rfl⟩
     refine fG.mod _ (fun p=>?_) _ DT
     exact ⟨rfl,rfl⟩
  ·rw [if_neg (show ¬ m<_ from hmin)]
   refine OQ (Qt ?_)
   rcases hbk:(pendingOf st1).back? with _ | ⟨q1,q2,q3⟩
   ·dsimp only
    refine OQ (QF (OR ⟨rfl,⟨hB1.perm,hB1.kind,hB1.failed⟩,?_,by dsimp only; lia,by dsimp only; lia⟩))
    show fG rk (arrOf st1) 0 ((pendingOf st1).push (lo,m,0)).toList (lo+(m))
    rw [PB]
    exact fG.app.mpr ⟨lo,hC1,rfl,by dsimp only; lia,ms,rfl⟩
   ·dsimp only
    refine OQ (Px (P7 (I:=fun y c st'=>c.1=none∧Bs κ L st'∧fG rk (arrOf st') 0 (pendingOf st').toList lo∧Seg rk (arrOf st') lo (lo+(m))) (Q:=fun c st'=>c.1=none∧Bs κ L st'∧fG rk (arrOf st') 0 (pendingOf st').toList lo∧Seg rk (arrOf st') lo (lo+(m))) ?_ (fun _ _ z=>z) ⟨rfl,hB1,hC1,ms⟩) ?_)
    ·rintro y ⟨c,u⟩ st3 _ hy ⟨rfl,vE,DT,DS⟩
     refine OQ (Qt ?_)
     by_cases hs1:(pendingOf st3).size>1
     ·rw [if_pos hs1]
      obtain ⟨⟨r1,r2,r3⟩,er⟩:∃ t,(pendingOf st3)[(pendingOf st3).size - 2]?=some t:=⟨_,Pj (show (pendingOf st3).size - 2<(pendingOf st3).size by lia)⟩
      rw [er]
      dsimp only
      split
      ·exact OR ⟨rfl,vE,DT,DS⟩
      ·refine OQ (show wpS _ _ _ _ (iI ((pendingOf st3).size - 2)) _ _ from iJ hC vE DT (by lia) (by lia) fun st4 hB4 hC4 ho4 hz4=>?_)
       simp only [Sz,PR,if_false]
       exact OR ⟨rfl,hB4,hC4,fun a b z1 z2 z3=>by rw [b9 (ho4 a z1),b9 (ho4 b (by lia))]; exact DS a b z1 z2 z3⟩
     ·rw [if_neg hs1]
      exact OR ⟨rfl,vE,DT,DS⟩
    ·rintro ⟨c,u⟩ st3 ⟨hc,vE,DT,DS⟩
     dsimp only at hc ⊢
     rw [hc]
     dsimp only
     refine OQ (QF (OQ (QF (OR ⟨rfl,⟨vE.perm,vE.kind,vE.failed⟩,?_,by dsimp only; lia,by dsimp only; lia⟩))))
     show fG rk (arrOf st3) 0 (((pendingOf st3).modify ((pendingOf st3).size - 1) _).push (lo,m,0)).toList (lo+(m))
     rw [PB,Array.toList_modify]
     refine fG.app.mpr ⟨lo,?_,rfl,by dsimp only; lia,DS,rfl⟩
     refine fG.mod _ (fun p=>?_) _ DT
     exact ⟨rfl,rfl⟩
 case post =>
  rintro ⟨c,lo⟩ st' ⟨hc,j6,hC'⟩
  dsimp only at hc ⊢
  rw [hc]
  dsimp only
  have hl0:=hC'.le
  rw [PM] at hl0
  refine OQ (Px (P7 (I:=fun x c st2=>c.1=none∧Bs κ L st2∧fG rk (arrOf st2) 0 (pendingOf st2).toList L.length∧((pendingOf st2).size≤1∨(pendingOf st2).size+x≤L.length)) (Q:=fun c st2=>c.1=none∧Bs κ L st2∧fG rk (arrOf st2) 0 (pendingOf st2).toList L.length∧(pendingOf st2).size≤1) ?mstep ?mfin ⟨rfl,j6,hC',.inr (by lia)⟩) ?mpost)
  case mfin =>
   rintro c2 st2 ⟨a1,a2,a3,a4⟩
   exact ⟨a1,a2,a3,by lia⟩
  case mpost =>
   rintro ⟨c2,u⟩ st2 ⟨a1,a2,a3,a4⟩
   dsimp only at a1 ⊢
   rw [a1]
   refine OR (h st2 a2 ?_)
   rw [← PM] at a4
   match e:(pendingOf st2).toList,a4 with
   | [],_ =>
    rw [e] at a3
    have z:0=L.length:=a3
    intro i j _ _ hj; lia
   | [p],_ =>
    rw [e] at a3
    obtain ⟨b1,b2,b3,b4⟩:=a3
    have z:0+p.2.1=L.length:=b4
    rw [← z]; exact b3
  case mstep =>
   rintro x ⟨c2,u⟩ st2 _ hx ⟨a1,a2,a3,a4⟩
   refine OQ (Qt ?_)
   by_cases hs1:(pendingOf st2).size≤1
   ·rw [if_pos hs1]
    exact OR ⟨rfl,a2,a3,hs1⟩
   ·rw [if_neg hs1]
    have key:∀ i,i+1<(pendingOf st2).size→wpS (model prog w) A E s (iI i) (fun r st3=>r=true∧Bs κ L st3∧fG rk (arrOf st3) 0 (pendingOf st3).toList L.length∧(pendingOf st3).size+1=(pendingOf st2).size) st2:=fun i hi =>
     iJ hC a2 a3 (OP _) hi fun st3 b1 b2 _ b3=>⟨rfl,b1,b2,b3⟩
    refine OQ (Px (show wpS _ _ _ _ (iI _) _ _ from key _ ?_) fun r st3 hr=>?_)
    ·unfold pendingOf at hs1 ⊢
     repeat' split
     all_goals lia
    ·obtain ⟨rfl,b1,b2,b3⟩:=hr
     simp only [Sz,PR,if_false]
     exact OR ⟨rfl,b1,b2,.inr (by lia)⟩
end
end SR
namespace SR
open PySem PyProof.Rows
section
noncomputable def dup (vs:List Value):List Keyed:=vs.map fun v=>(v,v)
theorem wQ (vs):(vs.toArray.zip vs.toArray).toList=dup vs:=by
 unfold dup
 rw [Array.toList_zip]
 induction vs with
 | nil=>rfl
 | cons v vs ih=>simpa using ih
noncomputable def Ord (rk:Keyed→Int) (b:Bool) (out:List Value):Prop:=out.Pairwise fun x y=>if b then rk (y,y)≤rk (x,x) else rk (x,x)≤rk (y,y)
theorem rS {xs:Array Keyed} (h:xs.toList.Perm (dup vs)):(xs.toList.map (·.2)).Perm vs∧∀ p∈xs.toList,p=(p.2,p.2):=by
 refine ⟨?_,fun p hp=>?_⟩
 ·have q:=h.map (·.2)
  have e:(dup vs).map (·.2)=vs:=by
   unfold dup
   rw [Pb]
   exact List.map_id' vs
  rwa [e] at q
 ·have:=h.mem_iff.mp hp
  simp only [dup,Pa] at this
  obtain ⟨v,_,rfl⟩:=this
  rfl
theorem Fj {st:SortSt} (hp:(arrOf st).toList.Perm (dup vs)) (hs:Seg rk (arrOf st) 0 (dup vs).length) (b) :
 ((if b=true then ((arrOf st).map (·.2)).reverse else (arrOf st).map (·.2)).toList).Perm vs∧Ord rk b (if b=true then ((arrOf st).map (·.2)).reverse else (arrOf st).map (·.2)).toList:=by
 obtain ⟨h1,h2⟩:=rS hp
 have up:((arrOf st).toList.map (·.2)).Pairwise fun x y=>rk (x,x)≤rk (y,y):=by
  rw [QS]
  refine Uq.mpr fun i j hi hj hij=>?_
  have l:=hp.length_eq
  simp only [PM] at hi hj l
  have z:=hs i j (Pn _) (Q9 hij) (by lia)
  have ei:(arrOf st)[i]?=some ((arrOf st).toList[i]'(by simpa using hi)):=by simp [hi]
  have ej:(arrOf st)[j]?=some ((arrOf st).toList[j]'(by simpa using hj)):=by simp [hj]
  rw [dY ei,dY ej] at z
  have e1:=h2 _ (Pp (show i<(arrOf st).toList.length by simpa using hi))
  have e2:=h2 _ (Pp (show j<(arrOf st).toList.length by simpa using hj))
  rw [e1,e2] at z
  exact z
 cases b with
 | false=>simp only [PR,if_false,U6]; exact ⟨h1,up.imp fun h=>by simpa using h⟩
 | true =>
  simp only [if_true,RO,U6]
  refine ⟨(Tv _).trans h1,?_⟩
  unfold Ord
  rw [List.pairwise_reverse]
  exact up.imp fun h=>by simpa using h
noncomputable def N6 (prog:Program) (w:World) (A:Around) (s:Shared) (a:Addr) (vs:List Value) (κ:SortKind) (rk:Keyed→Int):Prop :=
 ∀ h':Heap,(∀ c o,c≠a→s.heap.get? c=some o→h'.get? c=some o) →
  (∀ (Q:SortKind→Shared→Prop) (E:Value→Shared→Prop),2≤vs.length→Q κ { s with heap:=h' }→wpAny (model prog w) A (keyKind' vs.toArray) Q E { s with heap:=h' })∧iY prog w A { s with heap:=h' } κ rk (dup vs)
theorem oj (ho:s.heap.get? a=some (seqObj "list" vs.toArray n)) (hk:N6 prog w A s a vs κ rk) (hz:vs.length≤sizeLine)
 (h:∀ out:Array Value,out.toList.Perm vs→Ord rk b out.toList→P (.done (.ret .none)) { s with heap:=sortedHeap s.heap a vs out }) :
 wpAny (model prog w) A (Builtin.«list.sort» ⟨[.ref a],[(OL "reverse",.bool b)]⟩) P E s:=by
 rw [list_sort_rev]
 have lta:a<s.heap.objs.size:=OW ho
 refine OM (SA ho rfl (OM (Qs ho rfl ?_ (by simpa using hz))))
 obtain ⟨e1,ho1⟩:∃ e1,(s.heap.update a (Pw fun _=> #[])).get? a=some (seqObj "list" #[] e1):=⟨_,TQ ho (fun _=> #[])⟩
 have oth:∀ c o,c≠a→s.heap.get? c=some o→(s.heap.update a (Pw fun _=> #[])).get? c=some o:=fun c o hc q=>by rw [Q0 _ _ _ _ hc]; exact q
 have sz1:(s.heap.update a (Pw fun _=> #[])).objs.size=s.heap.objs.size:=U4 ..
 refine OM (R0 ho1 rfl (OM (wpAny_newTuple ?_ (by simpa using hz))))
 refine OM (Sw (Qa ?_))
 show wpAny (model prog w) A _ P E { s with heap:=((s.heap.update a (Pw fun _=> #[])).push (seqObj "tuple" vs.toArray 0)).push (seqObj "list" #[] 0) }
 have ho6:(((s.heap.update a (Pw fun _=> #[])).push (seqObj "tuple" vs.toArray 0)).push (seqObj "list" #[] 0)).get? a=some (seqObj "list" #[] e1):=OU _ (OU _ ho1)
 obtain ⟨hkk,hC⟩:=hk (((s.heap.update a (Pw fun _=> #[])).push (seqObj "tuple" vs.toArray 0)).push (seqObj "list" #[] 0)) fun c o hc q=>OU _ (OU _ (oth c o hc q))
 have fin:∀ st':SortSt,(arrOf st').toList.Perm (dup vs)→Seg rk (arrOf st') 0 (dup vs).length →
  P (.done (.ret .none)) { s with heap:=sortedHeap s.heap a vs (if b then ((arrOf st').map (·.2)).reverse else (arrOf st').map (·.2)) }:=fun st' hp hs =>
  let ⟨q1,q2⟩:=Fj hp hs b; h _ q1 q2
 have hstart:(if b=true then (vs.toArray.zip vs.toArray).reverse else vs.toArray.zip vs.toArray).toList.Perm (dup vs):=by
  cases b with
  | false=>rw [if_neg O0,wQ]
  | true=>rw [if_pos rfl,RO,wQ]; exact Tv _
 dsimp only
 have told:∀ t:Sem Fin,wpAny (model prog w) A t P E { s with heap:=((s.heap.update a (Pw fun _=> #[])).push (seqObj "tuple" vs.toArray 0)).push (seqObj "list" #[] 0) } →
  wpAny (model prog w) A (if b=true then (do let _ ← rule "list.sort.reverse"; t) else t) P E { s with heap:=((s.heap.update a (Pw fun _=> #[])).push (seqObj "tuple" vs.toArray 0)).push (seqObj "list" #[] 0) }:=fun t ht=>by
  split
  ·exact OM (Ql ht)
  ·exact ht
 refine told _ ?_
 have hlen:∀ {xs:Array Keyed},xs.toList.Perm (dup vs)→(if b=true then (Array.map (fun x=>x.snd) xs).reverse else Array.map (fun x=>x.snd) xs).size≤sizeLine+1:=fun {xs} hp=>by
  have l:=hp.length_eq
  simp only [PM,dup,OT] at l
  split
  ·rw [Array.size_reverse,Array.size_map]; lia
  ·rw [Array.size_map]; lia
 by_cases h2:vs.toArray.size<2
 ·rw [if_pos h2,if_pos h2]
  refine OM (OO ?_)
  rw [StateT.run_pure]
  refine OM (OO ?_)
  dsimp only
  refine OM (R0 ho6 rfl (OM (Qs ho6 rfl ?_ (hsz2:=hlen hstart))))
  simp only [bne_self_eq_false,PR,if_false]
  refine OO (fin (Rc general' (if b=true then (vs.toArray.zip vs.toArray).reverse else vs.toArray.zip vs.toArray) #[] 7 none) hstart ?_)
  intro i j _ hij hj
  have hl:(dup vs).length<2:=by simpa [dup] using h2
  have:i=j:=by lia
  subst this; exact Qk _
 ·rw [if_neg h2,if_neg h2]
  refine OM (hkk _ _ (by simpa using h2) ?_)
  refine OM (PD (wpS_sortRuns (κ:=κ) (rk:=rk) (L:=dup vs) (st:=Rc κ (if b=true then (vs.toArray.zip vs.toArray).reverse else vs.toArray.zip vs.toArray) #[] 7 none)
   (Q:=fun _ st'=>(arrOf st').toList.Perm (dup vs)∧failedOf st'=none∧Seg rk (arrOf st') 0 (dup vs).length) hC ⟨hstart,rfl,rfl⟩ rfl fun st' a1 a2=>⟨a1.perm,a1.failed,a2⟩) ?_ fun _ _ e=>e)
  rintro ⟨⟨⟩,st'⟩ s' ⟨rfl,hp,hf,hs⟩
  dsimp only
  refine OM (R0 ho6 rfl (OM (Qs ho6 rfl ?_ (hsz2:=hlen hp))))
  rw [hf]
  simp only [bne_self_eq_false,PR,if_false]
  exact OO (fin st' hp hs)
end
section
variable {α:Type} {lt:α→α→Bool} {L:List α}
theorem filter_le:∀ {l:List α},(∀ z∈l,p z=true→q z=true)→(l.filter p).length≤(l.filter q).length
 | [],_=>OP _
 | x::l,h=>by
  have ih:=filter_le (l:=l) fun z hz=>h z (O2 _ hz)
  have hx:=h x O1
  cases e:p x with
  | false =>
   rw [Sa (by simp [e])]
   by_cases e2:q x=true
   ·rw [Ri e2]; exact Nat.le_succ_of_le ih
   ·rw [Sa e2]; exact ih
  | true =>
   rw [Ri e,Ri (hx e)]
   exact TJ ih
theorem filter_lt:∀ {l:List α},(∀ z∈l,p z=true→q z=true)→(∃ z∈l,q z=true∧p z=false)→(l.filter p).length<(l.filter q).length
 | [],_,h=>by obtain ⟨z,h,_⟩:=h; cases h
 | x::l,h,g=>by
  have h':∀ z∈l,p z=true→q z=true:=fun z hz=>h z (O2 _ hz)
  have hx:=h x O1
  by_cases e:p x=true
  ·rw [Ri e,Ri (hx e)]
   obtain ⟨z,hz,z1,z2⟩:=g
   rcases O5.mp hz with rfl | hz
   ·rw [e] at z2; cases z2
   ·exact Nat.succ_lt_succ (filter_lt h' ⟨z,hz,z1,z2⟩)
  ·rw [Sa e]
   by_cases e2:q x=true
   ·rw [Ri e2]; exact Nat.lt_succ_of_le (filter_le h')
   ·rw [Sa e2]
    obtain ⟨z,hz,z1,z2⟩:=g
    rcases O5.mp hz with rfl | hz
    ·exact absurd z1 e2
    ·exact filter_lt h' ⟨z,hz,z1,z2⟩
structure GW (lt:α→α→Bool) (L:List α):Prop where
 irr:∀ x∈L,lt x x=false
 tr:∀ x∈L,∀ y∈L,∀ z∈L,lt x y=true→lt y z=true→lt x z=true
 tot:∀ x∈L,∀ y∈L,x≠y→lt x y=true∨lt y x=true
noncomputable def rank (lt:α→α→Bool) (L:List α) (x:α):Int:=((L.filter fun z=>lt z x).length:Int)
theorem kK (h:GW lt L) (hx:x∈L) (hy:y∈L) (e:lt x y=true):rank lt L x<rank lt L y:=by
 have q:=filter_lt (l:=L) (p:=fun z=>lt z x) (q:=fun z=>lt z y) (fun z hz hzx=>h.tr z hz x hx y hy hzx e) ⟨x,hx,e,h.irr x hx⟩
 unfold rank; lia
theorem Fl (h:GW lt L) (hx:x∈L) (hy:y∈L):decide (rank lt L x<rank lt L y)=lt x y:=by
 classical
 cases e:lt x y with
 | true=>exact decide_eq_true (kK h hx hy e)
 | false =>
  refine decide_eq_false fun z=>?_
  by_cases w:x=y
  ·subst w; exact absurd z (Int.lt_irrefl _)
  ·rcases h.tot x hx y hy w with q | q
   ·rw [e] at q; cases q
   ·have:=kK h hy hx q; lia
theorem gy (hp:n.Perm m):∀ {l:List α},Paired S l m→∃ l',l'.Perm l∧Paired S l' n:=by
 induction hp with
 | nil=>intro l h; exact ⟨l,.refl _,h⟩
 | cons x _ ih =>
  intro l h
  cases h with
  | cons r t=>obtain ⟨l',h1,h2⟩:=ih t; exact ⟨_::l',h1.cons _,.cons r h2⟩
 | swap x y l' =>
  intro l h
  cases h with
  | cons r t=>cases t with | cons r2 t2=>exact ⟨_,.swap _ _ _,.cons r2 (.cons r t2)⟩
 | trans _ _ ih1 ih2 =>
  intro l h
  obtain ⟨l1,h1,h2⟩:=ih2 h
  obtain ⟨l2,h3,h4⟩:=ih1 h2
  exact ⟨l2,h3.trans h1,h4⟩
theorem iK (h:Paired S l m):∀ u∈m,∃ x∈l,S x u:=by
 induction h with
 | nil=>intro u hu; cases hu
 | cons r t ih =>
  intro u hu
  rcases O5.mp hu with rfl | hu
  ·exact ⟨_,O1,r⟩
  ·obtain ⟨x,h1,h2⟩:=ih u hu; exact ⟨x,O2 _ h1,h2⟩
open Classical in
noncomputable def yy {β:Type} (S:α→Value→Prop) (lt:α→α→Bool) (L:List α) (p:Value×β):Int:=if h:∃ x,x∈L∧S x p.1 then rank lt L h.choose else 0
theorem kL (inj:∀ x y u,S x u→S y u→x=y) (hx:x∈L) (h:S x p.1):yy S lt L p=rank lt L x:=by
 have e:∃ x,x∈L∧S x p.1:=⟨x,hx,h⟩
 unfold yy
 rw [dif_pos e,inj _ _ _ e.choose_spec.2 h]
theorem rT (inj:∀ x y u,S x u→S y u→x=y) (h:GW lt L) (nd:L.Nodup) (hL:Paired S L us) (hp:out.Perm us) (ho:Ord (yy S lt L) b out) :
 ∃ L',L'.Perm L∧L'.Pairwise (fun x y=>if b then lt y x=true else lt x y=true)∧Paired S L' out:=by
 obtain ⟨L',h1,h2⟩:=gy hp hL
 refine ⟨L',h1,?_,h2⟩
 have hm:∀ x∈L',x∈L:=fun x hx=>h1.mem_iff.mp hx
 have nd':L'.Nodup:=h1.nodup_iff.mpr nd
 clear h1 hp hL nd
 unfold Ord at ho
 induction h2 with
 | nil=>exact .nil
 | @cons x u xs us r t ih =>
  obtain ⟨q1,q2⟩:=RQ.mp ho
  obtain ⟨n1,n2⟩:=Qn.mp nd'
  refine .cons (fun y hy=>?_) (ih q2 (fun z hz=>hm z (O2 _ hz)) n2)
  have hx:=hm x O1
  have hyL:=hm y (O2 _ hy)
  obtain ⟨v,hv,sv⟩:∃ v∈us,S y v:=by
   clear ih ho q1 q2 n1 n2 hm nd'
   induction t with
   | nil=>cases hy
   | cons r t ih2 =>
    rcases O5.mp hy with rfl | hy
    ·exact ⟨_,O1,r⟩
    ·obtain ⟨v,h1,h2⟩:=ih2 hy; exact ⟨v,O2 _ h1,h2⟩
  have q:=q1 v hv
  rw [kL inj hx (p:=(u,u)) r,kL inj hyL (p:=(v,v)) sv] at q
  have ne:x≠y:=fun z=>n1 (z ▸ hy)
  cases b with
  | true =>
   simp only [if_true] at q ⊢
   rcases h.tot x hx y hyL ne with w | w
   ·have:=kK h hx hyL w; lia
   ·exact w
  | false =>
   simp only [PR,if_false] at q ⊢
   rcases h.tot x hx y hyL ne with w | w
   ·exact w
   ·have:=kK h hyL hx w; lia
end
section
theorem Bx (inj:∀ x y u,S x u→S y u→x=y) (h:GW lt L) (hL:Paired S L us)
 (hk:∀ x∈L,∀ y∈L,∀ u v,S x u→S y v→∀ (E:Value→Shared→Prop) (Q:Bool→Shared→Prop),Q (lt x y) s→wpAny (model prog w) A (keyLt' κ u v) Q E s):iY prog w A s κ (yy S lt L) (dup us):=by
 intro p hp q hq E Q hQ
 simp only [dup,Pa] at hp hq
 obtain ⟨u,hu,rfl⟩:=hp
 obtain ⟨v,hv,rfl⟩:=hq
 obtain ⟨x,hx,sx⟩:=iK hL u hu
 obtain ⟨y,hy,sy⟩:=iK hL v hv
 refine hk x hx y hy u v sx sy E Q ?_
 rw [kL inj hx (p:=(u,u)) sx,kL inj hy (p:=(v,v)) sy,Fl h hx hy] at hQ
 exact hQ
end
end SR
namespace SR
open PySem PySem.Calls PyProof.Rows L2 EV
theorem mZ (a):Builtin.«list.sort» ⟨[.ref a],[(OL "key",.builtin "len")]⟩=(do
 let items ← Se (.ref a)
 QZ (.ref a) fun _=> #[]
 let before ← seqEpoch a
 let held ← newTuple items.toList
 let keyStore ← newList []
 holding [held,keyStore] do
  rule "list.sort.key"
  for x in items do
   match ← (call (.builtin "len") [x]).attempt with
   | .ok k=>QZ keyStore (·.push k)
   | .error e =>
    rule "list.sort.key-raised"
    let made ← Se keyStore
    QZ keyStore fun _=> #[]
    letGo made.toList.reverse [e]
    QZ (.ref a) fun _=>items; throw e
  let keys ← Se keyStore
  let kind ← if items.size<2 then pure general' else keyKind' keys
  let ((),s) ← (if items.size<2 then pure () else sortRuns').run (Rc kind (keys.zip items) #[] 7 none)
  QZ keyStore fun _=> #[]
  letGo ((arrOf s).map (·.1)).toList (failedOf s).toList
  let touched:=(← seqEpoch a) != before
  QZ (.ref a) fun _=>(arrOf s).map (·.2)
  if let some e:=failedOf s then rule "list.sort.comparison-raised"; throw e
  if touched then rule "list.sort.modified"; raiseError "ValueError" "list modified during sort"
  ret .none):=by
 rfl
theorem iL (a v):argsOk "list.sort" ⟨[a],[(OL "key",v)]⟩:=by unfold argsOk; kernel_rfl
theorem kj (a v):argsOk "sorted" ⟨[a],[(OL "key",v)]⟩:=by unfold argsOk; kernel_rfl
section
noncomputable def intOf (p:Keyed):Int:=match p.1 with | .int m _=>m | _=>0
theorem wR:∀ {ks vs:List Value},ks.length=vs.length→(ks.zip vs).map (·.2)=vs
 | [],[],_=>rfl
 | k::ks,v::vs,h=>by rw [Tp,OS,wR (by simpa using h)]
 | [],_::_,h=>by simp at h
 | _::_,[],h=>by simp at h
theorem wU {ks vs:List Value} {ms:List Int} (h:IntsAre ks ms) {p:Keyed} (hp:p∈ks.zip vs):∃ m t,p.1=.int m t:=by
 obtain ⟨k,v⟩:=p
 exact h.all k (TR hp).1
theorem By (ho:s.heap.get? a=some (seqObj "list" vs.toArray n)) (hz:vs.length≤sizeLine)
 (hv:∀ v∈vs,∃ (l:Addr) (items:Array Value),v=.ref l∧l≠a∧s.heap.IsList l items∧items.size≤sizeLine)
 (h:∀ (out:Array Value) (h':Heap) (tk e:Nat),out.toList.Perm vs→h'.get? a=some (seqObj "list" out e)→(∀ c o,c≠a→s.heap.get? c=some o→h'.get? c=some o)→P (.done (.ret .none)) { s with heap:=h',toks:=tk }) :
 wpAny (model prog w) A (Builtin.«list.sort» ⟨[.ref a],[(OL "key",.builtin "len")]⟩) P E s:=by
 rw [mZ]
 have lta:a<s.heap.objs.size:=OW ho
 refine OM (SA ho rfl (OM (Qs ho rfl ?_ (by simpa using hz))))
 obtain ⟨e1,ho1⟩:∃ e1,(s.heap.update a (Pw fun _=> #[])).get? a=some (seqObj "list" #[] e1):=⟨_,TQ ho (fun _=> #[])⟩
 have oth:∀ c o,c≠a→s.heap.get? c=some o→(s.heap.update a (Pw fun _=> #[])).get? c=some o:=fun c o hc q=>by rw [Q0 _ _ _ _ hc]; exact q
 refine OM (R0 ho1 rfl (OM (wpAny_newTuple ?_ (by simpa using hz))))
 refine OM (Sw (Qa ?_))
 generalize hkS:((s.heap.update a (Pw fun _=> #[])).push (seqObj "tuple" vs.toArray 0)).objs.size=kS
 have hks:(((s.heap.update a (Pw fun _=> #[])).push (seqObj "tuple" vs.toArray 0)).push (seqObj "list" #[] 0)).get? kS=some (seqObj "list" #[] 0):=by rw [← hkS]; exact O6 _ rfl
 have kne:∀ c,c<s.heap.objs.size→c≠kS:=fun c hc e=>by
  rw [← hkS,size_push',U4] at e; lia
 have k1:∀ c o,c≠a→s.heap.get? c=some o→(((s.heap.update a (Pw fun _=> #[])).push (seqObj "tuple" vs.toArray 0)).push (seqObj "list" #[] 0)).get? c=some o:=fun c o hc q=>OU _ (OU _ (oth c o hc q))
 have ho6:(((s.heap.update a (Pw fun _=> #[])).push (seqObj "tuple" vs.toArray 0)).push (seqObj "list" #[] 0)).get? a=some (seqObj "list" #[] e1):=OU _ (OU _ ho1)
 dsimp only
 generalize (((s.heap.update a (Pw fun _=> #[])).push (seqObj "tuple" vs.toArray 0)).push (seqObj "list" #[] 0))=h1 at hks k1 ho6 ⊢
 have hak:a≠kS:=kne a lta
 refine OM (Ql ?_)
 refine OM (PD (wpAny_forIn_array' _ (fun rest _ s'=>∃ (dn:List Value) (ks:List Value) (ms:List Int) (hh:Heap) (tk e:Nat),vs=dn++rest∧s'={ s with heap:=hh,toks:=tk }∧IntsAre ks ms∧ks.length=dn.length∧hh.get? kS=some (seqObj "list" ks.toArray e)∧∀ c o,c≠kS→h1.get? c=some o→hh.get? c=some o)
  (fun _ s'=>∃ (ks:List Value) (ms:List Int) (hh:Heap) (tk e:Nat),s'={ s with heap:=hh,toks:=tk }∧IntsAre ks ms∧ks.length=vs.length∧hh.get? kS=some (seqObj "list" ks.toArray e)∧∀ c o,c≠kS→h1.get? c=some o→hh.get? c=some o) ?turn ?fin _ _ ?beg) ?rest fun _ _ e=>e)
 case beg=>exact ⟨[],[],[],h1,_,0,rfl,rfl,.nil,rfl,hks,fun _ _ _ q=>q⟩
 case fin =>
  rintro _ s' ⟨dn,ks,ms,hh,tk,e,e1,e2,e3,e4,e5,e6⟩
  rw [P1] at e1
  exact ⟨ks,ms,hh,tk,e,e2,e3,by rw [e4,e1],e5,e6⟩
 case turn =>
  rintro v rest _ s' ⟨dn,ks,ms,hh,tk,e,ev,rfl,e3,e4,e5,e6⟩
  obtain ⟨l,items,rfl,hla,hli,hsz⟩:=hv v (by rw [ev]; simp)
  obtain ⟨o,q1,q2,q3⟩:=hli
  have hl':hh.IsList l items:=⟨o,e6 l o (kne l (OW q1)) (k1 l o hla q1),q2,q3⟩
  refine OM (Q6 (call_len_list hl' (by have:=oV; lia) ?_))
  dsimp only
  have hkl:ks.length≤sizeLine:=by rw [e4]; have:=congrArg Rw ev; simp at this; lia
  refine OM (Qs e5 rfl ?_ (by simpa using hkl) (by simp; lia))
  refine OO ⟨dn++[.ref l],ks++[.int items.size (tk+1)],ms++[(items.size:Int)],_,_,e+1,by rw [ev]; simp,rfl,e3.append (.cons _ _ .nil),by simp [e4],?_,fun c o hc q=>?_⟩
  ·have:=TQ e5 (fun a=>a.push (.int items.size (tk+1)))
   simpa using this
  ·rw [Q0 _ _ _ _ hc]; exact e6 c o hc q
 case rest =>
  rintro _ s' ⟨ks,ms,hh,tk,e,rfl,e3,e4,e5,e6⟩
  refine OM (SA e5 rfl ?_)
  have zl:(ks.toArray.zip vs.toArray).toList=ks.zip vs:=by rw [Array.toList_zip]
  have hoa:=e6 a _ hak ho6
  have pl:∀ {st':SortSt},(arrOf st').toList.Perm (ks.zip vs)→((arrOf st').map (·.2)).toList.Perm vs:=fun {st'} hp=>by
   rw [U6]
   have:=hp.map (·.2)
   rwa [wR e4] at this
  have ho7:(hh.update kS (Pw fun _=>(#[]:Array Value))).get? a=some (seqObj "list" #[] e1):=by rw [Q0 _ _ _ _ hak]; exact hoa
  have fin:∀ (out:Array Value),out.toList.Perm vs→P (.done (.ret .none)) { s with heap:=(hh.update kS (Pw fun _=>(#[]:Array Value))).update a (Pw fun _=>out),toks:=tk }:=fun out hp =>
   h out _ _ _ hp (TQ ho7 (fun _=>out)) fun c o hc q=>by
    have lc:=OW q
    rw [Q0 _ _ _ _ hc,Q0 _ _ _ _ (kne c lc)]
    exact e6 c o (kne c lc) (k1 c o hc q)
  have hkz:(ks.toArray:Array Value).size≤sizeLine:=by rw [O9,e4]; exact hz
  have oz:∀ {out:Array Value},out.toList.Perm vs→out.size≤sizeLine+1:=fun {out} hp=>by
   have l:=hp.length_eq
   rw [PM] at l; lia
  by_cases h2:vs.toArray.size<2
  ·rw [if_pos h2,if_pos h2]
   refine OM (OO ?_)
   rw [StateT.run_pure]
   refine OM (OO ?_)
   dsimp only
   have p0:=pl (st':=Rc general' (ks.toArray.zip vs.toArray) #[] 7 none) (by show (ks.toArray.zip vs.toArray).toList.Perm _; rw [zl])
   refine OM (Qs e5 rfl ?_ hkz)
   refine OM (Ue ?_)
   refine OM (R0 ho7 rfl (OM (Qs ho7 rfl ?_ (hsz2:=oz p0))))
   simp only [bne_self_eq_false,PR,if_false]
   exact OO (fin _ p0)
  ·rw [if_neg h2,if_neg h2]
   rw [ksk_kind (kz:=ms) e3 (by rw [O9,e4]; simpa using h2)]
   refine OM (OO ?_)
   have hC:iY prog w A { s with heap:=hh,toks:=tk } oneType' intOf (ks.zip vs):=fun x hx y hy E Q hQ=>by
    obtain ⟨m,t,ex⟩:=wU e3 hx
    obtain ⟨m',t',ey⟩:=wU e3 hy
    unfold intOf at hQ
    rw [ex,ey] at hQ ⊢
    rw [keyLt'_oneType]
    exact oneLt_int hQ
   refine OM (PD (wpS_sortRuns (κ:=oneType') (rk:=intOf) (L:=ks.zip vs) (st:=Rc oneType' (ks.toArray.zip vs.toArray) #[] 7 none)
    (Q:=fun _ st'=>(arrOf st').toList.Perm (ks.zip vs)∧failedOf st'=none) hC ⟨(by show (ks.toArray.zip vs.toArray).toList.Perm _; rw [zl]),rfl,rfl⟩ rfl fun st' a1 a2=>⟨a1.perm,a1.failed⟩) ?_ fun _ _ e=>e)
   rintro ⟨⟨⟩,st'⟩ s' ⟨rfl,hp,hf⟩
   dsimp only
   refine OM (Qs e5 rfl ?_ hkz)
   refine OM (Ue ?_)
   refine OM (R0 ho7 rfl (OM (Qs ho7 rfl ?_ (hsz2:=oz (pl hp)))))
   rw [hf]
   simp only [bne_self_eq_false,PR,if_false]
   exact OO (fin _ (pl hp))
end
end SR
namespace EV
open PySem PySem.Spec PySem.Calls PyProof.Rows L2
theorem kM:∀ l:List Int,HT.lexLt l l=false
 | []=>rfl
 | x::l=>by rw [HT.cJ,if_pos rfl]; exact kM l
theorem uK:∀ {a b c:List Int},HT.lexLt a b=true→HT.lexLt b c=true→HT.lexLt a c=true
 | [],[],_,h,_=>by cases h
 | [],_::_,[],_,h=>by cases h
 | [],_::_,_::_,_,_=>rfl
 | _::_,[],_,h,_=>by cases h
 | _::_,_::_,[],_,h=>by cases h
 | x::a,y::b,z::c,h,g=>by
  rw [HT.cJ] at h g ⊢
  by_cases e:x=y
  ·subst e
   rw [if_pos rfl] at h
   by_cases f:x=z
   ·subst f; rw [if_pos rfl] at g ⊢; exact uK h g
   ·rw [if_neg f] at g ⊢; exact g
  ·rw [if_neg e] at h
   have h:=of_decide_eq_true h
   by_cases f:y=z
   ·subst f; rw [if_neg e]; exact decide_eq_true h
   ·rw [if_neg f] at g
    have g:=of_decide_eq_true g
    rw [if_neg (by lia)]; exact decide_eq_true (by lia)
theorem kN:∀ {a b:List Int},a≠b→HT.lexLt a b=true∨HT.lexLt b a=true
 | [],[],h=>absurd rfl h
 | [],_::_,_=>.inl rfl
 | _::_,[],_=>.inr rfl
 | x::a,y::b,h=>by
  rw [HT.cJ,HT.cJ]
  by_cases e:x=y
  ·subst e
   rw [if_pos rfl,if_pos rfl]
   exact kN fun z=>h (by rw [z])
  ·rw [if_neg e,if_neg (Pf e)]
   rcases Int.lt_or_gt_of_ne e with z | z
   ·exact .inl (decide_eq_true z)
   ·exact .inr (decide_eq_true z)
noncomputable abbrev aG:=List Int×Int
noncomputable def cX (x y:aG):Bool:=if x.1=y.1 then decide (x.2<y.2) else HT.lexLt x.1 y.1
theorem pM (L:List aG):SR.GW cX L where
 irr:=fun x _=>by unfold cX; rw [if_pos rfl]; exact decide_eq_false (Int.lt_irrefl _)
 tr:=fun x _ y _ z _ h g=>by
  unfold cX at *
  by_cases e:x.1=y.1
  ·rw [if_pos e] at h
   by_cases f:y.1=z.1
   ·rw [if_pos f] at g; rw [if_pos (e.trans f)]
    exact decide_eq_true (Int.lt_trans (of_decide_eq_true h) (of_decide_eq_true g))
   ·rw [if_neg f] at g; rw [if_neg (fun w=>f (e.symm.trans w)),e]; exact g
  ·rw [if_neg e] at h
   by_cases f:y.1=z.1
   ·rw [if_neg (fun w=>e (w.trans f.symm)),← f]; exact h
   ·rw [if_neg f] at g
    have q:=uK h g
    rw [if_neg fun w=>by rw [w,kM] at q; cases q]; exact q
 tot:=fun x _ y _ h=>by
  unfold cX
  by_cases e:x.1=y.1
  ·rw [if_pos e,if_pos e.symm]
   have:x.2≠y.2:=fun z=>h (Prod.ext e z)
   rcases Int.lt_or_gt_of_ne this with z | z
   ·exact .inl (decide_eq_true z)
   ·exact .inr (decide_eq_true z)
  ·rw [if_neg e,if_neg (Pf e)]
   exact kN e
noncomputable abbrev aP (t:aG):D:=.tup [.tup (t.1.map .int),.int t.2]
section
variable {X:Cx}
noncomputable def ko (K:ON) (Hf:Hp) (d:D) (u:Value):Prop:=∃ v,RelV v u∧Rep K Hf d v
theorem BA (l m:List Int):ly 1 (.tup (l.map .int)) (.tup (m.map .int)):=.tup fun i d e h1 h2=>by
 simp only [OY,O4] at h1 h2
 obtain ⟨x,_,rfl⟩:=h1
 obtain ⟨y,_,rfl⟩:=h2
 exact .sc rfl
theorem jn:∀ {l:List Int} {ys:List V},aq X.K Hf (l.map D.int) ys→ys=l.map V.int
 | [],ys,h=>aA.mp h
 | n::l,ys,h=>by
  obtain ⟨y,r,rfl,z1,z2⟩:=aD.mp h
  rw [az] at z1; subst z1
  rw [jn z2]; rfl
theorem iM:∀ (l:List α) (r:List β) {Q:List β→Shared→Prop},Paired (fun a b=>∀ (Q:β→Shared→Prop),Q b s→wpAny M A (f a) Q E s) l r→Q r s→wpAny M A (l.mapM f) Q E s
 | _,_,Q,.nil,h=>by rw [List.mapM_nil]; exact OO h
 | _,_,Q,.cons q t,h=>by
  rw [List.mapM_cons]
  exact OM (q _ (OM (iM _ _ t (OO h))))
end
section
noncomputable abbrev Fo (X:Cx) (A:Around):Cx:={ X with A:=A }
theorem LY (ok:X.Ok) (h1:X.calm=true→A.handled=none) (h2:A.frames=some X.stack):(Fo X A).Ok :=
 ⟨ok.mod,ok.kind,ok.glob,ok.blt,ok.above,ok.inj,ok.has,ok.cab,h1,h2,ok.stk,ok.exf,ok.bs,ok.bsz,ok.noex,ok.exfs,ok.jD,ok.frf⟩
theorem jP (I:Inv X aa σ H s) (h1:X.calm=true→A.handled=none) (h2:A.frames=some X.stack):Inv (Fo X A) aa σ H s :=
 ⟨LY I.ok h1 h2,I.os,I.bare,I.base,I.loc,I.cell,I.free,I.freeC,I.pin,I.hok,I.len⟩
theorem gz (ok:X.Ok) (I:Inv (Fo X A) aa σ H s):Inv X aa σ H s :=
 ⟨ok,I.os,I.bare,I.base,I.loc,I.cell,I.free,I.freeC,I.pin,I.hok,I.len⟩
theorem Fq {fp:List Addr} (h:∀ b∈fp,gh X aa H b) (n:∀ b∈fp,H' b=none):∀ b∈fp,gh X aa H' b:=fun b hb=>⟨n b hb,(h b hb).2⟩
theorem BB (hc:X.calm=true) (Tn:Turn X.prog X.w X.K (.Name nm np) J fp it tn) (io:jJ X.K J ds D0)
 (hS0:Hb S=none) (hSf:S∉fp) (hn:ds.length≤sizeLine) (okX:X.Ok) (h1:X.A.in1.handled=none) (h2:X.A.in1.frames=some X.stack)
 (fin:∀ (s':Shared) (H' aj:Hp) (xs:List V),Inv X aa σ H' s'→H' S=some (.lst xs)→aj S=none→aq X.K aj ds xs→bu Hb D0 H' aj→R (.ok (.ret res)) s') :
 ∀ (k i:Nat) (s:Shared) (H Hf:Hp) (xs:List V),ds.length - i=k→i≤ds.length→Inv X aa σ H s→tn i s.heap→(∀ b∈fp,gh X aa H b)→H S=some (.lst xs)→Hf S=none→aq X.K Hf (ds.take i) xs→bu Hb D0 H Hf →
  codeAny (model X.prog X.w) X.A (.builtin "list.extend.loop" ⟨[.ref S,.ref it,res],[]⟩) R s:=by
 intro k
 induction k with
 | zero =>
  intro i s H Hf xs hk hi I t hf hS hfS hr g
  have e:i=ds.length:=by omega
  subst e
  rw [PU] at hr
  refine Sn PySem.F.entry_extend_loop ?_
  rw [Th SW _]
  show wpAny _ X.A.in1 (pyNext (.ref it) >>= _) _ _ s
  refine OM (PD (Tn.done (Fo X X.A.in1) rfl rfl rfl hc _ aa s σ H _ (jP I (fun _=>h1) h2) hf t (io.stop _ H Hf g.f g.b (OP _))) (fun r s' ⟨e,I'⟩=>?_) fun _ _ x=>x)
  subst e
  exact OO (fin s' H Hf xs (gz okX I') hS hfS hr g)
 | succ k ih =>
  intro i s H Hf xs hk hi I t hf hS hfS hr g
  have lt:i<ds.length:=by omega
  have ed:ds[i]?=some ds[i]:=Pc lt
  obtain ⟨hgo,hy⟩:=io.go i ds[i] H Hf g.f g.b ed
  refine Sn PySem.F.entry_extend_loop ?_
  rw [Th SW _]
  show wpAny _ X.A.in1 (pyNext (.ref it) >>= _) _ _ s
  refine OM (PD (Tn.item (Fo X X.A.in1) rfl rfl rfl hc i aa s σ H _ (jP I (fun _=>h1) h2) hf t hgo) (fun r s1 ⟨u,e,hu⟩=>?_) fun _ _ x=>x)
  subst e
  show wpAny _ X.A.in1 (letOwnedTupleGo (.Name nm np) (.ref it) u >>= fun _=>(QZ (.ref S) (·.push u) >>= fun _=>again (.builtin "list.extend.loop" ⟨[.ref S,.ref it,res],[]⟩))) _ _ s1
  refine OM (PD hu (fun _ s2 ⟨x,H',I2,rx,y,t2,n2⟩=>?_) fun _ _ x=>x)
  have I2:=gz okX I2
  obtain ⟨aj,g',rd⟩:=hy x H' y
  have hS':H' S=some (.lst xs):=g'.s _ _ hS
  have hfS':aj S=none:=g'.n S hfS (by rw [hS]; simp) (by intro ys; rw [hS]; simp)
  obtain ⟨z,its,n,rv,el,eo⟩:=I2.qE hS'
  have hx:xs.length=i:=by rw [← hr.length,P9]; omega
  have hz:(xs++[x]).length≤sizeLine:=by simp only [Py,Pr,QD]; omega
  refine OM (Qs eo rfl ?_ (by simp; omega) (by simp; omega))
  have ef:(fun a:Array Value=>a.push u) its.toArray=(its++[u]).toArray:=by simp
  have I3:=I2.uh (f:=fun a=>a.push u) (t':=s2.toks) hS' eo ef (rv.append (.cons rx .nil)) hz
  refine OO ⟨plainId_quiet SW _,ih (i+1) _ (upd H' S (.lst (xs++[x]))) aj (xs++[x]) (by omega) lt I3 (Tn.keep _ _ _ t2 fun b hb o e=>?_) (Fq hf fun b hb=>?_) ai hfS' ?_ (pC (g.trans g') hS0 hfS')⟩
  ·exact (Tc _ _ (fun w:S=b=>hSf (w ▸ hb))).trans e
  ·rw [ak (fun w:b=S=>hSf (w ▸ hb))]; exact n2 b hb
  ·rw [UW,ed]
   exact (hr.mono g'.f).append (aq.one rd)
end
section
theorem yz (hT:s.TypeIs (.ref v) "dict_items") (hQ:Q false s):wpAny (model prog w) A (RD (.ref v)) Q E s:=by
 unfold RD
 refine OM (wpAny_specialOf hT PySem.F.slot_dict_items_len.lookup ?_)
 have e:splitId "dict_items.__len__"=some ("dict_items","__len__"):=by decide +kernel
 dsimp only
 rw [e]
 dsimp only
 refine OM (TH (b:=true) hT (by rw [isSubtype_type]; kernel_rfl) ?_)
 rw [if_neg (by decide)]
 exact OM (Q7 hT (OO hQ))
end
section
theorem Ft (I:Inv X aa σ H s) (hv:s.heap.IsItemsView v d) (hH:H d=some (.frz o u)) (hd:HO.dct u) :
 wpAny (model X.prog X.w) A (pyIter (.ref v)) (fun itv s2=>∃ (it:Addr) (es:Array DictEntry) (ep:Nat),itv=.ref it∧s.heap.objs.size≤it∧Inv X aa σ H s2∧Turn X.prog X.w X.K tg (N5 d o u) [it] it (fun i h=>Bg h it d i es.size ep)∧Bg s2.heap it d 0 es.size ep∧(∀ b∈[it],gh X aa H b) ∧
  (∀ b o,s.heap.get? b=some o→s2.heap.get? b=some o)) E s:=by
 obtain ⟨ho,ok⟩:=(show bq X.prog X.w H s.heap d (.frz o u) from I.hok d _ hH)
 obtain ⟨hx,es,ep,hod,hp,hs,hz⟩:=cM ok hd ho
 refine yp hv ho hod ?_
 have hsz:es.size=(bK u).length:=by rw [Qj hp]; simp
 refine ⟨_,es,ep,rfl,OP _,I.kept (t':=s.toks) fun b o e=>OU _ e,uE (o:=o) (u:=u) (es:=es) (ep:=ep) hd hod (fun z=>?_) hsz,⟨.none,false,.none,.none,O6 _ rfl,.inl rfl⟩,fun b hb=>?_,fun b o e=>OU _ e⟩
 ·have lt:=OW ho
  rw [← z] at lt
  exact absurd lt (Qy _)
 ·have e:b=s.heap.objs.size:=by simpa using hb
  subst e
  exact I.mT (OP _) (I.hok.fresh (OP _))
theorem om (hc:X.calm=true) (h1:X.A.in1.handled=none) (h2:X.A.in1.frames=some X.stack) (I1:Inv X aa σ (upd H S (.lst [])) s) (sb:aH Hf H) (HS:H S=none) (hvS:S≠src) (hltS:S<s.heap.objs.size) (hn:ds.length≤sizeLine)
 (hT:(false || Qe T == Qe "list" || Qe T == Qe "tuple")=false) (ty:∀ s':Shared,(∀ b o,s.heap.get? b=some o→s'.heap.get? b=some o)→s'.TypeIs (.ref src) T)
 (hint:∀ (A:Around) (s':Shared) (Q:Bool→Shared→Prop) (E:Value→Shared→Prop),s'.TypeIs (.ref src) T→Q false s'→wpAny (model X.prog X.w) A (RD (.ref src)) Q E s')
 (iter:wpAny (model X.prog X.w) X.A.in1 (pyIter (.ref src)) (fun itv s2=>∃ (it:Addr) (tn:Nat→Heap→Prop) (J:It),itv=.ref it ∧
   s.heap.objs.size≤it∧Inv X aa σ (upd H S (.lst [])) s2∧Turn X.prog X.w X.K (.Name "x" ⟨0,0,0,0⟩) J [it] it tn∧tn 0 s2.heap∧(∀ b∈[it],gh X aa (upd H S (.lst [])) b)∧(∀ b o,s.heap.get? b=some o→s2.heap.get? b=some o)∧jJ X.K J ds Hf) E s)
 (hR:∀ (s':Shared) (H' aj:Hp) (xs:List V),Inv X aa σ H' s'→H' S=some (.lst xs)→aj S=none→aq X.K aj ds xs→bu H Hf H' aj→R (.ok (.ret res)) s') :
 wpAny (model X.prog X.w) X.A.in1 (SS (.ref S) (.ref src) res) (fun fin s'=>match fin with | .done f=>R (.ok f) s' | .again c=>c.quiet=true∧codeAny (model X.prog X.w) X.A c R s') E s:=by
 unfold SS
 have ne:Builtin.List.listSameRef (.ref S) (.ref src)=false:=by simp [Builtin.List.listSameRef,hvS]
 refine OM (Q7 (ty s fun _ _ e=>e) ?_)
 rw [if_neg (by rw [ne,hT]; decide)]
 refine OM (PD iter (fun itv s2 hh=>z3 hh fun it tn J hh=>w8 hh fun e hit I2 Tn t0 hf k2 io=>?_) fun _ _ x=>x)
 subst e
 refine OM (Qa (hint _ s2 _ _ (ty s2 k2) ?_))
 have hSne:it≠S:=RZ (PN hltS hit)
 have g0:bu H Hf (upd H S (.lst [])) Hf:=bu.gq sb HS
 have fin:∀ s3:Shared,Inv X aa σ (upd H S (.lst [])) s3→tn 0 s3.heap→wpAny (model X.prog X.w) X.A.in1 (again (.builtin "list.extend.loop" ⟨[.ref S,.ref it,res],[]⟩)) (fun fin s'=>match fin with | .done f=>R (.ok f) s' | .again c=>c.quiet=true∧codeAny (model X.prog X.w) X.A c R s') E s3:=fun s3 I3 t3 =>
  OO ⟨plainId_quiet SW _,BB (X:=X) (Hb:=H) (D0:=Hf) hc Tn io HS (fun m=>hSne (O3.mp m).symm) hn I1.ok h1 h2 hR ds.length 0 s3 _ Hf [] (by simp) (Pn _) I3 t3 hf ai (sb.free HS) (aA.mpr rfl) g0⟩
 obtain ⟨_,its,n,rv,el,eo⟩:=I2.qE (l:=S) (xs:=[]) ai
 cases rv
 split
 ·refine OM (Ql ?_)
  unfold Builtin.List.listTouch
  refine OM (OM (Qs eo rfl ?_))
  have I3:=I2.uh (f:=fun a=>a.push .none) (its':=[.none]) (ys:=[.non]) (t':=s2.toks) ai eo (by simp) (.cons rfl .nil) (by show 1≤sizeLine; decide)
  obtain ⟨_,its3,n3,rv3,el3,eo3⟩:=I3.qE (l:=S) (xs:=[.non]) ai
  cases rv3 with
  | cons r3 t3 =>
   cases t3
   cases r3
   refine Qs eo3 rfl ?_
   have I4:=I3.uh (f:=fun a=>a.pop) (its':=[]) (ys:=[]) (t':=s2.toks) ai eo3 (by simp) .nil (Pn _)
   rw [oR,oR] at I4
   refine fin _ I4 (Tn.keep 0 _ _ t0 fun b hb o e=>?_)
   have hbS:S≠b:=fun w=>hSne (by rw [O3.mp hb] at w; exact w.symm)
   exact (Tc _ _ hbS).trans ((Tc _ _ hbS).trans e)
 ·exact fin s2 I2 t0
theorem lX (hc:X.calm=true) (h1:X.A.in1.handled=none) (h2:X.A.in1.frames=some X.stack) (I:Inv X aa σ H s) (sb:aH Hf H) (hlt:src<s.heap.objs.size) (hn:ds.length≤sizeLine) (hT:(false || Qe T == Qe "list" || Qe T == Qe "tuple")=false)
 (ty:∀ s':Shared,(∀ b o,s.heap.get? b=some o→s'.heap.get? b=some o)→s'.TypeIs (.ref src) T)
 (hint:∀ (A:Around) (s':Shared) (Q:Bool→Shared→Prop) (E:Value→Shared→Prop),s'.TypeIs (.ref src) T→Q false s'→wpAny (model X.prog X.w) A (RD (.ref src)) Q E s')
 (iter:∀ (A:Around) (s1:Shared) (H1:Hp) (E:Value→Shared→Prop),Inv X aa σ H1 s1→aH Hf H1→(∀ b o,s.heap.get? b=some o→s1.heap.get? b=some o)→wpAny (model X.prog X.w) A (pyIter (.ref src)) (fun itv s2=>∃ (it:Addr) (tn:Nat→Heap→Prop) (J:It),itv=.ref it ∧
   s1.heap.objs.size≤it∧Inv X aa σ H1 s2∧Turn X.prog X.w X.K (.Name "x" ⟨0,0,0,0⟩) J [it] it tn∧tn 0 s2.heap∧(∀ b∈[it],gh X aa H1 b)∧(∀ b o,s1.heap.get? b=some o→s2.heap.get? b=some o)∧jJ X.K J ds Hf) E s1)
 (hQ:∀ (us:List Value) (s':Shared) (H' aj:Hp) (xs:List V),Inv X aa σ H' s'→Vals xs us→aq X.K aj ds xs→bu H Hf H' aj→ds.length≤sizeLine→Q us s'):wpAny (model X.prog X.w) X.A (collect (.ref src)) Q E s:=by
 unfold collect
 refine OM (wpAny_runValue (Sn PySem.F.entry_proto_collect ?_))
 rw [Th PySem.F.plain_proto_collect _]
 show wpAny _ X.A.in1 (newList [] >>= fun l=>again (.builtin "list.__iadd__" ⟨[l,.ref src],[]⟩)) _ _ s
 have HS:H s.heap.objs.size=none:=I.hok.fresh (OP _)
 have hvS:s.heap.objs.size≠src:=RZ hlt
 refine OM (P6 (OO ⟨plainId_quiet PySem.F.plain_list_iadd _,Sn PySem.F.entry_list_iadd ?_⟩))
 rw [Th PySem.F.plain_list_iadd _]
 generalize hS:s.heap.objs.size=S at *
 have I1:Inv X aa σ (upd H S (.lst [])) { s with heap:=s.heap.push { cls:=.type "list",data:=.seq ([]:List Value).toArray },toks:=s.toks }:=by
  have:=I.Er (t':=s.toks) (ys:=[]) (its:=[]) .nil (Pn _)
  rw [hS] at this
  exact this
 show wpAny _ X.A.in1 (SS (.ref S) (.ref src) (.ref S)) _ _ { s with heap:=s.heap.push { cls:=.type "list",data:=.seq ([]:List Value).toArray } }
 have k1:∀ b o,s.heap.get? b=some o→(s.heap.push { cls:=.type "list",data:=.seq ([]:List Value).toArray }).get? b=some o:=fun b o e=>OU _ e
 generalize hs1:({ s with heap:=s.heap.push { cls:=.type "list",data:=.seq ([]:List Value).toArray } }:Shared)=s1
 replace I1:Inv X aa σ (upd H S (.lst [])) s1:=by rw [← hs1]; exact I1
 replace k1:∀ b o,s.heap.get? b=some o→s1.heap.get? b=some o:=by rw [← hs1]; exact k1
 have hltS:S<s1.heap.objs.size:=by rw [← hs1,← hS]; show _<(Heap.push _ _).objs.size; rw [Q5]; exact Ro _
 refine om (R:=fun r s'=>match r with
  | .ok (.ret v)=>wpAny (model X.prog X.w) X.A (do
   let .ref a:=v | unsupported "internal:collect"
   let o ← load a
   match o.data with
   | .seq xs _=>pure xs.toList
   | _=>unsupported "internal:collect") Q E s'
  | .ok _=>False
  | .error e=>E e s') hc h1 h2 I1 sb HS hvS hltS hn hT (fun s' k=>ty s' fun b o e=>k b o (k1 b o e)) hint (iter _ s1 _ _ I1 (bu.gq sb HS (o:=.lst [])).b k1) fun s' H' aj xs I' hS' _ hr g=>?_
 obtain ⟨_,its,n,rv,el,eo⟩:=I'.qE hS'
 exact OM (wpAny_load eo (OO (hQ its s' H' aj xs I' rv hr g hn)))
end
noncomputable def Jf (te:TE):TE:=fun σ H Q=>te σ H fun x H1=>∃ d o u,x=.ref d∧H1 d=some (.frz o u)∧HO.dct u∧∀ v,H1 v=none→Q (.ref v) (upd H1 v (.ext fun h=>h.IsItemsView v d))
theorem BC (he:PE X e te) (hbase:attributeBase e "items" X.env (eval e X.env)=eval e X.env) (hline:(ap.endLine == cp.line)=true):PE X (.Call (.Attribute e "items" ap) [] [] cp) (Jf te):=by
 intro aa s σ H Q I h
 refine wpAny_Call_method (T:="dict") (id:="dict.items") hbase rfl hline F.plainAttrs_dict F.slot_dict_items F.type_dict_items (bJ (he aa s σ H _ I h) fun v s1 ⟨x,H1,I1,r1,d,o,u,ex,hH,hd,q⟩=>?_)
 subst ex
 cases r1
 obtain ⟨ho,ok⟩:=(show bq X.prog X.w H1 s1.heap d (.frz o u) from I1.hok d _ hH)
 obtain ⟨hx,es,ep,hod,hp,hs,hz⟩:=cM ok hd ho
 have hT:s1.TypeIs (.ref d) "dict":=⟨o,ho,hx.1⟩
 refine ⟨hT,fun b z=>by cases z; exact ⟨o,ho,hx.2.1⟩,?_⟩
 show wpAny _ _ (callWith cp (.builtin "dict.items") [.ref d] [] []) _ _ s1
 refine method_meetsIn F.slot_dict_items F.entry_dict_items rfl (PySem.evalArgs_none ⟨rfl,hT,F.args_dict_items_1 _,_,rC d hs,hT,?_⟩)
 have Hv:H1 s1.heap.objs.size=none:=I1.hok.fresh (OP _)
 have hve:(s1.heap.push { cls:=.type "dict_items",data:=.fields #[.ref d] }).IsItemsView s1.heap.objs.size d:=⟨_,O6 _ rfl,rfl,rfl⟩
 have I2:Inv X aa σ (upd H1 s1.heap.objs.size (.ext fun h=>h.IsItemsView s1.heap.objs.size d)) { s1 with heap:=s1.heap.push { cls:=.type "dict_items",data:=.fields #[.ref d] },toks:=s1.toks } :=
  I1.laid (a:=s1.heap.objs.size) (fun _ _ q=>OU _ q) (OP _) ⟨hve,⟨_,O6 _ rfl⟩,fun h1 h2 ⟨o,e,r⟩ k=>⟨o,k o e,r⟩⟩
 exact ⟨.ref s1.heap.objs.size,_,I2,rfl,q _ Hv⟩
section
variable {X:Cx} {aa:List (Addr×Obj)} {σ:L2.St} {H Hf:Hp} {s:Shared} {E:Value→Shared→Prop} {α:Type} {enc:α→D} {lt:α→α→Bool} {κ:SortKind}
theorem lY {K:ON}:∀ {L:List α} {xs:List V} {us:List Value},aq K Hf (L.map enc) xs→Vals xs us→Paired (fun x u=>ko K Hf (enc x) u) L us
 | [],xs,us,h,v=>by rw [Ra,aA] at h; subst h; cases v; exact .nil
 | t::L,xs,us,h,v=>by
  rw [OS] at h
  obtain ⟨x,r,rfl,h1,h2⟩:=aD.mp h
  cases v with
  | cons r1 r2=>exact .cons ⟨x,r1,h1⟩ (lY h2 r2)
theorem lZ {K:ON}:∀ {L:List α} {us:List Value},Paired (fun x u=>ko K Hf (enc x) u) L us→∃ xs,aq K Hf (L.map enc) xs∧Vals xs us
 | _,_,.nil=>⟨[],aA.mpr rfl,.nil⟩
 | _,_,.cons ⟨x,r1,h1⟩ t=>by
  obtain ⟨xs,h2,h3⟩:=lZ t
  exact ⟨x::xs,.cons h1 h2,.cons r1 h3⟩
structure LZ (X:Cx) (enc:α→D) (lt:α→α→Bool) (κ:SortKind):Prop where
 lin:∀ L:List α,SR.GW lt L
 inj:∀ (aa:List (Addr×Obj)) (σ:L2.St) (H Hf:Hp) (s:Shared),Inv X aa σ H s→aH Hf H→∀ x y u,ko X.K Hf (enc x) u→ko X.K Hf (enc y) u→x=y
 kind:∀ (aa:List (Addr×Obj)) (σ:L2.St) (H Hf:Hp) (s:Shared) (A:Around) (E:Value→Shared→Prop),Inv X aa σ H s→aH Hf H→∀ (L:List α) (us:List Value),Paired (fun x u=>ko X.K Hf (enc x) u) L us→2≤us.length→∀ Q:SortKind→Shared→Prop,Q κ s→wpAny (model X.prog X.w) A (keyKind' us.toArray) Q E s
 cmp:∀ (aa:List (Addr×Obj)) (σ:L2.St) (H Hf:Hp) (s:Shared) (A:Around) (E:Value→Shared→Prop),Inv X aa σ H s→aH Hf H→A.units+10<cLine→∀ (x y:α) (u v:Value),ko X.K Hf (enc x) u→ko X.K Hf (enc y) v→∀ Q:Bool→Shared→Prop,Q (lt x y) s→wpAny (model X.prog X.w) A (keyLt' κ u v) Q E s
noncomputable def fR (lt:α→α→Bool) (b:Bool) (L:List α):Prop:=L.Pairwise fun x y=>if b then lt y x=true else lt x y=true
noncomputable abbrev jo (b:Bool) (L:List aG):Prop:=fR cX b L
theorem BD {Q:Value→Shared→Prop} (hs:LZ X enc lt κ) (I:Inv X aa σ H s) (sb:aH Hf H) (hA:A.units+20<cLine) (hr:aq X.K Hf (L.map enc) xs) (hv:Vals xs us) (hz:us.length≤sizeLine) (nd:L.Nodup)
 (hQ:∀ (L':List α) (xs':List V) (s':Shared),L'.Perm L→fR lt b L'→aq X.K Hf (L'.map enc) xs'→xs'.length≤sizeLine→Inv X aa σ (upd H s.heap.objs.size (.lst xs')) s'→Q (.ref s.heap.objs.size) s') :
 wpAny (model X.prog X.w) A (newList us >>= fun l=>(holding [l] (call (.builtin "list.sort") [l] [(OL "reverse",.bool b)]) >>= fun _=>ret l)) (fun fin s'=>∃ v,fin=.done (.ret v)∧Q v s') E s:=by
 refine OM (Sw ?_ hz)
 have ha:(s.heap.push (seqObj "list" us.toArray 0)).get? s.heap.objs.size=some (seqObj "list" us.toArray 0):=O6 _ rfl
 have I1:Inv X aa σ H { s with heap:=s.heap.push (seqObj "list" us.toArray 0),toks:=s.toks }:=I.kept fun b o e=>OU _ e
 have Ha:H s.heap.objs.size=none:=I.hok.fresh (OP _)
 obtain ⟨f0,f1,f2,f3,f4,f5⟩:=I.mT (H':=H) (OP _) Ha
 have pL:=lY hr hv
 refine OM (Qa (UG slot_list_sort ⟨_,ha,rfl⟩ entry_list_sort (SR.oj (κ:=κ) (rk:=SR.yy (fun x u=>ko X.K Hf (enc x) u) lt L) (b:=b) ha ?_ hz fun out hp ho=>⟨_,rfl,?_⟩) (args_list_sort_rev _ _)))
 ·intro h' k
  have I2:=I1.turned (h':=h') (t':=s.toks) (it:=s.heap.objs.size) (fun b o hb e=>k b o hb e) f0 f1 f3 f4 f5
  refine ⟨fun Q E h2 hQ=>hs.kind _ _ _ _ _ _ _ I2 sb _ _ pL h2 _ hQ,SR.Bx (fun x y u h1 h2=>hs.inj _ _ _ _ _ I2 sb x y u h1 h2) (hs.lin L) pL fun x _ y _ u v hx hy E Q hQ=>hs.cmp _ _ _ _ _ _ _ I2 sb ?_ _ _ _ _ hx hy _ hQ⟩
  show A.units+1+10<cLine
  lia
 ·obtain ⟨L',p1,p2,p3⟩:=SR.rT (S:=fun x u=>ko X.K Hf (enc x) u) (fun x y u h1 h2=>hs.inj _ _ _ _ _ I sb x y u h1 h2) (hs.lin L) nd pL hp ho
  obtain ⟨xs',r',v'⟩:=lZ p3
  obtain ⟨e,he⟩:=sortedHeap_at (vs:=us) (out:=out) ha
  have hl:out.toList.length=us.length:=hp.length_eq
  refine OO ⟨_,rfl,hQ L' xs' _ p1 p2 r' ?_ ?_⟩
  ·have:=v'.length; lia
  ·refine I.laid (t':=s.toks) (fun b o q=>?_) (OP _) ⟨by have:=v'.length; lia,out.toList,e,v',by simpa using he⟩
   have lt:=OW q
   rw [sortedHeap_old (Pk lt) (by rw [size_push']; exact Tt lt)]
   exact OU _ q
end
section
end
section
variable {K:ON}
end
section
end
section
variable {K:ON}
end
end EV
namespace EV
open PySem PySem.Spec PyProof.Rows L2
noncomputable def trim (l:List Int):List Int:=(l.reverse.dropWhile fun x=>x == 0).reverse
theorem ie (l):trim (l++[0])=trim l:=by simp [trim]
theorem oq (l) (h:x≠0):trim (l++[x])=l++[x]:=by simp [trim,List.dropWhile_cons,h]
theorem jQ {l:List Int} (h:m<l.length):l.take (m+1)=l.take m++[l.getD m 0]:=by
 rw [P0 h]; simp [P8,h]
theorem ou (h:m<l.length) (z:l.getD m 0=0) (e:trim (l.take (m+1))=trim l):trim (l.take m)=trim l:=by
 rw [jQ h,z,ie] at e; exact e
theorem jR (h:m<l.length) (z:l.getD m 0≠0) (e:trim (l.take (m+1))=trim l):l.take (m+1)=trim l:=by
 rw [← e,jQ h,oq _ z]
theorem gB (l):(trim l).length≤l.length:=by
 unfold trim
 rw [UJ]
 exact OV (List.dropWhile_sublist _).length_le (by simp)
theorem cu (l):trim (trim l)=trim l:=by
 unfold trim
 rw [List.reverse_reverse]
 congr 1
 generalize l.reverse=r
 induction r with
 | nil=>rfl
 | cons x r ih=>by_cases h:x == 0 <;> simp [List.dropWhile_cons,h,ih]
theorem BE (l:List α) (h:m≤l.length):EV.cutD l none (some (m:Int))=l.take m:=by
 unfold EV.cutD HT.cg
 have e:¬ (m:Int)<0:=by lia
 simp only [e,if_false,Pz]
 simp [So h]
section
variable {K:ON}
end
noncomputable def encA (A:List aG):List (List Key×D):=A.map fun t=>(t.1.map O8,.int t.2)
theorem pN:∀ {l m:List Int},(l.map (O8:Int→Key))=m.map O8→l=m
 | [],[],_=>rfl
 | x::l,y::m,h=>by
  simp only [OS,List.cons.injEq,O8.injEq] at h
  rw [h.1,pN h.2]
 | [],_::_,h=>by simp at h
 | _::_,[],h=>by simp at h
theorem pO (A) (l):bD (encA A) (l.map O8)=(bD A l).map D.int:=by
 induction A with
 | nil=>rfl
 | cons t A ih =>
  by_cases e:t.1=l
  ·rw [br e]
   show bD ((t.1.map O8,D.int t.2)::encA A) _=_
   rw [br (by rw [e])]; rfl
  ·rw [aU e,← ih]
   show bD ((t.1.map O8,D.int t.2)::encA A) _=_
   rw [aU fun z=>e (pN z)]
theorem Fv (A) (l) (n):putD (encA A) (l.map O8) (.int n)=encA (putD A l n):=by
 unfold putD
 rw [pO]
 by_cases h:(bD A l).isSome=true
 ·rw [if_pos h,if_pos (by rw [Rn]; exact h)]
  unfold encA
  rw [Pb,Pb]
  refine QN fun t _=>?_
  simp only [T7]
  by_cases e:t.1=l
  ·rw [if_pos e,if_pos (by rw [e])]
  ·rw [if_neg e,if_neg fun z=>e (pN z)]
 ·rw [if_neg h,if_neg (by rw [Rn]; exact h)]
  unfold encA
  simp
theorem fH:∀ l:List Int,D.keys (l.map D.int)=some (l.map O8)
 | []=>rfl
 | x::l=>by
  simp only [OS]
  unfold D.keys
  rw [fH l]; rfl
theorem Fw (A:List aG) (l:List Int) (n:Int):(putD A l n).length≤A.length+1:=by
 unfold putD; split <;> simp
theorem Fx (A):(encA A).length=A.length:=by simp [encA]
theorem rV (l:List Int) (n:Int) (h:(A.map (·.1)).Nodup):((putD A l n).map (·.1)).Nodup:=by
 unfold putD
 split
 ·rw [Pb]
  have e:(A.map ((·.1)∘fun kv:aG=>if kv.1=l then (kv.1,n) else kv))=A.map (·.1):=QN fun t _=>by
   simp only [T7]; split <;> rfl
  rw [e]; exact h
 ·rename_i q
  rw [Pq,Tz]
  refine ⟨h,by simp,?_⟩
  intro a ha b hb
  simp at hb
  subst hb
  intro z
  subst z
  apply q
  obtain ⟨t,ht,e⟩:=Pa.mp ha
  unfold bD
  rw [Rn,List.find?_isSome]
  exact ⟨t,ht,decide_eq_true e⟩
theorem keys_nodup {A:List aG} (h:(A.map (·.1)).Nodup):A.Nodup:=by
 unfold SJ at *
 rw [QS] at h
 exact h.imp fun q z=>q (by rw [z])
noncomputable def fS (A:List aG) (t:aG):List aG:=putD A (trim t.1) ((bD A (trim t.1)).getD 0+t.2)
noncomputable def aL (ts:List aG):List aG:=ts.foldl fS []
theorem rX (ts) (t):aL (ts++[t])=fS (aL ts) t:=by simp [aL]
theorem pP (ts:List aG) (A):(ts.foldl fS A).length≤A.length+ts.length:=by
 induction ts generalizing A with
 | nil=>simp
 | cons t ts ih =>
  have h1:=ih (fS A t)
  have h2:=Fw A (trim t.1) ((bD A (trim t.1)).getD 0+t.2)
  simp only [Qo,Pr]
  unfold fS at *
  lia
theorem ig (ts):(aL ts).length≤ts.length:=by
 have:=pP ts []
 simpa [aL] using this
theorem d9 (ts):((aL ts).map (·.1)).Nodup:=by
 unfold aL
 have:∀ A:List aG,(A.map (·.1)).Nodup→((ts.foldl fS A).map (·.1)).Nodup:=by
  induction ts with
  | nil=>exact fun A h=>h
  | cons t ts ih=>exact fun A h=>ih _ (rV _ _ h)
 exact this [] (by simp)
theorem Fy (x):cX x x=false:=(pM [x]).irr x (by simp)
theorem BF (h:cX x y=true) (g:cX y z=true):cX x z=true:=(pM [x,y,z]).tr x (by simp) y (by simp) z (by simp) h g
theorem l5:∀ {L M:List aG},L.Perm M→jo true L→jo true M→L=M
 | [],M,h,_,_=>by rw [List.nil_perm] at h; exact h.symm
 | x::L,[],h,_,_=>by simp at h
 | x::L,y::M,h,h1,h2=>by
  unfold jo fR at h1 h2
  rw [RQ] at h1 h2
  by_cases e:x=y
  ·subst e
   rw [l5 ((List.perm_cons _).mp h) h1.2 h2.2]
  ·exfalso
   have hx:x∈M:=by
    have:=h.subset (O1)
    rcases O5.mp this with z | z
    ·exact absurd z e
    ·exact z
   have hy:y∈L:=by
    have:=h.symm.subset (O1)
    rcases O5.mp this with z | z
    ·exact absurd z.symm e
    ·exact z
   have a:=h1.1 y hy
   have b:=h2.1 x hx
   simp only [if_true] at a b
   have:=BF a b
   rw [Fy] at this; cases this
noncomputable def yC (t:aG):List aG→List aG
 | []=>[t]
 | x::r=>if cX x t=true then t::x::r else x::yC t r
noncomputable def fJ (L:List aG):List aG:=L.foldr yC []
theorem l6 (t):∀ L:List aG,(yC t L).Perm (t::L)
 | []=>.refl _
 | x::r=>by
  unfold yC
  split
  ·exact .refl _
  ·exact ((l6 t r).cons x).trans (.swap _ _ _)
theorem bF:∀ L:List aG,(fJ L).Perm L
 | []=>.refl _
 | t::L=>(l6 t (fJ L)).trans ((bF L).cons t)
theorem Fz (h:x≠y):cX x y=true∨cX y x=true:=(pM [x,y]).tot x (by simp) y (by simp) h
theorem wV (t):∀ L:List aG,t∉L→jo true L→jo true (yC t L)
 | [],_,_=>RJ _ _
 | x::r,hn,h=>by
  have h':=h
  unfold jo fR at h'
  rw [RQ] at h'
  unfold yC
  by_cases e:cX x t=true
  ·rw [if_pos e]
   unfold jo fR
   rw [RQ]
   refine ⟨fun y hy=>?_,h⟩
   simp only [if_true]
   rcases O5.mp hy with rfl | z
   ·exact e
   ·have:=h'.1 y z
    simp only [if_true] at this
    exact BF this e
  ·rw [if_neg e]
   unfold jo fR
   rw [RQ]
   refine ⟨fun y hy=>?_,wV t r (fun z=>hn (O2 _ z)) h'.2⟩
   rcases O5.mp ((l6 t r).subset hy) with rfl | z
   ·simp only [if_true]
    rcases Fz (x:=x) (y:=y) (fun z=>hn (by rw [z]; exact O1)) with q | q
    ·exact absurd q e
    ·exact q
   ·exact h'.1 y z
theorem ir:∀ {L:List aG},L.Nodup→jo true (fJ L)
 | [],_=>Sk
 | t::L,h=>by
  rw [Qn] at h
  exact wV t _ (fun z=>h.1 ((bF L).subset z)) (ir h.2)
theorem BG (hn:L.Nodup) (hp:L'.Perm L) (hs:jo true L'):L'=fJ L:=l5 (hp.trans (bF L).symm) hs (ir hn)
noncomputable def nz (L:List aG):List aG:=L.filter fun t=>t.2 != 0
theorem BH (hn:L.Nodup):nz (fJ L)=fJ (nz L) :=
 BG (Ul.filter _ hn) ((bF L).filter _) ((ir hn).filter _)
theorem encK (A):(Sl.oT (encA A)).rA=some (.fdT (A.map fun t=>t.1.map O8) (A.map fun t=>.int t.2)):=by
 show some _=some _
 unfold encA
 rw [Pb,Pb]; rfl
theorem BI (h:r.yi=some (encA A)) (l):GP r (.tup (l.map .int)) ((bD A l).map D.int):=by
 rw [← pO]; exact .t h (fH l)
theorem BJ (hz:A.length<sizeLine):EW (.oT (encA A)) (.tup (l.map .int)) (.int n) (.oT (encA (putD A l n))):=by
 rw [← Fv]
 exact .t (r:=.oT (encA A)) rfl (fH l) (by rw [Fx]; exact hz)
theorem rY (o:Option Int):(o.map D.int).getD (.int 0)=.int (o.getD 0):=by cases o <;> rfl
end EV
namespace EV
open PySem PySem.Spec PySem.Calls PyProof.Rows L2
section
theorem pQ {L:List Addr} (I:Inv X aa σ H s) (k:∀ b o,b∉L→s.heap.get? b=some o→h'.get? b=some o) (hf:∀ b∈L,gh X aa H b):Inv X aa σ H { s with heap:=h',toks:=t' }:=by
 have nit:∀ b u,H b=some u→b∉L:=fun b u e z=>by rw [(hf b z).1] at e; cases e
 refine I.step (g':=s.gens) (d':=s.drawn) (ch:=L) (fun b hb=>?_) (fun b o _ _ hc e _=>k b o hc e) (fun b o _ _ hc e _=>⟨o.slots,k b o hc e⟩) (fun _ _ _ _ n=>n)
  (fun b o hc e=>⟨o,k b o hc e⟩) (fun _ _ e=>e) (fun _ _ _ e=>e) (fun b ps e=>⟨#[],by rw [e]; simp⟩) (fun m hm=>?_) (fun b u e=>?_) I.bare
 ·obtain ⟨_,f1,_,f3,f4,f5⟩:=hf b hb
  exact ⟨f3,f1,f4,f5⟩
 ·obtain ⟨o,es,ep,ho,r⟩:=hm
  exact ⟨o,es,ep,k _ o (fun z=>(hf _ z).2.1 rfl) ho,r⟩
 ·refine (I.hok b u e).stay (fun c v hc q=>k c v ?_ q) (fun _ q=>q) fun _ _ q=>q
  rcases hc with z | z
  ·rw [z]; exact nit b u e
  ·exact nit c _ z
end
section
variable {K:ON}
end
end EV
namespace EV
open PySem PySem.Spec PyProof.Rows L2
theorem pR {A:List aG} {l:List Int} {n:Int} {t:aG} (h:t∈putD A l n):t.1=l∨t∈A:=by
 unfold putD at h
 split at h
 ·obtain ⟨u,hu,e⟩:=Pa.mp h
  split at e
  ·rename_i q; subst e; exact .inl q
  ·subst e; exact .inr hu
 ·rcases Pg.mp h with q | q
  ·exact .inr q
  ·simp at q; subst q; exact .inl rfl
theorem jq (hl:∀ t∈ts,t.1.length≤n):∀ t∈aL ts,trim t.1=t.1∧t.1.length≤n:=by
 unfold aL
 suffices H:∀ A:List aG,(∀ t∈A,trim t.1=t.1∧t.1.length≤n)→∀ t∈ts.foldl fS A,trim t.1=t.1∧t.1.length≤n from H [] (by simp)
 induction ts with
 | nil=>exact fun A h=>h
 | cons u ts ih =>
  refine fun A h=>ih (fun t ht=>hl t (O2 _ ht)) _ fun t ht=>?_
  rcases pR ht with e | e
  ·rw [e,cu]
   exact ⟨rfl,OV (gB _) (hl u O1)⟩
  ·exact h t e
noncomputable def aW (ts:List aG):List aG:=fJ (nz (aL ts))
theorem wW (h:(A.map (·.1)).Nodup):((nz A).map (·.1)).Nodup:=SJ.sublist (List.filter_sublist.map _) h
theorem oA (ts):(aW ts).Perm (nz (aL ts)):=bF _
theorem l7 (h:t∈aW ts):t∈aL ts∧t.2≠0:=by
 have:=(oA ts).subset h
 unfold nz at this
 rw [Sq] at this
 exact ⟨this.1,by simpa using this.2⟩
theorem jr (ts):(aW ts).length≤ts.length:=by
 rw [(oA ts).length_eq]
 exact OV (List.length_filter_le _ _) (ig ts)
theorem BK (h:∀ t∈ts,t.1.length≤n):∀ t∈aW ts,t.1.length≤n:=fun t ht=>(jq h t (l7 ht).1).2
end EV
namespace EV
open PySem PySem.Spec PySem.Calls PyProof.Rows L2
theorem FA {K:ON} {f:Int→Int→Int}:AG K (fun xs H Q=>∃ i j,xs=[.int i,.int j]∧Q (.int (f i j)) H) (fun ds R=>∃ i j:Int,ds=[.int i,.int j]∧R (.int (f i j))):=by
 rintro ds vs H Hf Q R s rs ⟨i,j,rfl,hR⟩ q
 obtain ⟨v,r,rfl,r1,r2⟩:=aD.mp rs
 obtain ⟨v',r',rfl,r1',r2'⟩:=aD.mp r2
 rw [aA] at r2'
 subst r2'
 rw [az] at r1 r1'
 subst r1 r1'
 exact ⟨i,j,rfl,q _ _ H Hf hR (az.mpr rfl) (.refl s)⟩
section
variable {K:ON} {c:Ctx P w K mg base k N sc bk}
theorem boot_max:bootBuiltins "max"=some (.builtin "max"):=by decide +kernel
theorem BL (hm:mg "max"=none) (h:aJ c a ρ fun x=>aJ c b ρ fun y=>I2 (fun i j=>R (.int (if j>i then j else i))) x y) (hg:sc.names.lookup (OL "max")=some .globalImplicit:=by walk_at "u")
 (he:∀ env,starEach [a,b] env=(false,eval a env)::starEach [b] env:=by intro _; walk_at "u") (he2:∀ env,starEach [b] env=(false,eval b env)::starEach [] env:=by intro _; walk_at "u")
 (hpl:∀ env,(backTo pos (starEach [b] env)).any (·.1)=false:=by intro _; walk_at "u"):aJ c (.Call (.Name "max" p) [a,b] [] pos) ρ R :=
 vY (xY c.calm) (FA (f:=fun i j=>if j>i then j else i)) hm boot_max (cB (h.imp fun x h1=>cB (h1.imp fun y ⟨i,j,e1,e2,hR⟩=>lz ⟨i,j,by rw [e1,e2],hR⟩) he2) he) hg (by decide) (by decide) he hpl
theorem GX (h:aJ c a ρ fun x=>aJ c b ρ fun y=>I2 (fun i j=>Sd (t8 i j) (R (.int (i * 2 ^ j.toNat)))) x y):aJ c (.BinOp a .LShift b pos) ρ R :=
 i9 (o6 HP nT (h.imp fun x hx=>hx.imp fun y ⟨i,j,e1,e2,⟨hc,r⟩⟩=>⟨i,j,e1,e2,hc,_,rfl,r⟩))
theorem GY (h:aJ c a ρ fun x=>aJ c b ρ fun y=>I2 (fun i j=>Sd (0≤j) (R (.int (i / 2 ^ j.toNat)))) x y):aJ c (.BinOp a .RShift b pos) ρ R :=
 i9 (o6 HQ nT (h.imp fun x hx=>hx.imp fun y ⟨i,j,e1,e2,⟨hc,r⟩⟩=>⟨i,j,e1,e2,hc,_,rfl,r⟩))
theorem BN (h:aJ c a ρ fun x=>aJ c b ρ fun y=>I2 (fun i j=>R (.int (Builtin.bitAnd i j))) x y):aJ c (.BinOp a .BitAnd b pos) ρ R :=
 i9 (o6 HR Aw (h.imp fun x hx=>hx.imp fun y ⟨i,j,e1,e2,r⟩=>⟨i,j,e1,e2,_,rfl,r⟩))
end
noncomputable abbrev M7:=List (Key×D)→List D→(List (Key×D)→Prop)→Prop
noncomputable def Jg (K:ON) (F:M7):Sp:=fun vs H Q _=>∃ Hf p kvs xs us ds B,vs=.ref p::us∧aH Hf H∧H p=some (.dK xs)∧Hf p=none∧mQ K Hf kvs xs∧aq K Hf ds us∧F kvs ds B ∧
 ∀ kvs' H' aj xs',B kvs'→bu (del H p) Hf H' aj→H' p=some (.dK xs')→aj p=none→mQ K aj kvs' xs'→Q .non H'
structure yD (P:Program) (w:World) (K:ON) (mg:Str→Option Value) (base:Heap) (k:Nat) (x:Str) (F:M7):Prop where
 ex:∃ f fd ps,mg x=some (.ref f)∧QE K (.ref f)=true∧Binds K fd ps []∧bx P w K mg base (dH P w) k f fd ps (Jg K F)
noncomputable def startM (q:Addr) (kvs:List (Key×D)) (N:List Str) (ds:List D):List Sl:=.aK q kvs::(ds.map .va++OX (N.length - (ds.length+1)) .un)
theorem yE {K:ON} (r:aq K Hf ds us) (sb:aH Hf H) (h1:H q=some (.dK xs)) (h2:Hf q=none) (h3:mQ K Hf kvs xs) :
 c9 K (del H q) Hf (L2.start N (.ref q::us)) H Hf (startM q kvs N ds):=by
 have hl:=r.length
 have rest:∀ (i:Nat) (r':Sl),(startM q kvs N ds)[i+1]?=some r'→r'≠.un→∃ d,ds[i]?=some d∧r'=.va d:=fun i r' h hu=>by
  have h':(ds.map Sl.va++OX (N.length - (ds.length+1)) Sl.un)[i]?=some r':=by simpa [startM] using h
  by_cases w:i<ds.length
  ·rw [QX (by simpa using w),OY,Pc w] at h'
   cases h'
   exact ⟨_,by simp,rfl⟩
  ·rw [RE (by simp; lia)] at h'
   exact absurd (R9 (Qc h')) hu
 refine ⟨⟨fun b o e=>(je e).2,.refl _,sb,fun _ h _ _=>h⟩,by simp [L2.start,startM,hl],fun i r' h hu=>?_,fun i j r1 r2 p hne e1 e2 o1 o2=>?_⟩
 ·cases i with
  | zero =>
   have:r'=.aK q kvs:=by simpa [startM] using h.symm
   subst this
   exact ⟨.ref q,by simp [L2.start],q,xs,rfl,⟨jd,rfl⟩,h1,h2,h3⟩
  | succ i =>
   obtain ⟨d,hd,rfl⟩:=rest i r' h hu
   obtain ⟨x,e2,rx⟩:=r.get hd
   refine ⟨x,?_,rx⟩
   have hi:i<us.length:=(OZ.mp e2).1
   unfold L2.start
   rw [QX (by simp; lia)]
   simp [e2]
 ·exfalso
  have own:∀ {i:Nat} {r:Sl},(startM q kvs N ds)[i]?=some r→r.owned=true→i=0:=fun {i r} h ho=>by
   cases i with
   | zero=>rfl
   | succ i =>
    obtain ⟨d,_,rfl⟩:=rest i r h (by rintro rfl; cases ho)
    cases ho
  exact hne ((own e1 o1).trans (own e2 o2).symm)
section
variable {K:ON} {c:Ctx P w K mg base k N sc bk}
theorem L5 {st:Stmt} (Fu:fu K x qual st f fd) (Sc:aE N ps (ah st)) (Vi:∀ x∈N,Loc (ah st) x) (ar:∀ kvs ds B,F kvs ds B→ds.length+1=ps.length)
 (body:∀ (c:Ctx P w K mg base k N (ah st) false),c.X.xe=(fun _ _=>False)→∀ q kvs ds B,F kvs ds B→aS c (ay st) (startM q kvs N ds) (fun ρ=>∃ kvs' r,B kvs'∧ρ=.aK q kvs'::r) { rt:=fun _=>False }) :
 bx P w K mg base (dH P w) (k+1) f fd ps (Jg K F):=by
 obtain ⟨oc,od,kV,doc,pm,an,cdv,ct,osl,rfl,lk,hcd⟩:=Fu.ex
 refine Ab lk hcd Sc (fun vs H Q E hh=>z4 hh fun Hf q kvs xs hh=>z3 hh fun us ds B hh=>w8 hh fun e _ _ _ _ rs hF _=>by rw [e,Pr,← rs.length]; exact ar _ _ _ hF) fun A outer s H vs Q E hr hh=>z4 hh fun Hf q kvs xs hh=>z3 hh fun us ds B hh=>w8 hh fun e sb h1 h2 h3 rs hF hq=>?_
 subst e
 let X:Cx:=(qC (dH P w) P w K mg base N qual (ah st) f cdv A outer s H E).GA
 let c:Ctx P w K mg base k N (ah st) false :=
  { X:=X,eP:=rfl,ew:=rfl,eK:=rfl,emg:=rfl,eb:=rfl,eN:=rfl,esc:=rfl,calm:=rfl,top:=fun _=>⟨rfl,rfl,rfl⟩,cb:=fun _ _ _ _ _ I x c h=>I.ok.cab x c rfl h,fn:=fun _ _=>.inl rfl,B:=del H q,room:=hr,nd:=Sc.nd,vis:=Vi,Hf:=Hf,RX:=fun _ _=>False,
    exc:=fun _ _ _ _ _ _ _ _ _ _ _ _ h _ _=>h.elim,RM:=fun _ _=>False,mde:=fun _ _ _ _ _ _ _ _ _ _ _ _ h _=>h.elim }
 refine ⟨_,tV.GA (t:=Io X (ay st)) (qN (X:=X)),?_⟩
 refine body c rfl q kvs ds B hF (L2.start N (.ref q::us)) H Hf _ (yE rs sb h1 h2 h3) ⟨fun σ H' aj ρ S ⟨kvs',r,hB,e⟩=>?_,fun r v H' aj g rv e=>e.elim,fun _ _ _ _ _ h=>h.elim,fun _ _ _ _ _ h=>h.elim⟩
 subst e
 obtain ⟨v,_,q',xs',_,⟨_,rfl⟩,a1,a2,a3⟩:=S.at_ 0 _ rfl (by simp)
 exact hq kvs' H' aj xs' hB S.bas a1 a2 a3
theorem wX (h:yD P w K mg base j x F) (hj:j≤k) (hN:At N i y) (hi:At ρ i r) (hr:r.uv=some kvs)
 (ha:qO c es ρ fun ds=>∃ B,F kvs ds B∧∀ kvs',B kvs'→Nx ρ i nx (r.qY kvs'))
 (hg:sc.names.lookup x=some .globalImplicit:=by walk_at "u") (hdb:(x == ("__debug__":Str))=false:=by decide) (hd:(y == ("__debug__":Str))=false:=by decide) (hcd:(y == ("__classdict__":Str))=false:=by decide)
 (he:∀ env,starEach (.Name y py::es) env=(false,eval (.Name y py) env)::starEach es env:=by intro _; walk_at "u")
 (hpl:∀ env,(backTo cp (starEach es env)).any (·.1)=false:=by intro _; walk_at "u")
 (hs:∀ env,swapsWith (.Call (.Name x px) (.Name y py::es) [] cp) none pos.line env=pure false:=by intro _; walk_at "u"):eV c (.Expr (.Call (.Name x px) (.Name y py::es) [] cp) pos) ρ nx p:=fun σ H Hf D S o=>by
 obtain ⟨q,eq,rq⟩:=S.own hi.get (lE hr)
 obtain ⟨xs,h1,h2,h3⟩:=yj hr rq
 refine dQ (kD dB (hs _)) (show bE c.X _ σ H (fun _ H'=>D.nx σ H') from fun aa s I=>?_)
 obtain ⟨f,fd,ps,hm,hk,hb,hF⟩:=h.ex
 refine QB (iZ I (by unfold Gl PJ; rw [c.esc]; exact hg) (by rw [c.emg]; exact hm) ?_ hdb)
 have hA:bA c.X (.Name y py::es) σ H (fun vs H1=>∃ us aQ ds B,vs=.ref q::us∧F kvs ds B∧(∀ kvs',B kvs'→Nx ρ i nx (r.qY kvs'))∧aq c.X.K aQ ds us∧bu H Hf H1 aQ) :=
  nQ (bN (c.lC hN hd hcd) ED (he _)) ⟨_,eq,ha σ H Hf _ S fun ds vs H1 aQ ⟨B,hF,hn⟩ rs g=>⟨vs,aQ,ds,B,rfl,hF,hn,rs,g⟩⟩
 refine Tj (h₀:=c.X.base) I.ok.mod.kin (by rw [c.eK]; exact hk) (bJ (hA cp aa s I) fun us s1 hh=>z2 hh fun vs H1 hh=>w3 hh fun I1 rv hh=>z4 hh fun us' aQ ds B hh=>w5 hh fun ev hF' hn rs g=>⟨I1.oU,?_⟩) (he _) (hpl _)
 subst ev
 have S1:=S.cG g
 have rq1:=rq.cG g
 obtain ⟨xs1,a1,a2,a3⟩:=yj hr rq1
 have hF2:bx c.X.prog c.X.w c.X.K c.X.mg c.X.base (dH c.X.prog c.X.w) k f fd ps (Jg c.X.K F):=by rw [c.eP,c.ew,c.eK,c.emg,c.eb]; exact hF.mono hj
 have qx:Jg c.X.K F (.ref q::us') H1 (fun _ H'=>D.nx σ H') (fun _ _ _=>False):=by
  refine ⟨aQ,q,kvs,xs1,us',ds,B,rfl,g.b,a1,a2,a3,rs,hF',fun kvs' H' aj xs' hB g2 b1 b2 b3=>?_⟩
  obtain ⟨ρ',hs',hn⟩:=hn kvs' hB
  refine o.nx σ H' aj ρ' ?_ hn
  rw [hs'.eq]
  exact S1.upd hi.get (lE hr) eq g2 (qZ hr rq1 b1 b2 b3) (lF hr)
 have hl:us.length=ps.length:=by rw [← rv.length]; exact hF2.len _ _ _ _ qx
 have hb':Binds c.X.K fd ps []:=by rw [c.eK]; exact hb
 have hb2:=hb' s1 us I1.oU (by simpa using hl)
 rw [P1] at hb2
 refine R1 (RY (hF2.run c.X.A c.X.stack s1 H1 ⟨us,[]⟩ us _ _ _ c.room I1.Ej hb2 rv qx) fun r' s' hq=>?_)
 cases r' with
 | error e =>
  obtain ⟨a,C,H',rfl,hE,h⟩:=hq
  exact h.elim
 | ok fl =>
  cases fl with
  | ret u=>exact I1.after hq
  | next=>exact PZ hq
  | brk=>exact PZ hq
  | cont=>exact PZ hq
end
theorem aq.many {K:ON} (h:aq K H ds xs):∀ k:Nat,aq K H (OX k ds).flatten (OX k xs).flatten
 | 0=>aA.mpr rfl
 | k+1=>by
  rw [Qu,Qu,Q2,Q2]
  exact h.append (aq.many h k)
theorem aq.set {K:ON}:∀ {ds:List D} {xs:List V} (i:Nat) {d:D} {v:V},aq K H ds xs→Rep K H d v→aq K H (ds.set i d) (xs.set i v)
 | [],_,i,_,_,h,_=>by rw [aA] at h; subst h; exact aA.mpr rfl
 | e::ds,_,i,d,v,h,q=>by
  obtain ⟨x,r,rfl,h1,h2⟩:=aD.mp h
  cases i with
  | zero=>exact .cons q h2
  | succ i=>exact .cons h1 (aq.set i h2 q)
theorem BO {n k:Nat} {i:Int} (hi:i=k) (e:s.heap.get? l=some { cls:=.type "list",data:=.seq items n }) (hk:k<items.size) (hf:items.size<2 ^ 63)
 (hQ:Q () { s with heap:=s.heap.update l (Pw fun xs=>xs.setIfInBounds k v) }):wpAny (model prog w) A (setItem (.ref l) (.int i t) v) Q E s:=by
 have ht:s.TypeIs (.ref l) "list":=⟨_,e,rfl⟩
 have hx:items[k]?=some items[k]:=Pj hk
 unfold setItem
 refine Qa (OM (UP ht (by decide) ?_))
 refine OM (QY (name:=OL "__setitem__") ht PySem.slot_list_setitem (Qv PySem.slot_list_setitem ht PySem.entry_list_setitem ?_ (PySem.args_list_setitem _ _ _)))
 show wpAny _ _ (Builtin.List.listSubscript? (.int i t) >>= _) _ _ s
 refine OM (wpAny_listSubscript_int (fitsIndex_of (show 0≤i by lia) (show i<2 ^ 63 by lia)) ?_)
 clear hf
 subst hi
 show wpAny _ _ ((seqItemAt l k >>= fun r=>pure (r.map fun x=>(k,x))) >>= _) _ _ s
 refine OM (OM (wpAny_seqItemAt e rfl (OO ?_)))
 rw [hx]
 show wpAny _ _ (setSeqItemAt l k v >>= _) _ _ s
 refine OM (wpAny_setSeqItemAt e rfl ?_)
 first
  | exact OM (OO (OO ⟨P4,rfl,OO hQ⟩))
  | exact OO ⟨P4,rfl,OO hQ⟩
noncomputable def L6:HB:=fun o i v H Q=>∃ l xs k,o=.ref l∧i=.int (k:Nat)∧H l=some (.lst xs)∧k<xs.length∧Q (upd H l (.lst (xs.set k v)))
theorem BP:K2 X L6:=by
 intro aa s σ H o i v ov iv u Q I r1 r2 r3 h
 obtain ⟨l,xs,k,rfl,rfl,hH,hk,q⟩:=h
 cases r1
 obtain ⟨t,rfl⟩:=r2
 obtain ⟨z,its,n,r,hl,e⟩:=I.qE hH
 have hbig:xs.length<2 ^ 63:=QO z (by decide)
 refine BO rfl e (by rw [O9,← hl]; exact hk) (by rw [O9,← hl]; exact hbig) ⟨_,I.uh (its':=its.set k u) (t':=s.toks) hH e ?_ (Vals.set r3 k r) (by rw [List.length_set]; exact z),q⟩
 show its.toArray.setIfInBounds k u=(its.set k u).toArray
 simp
theorem FD:NI X "int.bit_length" (fun x vs H Q=>∃ i,x=.int i∧vs=[]∧Q (.int (Qi i:Nat)) H):=by
 intro aa s σ H x xs v us Q I r1 r2 h
 obtain ⟨i,rfl,rfl,q⟩:=h
 obtain ⟨t,rfl⟩:=r1
 cases r2
 exact PyProof.Rows.call_int_bit_length ⟨.int (Qi i:Nat),H,I.tok _,⟨_,rfl⟩,q⟩
section
variable {K:ON} {c:Ctx P w K mg base k N sc bk}
theorem Jh (h:aJ c e ρ (I1 fun i=>R (.int (Qi i:Nat)))) (hbase:∀ env,attributeBase e "bit_length" env (eval e env)=eval e env:=by intro _; walk_at "u") (hline:(ap.endLine == cp.line)=true:=by walk_at "u") :
 aJ c (.Call (.Attribute e "bit_length" ap) [] [] cp) ρ R:=fun σ H Hf Q S q =>
 bR (Ia PySem.F.plainAttrs_int PySem.F.slot_int_bit_length PySem.F.type_int_bit_length FD dB (hbase _) hline) (h σ H Hf _ S fun d v H' aj ⟨i,e,hR⟩ r g=>by
  subst e
  rw [az] at r; subst r
  exact ⟨rfl,i,rfl,rfl,q _ _ H' aj hR (az.mpr rfl) g⟩)
theorem GZ {R:Sl→Prop} (h:dD c a ρ fun r=>∃ ds,r=.ow ds∧aJ c b ρ (I1 fun n=>Sd ((0≤n∧n<2 ^ 63)∧ds.length * n.toNat≤sizeLine) (R (.ow (OX n.toNat ds).flatten)))):dD c (.BinOp a .Mult b pos) ρ R:=fun σ H Hf Q S q =>
 bR (zY Ib dB dB) (h σ H Hf _ S fun r v H1 aQ ⟨ds,er,h1⟩ rr g1=>h1 σ H1 aQ _ (S.cG g1) fun dn u H2 cQ ⟨n,en,⟨⟨n0,n1⟩,hz⟩,hR⟩ rn g2=>by
  subst er en
  rw [az] at rn; subst rn
  obtain ⟨l,xs,rfl,fl,k1,k2,k3⟩:=rr
  have k1':=g2.s _ _ k1
  refine ⟨l,n,xs,rfl,rfl,k1',by lia,n1,by rw [← k3.length]; exact hz,fun p hp=>?_⟩
  have g3:=bu.gq (o:=.lst (OX n.toNat xs).flatten) g2.b hp
  exact q _ _ _ _ hR ⟨p,_,rfl,(g1.trans g2).s.free hp,ai,g2.b.free hp,(k3.mono g2.f).many _⟩ ((g1.trans g2).trans g3))
theorem Ji (hN:At N i x) (hi:At ρ i r) (hr:r.getL=some ds) (h:aJ c e ρ fun dv=>aJ c b ρ fun dk=>∃ m:Nat,dk=.int m∧Sd (m<ds.length) (Nx ρ i nx (r.putL (ds.set m dv))))
 (hs:∀ env,swapsWithSole [.Subscript (.Name x px) b tp] e pos.line env=pure false:=by intro _; walk_at "u") (hw:∀ env,swappedStores [.Subscript (.Name x px) b tp] e env=pure none:=by intro _; walk_at "u")
 (h1:∀ env,(assignEach [.Subscript (.Name x px) b tp] env).map (·.2)=[assign (.Subscript (.Name x px) b tp) env]:=by intro _; walk_at "u")
 (ha:∀ env v,assign (.Subscript (.Name x px) b tp) env v=(do
   let ov ← holding [v] (eval (.Name x px) env)
   let iv ← holding [v,ov] (eval b env)
   standAt tp
   holding [v,ov,iv] (setItem ov iv v)
   release [v,ov,iv] []):=by intro _ _; walk_at "u")
 (hd:(x == ("__debug__":Str))=false:=by decide) (hcd:(x == ("__classdict__":Str))=false:=by decide):eV c (.Assign [.Subscript (.Name x px) b tp] e pos) ρ nx p:=fun σ H Hf D S o=>by
 obtain ⟨q,eq,rq⟩:=S.own hi.get (dh hr)
 refine dQ (zU dB (HD (c.lC hN hd hcd) dB BP (ha _)) (hs _) (hw _) (h1 _)) (h σ H Hf _ S fun dv v H1 aQ h2 rv g1=>⟨_,eq,h2 σ H1 aQ _ (S.cG g1) fun dk y H2 cQ ⟨m,em,hm,ρ',hs',hn⟩ ry g2=>?_⟩)
 subst em
 rw [az] at ry; subst ry
 have g:=g1.trans g2
 obtain ⟨xs,k1,k2,k3⟩:=IP hr (rq.cG g)
 refine ⟨q,xs,m,rfl,rfl,k1,by rw [← k3.length]; exact hm,o.nx _ _ cQ ρ' ?_ hn⟩
 rw [hs'.eq]
 exact (S.cG g).upd hi.get (dh hr) eq (gY g.b k2) (lD hr (rq.cG g) ai k2 (k3.set m (Rep.mono g2.f _ rv))) (iH hr)
end
theorem iN {K:ON}:∀ {ns:List Int} {xs:List V},aq K H (ns.map D.int) xs→xs=ns.map V.int
 | [],xs,h=>by rw [Ra,aA] at h; subst h; rfl
 | b::bs,xs,h=>by
  rw [OS,aD] at h
  obtain ⟨x,r,rfl,h1,h2⟩:=h
  rw [az] at h1
  rw [h1,iN h2]; rfl
theorem gC {ns:List Int} {us:List Value} (h:Vals (ns.map V.int) us) (i:Nat) (v:Value) (e:us.toArray[i]?=some v):∃ t,v=.int (ns.getD i 0) t:=by
 have e':us[i]?=some v:=by simpa using e
 have hi:i<ns.length:=by
  have:=(OZ.mp e').1
  have l:=h.length
  rw [OT] at l
  omega
 obtain ⟨u,hu,r⟩:=h.get (i:=i) (x:=.int (ns.getD i 0)) (by simp [P8,hi])
 rw [e'] at hu; cases hu
 exact r
theorem l8 (I:Inv X aa σ H s) (hq:gX X.K H p xs) :
 ∃ its:List Value,Vals xs its∧s.heap.IsList p its.toArray∧p<s.heap.objs.size:=by
 obtain ⟨its,rv,pl,hz⟩:=I.list hq
 exact ⟨its,rv,pl.isList,by obtain ⟨o,e,_⟩:=pl.isList; exact OW e⟩
theorem oB (I:Inv X aa σ H s) (hk:∀ b o,b∉[s.heap.objs.size]→(s.heap.push ob).get? b=some o→h'.get? b=some o):Inv X aa σ H { s with heap:=h',toks:=tk } :=
 I.kept (h':=h') (t':=tk) fun b u e=>hk b u (by simpa using Pk (OW e)) (OU _ e)
theorem yF (hc:X.calm=true):gj X (.builtin "max") (fun xs H Q=>∃ (p:Addr) (ns:List Int),xs=[.ref p]∧ns≠[]∧gX X.K H p (ns.map V.int)∧∀ m∈ns,(∀ n∈ns,n≤m)→Q (.int m) H):=by
 intro aa s σ H xs us Q I r h
 obtain ⟨p,ns,rfl,hne,hq,q⟩:=h
 obtain ⟨u,rfl,rx⟩:=vals1 r
 cases rx
 obtain ⟨its,rv,pl,hlt⟩:=l8 I hq
 have hn:its.toArray.size=ns.length:=by have l:=rv.length; rw [OT] at l; simp [l]
 have hpos:0<ns.length:=List.length_pos_iff.mpr hne
 refine call_max_walk (UR pl ?_)
 have hh:X.A.in1.handled=none:=I.ok.hd hc
 refine ⟨_,_,_,_,_,_,_,rfl,Walks.list hh s.heap.objs.size p (Pk hlt) its.toArray,⟨⟨_,O6 _ rfl,rfl,rfl⟩,pl.at fun o e=>OU _ e⟩,?_,by rw [hn]; exact hpos,CmpOf.ints_gt (fun i=>ns.getD i 0) (gC rv),?_⟩
 ·intro b hb
  show b<(s.heap.push _).objs.size
  rw [Q5]
  simp only [O5,QH,or_false] at hb
  rcases hb with rfl | rfl
  ·exact Ro _
  ·exact Tt hlt
 ·intro v h' tk hP hk
  obtain ⟨t,rfl⟩:=gC rv _ _ hP
  obtain ⟨b1,b2⟩:=argBest_gt (fun i=>ns.getD i 0) (its.toArray.size - 1)
  rw [hn] at b1 b2 ⊢
  have J:=oB (s:=s) (tk:=tk) I hk
  refine ⟨.int _,H,J,⟨_,rfl⟩,q _ ?_ fun n hm=>?_⟩
  ·rw [P8,Pc (by omega)]
   exact Pp _
  ·obtain ⟨j,hj,rfl⟩:=List.getElem_of_mem hm
   have:=b2 j (by omega)
   rw [show ns.getD j 0=ns[j] by simp [P8,hj]] at this
   exact this
theorem wY (ns:List Int):∀ j,j≤ns.length→preSum (fun i=>ns.getD i 0) j=(ns.take j).sum
 | 0,_=>rfl
 | j+1,h=>by
  show preSum (fun i=>ns.getD i 0) j+ns.getD j 0=_
  rw [wY ns j (by omega),P0 (by omega),Rr]
  simp [P8,show j<ns.length by omega]
theorem yG (hc:X.calm=true):gj X (.builtin "sum") (fun xs H Q=>∃ (p:Addr) (ns:List Int),xs=[.ref p]∧gX X.K H p (ns.map V.int)∧Q (.int ns.sum) H):=by
 intro aa s σ H xs us Q I r h
 obtain ⟨p,ns,rfl,hq,q⟩:=h
 obtain ⟨u,rfl,rx⟩:=vals1 r
 cases rx
 obtain ⟨its,rv,pl,hlt⟩:=l8 I hq
 have hn:its.toArray.size=ns.length:=by have l:=rv.length; rw [OT] at l; simp [l]
 refine call_sum_walkG (UR pl ?_)
 have hh:X.A.in1.handled=none:=I.ok.hd hc
 refine ⟨_,_,_,_,_,_,fun i=>ns.getD i 0,rfl,Walks.list hh s.heap.objs.size p (Pk hlt) its.toArray,⟨⟨_,O6 _ rfl,rfl,rfl⟩,pl.at fun o e=>OU _ e⟩,?_,gC rv,?_⟩
 ·intro b hb
  show b<(s.heap.push _).objs.size
  rw [Q5]
  simp only [O5,QH,or_false] at hb
  rcases hb with rfl | rfl
  ·exact Ro _
  ·exact Tt hlt
 ·intro h' tk t' hk
  rw [hn,wY ns _ (OP _),PU]
  have J:=oB (s:=s) (tk:=tk) I hk
  exact ⟨.int ns.sum,H,J,⟨_,rfl⟩,q⟩
section
variable {K:ON} {c:Ctx P w K mg base k N sc bk}
theorem boot_sum:bootBuiltins "sum"=some (.builtin "sum"):=by decide +kernel
theorem yH {Z:List Int→Int→Prop} (hr:∀ (p:Addr) (ns:List Int) H Q,gX K H p (ns.map V.int)→(∀ m,Z ns m→Q (.int m) H)→ns≠[]→r [.ref p] H Q) :
 AG K r (fun ds R=>∃ ns:List Int,ns≠[]∧ds=[.lst (ns.map D.int)]∧∀ m,Z ns m→R (.int m)):=by
 rintro ds vs H Hf Q R s rs ⟨ns,hne,rfl,hR⟩ q
 obtain ⟨v,rfl,rv⟩:=qR rs
 rw [aY] at rv
 obtain ⟨a,xs,rfl,h1,h2⟩:=rv
 rw [iN h2] at h1
 exact hr a ns H Q (s.seq h1) (fun m hm=>q _ _ H Hf (hR m hm) (az.mpr rfl) (.refl s)) hne
theorem Jj (hm:mg "max"=none) (h:aJ c e ρ fun x=>∃ ns:List Int,ns≠[]∧x=.lst (ns.map D.int)∧∀ m,(m∈ns∧∀ n∈ns,n≤m)→R (.int m)) (hg:sc.names.lookup (OL "max")=some .globalImplicit:=by walk_at "u")
 (he:∀ env,starEach [e] env=(false,eval e env)::starEach [] env:=by intro _; walk_at "u"):aJ c (.Call (.Name "max" p) [e] [] pos) ρ R :=
 vY (yF c.calm) (yH (Z:=fun ns m=>m∈ns∧∀ n∈ns,n≤m) fun p ns H Q h q hne=>⟨p,ns,rfl,hne,h,fun m h1 h2=>q m ⟨h1,h2⟩⟩) hm boot_max
  (cB (h.imp fun d ⟨ns,hne,e,hR⟩=>lz ⟨ns,hne,by rw [e],hR⟩) he) hg (by decide) (by decide) he (by intro _; walk_at "u")
theorem Jk (hm:mg "sum"=none) (h:aJ c e ρ fun x=>∃ ns:List Int,x=.lst (ns.map D.int)∧R (.int ns.sum)) (hg:sc.names.lookup (OL "sum")=some .globalImplicit:=by walk_at "u")
 (he:∀ env,starEach [e] env=(false,eval e env)::starEach [] env:=by intro _; walk_at "u"):aJ c (.Call (.Name "sum" p) [e] [] pos) ρ R :=
 vY (yG c.calm) (q:=fun ds R=>∃ ns:List Int,ds=[.lst (ns.map D.int)]∧R (.int ns.sum)) (by
  rintro ds vs H Hf Q R s rs ⟨ns,rfl,hR⟩ q
  obtain ⟨v,rfl,rv⟩:=qR rs
  rw [aY] at rv
  obtain ⟨a,xs,rfl,h1,h2⟩:=rv
  rw [iN h2] at h1
  exact ⟨a,ns,rfl,s.seq h1,q _ _ H Hf hR (az.mpr rfl) (.refl s)⟩) hm boot_sum (cB (h.imp fun d ⟨ns,e,hR⟩=>lz ⟨ns,by rw [e],hR⟩) he) hg (by decide) (by decide) he (by intro _; walk_at "u")
end
section
variable {prog:Program} {w:World} {A:Around} {E:Value→Shared→Prop} {s:Shared}
variable {jt tp:Addr} {i:Nat} {items:Array Value}
theorem nextT (hh:A.handled=none) (h1:s.heap.IsTupleIter jt tp i) (h2:s.heap.IsTuple tp items)
 (hv:∀ v,items[i]?=some v→∀ h',h'.IsTupleIter jt tp (i+1)→QG jt s.heap h'→Q v { s with heap:=h' })
 (hn:items[i]?=none→∀ h' e,Rb jt s.heap h'→(∃ o,h'.get? e=some o∧o.cls=.type "StopIteration")→E (.ref e) { s with heap:=h' }) :
 wpAny (model prog w) A (RI (.ref jt)) Q E s:=by
 obtain ⟨ob,hob,hcb,hdb⟩:=id h1
 obtain ⟨ot,hot,_,m,hdt⟩:=id h2
 unfold RI
 refine OM (QY (name:=OL "__next__") h1.typeIs F.slot_tuple_iterator_next (Qv F.slot_tuple_iterator_next h1.typeIs F.entry_tuple_iterator_next ?_ (F.args_tuple_iterator_next_1 _)))
 show wpAny _ _ (field (.ref jt) 0 >>= _) _ _ s
 refine OM (QK hob hdb (x:=.ref tp) rfl ?_)
 show wpAny _ _ (if (Pe tp == P4)=true then _ else _) _ _ s
 rw [if_neg (show ¬ ((Pe tp == P4)=true) from O0)]
 show wpAny _ _ (field (.ref jt) 1 >>= _) _ _ s
 refine OM (QK hob hdb (x:=.int i 0) rfl ?_)
 show wpAny _ _ (seqItems? (.ref tp) >>= _) _ _ s
 refine OM (wpAny_seqItems hot hdt ?_)
 rw [Pz]
 dsimp only
 cases hx:items[i]? with
 | some v =>
  have q:=hv v hx (s.heap.update jt (Obj.mapFields fun vs=>vs.setIfInBounds 1 (rawInt ((i:Int)+1)))) ⟨_,Heap.get?_update_self _ hob (Obj.isFreed_of_fields (To hdb _)),(Obj.cls_mapFields ..).trans hcb,by rw [To hdb]; simp [rawInt]⟩ (Sj ..)
  dsimp only
  exact OM (Sv hob hdb (by simp) (OO ⟨v,rfl,OO q⟩))
 | none =>
  dsimp only
  refine OM (Ql (OM (Sv hob hdb (by simp) (show wpAny _ _ (newExc (.type "StopIteration") [] >>= _) _ _ _ from OM ?_))))
  simp only [newExc,newTuple]
  refine OM (P6 (OM (m:=firstArgMember _ _) (wpAny_of_eq (a:=P4) (by first | rfl | (simp only [firstArgMember]; rfl)) (P6 ?_ (by size_fits)))) (by size_fits))
  simp only [raiseNew]
  refine OM (wpAny_handled ?_)
  rw [show A.in1.handled=none from hh]
  exact OM (OO (wpAny_throw (hn hx _ _ (((Sj ..).extBut.push _).push _) ⟨_,O6 _ rfl,rfl⟩)))
theorem Jl (hh:A.handled=none) (jt tp:Addr) (hne:tp≠jt) (items:Array Value) :
 Draws prog w A jt [jt,tp] items.size (fun i v=>items[i]?=some v) (fun i h=>h.IsTupleIter jt tp i∧h.IsTuple tp items) where
 live:=fun _ _ ⟨⟨o,ho,_⟩,_⟩=>⟨o,ho⟩
 frame:=fun _ _ _ ⟨⟨o,e,r⟩,⟨o',e',r'⟩⟩ hk=>⟨⟨o,hk jt (by simp) o e,r⟩,o',hk tp (by simp) o' e',r'⟩
 item:=fun i s Q E hi ⟨s1,s2⟩ q=>nextT hh s1 s2 (fun v hv h' a b=>q v h' s.toks hv ⟨a,s2.extBut b.extBut hne⟩ b) fun hx=>by
  rw [Pj hi] at hx; cases hx
 done:=fun s Q E ⟨s1,s2⟩ q=>nextT hh s1 s2 (fun v hv=>by simp at hv) fun _=>q
end
set_option maxHeartbeats 1000000 in
theorem rZ (tp) (items) (n) (dc) (sl) :
 Meets (Builtin.«enumerate.__new__» ⟨[.type "enumerate",.ref tp],[]⟩) (fun _ R s=>s.heap.get? tp=some { cls:=.type "tuple",dict:=dc,data:=.seq items n,slots:=sl } ∧
  R (.ok (.ret (.ref (s.heap.push { cls:=.type "tuple_iterator",data:=.fields #[.ref tp,.int 0 0] }).objs.size)))
   { s with heap:=(s.heap.push { cls:=.type "tuple_iterator",data:=.fields #[.ref tp,.int 0 0] }).push { cls:=.type "enumerate",data:=.fields #[.none,.bool false,.ref s.heap.objs.size,rawInt 0,.none,.none] } }) :=
 .of_wp fun prog w A R ⟨hp,g,d,tk,os⟩ ⟨hl,h⟩=>by
  have hz:=sub_enumerate
  have hT:Heap.IsTuple (Shared.heap ⟨hp,g,d,tk,os⟩) tp items:=⟨_,hl,rfl,n,rfl⟩
  wp_walk using S6 hl
  refine wpAny_stack_any fun st=>OO ?_
  split
  ·rename_i k _ _ _ _ _
   cases (k == Qe "enumerate") <;> (wp_walk using S6 hl,UK hT; exact ⟨_,rfl,h⟩)
  ·wp_walk using S6 hl,UK hT; exact ⟨_,rfl,h⟩
section
theorem uL (hT:s.heap.IsTuple tp items)
 (h:∀ h',IsEnum h' (s.heap.objs.size+1) s.heap.objs.size 0 .none→h'.IsTupleIter s.heap.objs.size tp 0→(∀ b o,s.heap.get? b=some o→h'.get? b=some o)→Q (.ref (s.heap.objs.size+1)) { s with heap:=h' }) :
 wpAny (model prog w) A (call (.type "enumerate") [.ref tp]) Q E s:=by
 obtain ⟨⟨c,dc,dt,sl⟩,hl,hc,n,hd⟩:=hT
 obtain rfl:c=.type "tuple":=hc
 obtain rfl:dt=.seq items n:=hd
 refine callType_new F.called_enumerate (by decide) (F.typeCall_enumerate_1 _) (F.newCall_enumerate_1 _) (fun ob=>F.args_object_init_2 ob _) F.entry_enumerate_new (rZ tp items n dc sl) ⟨hl,?_⟩
 generalize e1:s.heap.push { cls:=.type "tuple_iterator",data:=.fields #[.ref tp,.int 0 0] }=g1
 have hz:g1.objs.size=s.heap.objs.size+1:=by rw [← e1]; exact Q5 ..
 have hi:g1.get? s.heap.objs.size=some { cls:=.type "tuple_iterator",data:=.fields #[.ref tp,.int 0 0] }:=by rw [← e1]; exact O6 _ rfl
 have hb:∀ b o,s.heap.get? b=some o→g1.get? b=some o:=fun b o q=>by rw [← e1]; exact OU _ q
 have he:IsEnum (g1.push { cls:=.type "enumerate",data:=.fields #[.none,.bool false,.ref s.heap.objs.size,rawInt 0,.none,.none] }) g1.objs.size s.heap.objs.size 0 .none:=O6 _ rfl
 rw [hz] at he
 show _∧_
 rw [hz]
 exact ⟨⟨_,he,rfl⟩,h _ he ⟨_,OU _ hi,rfl,rfl⟩ fun b o q=>OU _ (hb b o q)⟩
end
noncomputable def l9 (ds:List D):List D:=ds.zipIdx.map fun x=>D.tup [.int x.2,x.1]
noncomputable def N7 (K:ON) (t:Addr):It :=
 ⟨fun i H=>∃ xs x,c8 K H t xs∧xs[i]?=some x,
  fun i H v H'=>∃ p x,v=.ref p∧H p=none∧H'=upd H p (.tup [.int (i:Nat),x])∧∀ xs,c8 K H t xs→xs[i]?=some x,
  fun i H=>∃ xs,c8 K H t xs∧xs.length≤i⟩
theorem FE (I:Inv X aa σ H s) (h1:c8 X.K H a xs) (h2:c8 X.K H a ys):xs=ys:=I.jE h1 h2
theorem BQ {prog:Program} {w:World} {A:Around} (hh:A.handled=none) (j t:Addr) (items:Array Value) (i:Nat) (hx:items[i]?=none) :
 Draws prog w A j [j,t] i (fun _ _=>False) (fun k h=>k=i∧h.IsTupleIter j t i∧h.IsTuple t items) where
 live:=fun _ _ ⟨_,⟨o,ho,_⟩,_⟩=>⟨o,ho⟩
 frame:=fun _ _ _ ⟨ek,⟨o,e,r⟩,⟨o',e',r'⟩⟩ hk=>⟨ek,⟨o,hk j (by simp) o e,r⟩,o',hk t (by simp) o' e',r'⟩
 item:=fun k s Q E hi ⟨ek,_⟩ _=>absurd ek (Pk hi)
 done:=fun s Q E ⟨_,s1,s2⟩ q=>nextT hh s1 s2 (fun v hv=>by rw [hx] at hv; cases hv) fun _=>q
theorem yI {P:Program} {w:World} {K:ON} {elts:List Expr} {k:Nat} {pos:Pos} {e j t:Addr} (hne:e≠j) :
 Turn P w K (.Tuple elts k pos) (N7 K t) [e,j] e (fun i h=>(∃ old,IsEnum h e j i old)∧h.IsTupleIter j t i) where
 mem:=by simp
 obj:=fun i h ⟨⟨old,he⟩,⟨o1,e1,_,d1⟩⟩ b hb=>by
  simp only [O5,QH,or_false] at hb
  rcases hb with rfl | rfl
  ·exact ⟨_,he,fun v q=>by have q':Uj _=Data.cell v:=q; cases q'⟩
  ·exact ⟨_,e1,fun v q=>by rw [d1] at q; cases q⟩
 keep:=fun i h h' ⟨⟨old,he⟩,⟨o1,e1,r1⟩⟩ hk=>⟨⟨old,hk e (by simp) _ he⟩,⟨o1,hk j (by simp) _ e1,r1⟩⟩
 item:=by
  intro X hP hw hK hc i aa s σ H E I hf st hg
  subst hP hw hK
  obtain ⟨⟨old,he⟩,hj⟩:=st
  obtain ⟨xs,x,q1,hx⟩:=hg
  obtain ⟨its,rv,p1,z1⟩:=I.tuple q1
  obtain ⟨u,hu,ru⟩:=rv.get hx
  have pT:s.heap.IsTuple t its.toArray:=by obtain ⟨o,ho,hc',n,hd⟩:=p1; exact ⟨o,ho,hc',n,hd⟩
  have hjt:t≠j:=by
   obtain ⟨o,ho,hc',n,hd⟩:=pT
   obtain ⟨o',ho',hc'',_⟩:=hj
   rintro rfl
   rw [ho] at ho'; cases ho'
   rw [hc'] at hc''; exact absurd hc'' (by simp)
  have het:e≠t:=by
   obtain ⟨o,ho,hc',n,hd⟩:=pT
   rintro rfl
   rw [he] at ho; cases ho
   exact absurd hc' (by simp)
  have hi:i<its.toArray.size:=by
   have:i<its.length:=(OZ.mp hu).1
   simpa using this
  have hh:X.A.in1.handled=none:=I.ok.hd hc
  refine wpAny_pyNext_enum_itemD (Jl hh j t hjt its.toArray) he ⟨hj,pT⟩ hi hne (by simp; exact ⟨hne,het⟩) fun x' h' tk hPx a1 a2 a3 a4 hk=>?_
  have ex:x'=u:=by
   have:its[i]?=some x':=by simpa using hPx
   rw [hu] at this; cases this; rfl
  subst ex
  have Hp:H s.heap.objs.size=none:=I.hok.fresh (OP _)
  have IA:Inv X aa σ (upd H s.heap.objs.size (.tup [.int (i:Nat),x])) { s with heap:=s.heap.push { cls:=.type "tuple",data:=.seq #[.int (i:Nat) tk,x'] },toks:=tk+1 } :=
   I.laid (a:=s.heap.objs.size) (o:=.tup [.int (i:Nat),x]) (fun _ _ q=>OU _ q) (OP _) ⟨by show 2≤sizeLine; decide,[.int (i:Nat) tk,x'],.cons ⟨tk,rfl⟩ (.cons ru .nil),_,O6 _ rfl,rfl,0,rfl⟩
  have lt:∀ b∈[e,j],b<s.heap.objs.size:=fun b hb=>by
   obtain ⟨o1,e1,_⟩:=hj
   simp only [O5,QH,or_false] at hb
   rcases hb with rfl | rfl
   ·exact OW he
   ·exact OW e1
  have gf:∀ b∈[e,j],gh X aa (upd H s.heap.objs.size (.tup [.int (i:Nat),x])) b:=fun b hb=>⟨by rw [ak (Pk (lt b hb))]; exact (hf b hb).1,(hf b hb).2⟩
  have I1:Inv X aa σ (upd H s.heap.objs.size (.tup [.int (i:Nat),x])) { s with heap:=h',toks:=tk+1 } :=
   pQ (s:={ s with heap:=s.heap.push { cls:=.type "tuple",data:=.seq #[.int (i:Nat) tk,x'] },toks:=tk+1 }) (t':=tk+1) (h':=h') (L:=[e,j]) IA (fun b o hb q=>by
    simp only [O5,QH,or_false,not_or] at hb
    by_cases z:b=s.heap.objs.size
    ·subst z
     rw [O6 _ rfl] at q; cases q; exact a3
    ·refine hk b o hb.1 hb.2 ?_
     rw [Heap.get?_push_ne _ _ _ z] at q; exact q) gf
  refine ⟨_,rfl,wpAny_letOwnedTupleGo_enum (s:={ s with heap:=h',toks:=tk+1 }) a1 fun h2' hz' hs'=>?_⟩
  refine ⟨.ref s.heap.objs.size,_,pQ (s:={ s with heap:=h',toks:=tk+1 }) (t':=tk+1) (h':=h2') (L:=[e,j]) I1 (fun b o hb q=>hs'.extBut b o (fun z=>hb (by simp [z])) q) gf,rfl,
   ⟨_,x,rfl,Hp,rfl,fun xs' h=>by rw [FE I h q1]; exact hx⟩,⟨⟨x',?_⟩,a2.1.extBut hs'.extBut (Pf hne)⟩,fun b hb=>(gf b hb).1⟩
  have hz2:=hz'
  rw [show ((i:Int)+1)=((i+1:Nat):Int) by lia] at hz2
  exact hz2
 done:=by
  intro X hP hw hK hc i aa s σ H E I hf st hg
  subst hP hw hK
  obtain ⟨⟨old,he⟩,hj⟩:=st
  obtain ⟨xs,q1,hend⟩:=hg
  obtain ⟨its,rv,p1,z1⟩:=I.tuple q1
  have pT:s.heap.IsTuple t its.toArray:=by obtain ⟨o,ho,hc',n,hd⟩:=p1; exact ⟨o,ho,hc',n,hd⟩
  have hl:=rv.length
  have hx:its.toArray[i]?=none:=by simp; lia
  have hh:X.A.in1.handled=none:=I.ok.hd hc
  exact wpAny_pyNext_enum_endD (BQ hh j t its.toArray i hx) he ⟨rfl,hj,pT⟩ fun h' hk=>⟨rfl,pQ (t':=s.toks) (L:=[e,j]) I (fun b o hb q=>hk b o (fun z=>hb (by simp [z])) q) hf⟩
 self:=fun A i s Q E ⟨⟨old,he⟩,_⟩ h=>wpAny_pyIter_enum he h
theorem yJ {K:ON} {Hf:Hp} {ds:List D} {xs:List V} {t:Addr} (h1:c8 K Hf t xs) (r1:aq K Hf ds xs):jJ K (N7 K t) (l9 ds) Hf where
 go:=fun i d H aQ s1 s2 e=>by
  unfold l9 at e
  rw [OY,O4] at e
  obtain ⟨⟨x,m⟩,ex,rfl⟩:=e
  rw [List.getElem?_zipIdx,O4] at ex
  obtain ⟨x',ex,ee⟩:=ex
  cases ee
  obtain ⟨v1,f1,g1⟩:=r1.get ex
  have q1:=av (s1.trans s2) h1
  refine ⟨⟨xs,v1,q1,f1⟩,fun v H' ⟨p,y,e1,e2,e3,e4⟩=>?_⟩
  have z1:=e4 xs q1
  rw [f1] at z1; cases z1
  subst e1 e3
  have g:=bu.new s2 e2 (o:=.tup [.int (i:Nat),v1])
  rw [Q8]
  exact ⟨upd aQ p (.tup [.int (i:Nat),v1]),g,aI.mpr ⟨p,_,rfl,.inl (.inl ai),.cons (az.mpr rfl) (.cons (Rep.mono (s1.trans g.f) _ g1) (aA.mpr rfl))⟩⟩
 stop:=fun i H aQ s1 s2 e=>⟨xs,av (s1.trans s2) h1,by
  rw [← r1.length]
  simpa [l9] using e⟩
theorem yK:bootBuiltins "enumerate"=some (.type "enumerate"):=by decide +kernel
noncomputable def L7 (K:ON) (ta:TA):TI:=fun σ H R=>ta σ H fun vs H1=>∃ t xs,vs=[.ref t]∧c8 K H1 t xs∧R (N7 K t) H1
theorem FF (hg:Gl X "enumerate") (hm:X.mg "enumerate"=none) (ha:PA X [a] ta) (hs:starEach [a] X.env=[(false,eval a X.env)]) :
 PI X (.Tuple elts kt tpos) (.Call (.Name "enumerate" p) [a] [] pos) (L7 X.K ta):=by
 intro aa s σ H R I h
 refine Call_ (dI I hg hm yK (R8 (bJ (ha pos aa s σ H _ I h) fun us s1 ⟨vs,H1,I1,r1,q1⟩=>?_) hs (by rfl)))
 obtain ⟨t,xs,e,q1,q⟩:=q1
 subst e
 obtain ⟨u,rfl,rx⟩:=vals1 r1
 cases rx
 obtain ⟨its,rv,p1,z1⟩:=I1.tuple q1
 have pT:s1.heap.IsTuple t its.toArray:=by obtain ⟨o,ho,hc',n,hd⟩:=p1; exact ⟨o,ho,hc',n,hd⟩
 refine uL pT fun h' a1 a2 hk=>wpAny_pyIter_enum a1 ?_
 refine ⟨s1.heap.objs.size+1,[s1.heap.objs.size+1,s1.heap.objs.size],_,_,H1,rfl,I1.kept (t':=s1.toks) hk,yI (RZ (Ro _)),⟨⟨.none,a1⟩,a2⟩,fun b hb=>?_,q⟩
 have hb':s1.heap.objs.size≤b:=by
  simp only [O5,QH,or_false] at hb
  rcases hb with rfl | rfl
  ·exact RV _ _
  ·exact OP _
 exact I1.mT hb' (I1.hok.fresh hb')
section
variable {K:ON} {c:Ctx P w K mg base k N sc bk}
theorem Jm (hm:mg "enumerate"=none) (h:aJ c a ρ fun x=>∃ ds,x=.tup ds∧R (l9 ds)) (hg:sc.names.lookup (OL "enumerate")=some .globalImplicit:=by walk_at "u")
 (hs:∀ env,starEach [a] env=(false,eval a env)::starEach [] env:=by intro _; walk_at "u"):II c (.Tuple elts kt tpos) (.Call (.Name "enumerate" p) [a] [] pos) ρ R:=fun σ H Hf Q S q aa s I =>
 FF (by unfold Gl PJ; rw [c.esc]; exact hg) (by rw [c.emg]; exact hm) (bN dB dJ (hs _)) (by rw [hs]; rfl) aa s σ H Q I
  (h σ H Hf _ S fun x v1 H1 aQ ⟨ds,e1,hR⟩ r1 g1=>by
    subst e1
    rw [aI] at r1
    obtain ⟨t,xs,rfl,s1,t1⟩:=r1
    exact ⟨t,xs,rfl,av g1.b s1,q _ _ H1 aQ hR g1 (yJ s1 t1)⟩)
end
noncomputable def Jo (lo:Int) (n:Nat):It:=⟨fun i _=>i<n,fun i H x H'=>H'=H∧x=.int (lo - i),fun i _=>n≤i⟩
noncomputable def BR (lo:Int) (n:Nat):List D:=(PF n).map fun (i:Nat)=>D.int (lo - (i:Int))
theorem yL {P:Program} {w:World} {K:ON} {tg:Expr} (j:Addr) (lo:Int) (n:Nat):Turn P w K tg (Jo lo n) [j] j (fun i h=>IsRangeIter h j (lo+(i:Nat) * -1) ((n:Int) - (i:Nat)) (-1)) where
 mem:=O3.mpr rfl
 obj:=fun i h st b hb=>by
  obtain rfl:b=j:=O3.mp hb
  exact ⟨_,st,fun v z=>by have q:Uj _=Data.cell v:=z; cases q⟩
 keep:=fun i h h' st k=>k j (O3.mpr rfl) _ st
 item:=by
  intro X hP hw hK hc i aa s σ H E I hf st hg
  subst hP hw hK
  obtain ⟨f0,f1,f2,f3,f4,f5⟩:=hf j (O3.mpr rfl)
  have W:=Walks.range (prog:=X.prog) (w:=X.w) (I.ok.hd hc) j lo (-1) n
  refine W.item i s _ _ hg st fun v h' tk hv st' kk=>?_
  obtain ⟨t,rfl⟩:=hv
  have I1:Inv X aa σ H { s with heap:=h',toks:=tk }:=I.turned (fun b o hb e=>kk b o (by simpa using hb) e) f0 f1 f3 f4 f5
  have e:lo+(i:Int) * -1=lo - i:=by lia
  exact ⟨_,rfl,nE (s:={ s with heap:=h',toks:=tk }) (n:="range_iterator") st' rfl rfl (by decide) ⟨.int (lo - i),H,I1,⟨t,by rw [e]⟩,⟨rfl,rfl⟩,st',fun b hb=>(hf b hb).1⟩⟩
 done:=by
  intro X hP hw hK hc i aa s σ H E I hf st hg
  subst hP hw hK
  obtain ⟨f0,f1,f2,f3,f4,f5⟩:=hf j (O3.mpr rfl)
  exact wpAny_pyNext_range_end (I.ok.hd hc) st (by have:n≤i:=hg; lia) fun h' eb=>⟨rfl,I.turned (t':=s.toks) (fun b o hb e=>eb b o hb e) f0 f1 f3 f4 f5⟩
 self:=fun _ _ _ _ _ st h=>wpAny_pyIter_rangeiter st h
theorem mh {lo hi:Int}:S9 lo hi (-1)=((lo - hi).toNat:Int):=by
 unfold S9
 rw [if_neg (by decide)]
 split
 ·rw [show - (-1:Int)=1 by decide,Int.ediv_one]; lia
 ·lia
theorem small_down (ha: -(2 ^ 62)≤a) (ha':a<2 ^ 62) (hb: -(2 ^ 62)≤b) (hb':b<2 ^ 62):Builtin.Range.small a b (-1)=true:=by
 unfold Builtin.Range.small
 rw [mh]
 simp only [Builtin.Range.rangeFitsLong,Sm,Bool.or_eq_true,decide_eq_true_eq,beq_iff_eq,show ¬ (-1:Int)>0 by decide,if_false]
 lia
noncomputable def Ma (ta:TA):TI:=fun σ H R=>ta σ H fun vs H1=>∃ i j:Int,vs=[.int i,.int j,.int (-1)]∧(-(2 ^ 62)≤i∧i<2 ^ 62∧ -(2 ^ 62)≤j∧j<2 ^ 62)∧R (Jo i (i - j).toNat) H1
theorem FG (hg:Gl X "range") (hm:X.mg "range"=none) (ha:PA X [a,b,c] ta) (hs:starEach [a,b,c] X.env=[(false,eval a X.env),(false,eval b X.env),(false,eval c X.env)])
 (hs2:starEach [b,c] X.env=[(false,eval b X.env),(false,eval c X.env)]):PI X tg (.Call (.Name "range" p) [a,b,c] [] pos) (Ma ta):=by
 intro aa s σ H R I h
 refine Call_ (dI I hg hm boot_range (R8 (bJ (ha pos aa s σ H _ I h) fun us s1 ⟨vs,H1,I1,r1,q1⟩=>?_) (by rw [hs,hs2]) (by rw [hs2]; rfl)))
 obtain ⟨i,j,e,⟨q1,q2,q3,q4⟩,q⟩:=q1
 subst e
 cases r1 with
 | cons r rr=>cases rr with
  | cons r' rr=>cases rr with
   | cons r'' rr =>
    cases rr
    obtain ⟨t,rfl⟩:=r
    obtain ⟨t',rfl⟩:=r'
    obtain ⟨t'',rfl⟩:=r''
    refine call_range_3 (by decide) ?_ (.inl (PyProof.noPylong_of_log2 (by decide +kernel)))
    refine wpAny_pyIter_range (IsRange.new ..) (small_down q1 q2 q3 q4) ?_
    have I2:Inv X aa σ H1 { s1 with heap:=s1.heap.push { cls:=.type "range",data:=.fields #[.int i t,.int j t',.int (-1) t''] },toks:=s1.toks }:=I1.kept fun b o e=>OU _ e
    generalize s1.heap.push { cls:=.type "range",data:=.fields #[.int i t,.int j t',.int (-1) t''] }=g at I2 ⊢
    refine ⟨g.objs.size,[g.objs.size],_,_,H1,rfl,I2.kept (t':=s1.toks) fun b o e=>OU _ e,yL _ i (i - j).toNat,?_,fun b hb=>?_,q⟩
    ·show IsRangeIter _ _ (i+((0:Nat):Int) * -1) ((((i - j).toNat:Nat):Int) - ((0:Nat):Int)) (-1)
     rw [show i+((0:Nat):Int) * -1=i by simp,show (((i - j).toNat:Nat):Int) - ((0:Nat):Int)=S9 i j (-1) by rw [mh]; lia]
     exact O6 _ rfl
    ·obtain rfl:b=g.objs.size:=O3.mp hb
     exact I2.mT (OP _) (I2.hok.fresh (OP _))
theorem BS {K:ON} {lo:Int} {n:Nat} {dU:Hp}:jJ K (Jo lo n) (BR lo n) dU where
 go:=fun i d H Hf s1 s2 e=>by
  unfold BR at e
  rw [OY] at e
  obtain ⟨j,e1,e2⟩:=O4.mp e
  have hi:i<n:=by simpa using (OZ.mp e1).1
  have:j=i:=by rw [RP hi] at e1; cases e1; rfl
  subst this
  refine ⟨hi,fun x H' ⟨e3,e4⟩=>?_⟩
  subst e3 e4 e2
  exact ⟨Hf,.refl s2,az.mpr rfl⟩
 stop:=fun i H Hf s1 s2 e=>show n≤i by simpa [BR] using e
section
variable {K:ON} {c:Ctx P w K mg base k N sc bk}
theorem Jp (hm:mg "range"=none) (h:aJ c a ρ fun x=>aJ c b ρ fun y=>aJ c e ρ fun z=>∃ i j:Int,x=.int i∧y=.int j∧z=.int (-1)∧Sd (AY i) (Sd (AY j) (R (BR i (i - j).toNat))))
 (hg:sc.names.lookup (OL "range")=some .globalImplicit:=by walk_at "u")
 (hs:∀ env,starEach [a,b,e] env=(false,eval a env)::starEach [b,e] env:=by intro _; walk_at "u") (hs2:∀ env,starEach [b,e] env=(false,eval b env)::starEach [e] env:=by intro _; walk_at "u")
 (hs3:∀ env,starEach [e] env=(false,eval e env)::starEach [] env:=by intro _; walk_at "u"):II c tg (.Call (.Name "range" p) [a,b,e] [] pos) ρ R:=fun σ H Hf Q S q aa s I =>
 FG (by unfold Gl PJ; rw [c.esc]; exact hg) (by rw [c.emg]; exact hm) (bN dB (bN dB (bN dB dJ (hs3 _)) (hs2 _)) (hs _)) (by rw [hs,hs2,hs3]; rfl) (by rw [hs2,hs3]; rfl) aa s σ H Q I
  (h σ H Hf _ S fun x v1 H1 aQ h1 r1 g1=>h1 σ H1 aQ _ (S.cG g1) fun y v2 H2 cQ h2 r2 g2=>h2 σ H2 cQ _ (S.cG (g1.trans g2)) fun z v3 H3 Hf3 ⟨i,j,e1,e2,e3,⟨hi,⟨hj,hR⟩⟩⟩ r3 g3=>by
    subst e1 e2 e3; rw [az] at r1 r2 r3; subst r1 r2 r3
    exact ⟨i,j,rfl,⟨hi.1,hi.2,hj.1,hj.2⟩,q _ _ H3 Hf3 hR ((g1.trans g2).trans g3) BS⟩)
end
noncomputable abbrev ltI (x y:Int):Bool:=decide (x<y)
noncomputable def Oq (d:Addr) (o:Obj) (ys:List (Key×V)):It :=
 ⟨fun i H=>H d=some (.frz o (.dK ys))∧i<ys.length,fun i H x H'=>H'=H∧∃ y,ys[i]?=some y∧x=kV y.1,fun i H=>H d=some (.frz o (.dK ys))∧ys.length≤i⟩
section
theorem pS (I:Inv X aa σ H s) (hH:H d=some (.frz o (.dK ys))):∃ (vs:List (Key×Value)) (es:Array DictEntry) (ep:Nat),o.data=.dict es ep∧KV ys vs∧s.heap.DictAt (bV X.prog X.w) d vs ep∧(d == sysModules)=false∧ys.length≤sizeLine:=by
 obtain ⟨ho,ok⟩:=(show bq X.prog X.w H s.heap d (.frz o (.dK ys)) from I.hok d _ hH)
 obtain ⟨z,y,vs,kv,o',es,ep,h1,h2,h3,h4,h5,h6⟩:=ok
 rw [ho] at h1; cases h1
 exact ⟨vs,es,ep,h3,kv,⟨o,es,ho,h2,h3,h4,h5,h6⟩,y,z⟩
end
theorem yM {P:Program} {w:World} {K:ON} {tg:Expr} {d j:Addr} {o:Obj} {ys:List (Key×V)} {es:Array DictEntry} {ep:Nat} (hod:o.data=.dict es ep):Turn P w K tg (Oq d o ys) [j] j (fun i h=>h.IsKeyIter j d i ys.length ep) where
 mem:=O3.mpr rfl
 obj:=fun i h ⟨q,e,_,hd⟩ b hb=>by
  obtain rfl:b=j:=O3.mp hb
  exact ⟨_,e,fun v z=>by rw [hd] at z; cases z⟩
 keep:=fun i h h' ⟨q,e,r⟩ k=>⟨q,k j (O3.mpr rfl) _ e,r⟩
 item:=by
  intro X hP hw hK hc i aa s σ H E I hf st hg
  subst hP hw hK
  obtain ⟨f0,f1,f2,f3,f4,f5⟩:=hf j (O3.mpr rfl)
  obtain ⟨hH,hi⟩:=hg
  obtain ⟨vs,es',ep',e1,kv,da,_⟩:=pS I hH
  rw [hod] at e1; cases e1
  have hl:ys.length=vs.length:=Qj kv
  obtain ⟨⟨ky,v⟩,hv,r1,r2⟩:=di kv (Pc hi)
  rw [hl] at st
  refine wpAny_pyNext_dict_item st da hv fun key h' hkey hit' hs'=>?_
  have I1:Inv X aa σ H { s with heap:=h',toks:=s.toks }:=I.turned (fun b o hb e=>hs'.extBut b o hb e) f0 f1 f3 f4 f5
  obtain ⟨q,e,qc,qd⟩:=id hit'
  rw [← hl] at hit'
  exact ⟨_,rfl,nE (s:={ s with heap:=h',toks:=s.toks }) (n:="dict_keyiterator") e qc qd (by decide) ⟨kV ky,H,I1,wA hkey,⟨rfl,_,Pc hi,by rw [r1]⟩,hit',fun b hb=>(hf b hb).1⟩⟩
 done:=by
  intro X hP hw hK hc i aa s σ H E I hf st hg
  subst hP hw hK
  obtain ⟨f0,f1,f2,f3,f4,f5⟩:=hf j (O3.mpr rfl)
  obtain ⟨hH,hi⟩:=hg
  obtain ⟨vs,es',ep',e1,kv,da,_⟩:=pS I hH
  rw [hod] at e1; cases e1
  have hl:ys.length=vs.length:=Qj kv
  rw [hl] at st
  exact wpAny_pyNext_dict_end (I.ok.hd hc) st da (QA (by lia)) fun h' eb=>⟨rfl,I.turned (t':=s.toks) (fun b o hb e=>eb b o hb e) f0 f1 f3 f4 f5⟩
 self:=fun _ _ _ _ _ st h=>wpAny_pyIter_keyiter st h
theorem yN {K:ON} {Hf:Hp} {d:Addr} {o:Obj} {ys:List (Key×V)} {ns:List Int} (hH:Hf d=some (.frz o (.dK ys))) (hk:ys.map (·.1)=ns.map O8):jJ K (Oq d o ys) (ns.map D.int) Hf where
 go:=fun i x H aQ s1 s2 e=>by
  rw [OY,O4] at e
  obtain ⟨n,hn,rfl⟩:=e
  have hq:=congrArg (fun l=>l[i]?) hk
  simp only [OY,hn,Option.map_some] at hq
  obtain ⟨y,hy,ey⟩:=O4.mp hq
  refine ⟨⟨s2 _ _ (s1 _ _ hH),(OZ.mp hy).1⟩,fun v H' ⟨e1,y',e2,e3⟩=>?_⟩
  rw [hy] at e2; cases e2
  subst e1 e3
  exact ⟨aQ,.refl s2,by rw [ey]; exact az.mpr rfl⟩
 stop:=fun i H aQ s1 s2 e=>⟨s2 _ _ (s1 _ _ hH),by
  have:=congrArg Rw hk
  simp only [OT] at this e
  lia⟩
section
theorem oE (hT:s.TypeIs (.ref v) "dict") (hQ:Q false s):wpAny (model prog w) A (RD (.ref v)) Q E s:=by
 unfold RD
 refine OM (wpAny_specialOf hT PySem.F.slot_dict_len.lookup ?_)
 have e:splitId "dict.__len__"=some ("dict","__len__"):=by decide +kernel
 dsimp only
 rw [e]
 dsimp only
 refine OM (TH (b:=true) hT (by rw [isSubtype_type]; kernel_rfl) ?_)
 rw [if_neg (by decide)]
 exact OM (Q7 hT (OO hQ))
end
section
variable {X:Cx} {aa:List (Addr×Obj)} {σ:L2.St} {H Hf:Hp} {s:Shared} {E:Value→Shared→Prop}
theorem r6 {K:ON}:∀ {L:List Int} {us:List Value},Paired (fun x u=>ko K Hf (D.int x) u) L us→IntsAre us L
 | _,_,.nil=>.nil
 | _,_,.cons ⟨x,r1,h1⟩ t=>by
  rw [az] at h1; subst h1
  obtain ⟨tk,rfl⟩:=r1
  exact .cons _ _ (r6 t)
theorem FH:LZ X D.int ltI oneType' where
 lin:=fun L=>⟨fun x _=>by simp,fun x _ y _ z _ h g=>by simp only [decide_eq_true_eq] at *; lia,fun x _ y _ h=>by simp only [decide_eq_true_eq]; lia⟩
 inj:=fun _ _ _ _ _ _ _ x y u ⟨v,r1,h1⟩ ⟨v',r2,h2⟩=>by
  rw [az] at h1 h2; subst h1 h2
  obtain ⟨t,rfl⟩:=r1
  obtain ⟨t',e⟩:=r2
  cases e; rfl
 kind:=fun _ _ _ _ _ _ _ _ _ L us p h2 Q hQ=>by
  rw [ksk_kind (kz:=L) (r6 p) (by simpa using h2)]
  exact OO hQ
 cmp:=fun _ _ _ _ _ _ _ _ _ _ x y u v ⟨a,r1,h1⟩ ⟨b,r2,h2⟩ Q hQ=>by
  rw [az] at h1 h2; subst h1 h2
  obtain ⟨t,rfl⟩:=r1
  obtain ⟨t',rfl⟩:=r2
  rw [keyLt'_oneType]
  exact oneLt_int hQ
theorem r8 (hc:X.calm=true) (I:Inv X aa σ H s) (sb:aH Hf H) (hA:X.A.units+60<cLine) (hH:Hf d=some (.frz o (.dK ys))) (hk:ys.map (·.1)=ns.map O8) (nd:ns.Nodup)
 (hQ:∀ (L':List Int) (xs':List V) (s':Shared) (H' aj:Hp) (a:Addr),L'.Perm ns→fR ltI b L'→aq X.K aj (L'.map D.int) xs'→bu H Hf H' aj→H' a=none→Inv X aa σ (upd H' a (.lst xs')) s'→Q (.ref a) s') :
 wpAny (model X.prog X.w) X.A (call (.builtin "sorted") [.ref d] [(OL "reverse",.bool b)]) Q E s:=by
 refine call_function_entry_kw kind_sorted plain_sorted entry_sorted (args_sorted_rev _ _) ?_
 unfold Builtin.«sorted»
 refine OM (m:=checkCount "sorted" 1 1 _) (OO ?_)
 have h1:X.A.in1.handled=none:=I.ok.hd hc
 have h2:X.A.in1.frames=some X.stack:=I.ok.frames
 obtain ⟨vs,es,ep,e1,kv,da,hs,hz⟩:=pS I (sb _ _ hH)
 have hl:ys.length=vs.length:=Qj kv
 have hn:(ns.map D.int).length=ys.length:=by have:=congrArg Rw hk; simp only [OT] at this ⊢; lia
 refine OM (lX (X:=Fo X X.A.in1) (H:=H) (Hf:=Hf) (ds:=ns.map D.int) (T:="dict") hc h1 h2 (jP I (fun _=>h1) h2) sb da.lt_size (by lia) (by decide) (fun s' k=>(da.keep k).dictOf.typeIs) (fun A s' Q E q h=>oE q h) (fun A s1 H1 E I1 sb1 k1=>?_) fun us s' H' aj xs I' rv rr g hz'=>?_)
 ·refine wpAny_pyIter_dict hs (da.keep k1) ?_
  refine ⟨_,_,_,rfl,OP _,I1.kept (t':=s1.toks) fun b o e=>OU _ e,yM e1,⟨_,O6 _ rfl,rfl,?_⟩,fun b hb=>?_,fun b o e=>OU _ e,yN hH hk⟩
  ·rw [hl]; rfl
  ·obtain rfl:b=s1.heap.objs.size:=O3.mp hb
   exact I1.mT (OP _) (I1.hok.fresh (OP _))
 ·have I2:=gz I.ok I'
  have el:=rr.length
  have el2:=rv.length
  refine BD (b:=b) FH I2 g.b ?_ rr rv (by lia) nd fun L' xs' s2 p1 p2 p3 p4 I3=>hQ L' xs' s2 H' aj _ p1 p2 p3 g (I2.hok.fresh (OP _)) I3
  show X.A.units+1+20<cLine
  lia
end
section
variable {K:ON} {c:Ctx P w K mg base k N sc bk}
theorem uM (hm:mg "sorted"=none) (h:aJ c e ρ fun d=>∃ (ns:List Int) (ds:List D),d=.fdK (ns.map O8) ds∧Sd ns.Nodup (∀ L':List Int,L'.Perm ns→fR ltI true L'→R (.ow (L'.map D.int))))
 (hg:sc.names.lookup (OL "sorted")=some .globalImplicit:=by walk_at "u")
 (he:∀ env,starEach [e] env=(false,eval e env)::starEach [] env:=by intro _; walk_at "u")
 (hpl:∀ env,(backTo pos (starEach [e] env)).any (·.1)=false:=by intro _; walk_at "u") :
 dD c (.Call (.Name "sorted" np) [e] [⟨some "reverse",.Constant (.bool true) j kp1,kp⟩] pos) ρ R:=fun σ H Hf Q S q aa s I=>by
 have hgl:Gl c.X "sorted":=by unfold Gl PJ; rw [c.esc]; exact hg
 refine QB (dI I hgl (by rw [c.emg]; exact hm) (show bootBuiltins "sorted"=some (.builtin "sorted") by decide +kernel) ?_ (by decide) (by decide))
 refine callWith_kw ?_ (by rw [he]; rfl) (hpl _)
 have hpa:=bN (X:=c.X) (e:=e) (es:=[]) dB dJ (he _)
 refine bJ (hpa pos aa s σ H (fun vs H1=>∃ x,vs=[x]∧∃ (ns:List Int) (ds:List D) (aQ:Hp),Rep c.X.K aQ (.fdK (ns.map O8) ds) x∧ns.Nodup∧bu H Hf H1 aQ∧∀ L':List Int,L'.Perm ns→fR ltI true L'→R (.ow (L'.map D.int))) I ?_) fun us s1 hh=>z2 hh fun vs H1 hh=>w3 hh fun I1 r1 hh=>hh.elim fun x hh=>w2 hh fun ex hh=>z3 hh fun ns ds aQ hh=>w4 hh fun e1 e7 e8 e9=>?_
 ·exact h σ H Hf _ S fun d v H1 aQ ⟨ns,ds,hp,⟨hn,hR⟩⟩ rv g=>⟨_,rfl,ns,ds,aQ,by rw [← hp]; exact rv,hn,g,hR⟩
 ·subst ex
  obtain ⟨a0,ys,o,rfl,hs,hk,hr⟩:=i7.mp e1
  have eu:us=[.ref a0]:=by
   cases r1 with
   | cons q1 q2=>cases q2; cases q1; rfl
  subst eu
  refine kws_cons (bJ (Gz (X:=c.X) (b:=true) (j:=j) (pos:=kp1) aa s1 σ _ (fun x H2=>x=.bl true∧H2=H1) I1 ⟨rfl,rfl⟩) fun kv s2 ⟨x,H2,I2,rx,e10,e11⟩=>kws_nil ?_)
  subst e10 e11
  have ek:kv=.bool true:=rx
  subst ek
  refine r8 (b:=true) c.calm I2 e8.b ?_ hs hk e7 fun L' xs' s' H' aj a p1 p2 p3 g na I3=>?_
  ·have:=c.room.un
   lia
  ·have gg:=e8.trans g
   exact ⟨.ref a,_,I3,rfl,q (.ow (L'.map D.int)) _ _ aj (e9 L' p1 p2) ⟨a,xs',rfl,gg.s.free na,ai,g.b.free na,p3⟩ (gg.trans (bu.gq g.b na))⟩
end
theorem FI {Q:Value→Shared→Prop} (ho:s.heap.get? l=some o) (hc:o.cls=.type "tuple") (hd:o.data=.seq its.toArray n) (hk:0≤k) (hk2:k<2 ^ 63) (hz:its.length * k.toNat≤sizeLine) (hne:its≠[])
 (h1:k=1→Q (.ref l) s) (h2:k≠1→Q (.ref s.heap.objs.size) { s with heap:=s.heap.push { cls:=.type "tuple",data:=.seq (OX k.toNat its).flatten.toArray } }) :
 wpAny (model prog w) A (Builtin.«tuple.__mul__» ⟨[.ref l,.int k u],[]⟩) (fun fin s'=>∃ v,fin=.done (.ret v)∧Q v s') E s:=by
 unfold Builtin.«tuple.__mul__»
 show wpAny _ _ (asIndex (.int k u) >>= _) _ _ s
 have ea:asIndex (.int k u)=pure k:=rfl
 rw [ea]
 refine OM (OO ?_)
 have b1:(decide (k< -2 ^ 63) || decide (k≥2 ^ 63))=false:=by simp only [Bool.or_eq_false_iff,decide_eq_false_iff_not]; lia
 rw [if_neg (by rw [b1]; exact O0)]
 dsimp only
 refine OM (show wpAny _ _ (seqItems? (.ref l) >>= _) _ _ s from OM (wpAny_seqItems ho hd (OO ?_)))
 have hne':its.toArray.isEmpty=false:=by cases its with | nil=>exact absurd rfl hne | cons a r=>rfl
 rw [hne',Bool.false_or]
 by_cases e:k=1
 ·rw [if_pos (by simp [e])]
  refine OM (OM (Q7 ⟨o,ho,hc⟩ (OO ?_)))
  rw [if_pos (by decide)]
  exact OM (Ql (OO ⟨_,rfl,h1 e⟩))
 ·rw [if_neg (by simpa using e)]
  have h2':=h2 e
  by_cases e0:k=0
  ·subst e0
   rw [if_pos (by decide)]
   exact OM (P6 (OO ⟨_,rfl,h2'⟩))
  ·have hpos:0<k:=by lia
   rw [if_neg (by simp; lia)]
   have hm:(its.toArray.size:Int) * k=((its.length * k.toNat:Nat):Int):=by
    rw [Int.natCast_mul,Int.toNat_of_nonneg hk,O9]
   have hs:(sizeLine:Nat)≤(2 ^ 63 - 1) / 8:=by decide
   rw [hm,if_neg (by lia),if_neg (by unfold Builtin.Tuple.tupleTooMany; simp only [decide_eq_true_eq]; lia)]
   have ef:=foldl_rep its k.toNat []
   rw [Q3] at ef
   show wpAny _ _ (newObj (.type "tuple") (.seq (R5 (fun x1 x2=>x1++x2) ([]:List Value).toArray (OX k.toNat its.toArray))) >>= _) _ _ _
   rw [ef]
   exact OM (P6 (OO ⟨_,rfl,h2'⟩) (hd:=by
    show (OX k.toNat its).flatten.toArray.size≤sizeLine
    rw [O9,len_rep,SE]; exact hz))
theorem uN:fillsNumberSlot (.type "tuple") "mul"=pure false:=PySem.fillsNumberSlot_seq (id:="tuple.__mul__") (r:=some (.builtin "tuple.__rmul__")) U5.lookup (by decide +kernel) F.slot_tuple_rmul.lookup (by decide +kernel)
theorem uO:seqRepeat? (.type "tuple")=pure (some (.builtin "tuple.__mul__")):=by
 unfold seqRepeat?
 rw [PySem.seqSlot_of (T:="tuple") (name:="__mul__") (id:="tuple.__mul__") U5.lookup (by decide +kernel),PySem.seqSlot_of (T:="tuple") (name:="__rmul__") (id:="tuple.__rmul__") F.slot_tuple_rmul.lookup (by decide +kernel)]
 rfl
theorem BU (a) (t:Tok) (l) (o) (items) (n) :
 Meets (Builtin.«int.__rmul__» ⟨[.int a t,.ref l],[]⟩) (fun _ R s=>s.heap.get? l=some o∧o.cls=.type "tuple"∧o.data=.seq items n∧R (.ok (.ret Value.notImplemented)) s) :=
 .of_wp fun prog w A R ⟨hp,g,d,tk,os⟩ ⟨hl,hc,hd,h⟩=>by
  obtain ⟨c,dc,dt,sl⟩:=o
  obtain rfl:c=.type "tuple":=hc
  obtain rfl:dt=.seq items n:=hd
  wp_walk
  exact ⟨_,rfl,h⟩
noncomputable def Mb (K:ON):R2:=fun x y H Q=>∃ l k xs,x=.ref l∧y=.int k∧c8 K H l xs∧xs≠[]∧0≤k∧k<2 ^ 63∧xs.length * k.toNat≤sizeLine∧(k=1→Q (.ref l) H)∧(k≠1→∀ p,H p=none→Q (.ref p) (upd H p (.tup (OX k.toNat xs).flatten)))
theorem FJ:fM X (binaryOp .Mult) (Mb X.K):=by
 intro aa s σ H x y v u Q I rx ry h
 obtain ⟨l,k,xs,rfl,rfl,hq,hne,h0,h1,hz,q1,q2⟩:=h
 cases rx
 obtain ⟨t,rfl⟩:=ry
 obtain ⟨its,r,pl,hz0⟩:=I.tuple hq
 obtain ⟨o,ho,hc,n,hd⟩:=pl
 have hl:=r.length
 refine wpAny_binaryOp_repeat_ref (T:="tuple") (U:="int") (by decide) ⟨o,ho,hc⟩ (fun s'=>R3 s' k t) uN F.fills_int_mul TV uO F.slot_int_index.lookup
  (R4 TV (R3 s k t) F.entry_int_rmul (F.args_int_rmul_2 _ _) (BU k t l o _ _) ⟨ho,hc,hd,rfl,⟨o,ho,hc⟩,Qv U5 ⟨o,ho,hc⟩ F.entry_tuple_mul (FI (its:=its) ho hc hd h0 h1 (by rw [← hl]; exact hz) (by rintro rfl; cases r; exact hne rfl) (fun e=>?_) fun e=>?_) (F.args_tuple_mul_2 _ _)⟩)
 ·exact ⟨.ref l,H,I,rfl,q1 e⟩
 ·have Hp:H s.heap.objs.size=none:=I.hok.fresh (OP _)
  have hz2:(OX k.toNat xs).flatten.length≤sizeLine:=by rw [len_rep,SE]; exact hz
  have IA:Inv X aa σ (upd H s.heap.objs.size (.tup (OX k.toNat xs).flatten)) { s with heap:=s.heap.push { cls:=.type "tuple",data:=.seq (OX k.toNat its).flatten.toArray },toks:=s.toks } :=
   I.laid (a:=s.heap.objs.size) (o:=.tup (OX k.toNat xs).flatten) (fun _ _ q=>OU _ q) (OP _) ⟨hz2,_,r.rep k.toNat,_,O6 _ rfl,rfl,0,rfl⟩
  exact ⟨.ref s.heap.objs.size,_,IA,rfl,q2 e _ Hp⟩
section
variable {K:ON}
theorem BV (h:aJ c a ρ fun x=>aJ c b ρ fun y=>∃ ds n,x=.tup ds∧y=.int n∧Sd (ds≠[]∧0≤n∧n<2 ^ 63∧ds.length * n.toNat≤sizeLine) (R (.tup (OX n.toNat ds).flatten))):aJ c (.BinOp a .Mult b pos) ρ R:=fun σ H Hf Q S q =>
 bR (zY FJ dB dB) (h σ H Hf _ S fun x v H1 aQ h1 r1 g1=>h1 σ H1 aQ _ (S.cG g1) fun y u H2 cQ ⟨ds,n,e1,e2,⟨hne,n0,n1,hz⟩,hR⟩ r2 g2=>by
  subst e1 e2
  have r1':=Rep.mono g2.f _ r1
  obtain ⟨l,xs,rfl,k1,k2⟩:=aI.mp r1'
  rw [az] at r2; subst r2
  have hl:=k2.length
  have g:=g1.trans g2
  refine ⟨l,n,xs,rfl,rfl,av g2.b k1,by rintro rfl; exact hne (List.eq_nil_of_length_eq_zero hl),n0,n1,by rw [← hl]; exact hz,fun e=>?_,fun _ p hp=>?_⟩
  ·subst e
   refine q _ _ H2 cQ hR ?_ g
   rw [show (OX (1:Int).toNat ds).flatten=ds by simp]
   exact r1'
  ·have g3:=bu.new (o:=.tup (OX n.toNat xs).flatten) g2.b hp
   exact q _ _ _ _ hR (aI.mpr ⟨p,_,rfl,.inl (.inl ai),(k2.mono g3.f).many _⟩) (g.trans g3))
end
section
variable {K:ON}
end
end EV
namespace EV
open PySem PySem.Spec PyProof.Rows L2
noncomputable def dig (b:Int):Nat→(Nat→Int)→Int
 | 0,_=>0
 | m+1,f=>f 0 * b ^ m+dig b m (fun i=>f (i+1))
noncomputable abbrev bU (p:List Int) (i:Nat):Int:=p.getD i 0
noncomputable def pk (b:Int) (p:List Int):Int:=dig b 6 (bU p)
theorem ju:∀ {m:Nat} {f g:Nat→Int},(∀ i,i<m→f i=g i)→dig b m f=dig b m g
 | 0,_,_,_=>rfl
 | m+1,f,g,h=>by
  unfold dig
  rw [h 0 (by lia),ju (m:=m) fun i hi=>h (i+1) (by lia)]
theorem wZ:∀ (m:Nat) (f g:Nat→Int),dig b m (fun i=>f i+g i)=dig b m f+dig b m g
 | 0,_,_=>rfl
 | m+1,f,g=>by
  unfold dig
  rw [wZ m (fun i=>f (i+1)) (fun i=>g (i+1)),Ry]
  lia
theorem jv:∀ (m:Nat),dig b m (fun _=>0)=0
 | 0=>rfl
 | m+1=>by unfold dig; rw [jv m,Rv]; rfl
theorem iO (hb:0<b):∀ (m:Nat) (f:Nat→Int),(∀ i,i<m→0≤f i∧f i<b)→0≤dig b m f∧dig b m f<b ^ m
 | 0,_,_=>⟨Qk _,by show (0:Int)<b ^ 0; rw [Int.pow_zero]; decide⟩
 | m+1,f,h=>by
  have h0:=h 0 (by lia)
  have ih:=iO hb m (fun i=>f (i+1)) fun i hi=>h (i+1) (by lia)
  have hp:0<b ^ m:=Rx hb
  unfold dig
  rw [Int.pow_succ]
  have a1:0≤f 0 * b ^ m:=Int.mul_nonneg h0.1 (by lia)
  have a2:(f 0+1) * b ^ m≤b * b ^ m:=Vc (by lia) (by lia)
  rw [Ry,Ui] at a2
  rw [Int.mul_comm (b ^ m) b]
  lia
theorem w9 (hb:0<b):∀ (m:Nat) (f:Nat→Int),(∀ i,i<m→0≤f i∧f i<b)→∀ i,i<m→dig b m f / b ^ (m - 1 - i) % b=f i
 | 0,_,_,_,hi=>absurd hi (Nat.not_lt_zero _)
 | m+1,f,h,i,hi=>by
  have ih:=w9 hb m (fun i=>f (i+1)) fun i hi=>h (i+1) (by lia)
  have bd:=iO hb m (fun i=>f (i+1)) fun i hi=>h (i+1) (by lia)
  have hp:0<b ^ m:=Rx hb
  unfold dig
  cases i with
  | zero =>
   rw [show m+1 - 1 - 0=m by lia,Ud,Int.add_mul_ediv_right _ _ (by lia),Int.ediv_eq_zero_of_lt bd.1 bd.2,SG]
   exact Int.emod_eq_of_lt (h 0 (by lia)).1 (h 0 (by lia)).2
  | succ i =>
   have e:b ^ m=b ^ (i+1) * b ^ (m - 1 - i):=by rw [← Int.pow_add]; congr 1; lia
   have hq:0<b ^ (m - 1 - i):=Rx hb
   rw [show m+1 - 1 - (i+1)=m - 1 - i by lia,e,← Sy,Ud,Int.add_mul_ediv_right _ _ (by lia),Int.pow_succ,← Sy,Int.add_mul_emod_self_right]
   exact ih i (by lia)
theorem jS (h:trim (x::p)=x::p):trim p=p:=by
 rcases List.eq_nil_or_concat p with rfl | ⟨r,z,rfl⟩
 ·rfl
 ·rw [List.concat_eq_append] at h ⊢
  by_cases e:z=0
  ·subst e
   rw [← QC,ie] at h
   have:=congrArg Rw h
   have l:=gB (x::r)
   simp only [Pr,Py,QD] at this l
   lia
  ·exact oq r e
theorem r9:∀ {p:List Int},trim p=p→p≠[]→(∀ x∈p,0≤x)→∃ i,i<p.length∧0<bU p i
 | [],_,h,_=>absurd rfl h
 | [x],h,_,h0=>by
  refine ⟨0,by simp,?_⟩
  have:x≠0:=by rintro rfl; simp [trim] at h
  have:=h0 x (by simp)
  show 0<x
  lia
 | x::y::p,h,_,h0=>by
  obtain ⟨i,hi,hq⟩:=r9 (jS h) (by simp) fun z hz=>h0 z (O2 _ hz)
  exact ⟨i+1,by simp only [Pr] at *; lia,by simpa [bU] using hq⟩
theorem xg (hb:0<b):∀ (m:Nat) (f:Nat→Int),(∀ i,i<m→0≤f i∧f i<b)→(∃ i,i<m∧0<f i)→0<dig b m f
 | 0,_,_,h=>by obtain ⟨i,hi,_⟩:=h; lia
 | m+1,f,h,⟨i,hi,hq⟩=>by
  have bd:=iO hb m (fun i=>f (i+1)) fun i hi=>h (i+1) (by lia)
  have hp:0<b ^ m:=Rx hb
  unfold dig
  cases i with
  | zero =>
   have:=Int.mul_pos hq hp
   lia
  | succ i =>
   have:=xg hb m (fun i=>f (i+1)) (fun i hi=>h (i+1) (by lia)) ⟨i,by lia,hq⟩
   have:=Int.mul_nonneg (h 0 (by lia)).1 (show 0≤b ^ m by lia)
   lia
theorem BW (hb:0<b):∀ (m:Nat) (p q:List Int),trim p=p→trim q=q→p.length≤m→q.length≤m→(∀ x∈p,0≤x∧x<b)→(∀ x∈q,0≤x∧x<b)→HT.lexLt p q=true→dig b m (bU p)<dig b m (bU q)
 | m,[],[],_,_,_,_,_,_,h=>by cases h
 | m,[],y::q,_,tq,_,lq,_,hq,_=>by
  have e:dig b m (bU [])=0:=by
   rw [show bU ([]:List Int)=fun _=>0 from funext fun i=>by simp [bU]]; exact jv m
  rw [e]
  obtain ⟨i,hi,h0⟩:=r9 tq (by simp) fun x hx=>(hq x hx).1
  refine xg hb m _ (fun j hj=>?_) ⟨i,by lia,h0⟩
  by_cases z:j<(y::q).length
  ·have:bU (y::q) j=(y::q)[j]:=by unfold bU; rw [P8,Pc z]; rfl
   rw [this]; exact hq _ (Pp _)
  ·have:bU (y::q) j=0:=by simp only [bU,P8,QA (by lia:(y::q).length≤j)]; rfl
   rw [this]; lia
 | m,x::p,[],_,_,_,_,_,_,h=>by cases h
 | 0,x::p,y::q,_,_,lp,_,_,_,_=>by simp at lp
 | m+1,x::p,y::q,tp,tq,lp,lq,hp,hq,h=>by
  simp only [Pr] at lp lq
  rw [HT.cJ] at h
  have rd:∀ (r:List Int),(∀ z∈r,0≤z∧z<b)→∀ j,0≤bU r j∧bU r j<b:=fun r hr j=>by
   by_cases z:j<r.length
   ·have:bU r j=r[j]:=by unfold bU; rw [P8,Pc z]; rfl
    rw [this]; exact hr _ (Pp _)
   ·have:bU r j=0:=by simp only [bU,P8,QA (by lia:r.length≤j)]; rfl
    rw [this]; lia
  have hp':∀ z∈p,0≤z∧z<b:=fun z hz=>hp z (O2 _ hz)
  have hq':∀ z∈q,0≤z∧z<b:=fun z hz=>hq z (O2 _ hz)
  unfold dig
  show x * b ^ m+dig b m (bU p)<y * b ^ m+dig b m (bU q)
  by_cases e:x=y
  ·rw [if_pos e] at h
   subst e
   have:=BW hb m p q (jS tp) (jS tq) (by lia) (by lia) hp' hq' h
   lia
  ·rw [if_neg e] at h
   have hxy:x<y:=of_decide_eq_true h
   have b1:=iO hb m (bU p) fun i _=>rd p hp' i
   have b2:=iO hb m (bU q) fun i _=>rd q hq' i
   have a2:(x+1) * b ^ m≤y * b ^ m:=Vc (by lia) (by have hh:0<b ^ m:=Rx hb; lia)
   rw [Ry,Ui] at a2
   lia
noncomputable def Bd (b:Int) (p:List Int):Prop:=p.length≤6∧∀ x∈p,0≤x∧x<b
theorem dN (z:j<p.length):bU p j=p[j]:=by unfold bU; rw [P8,Pc z]; rfl
theorem cY (z:p.length≤j):bU p j=0:=by unfold bU; rw [P8,QA z]; rfl
theorem G0 (hb:0<b) (h:Bd b p) (i):0≤bU p i∧bU p i<b:=by
 by_cases z:i<p.length
 ·rw [dN z]; exact h.2 _ (Pp _)
 ·rw [cY (by lia)]; lia
theorem sd (p):∃ m,p=trim p++OX m 0:=by
 suffices H:∀ r:List Int,∃ m,r=OX m 0++r.dropWhile fun x=>x == 0 by
  obtain ⟨m,h⟩:=H p.reverse
  refine ⟨m,?_⟩
  have:=congrArg List.reverse h
  rw [List.reverse_reverse,UI,List.reverse_replicate] at this
  exact this
 intro r
 induction r with
 | nil=>exact ⟨0,rfl⟩
 | cons x r ih =>
  by_cases e:x=0
  ·subst e
   obtain ⟨m,h⟩:=ih
   refine ⟨m+1,?_⟩
   rw [Qu,List.dropWhile_cons_of_pos (by simp),QC,← h]
  ·exact ⟨0,by rw [List.dropWhile_cons_of_neg (by simpa using e)]; rfl⟩
theorem eB (p) (i):bU (trim p) i=bU p i:=by
 obtain ⟨m,h⟩:=sd p
 by_cases z:i<(trim p).length
 ·have e:bU p i=bU (trim p++OX m 0) i:=by rw [← h]
  rw [e]
  unfold bU
  simp only [P8]
  rw [QX z]
 ·rw [cY (by lia)]
  have e:bU p i=bU (trim p++OX m 0) i:=by rw [← h]
  rw [e]
  unfold bU
  simp only [P8]
  rw [RE (by lia),Ux]
  split <;> rfl
theorem FL (b) (p):pk b (trim p)=pk b p:=ju fun i _=>eB p i
theorem se (h:x∈trim p):x∈p:=by
 obtain ⟨m,e⟩:=sd p
 rw [e]; exact Rl _ h
theorem pU (h:Bd b p):Bd b (trim p):=⟨OV (gB p) h.1,fun x hx=>h.2 x (se hx)⟩
theorem BX (hb:0<b) (hp:Bd b p) (hq:Bd b q) (tp:trim p=p) (tq:trim q=q) (h:HT.lexLt p q=true):pk b p<pk b q:=BW hb 6 p q tp tq hp.1 hq.1 hp.2 hq.2 h
theorem uP (hb:0<b) (hp:Bd b p) (hq:Bd b q) (tp:trim p=p) (tq:trim q=q) (h:pk b p=pk b q):p=q:=by
 by_cases e:p=q
 ·exact e
 ·exfalso
  rcases kN e with z | z
  ·have:=BX hb hp hq tp tq z; lia
  ·have:=BX hb hq hp tq tp z; lia
noncomputable def M8 (b:Int) (key:Int):List Int:=trim ((PF 6).map fun (i:Nat)=>key / b ^ (5 - i) % b)
theorem Jq (hb:0<b) (h:Bd b p):M8 b (pk b p)=trim p:=by
 have e:((PF 6).map fun (i:Nat)=>pk b p / b ^ (5 - i) % b)=p++OX (6 - p.length) 0:=by
  refine TN (by simp; have:=h.1; lia) fun i h1 h2=>?_
  have hi:i<6:=by simpa using h1
  rw [U3,UM]
  have:=w9 hb 6 (bU p) (fun j _=>G0 hb h j) i hi
  rw [show 6 - 1 - i=5 - i by lia] at this
  rw [show pk b p=dig b 6 (bU p) from rfl,this]
  by_cases z:i<p.length
  ·rw [dN z,List.getElem_append_left z]
  ·rw [cY (by lia),List.getElem_append_right (by lia),List.getElem_replicate]
 unfold M8
 rw [e]
 generalize 6 - p.length=m
 induction m with
 | zero=>simp
 | succ m ih=>rw [List.replicate_succ',← Pd,ie]; exact ih
noncomputable def cN (B:List (Int×Int)):List (Key×D):=B.map fun x=>(.inl x.1,.int x.2)
theorem jw (B) (k):bD (cN B) (.inl k)=(bD B k).map D.int:=by
 induction B with
 | nil=>rfl
 | cons t B ih =>
  by_cases e:t.1=k
  ·rw [br e]
   show bD ((O8 t.1,D.int t.2)::cN B) _=_
   rw [br (by rw [e])]; rfl
  ·rw [aU e,← ih]
   show bD ((O8 t.1,D.int t.2)::cN B) _=_
   rw [aU fun z=>e (O8.inj z)]
theorem sj (B) (k n):putD (cN B) (.inl k) (.int n)=cN (putD B k n):=by
 unfold putD
 rw [jw]
 by_cases h:(bD B k).isSome=true
 ·rw [if_pos h,if_pos (by rw [Rn]; exact h)]
  unfold cN
  rw [Pb,Pb]
  refine QN fun t _=>?_
  simp only [T7]
  by_cases e:t.1=k
  ·rw [if_pos e,if_pos (by rw [e])]
  ·rw [if_neg e,if_neg fun z=>e (O8.inj z)]
 ·rw [if_neg h,if_neg (by rw [Rn]; exact h)]
  unfold cN
  simp
noncomputable def gD (b:Int) (t:aG):Int×Int:=(pk b t.1,t.2)
noncomputable def Gd (b:Int) (A:List aG):Prop:=∀ t∈A,Bd b t.1∧trim t.1=t.1
theorem uQ (hb:0<b) (h:Gd b A) (hp:Bd b p) (tp:trim p=p):bD (A.map (gD b)) (pk b p)=bD A p:=by
 induction A with
 | nil=>rfl
 | cons t A ih =>
  have ih:=ih fun x hx=>h x (O2 _ hx)
  have ht:=h t O1
  by_cases e:t.1=p
  ·rw [br e,OS,br (show (gD b t).1=pk b p by unfold gD; rw [e])]; rfl
  ·rw [aU e,OS,aU fun z=>e (uP hb ht.1 hp ht.2 tp z),ih]
theorem Jr (hb:0<b) (h:Gd b A) (hp:Bd b p) (tp:trim p=p):putD (A.map (gD b)) (pk b p) n=(putD A p n).map (gD b):=by
 unfold putD
 rw [uQ hb h hp tp]
 split
 ·rw [Pb,Pb]
  refine QN fun t ht=>?_
  simp only [T7]
  by_cases e:t.1=p
  ·rw [if_pos e,if_pos (show (gD b t).1=pk b p by unfold gD; rw [e])]; rfl
  ·rw [if_neg e,if_neg (show ¬ (gD b t).1=pk b p from fun z=>e (uP hb (h t ht).1 hp (h t ht).2 tp z))]
 ·simp [gD]
theorem Js (h:Gd b A) (hp:Bd b p) (tp:trim p=p):Gd b (putD A p n):=fun t ht=>by
 rcases pR ht with e | e
 ·rw [e]; exact ⟨hp,tp⟩
 ·exact h t e
theorem pV (h:∀ t∈ts,Bd b t.1):Gd b (aL ts):=by
 unfold aL
 suffices H:∀ A,Gd b A→Gd b (ts.foldl fS A) from H [] (fun _ h=>by cases h)
 induction ts with
 | nil=>exact fun A h=>h
 | cons u ts ih=>exact fun A hA=>ih (fun t ht=>h t (O2 _ ht)) _ (Js hA (pU (h u O1)) (cu _))
theorem Jt (hb:0<b) (h:∀ t∈ts,Bd b t.1) (ht:Bd b t.1) :
 putD ((aL ts).map (gD b)) (pk b t.1) ((bD ((aL ts).map (gD b)) (pk b t.1)).getD 0+t.2)=(aL (ts++[t])).map (gD b):=by
 rw [rX]
 unfold fS
 rw [← FL b t.1,uQ hb (pV h) (pU ht) (cu _),Jr hb (pV h) (pU ht) (cu _)]
theorem su:∀ {L M:List Int},L.Perm M→L.Pairwise (fun x y=>y<x)→M.Pairwise (fun x y=>y<x)→L=M
 | [],M,h,_,_=>by rw [List.nil_perm] at h; exact h.symm
 | x::L,[],h,_,_=>by simp at h
 | x::L,y::M,h,h1,h2=>by
  rw [RQ] at h1 h2
  by_cases e:x=y
  ·subst e
   rw [su ((List.perm_cons _).mp h) h1.2 h2.2]
  ·exfalso
   have hx:x∈M:=(O5.mp (h.subset O1)).resolve_left e
   have hy:y∈L:=(O5.mp (h.symm.subset O1)).resolve_left (Pf e)
   have a:=h1.1 y hy
   have b:=h2.1 x hx
   lia
theorem pW {A:List aG} (hk:(A.map (·.1)).Nodup) {t:aG} (h:t∈A):bD A t.1=some t.2:=by
 induction A with
 | nil=>cases h
 | cons u A ih =>
  rw [OS,Qn] at hk
  rcases O5.mp h with rfl | h
  ·exact br rfl
  ·rw [aU fun e=>hk.1 (by rw [e]; exact List.mem_map_of_mem h)]
   exact ih hk.2 h
theorem BY (hb:0<b) (h:∀ t∈ts,Bd b t.1) (hp:L'.Perm (((aL ts).map (gD b)).map (·.1))) (hs:L'.Pairwise fun x y=>y<x):L'=(fJ (aL ts)).map fun t=>pk b t.1:=by
 have hg:=pV h
 have hk:=d9 ts
 generalize aL ts=A at *
 refine su (hp.trans ?_) hs ?_
 ·rw [Pb]
  exact ((bF A).map _).symm
 ·rw [QS]
  have hs2:=ir (keys_nodup hk)
  have hm:∀ t∈fJ A,t∈A:=fun t ht=>(bF A).subset ht
  have hk2:(fJ A).Pairwise fun x y=>x.1≠y.1:=by
   have:=((bF A).map (·.1)).nodup_iff.mpr hk
   unfold SJ at this
   rwa [QS] at this
  unfold jo fR at hs2
  refine Ul.imp_of_mem (R:=fun x y=>(if true then cX y x=true else cX x y=true)∧x.1≠y.1) (fun {x y} hx hy q=>?_) (hs2.and hk2)
  obtain ⟨q1,q2⟩:=q
  rw [if_pos rfl] at q1
  unfold cX at q1
  rw [if_neg (Pf q2)] at q1
  exact BX hb (hg _ (hm _ hy)).1 (hg _ (hm _ hx)).1 (hg _ (hm _ hy)).2 (hg _ (hm _ hx)).2 q1
noncomputable def FN (b:Int) (p:List Int):Int:=p.foldl (fun a x=>a * b+x) 0
theorem BZ (b) (p) (x):FN b (p++[x])=FN b p * b+x:=by unfold FN; rw [UX]; rfl
theorem sA (b):∀ (p:List Int) (a:Int),p.foldl (fun a x=>a * b+x) a=a * b ^ p.length+dig b p.length (bU p)
 | [],a=>by simp [dig]
 | x::p,a=>by
  rw [Qo,sA b p]
  show (a * b+x) * b ^ p.length+_=a * b ^ (p.length+1)+(x * b ^ p.length+dig b p.length (bU p))
  rw [Ry,Int.pow_succ,Sy,Int.mul_comm b (b ^ p.length)]
  lia
theorem xh (b) (p):FN b p=dig b p.length (bU p):=by unfold FN; rw [sA]; lia
theorem sC (k):∀ (m:Nat) (f:Nat→Int),(∀ i,m≤i→f i=0)→dig b (m+k) f=dig b m f * b ^ k
 | 0,f,h=>by
  rw [Q8,ju (g:=fun _=>0) fun i _=>h i (Pn _),jv]
  show 0=0 * b ^ k
  rw [Rv]
 | m+1,f,h=>by
  rw [show m+1+k=(m+k)+1 by lia]
  unfold dig
  rw [sC k m (fun i=>f (i+1)) fun i hi=>h (i+1) (by lia),Ry,Int.pow_add,Sy]
theorem Ju (h:p.length≤6):FN b p * b ^ (6 - p.length)=pk b p:=by
 rw [xh,← sC (6 - p.length) p.length (bU p) fun i hi=>cY hi]
 rw [show p.length+(6 - p.length)=6 by lia]
 rfl
theorem B0 (hb:0<b) (h:∀ x∈p,0≤x∧x<b):0≤FN b p∧FN b p<b ^ p.length:=by
 rw [xh]
 exact iO hb _ _ fun i hi=>by rw [dN hi]; exact h _ (Pp _)
theorem Mc (hb:0<b) (h:Bd b p):0≤pk b p∧pk b p<b ^ 6:=iO hb _ _ fun i _=>G0 hb h i
theorem two_pos (W):(0:Int)<2 ^ W:=Rx (by decide)
theorem iu (W):((2:Int) ^ W)=((2 ^ W:Nat):Int):=by rw [Int.natCast_pow]; rfl
theorem B3 (hW:W≤10) (hn:n≤6):((2:Int) ^ W) ^ n≤2 ^ 60:=by
 rw [← Int.pow_mul,iu,iu]
 exact Int.ofNat_le.mpr (Sf (by decide) (OV (Rt hW hn) (by decide)))
theorem xj (hW:W≤10) (hn:n≤6) (h0:0≤x) (h:x<((2:Int) ^ W) ^ n):x.natAbs<2 ^ 64:=by
 have:=B3 hW hn
 have h60:(2:Int) ^ 60<2 ^ 64:=by decide
 have:x<((2 ^ 64:Nat):Int):=by rw [← iu]; lia
 lia
theorem yO (W) (h:0≤x):Builtin.bitAnd x (1 * 2 ^ W - 1)=x % 2 ^ W:=by
 have hp:=two_pos W
 have e0:(1:Int) * 2 ^ W - 1=((2 ^ W - 1:Nat):Int):=by
  have:0<2 ^ W:=Nat.pow_pos (by decide)
  rw [Ui,iu]; lia
 rw [e0]
 show (match decide (0≤x),decide (0≤((2 ^ W - 1:Nat):Int)) with
  | true,true=>(((x.toNat &&& (((2 ^ W - 1:Nat):Int)).toNat:Nat)):Int)
  | true,false=>_ | false,true=>_ | false,false=>_)=_
 rw [decide_eq_true h,decide_eq_true (Int.natCast_nonneg _)]
 show ((x.toNat &&& (2 ^ W - 1):Nat):Int)=_
 rw [Nat.and_two_pow_sub_one_eq_mod,iu,Int.natCast_emod,Int.toNat_of_nonneg h]
noncomputable def cD (p q:List Int):List Int:=(PF (max p.length q.length)).map fun k=>bU p k+bU q k
noncomputable def dO (l r:aG):aG:=(cD l.1 r.1,l.2 * r.2)
noncomputable def aM (A B:List aG):List aG:=A.flatMap fun l=>B.map (dO l)
theorem jx (p q):(cD p q).length=max p.length q.length:=by simp [cD]
theorem bY (p q) (i):bU (cD p q) i=bU p i+bU q i:=by
 by_cases z:i<max p.length q.length
 ·rw [dN (by rw [jx]; exact z)]; simp [cD]
 ·rw [cY (by rw [jx]; lia),cY (by lia),cY (by lia)]; rfl
theorem FO (b) (p q):pk b (cD p q)=pk b p+pk b q:=by
 unfold pk
 rw [← wZ]
 exact ju fun i _=>bY p q i
theorem gE (h:t∈aM A B):∃ l∈A,∃ r∈B,t=dO l r:=by
 unfold aM at h
 obtain ⟨l,hl,h⟩:=TL.mp h
 obtain ⟨r,hr,rfl⟩:=Pa.mp h
 exact ⟨l,hl,r,hr,rfl⟩
theorem oF (A B) (l):aM (A++[l]) B=aM A B++B.map (dO l):=by
 unfold aM
 rw [List.flatMap_append,RU,TM,P1]
theorem cZ (A B):(aM A B).length=A.length * B.length:=by
 induction A with
 | nil=>simp [aM]
 | cons a A ih =>
  unfold aM at *
  rw [RU,Py,ih,OT,Pr,SD]
  lia
end EV
namespace EV
open PySem PySem.Spec PySem.Calls PyProof.Rows L2
theorem B4 {K:ON}:∀ {kvs:List (Key×D)} {ys:List (Key×V)},ys.map (·.1)=kvs.map (·.1)→aq K H (kvs.map (·.2)) (ys.map (·.2))→mQ K H kvs ys
 | [],[],_,_=>.nil
 | [],y::ys,h,_=>by simp at h
 | x::kvs,[],h,_=>by simp at h
 | x::kvs,y::ys,h,r=>by
  rw [OS,OS] at h r
  obtain ⟨v,t,e,r1,r2⟩:=aD.mp r
  injection e with e1 e2
  injection h with h1 h2
  subst e1 e2
  exact .cons ⟨h1.symm,r1⟩ (B4 h2 r2)
section
variable {K:ON}
theorem Jv (h:aJ c a ρ fun x=>aJ c b ρ fun y=>∃ (kvs:List (Key×D)) (kk:Key) (d:D),x=.fdK (kvs.map (·.1)) (kvs.map (·.2))∧y.yh=some kk∧bD kvs kk=some d∧R d) (hs:Eu b:=by with_unfolding_all exact fun _ _=>rfl):aJ c (.Subscript a b pos) ρ R:=fun σ H Hf Q S q =>
 bR (vS c.hu dB dB hs) (h σ H Hf _ S fun x v H1 aQ h1 r1 g1=>h1 σ H1 aQ _ (S.cG g1) fun y u H2 cQ ⟨kvs,kk,d,e1,e2,e3,hR⟩ r2 g2=>by
  subst e1
  obtain ⟨p,ys,o,rfl,k1,k2,k3⟩:=i7.mp r1
  have kv:=(B4 k2 k3).mono g2.f
  have rel:=kv.val kk
  rw [e3] at rel
  rw [jf e2 r2]
  cases z:k6 ys kk with
  | none=>rw [z] at rel; exact rel.elim
  | some v =>
   rw [z] at rel
   exact ⟨p,v,rfl,.inl ⟨ys,kk,.inr ⟨o,g2.b _ _ (g2.f _ _ k1)⟩,rfl,z.symm⟩,q d v H2 cQ hR rel (g1.trans g2)⟩)
end
end EV
namespace EV
open PySem PySem.Spec PyProof.Rows L2
theorem sD {A:List aG} {l:List Int} {n:Int} {t:aG} (h:t∈putD A l n):t=(l,n)∨t∈A:=by
 unfold putD at h
 split at h
 ·obtain ⟨u,hu,e⟩:=Pa.mp h
  split at e
  ·rename_i q; subst e; exact .inl (by rw [q])
  ·subst e; exact .inr hu
 ·rcases Pg.mp h with q | q
  ·exact .inr q
  ·simp at q; exact .inl q
theorem Jw {A:List aG} (h:∀ t∈A,t.2.natAbs≤c) (l):((bD A l).getD 0).natAbs≤c:=by
 unfold bD
 cases e:A.find? (fun kv=>decide (kv.1=l)) with
 | none=>exact Pn _
 | some u=>exact h u (List.mem_of_find?_eq_some e)
theorem xm:∀ (ts A:List aG) (c:Nat),(∀ t∈A,t.2.natAbs≤c)→(∀ t∈ts,t.2.natAbs≤m)→∀ t∈ts.foldl fS A,t.2.natAbs≤c+ts.length * m
 | [],A,c,h,_,t,ht=>by simpa using h t ht
 | u::ts,A,c,h,g,t,ht=>by
  have:=xm (m:=m) ts (fS A u) (c+m) (fun t' ht'=>by
   rcases sD ht' with rfl | q
   ·have a:=Jw h (trim u.1)
    have b:=g u O1
    show ((bD A (trim u.1)).getD 0+u.2).natAbs≤c+m
    omega
   ·have:=h t' q; omega) (fun t h=>g t (O2 _ h)) t ht
  rw [Pr,SD]
  omega
theorem Jx (h:∀ t∈ts,t.2.natAbs≤m):∀ t∈aL ts,t.2.natAbs≤ts.length * m:=fun t ht=>by
 have:=xm ts [] 0 (by simp) h t ht
 omega
theorem yP (l m:List Int):ly (n+1) (.tup (l.map D.int)) (.tup (m.map D.int)):=.tup fun i d e h1 h2=>by
 simp only [OY,O4] at h1 h2
 obtain ⟨a,_,rfl⟩:=h1
 obtain ⟨b,_,rfl⟩:=h2
 exact .sc rfl
theorem sE (x y):ly (n+2) (aP x) (aP y):=.tup fun i d e h1 h2=>by
 rcases i with _ | _ | i
 ·simp at h1 h2; subst h1 h2; exact yP _ _
 ·simp at h1 h2; subst h1 h2; exact .sc rfl
 ·simp at h1
theorem B5 (L M:List aG):ly (n+3) (.lst (L.map aP)) (.lst (M.map aP)):=.lst fun i d e h1 h2=>by
 simp only [OY,O4] at h1 h2
 obtain ⟨a,_,rfl⟩:=h1
 obtain ⟨b,_,rfl⟩:=h2
 exact sE a b
theorem B6 (es):o7 [] es:=fun i d e h _=>by simp at h
theorem jT (h:ly 40 d e) (t:o7 ds es):o7 (d::ds) (e::es):=fun i a b h1 h2=>by
 cases i with
 | zero=>simp at h1 h2; subst h1 h2; exact h
 | succ i=>exact t i a b (by simpa using h1) (by simpa using h2)
theorem yQ (L M:List aG):o7 (L.map aP) (M.map aP):=fun i d e h1 h2=>by
 simp only [OY,O4] at h1 h2
 obtain ⟨a,_,rfl⟩:=h1
 obtain ⟨b,_,rfl⟩:=h2
 exact sE a b
theorem sF (h:o7 ds ds) (t:T true):EG (.lst ds) (.lst ds) T:=EI ⟨h,by rw [decide_eq_true rfl]; exact t⟩
section
variable {K:ON}
theorem int_mk (KX:K.In h) (G:h.Ns mainGlobals mg) (a:PY K mainGlobals x=some (some (.int i tk))):∃ tk:Tok,mg x=some (.int i tk):=⟨tk,PySem.W.mg_of KX G a⟩
theorem xo {st:Stmt} (m:mg x=some (.ref f)) (Fu:fu K x x st f fd) (ok:bx P w K mg base (dH P w) k f fd ps (Jg K F))
 (hb:∀ (kV doc pm:Value) (an:Option Addr) (cdv ct:Value) (us:List Value),us.length=ps.length→bindArgs (QJ x x (eU st) (ay st) (ah st) .none kV doc pm an cdv ct) ⟨us,[]⟩=pure (ps.zip us)):yD P w K mg base k x F :=
 ⟨f,fd,ps,m,Fu.kp,Fu.binds hb,ok⟩
end
theorem iP (h:n≤100000):n<sizeLine:=QO h (by decide)
theorem pX (h:n≤100000):n≤sizeLine:=Q9 (iP h)
structure mj (P:Program) (w:World) (K:ON) (mg:Str→Option Value) (base:Heap) (k:Nat) (f:Addr) (F:Fn):Prop where
 ex:∃ fd ps,QE K (.ref f)=true∧Binds K fd ps []∧bx P w K mg base (dH P w) k f fd ps (fE K F)
section
variable {K:ON} {c:Ctx P w K mg base k N sc bk}
theorem cz.at_ (h:cz P w K mg base j x F):∃ f,mg x=some (.ref f)∧mj P w K mg base j f F:=by
 obtain ⟨f,fd,ps,a,b,c,d⟩:=h.ex
 exact ⟨f,a,fd,ps,b,c,d⟩
theorem uR (hm:mg x=some (.ref f)) (hR:R (.adr f)) (hg:sc.names.lookup x=some .globalImplicit:=by walk_at "u") (hd:(x == ("__debug__":Str))=false:=by decide) :
 aJ c (.Name x pos) ρ R:=fun σ H Hf Q S q =>
 bR (vI (X:=c.X) (v:=.ref f) (u:=.ref f) (by unfold Gl PJ; rw [c.esc]; exact hg) (by rw [c.emg]; exact hm) rfl hd) (q _ _ H Hf hR (fD.mpr rfl) (.refl S.sb))
theorem B7 (h:mj P w K mg base j f F) (hj:j≤k):QE K (.ref f)=true ∧
 ∀ (aa:List (Addr×Obj)) (σ:L2.St) (H Hf:Hp) (s:Shared) (us:List Value) (vs:List V) (ds:List D) (r:Res) (Q:VK),Inv c.X aa σ H s→bz c σ H Hf ρ→Vals vs us→aq c.X.K Hf ds vs→F ds r →
  (∀ sl v H' aj,r=.ok sl→aZ c.X.K (fun p=>H p=none) H' aj sl v→bu H Hf H' aj→Q v H')→(∀ C,r=.ex C→c.RX C ρ)→wpAny (model c.X.prog c.X.w) c.X.A (call (.ref f) us) (EP c.X aa σ Q) c.X.xe s:=by
 obtain ⟨fd,ps,hk,hb,hF⟩:=h.ex
 refine ⟨hk,fun aa σ H Hf s us vs ds r Q I S rv rs hr q hx=>?_⟩
 have hF':bx c.X.prog c.X.w c.X.K c.X.mg c.X.base (dH c.X.prog c.X.w) k f fd ps (fE c.X.K F):=by rw [c.eP,c.ew,c.eK,c.emg,c.eb]; exact hF.mono hj
 have qx:fE c.X.K F vs H Q (fun cv ao H'=>∃ C,r=.ex C∧cv=.ref C∧aH H H'):=by
  refine ⟨Hf,ds,r,S.bas.b,rs,hr,?_⟩
  cases r with
  | ok sl=>exact fun v H' aj g rs2=>q sl v H' aj rfl rs2 g
  | ex C=>exact fun a H' s2=>⟨C,rfl,rfl,s2⟩
 have hl:us.length=ps.length:=by rw [← rv.length]; exact hF'.len _ _ _ _ qx
 have hb':Binds c.X.K fd ps []:=by rw [c.eK]; exact hb
 have hb2:=hb' s us I.oU (by simpa using hl)
 rw [P1] at hb2
 refine R1 (RY (hF'.run c.X.A c.X.stack s H ⟨us,[]⟩ us vs Q _ c.room I.Ej hb2 rv qx) fun r' s' hq=>?_)
 cases r' with
 | error e =>
  obtain ⟨a,C,H',rfl,hE,C',e1,e2,sm⟩:=hq
  cases e2
  exact c.exc C a aa σ H Hf ρ s H' s' I S (hx C e1) hE sm
 | ok fl =>
  cases fl with
  | ret u=>exact I.after hq
  | next=>exact PZ hq
  | brk=>exact PZ hq
  | cont=>exact PZ hq
theorem cy {R:Sl→Prop} (h:mj P w K mg base j f F) (hj:j≤k) (hN:At N i x) (hi:At ρ i (.va (.adr f)))
 (ha:qO c (e::es) ρ fun ds=>∃ r,F ds r∧Iz c ρ R r)
 (hdb:(x == ("__debug__":Str))=false:=by decide) (hcd:(x == ("__classdict__":Str))=false:=by decide) (he:∀ env,starEach (e::es) env=(false,eval e env)::starEach es env:=by intro _; walk_at "u")
 (hpl:∀ env,(backTo pos (starEach es env)).any (·.1)=false:=by intro _; walk_at "u"):dD c (.Call (.Name x p) (e::es) [] pos) ρ R:=fun σ H Hf Q S q aa s I=>by
 obtain ⟨hk,run⟩:=B7 (c:=c) (ρ:=ρ) h hj
 obtain ⟨v0,e0,r0⟩:=S.va hi.get
 rw [fD] at r0
 subst r0
 refine QB (bJ (c.lC hN hdb hcd aa s σ H (fun v H1=>v=.ref f∧H1=H) I ⟨_,e0,rfl,rfl⟩) fun fv s1 ⟨v,H1,I1,rv,e1,e2⟩=>?_)
 subst e1 e2
 have ef:fv=.ref f:=rv
 subst ef
 refine Tj (h₀:=c.X.base) I1.ok.mod.kin (by rw [c.eK]; exact hk) (bJ (ha σ _ Hf (fun vs H1=>∃ aQ ds,(∃ r,F ds r∧Iz c ρ R r)∧aq c.X.K aQ ds vs∧bu _ Hf H1 aQ) S (fun ds vs H1 aQ hr rs g=>⟨aQ,ds,hr,rs,g⟩) pos aa s1 I1) fun us s2 ⟨vs,H2,I2,rv,aQ,ds,⟨r,hF,hR⟩,rs,g⟩=>⟨I2.oU,?_⟩) (he _) (hpl _)
 refine run aa σ H2 aQ s2 us vs ds r Q I2 (S.cG g) rv rs hF (fun sl v H' aj e1 rs2 g2=>?_) fun C e1=>?_
 ·subst e1
  exact q sl v H' aj hR (rs2.weak fun p hp=>g.s.free hp) (g.trans g2)
 ·subst e1
  exact hR
end
end EV
namespace EV
open PySem PySem.Spec PySem.Calls PyProof.Rows L2
section
theorem yR (hc:X.calm=true) (I:Inv X aa σ H s) (sb:aH Hf H) (hv:s.heap.IsItemsView v d) (hH:Hf d=some (.frz o u)) (hd:HO.dct u) (hp:Paired (nX X.K Hf) ds (bK u))
 (hQ:∀ (a:Addr) (s':Shared) (H' aj:Hp) (xs:List V),Inv X aa σ H' s'→H' a=some (.lst xs)→H a=none→aj a=none→aq X.K aj ds xs→bu H Hf H' aj→Q (.ref a) s'):wpAny (model X.prog X.w) X.A (call (.type "list") [.ref v]) Q E s:=by
 obtain ⟨ho,ok⟩:=(show bq X.prog X.w H s.heap d (.frz o u) from I.hok d _ (sb _ _ hH))
 obtain ⟨_,_,_,_,_,_,hz⟩:=cM ok hd ho
 have h1:X.A.in1.handled=none:=I.ok.hd hc
 have h2:X.A.in1.frames=some X.stack:=I.ok.frames
 refine callType_codes (Q₁:=fun obj s₁=>obj=.ref s.heap.objs.size∧s₁={ s with heap:=s.heap.push { cls:=.type "list",data:=.seq #[] } }) F.called_list (F.typeCall_list_1 _) F.entry_list_init
  (code_list_new _ ⟨rfl,rfl⟩) fun obj s₁ h₁=>?_
 obtain ⟨rfl,rfl⟩:=h₁
 have hS:(s.heap.push { cls:=.type "list",data:=.seq #[] }).get? s.heap.objs.size=some { cls:=.type "list",data:=.seq #[] }:=O6 _ rfl
 refine ⟨⟨_,hS,rfl⟩,F.args_list_init_2 _ _,?_⟩
 show wpAny _ X.A.in1.in1 (do let old ← Se (.ref s.heap.objs.size); QZ (.ref s.heap.objs.size) (fun _=> #[]); letGo old.toList.reverse; SS (.ref s.heap.objs.size) (.ref v) .none) _ _ _
 refine OM (SA hS rfl ?_)
 have HS:H s.heap.objs.size=none:=I.hok.fresh (OP _)
 have I1:Inv X aa σ (upd H s.heap.objs.size (.lst [])) { s with heap:=s.heap.push { cls:=.type "list",data:=.seq ([]:List Value).toArray },toks:=s.toks }:=I.Er (t':=s.toks) (ys:=[]) (its:=[]) .nil (Pn _)
 refine OM (Qs hS rfl ?_)
 have I2:=I1.uh (f:=fun _=>(#[]:Array Value)) (its':=[]) (ys:=[]) (t':=s.toks) ai (n:=0) hS (by simp) .nil (Pn _)
 rw [oR] at I2
 refine OM (Ue ?_)
 have k1:∀ b o,s.heap.get? b=some o→((s.heap.push { cls:=.type "list",data:=.seq ([]:List Value).toArray }).update s.heap.objs.size (Pw fun _=>(#[]:Array Value))).get? b=some o:=fun b o e=>by
  rw [Q0 _ _ _ _ (Pk (OW e))]
  exact OU _ e
 have up:∀ s':Shared,(∀ b o,s.heap.get? b=some o→s'.heap.get? b=some o)→s'.heap.IsItemsView v d:=fun s' k=>by obtain ⟨q,q1,q2⟩:=hv; exact ⟨q,k _ _ q1,q2⟩
 have hne:s.heap.objs.size≠v:=RZ (by obtain ⟨_,q,_⟩:=hv; exact OW q)
 have g0:bu H Hf (upd H s.heap.objs.size (.lst [])) Hf:=bu.gq sb HS
 refine om (X:=Fo X X.A.in1) (T:="dict_items") (ds:=ds) (H:=H) (Hf:=Hf) (R:=wants (fun r s₂=>r=.none∧Q (.ref s.heap.objs.size) s₂) E) hc h1 h2 (jP I2 (fun _=>h1) h2) sb HS hne ?_ (by rw [Qj hp]; exact hz) (by decide) (fun s' k=>(up s' fun b o e=>k b o (k1 b o e)).typeIs) (fun A s' Q E q h=>yz q h) ?_ fun s' H' aj xs I' hS' hfS hr g=>⟨rfl,hQ _ s' H' aj xs (gz I.ok I') hS' HS hfS hr g⟩
 ·show _<(Heap.update _ _ _).objs.size
  rw [U4]
  show _<(Heap.push _ _).objs.size
  rw [Q5]; exact Ro _
 ·refine PD (Ft (X:=Fo X X.A.in1) (tg:=.Name "x" ⟨0,0,0,0⟩) (jP I2 (fun _=>h1) h2) (up _ k1) (g0.b _ _ hH) hd) (fun itv s2 hh=>z3 hh fun it es ep hh=>w7 hh fun e hit I3 Tn t0 hf k2=>?_) fun _ _ x=>x
  exact ⟨it,_,_,e,hit,I3,Tn,t0,hf,k2,uF hH hp⟩
end
section
variable {K:ON} {c:Ctx P w K mg base k N sc bk}
theorem sG (hm:mg "list"=none) (h:aJ c e ρ fun d=>∃ ds,d.pairs=some ds∧R (.ow ds)) (hg:sc.names.lookup (OL "list")=some .globalImplicit:=by walk_at "u")
 (hb:∀ env,attributeBase e "items" env (eval e env)=eval e env:=by intro _; walk_at "u") (hl:(ap.endLine == cp.line)=true:=by walk_at "u") :
 dD c (.Call (.Name "list" np) [.Call (.Attribute e "items" ap) [] [] cp] [] pos) ρ R:=fun σ H Hf Q S q aa s I=>by
 have hgl:Gl c.X "list":=by unfold Gl PJ; rw [c.esc]; exact hg
 refine QB (dI I hgl (by rw [c.emg]; exact hm) (show bootBuiltins "list"=some (.type "list") by decide +kernel) ?_ (by decide) (by decide))
 have hpa:=bN (X:=c.X) (e:=.Call (.Attribute e "items" ap) [] [] cp) (es:=[]) (BC dB (hb _) hl) dJ (by rfl)
 refine R8 (bJ (hpa pos aa s σ H (fun vs H1=>∃ x,vs=[x]∧∃ (v d:Addr) (o:Obj) (u:HO) (ds:List D) (H0 D0:Hp),x=.ref v∧H1=upd H0 v (.ext fun h=>h.IsItemsView v d)∧H0 v=none∧D0 d=some (.frz o u)∧HO.dct u∧Paired (nX c.X.K D0) ds (bK u)∧bu H Hf H0 D0∧R (.ow ds)) I ?_) fun us s1 hh=>z2 hh fun vs H1 hh=>w3 hh fun I1 r1 hh=>hh.elim fun x hh=>w2 hh fun ex hh=>z4 hh fun v d o u hh=>z3 hh fun ds H0 D0 hh=>w8 hh fun e1 e2 e3 e4 e5 e6 e8 e9=>?_) (by rfl) (by rfl)
 ·exact h σ H Hf _ S fun d v H1 aQ ⟨ds,hp,hR⟩ rv g=>by
   obtain ⟨a,o,u,e1,e2,e3,e4⟩:=yr hp rv
   exact ⟨a,o,u,e1,g.b _ _ e2,e3,fun vw hv=>⟨_,rfl,vw,a,o,u,ds,H1,aQ,rfl,rfl,hv,e2,e3,e4,g,hR⟩⟩
 ·subst ex e1 e2
  have eu:us=[.ref v]:=by
   cases r1 with
   | cons q1 q2=>cases q2; cases q1; rfl
  subst eu
  have g1:bu H0 D0 (upd H0 v (.ext fun h=>h.IsItemsView v d)) D0:=bu.gq e8.b e3
  obtain ⟨hvw,_⟩:=(show bq c.X.prog c.X.w _ s1.heap v (.ext fun h=>h.IsItemsView v d) from I1.hok v _ ai)
  refine yR c.calm I1 g1.b hvw e4 e5 e6 fun a s' H' aj xs I' hS' na zL hr g=>?_
  have gg:=(e8.trans g1).trans g
  exact ⟨.ref a,H',I',rfl,q (.ow ds) _ _ aj e9 ⟨a,xs,rfl,e8.s.free (g1.s.free na),hS',zL,hr⟩ gg⟩
end
section
theorem B8 {K:ON}:∀ {ds:List D} {xs:List V} {us:List Value},aq K Hf ds xs→Vals xs us→Paired (fun d u=>ko K Hf d u) ds us
 | [],xs,us,h,v=>by rw [aA] at h; subst h; cases v; exact .nil
 | t::L,xs,us,h,v=>by
  obtain ⟨x,r,rfl,h1,h2⟩:=aD.mp h
  cases v with
  | cons r1 r2=>exact .cons ⟨x,r1,h1⟩ (B8 h2 r2)
theorem B9 {K:ON}:∀ {ds:List D} {us:List Value},Paired (fun d u=>ko K Hf d u) ds us→∃ xs,aq K Hf ds xs∧Vals xs us
 | _,_,.nil=>⟨[],aA.mpr rfl,.nil⟩
 | _,_,.cons ⟨x,r1,h1⟩ t=>by
  obtain ⟨xs,h2,h3⟩:=B9 t
  exact ⟨x::xs,.cons h1 h2,.cons r1 h3⟩
theorem uS (hc:X.calm=true) (I:Inv X aa σ H s) (sb:aH Hf H) (hl:gX X.K Hf l ys) (hr:aq X.K Hf ds ys) (hd:∀ d∈ds,∃ es,d=.lst es)
 (hQ:∀ (ds':List D) (xs':List V) (s':Shared) (a:Addr),ds'.Perm ds→aq X.K Hf ds' xs'→H a=none→Inv X aa σ (upd H a (.lst xs')) s'→Q (.ref a) s') :
 wpAny (model X.prog X.w) X.A (call (.builtin "sorted") [.ref l] [(OL "key",.builtin "len")]) Q E s:=by
 refine call_function_entry_kw kind_sorted plain_sorted entry_sorted (SR.kj _ _) ?_
 unfold Builtin.«sorted»
 refine OM (m:=checkCount "sorted" 1 1 _) (OO ?_)
 obtain ⟨its,rv,p,hz⟩:=I.list (sb.seq hl)
 have el:=rv.length
 refine OM (collect_list p.isList ?_ (by lia))
 have I2:Inv X aa σ H { s with heap:=(s.heap.push (seqObj "list" #[] 0)).update s.heap.objs.size (Pw (· ++its.toArray)),toks:=s.toks }:=I.kept fun c o e=>by
  rw [Q0 _ _ _ _ (Pk (OW e))]
  exact OU _ e
 generalize (s.heap.push (seqObj "list" #[] 0)).update s.heap.objs.size (Pw (· ++its.toArray))=h0 at I2 ⊢
 refine OM (Sw ?_ (by lia))
 have ha:(h0.push (seqObj "list" its.toArray 0)).get? h0.objs.size=some (seqObj "list" its.toArray 0):=O6 _ rfl
 have Ha:H h0.objs.size=none:=I2.hok.fresh (OP _)
 have k2:∀ b o,h0.get? b=some o→(h0.push (seqObj "list" its.toArray 0)).get? b=some o:=fun b o e=>OU _ e
 have I3:Inv X aa σ H { s with heap:=h0.push (seqObj "list" its.toArray 0),toks:=s.toks }:=I2.kept (t':=s.toks) k2
 have pL:=B8 hr rv
 refine OM (Qa (UG slot_list_sort ⟨_,ha,rfl⟩ entry_list_sort (SR.By ha (by lia) (fun v hv=>?_) fun out h' tk e hp he hk=>⟨_,rfl,?_⟩) (SR.iL _ _)))
 ·obtain ⟨d,hd',x,r1,h1⟩:=SR.iK pL v hv
  obtain ⟨es,rfl⟩:=hd d hd'
  obtain ⟨b,zs,rfl,q1,q2⟩:=aY.mp h1
  cases r1
  obtain ⟨its',rv',p',hz'⟩:=I3.list (sb.seq q1)
  have e':=rv'.length
  refine ⟨b,its'.toArray,rfl,?_,p'.isList,by simp only [O9]; lia⟩
  rintro rfl
  obtain ⟨_,_,p2,_⟩:=I2.list (sb.seq q1)
  obtain ⟨o,q,_⟩:=p2.isList
  exact Qy _ (OW q)
 ·obtain ⟨ds',p1,p2⟩:=SR.gy hp pL
  obtain ⟨xs',r',v'⟩:=B9 p2
  have hlen:out.toList.length=its.length:=hp.length_eq
  refine OO ⟨_,rfl,hQ ds' xs' _ _ p1 r' Ha ?_⟩
  refine I2.laid (t':=tk) (a:=h0.objs.size) (fun b o q=>hk b o (Pk (OW q)) (k2 b o q)) (OP _) ⟨by have:=v'.length; lia,out.toList,e,v',by simpa using he⟩
end
section
variable {K:ON} {c:Ctx P w K mg base k N sc bk}
theorem yS (hm:mg "sorted"=none) (hml:mg "len"=none) (h:aJ c e ρ fun d=>∃ ds,d=.lst ds∧Sd (∀ x∈ds,∃ es,x=.lst es) (∀ ds':List D,ds'.Perm ds→R (.ow ds')))
 (hg:sc.names.lookup (OL "sorted")=some .globalImplicit:=by walk_at "u") (hgl:sc.names.lookup (OL "len")=some .globalImplicit:=by walk_at "u")
 (he:∀ env,starEach [e] env=(false,eval e env)::starEach [] env:=by intro _; walk_at "u")
 (hpl:∀ env,(backTo pos (starEach [e] env)).any (·.1)=false:=by intro _; walk_at "u") :
 dD c (.Call (.Name "sorted" np) [e] [⟨some "key",.Name "len" kp1,kp⟩] pos) ρ R:=fun σ H Hf Q S q aa s I=>by
 have hgs:Gl c.X "sorted":=by unfold Gl PJ; rw [c.esc]; exact hg
 have hgl':Gl c.X "len":=by unfold Gl PJ; rw [c.esc]; exact hgl
 refine QB (dI I hgs (by rw [c.emg]; exact hm) (show bootBuiltins "sorted"=some (.builtin "sorted") by decide +kernel) ?_ (by decide) (by decide))
 refine callWith_kw ?_ (by rw [he]; rfl) (hpl _)
 have hpa:=bN (X:=c.X) (e:=e) (es:=[]) dB dJ (he _)
 refine bJ (hpa pos aa s σ H (fun vs H1=>∃ x,vs=[x]∧∃ (ds:List D) (aQ:Hp),Rep c.X.K aQ (.lst ds) x∧(∀ x∈ds,∃ es,x=.lst es)∧bu H Hf H1 aQ∧∀ ds':List D,ds'.Perm ds→R (.ow ds')) I ?_) fun us s1 hh=>z2 hh fun vs H1 hh=>w3 hh fun I1 r1 hh=>hh.elim fun x hh=>w2 hh fun ex hh=>z2 hh fun ds aQ hh=>w4 hh fun e1 e7 e8 e9=>?_
 ·exact h σ H Hf _ S fun d v H1 aQ ⟨ds,hp,⟨hn,hR⟩⟩ rv g=>⟨_,rfl,ds,aQ,by rw [← hp]; exact rv,hn,g,hR⟩
 ·subst ex
  obtain ⟨a0,ys,rfl,hs,hr⟩:=aY.mp e1
  have eu:us=[.ref a0]:=by
   cases r1 with
   | cons q1 q2=>cases q2; cases q1; rfl
  subst eu
  refine kws_cons (dI I1 hgl' (by rw [c.emg]; exact hml) (show bootBuiltins "len"=some (.builtin "len") by decide +kernel) ?_ (by decide) (by decide))
  refine kws_nil ?_
  exact uS c.calm I1 e8.b hs hr e7 fun ds' xs' s' a p1 p3 na I3=>⟨.ref a,_,I3,rfl,q (.ow ds') _ _ aQ (e9 ds' p1) ⟨a,xs',rfl,e8.s.free na,ai,e8.b.free na,p3⟩ (e8.trans (bu.gq e8.b na))⟩
end
mutual
def Sh.d:Sh→D
 | .v d=>d
 | .l ds=>.lst ds
 | .la _ ds=>.lst ds
 | .t ss=>.tup (Sh.ds ss)
 | .ls ss=>.lst (Sh.ds ss)
def Sh.ds:List Sh→List D
 | []=>[]
 | s::ss=>s.d::Sh.ds ss
end
section
variable {K:ON} {H Hf H' aj:Hp}
noncomputable abbrev Fp:=List (Addr×List V)
mutual
theorem aN.fz:∀ (s:Sh) {v:V} {fp:Fp},aN K H Hf s v fp→∀ a∈fp,H a.1=some (pl a.1 a.2)∧Hf a.1=none
 | .v d,_,_,h=>by simp only [aN] at h; obtain ⟨_,rfl⟩:=h; intro a ha; cases ha
 | .l ds,_,_,h=>by
  simp only [aN] at h
  obtain ⟨p,xs,e,h1,h2,h3,rfl⟩:=h
  intro a ha
  obtain rfl:=O3.mp ha
  exact ⟨h1,h2⟩
 | .la p ds,_,_,h=>by
  simp only [aN] at h
  obtain ⟨xs,e,h1,h2,h3,rfl⟩:=h
  intro a ha
  obtain rfl:=O3.mp ha
  exact ⟨h1,h2⟩
 | .t ss,_,_,h=>by
  simp only [aN] at h
  obtain ⟨a,xs,e,h1,h2⟩:=h
  exact au.fz ss h2
 | .ls ss,_,_,h=>by
  simp only [aN] at h
  obtain ⟨p,xs,fq,e,h1,h2,h3,rfl⟩:=h
  intro a ha
  rcases O5.mp ha with rfl | ha
  ·exact ⟨h1,h2⟩
  ·exact au.fz ss h3 a ha
theorem au.fz:∀ (ss:List Sh) {xs:List V} {fp:Fp},au K H Hf ss xs fp→∀ a∈fp,H a.1=some (pl a.1 a.2)∧Hf a.1=none
 | [],_,_,h=>by simp only [au] at h; obtain ⟨_,rfl⟩:=h; intro a ha; cases ha
 | s::ss,_,_,h=>by
  simp only [au] at h
  obtain ⟨x,r,f1,f2,e,h1,h2,rfl⟩:=h
  intro a ha
  rcases Pg.mp ha with ha | ha
  ·exact aN.fz s h1 a ha
  ·exact au.fz ss h2 a ha
end
mutual
theorem aN.rep (sf:aH Hf aj):∀ (s:Sh) {v:V} {fp:Fp},(∀ a∈fp,aj a.1=some (.lst a.2))→aN K H Hf s v fp→Rep K aj s.d v
 | .v d,_,_,_,h=>by simp only [aN] at h; exact h.1.mono sf d
 | .l ds,_,_,hk,h=>by
  simp only [aN] at h
  obtain ⟨p,xs,e,h1,h2,h3,rfl⟩:=h
  exact aY.mpr ⟨p,xs,e,.inl (.inl (hk _ O1)),h3.mono sf ds⟩
 | .la p ds,_,_,hk,h=>by
  simp only [aN] at h
  obtain ⟨xs,e,h1,h2,h3,rfl⟩:=h
  exact aY.mpr ⟨p,xs,e,.inl (.inl (hk _ O1)),h3.mono sf ds⟩
 | .t ss,_,_,hk,h=>by
  simp only [aN] at h
  obtain ⟨a,xs,e,h1,h2⟩:=h
  exact aI.mpr ⟨a,xs,e,av sf h1,au.rep sf ss hk h2⟩
 | .ls ss,_,_,hk,h=>by
  simp only [aN] at h
  obtain ⟨p,xs,fq,e,h1,h2,h3,rfl⟩:=h
  exact aY.mpr ⟨p,xs,e,.inl (.inl (hk _ O1)),au.rep sf ss (fun a ha=>hk a (O2 _ ha)) h3⟩
theorem au.rep (sf:aH Hf aj):∀ (ss:List Sh) {xs:List V} {fp:Fp},(∀ a∈fp,aj a.1=some (.lst a.2))→au K H Hf ss xs fp→aq K aj (Sh.ds ss) xs
 | [],_,_,_,h=>by simp only [au] at h; exact aA.mpr h.1
 | s::ss,_,_,hk,h=>by
  simp only [au] at h
  obtain ⟨x,r,f1,f2,e,h1,h2,rfl⟩:=h
  exact aD.mpr ⟨x,r,e,aN.rep sf s (fun a ha=>hk a (Rl _ ha)) h1,au.rep sf ss (fun a ha=>hk a (Qg _ ha)) h2⟩
end
noncomputable def kq (H:Hp) (fp:Fp):Hp:=fun a=>if a∈fp.map (·.1) then none else H a
noncomputable def iA (g:Addr→List V→HO):Fp→Hp→Hp
 | [],H=>H
 | p::fp,H=>upd (iA g fp H) p.1 (g p.1 p.2)
noncomputable def Ca:Addr→List V→HO:=fun _ xs=>.lst xs
theorem fK (h:a∉fp.map (·.1)):kq H fp a=H a:=if_neg h
theorem kO (h:a∈fp.map (·.1)):kq H fp a=none:=if_pos h
theorem aX:∀ {fp:Fp},a∉fp.map (·.1)→iA g fp H a=H a
 | [],_=>rfl
 | p::fp,h=>by
  rw [OS,O5,not_or] at h
  show upd _ _ _ a=_
  rw [ak h.1,aX h.2]
theorem fT:∀ {fp:Fp},(fp.map (·.1)).Nodup→∀ a∈fp,iA g fp H a.1=some (g a.1 a.2)
 | p::fp,nd,a,ha=>by
  rw [OS,Qn] at nd
  show upd _ _ _ a.1=_
  rcases O5.mp ha with rfl | ha
  ·exact ai
  ·rw [ak fun e=>nd.1 (by rw [← e]; exact Pa.mpr ⟨a,ha,rfl⟩)]
   exact fT nd.2 a ha
theorem cK {fp:Fp} (h:a∈fp.map (·.1)):∃ p∈fp,p.1=a:=Pa.mp h
theorem Cb (nd:(fp.map (·.1)).Nodup) (hz:∀ a∈fp,H a.1=some (pl a.1 a.2)∧Hf a.1=none) (g:bu (iA Ca fp H) (iA Ca fp Hf) H' aj):bu H Hf (iA pl fp H') (kq aj fp):=by
 refine ⟨fun b o e=>?_,fun b o e=>?_,fun b o e=>?_,fun b h1 h2 h3=>?_⟩
 ·by_cases m:b∈fp.map (·.1)
  ·obtain ⟨p,hp,rfl⟩:=cK m
   rw [fT nd p hp,← (hz p hp).1]; exact e
  ·rw [aX m]; exact g.s b o (by rw [aX m]; exact e)
 ·have m:b∉fp.map (·.1):=fun m=>by obtain ⟨p,hp,rfl⟩:=cK m; rw [(hz p hp).2] at e; cases e
  rw [fK m]; exact g.f b o (by rw [aX m]; exact e)
 ·by_cases m:b∈fp.map (·.1)
  ·rw [kO m] at e; cases e
  ·rw [fK m] at e; rw [aX m]; exact g.b b o e
 ·by_cases m:b∈fp.map (·.1)
  ·exact kO m
  ·rw [fK m]; exact g.n b (by rw [aX m]; exact h1) (by rw [aX m]; exact h2) fun xs=>by rw [aX m]; exact h3 xs
end
section
theorem G1:bq P w H h p (pl p xs)↔bq P w H h p (.lst xs):=by
 constructor
 ·exact fun q=>q.1
 ·rintro ⟨z,its,n,r,e⟩
  exact ⟨⟨z,its,n,r,e⟩,⟨_,e⟩,fun h1 h2 ⟨z,its,n,r,e⟩ k=>⟨z,its,n,r,k _ e⟩⟩
theorem uT (I:Inv X aa σ H s) (h:H a=some (.lst xs)):Inv X aa σ (upd H a (pl a xs)) s :=
 pG I h (by intro _ z; cases z) (by intro _ z; cases z) (by intro _ z; cases z) (fun o z e=>by have q:=I.base.frzs a o z e; rw [h] at q; cases q) (G1.mpr (I.hok a _ h))
theorem Cc (I:Inv X aa σ H s) (h:H a=some (pl a xs)):Inv X aa σ (upd H a (.lst xs)) s :=
 pG I h (by intro _ z; cases z) (by intro _ z; cases z) (by intro _ z; cases z) (fun o z e=>by have q:=I.base.frzs a o z e; rw [h] at q; cases q) (G1.mp (I.hok a _ h))
theorem mq (I:Inv X aa σ H s):∀ {fp:Fp},(fp.map (·.1)).Nodup→(∀ a∈fp,H a.1=some (pl a.1 a.2))→Inv X aa σ (iA Ca fp H) s
 | [],_,_=>I
 | p::fp,nd,h=>by
  rw [OS,Qn] at nd
  exact Cc (mq I nd.2 fun a ha=>h a (O2 _ ha)) (by rw [aX nd.1]; exact h p O1)
theorem sH (I:Inv X aa σ H s):∀ {fp:Fp},(fp.map (·.1)).Nodup→(∀ a∈fp,H a.1=some (.lst a.2))→Inv X aa σ (iA pl fp H) s
 | [],_,_=>I
 | p::fp,nd,h=>by
  rw [OS,Qn] at nd
  exact uT (sH I nd.2 fun a ha=>h a (O2 _ ha)) (by rw [aX nd.1]; exact h p O1)
end
inductive KN:List Sl→Prop where
 | nil:KN []
 | cons {r:Sl} {l:List Sl} (h:r.EC=false):KN l→KN (r::l)
inductive mw:List Sl→Nat→Sh→Prop where
 | z {s:Sh} {l:List Sl}:KN l→mw (.fo s::l) 0 s
 | s {r:Sl} {l:List Sl} {i:Nat} {s:Sh} (h:r.EC=false):mw l i s→mw (r::l) (i+1) s
theorem KN.get (h:KN l):∀ {j:Nat} {r:Sl},l[j]?=some r→r.EC=false:=by
 induction h with
 | nil=>intro j r e; simp at e
 | cons h _ ih =>
  intro j r e
  cases j with
  | zero=>simp at e; subst e; exact h
  | succ j=>exact ih (by simpa using e)
theorem mw.at_ {l:List Sl} {i:Nat} {s:Sh} (h:mw l i s):l[i]?=some (.fo s)∧∀ {j:Nat} {r:Sl},j≠i→l[j]?=some r→r.EC=false:=by
 induction h with
 | z h =>
  refine ⟨rfl,fun {j r} hj e=>?_⟩
  cases j with
  | zero=>exact absurd rfl hj
  | succ j=>exact h.get (by simpa using e)
 | s h _ ih =>
  refine ⟨by simpa using ih.1,fun {j r} hj e=>?_⟩
  cases j with
  | zero=>simp at e; subst e; exact h
  | succ j=>exact ih.2 (fun z=>hj (congrArg (· +1) z)) (by simpa using e)
section
end
section
variable {K:ON}
theorem jy {R:Sl→Prop} (h:dD c e ρ fun r=>∃ ds,r=.ow ds∧R (.fo (.l ds))):dD c e ρ R:=fun σ H Hf Q S q aa s I=>by
 refine bJ (h σ H Hf (fun v H'=>∃ ds aj,aZ c.X.K (fun p=>H p=none) H' aj (.ow ds) v∧bu H Hf H' aj∧R (.fo (.l ds))) S (fun r v H' aj ⟨ds,e,hR⟩ rs g=>⟨ds,aj,by rw [← e]; exact rs,g,hR⟩) aa s I) fun u s1 hh=>z2 hh fun v H1 hh=>w3 hh fun I1 rv hh=>z2 hh fun ds aQ hh=>w3 hh fun hh g hR=>z2 hh fun a xs hh=>w5 hh fun ev fa h1 h2 h3=>?_
 subst ev
 exact ⟨_,_,uT I1 h1,rv,q (.fo (.l ds)) _ _ aQ hR ⟨[(a,xs)],by simp only [aN]; exact ⟨a,xs,rfl,ai,h2,h3,rfl⟩,by simp,fun b hb=>by obtain rfl:=O3.mp hb; exact fa⟩ (pC g fa h2)⟩
noncomputable def Sl.sh:Sl→Option Sh | .va d=>some (.v d) | .fo s=>some s | _=>none
theorem Jy {H H' aj:Hp} (e:r.sh=some s) (h:aZ K (fun p=>H p=none) H' aj r v):∃ fp,aN K H' aj s v fp∧(fp.map (·.1)).Nodup∧∀ a∈fp,H a.1=none:=by
 cases r with
 | va d=>cases e; exact ⟨[],by simp only [aN]; exact ⟨h,trivial⟩,by simp,by intro a ha; cases ha⟩
 | fo s=>cases e; exact h
 | _=>cases e
noncomputable def FP (c:Ctx P w K mg base k N sc bk) (es:List Expr) (ρ:List Sl) (R:List Sh→Prop):Prop :=
 ∀ (σ:L2.St) (H Hf:Hp) (Q:List V→Hp→Prop),bz c σ H Hf ρ→(∀ ss vs fp H' aj,R ss→au c.X.K H' aj ss vs fp→(fp.map (·.1)).Nodup→(∀ a∈fp,H a.1=none)→bu H Hf H' aj→Q vs H')→bA c.X es σ H Q
theorem xq {R:List Sh→Prop} (h:R []):FP c [] ρ R:=fun σ H Hf Q S q=>nQ dJ (q [] [] [] H Hf h (by simp [au]) List.nodup_nil (by intro a ha; cases ha) (.refl S.sb))
theorem c6 {R:List Sh→Prop} (h:dD c e ρ fun r=>∃ s,r.sh=some s∧FP c es ρ fun ss=>R (s::ss)) (hs:∀ env,starEach (e::es) env=(false,eval e env)::starEach es env:=by intro _; walk_at "u"):FP c (e::es) ρ R:=fun σ H Hf Q S q =>
 nQ (bN dB ED (hs _)) (h σ H Hf _ S fun r v H1 aQ ⟨s,es,h1⟩ rs g1=>by
  obtain ⟨f1,r1,n1,fr1⟩:=Jy es rs
  have z1:=aN.fz s r1
  refine h1 σ H1 aQ _ (S.cG g1) fun ss vs fp H2 cQ h2 r2 n2 fr2 g2=>q (s::ss) (v::vs) (f1++fp) H2 cQ h2 ?_ ?_ ?_ (g1.trans g2)
  ·simp only [au]
   refine ⟨v,vs,f1,fp,rfl,aN.mv g2.f s (fun a _ e1 e2=>⟨g2.s _ _ e1,g2.n a.1 e2 (by rw [e1]; simp) (by intro ys z; rw [e1] at z; cases z)⟩) r1,r2,rfl⟩
  ·rw [Pq,Tz]
   refine ⟨n1,n2,fun a ha b hb e=>?_⟩
   subst e
   obtain ⟨p,hp,rfl⟩:=cK ha
   obtain ⟨p',hp',e'⟩:=cK hb
   have:=(z1 p hp).1
   rw [← e',fr2 p' hp'] at this; cases this
  ·intro a ha
   rcases Pg.mp ha with ha | ha
   ·exact fr1 a ha
   ·exact g1.s.free (fr2 a ha))
theorem au.len:∀ {ss:List Sh} {xs:List V} {fp:Fp},au K H Hf ss xs fp→ss.length=xs.length
 | [],_,_,h=>by simp only [au] at h; rw [h.1]; rfl
 | s::ss,_,_,h=>by
  simp only [au] at h
  obtain ⟨x,r,f1,f2,rfl,_,h2,_⟩:=h
  rw [Pr,Pr,au.len h2]
theorem pY {R:Sl→Prop} (h:FP c es ρ fun ss=>Sd (ss.length≤sizeLine) (R (.fo (.t ss)))):dD c (.Tuple es j pos) ρ R:=fun σ H Hf Q S q =>
 bR (Aa ED) (h σ H Hf _ S fun ss vs fp H' aj ⟨hl,hR⟩ r nd fr g=>⟨by rw [← au.len r]; exact hl,fun p hp=>by
  have g2:=bu.new g.b hp (o:=.tup vs)
  have hz:=au.fz ss r
  refine q _ _ _ _ hR ⟨fp,?_,nd,fr⟩ (g.trans g2)
  simp only [aN]
  exact ⟨p,vs,rfl,.inl (.inl ai),au.mv g2.f ss (fun a _ e1 e2=>⟨g2.s _ _ e1,g2.n a.1 e2 (by rw [e1]; simp) (by intro ys z; rw [e1] at z; cases z)⟩) r⟩⟩)
end
noncomputable def KO (K:ON) (ok:Sh→Prop):Sp:=fun vs H Q _=>∃ Hf s v fp,vs=[v]∧aH Hf H∧aN K H Hf s v fp∧(fp.map (·.1)).Nodup∧ok s∧∀ H' aj,bu (kq H fp) Hf H' aj→Q .non H'
structure FQ (P:Program) (w:World) (K:ON) (mg:Str→Option Value) (base:Heap) (k:Nat) (x:Str) (ok:Sh→Prop):Prop where
 ex:∃ f fd ps,mg x=some (.ref f)∧QE K (.ref f)=true∧Binds K fd ps []∧bx P w K mg base (dH P w) k f fd ps (KO K ok)
theorem pZ:aH (kq H fp) H:=fun b o e=>by
 by_cases m:b∈fp.map (·.1)
 ·rw [kO m] at e; cases e
 ·rw [fK m] at e; exact e
theorem Cd (sb:aH Hf H):bu (kq H fp) Hf H Hf:=⟨pZ,.refl _,sb,fun _ h _ _=>h⟩
theorem yT {K:ON} (r:aN K H Hf s v fp) (nd:(fp.map (·.1)).Nodup) (sb:aH Hf H) (hN:1≤N.length) :
 c9 K (kq H fp) Hf (L2.start N [v]) H Hf (.fo s::OX (N.length - 1) .un):=by
 have rest:∀ (i:Nat) (r':Sl),(Sl.fo s::OX (N.length - 1) Sl.un)[i]?=some r'→r'≠.un→i=0∧r'=.fo s:=fun i r' h hu=>by
  cases i with
  | zero=>exact ⟨rfl,by simpa using h.symm⟩
  | succ i=>exact absurd (R9 (Qc (by simpa using h))) hu
 refine ⟨Cd sb,by simp [L2.start],fun i r' h hu=>?_,fun i j r1 r2 p hne e1 e2 o1 o2=>?_⟩
 ·obtain ⟨rfl,rfl⟩:=rest i r' h hu
  exact ⟨v,by simp [L2.start],fp,r,nd,fun a ha=>kO (Pa.mpr ⟨a,ha,rfl⟩)⟩
 ·obtain ⟨_,rfl⟩:=rest i r1 e1 (by rintro rfl; cases o1)
  cases o1
section
variable {K:ON} {c:Ctx P w K mg base k N sc bk}
theorem N8 {st:Stmt} (Fu:fu K x qual st f fd) (Sc:aE N ps (ah st)) (Vi:∀ x∈N,Loc (ah st) x) (h1:ps.length=1) (hN:1≤N.length)
 (body:∀ (c:Ctx P w K mg base k N (ah st) false),c.X.xe=(fun _ _=>False)→∀ s,ok s→aS c (ay st) (.fo s::OX (N.length - 1) .un) (fun _=>True) { rt:=fun _=>False }) :
 bx P w K mg base (dH P w) (k+1) f fd ps (KO K ok):=by
 obtain ⟨oc,od,kV,doc,pm,an,cdv,ct,osl,rfl,lk,hcd⟩:=Fu.ex
 refine Ab lk hcd Sc (fun vs H Q E ⟨Hf,s,v,fp,e,_⟩=>by rw [e,h1]; rfl) fun A outer st' H vs Q E hr hh=>z4 hh fun Hf s v fp hh=>w6 hh fun e sb rf nd hok hq=>?_
 subst e
 let X:Cx:=(qC (dH P w) P w K mg base N qual (ah st) f cdv A outer st' H E).GA
 let c:Ctx P w K mg base k N (ah st) false :=
  { X:=X,eP:=rfl,ew:=rfl,eK:=rfl,emg:=rfl,eb:=rfl,eN:=rfl,esc:=rfl,calm:=rfl,top:=fun _=>⟨rfl,rfl,rfl⟩,cb:=fun _ _ _ _ _ I x c h=>I.ok.cab x c rfl h,fn:=fun _ _=>.inl rfl,B:=kq H fp,room:=hr,nd:=Sc.nd,vis:=Vi,Hf:=Hf,RX:=fun _ _=>False,
    exc:=fun _ _ _ _ _ _ _ _ _ _ _ _ h _ _=>h.elim,RM:=fun _ _=>False,mde:=fun _ _ _ _ _ _ _ _ _ _ _ _ h _=>h.elim }
 refine ⟨_,tV.GA (t:=Io X (ay st)) (qN (X:=X)),?_⟩
 exact body c rfl s hok (L2.start N [v]) H Hf _ (yT rf nd sb hN) ⟨fun σ H' aj ρ S _=>hq H' aj S.bas,fun r v H' aj g rv e=>e.elim,fun _ _ _ _ _ h=>h.elim,fun _ _ _ _ _ h=>h.elim⟩
theorem bB {α:Type} {l:List α} {a b:α} (h:(l.set i a)[j]?=some b):(j=i∧b=a)∨(j≠i∧l[j]?=some b):=by
 by_cases e:j=i
 ·subst e
  have hl:j<l.length:=by have:=(OZ.mp h).1; simpa using this
  rw [Qf hl] at h
  exact .inl ⟨rfl,(Qw h).symm⟩
 ·rw [Qh (Pf e)] at h
  exact .inr ⟨e,h⟩
noncomputable def Sh.raw:Sh→Option D | .v d=>some d | .la a _=>some (.adr a) | _=>none
noncomputable def yU:List Sh→Option (List D)
 | []=>some []
 | s::ss=>match s.raw,yU ss with | some d,some ds=>some (d::ds) | _,_=>none
theorem aN.raw (e:s.raw=some d) (h:aN K H Hf s v fp):Rep K Hf d v:=by
 cases s with
 | v d'=>cases e; simp only [aN] at h; exact h.1
 | la a ds=>cases e; simp only [aN] at h; obtain ⟨xs,e,_⟩:=h; exact fD.mpr e
 | _=>cases e
theorem au.raw:∀ {ss:List Sh} {vs:List V} {fp:Fp} {ds:List D},yU ss=some ds→au K H Hf ss vs fp→aq K Hf ds vs
 | [],_,_,_,e,h=>by cases e; simp only [au] at h; exact aA.mpr h.1
 | s::ss,_,_,_,e,h=>by
  simp only [au] at h
  obtain ⟨x,r,f1,f2,rfl,h1,h2,_⟩:=h
  unfold yU at e
  split at e
  ·rename_i d ds q1 q2
   cases e
   exact .cons (h1.raw q1) (au.raw q2 h2)
  ·cases e
theorem Jz (hN:At N i y) (hi:At ρ i (.fo (.t ss))) (hr:yU ss=some ds) (hR:R (.tup ds)) (hd:(y == ("__debug__":Str))=false:=by decide) (hcd:(y == ("__classdict__":Str))=false:=by decide):aJ c (.Name y py) ρ R:=fun σ H Hf Q S q=>by
 obtain ⟨v,ev,fp,rf,nd,hfr⟩:=S.at_ i _ hi.get (by intro z; cases z)
 refine bR (c.lC hN hd hcd) ⟨v,ev,q (.tup ds) v H Hf hR ?_ (.refl S.sb)⟩
 simp only [aN] at rf
 obtain ⟨a,xs,e,h1,h2⟩:=rf
 exact aI.mpr ⟨a,xs,e,h1,au.raw hr h2⟩
end
section
variable {K:ON}
noncomputable def d7 (L:List (Addr×List D)):List Sh:=L.map fun x=>.la x.1 x.2
theorem xr (q1:H q=some (pl q xs)) (q2:Hf q=none) (q3:aq K Hf ds xs):aN K H Hf (.la q ds) (.ref q) [(q,xs)]:=by
 simp only [aN]
 exact ⟨xs,trivial,q1,q2,q3,rfl⟩
theorem au.tag:∀ {dss:List (List D)} {vs:List V} {fp:Fp},au K H Hf (dss.map .l) vs fp→∃ L:List (Addr×List D),L.map (·.2)=dss∧au K H Hf (d7 L) vs fp
 | [],_,_,h=>⟨[],rfl,h⟩
 | ds::dss,_,_,h=>by
  simp only [OS,au] at h
  obtain ⟨x,r,f1,f2,rfl,h1,h2,rfl⟩:=h
  obtain ⟨L,e,h3⟩:=au.tag h2
  simp only [aN] at h1
  obtain ⟨p,xs,rfl,q1,q2,q3,rfl⟩:=h1
  refine ⟨(p,ds)::L,by rw [OS,e],?_⟩
  show au K H Hf (.la p ds::d7 L) _ _
  simp only [au]
  exact ⟨_,r,_,f2,rfl,xr q1 q2 q3,h3,rfl⟩
theorem c9.N9 (S:c9 K H₀ dU σ H Hf ρ) (h:ρ[i]?=some (.fo (.t (dss.map .l)))):∃ L:List (Addr×List D),L.map (·.2)=dss∧c9 K H₀ dU σ H Hf (ρ.set i (.fo (.t (d7 L)))):=by
 obtain ⟨v,ev,fp,rf,nd,hfr⟩:=S.at_ i _ h (by intro z; cases z)
 simp only [aN] at rf
 obtain ⟨a,xs,e,h1,h2⟩:=rf
 obtain ⟨L,eL,h3⟩:=au.tag h2
 refine ⟨L,eL,S.bas,by simp [S.len],fun j r hj hu=>?_,fun j j' r r' q hne h1 h2 o1 o2=>?_⟩
 ·rcases bB hj with ⟨rfl,rfl⟩ | ⟨_,hj⟩
  ·exact ⟨v,ev,fp,by simp only [aN]; exact ⟨a,xs,e,h1,h3⟩,nd,hfr⟩
  ·exact S.at_ j r hj hu
 ·have out:∀ {j:Nat} {r:Sl},(ρ.set i (.fo (.t (d7 L))))[j]?=some r→r.owned=true→ρ[j]?=some r:=fun {j r} hj ho=>by
   rcases bB hj with ⟨_,rfl⟩ | ⟨_,hj⟩
   ·cases ho
   ·exact hj
  exact S.sep j j' r r' q hne (out h1 o1) (out h2 o2) o1 o2
theorem au.G2:∀ {pre post:List Sh} {vs:List V} {fp:Fp},au K H Hf (pre++.la q ds::post) vs fp →
 ∃ (xs:List V) (f1 f2:Fp),fp=f1++(q,xs)::f2∧H q=some (pl q xs)∧Hf q=none∧aq K Hf ds xs∧au K H Hf (pre++.v (.adr q)::post) vs (f1++f2)
 | [],post,_,_,h=>by
  simp only [Q3,au] at h
  obtain ⟨x,r,f1,f2,rfl,h1,h2,rfl⟩:=h
  simp only [aN] at h1
  obtain ⟨xs,rfl,q1,q2,q3,rfl⟩:=h1
  refine ⟨xs,[],f2,rfl,q1,q2,q3,?_⟩
  simp only [Q3,au]
  exact ⟨_,r,[],f2,rfl,by simp only [aN]; exact ⟨fD.mpr rfl,trivial⟩,h2,rfl⟩
 | s::pre,post,_,_,h=>by
  simp only [QC,au] at h
  obtain ⟨x,r,f1,f2,rfl,h1,h2,rfl⟩:=h
  obtain ⟨xs,g1,g2,rfl,q1,q2,q3,q4⟩:=au.G2 h2
  refine ⟨xs,f1++g1,g2,by rw [Pd],q1,q2,q3,?_⟩
  simp only [QC,au]
  exact ⟨x,r,f1,g1++g2,rfl,h1,q4,by rw [Pd]⟩
theorem au.G3 (q1:H q=some (pl q xs)) (q2:Hf q=none) (q3:aq K Hf ds xs):∀ {pre post:List Sh} {vs:List V} {fp:Fp},au K H Hf (pre++.v (.adr q)::post) vs fp →
 ∃ (f1 f2:Fp),fp=f1++f2∧au K H Hf (pre++.la q ds::post) vs (f1++(q,xs)::f2)
 | [],post,_,_,h=>by
  simp only [Q3,au] at h
  obtain ⟨x,r,f1,f2,rfl,h1,h2,rfl⟩:=h
  simp only [aN] at h1
  obtain ⟨h1,rfl⟩:=h1
  rw [fD] at h1
  subst h1
  refine ⟨[],f2,rfl,?_⟩
  simp only [Q3,au]
  exact ⟨_,r,[(q,xs)],f2,rfl,xr q1 q2 q3,h2,rfl⟩
 | s::pre,post,_,_,h=>by
  simp only [QC,au] at h
  obtain ⟨x,r,f1,f2,rfl,h1,h2,rfl⟩:=h
  obtain ⟨g1,g2,rfl,q4⟩:=au.G3 q1 q2 q3 h2
  refine ⟨f1++g1,g2,by rw [Pd],?_⟩
  simp only [QC,au]
  exact ⟨x,r,f1,g1++(q,xs)::g2,rfl,h1,q4,by rw [Pd]⟩
theorem c9.G4 (S:c9 K H₀ dU σ H Hf ρ) (h1:mw ρ i s) (hk:k<ρ.length) (hik:k≠i) (fq:H₀ q=none) (tW:Hf q=none) (hq:∀ (j:Nat) (r:Sl),j≠i→j≠k→ρ[j]?=some r→r.owned=true→σ[j]?≠some (some (.ref q)))
 (v1:r1≠.un→∃ v,σ[i]?=some (some v)∧aZ K (fun p=>H₀ p=none) (L2.upd H q o) Hf r1 v) (v2:r2≠.un→∃ v,σ[k]?=some (some v)∧aZ K (fun p=>H₀ p=none) (L2.upd H q o) Hf r2 v) (n1:r1.owned=false) (n2:r2.owned=true→σ[k]?=some (some (.ref q))) :
 c9 K H₀ dU σ (L2.upd H q o) Hf ((ρ.set i r1).set k r2):=by
 obtain ⟨hi,ho⟩:=h1.at_
 have get:∀ {j:Nat} {r:Sl},((ρ.set i r1).set k r2)[j]?=some r→(j=k∧r=r2)∨(j≠k∧j=i∧r=r1)∨(j≠k∧j≠i∧ρ[j]?=some r):=fun {j r} h=>by
  rcases bB h with ⟨a,b⟩ | ⟨a,h⟩
  ·exact .inl ⟨a,b⟩
  ·rcases bB h with ⟨b,c⟩ | ⟨b,h⟩
   ·exact .inr (.inl ⟨a,b,c⟩)
   ·exact .inr (.inr ⟨a,b,h⟩)
 refine ⟨⟨fun b u e=>by rw [L2.ak (aB e fq)]; exact S.bas.s b u e,S.bas.f,fun b u e=>by rw [L2.ak (aB e tW)]; exact S.bas.b b u e,S.bas.n⟩,by simp [S.len],fun j r hj hu=>?_,fun j j' r r' p hne e1 e2 o1 o2=>?_⟩
 ·rcases get hj with ⟨rfl,rfl⟩ | ⟨_,rfl,rfl⟩ | ⟨a,b,hj⟩
  ·exact v2 hu
  ·exact v1 hu
  ·obtain ⟨v,e1,e2⟩:=S.at_ j r hj hu
   exact ⟨v,e1,aZ.mv (B:=fun z=>z=q) (.refl _) (fun z u hz e1 _ e3=>⟨by rw [L2.ak hz]; exact e1,e3⟩) (fun hf=>by rw [ho b hj] at hf; cases hf) (fun ow z ez e=>by subst e; subst ez; exact hq j r b a hj ow e1) e2⟩
 ·rcases get e1 with ⟨rfl,rfl⟩ | ⟨_,rfl,rfl⟩ | ⟨a,b,f1⟩
  ·intro s1 s2
   rw [n2 o1] at s1; cases s1
   rcases get e2 with ⟨rfl,rfl⟩ | ⟨_,rfl,rfl⟩ | ⟨a2,b2,f2⟩
   ·exact hne rfl
   ·rw [n1] at o2; cases o2
   ·exact hq j' r' b2 a2 f2 o2 s2
  ·rw [n1] at o1; cases o1
  ·rcases get e2 with ⟨rfl,rfl⟩ | ⟨_,rfl,rfl⟩ | ⟨a2,b2,f2⟩
   ·intro s1 s2
    rw [n2 o2] at s2; cases s2
    exact hq j r b a f1 o1 s1
   ·rw [n1] at o2; cases o2
   ·exact S.sep j j' r r' p hne f1 f2 o1 o2
end
section
variable {K:ON} {st:Stmt}
theorem JA (i) (hi:At ρ i (.fo (.t (dss.map .l)))) (h:∀ L:List (Addr×List D),L.map (·.2)=dss→eV c st (ρ.set i (.fo (.t (d7 L)))) nx p):eV c st ρ nx p:=fun σ H Hf D S o=>by
 obtain ⟨L,e,S1⟩:=S.N9 hi.get
 exact h L e σ H Hf D S1 o
theorem Ce (i j) (h1:mw ρ i (.t (pre++.la q ds::post))) (hj:At ρ j (.va (.adr q))) (h:aS c sts ((ρ.set i (.fo (.t (pre++.v (.adr q)::post)))).set j (.aw q ds)) nx p) (hij:j≠i):aS c sts ρ nx p:=fun σ H Hf D S o aa s I=>by
 obtain ⟨v,ev,fp,rf,nd,hfr⟩:=S.at_ i _ h1.at_.1 (by intro z; cases z)
 obtain ⟨vj,evj,rj⟩:=S.va hj.get
 rw [fD] at rj
 subst rj
 simp only [aN] at rf
 obtain ⟨a,vs,e,t1,t2⟩:=rf
 obtain ⟨xs,f1,f2,rfl,q1,q2,q3,q4⟩:=au.G2 t2
 have fq:c.B q=none:=hfr (q,xs) (by simp)
 have nq:q∉(f1++f2).map (·.1):=fun m=>by
  rw [Pq,OS,Tz,Qn] at nd
  rw [Pq,Pg] at m
  rcases m with m | m
  ·exact nd.2.2 q m q O1 rfl
  ·exact nd.2.1.1 m
 have I1:=Cc I q1
 refine h σ _ Hf D (S.G4 h1 (OZ.mp hj.get).1 hij fq q2 (fun j' r a b hj' ow e=>?_) (fun _=>⟨v,ev,f1++f2,?_,?_,?_⟩) (fun _=>⟨_,evj,q,xs,rfl,⟨fq,rfl⟩,ai,q2,q3⟩) rfl fun _=>evj) o aa s I1
 ·obtain ⟨v',e',r'⟩:=S.at_ j' r hj' (by rintro rfl; cases ow)
  rw [e] at e'; cases e'
  obtain ⟨_,_,e2,_,_,_,nf⟩:=r'.wc ow
  cases e2
  exact nf ⟨xs,q1⟩
 ·simp only [aN]
  exact ⟨a,vs,e,t1,au.mv (.refl _) _ (fun z hz e1 e2=>⟨by rw [ak fun e=>nq (by rw [← e]; exact Pa.mpr ⟨z,hz,rfl⟩)]; exact e1,e2⟩) q4⟩
 ·rw [Pq] at nd ⊢
  exact nd.sublist (List.Sublist.append (List.Sublist.refl _) (by rw [OS]; exact List.sublist_cons_self _ _))
 ·intro z hz
  exact hfr z (by rcases Pg.mp hz with h | h; exact Rl _ h; exact Qg _ (O2 _ h))
theorem Cf (i j) (h1:mw ρ i (.t (pre++.v (.adr q)::post))) (hj:At ρ j (.aw q ds)) (h:aS c sts ((ρ.set i (.fo (.t (pre++.la q ds::post)))).set j .un) nx p) (hij:j≠i):aS c sts ρ nx p:=fun σ H Hf D S o aa s I=>by
 obtain ⟨v,ev,fp,rf,nd,hfr⟩:=S.at_ i _ h1.at_.1 (by intro z; cases z)
 obtain ⟨vj,evj,rj⟩:=S.at_ j _ hj.get (by intro z; cases z)
 obtain ⟨q',xs,rfl,⟨fq,rfl⟩,q1,q2,q3⟩:=rj
 have hz:=aN.fz _ rf
 simp only [aN] at rf
 obtain ⟨a,vs,e,t1,t2⟩:=rf
 have nq:q'∉fp.map (·.1):=fun m=>by
  obtain ⟨z,hm,rfl⟩:=cK m
  have:=(hz z hm).1
  rw [q1] at this; cases this
 have t3:=au.mv (H':=upd H q' (pl q' xs)) (.refl _) _ (fun z hz e1 e2=>⟨by rw [ak fun e=>nq (by rw [← e]; exact Pa.mpr ⟨z,hz,rfl⟩)]; exact e1,e2⟩) t2
 obtain ⟨f1,f2,rfl,t4⟩:=au.G3 ai q2 q3 t3
 have I1:=uT I q1
 refine h σ _ Hf D (S.G4 h1 (OZ.mp hj.get).1 hij fq q2 (fun j' r a b hj' ow e=>?_) (fun _=>⟨v,ev,f1++(q',xs)::f2,?_,?_,?_⟩) (fun z=>absurd rfl z) rfl fun z=>by cases z) o aa s I1
 ·exact S.sep j' j r _ q' b hj' hj.get ow rfl e evj
 ·simp only [aN]
  exact ⟨a,vs,e,t1,t4⟩
 ·rw [Pq,OS]
  rw [Pq] at nd nq
  rw [Tz] at nd ⊢
  rw [Pg,not_or] at nq
  refine ⟨nd.1,Qn.mpr ⟨nq.2,nd.2.1⟩,fun a ha b hb e=>?_⟩
  rcases O5.mp hb with rfl | hb
  ·subst e; exact nq.1 ha
  ·exact nd.2.2 a ha b hb e
 ·intro z hz
  rcases Pg.mp hz with h | h
  ·exact hfr z (Rl _ h)
  ·rcases O5.mp h with rfl | h
   ·exact fq
   ·exact hfr z (Qg _ h)
end
end EV
namespace EV
open PySem PySem.Spec PyProof.Rows L2
noncomputable def sI (t:aG):aG:=(t.1,-t.2)
theorem FT (h:trim m=m) (hn:m≠[]):bU m (m.length - 1)≠0:=by
 rcases List.eq_nil_or_concat m with rfl | ⟨l,x,rfl⟩
 ·exact absurd rfl hn
 ·rw [List.concat_eq_append] at h ⊢
  intro z
  have e:bU (l++[x]) ((l++[x]).length - 1)=x:=by
   rw [dN (by simp)]; simp
  rw [e] at z; subst z
  rw [ie] at h
  have:=gB l
  rw [h,Py,RK] at this
  lia
theorem yV (hl:trim l=l) (hm:trim m=m) (h:∀ i,bU l i=bU m i):l=m:=by
 have key:∀ {l m:List Int},trim m=m→(∀ i,bU l i=bU m i)→m.length≤l.length:=fun {l m} hm h=>by
  rcases Nat.lt_or_ge l.length m.length with z | z
  ·have hn:m≠[]:=by rintro rfl; simp at z
   have:=FT hm hn
   rw [← h,cY (by lia)] at this
   exact absurd rfl this
  ·exact z
 have e:l.length=m.length:=Nat.le_antisymm (key hl fun i=>(h i).symm) (key hm h)
 refine TN e fun i h1 h2=>?_
 have:=h i
 rwa [dN h1,dN h2] at this
theorem gF (h:∀ i,bU p i=bU q i):trim p=trim q:=yV (cu p) (cu q) fun i=>by rw [eB,eB,h]
theorem yW (a b):trim (cD (trim a) (trim b))=trim (cD a b):=gF fun i=>by rw [bY,bY,eB,eB]
theorem uU (a b):trim (cD (trim a) b)=trim (cD a b):=gF fun i=>by rw [bY,bY,eB]
theorem uV (a b):trim (cD a (trim b))=trim (cD a b):=gF fun i=>by rw [bY,bY,eB]
theorem yX (a b):cD a b=cD b a:=by
 unfold cD; rw [Nat.max_comm]; exact QN fun k _=>Ud _ _
theorem mz (a):trim (cD [] a)=trim a:=gF fun i=>by rw [bY,cY (Pn _),SG]
theorem uW (a b c):trim (cD (cD a b) c)=trim (cD a (cD b c)):=gF fun i=>by
 rw [bY,bY,bY,bY,Int.add_assoc]
noncomputable def ev (g:List Int→Int):List aG→Int
 | []=>0
 | t::A=>t.2 * g (trim t.1)+ev g A
theorem bg (g) (t) (A):ev g (t::A)=t.2 * g (trim t.1)+ev g A:=rfl
theorem bZ (g) (B):∀ A,ev g (A++B)=ev g A+ev g B
 | []=>by simp [ev]
 | t::A=>by rw [QC,bg,bg,bZ g B A]; lia
theorem jU (g):∀ A:List aG,ev g (A.map sI)= - ev g A
 | []=>rfl
 | t::A=>by
  rw [OS,bg,bg,jU g A]
  show -t.2 * g (trim t.1)+_=_
  rw [Int.neg_mul]; lia
theorem Cg (g) (l):∀ B:List aG,ev g (B.map (dO l))=l.2 * ev (fun q=>g (trim (cD (trim l.1) q))) B
 | []=>by simp [ev]
 | r::B=>by
  rw [OS,bg,bg,Cg g l B]
  show l.2 * r.2 * g (trim (cD l.1 r.1))+_=_
  rw [Int.mul_add,yW,Sy]
theorem bQ (g) (B):∀ A:List aG,ev g (aM A B)=ev (fun p=>ev (fun q=>g (trim (cD p q))) B) A
 | []=>rfl
 | l::A=>by
  show ev g (B.map (dO l)++aM A B)=_
  rw [bZ,Cg,bQ g B A]; rfl
theorem gG (e:∀ p,trim p=p→g p=h p):∀ A,ev g A=ev h A
 | []=>rfl
 | t::A=>by rw [bg,bg,e _ (cu _),gG e A]
theorem Ci (g h):∀ A,ev (fun p=>g p+h p) A=ev g A+ev h A
 | []=>rfl
 | t::A=>by rw [bg,bg,bg,Ci g h A,Int.mul_add]; lia
theorem G5 (c) (g):∀ A,ev (fun p=>c * g p) A=c * ev g A
 | []=>by simp [ev]
 | t::A=>by rw [bg,bg,G5 c g A,Int.mul_add,Int.mul_left_comm]
theorem xu:∀ A,ev (fun _=>0) A=0
 | []=>rfl
 | t::A=>by rw [bg,xu A]; simp
theorem xw (f:List Int→List Int→Int) (B):∀ A,ev (fun p=>ev (fun q=>f p q) B) A=ev (fun q=>ev (fun p=>f p q) A) B
 | []=>by show 0=ev (fun _=>0) B; rw [xu]
 | t::A=>by
  show t.2 * ev (fun q=>f (trim t.1) q) B+ev _ A=ev (fun q=>t.2 * f (trim t.1) q+ev (fun p=>f p q) A) B
  rw [Ci,G5,xw f B A]
noncomputable def eqv (A B:List aG):Prop:=∀ g,ev g A=ev g B
theorem eqv.rf (A):eqv A A:=fun _=>rfl
theorem eqv.app (h:eqv A A') (k:eqv B B'):eqv (A++B) (A'++B'):=fun g=>by rw [bZ,bZ,h g,k g]
theorem eqv.neg (h:eqv A B):eqv (A.map sI) (B.map sI):=fun g=>by rw [jU,jU,h g]
theorem eqv.prod (h:eqv A A') (k:eqv B B'):eqv (aM A B) (aM A' B'):=fun g=>by
 rw [bQ,bQ,h]; exact gG (fun p _=>k _) _
instance trmSetoid:Setoid (List aG):=⟨eqv,⟨eqv.rf,fun h g=>(h g).symm,fun h k g=>(h g).trans (k g)⟩⟩
noncomputable def MP:Type:=Quotient trmSetoid
noncomputable def mp (A:List aG):MP:=Quotient.mk trmSetoid A
theorem eE:mp A=mp B↔eqv A B:=⟨fun h=>Quotient.exact h,fun h=>TZ h⟩
noncomputable def cT (n:Int):List aG:=[([],n)]
theorem kr (g) (n):ev g (cT n)=n * g []:=by show n * g (trim [])+0=_; rw [Uc]; rfl
noncomputable instance:Add MP:=⟨Quotient.lift₂ (fun A B=>mp (A++B)) fun _ _ _ _ h k=>TZ (eqv.app h k)⟩
noncomputable instance:Mul MP:=⟨Quotient.lift₂ (fun A B=>mp (aM A B)) fun _ _ _ _ h k=>TZ (eqv.prod h k)⟩
noncomputable instance:Neg MP:=⟨Quotient.lift (fun A=>mp (A.map sI)) fun _ _ h=>TZ (eqv.neg h)⟩
noncomputable instance:Sub MP:=⟨fun a b=>a+ -b⟩
noncomputable instance:NatCast MP:=⟨fun n=>mp (cT n)⟩
noncomputable instance:IntCast MP:=⟨fun n=>mp (cT n)⟩
noncomputable instance (n:Nat):OfNat MP n:=⟨mp (cT n)⟩
noncomputable instance:SMul Nat MP:=⟨fun n a=>(n:MP) * a⟩
noncomputable instance:SMul Int MP:=⟨fun n a=>(n:MP) * a⟩
noncomputable def MP.pow (a:MP):Nat→MP
 | 0=>1
 | n+1=>MP.pow a n * a
noncomputable instance:HPow MP Nat MP:=⟨MP.pow⟩
theorem jV (A B):mp (A++B)=mp A+mp B:=rfl
theorem uX (A B):mp (aM A B)=mp A * mp B:=rfl
theorem JB (A):mp (A.map sI)= -mp A:=rfl
theorem p5 (n):mp (cT n)=(n:MP):=rfl
theorem qv {P:MP→Prop} (h:∀ A,P (mp A)) (a:MP):P a:=Quotient.inductionOn a h
theorem JC (g) (A):ev g (aM (cT 1) A)=ev g A:=by
 rw [bQ,kr,Ui]
 exact gG (fun p hp=>by rw [mz,hp]) _
theorem mulC:∀ a b:MP,a * b=b * a:=qv fun A=>qv fun B=>eE.mpr fun g=>by
 rw [bQ,bQ,xw]
 exact gG (fun q _=>gG (fun p _=>by rw [yX]) _) _
theorem Me:∀ a:MP,1 * a=a:=qv fun A=>eE.mpr fun g=>JC g A
theorem Oa:∀ a b:MP,a+b=b+a:=qv fun A=>qv fun B=>eE.mpr fun g=>by rw [bZ,bZ,Ud]
theorem G6:∀ a b c:MP,(a+b) * c=a * c+b * c:=qv fun A=>qv fun B=>qv fun C=>eE.mpr fun g=>by rw [bQ,bZ,bZ,bQ,bQ]
theorem G7:∀ a:MP,0 * a=0:=qv fun A=>eE.mpr fun g=>by
 rw [bQ,kr,kr]; show 0 * _=0 * _; rw [Rv,Rv]
noncomputable instance:Lean.Grind.CommRing MP where
 add_zero:=qv fun A=>eE.mpr fun g=>by rw [bZ,kr]; show _+0 * _=_; rw [Rv,Uc]
 add_comm:=Oa
 add_assoc:=qv fun A=>qv fun B=>qv fun C=>eE.mpr fun g=>by rw [bZ,bZ,bZ,bZ,Int.add_assoc]
 mul_assoc:=qv fun A=>qv fun B=>qv fun C=>eE.mpr fun g=>by
  rw [bQ,bQ,bQ]
  refine gG (fun p _=>?_) _
  rw [bQ]
  refine gG (fun q _=>gG (fun r _=>?_) _) _
  rw [uU,uV,uW]
 mul_one:=fun a=>by rw [mulC,Me]
 one_mul:=Me
 left_distrib:=fun a b c=>by rw [mulC,G6,mulC b,mulC c]
 right_distrib:=G6
 zero_mul:=G7
 mul_zero:=fun a=>by rw [mulC,G7]
 pow_zero:=fun _=>rfl
 pow_succ:=fun _ _=>rfl
 ofNat_succ:=fun n=>eE.mpr fun g=>by
  show ev g (cT ((n+1:Nat):Int))=ev g (cT (n:Int)++cT ((1:Nat):Int))
  rw [bZ,kr,kr,kr,Int.natCast_add,Ry]
 ofNat_eq_natCast:=fun _=>rfl
 nsmul_eq_natCast_mul:=fun _ _=>rfl
 neg_add_cancel:=qv fun A=>eE.mpr fun g=>by
  rw [bZ,jU,kr]; show _=0 * _; rw [Rv]; lia
 sub_eq_add_neg:=fun _ _=>rfl
 neg_zsmul:=fun i=>qv fun A=>eE.mpr fun g=>by
  show ev g (aM (cT (-i)) A)=ev g ((aM (cT i) A).map sI)
  rw [jU,bQ,bQ,kr,kr,Int.neg_mul]
 zsmul_natCast_eq_nsmul:=fun _ _=>rfl
 intCast_ofNat:=fun _=>rfl
 intCast_neg:=fun i=>eE.mpr fun g=>by
  show ev g (cT (-i))=ev g ((cT i).map sI)
  rw [jU,kr,kr,Int.neg_mul]
 mul_comm:=mulC
theorem Cj {A:List aG} {p q:List Int} {n:Int}:(bD (putD A p n) q).getD 0=if q=p then n else (bD A q).getD 0:=by
 unfold putD
 split
 ·rename_i h
  induction A with
  | nil=>simp [bD] at h
  | cons t A ih =>
   rw [OS]
   by_cases e:t.1=p
   ·rw [if_pos e]
    by_cases z:q=p
    ·rw [if_pos z,br (by rw [e,z])]; rfl
    ·rw [if_neg z,aU (by rw [e]; exact fun w=>z w.symm),aU (by rw [e]; exact fun w=>z w.symm)]
     clear ih h
     induction A with
     | nil=>rfl
     | cons u A ih =>
      rw [OS]
      by_cases w:u.1=q
      ·rw [if_neg (by rw [w]; exact z),br w,br w]
      ·rw [aU w,← ih,aU (by split <;> exact w)]
   ·rw [if_neg e]
    have h':(bD A p).isSome=true:=by rw [aU e] at h; exact h
    by_cases z:t.1=q
    ·rw [br z,br z,if_neg (by rw [← z]; exact e)]
    ·rw [aU z,aU z,ih h']
 ·rename_i h
  induction A with
  | nil =>
   rw [Q3]
   by_cases z:q=p
   ·rw [if_pos z,br z.symm]; rfl
   ·rw [if_neg z,aU fun w=>z w.symm]
  | cons t A ih =>
   have h0:¬ t.1=p:=fun e=>h (by rw [br e]; rfl)
   rw [QC]
   by_cases z:t.1=q
   ·rw [br z,br z,if_neg (by rw [← z]; exact h0)]
   ·rw [aU z,aU z,ih (by rw [aU h0] at h; exact h)]
noncomputable def cf (p:List Int) (A:List aG):Int:=ev (fun q=>if q=p then 1 else 0) A
theorem Ck (p):∀ ts:List aG,(bD (aL ts) p).getD 0=cf p ts:=by
 intro ts
 suffices H:∀ (ts A:List aG),(bD (ts.foldl fS A) p).getD 0=(bD A p).getD 0+cf p ts by
  have:=H ts []
  rw [show (bD ([]:List aG) p).getD 0=0 from rfl,SG] at this
  exact this
 intro ts
 induction ts with
 | nil=>intro A; show _=_+0; rw [Uc]; rfl
 | cons t ts ih =>
  intro A
  rw [Qo,ih]
  unfold fS
  rw [Cj]
  show _=_+(t.2 * (if trim t.1=p then 1 else 0)+cf p ts)
  by_cases z:p=trim t.1
  ·rw [if_pos z,if_pos z.symm,z]; lia
  ·rw [if_neg z,if_neg fun w=>z w.symm]; lia
theorem Cm:t∈nz (aL ts)↔trim t.1=t.1∧t.2≠0∧t.2=cf t.1 ts:=by
 have hk:=d9 ts
 constructor
 ·intro h
  unfold nz at h
  rw [Sq] at h
  refine ⟨?_,by simpa using h.2,?_⟩
  ·have bd:∃ n,∀ t∈ts,t.1.length≤n:=by
    clear h hk
    induction ts with
    | nil=>exact ⟨0,fun t h=>by cases h⟩
    | cons u ts ih =>
     obtain ⟨n,hn⟩:=ih
     refine ⟨max n u.1.length,fun t ht=>?_⟩
     rcases O5.mp ht with rfl | ht
     ·lia
     ·have:=hn t ht; lia
   obtain ⟨n,hn⟩:=bd
   exact (jq hn t h.1).1
  ·rw [← Ck,pW hk h.1]; rfl
 ·rintro ⟨h1,h2,h3⟩
  unfold nz
  rw [Sq]
  refine ⟨?_,by simpa using h2⟩
  rw [← Ck] at h3
  cases e:bD (aL ts) t.1 with
  | none=>rw [e] at h3; exact absurd h3 h2
  | some n =>
   rw [e] at h3
   have h3':t.2=n:=h3
   unfold bD at e
   obtain ⟨u,hu,e2⟩:=O4.mp e
   have m:=List.mem_of_find?_eq_some hu
   have z:u.1=t.1:=by simpa using List.find?_some hu
   have:u=t:=Prod.ext z (by rw [e2,h3'])
   rw [← this]; exact m
theorem sJ {L M:List aG} (h1:L.Nodup) (h2:M.Nodup) (h:∀ t,t∈L↔t∈M):L.Perm M:=(List.perm_ext_iff_of_nodup h1 h2).mpr h
theorem Cn (h:eqv A B):aW A=aW B:=by
 have nA:=keys_nodup (wW (d9 A))
 have nB:=keys_nodup (wW (d9 B))
 have hp:(nz (aL A)).Perm (nz (aL B)):=sJ nA nB fun t=>by rw [Cm,Cm]; unfold cf; rw [h]
 exact BG nB ((bF _).trans hp) (ir nA)
theorem dw (h:mp A=mp B):aW A=aW B:=Cn (eE.mp h)
theorem JD (g) (hp:trim p=p) (n) (hk:(A.map (·.1)).Nodup) (ht:∀ t∈A,trim t.1=t.1):ev g (putD A p n)=ev g A+(n - (bD A p).getD 0) * g p:=by
 unfold putD
 split
 ·rename_i h
  induction A with
  | nil=>simp [bD] at h
  | cons t A ih =>
   rw [OS]
   rw [OS,Qn] at hk
   by_cases e:t.1=p
   ·rw [if_pos e]
    have same:A.map (fun kv:aG=>if kv.1=p then (kv.1,n) else kv)=A:=by
     refine (QN fun u hu=>?_).trans (List.map_id A)
     rw [if_neg fun z=>hk.1 (by rw [e,← z]; exact Pa.mpr ⟨u,hu,rfl⟩)]; rfl
    rw [same,br e]
    rw [bg,bg]
    show n * g (trim t.1)+_=_+(n - t.2) * _
    rw [ht t O1,e,Int.sub_mul]; lia
   ·rw [if_neg e]
    rw [bg,bg,ih hk.2 (fun u hu=>ht u (O2 _ hu)) (by rw [aU e] at h; exact h),aU e]; lia
 ·rename_i h
  have e:bD A p=none:=by
   cases e:bD A p with
   | none=>rfl
   | some n=>rw [e] at h; exact absurd rfl h
  rw [bZ,e]
  show _+(n * g (trim p)+0)=_+(n - 0) * _
  rw [hp,Int.sub_zero,Uc]
theorem xx (ts):eqv (aL ts) ts:=by
 suffices H:∀ (ts A:List aG),(A.map (·.1)).Nodup→(∀ t∈A,trim t.1=t.1)→eqv (ts.foldl fS A) (A++ts) from H ts [] (by simp) (by simp)
 intro ts
 induction ts with
 | nil=>intro A _ _ g; simp
 | cons t ts ih =>
  intro A hk ht g
  have ih':ev g (ts.foldl fS (fS A t))=ev g (fS A t++ts):=ih _ (rV _ _ hk) (fun u hu=>by
   rcases pR hu with e | e
   ·rw [e,cu]
   ·exact ht u e) g
  rw [Qo,ih',bZ,bZ]
  unfold fS
  rw [JD g (cu _) _ hk ht]
  show _=_+(t.2 * g (trim t.1)+ev g ts)
  rw [Int.sub_mul,Ry]; lia
theorem FU (g) (h:A.Perm B):ev g A=ev g B:=by
 induction h with
 | nil=>rfl
 | cons x _ ih=>rw [bg,bg,ih]
 | swap x y l=>rw [bg,bg,bg,bg]; lia
 | trans _ _ a b=>rw [a,b]
theorem Co (g):∀ A:List aG,ev g (nz A)=ev g A
 | []=>rfl
 | t::A=>by
  unfold nz
  by_cases h:t.2=0
  ·rw [Sa (by simp [h])]
   show ev g (nz A)=t.2 * _+_
   rw [Co g A,h,Rv,SG]
  ·rw [Ri (by simp [h])]
   show _+ev g (nz A)=_
   rw [Co g A]; rfl
theorem Cp (ts):eqv (aW ts) ts:=fun g=>by
 show ev g (fJ (nz (aL ts)))=_
 rw [FU g (bF _),Co,xx ts g]
theorem xy (A):mp (aW A)=mp A:=eE.mpr (Cp A)
theorem JE (A):mp (aL A)=mp A:=eE.mpr (xx A)
noncomputable def stp {α:Type} (xs:List α) (lo hi st:Option Int):List α:=(sliceRange (sliceBounds lo hi st xs.length).1 (sliceBounds lo hi st xs.length).2.1 (sliceBounds lo hi st xs.length).2.2).filterMap (xs[·]?)
theorem yY (h:Vals xs its):∀ ns:List Nat,Vals (ns.filterMap (xs[·]?)) (ns.filterMap (its[·]?)):=by
 intro ns
 induction ns with
 | nil=>exact .nil
 | cons n ns ih =>
  rw [Qm,Qm]
  by_cases z:n<xs.length
  ·obtain ⟨u,e,hu⟩:=h.get (Pc z)
   rw [Pc z,e]
   exact .cons hu ih
  ·rw [QA (by lia),QA (by rw [← h.length]; lia)]
   exact ih
theorem yZ {K:ON} (h:aq K H ds xs):∀ ns:List Nat,aq K H (ns.filterMap (ds[·]?)) (ns.filterMap (xs[·]?)):=by
 intro ns
 induction ns with
 | nil=>exact aA.mpr rfl
 | cons n ns ih =>
  rw [Qm,Qm]
  by_cases z:n<ds.length
  ·obtain ⟨u,e,hu⟩:=h.get (Pc z)
   rw [Pc z,e]
   exact aD.mpr ⟨_,_,rfl,hu,ih⟩
  ·rw [QA (by lia),QA (by rw [← h.length]; lia)]
   exact ih
section
end
section
variable {K:ON}
end
end EV
namespace EV
open PySem PySem.Spec PySem.Calls PyProof.Rows L2
structure Drw (prog:Program) (w:World) (L:List Addr) (i:Addr) (N N':Heap→Prop) (x:Value):Prop where
 keep:∀ {b:Addr} {h h':Heap},b∈L→Rb b h h'→N h→N h'
 keep':∀ {b:Addr} {h h':Heap},b∈L→Rb b h h'→N' h→N' h'
 run:∀ {A:Around} {E Q:Value→Shared→Prop} {s:Shared},N s.heap→(∀ h',N' h'→QG i s.heap h'→Q x { s with heap:=h' })→wpAny (model prog w) A (RI (.ref i)) Q E s
structure Dry (prog:Program) (w:World) (L:List Addr) (i:Addr) (N:Heap→Prop):Prop where
 keep:∀ {b:Addr} {h h':Heap},b∈L→Rb b h h'→N h→N h'
 run:∀ {A:Around} {E Q:Value→Shared→Prop} {s:Shared},A.handled=none→N s.heap→(∀ h' e,Rb i s.heap h'→(∃ o,h'.get? e=some o∧o.cls=.type "StopIteration")→E (.ref e) { s with heap:=h' })→wpAny (model prog w) A (RI (.ref i)) Q E s
structure OI (z TI TO i1 i2:Addr):Prop where
 a:TI≠z
 b:TO≠z
 c:i1≠z
 d:i2≠z
 e:TI≠TO
 f:TI≠i1
 g:TI≠i2
 h:TO≠i1
 i:TO≠i2
 j:i1≠i2
section
end
end EV
namespace EV
open PySem PySem.Spec PyProof.Rows L2
section
theorem FW (nd:(fp.map (·.1)).Nodup) (hn:∀ a∈fp,aQ a.1=none) (fr:∀ a∈fp,H a.1=none) (g:bu H Hf H1 aQ):bu H Hf (iA Ca fp H1) (iA Ca fp aQ):=by
 have o1:∀ {b:Addr} {o:HO},H b=some o→b∉fp.map (·.1):=fun e m=>by obtain ⟨p,hp,rfl⟩:=cK m; rw [fr p hp] at e; cases e
 refine ⟨fun b o e=>?_,fun b o e=>?_,fun b o e=>?_,fun b h1 h2 h3=>?_⟩
 ·rw [aX (o1 e)]; exact g.s b o e
 ·have e1:=g.f b o e
  rw [aX fun m=>by obtain ⟨p,hp,rfl⟩:=cK m; rw [hn p hp] at e1; cases e1]; exact e1
 ·by_cases m:b∈fp.map (·.1)
  ·obtain ⟨p,hp,rfl⟩:=cK m
   rw [fT nd p hp] at e ⊢; exact e
  ·rw [aX m] at e ⊢; exact g.b b o e
 ·rw [aX fun m=>by obtain ⟨p,hp,rfl⟩:=cK m; exact h2 (fr p hp)]; exact g.n b h1 h2 h3
end
section
variable {K:ON}
theorem Cq (h:dD c e ρ fun r=>∃ s,r=.fo s∧R s.d):aJ c e ρ R:=fun σ H Hf Q S q aa s I=>by
 refine bJ (h σ H Hf (fun v H'=>∃ (sh:Sh) (fp:Fp) (aj:Hp),aN c.X.K H' aj sh v fp∧(fp.map (·.1)).Nodup∧(∀ a∈fp,H a.1=none)∧bu H Hf H' aj∧R sh.d) S (fun r v H' aj ⟨sh,e,hR⟩ rs g=>by subst e; obtain ⟨fp,r1,r2,r3⟩:=rs; exact ⟨sh,fp,aj,r1,r2,r3,g,hR⟩) aa s I) fun u s1 hh=>z2 hh fun v H1 hh=>w3 hh fun I1 rv hh=>z3 hh fun sh fp aQ hh=>w5 hh fun rf nd fr g hR=>?_
 have hz:=aN.fz sh rf
 exact ⟨v,_,mq I1 nd fun a ha=>(hz a ha).1,rv,q sh.d v _ (iA Ca fp aQ) hR (aN.rep (fun b o e=>by rw [aX fun m=>by obtain ⟨p,hp,rfl⟩:=cK m; rw [(hz p hp).2] at e; cases e]; exact e) sh (fun a ha=>fT nd a ha) rf) (FW nd (fun a ha=>(hz a ha).2) fr g)⟩
end
end EV
namespace EV
open PySem PySem.Spec PySem.Calls PyProof.Rows L2
structure ZS (K:ON) where
 sq:Hp→Addr→List V→Prop
 it:Heap→Addr→Addr→Nat→Prop
 us:Heap→Addr→Array Value→Prop
 dm:List D→D
 cl:String
 rep:∀ {H:Hp} {ds:List D} {v:V},Rep K H (dm ds) v↔∃ a xs,v=.ref a∧sq H a xs∧aq K H ds xs
 same:∀ {H H':Hp} {a:Addr} {xs:List V},aH H H'→sq H a xs→sq H' a xs
 ini:∀ {h:Heap} {i l:Addr},h.get? i=some { cls:=.type cl,data:=.fields #[.ref l,.int 0 0] }→it h i l 0
 get:∀ {X:Cx} {aa:List (Addr×Obj)} {σ:L2.St} {H:Hp} {s:Shared} {l:Addr} {xs:List V},X.K=K→Inv X aa σ H s→sq H l xs→∃ its,Vals xs its∧us s.heap l its.toArray
 inj:∀ {X:Cx} {aa:List (Addr×Obj)} {σ:L2.St} {H:Hp} {s:Shared} {l:Addr} {xs ys:List V},X.K=K→Inv X aa σ H s→sq H l xs→sq H l ys→xs=ys
 ito:∀ {h:Heap} {i l:Addr} {k:Nat},it h i l k→∃ o,h.get? i=some o∧∀ v,o.data≠.cell v
 itk:∀ {h h':Heap} {i l:Addr} {k:Nat},(∀ o,h.get? i=some o→h'.get? i=some o)→it h i l k→it h' i l k
 usk:∀ {h h':Heap} {l:Addr} {a:Array Value},(∀ o,h.get? l=some o→h'.get? l=some o)→us h l a→us h' l a
 uso:∀ {h:Heap} {l:Addr} {a:Array Value},us h l a→∃ o,h.get? l=some o
 run:∀ {prog:Program} {w:World} {i l:Addr} {a:Array Value} {k:Nat} {x:Value} {A:Around} {E Q:Value→Shared→Prop} {s:Shared},l≠i→a[k]?=some x→it s.heap i l k→us s.heap l a→(∀ h',it h' i l (k+1)→QG i s.heap h'→Q x { s with heap:=h' })→wpAny (model prog w) A (RI (.ref i)) Q E s
 dry:∀ {prog:Program} {w:World} {i l:Addr} {a:Array Value} {k:Nat} {A:Around} {E Q:Value→Shared→Prop} {s:Shared},A.handled=none→a[k]?=none→it s.heap i l k→us s.heap l a→(∀ h' e,Rb i s.heap h'→(∃ o,h'.get? e=some o∧o.cls=.type "StopIteration")→E (.ref e) { s with heap:=h' })→wpAny (model prog w) A (RI (.ref i)) Q E s
section
variable {K:ON}
end
section
variable (c d:String)
end
section
variable {K:ON}
end
section
variable {K:ON}
end
end EV
namespace EV
open PySem PySem.Spec PyProof.Rows L2
theorem FY {K:ON} {st:Stmt} (m:mg x=some (.ref f)) (Fu:fu K x x st f fd) (h:bx P w K mg base (dH P w) k f fd ps (KO K ok))
 (hb:∀ (kV doc pm:Value) (an:Option Addr) (cdv ct:Value) (us:List Value),us.length=ps.length→bindArgs (QJ x x (eU st) (ay st) (ah st) .none kV doc pm an cdv ct) ⟨us,[]⟩=pure (ps.zip us)):FQ P w K mg base k x ok :=
 ⟨f,fd,ps,m,Fu.kp,Fu.binds hb,h⟩
end EV
namespace EV
open PySem PySem.Spec PySem.Calls PyProof.Rows L2
noncomputable abbrev gH (l:List Int):D:=.tup (l.map .int)
section
variable {X:Cx}
theorem kP (I:Inv X aa σ H s) (sb:aH Hf H) (h:ko X.K Hf (gH l) u):∃ b its,u=.ref b∧IsTup s.heap b its∧IntsAre its.toList l:=by
 obtain ⟨v,rv,q⟩:=h
 obtain ⟨b,ys,rfl,h3,h4⟩:=aI.mp q
 cases rv
 obtain ⟨its2,rel2,tu2,_⟩:=I.tuple (av sb h3)
 have e:=jn h4
 subst e
 exact ⟨b,its2.toArray,rfl,tu2,intsAre_of rel2⟩
theorem Cr (h:gH x=gH y):x=y:=by
 simp only [gH,D.tup.injEq] at h
 exact (List.map_inj_right (f:=D.int) (fun a b e=>by injection e)).mp h
theorem Cs (I:Inv X aa σ H s) (sb:aH Hf H) (h1:ko X.K Hf (gH x) u) (h2:ko X.K Hf (gH y) u):x=y:=by
 obtain ⟨v,r1,q1⟩:=h1
 obtain ⟨v',r2,q2⟩:=h2
 have:=r1.inj r2
 subst this
 exact Cr (pe I sb 1 _ _ _ (BA x y) q1 q2)
theorem FZ (L):SR.GW HT.lexLt L:=⟨fun _ _=>kM _,fun _ _ _ _ _ _ h g=>uK h g,fun _ _ _ _ h=>kN h⟩
noncomputable def Ct (L:List (List Int)):SortKind:=open Classical in if ∀ l∈L,l≠[] then tuples' true else if L.head?=some [] then oneType' else general'
theorem F0 (b) (h:Q (decide (m<n)) s):wpAny (model X.prog X.w) A (oneLt' b (.int m t) (.int n u)) Q E s:=by
 cases b with
 | true=>exact oneLt_int h
 | false =>
  rw [oneLt'_eq,if_neg O0]
  exact OM (lt_int (OO h))
theorem xA:∀ {vs ws:List Value} {x y:List Int} (i:Nat),IntsAre vs x→IntsAre ws y→x.length+n=y.length+m→Q (HT.lexLt x y) s→PySem.W.KatLex X.prog X.w A b (decide (m<n)) Q (vs.zip ws) i s
 | _,_,_,_,i,.nil,.nil,e,h=>PySem.W.kat_nil (by rw [HT.iD] at h; rw [decide_eq_false (by simp at e; lia)]; exact h)
 | _,_,_,_,i,.nil,.cons c u hw,e,h=>PySem.W.kat_nil (by rw [HT.gm] at h; rw [decide_eq_true (by simp at e; lia)]; exact h)
 | _,_,_,_,i,.cons a t hv,.nil,e,h=>PySem.W.kat_nil (by rw [HT.gn] at h; rw [decide_eq_false (by simp at e; lia)]; exact h)
 | _,_,_,_,i,.cons a t hv,.cons c u hw,e,h=>by
  rw [Tp]
  refine PySem.W.kat_cons (wpAny_eqBool_int ?_)
  rw [HT.cJ] at h
  by_cases z:a=c
  ·rw [if_pos z] at h
   rw [show (a == c)=true by simpa using z]
   exact PySem.W.kat_yes (xA (i+1) hv hw (by simp at e; lia) h)
  ·rw [if_neg z] at h
   rw [show (a == c)=false by simpa using z]
   exact PySem.W.kat_no (F0 _ h)
theorem kg:∀ {l:List α} {m:List β} {i:Nat} {b:β},Paired F l m→m[i]?=some b→∃ a,l[i]?=some a∧F a b
 | _,_,_,_,.nil,e=>by simp at e
 | _,_,0,_,.cons r _,e=>by simp at e; subst e; exact ⟨_,rfl,r⟩
 | _,_,i+1,a,.cons _ t,e=>by
  obtain ⟨b,h1,h2⟩:=kg (i:=i) t (by simpa using e)
  exact ⟨b,by simpa using h1,h2⟩
theorem Cu (I:Inv X aa σ H s) (sb:aH Hf H) (h:Paired (fun x u=>ko X.K Hf (gH x) u) L us) (h2:2≤us.length) (hQ:Q (Ct L) s):wpAny (model X.prog X.w) A (keyKind' us.toArray) Q E s:=by
 have key:∃ fs:List (Option Value),Paired (fun (l:List Int) o=>(l=[]∧o=none)∨∃ n r t,l=n::r∧o=some (SM n t)) L fs∧Paired (fun u o=>∀ (Q:Option Value→Shared→Prop),Q o s→wpAny (model X.prog X.w) A (firstOfTuple' u) Q E s) us fs:=by
  clear h2 hQ
  induction h with
  | nil=>exact ⟨[],.nil,.nil⟩
  | @cons x u L us r t ih =>
   obtain ⟨fs,e1,e2⟩:=ih
   obtain ⟨a,its,rfl,⟨o,ho,hc,n,hd⟩,ia⟩:=kP I sb r
   refine ⟨its[0]?::fs,.cons ?_ e1,.cons (fun Q hQ=>?_) e2⟩
   ·rw [← PK]
    generalize its.toList=il at ia
    cases ia with
    | nil=>exact .inl ⟨rfl,rfl⟩
    | cons n t' _=>exact .inr ⟨n,_,t',rfl,rfl⟩
   ·show wpAny _ _ (do
     if (← typeOf (.ref a)) != .type "tuple" then return none
     return (← Se (.ref a))[0]?) _ _ _
    refine OM (Q7 (T:="tuple") ⟨o,ho,hc⟩ ?_)
    rw [if_neg (by simp)]
    exact OM (SA ho hd (OO hQ))
 obtain ⟨fs,e1,e2⟩:=key
 rw [keyKind'_eq,List.mapM_toArray]
 simp only [bind_map_left]
 refine OM (iM _ _ e2 ?_)
 have typs:∀ {T:String} (vs:List Value) (Q:List Value→Shared→Prop),(∀ v∈vs,s.TypeIs v T)→Q (vs.map fun _=>.type T) s→wpAny (model X.prog X.w) A (vs.mapM typeOf) Q E s:=fun {T} vs Q ht hQ=>by
  refine iM _ _ ?_ hQ
  clear hQ
  induction vs with
  | nil=>exact .nil
  | cons f fs ih=>exact .cons (fun Q hQ=>Q7 (ht f O1) hQ) (ih fun g hg=>ht g (O2 _ hg))
 have el:L.length=us.length:=Qj h
 have ef:L.length=fs.length:=Qj e1
 have oneT:∀ {T:String} (vs:List Value) (Q:Option Value→Shared→Prop),vs≠[]→(∀ v∈vs,s.TypeIs v T)→Q (some (.type T)) s→wpAny (model X.prog X.w) A (oneTypeOnly' vs.toArray) Q E s:=fun {T} vs Q hne ht hQ=>by
  rw [oneTypeOnly'_eq,List.mapM_toArray]
  simp only [bind_map_left]
  refine OM (typs (T:=T) vs _ ht ?_)
  obtain ⟨f,r,rfl⟩:=List.exists_cons_of_ne_nil hne
  have h0:(List.map (fun _=>Qe T) (f::r)).toArray[0]?=some (Qe T):=by simp
  rw [h0]
  dsimp only
  rw [if_pos (by simp)]
  exact OO hQ
 unfold Ct at hQ
 by_cases hall:∀ l∈L,l≠[]
 ·rw [if_pos hall] at hQ
  have e3:∃ gs:List Value,fs=gs.map some∧∀ g∈gs,s.TypeIs g "int":=by
   clear h h2 hQ e2 el ef oneT typs
   induction e1 with
   | nil=>exact ⟨[],rfl,by simp⟩
   | @cons x o L fs r t ih =>
    obtain ⟨gs,q1,q2⟩:=ih fun l hl=>hall l (O2 _ hl)
    rcases r with ⟨z,_⟩ | ⟨n,r',t',_,rfl⟩
    ·exact absurd z (hall x O1)
    ·exact ⟨.int n t'::gs,by rw [q1]; rfl,fun g hg=>by
      rcases O5.mp hg with rfl | hg
      ·exact R3 s n t'
      ·exact q2 g hg⟩
  obtain ⟨gs,rfl,q2⟩:=e3
  rw [if_pos (by simp)]
  refine OM (Ql ?_)
  have e4:(gs.map some).toArray.filterMap id=gs.toArray:=by simp
  rw [e4]
  refine OM (oneT (T:="int") gs _ (fun z=>by subst z; rw [el,Ra,QD] at ef; lia) q2 (OO ?_))
  have e6:(some (Qe "int")).any (fun x=>x != Qe "tuple")=true:=by decide
  rw [e6]
  exact hQ
 ·rw [if_neg hall] at hQ
  have hno:¬ (fs.toArray.all fun x=>x.isSome)=true:=fun z=>hall fun l hl hl0=>by
   obtain ⟨i,hi,ei⟩:=List.mem_iff_getElem.mp hl
   obtain ⟨o,ho,r⟩:=di e1 (Pc hi)
   rw [ei] at r
   have zo:o.isSome=true:=by
    rw [List.all_toArray,List.all_eq_true] at z
    exact z o (Qc ho)
   rcases r with ⟨_,rfl⟩ | ⟨n,r',t',e,_⟩
   ·cases zo
   ·rw [hl0] at e; cases e
  rw [if_neg hno]
  cases e1 with
  | nil=>rw [QD] at el; lia
  | @cons x o L fs r t =>
   have e0:((o::fs).toArray[0]?.bind id)=o:=by simp
   rw [e0]
   rcases r with ⟨rfl,rfl⟩ | ⟨n,r',t',rfl,rfl⟩
   ·rw [if_pos (by simp)] at hQ
    rw [if_neg (by simp)]
    refine OM (oneT (T:="tuple") us _ (fun z=>by subst z; simp at h2) (fun v hv=>?_) (OO hQ))
    obtain ⟨i,hi,ei⟩:=List.mem_iff_getElem.mp hv
    obtain ⟨l,_,r⟩:=kg h (Pc hi)
    rw [ei] at r
    obtain ⟨a,its,rfl,⟨o,ho,hc,n,hd⟩,ia⟩:=kP I sb r
    exact ⟨o,ho,hc⟩
   ·rw [if_neg (by simp)] at hQ
    rw [if_pos (by simp)]
    exact OO hQ
theorem JF (I:Inv X aa σ H s) (sb:aH Hf H) (hA:A.units+10<cLine) (hx:ko X.K Hf (gH x) u) (hy:ko X.K Hf (gH y) v) (hQ:Q (HT.lexLt x y) s):wpAny (model X.prog X.w) A (keyLt' (Ct L) u v) Q E s:=by
 obtain ⟨a,its,rfl,ta,ia⟩:=kP I sb hx
 obtain ⟨b,its2,rfl,tb,ib⟩:=kP I sb hy
 have hu:A.units<cLine:=by lia
 have gen:wpAny (model X.prog X.w) A (oneLt' false (.ref a) (.ref b)) Q E s:=PySem.W.kat_one _ _ (HT.ue ta tb ia ib hu hQ)
 obtain ⟨⟨cls,dd,data,sl⟩,ho,hc,n,hd⟩:=id ta
 obtain ⟨⟨cls2,dd2,data2,sl2⟩,ho2,hc2,n2,hd2⟩:=id tb
 simp only at hc hd hc2 hd2
 subst hc hd hc2 hd2
 unfold Ct
 split
 ·exact PySem.W.kat_lt ho rfl ho2 rfl (xA (m:=its.size) (n:=its2.size) 0 ia ib (by have:=ia.length; have:=ib.length; simp only [PM] at *; lia) hQ)
 ·split
  ·rw [keyLt'_oneType,oneLt'_eq]
   simp only [if_true]
   refine OM (wpAny_cRoomFor hu ?_)
   refine OM (wpAny_callSpecialIfBound?_slot ⟨_,ho,rfl⟩ UC (R4 UC ⟨_,ho,rfl⟩ PySem.F.entry_tuple_lt (PySem.F.args_tuple_lt_2 _ _) (HT.iE a b its its2 n n2 dd dd2 sl sl2 x y ia ib) ⟨ho,ho2,?_⟩))
   exact Tr hQ
  ·exact gen
end
section
open PySem in
theorem Cv (hd:(d == sysModules)=false) (ho:s.heap.get? d=some o) (hx:o.ExactDict) (hdat:o.data=.dict es ep)
 (hQ:Q (.ref s.heap.objs.size) { s with heap:=s.heap.push { cls:=.type "dict_keyiterator",data:=.fields #[.ref d,.int 0 0,.int es.size 0,.int ep 0] } }) :
 wpAny (model prog w) A (pyIter (.ref d)) Q E s:=by
 have hT:s.TypeIs (.ref d) "dict":=⟨o,ho,hx.1⟩
 refine UQ hT F.slot_dict_iter (Qv F.slot_dict_iter hT F.entry_dict_iter ?_ (F.args_dict_iter_1 _))
 unfold Builtin.«dict.__iter__»
 refine OM ?_
 unfold Builtin.Dict.dictSlotNone
 refine OM (wpAny_notOrdered_dict hT ?_)
 show wpAny _ _ (pure (Pe d)) _ _ s
 refine OO ?_
 show wpAny _ _ (Te d >>= _) _ _ s
 unfold Te
 rw [if_neg (by rw [hd]; exact O0)]
 refine OM (OO ?_)
 refine OM (RT ho hdat ?_)
 refine OM (RW ho hdat ?_)
 refine OM (P6 (OO ⟨_,rfl,"dict_keyiterator",_,⟨_,O6 _ rfl,rfl⟩,R7.lookup,?_⟩))
 simpa [rawInt] using hQ
theorem Cw (hit:s.heap.IsKeyIter it d i es.size ep)
 (hod:s.heap.get? d=some od) (hdd:od.data=.dict es ep) (hx:es[i]?=some e)
 (hQ:∀ h',h'.IsKeyIter it d (i+1) es.size ep→QG it s.heap h'→Q (some e.key) { s with heap:=h' }) :
 wpAny (model prog w) A (pyNext (.ref it)) Q E s:=by
 obtain ⟨o,ho,hc,hd⟩:=id hit
 unfold pyNext
 refine OM (Q6 (QY (name:=OL "__next__") hit.typeIs R7
  (Qv R7 hit.typeIs Vh ?_ (Ve _))))
 refine OM (OO ?_)
 refine OM ?_
 refine OM ?_
 first | refine OM (SQ hit.typeIs (OO ?_)) | refine OM (SY hit.typeIs (OO ?_))
 refine OM (TX ho hd ?_)
 have hown:Uo "dict_keyiterator"=false:=by decide
 simp only [hown,PR,if_false]
 show wpAny _ _ (if (Pe d == P4)=true then _ else _) _ _ s
 rw [if_neg (show ¬ ((Pe d == P4)=true) from O0)]
 refine OM (OO ?_)
 refine OM (RT hod hdd ?_)
 rw [if_neg (by simp)]
 refine OM (OO ?_)
 refine OM (RW hod hdd ?_)
 rw [if_neg (by simp)]
 refine OO ?_
 simp only [show ¬ ((i:Int)<0) from by omega,if_false,Pz,hx]
 refine OM ?_
 first | refine OM (SQ hit.typeIs (OO ?_)) | refine OM (SY hit.typeIs (OO ?_))
 refine OM (wpAny_isOneOf_keyiter hit.typeIs ?_)
 show wpAny _ _ (setField (.ref it) 1 (rawInt ((i:Int)+1)) >>= _) _ _ s
 refine OM (Sv ho hd (by simp) ?_)
 have hit':(s.heap.update it (Obj.mapFields (·.setIfInBounds 1 (rawInt ((i:Int)+1))))).IsKeyIter it d (i+1) es.size ep :=
  ⟨_,Heap.get?_update_self _ ho (Obj.isFreed_of_fields (To hd _)),(Obj.cls_mapFields ..).trans hc,by rw [To hd]; simp [rawInt]⟩
 refine OM (Qa ?_)
 refine OM (wpAny_isOneOf_keyiter (s:={ s with heap:=s.heap.update it (Obj.mapFields (·.setIfInBounds 1 (rawInt ((i:Int)+1)))) }) hit'.typeIs ?_)
 show wpAny _ _ (pure e.key) _ _ _
 exact OO (OO ⟨_,rfl,OO (hQ _ hit' (Sj ..))⟩)
theorem F1 (hh:A.handled=none) (hit:s.heap.IsKeyIter it d i es.size ep)
 (hod:s.heap.get? d=some od) (hdd:od.data=.dict es ep) (hge:es.size≤i)
 (hQ:∀ h',Rb it s.heap h'→Q none { s with heap:=h' }):wpAny (model prog w) A (pyNext (.ref it)) Q E s:=by
 obtain ⟨o,ho,hc,hd⟩:=id hit
 unfold pyNext
 refine OM (Q6 (QY (name:=OL "__next__") hit.typeIs R7
  (Qv R7 hit.typeIs Vh ?_ (Ve _))))
 refine OM (OO ?_)
 refine OM ?_
 refine OM ?_
 first | refine OM (SQ hit.typeIs (OO ?_)) | refine OM (SY hit.typeIs (OO ?_))
 refine OM (TX ho hd ?_)
 have hown:Uo "dict_keyiterator"=false:=by decide
 simp only [hown,PR,if_false]
 show wpAny _ _ (if (Pe d == P4)=true then _ else _) _ _ s
 rw [if_neg (show ¬ ((Pe d == P4)=true) from O0)]
 refine OM (OO ?_)
 refine OM (RT hod hdd ?_)
 rw [if_neg (by simp)]
 refine OM (OO ?_)
 refine OM (RW hod hdd ?_)
 rw [if_neg (by simp)]
 refine OO ?_
 simp only [show ¬ ((i:Int)<0) from by omega,if_false,Pz,Array.getElem?_eq_none hge]
 refine OM ?_
 first | refine OM (SQ hit.typeIs (OO ?_)) | refine OM (SY hit.typeIs (OO ?_))
 show wpAny _ _ (setField (.ref it) 0 .none >>= _) _ _ s
 refine OM (Sv ho hd (by simp) ?_)
 show wpAny _ _ (newExc (.type "StopIteration") [] >>= _) _ _ _
 refine OM ?_
 simp only [newExc,newTuple]
 refine OM (P6 ?_ (by size_fits))
 refine OM (m:=firstArgMember _ _) (wpAny_of_eq (a:=P4) (by first | rfl | (simp only [firstArgMember]; rfl)) ?_)
 refine P6 ?_ (by size_fits)
 simp only [raiseNew]
 refine OM (wpAny_handled ?_)
 rw [show A.in1.handled=none from hh]
 refine OM (OO (wpAny_throw ?_))
 refine OM (TH (T:="StopIteration") (b:=true) ⟨_,O6 _ rfl,rfl⟩ isSubtype_stop ?_)
 exact OO (hQ _ (((Sj ..).extBut.push _).push _))
end
section
variable {X:Cx} {aa:List (Addr×Obj)} {σ:L2.St} {H Hf:Hp} {s:Shared} {E:Value→Shared→Prop} {α:Type} {enc:α→D} {lt:α→α→Bool} {κ:SortKind}
structure Mf (X:Cx) (enc:α→D) (lt:α→α→Bool) (κ:SortKind) (L:List α):Prop where
 lin:SR.GW lt L
 inj:∀ (aa:List (Addr×Obj)) (σ:L2.St) (H Hf:Hp) (s:Shared),Inv X aa σ H s→aH Hf H→∀ x y u,ko X.K Hf (enc x) u→ko X.K Hf (enc y) u→x=y
 kind:∀ (aa:List (Addr×Obj)) (σ:L2.St) (H Hf:Hp) (s:Shared) (A:Around) (E:Value→Shared→Prop),Inv X aa σ H s→aH Hf H→∀ us:List Value,Paired (fun x u=>ko X.K Hf (enc x) u) L us→2≤us.length→∀ Q:SortKind→Shared→Prop,Q κ s→wpAny (model X.prog X.w) A (keyKind' us.toArray) Q E s
 cmp:∀ (aa:List (Addr×Obj)) (σ:L2.St) (H Hf:Hp) (s:Shared) (A:Around) (E:Value→Shared→Prop),Inv X aa σ H s→aH Hf H→A.units+10<cLine→∀ (x y:α) (u v:Value),ko X.K Hf (enc x) u→ko X.K Hf (enc y) v→∀ Q:Bool→Shared→Prop,Q (lt x y) s→wpAny (model X.prog X.w) A (keyLt' κ u v) Q E s
theorem F2 (L):Mf X gH HT.lexLt (Ct L) L :=
 ⟨FZ L,fun _ _ _ _ _ I sb _ _ _ h1 h2=>Cs I sb h1 h2,fun _ _ _ _ _ _ _ I sb _ p h2 _ hQ=>Cu I sb p h2 hQ,fun _ _ _ _ _ _ _ I sb hA _ _ _ _ hx hy _ hQ=>JF I sb hA hx hy hQ⟩
theorem y9 {Q:Value→Shared→Prop} (hs:Mf X enc lt κ L) (I:Inv X aa σ H s) (sb:aH Hf H) (hA:A.units+20<cLine) (hr:aq X.K Hf (L.map enc) xs) (hv:Vals xs us) (hz:us.length≤sizeLine) (nd:L.Nodup)
 (hkw:∀ l,Builtin.«list.sort» ⟨[.ref l],kw⟩=Builtin.«list.sort» ⟨[.ref l],[(OL "reverse",.bool b)]⟩) (hka:∀ l,argsOk "list.sort" ⟨[.ref l],kw⟩)
 (hQ:∀ (L':List α) (xs':List V) (s':Shared),L'.Perm L→fR lt b L'→aq X.K Hf (L'.map enc) xs'→xs'.length≤sizeLine→Inv X aa σ (upd H s.heap.objs.size (.lst xs')) s'→Q (.ref s.heap.objs.size) s') :
 wpAny (model X.prog X.w) A (newList us >>= fun l=>(holding [l] (call (.builtin "list.sort") [l] kw) >>= fun _=>ret l)) (fun fin s'=>∃ v,fin=.done (.ret v)∧Q v s') E s:=by
 refine OM (Sw ?_ hz)
 have ha:(s.heap.push (seqObj "list" us.toArray 0)).get? s.heap.objs.size=some (seqObj "list" us.toArray 0):=O6 _ rfl
 have I1:Inv X aa σ H { s with heap:=s.heap.push (seqObj "list" us.toArray 0),toks:=s.toks }:=I.kept fun b o e=>OU _ e
 have Ha:H s.heap.objs.size=none:=I.hok.fresh (OP _)
 obtain ⟨f0,f1,f2,f3,f4,f5⟩:=I.mT (H':=H) (OP _) Ha
 have pL:=lY hr hv
 refine OM (Qa (UG slot_list_sort ⟨_,ha,rfl⟩ entry_list_sort (by
  rw [hkw]
  refine SR.oj (κ:=κ) (rk:=SR.yy (fun x u=>ko X.K Hf (enc x) u) lt L) (b:=b) ha ?_ hz fun out hp ho=>⟨_,rfl,?_⟩
  ·intro h' k
   have I2:=I1.turned (h':=h') (t':=s.toks) (it:=s.heap.objs.size) (fun b o hb e=>k b o hb e) f0 f1 f3 f4 f5
   refine ⟨fun Q E h2 hQ=>hs.kind _ _ _ _ _ _ _ I2 sb _ pL h2 _ hQ,SR.Bx (fun x y u h1 h2=>hs.inj _ _ _ _ _ I2 sb x y u h1 h2) hs.lin pL fun x _ y _ u v hx hy E Q hQ=>hs.cmp _ _ _ _ _ _ _ I2 sb ?_ _ _ _ _ hx hy _ hQ⟩
   show A.units+1+10<cLine
   lia
  ·obtain ⟨L',p1,p2,p3⟩:=SR.rT (S:=fun x u=>ko X.K Hf (enc x) u) (fun x y u h1 h2=>hs.inj _ _ _ _ _ I sb x y u h1 h2) hs.lin nd pL hp ho
   obtain ⟨xs',r',v'⟩:=lZ p3
   obtain ⟨e,he⟩:=sortedHeap_at (vs:=us) (out:=out) ha
   have hl:out.toList.length=us.length:=hp.length_eq
   refine OO ⟨_,rfl,hQ L' xs' _ p1 p2 r' ?_ ?_⟩
   ·have:=v'.length; lia
   ·refine I.laid (t':=s.toks) (fun b o q=>?_) (OP _) ⟨by have:=v'.length; lia,out.toList,e,v',by simpa using he⟩
    have lt:=OW q
    rw [sortedHeap_old (Pk lt) (by rw [size_push']; exact Tt lt)]
    exact OU _ q) (hka _)))
end
theorem m9:argsOk "sorted" ⟨[a],[]⟩:=by unfold argsOk; kernel_rfl
theorem args_list_sort_1:argsOk "list.sort" ⟨[a],[]⟩:=by unfold argsOk; kernel_rfl
noncomputable def Mg (d:Addr) (o:Obj) (u:HO):It :=
 ⟨fun i H=>H d=some (.frz o u)∧i<(bK u).length,fun i H x H'=>H'=H∧∃ y,(bK u)[i]?=some y∧x=y.1,fun i H=>H d=some (.frz o u)∧(bK u).length≤i⟩
theorem uY {P:Program} {w:World} {K:ON} {tg:Expr} {d j:Addr} {o:Obj} {u:HO} {es:Array DictEntry} {ep:Nat} (hd:HO.dct u) (hod:o.data=.dict es ep) (hes:es.size=(bK u).length):Turn P w K tg (Mg d o u) [j] j (fun i h=>h.IsKeyIter j d i es.size ep) where
 mem:=O3.mpr rfl
 obj:=fun i h ⟨q,e,_,hd⟩ b hb=>by
  obtain rfl:b=j:=O3.mp hb
  exact ⟨_,e,fun v z=>by rw [hd] at z; cases z⟩
 keep:=fun i h h' ⟨q,e,r⟩ k=>⟨q,k j (O3.mpr rfl) _ e,r⟩
 item:=by
  intro X hP hw hK hc i aa s σ H E I hf st hg
  subst hP hw hK
  obtain ⟨f0,f1,f2,f3,f4,f5⟩:=hf j (O3.mpr rfl)
  obtain ⟨hH,hi⟩:=hg
  obtain ⟨ho,ok⟩:=(show bq X.prog X.w H s.heap d (.frz o u) from I.hok d _ hH)
  obtain ⟨_,es',ep',e1,e2,_⟩:=cM ok hd ho
  rw [hod] at e1; cases e1
  obtain ⟨e,he,re⟩:=di e2 (Pc hi)
  have he':es[i]?=some e:=by simpa using he
  refine Cw st ho hod he' fun h' hit' hs'=>?_
  have I1:Inv X aa σ H { s with heap:=h',toks:=s.toks }:=I.turned (fun b o hb e=>hs'.extBut b o hb e) f0 f1 f3 f4 f5
  obtain ⟨q,eq,qc,qd⟩:=id hit'
  exact ⟨_,rfl,nE (s:={ s with heap:=h',toks:=s.toks }) (n:="dict_keyiterator") eq qc qd (by decide) ⟨_,H,I1,re.1,⟨rfl,_,Pc hi,rfl⟩,hit',fun b hb=>(hf b hb).1⟩⟩
 done:=by
  intro X hP hw hK hc i aa s σ H E I hf st hg
  subst hP hw hK
  obtain ⟨f0,f1,f2,f3,f4,f5⟩:=hf j (O3.mpr rfl)
  obtain ⟨hH,hi⟩:=hg
  obtain ⟨ho,ok⟩:=(show bq X.prog X.w H s.heap d (.frz o u) from I.hok d _ hH)
  exact F1 (I.ok.hd hc) st ho hod (by rw [hes]; exact hi) fun h' eb=>⟨rfl,I.turned (t':=s.toks) (fun b o hb e=>eb b o hb e) f0 f1 f3 f4 f5⟩
 self:=fun _ _ _ _ _ st h=>wpAny_pyIter_keyiter st h
theorem uZ {K:ON} {Hf:Hp} {d:Addr} {o:Obj} {ys:List (List Key×Addr×V)} {ks:List (List Int)} (hH:Hf d=some (.frz o (.dT ys))) (hk:ys.map (·.1)=ks.map (·.map O8)) (hs:∀ y∈ys,c8 K Hf y.2.1 (y.1.map kV)):jJ K (Mg d o (.dT ys)) (ks.map gH) Hf where
 go:=fun i x H aQ s1 s2 e=>by
  rw [OY,O4] at e
  obtain ⟨n,hn,rfl⟩:=e
  have hq:=congrArg (fun l=>l[i]?) hk
  simp only [OY,hn,Option.map_some] at hq
  obtain ⟨y,hy,ey⟩:=O4.mp hq
  have hp:(bK (.dT ys))[i]?=some (.ref y.2.1,y.2.2):=by
   show (ys.map _)[i]?=_
   rw [OY,hy]; rfl
  refine ⟨⟨s2 _ _ (s1 _ _ hH),(OZ.mp hp).1⟩,fun v H' ⟨e1,y',e2,e3⟩=>?_⟩
  rw [hp] at e2; cases e2
  subst e1 e3
  refine ⟨aQ,.refl s2,aI.mpr ⟨y.2.1,y.1.map kV,rfl,av s1 (hs y (Qc hy)),?_⟩⟩
  rw [ey,Pb]
  exact jH n
 stop:=fun i H aQ s1 s2 e=>⟨s2 _ _ (s1 _ _ hH),by
  have:=congrArg Rw hk
  show (ys.map _).length≤i
  simp only [OT] at this e ⊢
  lia⟩
section
theorem p6 (hc:X.calm=true) (I:Inv X aa σ H s) (sb:aH Hf H) (hA:X.A.units+60<cLine) (hH:Hf d=some (.frz o (.dT ys))) (hk:ys.map (·.1)=ks.map (·.map O8)) (hq:∀ y∈ys,c8 X.K Hf y.2.1 (y.1.map kV)) (nd:ks.Nodup)
 (hQ:∀ (L':List (List Int)) (xs':List V) (s':Shared) (H' aj:Hp) (a:Addr),L'.Perm ks→fR HT.lexLt false L'→aq X.K aj (L'.map gH) xs'→bu H Hf H' aj→H' a=none→Inv X aa σ (upd H' a (.lst xs')) s'→Q (.ref a) s') :
 wpAny (model X.prog X.w) X.A (call (.builtin "sorted") [.ref d]) Q E s:=by
 refine call_function_entry kind_sorted plain_sorted entry_sorted m9 ?_
 unfold Builtin.«sorted»
 refine OM (m:=checkCount "sorted" 1 1 _) (OO ?_)
 have h1:X.A.in1.handled=none:=I.ok.hd hc
 have h2:X.A.in1.frames=some X.stack:=I.ok.frames
 obtain ⟨ho,ok⟩:=(show bq X.prog X.w H s.heap d (.frz o (.dT ys)) from I.hok d _ (sb _ _ hH))
 obtain ⟨hx,es,ep,e1,e2,hs,hz⟩:=cM ok trivial ho
 have hsz:es.size=(bK (.dT ys)).length:=by rw [Qj e2]; simp
 have hn:(ks.map gH).length=(bK (.dT ys)).length:=by have:=congrArg Rw hk; show _=(ys.map _).length; simp only [OT] at this ⊢; lia
 have ty:∀ s':Shared,(∀ b o,s.heap.get? b=some o→s'.heap.get? b=some o)→s'.TypeIs (.ref d) "dict":=fun s' k=>⟨o,k _ _ ho,hx.1⟩
 refine OM (lX (X:=Fo X X.A.in1) (H:=H) (Hf:=Hf) (ds:=ks.map gH) (T:="dict") hc h1 h2 (jP I (fun _=>h1) h2) sb (OW ho) (by lia) (by decide) (fun s' k=>ty s' k) (fun A s' Q E q h=>oE q h) (fun A s1 H1 E I1 sb1 k1=>?_) fun us s' H' aj xs I' rv rr g hz'=>?_)
 ·refine Cv hs (k1 _ _ ho) hx e1 ?_
  refine ⟨_,_,_,rfl,OP _,I1.kept (t':=s1.toks) fun b o e=>OU _ e,uY (u:=.dT ys) trivial e1 hsz,⟨_,O6 _ rfl,rfl,rfl⟩,fun b hb=>?_,fun b o e=>OU _ e,uZ hH hk hq⟩
  obtain rfl:b=s1.heap.objs.size:=O3.mp hb
  exact I1.mT (OP _) (I1.hok.fresh (OP _))
 ·have I2:=gz I.ok I'
  have el:=rr.length
  have el2:=rv.length
  refine y9 (b:=false) (F2 ks) I2 g.b ?_ rr rv (by lia) nd (fun _=>rfl) (fun _=>args_list_sort_1) fun L' xs' s2 p1 p2 p3 p4 I3=>hQ L' xs' s2 H' aj _ p1 p2 p3 g (I2.hok.fresh (OP _)) I3
  show X.A.units+1+20<cLine
  lia
end
section
variable {K:ON} {c:Ctx P w K mg base k N sc bk}
theorem Cy (hm:mg "sorted"=none) (h:aJ c e ρ fun d=>∃ (ks:List (List Int)) (ds:List D),d=.fdT (ks.map (·.map O8)) ds∧Sd ks.Nodup (∀ L':List (List Int),L'.Perm ks→fR HT.lexLt false L'→R (.ow (L'.map gH))))
 (hg:sc.names.lookup (OL "sorted")=some .globalImplicit:=by walk_at "u")
 (he:∀ env,starEach [e] env=(false,eval e env)::starEach [] env:=by intro _; walk_at "u")
 (hpl:∀ env,(backTo pos (starEach [] env)).any (·.1)=false:=by intro _; walk_at "u") :
 dD c (.Call (.Name "sorted" np) [e] [] pos) ρ R:=fun σ H Hf Q S q aa s I=>by
 have hgl:Gl c.X "sorted":=by unfold Gl PJ; rw [c.esc]; exact hg
 refine QB (dI I hgl (by rw [c.emg]; exact hm) (show bootBuiltins "sorted"=some (.builtin "sorted") by decide +kernel) ?_ (by decide) (by decide))
 have hpa:=bN (X:=c.X) (e:=e) (es:=[]) dB dJ (he _)
 refine Um (bJ (hpa pos aa s σ H (fun vs H1=>∃ x,vs=[x]∧∃ (ks:List (List Int)) (ds:List D) (aQ:Hp),Rep c.X.K aQ (.fdT (ks.map (·.map O8)) ds) x∧ks.Nodup∧bu H Hf H1 aQ∧∀ L':List (List Int),L'.Perm ks→fR HT.lexLt false L'→R (.ow (L'.map gH))) I ?_) fun us s1 hh=>z2 hh fun vs H1 hh=>w3 hh fun I1 r1 hh=>hh.elim fun x hh=>w2 hh fun ex hh=>z3 hh fun ks ds aQ hh=>w4 hh fun e1 e7 e8 e9=>?_) (he _) (hpl _)
 ·exact h σ H Hf _ S fun d v H1 aQ ⟨ks,ds,hp,⟨hn,hR⟩⟩ rv g=>⟨_,rfl,ks,ds,aQ,by rw [← hp]; exact rv,hn,g,hR⟩
 ·subst ex
  obtain ⟨a0,ys,o,rfl,hs,hk,hq,hr⟩:=i8.mp e1
  have eu:us=[.ref a0]:=by
   cases r1 with
   | cons q1 q2=>cases q2; cases q1; rfl
  subst eu
  refine p6 c.calm I1 e8.b ?_ hs hk hq e7 fun L' xs' s' H' aj a p1 p2 p3 g na I3=>?_
  ·have:=c.room.un
   lia
  ·have gg:=e8.trans g
   exact ⟨.ref a,_,I3,rfl,q (.ow (L'.map gH)) _ _ aj (e9 L' p1 p2) ⟨a,xs',rfl,gg.s.free na,ai,g.b.free na,p3⟩ (gg.trans (bu.gq g.b na))⟩
end
section
noncomputable def Mh:V→List V→Hp→VK→Prop:=fun x vs H Q=>∃ l xs y,x=.ref l∧vs=[.int 0,y]∧H l=some (.lst xs)∧xs.length<sizeLine∧Q .non (upd H l (.lst (y::xs)))
theorem F3:Oj X "list.insert" Mh:=by
 intro aa s σ H x vs v us Q I rx rv h
 obtain ⟨l,xs,y,rfl,rfl,hH,hz,q⟩:=h
 cases rx
 cases rv with
 | cons r0 rv =>
  obtain ⟨t,rfl⟩:=r0
  obtain ⟨u,rfl,ru⟩:=Vals.one rv
  obtain ⟨z,its,n,r,hl,e⟩:=I.qE hH
  refine R4 F.slot_list_insert ⟨_,e,rfl⟩ F.entry_list_insert (F.args_list_insert_3 _ _ _) (PySem.AutoSeq1.list_insert_list_int_val_1 l its.toArray n 0 t u (by decide) (by rw [O9]; lia)) ⟨e,?_⟩
  refine ⟨.non,_,I.uh (its':=u::its) hH e (by simp) (.cons ru r) ?_,rfl,q⟩
  rw [Pr]
  lia
end
section
variable {K:ON} {c:Ctx P w K mg base k N sc bk}
theorem JG (hN:At N i x) (hi:At ρ i r) (hr:r.getL=some ds) (h:aJ c e ρ fun d=>Sd (ds.length<sizeLine) (Nx ρ i nx (r.putL (d::ds))))
 (hs:∀ env,swapsWith (.Call (.Attribute (.Name x px) "insert" ap) [.Constant (.int 0) j p0,e] [] cp) none pos.line env=pure false:=by intro _; walk_at "u") (hd:(x == ("__debug__":Str))=false:=by decide) (hcd:(x == ("__classdict__":Str))=false:=by decide)
 (hbase:∀ env,attributeBase (.Name x px) "insert" env (eval (.Name x px) env)=eval (.Name x px) env:=by intro _; walk_at "u")
 (hfew:∀ env,((backTo cp (starEach [.Constant (.int 0) j p0,e] env)).all (fun x=> !x.1) && (backToKw cp (keywordEach [] env)).all (fun x=>x.1.isSome)
   && decide (([.Constant (.int 0) j p0,e]:List Expr).length+([]:List Keyword).length+(if ([]:List Keyword).isEmpty then 0 else 1)<30))=true:=by intro _; walk_at "u")
 (hline:(ap.endLine == cp.line)=true:=by walk_at "u") (he0:∀ env,starEach [.Constant (.int 0) j p0,e] env=(false,eval (.Constant (.int 0) j p0) env)::starEach [e] env:=by intro _; walk_at "u") (he:∀ env,starEach [e] env=(false,eval e env)::starEach [] env:=by intro _; walk_at "u") (hpl:∀ env,(backTo cp (starEach [e] env)).any (·.1)=false:=by intro _; walk_at "u") :
 eV c (.Expr (.Call (.Attribute (.Name x px) "insert" ap) [.Constant (.int 0) j p0,e] [] cp) pos) ρ nx p:=fun σ H Hf D S o=>by
 obtain ⟨q,eq,rq⟩:=S.own hi.get (dh hr)
 obtain ⟨xs,h1,h2,h3⟩:=IP hr rq
 refine dQ (kD (GD PySem.F.plainAttrs_list PySem.F.slot_list_insert PySem.F.type_list_insert F3 (c.lC hN hd hcd) (bN zP (bN dB dJ (he _)) (he0 _)) (hbase _) (hfew _) hline (he0 _) (hpl _)) (hs _)) ⟨_,eq,.inl ⟨rfl,xs,.inl (.inl h1)⟩,?_⟩
 refine h σ H Hf _ S fun d v H' aj ⟨hz,ρ',hs',hn⟩ rd g=>?_
 have S':=S.cG g
 have e1:H' q=some (.lst xs):=g.s _ _ h1
 have e2:aj q=none:=g.n q h2 (by rw [h1]; simp) (by intro ys; rw [h1]; simp)
 refine ⟨q,xs,v,rfl,rfl,e1,by rw [← h3.length]; exact hz,?_⟩
 refine o.nx _ _ aj ρ' ?_ hn
 rw [hs'.eq]
 have rq':=rq.cG g
 exact S'.upd hi.get (dh hr) eq (gY g.b e2) (lD hr rq' ai e2 (.cons rd (h3.mono g.f))) (iH hr)
end
end EV
namespace EV
open PySem PySem.Spec PyProof.Rows L2
theorem xB {α:Type}:∀ ys:List α,(PF ys.length).filterMap (ys[·]?)=ys
 | []=>rfl
 | y::ys=>by
  rw [Pr,List.range_succ_eq_map,Qm]
  show y::_=_
  rw [UN]
  exact congrArg (y:: ·) (xB ys)
theorem sL {α β:Type} {f g:α→Option β}:∀ {l:List α},(∀ x∈l,f x=g x)→l.filterMap f=l.filterMap g
 | [],_=>rfl
 | x::l,h=>by rw [Qm,Qm,h x O1,sL fun y hy=>h y (O2 _ hy)]
theorem Cz {α:Type} (xs:List α):List.filterMap ((xs[·]?)∘fun i=>xs.length - 1 - i) (PF xs.length)=xs.reverse:=by
 have h:=xB xs.reverse
 rw [UJ] at h
 refine Eq.trans (sL fun k hk=>?_) h
 exact (List.getElem?_reverse (T4.mp hk)).symm
theorem xC (xs:List α):stp xs none none (some (-1))=xs.reverse:=by
 unfold stp sliceBounds
 simp only [Option.getD_some,show ¬ ((-1:Int)>0) by decide,if_false]
 have e:sliceRange ((xs.length:Int) - 1) (-1) (-1)=(PF xs.length).map fun i=>xs.length - 1 - i:=by
  unfold sliceRange
  simp only [show ¬ ((-1:Int)>0) by decide,if_false]
  have c:(if (xs.length:Int) - 1> -1 then ((xs.length:Int) - 1 - -1 - -1 - 1) / (- -1) else 0)=(xs.length:Int):=by
   split
   ·rw [show (- -1:Int)=1 by decide,Int.ediv_one]; omega
   ·omega
  rw [c,Pz]
  refine QN fun k hk=>?_
  have:=T4.mp hk
  omega
 rw [e,UN]
 exact Cz xs
noncomputable def Ob (X:Cx) (te:TE) (tl th ts:TO):TE:=fun σ H Q=>te σ H fun x H1=>tl σ H1 fun l H2=>th σ H2 fun u H3=>ts σ H3 fun t H4=>∃ a xs k,x=.ref a∧gX X.K H4 a xs∧l=none∧u=none∧t=some k∧k= -1∧∀ p,H4 p=none→Q (.ref p) (upd H4 p (.lst (stp xs l u (some k))))
section
variable {lo hi:Option Expr} {st:Expr}
theorem JH (he:PE X e te) (hl:PO X lo tl) (hu:PO X hi th) (ht:PO X (some st) ts):PE X (.Subscript e (.Slice lo hi (some st) p2) pos) (Ob X te tl th ts):=by
 intro aa s σ H Q I h
 refine Subscript_ (bJ (he aa s σ H _ I h) fun v s1 ⟨x,H1,I1,r1,q1⟩=>?_)
 refine wpAny_Slice (bJ (hl aa s1 σ H1 _ I1 q1) fun vl s2 ⟨l,H2,I2,pl,q2⟩=>bJ (hu aa s2 σ H2 _ I2 q2) fun vu s3 ⟨u,H3,I3,pu,q3⟩=>bJ (ht aa s3 σ H3 _ I3 q3) fun vt s4 ⟨t,H4,I4,pt,q4⟩=>?_)
 obtain ⟨a,xs,k,rfl,hx,rfl,rfl,rfl,rfl,q⟩:=q4
 have I5:Inv X aa σ H4 { s4 with heap:=s4.heap.push { cls:=.type "slice",data:=.fields #[vl,vu,vt] } }:=I4.kept (t':=s4.toks) fun b ob q=>OU _ q
 cases r1
 obtain ⟨its,r,hi,hz⟩:=I5.list hx
 have hlen:=r.length
 show wpAny (model X.prog X.w) X.A (subscriptTail e (.Slice lo _ (some st) p2) (.ref a) (.ref s4.heap.objs.size)) (EP X aa σ Q) X.xe { s4 with heap:=s4.heap.push { cls:=.type "slice",data:=.fields #[vl,vu,vt] } }
 refine tail_any (ops:=[.ref a,.ref s4.heap.objs.size]) hi.isList.typeIs US.lookup ?_ (by walk_at "u")
 refine wpAny_getItem_list_slice hi.isList (Heap.IsSliceOf.new ..) pl pu pt (by decide) ?_ (by rw [O9] <;> lia)
 have I6:=I5
 generalize hS:({ s4 with heap:=s4.heap.push { cls:=.type "slice",data:=.fields #[vl,vu,vt] } }:Shared)=S at I6 ⊢
 have ep:slicePick its.toArray none none (some (-1))=(stp its none none (some (-1))).toArray:=by
  unfold slicePick stp
  simp only [O9,List.getElem?_toArray]
 rw [ep]
 refine ⟨.ref S.heap.objs.size,_,I6.laid (t':=S.toks) (o:=.lst (stp xs none none (some (-1)))) (fun b ob q=>OU _ q) (OP _) ?_,rfl,q _ (I6.hok.fresh (OP _))⟩
 exact ⟨by rw [xC,UJ]; exact hz,_,0,by unfold stp; rw [hlen]; exact yY r _,O6 _ rfl⟩
end
section
variable {K:ON}
theorem Mi {lo hi:Option Expr} {st:Expr} (h:aJ c e ρ fun x=>DV c lo ρ fun l=>DV c hi ρ fun u=>DV c (some st) ρ fun t=>l=none∧u=none∧t=some (-1)∧∃ ds,x=.lst ds∧R (.ow ds.reverse)):dD c (.Subscript e (.Slice lo hi (some st) p2) pos) ρ R:=fun σ H Hf Q S q =>
 bR (JH dB LL LL LL) (h σ H Hf _ S fun x v H1 aQ h1 r1 g1=>h1 σ H1 aQ _ (S.cG g1) fun l H2 cQ h2 g2=>h2 σ H2 cQ _ (S.cG (g1.trans g2)) fun u H3 Hf3 h3 g3=>h3 σ H3 Hf3 _ (S.cG ((g1.trans g2).trans g3)) fun t H4 Hf4 h4 g4=>by
  obtain ⟨rfl,rfl,rfl,ds,rfl,hR⟩:=h4
  have r3:=Rep.mono g4.f _ (Rep.mono g3.f _ (Rep.mono g2.f _ r1))
  have g:=((g1.trans g2).trans g3).trans g4
  rw [aY] at r3
  obtain ⟨a,xs,rfl,k1,k2⟩:=r3
  refine ⟨a,xs,-1,rfl,g4.b.seq k1,rfl,rfl,rfl,rfl,fun p hp=>?_⟩
  exact q _ _ _ _ hR ⟨p,_,rfl,g.s.free hp,ai,g4.b.free hp,by rw [← xC]; unfold stp; rw [k2.length]; exact yZ k2 _⟩ (g.trans (bu.gq g4.b hp)))
end
end EV
namespace EV
open PySem PySem.Spec PySem.Calls PyProof.Rows L2
theorem CA {K:ON}:∀ {kvs:List (List Key×D)} {ys:List (List Key×Addr×V)},ys.map (·.1)=kvs.map (·.1)→(∀ y∈ys,c8 K H y.2.1 (y.1.map kV))→aq K H (kvs.map (·.2)) (ys.map (·.2.2))→lu K H kvs ys
 | [],[],_,_,_=>.nil
 | [],y::ys,h,_,_=>by simp at h
 | x::kvs,[],h,_,_=>by simp at h
 | x::kvs,y::ys,h,hq,r=>by
  rw [OS,OS] at h r
  obtain ⟨v,t,e,r1,r2⟩:=aD.mp r
  injection e with e1 e2
  injection h with h1 h2
  subst e1 e2
  exact .cons ⟨h1.symm,by rw [← h1]; exact hq y O1,r1⟩ (CA h2 (fun z hz=>hq z (O2 _ hz)) r2)
section
variable {K:ON}
theorem JI (h:aJ c a ρ fun x=>aJ c b ρ fun y=>∃ (kvs:List (List Key×D)) (ds:List D) (kk:List Key) (d:D),x=.fdT (kvs.map (·.1)) (kvs.map (·.2))∧y=.tup ds∧D.keys ds=some kk∧bD kvs kk=some d∧R d) (hs:Eu b:=by with_unfolding_all exact fun _ _=>rfl):aJ c (.Subscript a b pos) ρ R:=fun σ H Hf Q S q =>
 bR (vS c.hu dB dB hs) (h σ H Hf _ S fun x v H1 aQ h1 r1 g1=>h1 σ H1 aQ _ (S.cG g1) fun y u H2 cQ ⟨kvs,ds,kk,d,e1,e0,e2,e3,hR⟩ r2 g2=>by
  subst e1 e0
  obtain ⟨p,ys,o,rfl,k1,k2,k4,k3⟩:=i8.mp r1
  have kv:=(CA k2 k4 k3).mono g2.f
  have rel:=kv.val kk
  rw [e3] at rel
  obtain ⟨pb,xb,rfl,kb,rb⟩:=aI.mp r2
  rw [gZ e2 rb] at kb
  cases z:atT ys kk with
  | none=>rw [z] at rel; exact rel.elim
  | some v =>
   rw [z] at rel
   exact ⟨p,v,rfl,.inr ⟨ys,kk,pb,.inr ⟨o,g2.b _ _ (g2.f _ _ k1)⟩,fun x hx=>av g2.b (av g2.f (k4 x hx)),rfl,av g2.b kb,z.symm⟩,q d v H2 cQ hR rel (g1.trans g2)⟩)
end
structure za (ρ:List Sl) (i:Nat) (s:Sh):Prop where
 hi:ρ[i]?=some (.fo s)
 ho:∀ {j:Nat} {r:Sl},j≠i→ρ[j]?=some r→r.EC=false∨∃ L0 L:List (Addr×List D),s=.t (d7 L0)∧r=.fo (.t (d7 L))∧∀ x∈L,∀ y∈L0,x.1≠y.1
theorem mw.g {ρ:List Sl} {i:Nat} {s:Sh} (h:mw ρ i s):za ρ i s:=⟨h.at_.1,fun hj e=>.inl (h.at_.2 hj e)⟩
theorem xD (hi:ρ[i]?=some (.fo (.t (d7 L0)))) (hj:ρ[j]?=some (.fo (.t (d7 L)))) (hd:∀ x∈L,∀ y∈L0,x.1≠y.1)
 (ho:∀ (n:Nat) (r:Sl),n≠i→n≠j→ρ[n]?=some r→r.EC=false):za ρ i (.t (d7 L0)):=⟨hi,fun {n r} hn e=>by
 by_cases z:n=j
 ·subst z; rw [hj] at e; cases e; exact .inr ⟨L0,L,rfl,rfl,hd⟩
 ·exact .inl (ho n r hn z e)⟩
section
variable {K:ON}
theorem au.addrs:∀ {L:List (Addr×List D)} {vs:List V} {fp:Fp},au K H Hf (d7 L) vs fp→fp.map (·.1)=L.map (·.1)
 | [],_,_,h=>by simp only [d7,Ra,au] at h; rw [h.2]; rfl
 | x::L,_,_,h=>by
  have h':au K H Hf (.la x.1 x.2::d7 L) _ _:=h
  simp only [au] at h'
  obtain ⟨y,r,f1,f2,rfl,h1,h2,rfl⟩:=h'
  simp only [aN] at h1
  obtain ⟨xs,rfl,q1,q2,q3,rfl⟩:=h1
  rw [Pq,au.addrs h2]; rfl
theorem aN.addrs (h:aN K H Hf (.t (d7 L)) v fp):fp.map (·.1)=L.map (·.1):=by
 simp only [aN] at h
 obtain ⟨a,xs,e,h1,h2⟩:=h
 exact au.addrs h2
theorem au.sM:∀ {L:List (Addr×List D)} {vs:List V} {fp:Fp},au K H Hf (d7 L) vs fp→au K H Hf ((L.map (·.2)).map .l) vs fp
 | [],_,_,h=>h
 | x::L,_,_,h=>by
  have h':au K H Hf (.la x.1 x.2::d7 L) _ _:=h
  show au K H Hf (.l x.2::(L.map (·.2)).map .l) _ _
  simp only [au] at h' ⊢
  obtain ⟨y,r,f1,f2,e1,h1,h2,e2⟩:=h'
  refine ⟨y,r,f1,f2,e1,?_,au.sM h2,e2⟩
  simp only [aN] at h1 ⊢
  obtain ⟨xs,e,q1,q2,q3,q4⟩:=h1
  exact ⟨_,xs,e,q1,q2,q3,q4⟩
theorem aN.sM (h:aN K H Hf (.t (d7 L)) v fp):aN K H Hf (.t ((L.map (·.2)).map .l)) v fp:=by
 simp only [aN] at h ⊢
 obtain ⟨a,xs,e,h1,h2⟩:=h
 exact ⟨a,xs,e,h1,au.sM h2⟩
theorem CB:∀ L:List (Addr×List D),Sh.ds (d7 L)=(L.map (·.2)).map D.lst
 | []=>rfl
 | x::L=>congrArg (D.lst x.2:: ·) (CB L)
theorem Mj (L):(Sh.t (d7 L)).d=.tup ((L.map (·.2)).map D.lst):=congrArg D.tup (CB L)
theorem sN (hr:r.EC=false∨∃ L0 L:List (Addr×List D),s=.t (d7 L0)∧r=.fo (.t (d7 L))∧∀ x∈L,∀ y∈L0,x.1≠y.1)
 (rf:aN K H Hf s v0 fp) (sf:aH Hf aj) (hk:∀ a o,¬ a∈fp.map (·.1)→H a=some o→Hf a=none→H' a=some o∧aj a=none) (e2:aZ K fr H Hf r v):aZ K fr H' aj r v:=by
 have hz:=aN.fz s rf
 rcases hr with hr | ⟨L0,L,rfl,rfl,hd⟩
 ·refine aZ.mv (B:=fun a=>a∈fp.map (·.1)) sf (fun a o hm e1 _ e3=>hk a o hm e1 e3) (fun hf=>by rw [hr] at hf; cases hf) (fun ow a e m=>?_) e2
  subst e
  obtain ⟨_,_,e,_,_,_,nf⟩:=e2.wc ow
  cases e
  obtain ⟨p,hp,rfl⟩:=cK m
  exact nf ⟨p.2,(hz p hp).1⟩
 ·obtain ⟨fp2,r2,nd,f2⟩:=e2
  refine ⟨fp2,aN.mv sf _ (fun q hq e1 e3=>hk q.1 _ (fun m=>?_) e1 e3) r2,nd,f2⟩
  rw [rf.addrs] at m
  have m2:q.1∈L.map (·.1):=by rw [← r2.addrs]; exact Pa.mpr ⟨q,hq,rfl⟩
  obtain ⟨y,hy,ey⟩:=Pa.mp m
  obtain ⟨x,hx,ex⟩:=Pa.mp m2
  exact hd x hx y hy (ex.trans ey.symm)
theorem c9.Ml (S:c9 K H₀ dU σ H Hf ρ) (h:za ρ i s) :
 ∃ fp:Fp,(fp.map (·.1)).Nodup∧(∀ a∈fp,H a.1=some (pl a.1 a.2)∧Hf a.1=none)∧c9 K H₀ dU σ (iA Ca fp H) (iA Ca fp Hf) (ρ.set i (.va s.d)):=by
 obtain ⟨hi,ho⟩:=h
 obtain ⟨v,ev,fp,rf,nd,hfr⟩:=S.at_ i _ hi (by intro z; cases z)
 have hz:=aN.fz s rf
 have none_in:∀ {b:Addr} {o:HO},Hf b=some o→b∉fp.map (·.1):=fun e m=>by obtain ⟨p,hp,rfl⟩:=cK m; rw [(hz p hp).2] at e; cases e
 have fr_in:∀ {b:Addr},b∈fp.map (·.1)→H₀ b=none:=fun m=>by obtain ⟨p,hp,rfl⟩:=cK m; exact hfr p hp
 have sf:aH Hf (iA Ca fp Hf):=fun b o e=>by rw [aX (none_in e)]; exact e
 refine ⟨fp,nd,hz,⟨⟨fun b o e=>?_,S.bas.f.trans sf,fun b o e=>?_,fun b h1 h2 h3=>?_⟩,by simp [S.len],fun j r hj hu=>?_,fun j j' r r' q hne h1 h2 o1 o2=>?_⟩⟩
 ·rw [aX fun m=>by rw [fr_in m] at e; cases e]; exact S.bas.s b o e
 ·by_cases m:b∈fp.map (·.1)
  ·obtain ⟨p,hp,rfl⟩:=cK m
   rw [fT nd p hp] at e ⊢; exact e
  ·rw [aX m] at e ⊢; exact S.sb b o e
 ·rw [aX fun m=>h2 (fr_in m)]; exact S.bas.n b h1 h2 h3
 ·rcases bB hj with ⟨rfl,rfl⟩ | ⟨q,hj⟩
  ·exact ⟨v,ev,aN.rep sf s (fun a ha=>fT nd a ha) rf⟩
  ·obtain ⟨v,e1,e2⟩:=S.at_ j r hj hu
   exact ⟨v,e1,sN (ho q hj) rf sf (fun a o hm e1 e3=>⟨by rw [aX hm]; exact e1,by rw [aX hm]; exact e3⟩) e2⟩
 ·have out:∀ {j:Nat} {r:Sl},(ρ.set i (.va s.d))[j]?=some r→r.owned=true→ρ[j]?=some r:=fun {j r} hj ho=>by
   rcases bB hj with ⟨_,rfl⟩ | ⟨_,hj⟩
   ·cases ho
   ·exact hj
  exact S.sep j j' r r' q hne (out h1 o1) (out h2 o2) o1 o2
theorem c9.Mm (S:c9 K H₀ dU σ H Hf ρ) (h:za ρ i s) (rf:aN K H Hf s v fp) (fr:∀ a∈fp,H₀ a.1=none) (g:bu (kq H fp) Hf H1 aQ):c9 K H₀ dU σ H1 aQ (ρ.set i .un):=by
 obtain ⟨hi,ho⟩:=h
 have fr_in:∀ {b:Addr},b∈fp.map (·.1)→H₀ b=none:=fun m=>by obtain ⟨p,hp,rfl⟩:=cK m; exact fr p hp
 have s0:aH H₀ (kq H fp):=fun b o e=>by rw [fK fun m=>by rw [fr_in m] at e; cases e]; exact S.bas.s b o e
 refine ⟨⟨s0.trans g.s,S.bas.f.trans g.f,g.b,fun b h1 h2 h3=>?_⟩,by simp [S.len],fun j r hj hu=>?_,fun j j' r r' q hne h1 h2 o1 o2=>?_⟩
 ·cases z:H₀ b with
  | none=>exact absurd z h2
  | some o1 =>
   have e1:=s0 b o1 z
   exact g.n b (S.bas.n b h1 h2 h3) (by rw [e1]; simp) fun xs=>by rw [e1,← z]; exact h3 xs
 ·rcases bB hj with ⟨_,rfl⟩ | ⟨q,hj⟩
  ·exact absurd rfl hu
  ·obtain ⟨v,e1,e2⟩:=S.at_ j r hj hu
   have e3:aZ K (fun p=>H₀ p=none) (kq H fp) Hf r v:=sN (ho q hj) rf (.refl _) (fun a o hm e1 e3=>⟨by rw [fK hm]; exact e1,e3⟩) e2
   exact ⟨v,e1,e3.cG g⟩
 ·have out:∀ {j:Nat} {r:Sl},(ρ.set i .un)[j]?=some r→r.owned=true→ρ[j]?=some r:=fun {j r} hj ho=>by
   rcases bB hj with ⟨_,rfl⟩ | ⟨_,hj⟩
   ·cases ho
   ·exact hj
  exact S.sep j j' r r' q hne (out h1 o1) (out h2 o2) o1 o2
end
section
variable {K:ON} {c:Ctx P w K mg base k N sc bk}
theorem CC (i) (h1:za ρ i s) (hs:SSet ρ i (.va s.d) ρ') (h:jI c e ρ' T):jI c e ρ T:=fun σ H Hf Q S q aa s' I=>by
 obtain ⟨fp,nd,hz,S1⟩:=S.Ml h1
 rw [← hs.eq] at S1
 refine bJ (h σ _ _ (fun b H'=>∃ aj,T b∧bu (iA Ca fp H) (iA Ca fp Hf) H' aj) S1 (fun b H' aj rd g=>⟨aj,rd,g⟩) aa s' (mq I nd fun a ha=>(hz a ha).1)) fun b s1 ⟨H1,I1,aQ,rd,g⟩=>?_
 have hL:∀ a∈fp,H1 a.1=some (.lst a.2):=fun a ha=>g.s _ _ (fT nd a ha)
 exact ⟨_,sH I1 nd hL,q b _ (kq aQ fp) rd (Cb nd hz g)⟩
theorem xE (h:FQ P w K mg base j x ok) (hj:j≤k) (hN:At N i y) (h1:za ρ i s) (hu:∀ {H Hf:Hp} {v:V} {fp:Fp},aN c.X.K H Hf s v fp→aN c.X.K H Hf sU v fp) (hok:ok sU) (hn:Nx ρ i nx .un)
 (hg:sc.names.lookup x=some .globalImplicit:=by walk_at "u") (hdb:(x == ("__debug__":Str))=false:=by decide) (hd:(y == ("__debug__":Str))=false:=by decide) (hcd:(y == ("__classdict__":Str))=false:=by decide)
 (he:∀ env,starEach [.Name y py] env=(false,eval (.Name y py) env)::starEach [] env:=by intro _; walk_at "u")
 (hpl:∀ env,(backTo cp (starEach [] env)).any (·.1)=false:=by intro _; walk_at "u")
 (hs:∀ env,swapsWith (.Call (.Name x px) [.Name y py] [] cp) none pos.line env=pure false:=by intro _; walk_at "u"):eV c (.Expr (.Call (.Name x px) [.Name y py] [] cp) pos) ρ nx p:=fun σ H Hf D S o=>by
 obtain ⟨v,ev,fp,rf,nd,hfr⟩:=S.at_ i _ h1.hi (by intro z; cases z)
 obtain ⟨ρ',hs',hn⟩:=hn
 refine dQ (kD dB (hs _)) (show bE c.X _ σ H (fun _ H'=>D.nx σ H') from fun aa s' I=>?_)
 obtain ⟨f,fd,ps,hm,hk,hb,hF⟩:=h.ex
 refine QB (iZ I (by unfold Gl PJ; rw [c.esc]; exact hg) (by rw [c.emg]; exact hm) ?_ hdb)
 have hA:bA c.X [.Name y py] σ H (fun vs H1=>vs=[v]∧H1=H):=nQ (bN (c.lC hN hd hcd) dJ (he _)) ⟨_,ev,rfl,rfl⟩
 refine Tj (h₀:=c.X.base) I.ok.mod.kin (by rw [c.eK]; exact hk) (bJ (hA cp aa s' I) fun us s1 ⟨vs,H1,I1,rv,e1,e2⟩=>⟨I1.oU,?_⟩) (he _) (hpl _)
 subst e1 e2
 have hF2:bx c.X.prog c.X.w c.X.K c.X.mg c.X.base (dH c.X.prog c.X.w) k f fd ps (KO c.X.K ok):=by rw [c.eP,c.ew,c.eK,c.emg,c.eb]; exact hF.mono hj
 have qx:KO c.X.K ok [v] H1 (fun _ H'=>D.nx σ H') (fun _ _ _=>False):=by
  refine ⟨Hf,sU,v,fp,rfl,S.sb,hu rf,nd,hok,fun H' aj g=>?_⟩
  refine o.nx σ H' aj ρ' ?_ hn
  rw [hs'.eq]
  exact S.Mm h1 rf hfr g
 have hl:us.length=ps.length:=by rw [← rv.length]; exact hF2.len _ _ _ _ qx
 have hb':Binds c.X.K fd ps []:=by rw [c.eK]; exact hb
 have hb2:=hb' s1 us I1.oU (by simpa using hl)
 rw [P1] at hb2
 refine R1 (RY (hF2.run c.X.A c.X.stack s1 H1 ⟨us,[]⟩ us _ _ _ c.room I1.Ej hb2 rv qx) fun r' s' hq=>?_)
 cases r' with
 | error e =>
  obtain ⟨a,C,H',rfl,hE,h⟩:=hq
  exact h.elim
 | ok fl =>
  cases fl with
  | ret u=>exact I1.after hq
  | next=>exact PZ hq
  | brk=>exact PZ hq
  | cont=>exact PZ hq
theorem CD (hN:At N i x) (h:dD c e ρ fun r=>∃ dss:List (List D),r=.fo (.t (dss.map .l))∧∀ L:List (Addr×List D),L.map (·.2)=dss→(∀ (j:Nat) (L0:List (Addr×List D)),ρ[j]?=some (.fo (.t (d7 L0)))→∀ x∈L,∀ y∈L0,x.1≠y.1)→Nx ρ i nx (.fo (.t (d7 L))))
 (hs:∀ env,swapsWith e (some (.Name x pos2)) pos.line env=pure false:=by intro _; walk_at "u") (hf:bk=false∨sc.names.lookup x=some .local:=by first | exact .inl rfl | exact .inr (by walk_at "u")):eV c (.Assign [.Name x pos2] e pos) ρ nx p:=fun σ H Hf D S o =>
 dQ (zV (X:=c.X) (i:=i) (by rw [c.eN]; exact c.nd) (by rw [c.eN]; exact hN.get) (by rw [c.esc]; exact c.vis x hN.mem) dB (hs _) (c.fn x hf)) (h σ H Hf _ S fun r v H' aj ⟨dss,er,hx⟩ rs g=>by
  subst er
  obtain ⟨fp,rf,nd,fr⟩:=rs
  simp only [aN] at rf
  obtain ⟨a,xs,ea,h1,h2⟩:=rf
  obtain ⟨L,eL,h3⟩:=au.tag h2
  have rf':aN c.X.K H' aj (.t (d7 L)) v fp:=by simp only [aN]; exact ⟨a,xs,ea,h1,h3⟩
  obtain ⟨ρ',hs',hn⟩:=hx L eL fun j L0 hj x hx y hy z=>by
   obtain ⟨v0,_,fp0,rf0,_,_⟩:=S.at_ j _ hj (by intro z; cases z)
   have hz:=aN.fz _ rf0
   have mx:x.1∈fp.map (·.1):=by rw [rf'.addrs]; exact Pa.mpr ⟨x,hx,rfl⟩
   have my:y.1∈fp0.map (·.1):=by rw [rf0.addrs]; exact Pa.mpr ⟨y,hy,rfl⟩
   obtain ⟨px,hpx,ex⟩:=Pa.mp mx
   obtain ⟨py,hpy,ey⟩:=Pa.mp my
   have q1:=fr px hpx
   have q2:=(hz py hpy).1
   rw [ex,z,← ey,q2] at q1
   cases q1
  exact o.nx _ H' aj _ (hs'.eq ▸ S.set (r:=.fo (.t (d7 L))) g ⟨fp,rf',nd,fr⟩) hn)
end
end EV
namespace My
open PySem PySem.Spec PyProof.Rows L2 EV
noncomputable abbrev top (i:Nat):Stmt:=PySem.Challenge.pw_everydraw_k26_meets_again.main.body.getD i (.Pass ⟨0,0,0,0⟩)
noncomputable abbrev iQ:=top 2
theorem u0:aE ["powers","end"] ["powers"] (ah iQ):=⟨rfl,rfl,rfl,by decide +kernel,rfl,by decide +kernel,by decide +kernel⟩
theorem u5:∀ x∈(["powers","end"]:List Str),L2.Loc (ah iQ) x:=by unfold L2.Loc; decide +kernel
noncomputable abbrev cL:=top 3
theorem iR:aE ["some","greatest","powers","number","k","power"] ["some"] (ah cL):=⟨rfl,rfl,rfl,by decide +kernel,rfl,by decide +kernel,by decide +kernel⟩
theorem iS:∀ x∈(["some","greatest","powers","number","k","power"]:List Str),L2.Loc (ah cL) x:=by unfold L2.Loc; decide +kernel
noncomputable abbrev jW:=top 4
theorem zb:aE ["powers","width","key","power"] ["powers","width"] (ah jW):=⟨rfl,rfl,rfl,by decide +kernel,rfl,by decide +kernel,by decide +kernel⟩
theorem zc:∀ x∈(["powers","width","key","power"]:List Str),L2.Loc (ah jW) x:=by unfold L2.Loc; decide +kernel
noncomputable abbrev fU:=top 5
theorem p7:aE ["key","width","mask"] ["key","width"] (ah fU):=⟨rfl,rfl,rfl,by decide +kernel,rfl,by decide +kernel,by decide +kernel⟩
theorem p8:∀ x∈(["key","width","mask"]:List Str),L2.Loc (ah fU) x:=by unfold L2.Loc; decide +kernel
noncomputable abbrev jX:=top 6
theorem zd:aE ["some","width"] ["some","width"] (ah jX):=⟨rfl,rfl,rfl,by decide +kernel,rfl,by decide +kernel,by decide +kernel⟩
theorem ze:∀ x∈(["some","width"]:List Str),L2.Loc (ah jX) x:=by unfold L2.Loc; decide +kernel
noncomputable abbrev gI:=top 7
theorem sO:aE ["total","width"] ["total","width"] (ah gI):=⟨rfl,rfl,rfl,by decide +kernel,rfl,by decide +kernel,by decide +kernel⟩
theorem sP:∀ x∈(["total","width"]:List Str),L2.Loc (ah gI) x:=by unfold L2.Loc; decide +kernel
noncomputable abbrev dP:=top 8
theorem ku:aE ["total","left","right","key","number","shift","part","whole"] ["total","left","right"] (ah dP):=⟨rfl,rfl,rfl,by decide +kernel,rfl,by decide +kernel,by decide +kernel⟩
theorem kB:∀ x∈(["total","left","right","key","number","shift","part","whole"]:List Str),L2.Loc (ah dP) x:=by unfold L2.Loc; decide +kernel
noncomputable abbrev gJ:=top 10
theorem sQ:aE ["parts","most","part"] ["parts"] (ah gJ):=⟨rfl,rfl,rfl,by decide +kernel,rfl,by decide +kernel,by decide +kernel⟩
theorem sR:∀ x∈(["parts","most","part"]:List Str),L2.Loc (ah gJ) x:=by unfold L2.Loc; decide +kernel
noncomputable abbrev gK:=top 11
theorem sS:aE ["whole","part","width","factors","left","right","product"] ["whole","part","width"] (ah gK):=⟨rfl,rfl,rfl,by decide +kernel,rfl,by decide +kernel,by decide +kernel⟩
theorem sV:∀ x∈(["whole","part","width","factors","left","right","product"]:List Str),L2.Loc (ah gK) x:=by unfold L2.Loc; decide +kernel
noncomputable abbrev fh:=top 12
theorem nc:aE ["parts","width","whole","part"] ["parts"] (ah fh):=⟨rfl,rfl,rfl,by decide +kernel,rfl,by decide +kernel,by decide +kernel⟩
theorem ng:∀ x∈(["parts","width","whole","part"]:List Str),L2.Loc (ah fh) x:=by unfold L2.Loc; decide +kernel
noncomputable abbrev fV:=top 13
theorem p9:aE ["k"] ["k"] (ah fV):=⟨rfl,rfl,rfl,by decide +kernel,rfl,by decide +kernel,by decide +kernel⟩
theorem qa:∀ x∈(["k"]:List Str),L2.Loc (ah fV) x:=by unfold L2.Loc; decide +kernel
noncomputable abbrev fj:=top 15
theorem nh:aE ["total","o"] ["total","o"] (ah fj):=⟨rfl,rfl,rfl,by decide +kernel,rfl,by decide +kernel,by decide +kernel⟩
theorem ni:∀ x∈(["total","o"]:List Str),L2.Loc (ah fj) x:=by unfold L2.Loc; decide +kernel
noncomputable abbrev jY:=top 16
theorem zf:aE ["total","v"] ["total","v"] (ah jY):=⟨rfl,rfl,rfl,by decide +kernel,rfl,by decide +kernel,by decide +kernel⟩
theorem zg:∀ x∈(["total","v"]:List Str),L2.Loc (ah jY) x:=by unfold L2.Loc; decide +kernel
noncomputable abbrev cE:=top 17
theorem iB:aE ["total","v","i"] ["total","v","i"] (ah cE):=⟨rfl,rfl,rfl,by decide +kernel,rfl,by decide +kernel,by decide +kernel⟩
theorem iC:∀ x∈(["total","v","i"]:List Str),L2.Loc (ah cE) x:=by unfold L2.Loc; decide +kernel
noncomputable abbrev fk:=top 18
theorem nj:aE ["total","v","l","i","six","polar","g","h"] ["total","v","l","i"] (ah fk):=⟨rfl,rfl,rfl,by decide +kernel,rfl,by decide +kernel,by decide +kernel⟩
theorem nk:∀ x∈(["total","v","l","i","six","polar","g","h"]:List Str),L2.Loc (ah fk) x:=by unfold L2.Loc; decide +kernel
noncomputable abbrev fW:=top 19
theorem qb:aE ["total","v","i","t"] ["total","v","i","t"] (ah fW):=⟨rfl,rfl,rfl,by decide +kernel,rfl,by decide +kernel,by decide +kernel⟩
theorem qe:∀ x∈(["total","v","i","t"]:List Str),L2.Loc (ah fW) x:=by unfold L2.Loc; decide +kernel
noncomputable abbrev gM:=top 20
theorem sW:aE ["o"] ["o"] (ah gM):=⟨rfl,rfl,rfl,by decide +kernel,rfl,by decide +kernel,by decide +kernel⟩
theorem sX:∀ x∈(["o"]:List Str),L2.Loc (ah gM) x:=by unfold L2.Loc; decide +kernel
noncomputable abbrev eG:=top 21
theorem mC:aE ["v","l","i"] ["v","l","i"] (ah eG):=⟨rfl,rfl,rfl,by decide +kernel,rfl,by decide +kernel,by decide +kernel⟩
theorem mD:∀ x∈(["v","l","i"]:List Str),L2.Loc (ah eG) x:=by unfold L2.Loc; decide +kernel
noncomputable abbrev fm:=top 22
theorem nv:aE ["v","i","t"] ["v","i","t"] (ah fm):=⟨rfl,rfl,rfl,by decide +kernel,rfl,by decide +kernel,by decide +kernel⟩
theorem ny:∀ x∈(["v","i","t"]:List Str),L2.Loc (ah fm) x:=by unfold L2.Loc; decide +kernel
noncomputable abbrev fX:=top 24
theorem qf:aE ["_law_script","_law_k"] ["_law_script","_law_k"] (ah fX):=⟨rfl,rfl,rfl,by decide +kernel,rfl,by decide +kernel,by decide +kernel⟩
theorem qg:∀ x∈(["_law_script","_law_k"]:List Str),L2.Loc (ah fX) x:=by unfold L2.Loc; decide +kernel
noncomputable abbrev gP:=top 25
theorem sY:aE ["_law_script","_law_k","_law_cell","_law_number"] ["_law_script","_law_k"] (ah gP):=⟨rfl,rfl,rfl,by decide +kernel,rfl,by decide +kernel,by decide +kernel⟩
theorem sZ:∀ x∈(["_law_script","_law_k","_law_cell","_law_number"]:List Str),L2.Loc (ah gP) x:=by unfold L2.Loc; decide +kernel
noncomputable abbrev iT:=top 26
theorem u6:aE ["_law_terms_here","_law_found","_law_powers","_law_number","_law_key"] ["_law_terms_here"] (ah iT):=⟨rfl,rfl,rfl,by decide +kernel,rfl,by decide +kernel,by decide +kernel⟩
theorem u7:∀ x∈(["_law_terms_here","_law_found","_law_powers","_law_number","_law_key"]:List Str),L2.Loc (ah iT) x:=by unfold L2.Loc; decide +kernel
noncomputable abbrev fY:=top 27
theorem qh:aE ["_law_factors","_law_found","_law_some_here","_law_terms_here","_law_powers","_law_number","_law_other","_law_count","_law_wide","_law_one","_law_two"] ["_law_factors"] (ah fY):=⟨rfl,rfl,rfl,by decide +kernel,rfl,by decide +kernel,by decide +kernel⟩
theorem qi:∀ x∈(["_law_factors","_law_found","_law_some_here","_law_terms_here","_law_powers","_law_number","_law_other","_law_count","_law_wide","_law_one","_law_two"]:List Str),L2.Loc (ah fY) x:=by unfold L2.Loc; decide +kernel
noncomputable abbrev mE:=top 28
theorem CF:aE ["_law_parts","_law_terms_here","_law_number","_law_factors"] ["_law_parts"] (ah mE):=⟨rfl,rfl,rfl,by decide +kernel,rfl,by decide +kernel,by decide +kernel⟩
theorem CG:∀ x∈(["_law_parts","_law_terms_here","_law_number","_law_factors"]:List Str),L2.Loc (ah mE) x:=by unfold L2.Loc; decide +kernel
noncomputable abbrev jZ:=top 29
theorem zh:aE ["_law_number","_law_terms_here","_law_many","_law_k","_law_powers","_law_count"] ["_law_number"] (ah jZ):=⟨rfl,rfl,rfl,by decide +kernel,rfl,by decide +kernel,by decide +kernel⟩
theorem zj:∀ x∈(["_law_number","_law_terms_here","_law_many","_law_k","_law_powers","_law_count"]:List Str),L2.Loc (ah jZ) x:=by unfold L2.Loc; decide +kernel
noncomputable abbrev gQ:=top 30
theorem tu:aE ["_law_script","_law_at","_law_many"] ["_law_script","_law_at","_law_many"] (ah gQ):=⟨rfl,rfl,rfl,by decide +kernel,rfl,by decide +kernel,by decide +kernel⟩
theorem tw:∀ x∈(["_law_script","_law_at","_law_many"]:List Str),L2.Loc (ah gQ) x:=by unfold L2.Loc; decide +kernel
noncomputable abbrev gR:=top 31
theorem tD:aE ["_law_told"] ["_law_told"] (ah gR):=⟨rfl,rfl,rfl,by decide +kernel,rfl,by decide +kernel,by decide +kernel⟩
theorem tE:∀ x∈(["_law_told"]:List Str),L2.Loc (ah gR) x:=by unfold L2.Loc; decide +kernel
noncomputable abbrev iU:=top 32
theorem u9:aE ["_law_some_here","_law_term","_law_number"] ["_law_some_here"] (ah iU):=⟨rfl,rfl,rfl,by decide +kernel,rfl,by decide +kernel,by decide +kernel⟩
theorem vc:∀ x∈(["_law_some_here","_law_term","_law_number"]:List Str),L2.Loc (ah iU) x:=by unfold L2.Loc; decide +kernel
noncomputable abbrev j0:=top 33
theorem zk:aE ["_law_found","_law_due_here","_law_k"] ["_law_found","_law_due_here"] (ah j0):=⟨rfl,rfl,rfl,by decide +kernel,rfl,by decide +kernel,by decide +kernel⟩
theorem zm:∀ x∈(["_law_found","_law_due_here","_law_k"]:List Str),L2.Loc (ah j0) x:=by unfold L2.Loc; decide +kernel
noncomputable abbrev iV:=top 34
theorem vd:aE ["_law_found","_law_some_here"] ["_law_found"] (ah iV):=⟨rfl,rfl,rfl,by decide +kernel,rfl,by decide +kernel,by decide +kernel⟩
theorem ve:∀ x∈(["_law_found","_law_some_here"]:List Str),L2.Loc (ah iV) x:=by unfold L2.Loc; decide +kernel
noncomputable abbrev mF:=top 35
theorem CH:aE ["_law_v","_law_a","_law_b","_law_i","_law_x","_law_y","_law_w","_law_one","_law_two","_law_bend","_law_reach","_law_first"] ["_law_v","_law_a","_law_b","_law_i"] (ah mF):=⟨rfl,rfl,rfl,by decide +kernel,rfl,by decide +kernel,by decide +kernel⟩
theorem CI:∀ x∈(["_law_v","_law_a","_law_b","_law_i","_law_x","_law_y","_law_w","_law_one","_law_two","_law_bend","_law_reach","_law_first"]:List Str),L2.Loc (ah mF) x:=by unfold L2.Loc; decide +kernel
noncomputable abbrev vf:=top 36
theorem JJ:aE ["_law_script","_law_v","_law_l","_law_i","_law_t","_law_free","_law_handed","_law_k","_law_again","_law_roll"] ["_law_script"] (ah vf):=⟨rfl,rfl,rfl,by decide +kernel,rfl,by decide +kernel,by decide +kernel⟩
theorem JK:∀ x∈(["_law_script","_law_v","_law_l","_law_i","_law_t","_law_free","_law_handed","_law_k","_law_again","_law_roll"]:List Str),L2.Loc (ah vf) x:=by unfold L2.Loc; decide +kernel
local macro_rules | `(tactic| walk_at "side")=> `(tactic| first | omega | assumption | exact lH | exact gr (QM rfl) | exact AE (by decide) (by decide +kernel) | (show t8 _ _; exact ⟨by decide,by decide,by decide +kernel⟩))
local macro_rules | `(tactic| walk_at "at")=> `(tactic| with_reducible (repeat (first | exact At.z | apply At.s)))
local macro_rules | `(tactic| walk_at "sset")=> `(tactic| with_reducible (repeat (first | exact SSet.z | apply SSet.s)))
local macro_rules | `(tactic| walk_at "atI")=> `(tactic| first | assumption | rfl)
local macro_rules | `(tactic| walk_at "own")=> `(tactic| walk_at "u")
local macro_rules | `(tactic| walk_at "evSs")=> `(tactic| first
 | with_reducible refine aO ?_
 | with_reducible refine uq ?_)
local macro_rules | `(tactic| walk_at "evS")=> `(tactic| first
 | ((with_reducible show eV _ (Ug [O7 _ _] _ _) _ _ _); with_reducible refine AD (by walk_at "at") ?_)
 | ((with_reducible show eV _ (Stmt.If _ _ _ _) _ _ _); walk_at "evIf")
 | ((with_reducible show eV _ (Stmt.Expr _ _) _ _ _); walk_at "evXp")
 | ((with_reducible show eV _ (SI (some (O7 _ _)) _) _ _ _); with_reducible refine AB (by walk_at "at") (by walk_at "at") rfl ?_)
 | ((with_reducible show eV _ (SI (some _) _) _ _ _); with_reducible refine dR ?_)
 | ((with_reducible show eV _ (SI none _) _ _ _); with_reducible refine s_retN ?_)
 | ((with_reducible show eV _ (TY (O7 _ _) Ua _ _) _ _ _); with_reducible refine s_addq (by walk_at "at") (by walk_at "at") ?_)
 | ((with_reducible show eV _ (TY (O7 _ _) Operator.Sub _ _) _ _ _); with_reducible refine Iw (by walk_at "at") (by walk_at "at") ?_)
 | ((with_reducible show eV _ (TY (QI (O7 _ _) _ _) Ua _ _) _ _ _); with_reducible refine wg (by walk_at "at") (by walk_at "at") ?_)
 | ((with_reducible show eV _ (Ug [RA [O7 _ _,O7 _ _] _ _] (RA [_,_] _ _) _) _ _ _); with_reducible refine s_par (by walk_at "at") (by walk_at "at") (by decide) ?_)
 | ((with_reducible show eV _ (Ug [RA _ _ _] _ _) _ _ _); with_reducible refine LF ?_)
 | ((with_reducible show eV _ (Ug [QI (O7 _ _) _ _] _ _) _ _ _); walk_at "evPut")
 | with_reducible refine s_break ?_
 | with_reducible refine s_continue ?_
 | with_reducible refine s_pass ?_)
local macro_rules | `(tactic| walk_at "evIf")=> `(tactic| with_reducible refine Iu ?_)
local macro_rules | `(tactic| walk_at "evXp")=> `(tactic| with_reducible refine uu (by walk_at "at") (by walk_at "at") (by walk_at "own") ?_)
local macro_rules | `(tactic| walk_at "evPut")=> `(tactic| with_reducible refine IS (by walk_at "at") (by walk_at "at") ?_ (ho:=by walk_at "own"))
local macro_rules | `(tactic| walk_at "evK")=> `(tactic| first
 | with_reducible refine Lo ?_
 | with_reducible refine NT ?_
 | with_reducible refine e_non ?_
 | with_reducible refine e_str ?_)
local macro_rules | `(tactic| walk_at "evCm")=> `(tactic| first
 | with_reducible refine e_isN ?_
 | with_reducible refine e_notN ?_
 | with_reducible refine e_lt ?_
 | with_reducible refine N1 ?_
 | with_reducible refine e_ne ?_)
local macro_rules | `(tactic| walk_at "evIx")=> `(tactic| first
 | ((with_reducible show aJ _ (QI _ (Expr.Slice _ _ _ _) _) _ _); with_reducible refine AZ ?_)
 | ((with_reducible show aJ _ (QI (O7 _ _) _ _) _ _); with_reducible refine LQ (by walk_at "at") (by walk_at "at") (by walk_at "own") (by walk_at "sset") ?_ (by walk_at "at"))
 | ((with_reducible show aJ _ (QI (O7 _ _) _ _) _ _); with_reducible refine e_dix (by walk_at "at") (by walk_at "at") ?_)
 | with_reducible refine GN ?_)
local macro_rules | `(tactic| walk_at "evBo")=> `(tactic| first
 | with_reducible refine IK ?_
 | with_reducible refine Lu ?_
 | with_reducible refine Lv ?_
 | with_reducible refine Lw ?_
 | with_reducible refine Iq ?_
 | with_reducible refine Lx ?_)
local macro_rules | `(tactic| walk_at "evCa")=> `(tactic| first
 | ((with_reducible show aJ _ (PX (Expr.Attribute _ _ _) _ _ _) _ _); walk_at "evMt")
 | ((with_reducible show aJ _ (PX (O7 "isinstance" _) _ _ _) _ _); first
  | with_reducible refine o9 (Txt.isin (by assumption)) (Txt.LR (by assumption)) ?_
  | with_reducible refine o9 (Txt.isin (by assumption)) (Txt.E3 (by assumption)) ?_
  | with_reducible refine o9 (Txt.isin (by assumption)) (Txt.IV (by assumption)) ?_
  | with_reducible refine o9 (Txt.isin (by assumption)) (Txt.IU (by assumption)) ?_)
 | ((with_reducible show aJ _ (PX (O7 "len" _) _ _ _) _ _); first
  | ((with_reducible show aJ _ (PX _ [O7 _ _] _ _) _ _); with_reducible refine e_lenO (Txt.len (by assumption)) (by walk_at "at") (by walk_at "at") (by walk_at "own") (by walk_at "sset") ?_)
  | with_reducible refine e_len (Txt.len (by assumption)) ?_)
 | ((with_reducible show aJ _ (PX (O7 "tuple" _) _ _ _) _ _); first
  | ((with_reducible show aJ _ (PX _ [O7 _ _] _ _) _ _); with_reducible refine e_tupleO (Txt.tuple (by assumption)) (by walk_at "at") (by walk_at "at") (by walk_at "own") (by walk_at "sset") ?_)
  | with_reducible refine kH (Txt.tuple (by assumption)) ?_)
 | ((with_reducible show aJ _ (PX (O7 "abs" _) _ _ _) _ _); with_reducible refine e_abs (Txt.abs (by assumption)) ?_)
 | ((with_reducible show aJ _ (PX (O7 "int" _) _ _ _) _ _); with_reducible refine e_intB (Txt.int (by assumption)) ?_))
local macro_rules | `(tactic| walk_at "evMt")=> `(tactic| with_reducible refine IQ (by walk_at "at") (by walk_at "at") ?_ (ho:=by walk_at "own"))
local macro_rules | `(tactic| walk_at "evE")=> `(tactic| first
 | ((with_reducible show aJ _ (O7 _ _) _ _); with_reducible refine nS (by walk_at "at") (by walk_at "at") ?_)
 | ((with_reducible show aJ _ (Expr.Constant _ _ _) _ _); walk_at "evK")
 | ((with_reducible show aJ _ (PX _ _ _ _) _ _); walk_at "evCa")
 | ((with_reducible show aJ _ (QI _ _ _) _ _); walk_at "evIx")
 | ((with_reducible show aJ _ (R6 _ _ _ _) _ _); walk_at "evBo")
 | ((with_reducible show aJ _ (Expr.Compare _ _ _ _) _ _); walk_at "evCm")
 | with_reducible refine GJ ?_
 | with_reducible refine IL ?_
 | with_reducible refine Ly ?_
 | with_reducible refine e_not ?_
 | with_reducible refine e_and ?_
 | with_reducible refine e_or ?_
 | with_reducible refine e_one ?_
 | with_reducible refine EL ?_)
local macro_rules | `(tactic| walk_at "evX")=> `(tactic| first
 | ((with_reducible show dD _ (Expr.List _ _) _ _); with_reducible refine GK ?_)
 | ((with_reducible show dD _ (PX _ _ _ _) _ _); walk_at "evXC")
 | ((with_reducible show dD _ (R6 _ Ua _ _) _ _); with_reducible refine AS ?_)
 | ((with_reducible show dD _ (QI _ (Expr.Slice _ _ _ _) _) _ _); with_reducible refine v9 ?_)
 | with_reducible refine KJ ?_)
local macro_rules | `(tactic| walk_at "evXC")=> `(tactic| first
 | ((with_reducible show dD _ (PX (O7 "list" _) _ _ _) _ _); first
  | ((with_reducible show dD _ (PX _ [O7 _ _] _ _) _ _); with_reducible refine x_listO (Txt.list (by assumption)) (by walk_at "at") (by walk_at "at") (by walk_at "own") (by walk_at "sset") ?_)
  | with_reducible refine AO (Txt.list (by assumption)) ?_)
 | with_reducible refine KJ ?_)
local macro_rules | `(tactic| walk_at "evT")=> `(tactic| first
 | ((with_reducible show jI _ (Expr.Compare _ _ _ _) _ _); first
  | with_reducible refine t_isN ?_
  | with_reducible refine t_notN ?_
  | with_reducible refine NZ ?_
  | with_reducible refine NY ?_
  | with_reducible refine NU ?_
  | with_reducible refine t_le ?_
  | with_reducible refine NV ?_
  | with_reducible refine NW ?_
  | with_reducible refine GQ (by walk_at "at") (by walk_at "at") ?_
  | with_reducible refine t_dnotin (by walk_at "at") (by walk_at "at") ?_)
 | with_reducible refine LB ?_
 | with_reducible refine Oo (w_and ?_)
 | with_reducible refine Oo (w_or ?_)
 | with_reducible refine LC ?_)
local macro_rules | `(tactic| walk_at "evW")=> `(tactic| first
 | with_reducible refine w_and ?_
 | with_reducible refine w_or ?_
 | with_reducible refine Ir ?_
 | with_reducible refine LA ?_)
local macro_rules | `(tactic| walk_at "evG")=> `(tactic| first
 | ((with_reducible show nR _ (O7 _ _) _ _ _); with_reducible refine dM (by walk_at "at") ?_)
 | with_reducible refine LD rfl (by walk_at "u") ?_)
local macro_rules | `(tactic| walk_at "evGs")=> `(tactic| first
 | with_reducible refine Iv ?_
 | ((with_reducible show ya _ (_::_) _ _ _); with_reducible refine EM (by walk_at "at") ?_))
local macro_rules | `(tactic| walk_at "evL")=> `(tactic| first
 | ((with_reducible show Nx _ _ _ _); with_reducible refine qQ (by walk_at "sset") ?_)
 | ((with_reducible show Sd _ _); first | with_reducible refine Sd.mk (by walk_at "side") ?_ | with_reducible refine Sd.mk ?_ ?_)
 | ((with_reducible show o8 _ _ _); first
  | with_reducible refine Lq ?_
  | with_reducible refine Lr ?_
  | with_reducible refine EF ?_
  | with_reducible refine EE (fun h=>?_) (fun h=>?_)
  | with_reducible refine if2 (fun h=>?_) (fun h=>?_))
 | with_reducible refine i2 ?_
 | with_reducible refine i1 ?_
 | with_reducible refine b1 ?_
 | ((with_reducible show EG _ _ _); first
  | with_reducible refine EH ?_
  | with_reducible refine eqp_bl ?_
  | with_reducible refine eqp_str ?_)
 | ((with_reducible show lB _ _ _); first
  | with_reducible refine A0 ?_
  | with_reducible refine A1 ?_
  | with_reducible refine A2 ?_)
 | ((with_reducible show GH _ _); first
  | with_reducible refine qV ?_
  | with_reducible refine cj ?_)
 | ((with_reducible show IsN _ _); first
  | with_reducible refine isn_t ?_
  | with_reducible refine isn_f (by intro q; cases q) ?_)
 | ((with_reducible show KL _ _ _); first
  | refine jc (by rfl) ?_
  | refine AL (by rfl) ?_)
 | ((with_reducible show IG _ _ _ _); first
  | with_reducible refine EV.IG.lst ?_
  | with_reducible refine EV.IG.tup ?_)
 | ((with_reducible show ∃ ys,D.row _=some ys∧_); refine A3 (by rfl) ?_)
 | ((with_reducible show ∃ t b,yc _ _ t∧_); first
  | with_reducible refine IM .int IW ?_
  | with_reducible refine IM .int (Txt.ib (by assumption)) ?_
  | with_reducible refine IM .bl kit_bb ?_
  | with_reducible refine IM .lst IY ?_
  | with_reducible refine IM .tup IX ?_)
 | ((with_reducible show ∃ j d,D.int _=D.int j∧_); refine ⟨_,_,rfl,(by walk_at "atI"),?_⟩)
 | ((with_reducible show ∃ r,_∧Iz _ _ _ r); walk_at "evR"))
local macro_rules | `(tactic| walk_at "ev1")=> `(tactic| first
 | ((with_reducible show aJ _ _ _ _); walk_at "evE")
 | ((with_reducible show dD _ _ _ _); walk_at "evX")
 | ((with_reducible show jI _ _ _ _); walk_at "evT")
 | ((with_reducible show aS _ _ _ _ _); walk_at "evSs")
 | ((with_reducible show eV _ _ _ _ _); walk_at "evS")
 | ((with_reducible show qO _ _ _ _); first | with_reducible refine cB ?_ | with_reducible refine lz ?_)
 | ((with_reducible show GI _ _ _ _); walk_at "evW")
 | ((with_reducible show nR _ _ _ _ _); walk_at "evG")
 | ((with_reducible show ya _ _ _ _ _); walk_at "evGs")
 | ((with_reducible show DV _ _ _ _); first | with_reducible refine IE ?_ | with_reducible refine IF ?_)
 | walk_at "evL")
local macro_rules | `(tactic| walk_at "ev")=> `(tactic| repeat' (walk_at "ev1"))
section
variable {K:ON}
noncomputable def tF:Fn:=fun ds r=>∃ l:List Int,l.length≤64∧ds=[.tup (l.map .int)]∧r=.ok (.va (.tup ((trim l).map .int)))
theorem JL (h:l.length≤64):tF [.tup (l.map .int)] (.ok (.va (.tup ((trim l).map .int)))):=⟨l,h,rfl,rfl⟩
theorem CJ {cl:List Int} {j:Int} (h0:0≤j) (h1:j<cl.length) (h:R (.int (cl.getD j.toNat 0))):KL (.tup (cl.map D.int)) (.int j) R:=by
 refine jc ?_ h
 rw [g6 h0 (by simpa using h1)]
 have hj:j.toNat<cl.length:=by lia
 simp [OY,hj]
theorem F4 (Fu:fu K "trimmed" "trimmed" iQ f fd) (T:Txt K mg):bx P w K mg base (dH P w) 1 f fd ["powers"] (fE K tF):=by
 refine cR Fu u0 u5 (by rintro ds r ⟨a,_,rfl,_⟩; rfl) (by rintro ds r ⟨a,_,_,rfl⟩; exact ⟨_,rfl⟩) fun c hq ds sl hF=>?_
 obtain ⟨l,hl,rfl,e⟩:=hF
 injection e with e
 subst e
 show aS c _ [.va (.tup (l.map .int)),.un] _ _
 conv in (ay _)=>whnf
 walk_at "ev"
 with_reducible refine vX hq (fun m ρ'=>m≤l.length∧trim (l.take m)=trim l∧ρ'=[.va (.tup (l.map .int)),.va (.int (m:Int))]) (m₀:=l.length) ?_ ?_
 ·refine ⟨OP _,by rw [PU],?_⟩
  rw [OT]
 ·rintro m ρ' ⟨hm,ht,rfl⟩
  walk_at "ev"
  ·refine CJ (by lia) (by lia) ?_
   have hk:((m:Int) - 1).toNat=m - 1:=by lia
   rw [hk]
   have hm1:m - 1+1=m:=by lia
   walk_at "ev"
   ·exact ⟨m - 1,by lia,by lia,ou (by lia) (by assumption) (by rw [hm1]; exact ht),by rw [show ((m - 1:Nat):Int)=(m:Int) - 1 by lia]⟩
   ·show Sl.va _=Sl.va _
    rw [rg,BE _ hm]
    have:=jR (l:=l) (m:=m - 1) (by lia) (by assumption) (by rw [hm1]; exact ht)
    rw [hm1] at this
    rw [this]
  ·show Sl.va _=Sl.va _
   have:m=0:=by lia
   subst this
   rw [rg,BE _ hm,← ht]
   rfl
theorem j3 (x):(aP x).nl:=uB (by unfold D.qu; exact ⟨uB (E2 _),dW (f:=D.int) (l:=[x.2]) fun _ _=>lH⟩)
noncomputable def F5 (t:aG):Option D:=if t.2≠0 then some (aP t) else none
theorem kQ:∀ L:List aG,(L.map F5).filterMap id=(nz L).map aP
 | []=>rfl
 | t::L=>by
  unfold nz
  by_cases h:t.2=0
  ·simp only [OS,F5,h,ne_eq,not_true,if_false,Qm,id,List.filter_cons,bne_self_eq_false,PR]
   exact kQ L
  ·have hb:(t.2 != 0)=true:=by simpa using h
   rw [List.filter_cons,if_pos hb,OS,OS,Qm]
   simp only [F5,ne_eq,h,not_false_eq_true,if_true,id]
   rw [kQ L]; rfl
noncomputable def qj:Fn:=fun ds r=>∃ ts:List aG,ts.length≤20000∧(∀ t∈ts,t.1.length≤64)∧ds=[.lst (ts.map aP)]∧r=.ok (.ow ((fJ (nz (aL ts))).map aP))
theorem vg (h:ts.length≤20000) (h2:∀ t∈ts,t.1.length≤64):qj [.lst (ts.map aP)] (.ok (.ow ((fJ (nz (aL ts))).map aP))):=⟨ts,h,h2,rfl,rfl⟩
theorem CK (l m):cX (l,0) (m,0)=HT.lexLt l m:=by
 unfold cX
 by_cases e:l=m
 ·subst e; rw [if_pos rfl,EV.kM]; rfl
 ·rw [if_neg e]
theorem vh (hk:(A.map (·.1)).Nodup) (hp:L.Perm (A.map (·.1))) (hs:fR HT.lexLt false L):L.reverse=(fJ A).map (·.1):=by
 have h:(L.reverse.map fun l=>((l,0):aG))=((fJ A).map (·.1)).map fun l=>((l,0):aG):=by
  refine l5 (((Tv L).trans (hp.trans ((bF A).map _).symm)).map _) ?_ ?_
  ·unfold jo fR at *
   rw [QS,List.pairwise_reverse]
   exact hs.imp fun h=>by simpa [CK] using h
  ·have ho:jo true (fJ A):=ir (keys_nodup hk)
   have hn:((fJ A).map (·.1)).Nodup:=((bF A).map _).nodup_iff.mpr hk
   unfold jo fR SJ at *
   rw [QS] at hn
   rw [QS,QS]
   refine ho.imp₂ (fun x y h q=>?_) hn
   simp only [if_true] at h ⊢
   rw [CK]
   unfold cX at h
   rw [if_neg fun z=>q z.symm] at h
   exact h
 have:=congrArg (List.map (·.1)) h
 rw [Pb,Pb] at this
 exact ((List.map_id _).symm.trans this).trans (List.map_id _)
theorem CL {l:List Int} (h:m<l.length):kE ((l.take (m+1)).map D.int) (-1)=some (.int (l.getD m 0)):=by
 have hl:(l.take (m+1)).length=m+1:=by simp; lia
 rw [wz (by decide) (by simp only [OT,hl]; lia),OT,hl]
 have e:(-1+((m+1:Nat):Int)).toNat=m:=by lia
 rw [e,OY,List.getElem?_take]
 simp [P8,h]
theorem JM (xs:List α):EV.cutD xs none (some (-1))=xs.dropLast:=by
 unfold EV.cutD HT.cg
 rw [List.dropLast_eq_take]
 simp only [List.drop_zero]
 congr 1
 split <;> lia
section
local macro_rules | `(tactic| walk_at "evIx")=> `(tactic| first | ((with_reducible show aJ _ (QI _ (O7 _ _) _) _ _); with_reducible refine JI ?_))
local macro_rules | `(tactic| walk_at "evX")=> `(tactic| first | ((with_reducible show dD _ (Expr.Dict _ _ _) _ _); with_reducible refine EX ?_))
theorem CM (Fu:fu K "_law_plain" "_law_plain" iT f fd) (T:Txt K mg):bx P w K mg base (dH P w) 1 f fd ["_law_terms_here"] (fE K qj):=by
 refine cR Fu u6 u7 (by rintro ds r ⟨n,_,_,rfl,_⟩; rfl) (by rintro ds r ⟨n,_,_,_,rfl⟩; exact ⟨_,rfl⟩) fun c hq ds sl hF=>?_
 obtain ⟨ts,hl,hlen,rfl,e⟩:=hF
 injection e with e
 subst e
 show aS c _ [.va (.lst (ts.map aP)),.un,.un,.un,.un] _ _
 conv in (ay _)=>whnf
 walk_at "ev"
 with_reducible refine cS hq (cA ?_)
 walk_at "ev"
 refine ⟨fun i ρ'=>∃ s2 s3 s4:Sl,ρ'=[.va (.lst (ts.map aP)),.oT (encA (aL (ts.take i))),s2,s3,s4],⟨_,_,_,rfl⟩,?_,?_⟩
 ·rintro c' oQ zH zI i d ρ' hd ⟨s2,s3,s4,rfl⟩
  simp only [OY,O4] at hd
  obtain ⟨t,ht,rfl⟩:=hd
  obtain ⟨hi,rfl⟩:=OZ.mp ht
  have h6:=hlen _ (Pp hi)
  have hsz:(aL (ts.take i)).length<sizeLine:=iP (by have:=ig (ts.take i); rw [P9] at this; lia)
  have e:aL (ts.take (i+1))=putD (aL (ts.take i)) (trim ts[i].1) ((bD (aL (ts.take i)) (trim ts[i].1)).getD 0+ts[i].2):=by
   rw [P0 hi,rX]; rfl
  have hq':c'.X.xe=fun _ _=>False:=by rw [oQ]; exact hq
  generalize aL (ts.take i)=A at hsz e ⊢
  generalize ts[i]=t at h6 e ⊢
  show nR c' _ (D.tup [.tup (t.1.map .int),.int t.2]) _ _
  walk_at "ev"
  with_reducible refine vX hq' (fun m ρ'=>m≤t.1.length∧trim (t.1.take m)=trim t.1∧ρ'=[.va (.lst (ts.map aP)),.oT (encA A),.va (.tup (t.1.map .int)),.va (.int t.2),.va (.tup ((t.1.take m).map .int))]) (m₀:=t.1.length) ?_ ?_
  ·exact ⟨OP _,by rw [PU],by rw [PU]⟩
  ·rintro m ρ' ⟨hm,ht,rfl⟩
   have hL:((t.1.take m).map D.int).length=m:=by simp; lia
   walk_at "ev"
   ·rw [hL] at *
    obtain ⟨n,rfl⟩:∃ n,m=n+1:=⟨m - 1,by omega⟩
    refine jc (CL (by omega)) ?_
    walk_at "ev"
    ·refine ⟨n,by omega,by omega,ou (by omega) (by assumption) ht,?_⟩
     rw [JM,jQ (by omega),Pq,UL,List.dropLast_concat]
    ·have eT:t.1.take (n+1)=trim t.1:=by first | exact jR (by omega) (by assumption) ht | exact (jR (by omega) (by assumption) ht).symm
     rw [eT]
     refine ⟨_,BI (A:=A) rfl _,?_⟩
     rw [rY]
     walk_at "ev"
     refine ⟨_,BJ hsz,?_⟩
     walk_at "ev"
     show ∃ s2 s3 s4:Sl,_=[_,Sl.oT (encA (aL (ts.take (i+1)))),s2,s3,s4]
     rw [e]
     exact ⟨_,_,_,rfl⟩
   ·have:m=0:=by rw [hL] at *; omega
    subst this
    have eT:t.1.take 0=trim t.1:=ht
    rw [eT]
    refine ⟨_,BI (A:=A) rfl _,?_⟩
    rw [rY]
    walk_at "ev"
    refine ⟨_,BJ hsz,?_⟩
    walk_at "ev"
    show ∃ s2 s3 s4:Sl,_=[_,Sl.oT (encA (aL (ts.take (i+1)))),s2,s3,s4]
    rw [e]
    exact ⟨_,_,_,rfl⟩
 ·rintro ρ' ⟨s2,s3,s4,rfl⟩
  rw [OT,PU]
  have hn:=keys_nodup (d9 ts)
  have hn':=d9 ts
  have hle:=ig ts
  with_reducible refine aO ?_
  with_reducible refine dR ?_
  refine uD 1 (by walk_at "at") (encK _) (by walk_at "sset") (ff hq (N':=["_law_key","_law_found"]) (ρ0:=fun _=>[.un,.va (D.fdT ((aL ts).map fun t=>t.1.map O8) ((aL ts).map fun t=>D.int t.2))]) (fun t=>.un (.fr (by walk_at "at") (by walk_at "at") (by decide) rfl .nil)) (cA (e_x (Mi ?_))))
  refine e_x (Cy (Txt.sorted T) ?_)
  walk_at "ev"
  refine ⟨(aL ts).map (·.1),_,by rw [Pb]; rfl,hn',fun L' hp hs=>?_⟩
  have eL:=vh hn' hp hs
  have hpl:=(bF (aL ts)).length_eq
  refine cj ?_
  walk_at "ev"
  refine ⟨rfl,rfl,rfl,_,rfl,?_⟩
  rw [← List.map_reverse,eL]
  refine cj (A3 rfl ⟨pX (by simp only [OT]; omega),(fJ (aL ts)).map F5,by simp,?_,?_⟩)
  ·intro c' hc t i d o hd ho
   simp only [OY,O4] at hd ho
   obtain ⟨n,⟨x,hx,rfl⟩,rfl⟩:=hd
   obtain ⟨x',hx',rfl⟩:=ho
   rw [hx] at hx'; cases hx'
   have hm:x∈aL ts:=(bF (aL ts)).subset (Qc hx)
   have hv:bD (encA (aL ts)) (x.1.map O8)=some (.int x.2):=by
    rw [pO,pW hn' hm]; rfl
   refine dM (by walk_at "at") (qQ (by walk_at "sset") ⟨.un (.same .nil),?_⟩)
   simp only [uA]
   walk_at "ev"
   refine ⟨encA (aL ts),_,_,_,?_,rfl,fH x.1,hv,?_⟩
   ·show _=D.fdT (((aL ts).map _).map _) (((aL ts).map _).map _)
    rw [Pb,Pb]; rfl
   walk_at "ev"
   ·unfold F5; rw [if_neg fun h=>h (by assumption)]
   refine ⟨encA (aL ts),_,_,_,?_,rfl,fH x.1,hv,?_⟩
   ·show _=D.fdT (((aL ts).map _).map _) (((aL ts).map _).map _)
    rw [Pb,Pb]; rfl
   walk_at "ev"
   unfold F5
   rw [if_pos (by assumption)]
  ·rw [kQ,BH (keys_nodup hn')]
   exact ⟨dW fun x _=>j3 x,rfl⟩
end
end
section
variable {K:ON}
noncomputable def F6 (p:List Int) (g:Nat→Int) (k:Nat):Int:=if bU p k>g k then bU p k else g k
noncomputable def gk (L:List aG) (k:Nat):Int:=L.foldl (fun a t=>if bU t.1 k>a then bU t.1 k else a) 0
noncomputable def eO (L:List aG):List Int:=(PF 6).map (gk L)
noncomputable def iW (p:List Int) (g:Nat→Int) (j k:Nat):Int:=if k<j then F6 p g k else g k
theorem xF (L:List aG) (k):∀ a:Int,a≤L.foldl (fun a t=>if bU t.1 k>a then bU t.1 k else a) a:=by
 induction L with
 | nil=>exact fun a=>Qk _
 | cons t L ih =>
  intro a
  rw [Qo]
  refine Pu ?_ (ih _)
  split <;> lia
theorem G8 (L) (k):0≤gk L k:=xF L k 0
theorem F7 (L) (t):gk (L++[t])=F6 t.1 (gk L):=by
 funext k
 unfold gk F6
 rw [UX]; rfl
theorem F8:iW p (gk L) p.length=F6 p (gk L):=by
 funext k
 unfold iW
 split
 ·rfl
 ·unfold F6
  rw [cY (by lia)]
  have:=G8 L k
  rw [if_neg (by lia)]
theorem CN (p) (g):iW p g 0=g:=by funext k; unfold iW; rw [if_neg (by lia)]
noncomputable def fZ (g:Nat→Int):List D:=((PF 6).map g).map D.int
theorem CO (p) (g) (h:j<6) (q:F6 p g j=bU p j):(fZ (iW p g j)).set j (.int (bU p j))=fZ (iW p g (j+1)):=by
 refine TN (by simp [fZ]) fun i h1 h2=>?_
 have hi:i<6:=by simpa [fZ] using h2
 rw [List.getElem_set]
 simp only [fZ,U3,UM]
 unfold iW
 by_cases e:j=i
 ·subst e
  rw [if_pos rfl,if_pos (by lia),q]
 ·rw [if_neg e]
  by_cases z:i<j
  ·rw [if_pos z,if_pos (by lia)]
  ·rw [if_neg z,if_neg (by lia)]
theorem zp (p) (g) (q:F6 p g j=g j):fZ (iW p g j)=fZ (iW p g (j+1)):=by
 unfold fZ
 congr 1
 refine QN fun i _=>?_
 unfold iW
 by_cases z:i<j
 ·rw [if_pos z,if_pos (by lia)]
 ·by_cases e:i=j
  ·subst e; rw [if_neg z,if_pos (by lia),q]
  ·rw [if_neg z,if_neg (by lia)]
theorem F9 (g) {j:Nat} (h:j<6):kE (fZ g) (j:Int)=some (.int (g j)):=by
 rw [g6 (by lia) (by simp [fZ]; lia),Pz]
 simp [fZ,h]
noncomputable def mG:Fn:=fun ds r=>∃ L:List aG,(∀ t∈L,t.1.length≤6)∧ds=[.lst (L.map aP)]∧r=.ok (.ow (fZ (gk L)))
theorem Ga (h:∀ t∈L,t.1.length≤6):mG [.lst (L.map aP)] (.ok (.ow (fZ (gk L)))):=⟨L,h,rfl,rfl⟩
section
local macro_rules | `(tactic| walk_at "evPut")=> `(tactic| with_reducible refine Ji (by walk_at "at") (by walk_at "at") (by walk_at "own") ?_)
local macro_rules | `(tactic| walk_at "evX")=> `(tactic| first | ((with_reducible show dD _ (R6 _ T6 _ _) _ _); with_reducible refine GZ ?_))
local macro_rules | `(tactic| walk_at "evE")=> `(tactic| first | ((with_reducible show aJ _ (O7 "PLACES" _) _ _); with_reducible refine uo (by assumption) ?_))
theorem CP (Fu:fu K "greatest_powers" "greatest_powers" cL f fd) (T:Txt K mg) (PL:∃ tk:Tok,mg "PLACES"=some (.int 6 tk)):bx P w K mg base (dH P w) 1 f fd ["some"] (fE K mG):=by
 obtain ⟨tk,hPL⟩:=PL
 refine cR Fu iR iS (by rintro ds r ⟨L,_,rfl,_⟩; rfl) (by rintro ds r ⟨L,_,_,rfl⟩; exact ⟨_,rfl⟩) fun c hq ds sl hF=>?_
 obtain ⟨L,hl,rfl,e⟩:=hF
 injection e with e
 subst e
 show aS c _ [.va (.lst (L.map aP)),.un,.un,.un,.un,.un] _ _
 conv in (ay _)=>whnf
 walk_at "ev"
 refine ⟨_,rfl,?_⟩
 walk_at "ev"
 ·exact ⟨⟨by decide,by decide⟩,by decide⟩
 walk_at "ev"
 show eV c _ [.va (.lst (L.map aP)),.ow (fZ (gk [])),.un,.un,.un,.un] _ _
 with_reducible refine cS hq (cA ?_)
 walk_at "ev"
 refine ⟨fun i ρ'=>∃ s2 s3 s4 s5:Sl,ρ'=[.va (.lst (L.map aP)),.ow (fZ (gk (L.take i))),s2,s3,s4,s5],⟨_,_,_,_,rfl⟩,?_,?_⟩
 ·rintro c' oQ zH zI i d ρ' hd ⟨s2,s3,s4,s5,rfl⟩
  simp only [OY,O4] at hd
  obtain ⟨t,ht,rfl⟩:=hd
  obtain ⟨hi,rfl⟩:=OZ.mp ht
  have h6:=hl _ (Pp hi)
  have hq':c'.X.xe=fun _ _=>False:=by rw [oQ]; exact hq
  show nR c' _ (D.tup [.tup (L[i].1.map .int),.int L[i].2]) _ _
  walk_at "ev"
  have eg:gk (L.take (i+1))=iW L[i].1 (gk (L.take i)) L[i].1.length:=by rw [P0 hi,F7,F8]
  generalize L[i]=t at h6 eg ⊢
  generalize gk (L.take i)=g at eg ⊢
  with_reducible refine cS hq' (Jm (Txt.enum (by assumption)) ?_)
  walk_at "ev"
  refine ⟨_,rfl,?_⟩
  refine ⟨fun j ρ'=>∃ s4 s5:Sl,ρ'=[.va (.lst (L.map aP)),.ow (fZ (iW t.1 g j)),.va (.tup (t.1.map .int)),.va (.int t.2),s4,s5],⟨s4,s5,by rw [CN]⟩,?_,?_⟩
  ·rintro c2 hcX2 hcR2 hcM2 j d ρ' hd ⟨s4,s5,rfl⟩
   unfold l9 at hd
   simp only [OY,O4,List.getElem?_zipIdx] at hd
   obtain ⟨⟨x,m⟩,⟨y,⟨z,hz,rfl⟩,e⟩,rfl⟩:=hd
   obtain ⟨rfl,rfl⟩:D.int z=x∧0+j=m:=by simpa using e
   obtain ⟨hj,rfl⟩:=OZ.mp hz
   have hj6:j<6:=by lia
   have ha:kE (fZ (iW t.1 g j)) (((0+j:Nat):Int))=some (.int (g j)):=by
    rw [Q8,F9 _ hj6]; unfold iW; rw [if_neg (by lia)]
   have ep:bU t.1 j=t.1[j]:=dN hj
   have hj0:0+j=j:=Q8 j
   rw [hj0] at ha ⊢
   show nR c2 _ (D.tup [.int (j:Nat),.int t.1[j]]) _ _
   walk_at "ev"
   ·refine ⟨j,rfl,⟨by simp [fZ]; lia,?_⟩⟩
    walk_at "ev"
    refine ⟨.va (.int (j:Nat)),.va (.int t.1[j]),?_⟩
    show [_,Sl.ow ((fZ (iW t.1 g j)).set j (.int t.1[j])),_,_,_,_]=_
    rw [← ep,CO t.1 g hj6 (by unfold F6; rw [ep,if_pos (by assumption)])]
   ·refine ⟨.va (.int (j:Nat)),.va (.int t.1[j]),?_⟩
    rw [zp t.1 g (by unfold F6; rw [ep,if_neg (by assumption)])]
  ·rintro ρ' ⟨s4,s5,rfl⟩
   rw [show (l9 (t.1.map D.int)).length=t.1.length by simp [l9]]
   walk_at "ev"
   exact ⟨_,_,_,_,by rw [eg]⟩
 ·rintro ρ' ⟨s2,s3,s4,s5,rfl⟩
  rw [OT,PU]
  walk_at "ev"
  rfl
end
noncomputable def DY (ns:List Int):Int:=ns.foldr max 0
theorem CQ:∀ {ns:List Int} {n:Int},n∈ns→n≤DY ns
 | x::ns,n,h=>by
  show n≤max x (DY ns)
  rcases O5.mp h with rfl | h
  ·lia
  ·have:=CQ h; lia
theorem G9:∀ (ns:List Int),0≤DY ns
 | []=>Qk _
 | x::ns=>by show 0≤max x (DY ns); have:=G9 ns; lia
theorem vm:∀ {ns:List Int} {m:Int},0≤m→(∀ n∈ns,n≤m)→DY ns≤m
 | [],_,h,_=>h
 | x::ns,m,h0,h=>by
  show max x (DY ns)≤m
  have:=vm h0 fun n hn=>h n (O2 _ hn)
  have:=h x O1
  lia
theorem CS (h:m∈eO L) (h2:∀ n∈eO L,n≤m):m=DY (eO L):=by
 have h0:0≤m:=by
  unfold eO at h
  obtain ⟨k,_,rfl⟩:=Pa.mp h
  exact G8 L k
 exact Int.le_antisymm (CQ h) (vm h0 h2)
end
section
variable {K:ON}
noncomputable def CT:Fn:=fun ds r=>∃ (p:List Int) (W:Nat),W≤10∧Bd (2 ^ W) p∧ds=[.tup (p.map .int),.int (W:Nat)]∧r=.ok (.va (.int (pk (2 ^ W) p)))
theorem Mn (h:W≤10) (h2:Bd (2 ^ W) p):CT [.tup (p.map .int),.int (W:Nat)] (.ok (.va (.int (pk (2 ^ W) p)))):=⟨p,W,h,h2,rfl,rfl⟩
section
local macro_rules | `(tactic| walk_at "evE")=> `(tactic| first | ((with_reducible show aJ _ (O7 "PLACES" _) _ _); with_reducible refine uo (by assumption) ?_))
local macro_rules | `(tactic| walk_at "evBo")=> `(tactic| first | with_reducible refine GX ?_ | with_reducible refine GY ?_ | with_reducible refine BN ?_)
theorem JN (Fu:fu K "key_of" "key_of" jW f fd) (T:Txt K mg) (PL:∃ tk:Tok,mg "PLACES"=some (.int 6 tk)):bx P w K mg base (dH P w) 1 f fd ["powers","width"] (fE K CT):=by
 obtain ⟨tk,hPL⟩:=PL
 refine cR Fu zb zc (by rintro ds r ⟨p,W,_,_,rfl,_⟩; rfl) (by rintro ds r ⟨p,W,_,_,_,rfl⟩; exact ⟨_,rfl⟩) fun c hq ds sl hF=>?_
 obtain ⟨p,W,hW,hp,rfl,e⟩:=hF
 injection e with e
 subst e
 have h6:=hp.1
 show aS c _ [.va (.tup (p.map .int)),.va (.int (W:Nat)),.un,.un] _ _
 conv in (ay _)=>whnf
 walk_at "ev"
 with_reducible refine cS hq (cA ?_)
 walk_at "ev"
 refine ⟨fun i ρ'=>∃ s3:Sl,ρ'=[.va (.tup (p.map .int)),.va (.int (W:Nat)),.va (.int (FN (2 ^ W) (p.take i))),s3],⟨_,rfl⟩,?_,?_⟩
 ·rintro c' oQ zH zI i d ρ' hd ⟨s3,rfl⟩
  simp only [OY,O4] at hd
  obtain ⟨x,hx,rfl⟩:=hd
  obtain ⟨hi,rfl⟩:=OZ.mp hx
  have bd:=B0 (two_pos W) (p:=p.take i) fun x hx=>hp.2 x (Tg hx)
  have hl:(p.take i).length≤6:=by rw [P9]; lia
  walk_at "ev"
  ·exact ⟨by lia,by lia,xj hW hl bd.1 bd.2⟩
  ·refine ⟨.va (.int p[i]),?_⟩
   rw [P0 hi,BZ,Pz]
 ·rintro ρ' ⟨s3,rfl⟩
  rw [OT,PU]
  have bd:=B0 (two_pos W) hp.2
  have ew:(W:Int) * (6 - ((p.map D.int).length:Nat))=((W * (6 - p.length):Nat):Int):=by
   rw [OT,Int.natCast_mul,Int.ofNat_sub h6]; rfl
  have ew2:W * (6 - p.length)≤60:=OV (Rt hW (Nat.sub_le 6 _)) (by decide)
  walk_at "ev"
  ·exact rm (by lia)
  ·rw [ew]; exact ⟨by lia,by lia,xj hW h6 bd.1 bd.2⟩
  ·show Sl.va _=Sl.va _
   rw [ew,Pz,Int.pow_mul,Ju h6]
end
theorem c7 {α:Type} (f:α→D):∀ L:List α,(L.map fun t=>some (f t)).filterMap id=L.map f
 | []=>rfl
 | x::L=>by
  rw [OS,OS,Qm]
  exact congrArg (f x:: ·) (c7 f L)
noncomputable def tG:Fn:=fun ds r=>∃ (x:Int) (W:Nat),W≤10∧0≤x∧ds=[.int x,.int (W:Nat)]∧r=.ok (.va (.tup ((M8 (2 ^ W) x).map .int)))
theorem JO (h:W≤10) (h2:0≤x):tG [.int x,.int (W:Nat)] (.ok (.va (.tup ((M8 (2 ^ W) x).map .int)))):=⟨x,W,h,h2,rfl,rfl⟩
section
local macro_rules | `(tactic| walk_at "evE")=> `(tactic| first | ((with_reducible show aJ _ (O7 "PLACES" _) _ _); with_reducible refine uo (by assumption) ?_))
local macro_rules | `(tactic| walk_at "evBo")=> `(tactic| first | with_reducible refine GX ?_ | with_reducible refine GY ?_ | with_reducible refine BN ?_)
local macro_rules | `(tactic| walk_at "evXC")=> `(tactic| first | with_reducible refine x_call (F:=tF) (by assumption) (by decide) ?_)
theorem Gb (Fu:fu K "powers_of" "powers_of" fU f fd) (T:Txt K mg) (PL:∃ tk:Tok,mg "PLACES"=some (.int 6 tk)) (h1:cz P w K mg base 1 "trimmed" tF):bx P w K mg base (dH P w) 2 f fd ["key","width"] (fE K tG):=by
 obtain ⟨tk,hPL⟩:=PL
 refine cR Fu p7 p8 (by rintro ds r ⟨x,W,_,_,rfl,_⟩; rfl) (by rintro ds r ⟨x,W,_,_,_,rfl⟩; exact ⟨_,rfl⟩) fun c hq ds sl hF=>?_
 obtain ⟨x,W,hW,hx,rfl,e⟩:=hF
 injection e with e
 subst e
 show aS c _ [.va (.int x),.va (.int (W:Nat)),.un] _ _
 conv in (ay _)=>whnf
 walk_at "ev"
 ·exact ⟨by lia,by lia,by decide⟩
 walk_at "ev"
 rw [Pz]
 refine e_x (ff hq (N':=["k","key","mask","width"]) (ρ0:=fun _=>[.un,.va (.int x),.va (.int (1 * 2 ^ W - 1)),.va (.int (W:Nat))]) (fun t=>.un (.fr (by walk_at "at") (by walk_at "at") (by decide) rfl (.fr (by walk_at "at") (by walk_at "at") (by decide) rfl (.fr (by walk_at "at") (by walk_at "at") (by decide) rfl .nil)))) (Jp (Txt.range T) ?_))
 walk_at "ev"
 refine ⟨rfl,⟨⟨by decide,by decide⟩,⟨⟨by decide,by decide⟩,⟨by decide,?_⟩⟩⟩⟩
 refine ⟨(PF 6).map fun (i:Nat)=>some (.int (x / (2 ^ W) ^ (5 - i) % 2 ^ W)),rfl,?_,cj ?_⟩
 ·intro c' hc t i d o hd ho
  unfold BR at hd
  simp only [OY,O4] at hd ho
  obtain ⟨a,ha,rfl⟩:=hd
  obtain ⟨a',ha',rfl⟩:=ho
  have hi:i<6:=by simpa using (OZ.mp ha').1
  rw [RP hi] at ha'; cases ha'
  rw [show (6 - 1 - -1:Int).toNat=6 by decide,RP hi] at ha; cases ha
  refine dM (by walk_at "at") (qQ (by walk_at "sset") ⟨.un (.same (.same (.same .nil))),?_⟩)
  simp only [uA]
  refine ⟨fun _=>?_,fun h=>by cases h⟩
  have e5:((W:Int) * (6 - 1 - (i:Int))).toNat=W * (5 - i):=by
   rw [show ((6:Int) - 1 - (i:Int))=((5 - i:Nat):Int) by lia,← Int.natCast_mul,Pz]
  have e6:(0:Int)≤(W:Int) * (6 - 1 - (i:Int)):=Int.mul_nonneg (by lia) (by lia)
  have hp:(0:Int)<(2 ^ W) ^ (5 - i):=Rx (two_pos W)
  walk_at "ev"
  ·exact rm (by lia)
  ·show some _=some (D.int _)
   rw [e5,Int.pow_mul,yO W (Int.ediv_nonneg hx (by lia))]
 ·refine ⟨_,rfl,?_⟩
  rw [c7 (fun (i:Nat)=>D.int (x / (2 ^ W) ^ (5 - i) % 2 ^ W)) (PF 6),show ((PF 6).map fun (i:Nat)=>D.int (x / (2 ^ W) ^ (5 - i) % 2 ^ W))=((PF 6).map fun (i:Nat)=>x / (2 ^ W) ^ (5 - i) % 2 ^ W).map D.int by rw [Pb]; rfl]
  walk_at "ev"
  exact aF (JL (by simp)) rfl
end
noncomputable def tH (b:Int) (t:aG):D:=.tup [.int (pk b t.1),.int t.2]
noncomputable def tK:Fn:=fun ds r=>∃ (L:List aG) (W:Nat),W≤10∧L.length≤20000∧(∀ t∈L,Bd (2 ^ W) t.1)∧ds=[.lst (L.map aP),.int (W:Nat)]∧r=.ok (.ow (L.map (tH (2 ^ W))))
theorem JP {L:List aG} (h:W≤10) (h1:L.length≤20000) (h2:∀ t∈L,Bd (2 ^ W) t.1):tK [.lst (L.map aP),.int (W:Nat)] (.ok (.ow (L.map (tH (2 ^ W))))):=⟨L,W,h,h1,h2,rfl,rfl⟩
section
local macro_rules | `(tactic| walk_at "evCa")=> `(tactic| first | with_reducible refine cC (F:=CT) (by assumption) (by decide) ?_)
theorem Ge (Fu:fu K "packed" "packed" jX f fd) (T:Txt K mg) (h1:cz P w K mg base 1 "key_of" CT):bx P w K mg base (dH P w) 2 f fd ["some","width"] (fE K tK):=by
 refine cR Fu zd ze (by rintro ds r ⟨L,W,_,_,_,rfl,_⟩; rfl) (by rintro ds r ⟨L,W,_,_,_,_,rfl⟩; exact ⟨_,rfl⟩) fun c hq ds sl hF=>?_
 obtain ⟨L,W,hW,hL,hb,rfl,e⟩:=hF
 injection e with e
 subst e
 show aS c _ [.va (.lst (L.map aP)),.va (.int (W:Nat))] _ _
 conv in (ay _)=>whnf
 refine aO (dR (ff hq (N':=["powers","number","width"]) (ρ0:=fun _=>[.un,.un,.va (.int (W:Nat))]) (fun t=>.un (.un (.fr (by walk_at "at") (by walk_at "at") (by decide) rfl .nil))) (cA ?_)))
 walk_at "ev"
 ·exact pX (by rw [OT]; lia)
 refine ⟨L.map fun t=>some (tH (2 ^ W) t),by simp,?_,by show Sl.ow _=Sl.ow _; rw [c7]⟩
 intro c' hc t i d o hd ho
 simp only [OY,O4] at hd ho
 obtain ⟨x,hx,rfl⟩:=hd
 obtain ⟨x',hx',rfl⟩:=ho
 rw [hx] at hx'; cases hx'
 have hbx:=hb x (Qc hx)
 show nR c' _ (.tup [.tup (x.1.map .int),.int x.2]) _ _
 walk_at "ev"
 refine ⟨.un (.un (.same .nil)),?_⟩
 simp only [uA]
 refine ⟨fun _=>?_,fun h=>by cases h⟩
 walk_at "ev"
 refine aF (Mn hW hbx) ?_
 walk_at "ev"
 rfl
end
end
section
variable {P:Program} {w:World} {K:ON} {mg:Str→Option Value} {base:Heap}
noncomputable def Gf:M7:=fun kvs ds Z=>∃ (ts A B:List aG) (W:Nat),W≤10∧ts.length+A.length * B.length≤20000∧A.length≤20000∧B.length≤20000∧(∀ t∈ts,Bd (2 ^ W) t.1)∧(∀ l∈A,∀ r∈B,Bd (2 ^ W) (cD l.1 r.1)∧EV.MulOk l.2 r.2) ∧
 kvs=cN ((aL ts).map (gD (2 ^ W)))∧ds=[.lst (A.map (tH (2 ^ W))),.lst (B.map (tH (2 ^ W)))]∧Z=fun kvs'=>kvs'=cN ((aL (ts++aM A B)).map (gD (2 ^ W)))
section
local macro_rules | `(tactic| walk_at "evS")=> `(tactic| first | ((with_reducible show eV _ (TY (QI (O7 _ _) _ _) Ua _ _) _ _ _); with_reducible refine wg (by walk_at "at") (by walk_at "at") ?_ (ho:=by walk_at "own")))
theorem JQ (Fu:fu K "add_products" "add_products" dP f fd) (T:Txt K mg):bx P w K mg base (dH P w) 1 f fd ["total","left","right"] (Jg K Gf):=by
 refine L5 Fu ku kB (by rintro kvs ds Z ⟨t0,A,B,W,_,_,_,_,_,_,_,rfl,_⟩; rfl) fun c hq q kvs ds Z hF=>?_
 obtain ⟨t0,A,B,W,hW,hl,hA,hB,hb0,hp,rfl,rfl,rfl⟩:=hF
 have e00:t0=t0++aM (A.take 0) B:=by show t0=t0++[]; rw [P1]
 rw [show cN ((aL t0).map (gD (2 ^ W)))=cN ((aL (t0++aM (A.take 0) B)).map (gD (2 ^ W))) by rw [← e00]]
 show aS c _ [.aK q (cN ((aL (t0++aM (A.take 0) B)).map (gD (2 ^ W)))),.va (.lst (A.map (tH (2 ^ W)))),.va (.lst (B.map (tH (2 ^ W)))),.un,.un,.un,.un,.un] _ _
 conv in (ay _)=>whnf
 walk_at "ev"
 with_reducible refine cS hq (cA ?_)
 walk_at "ev"
 refine ⟨fun i ρ'=>∃ s3 s4 s5 s6 s7:Sl,ρ'=[.aK q (cN ((aL (t0++aM (A.take i) B)).map (gD (2 ^ W)))),.va (.lst (A.map (tH (2 ^ W)))),.va (.lst (B.map (tH (2 ^ W)))),s3,s4,s5,s6,s7],⟨_,_,_,_,_,rfl⟩,?_,?_⟩
 ·rintro c' oQ zH zI i d ρ' hd ⟨s3,s4,s5,s6,s7,rfl⟩
  simp only [OY,O4] at hd
  obtain ⟨l,hlx,rfl⟩:=hd
  obtain ⟨hi,rfl⟩:=OZ.mp hlx
  have hq':c'.X.xe=fun _ _=>False:=by rw [oQ]; exact hq
  show nR c' _ (.tup [.int (pk (2 ^ W) A[i].1),.int A[i].2]) _ _
  walk_at "ev"
  with_reducible refine cS hq' (cA ?_)
  walk_at "ev"
  have hpi:=hp A[i] (Pp hi)
  have e0:t0++aM (A.take (i+1)) B=(t0++aM (A.take i) B)++B.map (dO A[i]):=by
   rw [P0 hi,oF,Pd]
  have hprev:∀ t∈t0++aM (A.take i) B,Bd (2 ^ W) t.1:=fun t ht=>by
   rcases Pg.mp ht with z | z
   ·exact hb0 t z
   ·obtain ⟨l,hl,r,hr,rfl⟩:=gE z
    exact (hp l (Tg hl) r hr).1
  have hlen:(t0++aM (A.take i) B).length+B.length≤20000:=by
   rw [Py,cZ,P9,So (by lia),Nat.add_assoc,← SD]
   exact OV (Nat.add_le_add_left (Nat.mul_le_mul_right _ (by lia)) _) hl
  generalize A[i]=l at hpi e0 ⊢
  generalize t0++aM (A.take i) B=ts at e0 hprev hlen ⊢
  refine ⟨fun j ρ'=>∃ s5 s6 s7:Sl,ρ'=[.aK q (cN ((aL (ts++(B.take j).map (dO l))).map (gD (2 ^ W)))),.va (.lst (A.map (tH (2 ^ W)))),.va (.lst (B.map (tH (2 ^ W)))),.va (.int (pk (2 ^ W) l.1)),.va (.int l.2),s5,s6,s7],⟨s5,s6,s7,by simp⟩,?_,?_⟩
  ·rintro c2 hcX2 hcR2 hcM2 j d ρ' hd ⟨s5,s6,s7,rfl⟩
   simp only [OY,O4] at hd
   obtain ⟨r,hrx,rfl⟩:=hd
   obtain ⟨hj,rfl⟩:=OZ.mp hrx
   obtain ⟨hb,hm⟩:=hpi B[j] (Pp hj)
   have e1:ts++(B.take (j+1)).map (dO l)=(ts++(B.take j).map (dO l))++[dO l B[j]]:=by
    rw [P0 hj,Pq,Pd]; rfl
   have hprev2:∀ t∈ts++(B.take j).map (dO l),Bd (2 ^ W) t.1:=fun t ht=>by
    rcases Pg.mp ht with z | z
    ·exact hprev t z
    ·obtain ⟨r,hr,rfl⟩:=Pa.mp z
     exact (hpi r (Tg hr)).1
   have hlen2:(ts++(B.take j).map (dO l)).length<20000:=by
    rw [Py,OT,P9]; lia
   have key:=Jt (two_pos W) hprev2 (t:=dO l B[j]) hb
   rw [← e1] at key
   generalize ts++(B.take j).map (dO l)=us at key hlen2 ⊢
   generalize B[j]=r at key hb hm ⊢
   show nR c2 _ (.tup [.int (pk (2 ^ W) r.1),.int r.2]) _ _
   have ek:pk (2 ^ W) (dO l r).1=pk (2 ^ W) l.1+pk (2 ^ W) r.1:=FO _ _ _
   rw [ek] at key
   have hC:(cN ((aL us).map (gD (2 ^ W)))).length<sizeLine:=iP (by
    have:=ig us
    simp only [cN,OT]; lia)
   generalize (aL us).map (gD (2 ^ W))=C at key hC ⊢
   walk_at "ev"
   refine GQ (by walk_at "at") (by walk_at "at") ?_
   walk_at "ev"
   refine ⟨_,.k rfl rfl,?_⟩
   rw [jw]
   cases hv:bD C (pk (2 ^ W) l.1+pk (2 ^ W) r.1) with
   | some m =>
    rw [hv] at key
    show o8 _ _ true
    walk_at "ev"
    refine ⟨m,by rw [← show bD (cN C) (.inl (pk (2 ^ W) l.1+pk (2 ^ W) r.1))=some (D.int m) by rw [jw,hv]; rfl]; exact .k rfl rfl,?_⟩
    walk_at "ev"
    refine ⟨_,.k rfl rfl hC,?_⟩
    walk_at "ev"
    refine ⟨.va (.int (pk (2 ^ W) r.1)),.va (.int r.2),.va (.int (pk (2 ^ W) l.1+pk (2 ^ W) r.1)),?_⟩
    show [Sl.aK q (putD (cN C) (.inl (pk (2 ^ W) l.1+pk (2 ^ W) r.1)) (.int (m+l.2 * r.2))),_,_,_,_,_,_,_]=_
    rw [sj,show putD C (pk (2 ^ W) l.1+pk (2 ^ W) r.1) (m+l.2 * r.2)=_ from key]
   | none =>
    rw [hv] at key
    show o8 _ _ false
    walk_at "ev"
    refine ⟨_,.k rfl rfl hC,?_⟩
    walk_at "ev"
    refine ⟨.va (.int (pk (2 ^ W) r.1)),.va (.int r.2),.va (.int (pk (2 ^ W) l.1+pk (2 ^ W) r.1)),?_⟩
    show [Sl.aK q (putD (cN C) (.inl (pk (2 ^ W) l.1+pk (2 ^ W) r.1)) (.int (l.2 * r.2))),_,_,_,_,_,_,_]=_
    rw [sj,← SG (l.2 * r.2),show putD C (pk (2 ^ W) l.1+pk (2 ^ W) r.1) (0+l.2 * r.2)=_ from key]
  ·rintro ρ' ⟨s5,s6,s7,rfl⟩
   rw [OT,PU,← e0]
   walk_at "ev"
   exact ⟨_,_,_,_,_,rfl⟩
 ·rintro ρ' ⟨s3,s4,s5,s6,s7,rfl⟩
  rw [OT,PU]
  walk_at "ev"
  exact ⟨_,_,rfl,rfl⟩
end
noncomputable def KP (C:List (Int×Int)):D:=.fdK ((cN C).map (·.1)) ((cN C).map (·.2))
theorem CU (C):(cN C).map (·.1)=(C.map (·.1)).map O8:=by unfold cN; rw [Pb,Pb]; rfl
noncomputable def CV:Fn:=fun ds r=>∃ (ts:List aG) (W:Nat),W≤10∧ts.length≤20000∧(∀ t∈ts,Bd (2 ^ W) t.1)∧ds=[KP ((aL ts).map (gD (2 ^ W))),.int (W:Nat)]∧r=.ok (.ow ((aW ts).map aP))
theorem Mp (h:W≤10) (h1:ts.length≤20000) (h2:∀ t∈ts,Bd (2 ^ W) t.1):CV [KP ((aL ts).map (gD (2 ^ W))),.int (W:Nat)] (.ok (.ow ((aW ts).map aP))):=⟨ts,W,h,h1,h2,rfl,rfl⟩
theorem vn (h:fR ltI true L):L.Pairwise fun x y=>y<x:=by
 unfold fR at h
 exact h.imp fun {x y} q=>by simpa using q
section
local macro_rules | `(tactic| walk_at "evIx")=> `(tactic| with_reducible refine Jv ?_)
local macro_rules | `(tactic| walk_at "evCa")=> `(tactic| first | with_reducible refine cC (F:=tG) (by assumption) (by decide) ?_)
theorem JR (Fu:fu K "unpacked" "unpacked" gI f fd) (T:Txt K mg) (h1:cz P w K mg base 2 "powers_of" tG):bx P w K mg base (dH P w) 3 f fd ["total","width"] (fE K CV):=by
 refine cR Fu sO sP (by rintro ds r ⟨ts,W,_,_,_,rfl,_⟩; rfl) (by rintro ds r ⟨ts,W,_,_,_,_,rfl⟩; exact ⟨_,rfl⟩) fun c hq ds sl hF=>?_
 obtain ⟨ts,W,hW,hl,hb,rfl,e⟩:=hF
 injection e with e
 subst e
 show aS c _ [.va (KP ((aL ts).map (gD (2 ^ W)))),.va (.int (W:Nat))] _ _
 conv in (ay _)=>whnf
 refine aO (dR (ff hq (N':=["key","total","width"]) (ρ0:=fun _=>[.un,.va (KP ((aL ts).map (gD (2 ^ W)))),.va (.int (W:Nat))]) (fun t=>.un (.fr (by walk_at "at") (by walk_at "at") (by decide) rfl (.fr (by walk_at "at") (by walk_at "at") (by decide) rfl .nil))) (cA (e_x (uM (Txt.sorted T) ?_)))))
 walk_at "ev"
 have hk:=d9 ts
 have hg:=pV hb
 have nd:(((aL ts).map (gD (2 ^ W))).map (·.1)).Nodup:=by
  rw [Pb]
  unfold SJ at hk ⊢
  rw [QS] at hk ⊢
  exact Ul.imp_of_mem (fun {x y} hx hy q z=>q (uP (two_pos W) (hg x hx).1 (hg y hy).1 (hg x hx).2 (hg y hy).2 z)) hk
 refine ⟨((aL ts).map (gD (2 ^ W))).map (·.1),_,by rw [← CU]; rfl,nd,fun L' hp hs=>?_⟩
 have eL:=BY (two_pos W) hb hp (vn hs)
 subst eL
 have hle:=ig ts
 have hpl:=(bF (aL ts)).length_eq
 refine cj (A3 rfl ⟨pX (by simp only [OT]; lia),(fJ (aL ts)).map F5,by simp,?_,?_⟩)
 ·intro c' hc t i d o hd ho
  simp only [OY,O4] at hd ho
  obtain ⟨n,⟨x,hx,rfl⟩,rfl⟩:=hd
  obtain ⟨x',hx',rfl⟩:=ho
  rw [hx] at hx'; cases hx'
  have hm:x∈aL ts:=(bF (aL ts)).subset (Qc hx)
  have hv:bD (cN ((aL ts).map (gD (2 ^ W)))) (.inl (pk (2 ^ W) x.1))=some (.int x.2):=by
   rw [jw,uQ (two_pos W) hg (hg x hm).1 (hg x hm).2,pW hk hm]; rfl
  refine dM (by walk_at "at") (qQ (by walk_at "sset") ⟨.un (.same (.same .nil)),?_⟩)
  simp only [uA]
  have h0:=(Mc (two_pos W) (hg x hm).1).1
  walk_at "ev"
  refine ⟨_,_,_,rfl,rfl,hv,?_⟩
  walk_at "ev"
  ·unfold F5; rw [if_neg fun h=>h (by assumption)]
  refine aF (JO hW h0) ?_
  rw [Jq (two_pos W) (hg x hm).1,(hg x hm).2]
  walk_at "ev"
  refine ⟨_,_,_,rfl,rfl,hv,?_⟩
  walk_at "ev"
  unfold F5
  rw [if_pos (by assumption)]
 ·show Sl.ow _=Sl.ow _
  rw [kQ,BH (keys_nodup hk)]
  rfl
end
structure Ot (A B:List aG):Prop where
 la:A.length≤20000
 lb:B.length≤20000
 lp:A.length * B.length≤20000
 pa:∀ t∈A,t.1.length≤6∧∀ x∈t.1,0≤x∧x≤500
 pb:∀ t∈B,t.1.length≤6∧∀ x∈t.1,0≤x∧x≤500
 mu:∀ l∈A,∀ r∈B,EV.MulOk l.2 r.2
theorem xG:∀ {L:List aG} (a:Int),a≤m→(∀ t∈L,bU t.1 k≤m)→L.foldl (fun a t=>if bU t.1 k>a then bU t.1 k else a) a≤m
 | [],_,h,_=>h
 | t::L,a,h,q=>by
  rw [Qo]
  have:=q t O1
  exact xG _ (by split <;> lia) fun u hu=>q u (O2 _ hu)
theorem CW (h0:0≤m) (h:∀ t∈L,∀ x∈t.1,x≤m):DY (eO L)≤m:=by
 refine vm h0 fun n hn=>?_
 unfold eO at hn
 obtain ⟨k,_,rfl⟩:=Pa.mp hn
 refine xG 0 h0 fun t ht=>?_
 by_cases z:k<t.1.length
 ·rw [dN z]; exact h t ht _ (Pp _)
 ·rw [cY (by lia)]; exact h0
theorem CY (ht:t∈L) (hl:t.1.length≤6) (hx:x∈t.1):x≤DY (eO L):=by
 obtain ⟨k,hk,rfl⟩:=List.getElem_of_mem hx
 refine Pu ?_ (CQ (show gk L k∈eO L from Pa.mpr ⟨k,by simp; lia,rfl⟩))
 unfold gk
 rw [← dN hk]
 suffices H:∀ a:Int,bU t.1 k≤L.foldl (fun a t=>if bU t.1 k>a then bU t.1 k else a) a from H 0
 induction L with
 | nil=>cases ht
 | cons u L ih =>
  intro a
  rw [Qo]
  rcases O5.mp ht with rfl | ht
  ·refine Pu ?_ (xF L k _)
   split <;> lia
  ·exact ih ht _
theorem Gg (h:0≤x):x<2 ^ Qi x:=by
 unfold Qi
 by_cases z:x=0
 ·subst z; decide
 ·have e:(x == 0)=false:=by simpa using z
  rw [e,if_neg O0,iu]
  have:=Nat.lt_log2_self (n:=x.natAbs)
  lia
theorem bits_le (h:x.natAbs<1024):Qi x≤10:=by
 unfold Qi
 by_cases z:x=0
 ·subst z; decide
 ·have e:(x == 0)=false:=by simpa using z
  rw [e,if_neg O0]
  have:=(Nat.log2_lt (n:=x.natAbs) (k:=10) (by lia)).mpr h
  lia
end
section
variable {P:Program} {w:World} {K:ON} {mg:Str→Option Value} {base:Heap}
noncomputable abbrev Part:=Int×List (List aG)
noncomputable def af (A:List aG):D:=.lst (A.map aP)
noncomputable def gS (p:Part):D:=.tup (.int p.1::p.2.map af)
noncomputable def dZ (n:Int) (As:List (List aG)):List aG:=As.foldl aM (cT n)
noncomputable def cP (ps:List Part):List aG:=ps.flatMap fun p=>dZ p.1 p.2
noncomputable def bC (As:List (List aG)):Nat:=(As.map fun A=>max A.length 1).foldr (· * ·) 1
noncomputable def mR (A:List aG):Int:=DY (eO A)
noncomputable def qk (As:List (List aG)):MP:=(As.map mp).foldr (· * ·) 1
theorem CZ (As):∀ L:List aG,mp (As.foldl aM L)=mp L * qk As:=by
 induction As with
 | nil=>intro L; show mp L=mp L * 1; grind
 | cons A As ih =>
  intro L
  rw [Qo,ih,uX]
  show _=mp L * (mp A * qk As)
  grind
theorem eS (n) (As):mp (dZ n As)=(n:MP) * qk As:=by unfold dZ; rw [CZ,p5]
theorem C0 (h:As.Perm Bs):qk As=qk Bs:=by
 induction h with
 | nil=>rfl
 | cons x _ ih=>exact congrArg (mp x * ·) ih
 | swap x y l=>show mp y * (mp x * qk l)=mp x * (mp y * qk l); grind
 | trans _ _ a b=>rw [a,b]
theorem C1 (As) (A):qk (As++[A])=qk As * mp A:=by
 induction As with
 | nil=>show mp A * 1=1 * mp A; grind
 | cons B As ih=>show mp B * qk (As++[A])=mp B * qk As * mp A; rw [ih]; grind
theorem zq (h:As.Perm Bs):bC As=bC Bs:=by
 unfold bC
 induction h with
 | nil=>rfl
 | cons x _ ih=>simp only [OS,Ss] at ih ⊢; rw [ih]
 | swap x y l=>simp only [OS,Ss]; rw [Nat.mul_left_comm]
 | trans _ _ a b=>rw [a,b]
theorem zu (As) (A):bC (As++[A])=bC As * max A.length 1:=by
 unfold bC
 induction As with
 | nil=>simp
 | cons B As ih=>simp only [QC,OS,Ss] at ih ⊢; rw [ih,Nat.mul_assoc]
theorem C9 (As):1≤bC As:=by
 unfold bC
 induction As with
 | nil=>exact OP _
 | cons B As ih=>simp only [OS,Ss]; exact Rt (m₁:=1) (n₁:=1) (by lia) ih
theorem iw (As) (i):bC (As.take i)≤bC As:=by
 induction As generalizing i with
 | nil=>simp
 | cons B As ih =>
  cases i with
  | zero=>exact C9 _
  | succ i =>
   have:=ih i
   unfold bC at *
   simp only [List.take_succ_cons,OS,Ss]
   exact Nat.mul_le_mul_left _ this
noncomputable def Ex (m:Int) (L:List aG):Prop:=∀ t∈L,t.1.length≤6∧∀ x∈t.1,0≤x∧x≤m
noncomputable def Bn (m:Nat) (L:List aG):Prop:=∀ t∈L,t.2.natAbs<2 ^ m
theorem Ex.bd (h:Ex m L) (hm:m<2 ^ W):∀ t∈L,Bd (2 ^ W) t.1:=fun t ht=>⟨(h t ht).1,fun x hx=>⟨((h t ht).2 x hx).1,Tq ((h t ht).2 x hx).2 hm⟩⟩
theorem Dc (h0:0≤m) (h:∀ x∈p,0≤x∧x≤m) (k):0≤bU p k∧bU p k≤m:=by
 by_cases z:k<p.length
 ·rw [dN z]; exact h _ (Pp _)
 ·rw [cY (by lia)]; lia
theorem Gh (h0:0≤m) (g0:0≤n) (hp:p.length≤6∧∀ x∈p,0≤x∧x≤m) (hq:q.length≤6∧∀ x∈q,0≤x∧x≤n):(cD p q).length≤6∧∀ x∈cD p q,0≤x∧x≤m+n:=by
 refine ⟨by rw [jx]; lia,fun x hx=>?_⟩
 unfold cD at hx
 obtain ⟨k,_,rfl⟩:=Pa.mp hx
 have:=Dc h0 hp.2 k
 have:=Dc g0 hq.2 k
 lia
theorem Ex.prod (h0:0≤m) (g0:0≤n) (h:Ex m A) (g:Ex n B):Ex (m+n) (aM A B):=fun t ht=>by
 obtain ⟨l,hl,r,hr,rfl⟩:=gE ht
 exact Gh h0 g0 (h l hl) (g r hr)
theorem Ex.sum (h:Ex m L):Ex m (aL L):=by
 unfold aL
 suffices H:∀ (ts A:List aG),Ex m A→Ex m ts→Ex m (ts.foldl fS A) from H L [] (fun t ht=>by cases ht) h
 intro ts
 induction ts with
 | nil=>exact fun A hA _=>hA
 | cons u ts ih =>
  refine fun A hA hts=>ih _ (fun t ht=>?_) fun t ht=>hts t (O2 _ ht)
  rcases sD ht with rfl | q
  ·have:=hts u O1
   exact ⟨OV (gB _) this.1,fun x hx=>this.2 x (se hx)⟩
  ·exact hA t q
theorem Ex.mono (h:Ex m L) (hn:m≤n):Ex n L:=fun t ht=>⟨(h t ht).1,fun x hx=>⟨((h t ht).2 x hx).1,Pu ((h t ht).2 x hx).2 hn⟩⟩
theorem Ex.app (h:Ex m A) (g:Ex m B):Ex m (A++B):=fun t ht=>(Pg.mp ht).elim (h t) (g t)
theorem Bn.mono (h:Bn m L) (hn:m≤n):Bn n L:=fun t ht=>PN (h t ht) (Sf (by decide) hn)
theorem Bn.prod (h:Bn m A) (g:Bn n B):Bn (m+n) (aM A B):=fun t ht=>by
 obtain ⟨l,hl,r,hr,rfl⟩:=gE ht
 show (l.2 * r.2).natAbs<_
 rw [Int.natAbs_mul,Nat.pow_add]
 exact Nat.mul_lt_mul'' (h l hl) (g r hr)
theorem Bn.sum (h:Bn m L) (hl:L.length<2 ^ 16):Bn (m+16) (aL L):=fun t ht=>by
 have:=Jx (m:=2 ^ m) (fun t ht=>Q9 (h t ht)) t ht
 refine QO this ?_
 rw [Nat.pow_add,SE]
 exact Nat.mul_lt_mul_of_pos_left hl (Nat.two_pow_pos m)
theorem xH (h:a.natAbs<2 ^ m):Qi a≤m+1:=by
 unfold Qi
 by_cases z:a=0
 ·subst z; simp
 ·have e:(a == 0)=false:=by simpa using z
  rw [e,if_neg O0]
  have:=(Nat.log2_lt (n:=a.natAbs) (k:=m) (by lia)).mpr h
  lia
theorem ql (h:a.natAbs<2 ^ m) (g:b.natAbs<2 ^ n) (hm:m+n≤1000000):EV.MulOk a b:=by
 have h1:=xH h
 have h2:=xH g
 unfold EV.MulOk IntMulOk Builtin.Int.intTooBig bitsLine
 have e:decide (((Qi a+Qi b:Nat):Int)>((2 ^ 27:Nat):Int))=false:=by
  apply decide_eq_false
  rw [show (2:Nat) ^ 27=134217728 by decide]
  lia
 simp only [Sm]
 rintro ⟨_,z⟩
 have z':=of_decide_eq_true z
 rw [show (2:Nat) ^ 27=134217728 by decide] at z'
 lia
structure cI (A:List aG):Prop where
 l:A.length≤20000
 e:Ex 120 A
 b:Bn 2000 A
structure dz (p:Part):Prop where
 n:p.1.natAbs<2 ^ 2000
 m:p.2.length≤8
 f:∀ A∈p.2,cI A
structure bf (ps:List Part):Prop where
 p:∀ p∈ps,dz p
 l:ps.length≤1000
 s:(ps.map fun p=>bC p.2).sum≤20000
theorem Dd (A):0≤mR A:=G9 _
theorem cI.mx (h:cI A):mR A≤120:=CW (by decide) fun t ht x hx=>((h.e t ht).2 x hx).2
theorem cI.ex (h:cI A):Ex (mR A) A:=fun t ht=>⟨(h.e t ht).1,fun x hx=>⟨((h.e t ht).2 x hx).1,CY ht (h.e t ht).1 hx⟩⟩
noncomputable def qw (p:Part):Int:=(p.2.map mR).sum
theorem xJ (As:List (List aG)):0≤(As.map mR).sum:=by
 induction As with
 | nil=>exact Qk _
 | cons A As ih=>rw [OS,QV]; have:=Dd A; lia
theorem dz.sz (h:dz p):qw p≤960:=by
 have:∀ As:List (List aG),(∀ A∈As,cI A)→(As.map mR).sum≤120 * As.length:=fun As=>by
  induction As with
  | nil=>exact fun _=>by simp
  | cons A As ih =>
   intro hA
   have:=ih fun B hB=>hA B (O2 _ hB)
   have:=(hA A O1).mx
   rw [OS,QV,Pr]; lia
 have h1:=this p.2 h.f
 have h2:=h.m
 unfold qw
 lia
noncomputable def gT (ps:List Part):Int:=ps.foldl (fun m p=>if qw p>m then qw p else m) 0
theorem oG (ps:List Part):∀ m:Int,m≤ps.foldl (fun m p=>if qw p>m then qw p else m) m:=by
 induction ps with
 | nil=>exact fun m=>Qk _
 | cons p ps ih=>intro m; rw [Qo]; refine Pu ?_ (ih _); split <;> lia
theorem Gi (h:p∈ps):qw p≤gT ps:=by
 unfold gT
 suffices H:∀ m:Int,qw p≤ps.foldl (fun m p=>if qw p>m then qw p else m) m from H 0
 induction ps with
 | nil=>cases h
 | cons q ps ih =>
  intro m
  rw [Qo]
  rcases O5.mp h with rfl | h
  ·refine Pu ?_ (oG ps _)
   split <;> lia
  ·exact ih h _
theorem Gj (h:∀ p∈ps,dz p):gT ps≤960:=by
 unfold gT
 suffices H:∀ m:Int,m≤960→ps.foldl (fun m p=>if qw p>m then qw p else m) m≤960 from H 0 (by decide)
 induction ps with
 | nil=>exact fun m hm=>hm
 | cons q ps ih =>
  intro m hm
  rw [Qo]
  refine ih (fun p hp=>h p (O2 _ hp)) _ ?_
  have:=(h q O1).sz
  split <;> lia
noncomputable def De (ps:List Part):Nat:=Qi (gT ps)
theorem Gk (h:∀ p∈ps,dz p):De ps≤10∧∀ p∈ps,qw p<2 ^ De ps:=by
 have h0:0≤gT ps:=oG ps 0
 have h1:=Gj h
 exact ⟨bits_le (by lia),fun p hp=>Tq (Gi hp) (Gg h0)⟩
theorem jz (x:α) (xs):EV.cutD (x::xs) (some 1) none=xs:=by
 unfold EV.cutD HT.cg; simp
noncomputable def Df:Fn:=fun ds r=>∃ ps:List Part,(∀ p∈ps,dz p)∧ds=[.lst (ps.map gS)]∧r=.ok (.va (.int (De ps:Nat)))
theorem Mq (h:∀ p∈ps,dz p):Df [.lst (ps.map gS)] (.ok (.va (.int (De ps:Nat)))):=⟨ps,h,rfl,rfl⟩
section
local macro_rules | `(tactic| walk_at "evMt")=> `(tactic| with_reducible refine Jh ?_)
local macro_rules | `(tactic| walk_at "evCa")=> `(tactic| first
 | ((with_reducible show aJ _ (PX (O7 "max" _) [_] _ _) _ _); with_reducible refine Jj (Txt.max (by assumption)) ?_)
 | ((with_reducible show aJ _ (PX (O7 "max" _) [_,_] _ _) _ _); with_reducible refine BL (Txt.max (by assumption)) ?_)
 | ((with_reducible show aJ _ (PX (O7 "sum" _) _ _ _) _ _); with_reducible refine Jk (Txt.sum (by assumption)) ?_)
 | with_reducible refine cC (F:=mG) (by assumption) (by decide) ?_)
theorem JS (Fu:fu K "width_of" "width_of" gJ f fd) (T:Txt K mg) (h1:cz P w K mg base 1 "greatest_powers" mG):bx P w K mg base (dH P w) 2 f fd ["parts"] (fE K Df):=by
 refine cR Fu sQ sR (by rintro ds r ⟨ps,_,rfl,_⟩; rfl) (by rintro ds r ⟨ps,_,_,rfl⟩; exact ⟨_,rfl⟩) fun c hq ds sl hF=>?_
 obtain ⟨ps,hp,rfl,e⟩:=hF
 injection e with e
 subst e
 show aS c _ [.va (.lst (ps.map gS)),.un,.un] _ _
 conv in (ay _)=>whnf
 walk_at "ev"
 with_reducible refine cS hq (cA ?_)
 walk_at "ev"
 refine ⟨fun i ρ'=>∃ s2:Sl,ρ'=[.va (.lst (ps.map gS)),.va (.int (gT (ps.take i))),s2],⟨_,rfl⟩,?_,?_⟩
 ·rintro c' oQ zH zI i d ρ' hd ⟨s2,rfl⟩
  simp only [OY,O4] at hd
  obtain ⟨p,hpx,rfl⟩:=hd
  obtain ⟨hi,rfl⟩:=OZ.mp hpx
  have hpo:=hp ps[i] (Pp hi)
  have eg:gT (ps.take (i+1))=if qw ps[i]>gT (ps.take i) then qw ps[i] else gT (ps.take i):=by
   unfold gT; rw [P0 hi,UX]; rfl
  generalize ps[i]=p at hpo eg ⊢
  show nR c' _ (.tup (.int p.1::p.2.map af)) _ _
  walk_at "ev"
  refine e_x (ff (show c'.X.xe=kI by rw [oQ]; exact hq) (N':=["some"]) (ρ0:=fun _=>[.un]) (fun t=>.un .nil) (cA ?_))
  walk_at "ev"
  ·rw [jz,OT]; exact pX (by have:=hpo.m; lia)
  rw [jz]
  refine ⟨p.2.map fun A=>some (.int (mR A)),by simp,?_,cj ?_⟩
  ·intro c2 hc2 t j d o hd ho
   simp only [OY,O4] at hd ho
   obtain ⟨A,hA,rfl⟩:=hd
   obtain ⟨A',hA',rfl⟩:=ho
   rw [hA] at hA'; cases hA'
   have hf:=hpo.f A (Qc hA)
   refine dM (by walk_at "at") (qQ (by walk_at "sset") ⟨.un .nil,?_⟩)
   simp only [uA]
   refine ⟨fun _=>?_,fun h=>by cases h⟩
   show aJ c2 _ [.va (.lst (A.map aP))] _
   walk_at "ev"
   refine aF (Ga fun t ht=>(hf.e t ht).1) (cj ⟨eO A,by simp [eO],rfl,fun m ⟨m1,m2⟩=>?_⟩)
   rw [CS m1 m2]; rfl
  ·rw [c7]
   refine ⟨p.2.map mR,by rw [Pb]; rfl,?_⟩
   walk_at "ev"
   refine ⟨.va (gS p),?_⟩
   rw [eg]; rfl
 ·rintro ρ' ⟨s2,rfl⟩
  rw [OT,PU]
  walk_at "ev"
  rfl
end
end
section
variable {P:Program} {w:World} {K:ON} {mg:Str→Option Value} {base:Heap}
theorem Gm (x:α) (xs):kE (x::xs) 0=some x:=by rw [g6 (by decide) (by simp)]; rfl
theorem JT (b):pk b []=0:=(ju (g:=fun _=>0) fun i _=>cY (Pn _)).trans (jv _)
theorem Hg (b n):(cT n).map (tH b)=[.tup [.int 0,.int n]]:=by show [D.tup [.int (pk b []),.int n]]=_; rw [JT]
theorem Dg (xs:List α):EV.cutD xs none (some (-1))=xs.dropLast:=by
 unfold EV.cutD HT.cg
 rw [List.dropLast_eq_take]
 simp only [List.drop_zero]
 congr 1
 split <;> lia
theorem Gn (xs) (x:α):kE (xs++[x]) (-1)=some x:=by
 rw [wz (by decide) (by simp; lia),show (-1+((xs++[x]).length:Int)).toNat=xs.length by simp; lia]
 simp
noncomputable def M9 (b:Int) (A:List aG):D:=.lst (A.map (tH b))
theorem Dh {α β:Type} {f:α→β} {L:List α} {M:List β} (h:M.Perm (L.map f)):∃ L':List α,L'.Perm L∧M=L'.map f:=by
 have p:∀ L:List α,Paired (fun a b=>b=f a) L (L.map f):=fun L=>by
  induction L with
  | nil=>exact .nil
  | cons x L ih=>exact .cons rfl ih
 obtain ⟨L',h1,h2⟩:=SR.gy h (p L)
 refine ⟨L',h1,?_⟩
 clear h1 h p
 induction h2 with
 | nil=>rfl
 | cons r _ ih=>rw [r,ih]; rfl
theorem zw (C):(KP C).pairs=some (C.map fun c=>D.tup [.int c.1,.int c.2]):=by
 show some _=some _
 congr 1
 unfold cN
 rw [Pb,Pb,List.zipWith_map,List.zipWith_self]
 rfl
theorem zz (b) (L:List aG):(KP (L.map (gD b))).pairs=some (L.map (tH b)):=by
 rw [zw,Pb]; rfl
theorem JU (b) (L:List aG):D.qu (L.map (tH b)):=dW fun x _=>uB (by unfold D.qu; exact ⟨lH,by unfold D.qu; exact ⟨lH,by unfold D.qu; trivial⟩⟩)
structure Way (n:Int) (As:List (List aG)) (L:List aG):Prop where
 m:mp L=(n:MP) * qk As
 l:L.length≤bC As
 e:Ex (As.map mR).sum L
 b:Bn (2000+2016 * As.length) L
theorem xK {n:Int} (h:n.natAbs<2 ^ 2000):Way n [] (cT n) where
 m:=by rw [p5]; show _=_ * (1:MP); grind
 l:=OP _
 e:=fun t ht=>by
  have:t=([],n):=by simpa [cT] using ht
  subst this
  exact ⟨Pn _,fun x hx=>by cases hx⟩
 b:=fun t ht=>by
  have:t=([],n):=by simpa [cT] using ht
  subst this
  exact h
theorem vo:cI (cT 1) where
 l:=by show (1:Nat)≤_; lia
 e:=fun t ht=>by
  have:t=([],1):=by simpa [cT] using ht
  subst this
  exact ⟨Pn _,fun x hx=>by cases hx⟩
 b:=fun t ht=>by
  have:t=([],1):=by simpa [cT] using ht
  subst this
  exact Nat.one_lt_two_pow (by decide)
theorem zA (As) (A):((As++[A]).map mR).sum=(As.map mR).sum+mR A:=by
 rw [Pq,Rr]; simp
theorem gU (h:Way n As L) (f:cI A):mp (aM L A)=(n:MP) * qk (As++[A])∧(aM L A).length≤bC (As++[A])∧Ex ((As++[A]).map mR).sum (aM L A)∧Bn (2000+2016 * As.length+2000) (aM L A):=by
 refine ⟨?_,?_,?_,h.b.prod f.b⟩
 ·rw [uX,h.m,C1]; grind
 ·rw [cZ,zu]; exact Rt h.l (by lia)
 ·rw [zA]; exact Ex.prod (xJ _) (Dd _) h.e f.ex
theorem Di (h:Way n As L) (f:cI A) (hl:bC (As++[A])≤20000):Way n (As++[A]) (aL (aM L A)):=by
 obtain ⟨h1,h2,h3,h4⟩:=gU h f
 refine ⟨by rw [JE,h1],OV (ig _) h2,h3.sum,(h4.sum (QO (OV h2 hl) (by decide))).mono ?_⟩
 rw [Py,RK]; lia
theorem Dj {As Bs:List (List aG)} (h:As.Perm Bs):(As.map mR).sum=(Bs.map mR).sum:=by
 induction h with
 | nil=>rfl
 | cons x _ ih=>rw [OS,QV,OS,QV,ih]
 | swap x y l=>simp only [OS,QV]; lia
 | trans _ _ a b=>rw [a,b]
theorem Dk (As:List (List aG)) (i):((As.take i).map mR).sum≤(As.map mR).sum:=by
 have e:(As.map mR).sum=((As.take i).map mR).sum+((As.drop i).map mR).sum:=by rw [← Rr,← Pq,Qz]
 have:=xJ (As.drop i)
 lia
noncomputable def qm:M7:=fun kvs ds Z=>∃ (ts:List aG) (p:Part) (W:Nat),W≤10∧dz p∧qw p<2 ^ W∧ts.length+bC p.2≤20000∧(∀ t∈ts,Bd (2 ^ W) t.1)∧kvs=cN ((aL ts).map (gD (2 ^ W)))∧ds=[gS p,.int (W:Nat)] ∧
 Z=fun kvs'=>∃ X,mp X=mp (dZ p.1 p.2)∧X.length≤bC p.2∧(∀ t∈X,Bd (2 ^ W) t.1)∧kvs'=cN ((aL (ts++X)).map (gD (2 ^ W)))
section
local macro_rules | `(tactic| walk_at "evX")=> `(tactic| first | ((with_reducible show dD _ (Expr.Dict _ _ _) _ _); with_reducible refine we ?_))
local macro_rules | `(tactic| walk_at "evXC")=> `(tactic| first
 | ((with_reducible show dD _ (PX (O7 "sorted" _) _ _ _) _ _); with_reducible refine yS (Txt.sorted (by assumption)) (Txt.len (by assumption)) ?_)
 | ((with_reducible show dD _ (PX (O7 "list" _) [PX _ _ _ _] _ _) _ _); refine uD 6 (by walk_at "at") rfl (by walk_at "sset") (sG (Txt.list (by assumption)) ?_)))
local macro_rules | `(tactic| walk_at "evXp")=> `(tactic| with_reducible refine wX (F:=Gf) (by assumption) (by decide) (by walk_at "at") (by walk_at "at") (by walk_at "own") ?_)
theorem Dl (Fu:fu K "add_part" "add_part" gK f fd) (T:Txt K mg) (h1:cz P w K mg base 2 "packed" tK) (h2:yD P w K mg base 1 "add_products" Gf):bx P w K mg base (dH P w) 3 f fd ["whole","part","width"] (Jg K qm):=by
 refine L5 Fu sS sV (by rintro kvs ds Z ⟨ts,p,W,_,_,_,_,_,_,rfl,_⟩; rfl) fun c hq q kvs ds Z hF=>?_
 obtain ⟨ts,p,W,hW,hp,hsz,hl,hb,rfl,rfl,rfl⟩:=hF
 show aS c _ [.aK q (cN ((aL ts).map (gD (2 ^ W)))),.va (.tup (.int p.1::p.2.map af)),.va (.int (W:Nat)),.un,.un,.un,.un] _ _
 conv in (ay _)=>whnf
 walk_at "ev"
 refine e_x (ff hq (N':=["some","width"]) (ρ0:=fun _=>[.un,.va (.int (W:Nat))]) (fun t=>.un (.fr (by walk_at "at") (by walk_at "at") (by decide) rfl .nil)) (cA ?_))
 walk_at "ev"
 ·rw [jz,OT]; exact pX (by have:=hp.m; lia)
 rw [jz]
 refine ⟨p.2.map fun A=>some (M9 (2 ^ W) A),by simp,?_,cj ?_⟩
 ·intro c2 hc2 t j d o hd ho
  simp only [OY,O4] at hd ho
  obtain ⟨A,hA,rfl⟩:=hd
  obtain ⟨A',hA',rfl⟩:=ho
  rw [hA] at hA'; cases hA'
  have hm:=Qc hA
  have hf:=hp.f A hm
  refine dM (by walk_at "at") (qQ (by walk_at "sset") ⟨.un (.same .nil),?_⟩)
  simp only [uA]
  refine ⟨fun _=>?_,fun h=>by cases h⟩
  show aJ c2 _ [.va (.lst (A.map aP)),_] _
  refine cC (F:=tK) h1 (by decide) ?_
  walk_at "ev"
  have hx:mR A<2 ^ W:=by
   refine Tq ?_ hsz
   obtain ⟨l,r,e⟩:=List.append_of_mem hm
   unfold qw
   rw [e,Pq,OS,Rr,QV]
   have:=xJ l
   have:=xJ r
   lia
  exact aF (JP hW hf.l (hf.ex.bd hx)) (cj rfl)
 rw [c7]
 refine ⟨_,rfl,fun x hx=>by obtain ⟨A,_,rfl⟩:=Pa.mp hx; exact ⟨_,rfl⟩,fun ds' hp'=>?_⟩
 obtain ⟨As,hpm,rfl⟩:=Dh hp'
 have zL:∀ A∈As,cI A:=fun A hA=>hp.f A (hpm.mem_iff.mp hA)
 have hpl:=zq hpm
 have hps:=Dj hpm
 have hlen:=hpm.length_eq
 refine qQ (by walk_at "sset") ?_
 with_reducible refine lJ 3 (by walk_at "at") rfl (by walk_at "sset") ?_
 walk_at "ev"
 refine jc (Gm _ _) ?_
 walk_at "ev"
 with_reducible refine LP 4 (by walk_at "at") rfl (by walk_at "sset") ?_
 rw [← Hg (2 ^ W) p.1]
 with_reducible refine cS hq (cA ?_)
 walk_at "ev"
 rw [Dg]
 have hcap:∀ i,bC (As.take i)≤20000:=fun i=>OV (iw As i) (by lia)
 have hm8:As.length≤8:=by rw [hlen]; exact hp.m
 have vv:∀ (i:Nat) (L A:List aG),As[i]?=some A→Way p.1 (As.take i) L→cI A∧As.take (i+1)=As.take i++[A]∧mp (aM L A)=(p.1:MP) * qk (As.take (i+1))∧(aM L A).length≤bC (As.take (i+1))∧(∀ l∈L,∀ r∈A,Bd (2 ^ W) (cD l.1 r.1)∧EV.MulOk l.2 r.2)∧L.length≤20000:=fun i L A hA hw=>by
  obtain ⟨hi,rfl⟩:=OZ.mp hA
  have hf:=zL As[i] (Pp hi)
  have et:As.take (i+1)=As.take i++[As[i]]:=P0 hi
  obtain ⟨q1,q2,q3,q4⟩:=gU hw hf
  rw [← et] at q1 q2 q3
  refine ⟨hf,et,q1,q2,fun l hl r hr=>⟨?_,?_⟩,OV hw.l (hcap i)⟩
  ·have hm:dO l r∈aM L As[i]:=TL.mpr ⟨l,hl,Pa.mpr ⟨r,hr,rfl⟩⟩
   have hx:=Dk As (i+1)
   exact q3.bd (by unfold qw at hsz; lia) _ hm
  ·refine ql (hw.b l hl) (hf.b r hr) ?_
   rw [P9]; lia
 refine ⟨fun i ρ'=>∃ (L:List aG) (s5 s6:Sl),Way p.1 (As.take i) L∧ρ'=[.aK q (cN ((aL ts).map (gD (2 ^ W)))),.va (.tup (.int p.1::p.2.map af)),.va (.int (W:Nat)),.va (.lst (As.map (M9 (2 ^ W)))),.va (.lst (L.map (tH (2 ^ W)))),s5,s6],⟨_,_,_,xK hp.n,rfl⟩,?_,?_⟩
 ·rintro c' oQ zH zI i d ρ' hd ⟨L,s5,s6,hw,rfl⟩
  rw [← List.map_dropLast] at hd
  simp only [OY,O4] at hd
  obtain ⟨A,hA,rfl⟩:=hd
  rw [List.getElem?_dropLast] at hA
  replace hA:As[i]?=some A:=by
   split at hA
   ·exact hA
   ·cases hA
  obtain ⟨hf,et,q1,q2,q3,q4⟩:=vv i L A hA hw
  have q5:=hcap (i+1)
  have q6:=Di hw hf (by rw [← et]; exact q5)
  rw [← et] at q6
  show nR c' _ (.lst (A.map (tH (2 ^ W)))) _ _
  walk_at "ev"
  refine ⟨_,⟨[],L,A,W,hW,by rw [cZ] at q2; show 0+_≤_; lia,q4,hf.l,(by intro t ht; cases ht),q3,rfl,rfl,rfl⟩,?_⟩
  rintro kvs' rfl
  walk_at "ev"
  refine ⟨_,zz _ _,JU _ _,?_⟩
  repeat ((fail_if_success (with_reducible show aS _ [] _ _ _)); walk_at "ev1")
  with_reducible refine lJ 4 (by walk_at "at") rfl (by walk_at "sset") ?_
  walk_at "ev"
  exact ⟨_,_,_,q6,rfl⟩
 ·rintro ρ' ⟨L,s5,s6,hw,rfl⟩
  rw [List.length_dropLast,OT] at hw
  walk_at "ev"
  ·have hne:As≠[]:=by rintro rfl; simp at *
   obtain ⟨i0,A,e0⟩:∃ i0 A,As=i0++[A]:=⟨As.dropLast,As.getLast hne,(List.dropLast_concat_getLast hne).symm⟩
   have ei:As.length - 1=i0.length:=by rw [e0]; simp
   have hA:As[As.length - 1]?=some A:=by rw [ei,e0]; simp
   have etl:As.take (As.length - 1+1)=As:=Sb (by lia)
   obtain ⟨hf,et,q1,q2,q3,q4⟩:=vv _ L A hA hw
   rw [etl] at q1 q2
   refine AL (show kE (As.map (M9 (2 ^ W))) (-1)=some (M9 (2 ^ W) A) by rw [e0,Pq]; exact Gn _ _) ?_
   walk_at "ev"
   refine ⟨_,⟨ts,L,A,W,hW,by rw [cZ] at q2; lia,q4,hf.l,hb,q3,rfl,rfl,rfl⟩,?_⟩
   rintro kvs' rfl
   walk_at "ev"
   refine ⟨_,_,⟨aM L A,by rw [q1,eS,C0 hpm],by rw [← hpl]; exact q2,fun t ht=>?_,rfl⟩,rfl⟩
   obtain ⟨l,hl,r,hr,rfl⟩:=gE ht
   exact (q3 l hl r hr).1
  ·have e0:As=[]:=by
    cases As with
    | nil=>rfl
    | cons A As=>simp at *
   have hw0:Way p.1 [] L:=by rw [e0] at hw; exact hw
   have p0:p.2=[]:=List.length_eq_zero_iff.mp (by rw [← hlen,e0]; rfl)
   obtain ⟨q1,q2,q3,q4⟩:=gU hw0 vo
   have hL:L.length≤1:=hw0.l
   have q5:(aM L (cT 1)).length≤1:=q2
   have h0W:(0:Int)<2 ^ W:=two_pos W
   have hx:(([]++[cT 1]:List (List aG)).map mR).sum<2 ^ W:=h0W
   have hp1:bC p.2=1:=by rw [p0]; rfl
   rw [← Hg (2 ^ W) 1]
   refine ⟨_,⟨ts,L,cT 1,W,hW,by rw [cZ] at q5; lia,by lia,vo.l,hb,fun l hl r hr=>⟨?_,?_⟩,rfl,rfl,rfl⟩,?_⟩
   ·exact q3.bd hx _ (TL.mpr ⟨l,hl,Pa.mpr ⟨r,hr,rfl⟩⟩)
   ·exact ql (hw0.b l hl) (vo.b r hr) (by show 2000+2016 * 0+2000≤_; lia)
   rintro kvs' rfl
   walk_at "ev"
   refine ⟨_,_,⟨aM L (cT 1),?_,by rw [hp1]; exact q5,q3.bd hx,rfl⟩,rfl⟩
   rw [q1,eS,p0]
   show _ * (mp (cT 1) * 1)=_ * (1:MP)
   rw [p5]
   show _ * ((1:MP) * 1)=_ * (1:MP)
   grind
end
end
section
variable {K:ON}
theorem tL (ps) (p:Part):mp (cP (ps++[p]))=mp (cP ps)+mp (dZ p.1 p.2):=by
 unfold cP
 rw [List.flatMap_append,jV]
 congr 1
 rw [RU,TM,P1]
theorem tM (l:List Nat) (i):(l.take i).sum≤l.sum:=by
 rw [← Qz i l,Rr,Qz]; lia
noncomputable def jA:Fn:=fun ds r=>∃ ps:List Part,bf ps∧ds=[.lst (ps.map gS)]∧r=.ok (.ow ((aW (cP ps)).map aP))
theorem dS (h:bf ps):jA [.lst (ps.map gS)] (.ok (.ow ((aW (cP ps)).map aP))):=⟨ps,h,rfl,rfl⟩
section
local macro_rules | `(tactic| walk_at "evX")=> `(tactic| first | ((with_reducible show dD _ (Expr.Dict _ _ _) _ _); with_reducible refine we ?_))
local macro_rules | `(tactic| walk_at "evCa")=> `(tactic| first | with_reducible refine cC (F:=Df) (by assumption) (by decide) ?_)
local macro_rules | `(tactic| walk_at "evXp")=> `(tactic| with_reducible refine wX (F:=qm) (by assumption) (by decide) (by walk_at "at") (by walk_at "at") (by walk_at "own") ?_)
local macro_rules | `(tactic| walk_at "evXC")=> `(tactic| first | ((with_reducible show dD _ (PX (O7 "unpacked" _) _ _ _) _ _); refine uD 2 (by walk_at "at") rfl (by walk_at "sset") (x_call (F:=CV) (by assumption) (by decide) ?_)))
theorem JV (Fu:fu K "poly_total" "poly_total" fh f fd) (T:Txt K mg) (h1:cz P w K mg base 2 "width_of" Df) (h2:yD P w K mg base 3 "add_part" qm) (h3:cz P w K mg base 3 "unpacked" CV):bx P w K mg base (dH P w) 4 f fd ["parts"] (fE K jA):=by
 refine cR Fu nc ng (by rintro ds r ⟨ps,_,rfl,_⟩; rfl) (by rintro ds r ⟨ps,_,_,rfl⟩; exact ⟨_,rfl⟩) fun c hq ds sl hF=>?_
 obtain ⟨ps,h,rfl,e⟩:=hF
 injection e with e
 subst e
 show aS c _ [.va (.lst (ps.map gS)),.un,.un,.un] _ _
 conv in (ay _)=>whnf
 obtain ⟨hW,hsz⟩:=Gk h.p
 walk_at "ev"
 refine aF (Mq h.p) ?_
 walk_at "ev"
 generalize De ps=W at hW hsz ⊢
 with_reducible refine cS hq (cA ?_)
 walk_at "ev"
 refine ⟨fun i ρ'=>∃ (ts:List aG) (s3:Sl),mp ts=mp (cP (ps.take i))∧ts.length≤((ps.take i).map fun p=>bC p.2).sum∧(∀ t∈ts,Bd (2 ^ W) t.1)∧ρ'=[.va (.lst (ps.map gS)),.va (.int (W:Nat)),.oK (cN ((aL ts).map (gD (2 ^ W)))),s3],⟨[],_,rfl,OP _,(by intro t ht; cases ht),rfl⟩,?_,?_⟩
 ·rintro c' oQ zH zI i d ρ' hd ⟨ts,s3,hm,hl,hb,rfl⟩
  simp only [OY,O4] at hd
  obtain ⟨p,hpx,rfl⟩:=hd
  obtain ⟨hi,rfl⟩:=OZ.mp hpx
  have et:ps.take (i+1)=ps.take i++[ps[i]]:=P0 hi
  have hmem:ps[i]∈ps:=Pp hi
  have hcap:((ps.take (i+1)).map fun p=>bC p.2).sum≤20000:=by rw [List.map_take]; exact OV (tM _ _) h.s
  have ec:((ps.take (i+1)).map fun p=>bC p.2).sum=((ps.take i).map fun p=>bC p.2).sum+bC ps[i].2:=by rw [et,Pq,Rr]; simp
  rw [ec] at hcap
  walk_at "ev"
  refine ⟨_,⟨ts,ps[i],W,hW,h.p _ hmem,hsz _ hmem,by lia,hb,rfl,rfl,rfl⟩,?_⟩
  rintro kvs' ⟨X,x1,x2,x3,rfl⟩
  walk_at "ev"
  refine ⟨ts++X,.va (gS ps[i]),?_,?_,fun t ht=>(Pg.mp ht).elim (hb t) (x3 t),rfl⟩
  ·rw [jV,hm,x1,et,tL]
  ·rw [ec,Py]; lia
 ·rintro ρ' ⟨ts,s3,hm,hl,hb,rfl⟩
  rw [OT,PU] at hm hl
  walk_at "ev"
  refine aF (Mp (ts:=ts) hW (by have:=h.s; lia) hb) ⟨dW fun x _=>j3 x,?_⟩
  show Sl.ow _=Sl.ow _
  rw [dw hm]
end
end
section
variable {K:ON}
theorem Ex.kC (h:Ex m L):Ex m (aW L):=fun t ht=>Ex.sum h t (l7 ht).1
theorem Bn.kC (h:Bn m L) (hl:L.length<2 ^ 16):Bn (m+16) (aW L):=fun t ht=>Bn.sum h hl t (l7 ht).1
noncomputable def dG (As:List (List aG)):List aG:=As.foldl (fun L A=>aW (aM L A)) [([],1)]
theorem oH (As) (A):dG (As++[A])=aW (aM (dG As) A):=by simp [dG]
theorem Dm (h:Way n As L) (f:cI A) (hl:bC (As++[A])≤20000):Way n (As++[A]) (aW (aM L A)):=by
 obtain ⟨h1,h2,h3,h4⟩:=gU h f
 refine ⟨by rw [xy,h1],OV (jr _) h2,h3.kC,(h4.kC (QO (OV h2 hl) (by decide))).mono ?_⟩
 rw [Py,RK]; lia
theorem fL (hf:∀ A∈As,cI A) (hl:bC As≤20000):∀ i,i≤As.length→Way 1 (As.take i) (dG (As.take i))
 | 0,_=>xK (by decide)
 | i+1,hi=>by
  rw [P0 hi,oH]
  refine Dm (fL hf hl i (by lia)) (hf _ (Pp hi)) ?_
  rw [← P0 hi]
  exact OV (iw _ _) hl
noncomputable def Dn:Fn:=fun ds r=>∃ As:List (List aG),As.length≤8∧(∀ A∈As,cI A)∧bC As≤20000∧ds=[.lst (As.map af)]∧r=.ok (.ow ((dG As).map aP))
theorem Mr (h:As.length≤8) (hf:∀ A∈As,cI A) (hl:bC As≤20000):Dn [.lst (As.map af)] (.ok (.ow ((dG As).map aP))):=⟨As,h,hf,hl,rfl,rfl⟩
theorem jB (n):(qU 0 n).length=n:=by simp [qU]
theorem j4 (L) (t):L.map aP++[aP t]=(L++[t]).map aP:=by rw [Pq]; rfl
theorem oJ (n):(OX n [D.int 0]).flatten=(OX n (0:Int)).map D.int:=by
 induction n with
 | zero=>rfl
 | succ n ih=>rw [Qu,Q2,ih,Qu]; rfl
theorem Dp (h:k<n) (hp:p.length≤n):kE (p.map D.int++(OX (n - p.length) [D.int 0]).flatten) (k:Int)=some (.int (bU p k)):=by
 rw [oJ,← Pq,g6 (by lia) (by simp; lia),Pz,OY]
 by_cases z:k<p.length
 ·rw [QX z,Pc z,dN z]; rfl
 ·rw [RE (by lia),Ux,if_pos (by lia),cY (by lia)]; rfl
theorem xM {p:List Int} {n:Nat}:((n:Int) - ((p.map D.int).length:Int)).toNat=n - p.length:=by rw [OT]; lia
section
local macro_rules | `(tactic| walk_at "evBo")=> `(tactic| first | ((with_reducible show aJ _ (R6 (RA _ _ _) T6 _ _) _ _); with_reducible refine BV ?_))
local macro_rules | `(tactic| walk_at "evCa")=> `(tactic| first
 | ((with_reducible show aJ _ (PX (O7 "max" _) [_,_] _ _) _ _); with_reducible refine BL (Txt.max (by assumption)) ?_))
theorem JW (Fu:fu K "_law_product" "_law_product" fY f fd) (T:Txt K mg) (h1:cz P w K mg base 1 "_law_plain" qj):bx P w K mg base (dH P w) 2 f fd ["_law_factors"] (fE K Dn):=by
 refine cR Fu qh qi (by rintro ds r ⟨As,_,_,_,rfl,_⟩; rfl) (by rintro ds r ⟨As,_,_,_,_,rfl⟩; exact ⟨_,rfl⟩) fun c hq ds sl hF=>?_
 obtain ⟨As,h8,hf,hl,rfl,e⟩:=hF
 injection e with e
 subst e
 show aS c _ [.va (.lst (As.map af)),.un,.un,.un,.un,.un,.un,.un,.un,.un,.un] _ _
 conv in (ay _)=>whnf
 walk_at "ev"
 show eV c _ [.va (.lst (As.map af)),.ow ((dG (As.take 0)).map aP),.un,.un,.un,.un,.un,.un,.un,.un,.un] _ _
 with_reducible refine cS hq (cA ?_)
 walk_at "ev"
 refine ⟨fun i ρ'=>∃ s2 s3 s4 s5 s6 s7 s8 s9 s10:Sl,ρ'=[.va (.lst (As.map af)),.ow ((dG (As.take i)).map aP),s2,s3,s4,s5,s6,s7,s8,s9,s10],⟨_,_,_,_,_,_,_,_,_,rfl⟩,?_,?_⟩
 ·rintro c' oQ zH zI i d ρ' hd ⟨s2,s3,s4,s5,s6,s7,s8,s9,s10,rfl⟩
  simp only [OY,O4] at hd
  obtain ⟨B,hBx,rfl⟩:=hd
  obtain ⟨hi,rfl⟩:=OZ.mp hBx
  have hq':c'.X.xe=fun _ _=>False:=by rw [oQ]; exact hq
  have hfB:=hf _ (Pp hi)
  have hw:=fL hf hl i (by omega)
  have hp2:bC (As.take i++[As[i]])≤20000:=by
   rw [← P0 hi]; exact OV (iw _ _) hl
  have hlp:(dG (As.take i)).length * As[i].length≤20000:=by
   have:=(gU hw hfB).2.1
   rw [cZ] at this; omega
  have eN:dG (As.take (i+1))=aW (aM (dG (As.take i)) As[i]):=by rw [P0 hi,oH]
  have hAl:(dG (As.take i)).length≤20000:=OV hw.l (OV (iw _ _) hl)
  have hA6:∀ t∈dG (As.take i),t.1.length≤6:=fun t ht=>(hw.e t ht).1
  have hAb:Bn 20000 (dG (As.take i)):=hw.b.mono (by rw [P9]; omega)
  generalize dG (As.take i)=A at hlp eN hAl hA6 hAb ⊢
  generalize As[i]=B at hfB hlp eN ⊢
  clear hw hp2 hBx
  refine dM (by walk_at "at") (qQ (by walk_at "sset") ?_)
  refine lJ 1 (by walk_at "at") rfl (by walk_at "sset") ?_
  walk_at "ev"
  show eV c' _ [_,_,_,.ow ((aM (A.take 0) B).map aP),_,_,_,_,_,_,_] _ _
  with_reducible refine cS hq' (cA ?_)
  walk_at "ev"
  refine ⟨fun i ρ'=>∃ s4 s5 s6 s7 s8 s9 s10:Sl,ρ'=[.va (.lst (As.map af)),.va (.lst (A.map aP)),.va (af B),.ow ((aM (A.take i) B).map aP),s4,s5,s6,s7,s8,s9,s10],⟨_,_,_,_,_,_,_,rfl⟩,?_,?_⟩
  ·rintro c1 hcX1 hcR1 hcM1 i1 d ρ' hd ⟨s4,s5,s6,s7,s8,s9,s10,rfl⟩
   simp only [OY,O4] at hd
   obtain ⟨l,hlx,rfl⟩:=hd
   obtain ⟨hi1,rfl⟩:=OZ.mp hlx
   have hq1:c1.X.xe=fun _ _=>False:=by rw [hcX1]; exact hq'
   have h6:=hA6 A[i1] (Pp hi1)
   have hlb:=hAb A[i1] (Pp hi1)
   have e0:aM (A.take (i1+1)) B=aM (A.take i1) B++B.map (dO A[i1]):=by
    rw [P0 hi1,oF]
   have hlen:(aM (A.take i1) B).length+B.length≤20000:=by
    rw [cZ,P9,So (by omega),← SD]
    exact OV (Nat.mul_le_mul_right _ (by omega)) hlp
   generalize A[i1]=l at h6 hlb e0 ⊢
   generalize aM (A.take i1) B=ts at e0 hlen ⊢
   show nR c1 _ (.tup [.tup (l.1.map .int),.int l.2]) _ _
   walk_at "ev"
   with_reducible refine cS hq1 (cA ?_)
   refine nS (by walk_at "at") (by walk_at "at") ?_
   refine A3 (ds:=B.map aP) rfl ?_
   refine ⟨fun j ρ'=>∃ s6 s7 s8 s9 s10:Sl,ρ'=[.va (.lst (As.map af)),.va (.lst (A.map aP)),.va (af B),.ow ((ts++(B.take j).map (dO l)).map aP),.va (.tup (l.1.map .int)),.va (.int l.2),s6,s7,s8,s9,s10],⟨s6,s7,s8,s9,s10,by simp⟩,?_,?_⟩
   ·rintro c2 hcX2 hcR2 hcM2 j d ρ' hd ⟨s6,s7,s8,s9,s10,rfl⟩
    simp only [OY,O4] at hd
    obtain ⟨r,hrx,rfl⟩:=hd
    obtain ⟨hj,rfl⟩:=OZ.mp hrx
    have h6r:=(hfB.e B[j] (Pp hj)).1
    have hrb:=hfB.b B[j] (Pp hj)
    have hq2:c2.X.xe=fun _ _=>False:=by rw [hcX2]; exact hq1
    have e1:ts++(B.take (j+1)).map (dO l)=(ts++(B.take j).map (dO l))++[dO l B[j]]:=by
     rw [P0 hj,Pq,Pd]; rfl
    have hlen2:((ts++(B.take j).map (dO l)).map aP).length<sizeLine:=iP (by
     rw [OT,Py,OT,P9]; omega)
    generalize ts++(B.take j).map (dO l)=us at e1 hlen2 ⊢
    generalize B[j]=r at h6r hrb e1 ⊢
    show nR c2 _ (.tup [.tup (r.1.map .int),.int r.2]) _ _
    generalize hG:(fun ρ'=>aS c2 _ ρ' _ _)=G
    walk_at "ev"
    subst hG
    refine aO ?_
    generalize hG:(fun ρ'=>aS c2 _ ρ' _ _)=G
    walk_at "ev"
    have ew:(if ((r.1.map D.int).length:Int)>((l.1.map D.int).length:Int) then ((r.1.map D.int).length:Int) else ((l.1.map D.int).length:Int))=((max l.1.length r.1.length:Nat):Int):=by simp only [OT]; split <;> omega
    rw [ew]
    have hw6:max l.1.length r.1.length≤6:=by omega
    generalize hwd:max l.1.length r.1.length=wd at hw6 ⊢
    subst hG
    refine aO ?_
    generalize hG:(fun ρ'=>aS c2 _ ρ' _ _)=G
    walk_at "ev"
    refine ⟨_,_,rfl,rfl,⟨⟨by simp,by rw [OT]; omega,by rw [OT]; omega,by rw [xM]; exact pX (by simp; omega)⟩,?_⟩⟩
    rw [xM]
    walk_at "ev"
    ·exact pX (by simp; omega)
    subst hG
    refine aO ?_
    generalize hG:(fun ρ'=>aS c2 _ ρ' _ _)=G
    walk_at "ev"
    refine ⟨_,_,rfl,rfl,⟨⟨by simp,by rw [OT]; omega,by rw [OT]; omega,by rw [xM]; exact pX (by simp; omega)⟩,?_⟩⟩
    rw [xM]
    walk_at "ev"
    ·exact pX (by simp; omega)
    subst hG
    refine aO ?_
    with_reducible refine uu (by walk_at "at") (by walk_at "at") (by walk_at "own") ?_
    refine GJ (cB (kH (Txt.tuple T) (e_x (ff hq2 (N':=["_law_k","_law_one","_law_two"]) (ρ0:=fun _=>[.un,.va (.tup (l.1.map .int++(OX (wd - l.1.length) [D.int 0]).flatten)),.va (.tup (r.1.map .int++(OX (wd - r.1.length) [D.int 0]).flatten))]) (fun t=>.un (.fr (by walk_at "at") (by walk_at "at") (by decide) rfl (.fr (by walk_at "at") (by walk_at "at") (by decide) rfl .nil))) (gu (Txt.range T) ?_)))) ?_)
    case refine_2=>intro _; walk_at "u"
    walk_at "ev"
    ·exact ⟨by omega,by omega⟩
    ·rw [jB]; exact pX (by omega)
    refine ⟨(PF wd).map fun k=>some (.int (bU l.1 k+bU r.1 k)),by simp [jB],?_,?_⟩
    ·intro c3 hc3 t k d o hd ho
     rw [Pz] at hd
     obtain ⟨hk,rfl⟩:=ji hd
     rw [OY,RP hk] at ho
     cases ho
     refine dM (by walk_at "at") (qQ (by walk_at "sset") ⟨.un (.same (.same .nil)),?_⟩)
     simp only [uA]
     refine ⟨fun _=>?_,fun h=>by cases h⟩
     walk_at "ev"
     refine jc (Dp (p:=l.1) hk (by omega)) ?_
     walk_at "ev"
     refine jc (Dp (p:=r.1) hk (by omega)) ?_
     walk_at "ev"
     rfl
    ·rw [c7 (fun k=>D.int (bU l.1 k+bU r.1 k)),show (PF wd).map (fun k=>D.int (bU l.1 k+bU r.1 k))=(cD l.1 r.1).map D.int by rw [← hwd]; unfold cD; rw [Pb]; rfl]
     walk_at "ev"
     ·exact ql hlb hrb (by decide)
     show ∃ s6 s7 s8 s9 s10:Sl,_=[_,_,_,.ow ((ts++(B.take (j+1)).map (dO l)).map aP),_,_,s6,s7,s8,s9,s10]
     rw [e1,← j4]
     exact ⟨_,_,_,_,_,rfl⟩
   ·rintro ρ' ⟨s6,s7,s8,s9,s10,rfl⟩
    rw [OT,PU,← e0]
    walk_at "ev"
    exact ⟨_,_,_,_,_,_,_,rfl⟩
  ·rintro ρ' ⟨s4,s5,s6,s7,s8,s9,s10,rfl⟩
   rw [OT,PU]
   refine aO (AD (by walk_at "at") (wu 3 (by walk_at "at") rfl (by walk_at "sset") (x_call (F:=qj) h1 (by decide) ?_)))
   walk_at "ev"
   refine aF (vg (by rw [cZ]; exact hlp) fun t ht=>?_) ⟨dW fun x _=>j3 x,?_⟩
   ·obtain ⟨l,hl,r,hr,rfl⟩:=gE ht
    show (cD l.1 r.1).length≤64
    have:=hA6 l hl
    have:=(hfB.e r hr).1
    rw [jx]; omega
   walk_at "ev"
   show ∃ s2 s3 s4 s5 s6 s7 s8 s9 s10:Sl,_=[_,.ow ((dG (As.take (i+1))).map aP),s2,s3,s4,s5,s6,s7,s8,s9,s10]
   rw [eN]
   exact ⟨_,_,_,_,_,_,_,_,_,rfl⟩
 ·rintro ρ' ⟨s2,s3,s4,s5,s6,s7,s8,s9,s10,rfl⟩
  rw [OT,PU]
  walk_at "ev"
  rfl
end
end
section
variable {P:Program} {w:World} {K:ON} {mg:Str→Option Value} {base:Heap}
noncomputable def mH (n:Int) (t:aG):aG:=(t.1,n * t.2)
theorem mz (p):cD [] p=p:=by
 unfold cD
 refine TN (by simp) fun i h1 h2=>?_
 rw [U3,UM]
 simp [bU,Pc h2]
theorem JX (n:Int) (A:List aG):mp (A.map (mH n))=(n:MP) * mp A:=by
 rw [← p5,← uX]
 refine congrArg mp ?_
 unfold aM cT
 rw [RU,TM,P1]
 refine QN fun t _=>?_
 unfold mH dO
 rw [mz]
noncomputable def tN (p:Part):D:=.tup [.int p.1,.lst (p.2.map af)]
noncomputable def f9 (ps:List Part):List aG:=ps.flatMap fun p=>(dG p.2).map (mH p.1)
theorem zB (ps) (p:Part):f9 (ps++[p])=f9 ps++(dG p.2).map (mH p.1):=by simp [f9]
theorem Gp (hf:∀ A∈As,cI A) (hl:bC As≤20000):mp (dG As)=qk As:=by
 have h:=(fL hf hl As.length (OP _)).m
 rw [PU] at h
 rw [h]; grind
theorem xN {ps:List Part} (hp:p∈ps):bC p.2≤(ps.map fun p=>bC p.2).sum:=by
 induction ps with
 | nil=>cases hp
 | cons q ps ih =>
  rw [OS,QV]
  rcases O5.mp hp with rfl | h
  ·exact RV _ _
  ·exact OV (ih h) (Nat.le_add_left _ _)
theorem xO (h:∀ p∈ps,dz p∧bC p.2≤20000):mp (f9 ps)=mp (cP ps):=by
 induction ps with
 | nil=>rfl
 | cons p ps ih =>
  have hp:=h p O1
  have e1:f9 (p::ps)=(dG p.2).map (mH p.1)++f9 ps:=rfl
  have e2:cP (p::ps)=dZ p.1 p.2++cP ps:=rfl
  rw [e1,e2,jV,jV,ih fun q hq=>h q (O2 _ hq),JX,Gp hp.1.f hp.2,eS]
theorem mJ (h:∀ p∈ps,dz p∧bC p.2≤20000):(f9 ps).length≤(ps.map fun p=>bC p.2).sum:=by
 induction ps with
 | nil=>exact OP _
 | cons p ps ih =>
  have hp:=h p O1
  have e1:f9 (p::ps)=(dG p.2).map (mH p.1)++f9 ps:=rfl
  have hw:=(fL hp.1.f hp.2 p.2.length (OP _)).l
  rw [PU] at hw
  rw [e1,Py,OT,OS,QV]
  exact Nat.add_le_add hw (ih fun q hq=>h q (O2 _ hq))
theorem JY (hf:∀ A∈As,cI A) (hl:bC As≤20000):∀ t∈dG As,t.1.length≤6:=fun t ht=>by
 have h:=(fL hf hl As.length (OP _)).e
 rw [PU] at h
 exact (h t ht).1
theorem JZ (h8:As.length≤8) (hf:∀ A∈As,cI A) (hl:bC As≤20000):Bn 20000 (dG As):=by
 have h:=(fL hf hl As.length (OP _)).b
 rw [PU] at h
 exact h.mono (by omega)
theorem Dq (h:∀ p∈ps,dz p∧bC p.2≤20000):∀ t∈f9 ps,t.1.length≤6:=fun t ht=>by
 obtain ⟨p,hp,ht⟩:=TL.mp ht
 obtain ⟨u,hu,rfl⟩:=Pa.mp ht
 exact JY (h p hp).1.f (h p hp).2 u hu
noncomputable def Dr:Fn:=fun ds r=>∃ ps:List Part,bf ps∧ds=[.lst (ps.map tN)]∧r=.ok (.ow ((aW (cP ps)).map aP))
theorem mK (h:bf ps):Dr [.lst (ps.map tN)] (.ok (.ow ((aW (cP ps)).map aP))):=⟨ps,h,rfl,rfl⟩
theorem J0 (Fu:fu K "_law_sum" "_law_sum" mE f fd) (T:Txt K mg) (h1:cz P w K mg base 1 "_law_plain" qj) (h2:cz P w K mg base 2 "_law_product" Dn):bx P w K mg base (dH P w) 3 f fd ["_law_parts"] (fE K Dr):=by
 refine cR Fu CF CG (by rintro ds r ⟨As,_,rfl,_⟩; rfl) (by rintro ds r ⟨As,_,_,rfl⟩; exact ⟨_,rfl⟩) fun c hq ds sl hF=>?_
 obtain ⟨ps,h,rfl,e⟩:=hF
 injection e with e
 subst e
 have hh:∀ p∈ps,dz p∧bC p.2≤20000:=fun p hp=>⟨h.p p hp,OV (xN hp) h.s⟩
 show aS c _ [.va (.lst (ps.map tN)),.un,.un,.un] _ _
 conv in (ay _)=>whnf
 walk_at "ev"
 show eV c _ [.va (.lst (ps.map tN)),.ow ((f9 (ps.take 0)).map aP),.un,.un] _ _
 with_reducible refine cS hq (cA ?_)
 walk_at "ev"
 refine ⟨fun i ρ'=>∃ s2 s3:Sl,ρ'=[.va (.lst (ps.map tN)),.ow ((f9 (ps.take i)).map aP),s2,s3],⟨_,_,rfl⟩,?_,?_⟩
 ·rintro c' oQ zH zI i d ρ' hd ⟨s2,s3,rfl⟩
  simp only [OY,O4] at hd
  obtain ⟨p,hpx,rfl⟩:=hd
  obtain ⟨hi,rfl⟩:=OZ.mp hpx
  have hq':c'.X.xe=fun _ _=>False:=by rw [oQ]; exact hq
  obtain ⟨hp,hpl⟩:=hh _ (Pp hi)
  have eN:f9 (ps.take (i+1))=f9 (ps.take i)++(dG ps[i].2).map (mH ps[i].1):=by rw [P0 hi,zB]
  have hln:(f9 (ps.take i)).length+(dG ps[i].2).length≤20000:=by
   have h1:=mJ (ps:=ps.take (i+1)) fun q hq=>hh q (Tg hq)
   rw [eN,Py,OT] at h1
   refine OV h1 (OV ?_ h.s)
   rw [← Qz (i+1) ps,Pq,Rr,Qz]
   exact RV _ _
  generalize f9 (ps.take i)=A at eN hln ⊢
  generalize ps[i]=p at hp hpl eN hln ⊢
  show nR c' _ (.tup [.int p.1,.lst (p.2.map af)]) _ _
  generalize hG:(fun ρ'=>aS c' _ ρ' _ _)=G
  walk_at "ev"
  subst hG
  refine aO (AD (by walk_at "at") (wu 1 (by walk_at "at") rfl (by walk_at "sset") (AS (nS (by walk_at "at") (by walk_at "at") (e_x (ff hq' (N':=["_law_powers","_law_count","_law_number"]) (ρ0:=fun _=>[.un,.un,.va (.int p.1)]) (fun t=>.un (.un (.fr (by walk_at "at") (by walk_at "at") (by decide) rfl .nil))) (cA (e_x (x_call (F:=Dn) h2 (by decide) ?_)))))))))
  walk_at "ev"
  refine aF (Mr hp.m hp.f hpl) (cj ?_)
  have hb:=JZ hp.m hp.f hpl
  generalize dG p.2=L at eN hln hb ⊢
  refine A3 rfl ⟨pX (by simp only [OT]; omega),L.map fun x=>some (aP (mH p.1 x)),by simp,?_,?_⟩
  ·intro c2 hc t i d o hd ho
   simp only [OY,O4] at hd ho
   obtain ⟨x,hx,rfl⟩:=hd
   obtain ⟨x',hx',rfl⟩:=ho
   rw [hx] at hx'; cases hx'
   have hxb:=hb x (Qc hx)
   show nR c2 _ (.tup [.tup (x.1.map .int),.int x.2]) _ _
   walk_at "ev"
   refine ⟨.un (.un (.same .nil)),?_⟩
   simp only [uA]
   refine ⟨fun _=>?_,fun h=>by cases h⟩
   walk_at "ev"
   ·exact ql hp.n hxb (by decide)
   rfl
  ·rw [c7 (fun x=>aP (mH p.1 x)),show L.map (fun x=>aP (mH p.1 x))=(L.map (mH p.1)).map aP by rw [Pb]; rfl]
   walk_at "ev"
   ·exact pX (by simp only [OT]; omega)
   ·rw [← Pq]; exact dW fun x _=>j3 x
   show ∃ s2 s3:Sl,_=[_,.ow ((f9 (ps.take (i+1))).map aP),s2,s3]
   rw [eN,Pq]
   exact ⟨_,_,rfl⟩
 ·rintro ρ' ⟨s2,s3,rfl⟩
  rw [OT,PU]
  refine aO (dR (wu 1 (by walk_at "at") rfl (by walk_at "sset") (x_call (F:=qj) h1 (by decide) ?_)))
  walk_at "ev"
  refine aF (vg (OV (mJ hh) h.s) fun t ht=>OV (Dq hh t ht) (by decide)) ⟨dW fun x _=>j3 x,?_⟩
  show Sl.ow _=Sl.ow _
  rw [show fJ (nz (aL (f9 ps)))=aW (cP ps) from dw (xO hh)]
noncomputable def qo:Fn:=fun ds r=>∃ (ns:List Int) (k:Nat),ds=[.lst (ns.map .int),.int (k:Int)]∧r=.ok (.va (.int (ns.getD k 0)))
theorem Ds (ns:List Int) (k:Nat):qo [.lst (ns.map .int),.int (k:Int)] (.ok (.va (.int (ns.getD k 0)))):=⟨ns,k,rfl,rfl⟩
theorem J1 {ns:List Int} (h:k<ns.length):kE (ns.map D.int) (k:Int)=some (D.int (ns.getD k 0)):=by
 rw [g6 (by lia) (by simp; lia),Pz,OY,Pc h,P8,Pc h]
 rfl
theorem J2 (Fu:fu K "_law_cell_at" "_law_cell_at" fX f fd) (T:Txt K mg):bx P w K mg base (dH P w) 1 f fd ["_law_script","_law_k"] (fE K qo):=by
 refine cR Fu qf qg (by rintro ds r ⟨ns,k,rfl,_⟩; rfl) (by rintro ds r ⟨ns,k,_,rfl⟩; exact ⟨_,rfl⟩) fun c hq ds sl hF=>?_
 obtain ⟨ns,k,rfl,e⟩:=hF
 injection e with e
 subst e
 show aS c _ [.va (.lst (ns.map .int)),.va (.int (k:Int))] _ _
 conv in (ay _)=>whnf
 walk_at "ev"
 ·have hk:k<ns.length:=by simp only [OT] at *; omega
  refine AL (J1 hk) ?_
  walk_at "ev"
  rfl
 ·have hk:¬ k<ns.length:=by simp only [OT] at *; omega
  show Sl.va _=Sl.va _
  rw [P8,QA (by omega)]; rfl
noncomputable def Mt (c:Int) (k:Nat):Int:=(c * 48271+(k:Int) * 69621+11) % 2147483629
noncomputable def J3 (c:Int) (k:Nat):Int:=Mt c k * Mt c k % 2147483587
noncomputable def nC (ns:List Int) (k:Nat):Int :=
 if ns.getD k 0≥10 ^ SN 18 then ns.getD k 0 - 10 ^ SN 18 else J3 (ns.getD k 0) k * 2147483563+J3 (ns.getD k 0) k * J3 (ns.getD k 0) k % 2147483563
noncomputable def Dt:Fn:=fun ds r=>∃ (ns:List Int) (k:Nat),ds=[.lst (ns.map .int),.int (k:Int)]∧r=.ok (.va (.int (nC ns k)))
theorem Mu (ns) (k:Nat):Dt [.lst (ns.map .int),.int (k:Int)] (.ok (.va (.int (nC ns k)))):=⟨ns,k,rfl,rfl⟩
theorem Mw:t8 10 9:=⟨by decide,by decide,by decide +kernel⟩
theorem Du:t8 10 18:=⟨by decide,by decide,by decide +kernel⟩
theorem vp (h:b.natAbs<2 ^ 63):EV.MulOk a b:=IntMulOk.of_right (ri h)
section
local macro_rules | `(tactic| walk_at "evR")=> `(tactic| with_reducible refine aF (Ds _ _) ?_)
local macro_rules | `(tactic| walk_at "evCa")=> `(tactic| with_reducible refine cC (F:=qo) (by assumption) (by decide) ?_)
theorem J4 (Fu:fu K "_law_digits" "_law_digits" gP f fd) (T:Txt K mg) (h1:cz P w K mg base 1 "_law_cell_at" qo):bx P w K mg base (dH P w) 2 f fd ["_law_script","_law_k"] (fE K Dt):=by
 refine cR Fu sY sZ (by rintro ds r ⟨ns,k,rfl,_⟩; rfl) (by rintro ds r ⟨ns,k,_,rfl⟩; exact ⟨_,rfl⟩) fun c hq ds sl hF=>?_
 obtain ⟨ns,k,rfl,e⟩:=hF
 injection e with e
 subst e
 show aS c _ [.va (.lst (ns.map .int)),.va (.int (k:Int)),.un,.un] _ _
 conv in (ay _)=>whnf
 walk_at "ev"
 ·exact Du
 ·exact Du
 ·show Sl.va _=Sl.va _
  unfold nC
  rw [if_pos (by assumption)]
 ·exact vp (by decide)
 ·exact vp (by decide)
 ·exact rm (by omega)
 ·exact vp (by decide)
 ·exact rm (by omega)
 ·show Sl.va _=Sl.va _
  unfold nC
  rw [if_neg (by assumption)]
  rfl
end
noncomputable def stN (r:Int):Int:=r / 513 / 16
noncomputable def DZ (r:Int):aG:=([r % 3,r / 3 % 3,r / 9 % 3],if r / 513 % 16=15 then (r / 27 % 19 - 9) * (10 ^ SN 9+7) else r / 27 % 19 - 9)
noncomputable def nD:Nat→Int→List aG×Int
 | 0,r=>([],r)
 | i+1,r=>((nD i r).1++[DZ (nD i r).2],stN (nD i r).2)
noncomputable def oM (n:Int):List aG:=aW (nD (n % 4).toNat (n / 4)).1
theorem kR (i) (r):(nD i r).1.length=i:=by
 induction i with
 | zero=>rfl
 | succ i ih=>simp [nD,ih]
noncomputable def tP:Fn:=fun ds r=>∃ n:Int,ds=[.int n]∧r=.ok (.ow ((oM n).map aP))
theorem J5 (n):tP [.int n] (.ok (.ow ((oM n).map aP))):=⟨n,rfl,rfl⟩
theorem Mx (i) (r):∀ t∈(nD i r).1,t.1.length=3:=by
 induction i with
 | zero=>intro t ht; cases ht
 | succ i ih =>
  intro t ht
  rcases Pg.mp ht with h | h
  ·exact ih t h
  ·rw [O3.mp h]; rfl
section
theorem Gq (Fu:fu K "_law_some" "_law_some" jZ f fd) (T:Txt K mg) (h1:cz P w K mg base 1 "_law_plain" qj):bx P w K mg base (dH P w) 2 f fd ["_law_number"] (fE K tP):=by
 refine cR Fu zh zj (by rintro ds r ⟨n,rfl,_⟩; rfl) (by rintro ds r ⟨n,_,rfl⟩; exact ⟨_,rfl⟩) fun c hq ds sl hF=>?_
 obtain ⟨n,rfl,e⟩:=hF
 injection e with e
 subst e
 show aS c _ [.va (.int n),.un,.un,.un,.un,.un] _ _
 conv in (ay _)=>whnf
 walk_at "ev"
 show eV c _ [.va (.int (nD 0 (n / 4)).2),.ow ((nD 0 (n / 4)).1.map aP),.va (.int (n % 4)),.un,.un,.un] _ _
 with_reducible refine cS hq (gu (Txt.range (by assumption)) ?_)
 walk_at "ev"
 ·exact ⟨by omega,by omega⟩
 refine ⟨fun i ρ'=>∃ s3 s4 s5:Sl,ρ'=[.va (.int (nD i (n / 4)).2),.ow ((nD i (n / 4)).1.map aP),.va (.int (n % 4)),s3,s4,s5],⟨_,_,_,rfl⟩,?_,?_⟩
 ·rintro c' oQ zH zI i d ρ' hd ⟨s3,s4,s5,rfl⟩
  obtain ⟨hi,rfl⟩:=ji hd
  have hl:=kR i (n / 4)
  have eN:nD (i+1) (n / 4)=((nD i (n / 4)).1++[DZ (nD i (n / 4)).2],stN (nD i (n / 4)).2):=rfl
  generalize nD i (n / 4)=g at hl eN ⊢
  obtain ⟨L,r⟩:=g
  have hm:=Int.emod_lt_of_pos (r / 27) (b:=19) (by decide)
  have hm0:=Int.emod_nonneg (r / 27) (b:=19) (by decide)
  have hz:(L.map aP).length<sizeLine:=iP (by rw [OT]; have:L.length=i:=hl; omega)
  walk_at "ev"
  ·exact Mw
  ·exact rm (by show ((r / 27 % 19 - 9:Int)).natAbs<_; omega)
  ·show ∃ s3 s4 s5:Sl,_=[.va (.int (nD (i+1) (n / 4)).2),.ow ((nD (i+1) (n / 4)).1.map aP),.va (.int (n % 4)),s3,s4,s5]
   rw [eN,← j4,show aP (DZ r)=.tup [.tup [.int (r % 3),.int (r / 3 % 3),.int (r / 9 % 3)],.int ((r / 27 % 19 - 9) * (10 ^ SN 9+7))] by unfold DZ; rw [if_pos (by assumption)]; rfl]
   exact ⟨_,_,_,rfl⟩
  ·show ∃ s3 s4 s5:Sl,_=[.va (.int (nD (i+1) (n / 4)).2),.ow ((nD (i+1) (n / 4)).1.map aP),.va (.int (n % 4)),s3,s4,s5]
   rw [eN,← j4,show aP (DZ r)=.tup [.tup [.int (r % 3),.int (r / 3 % 3),.int (r / 9 % 3)],.int (r / 27 % 19 - 9)] by unfold DZ; rw [if_neg (by assumption)]; rfl]
   exact ⟨_,_,_,rfl⟩
 ·rintro ρ' ⟨s3,s4,s5,rfl⟩
  rw [jB]
  refine aO (dR (wu 1 (by walk_at "at") rfl (by walk_at "sset") (x_call (F:=qj) h1 (by decide) ?_)))
  walk_at "ev"
  refine aF (vg (by rw [kR]; omega) fun t ht=>by rw [Mx _ _ t ht]; decide) ⟨dW fun x _=>j3 x,?_⟩
  rfl
end
end
section
variable {K:ON}
noncomputable def Dv (ns:List Int) (a:Nat) (m:Nat):List (List aG):=(PF m).map fun k=>oM (nC ns (a+k))
noncomputable def tQ:Fn:=fun ds r=>∃ (ns:List Int) (a m:Nat),m≤100∧a≤1000∧ds=[.lst (ns.map .int),.int (a:Int),.int (m:Int)]∧r=.ok (.va (.tup ((Dv ns a m).map af)))
theorem Dw (ns) {a m:Nat} (h:m≤100) (ha:a≤1000):tQ [.lst (ns.map .int),.int (a:Int),.int (m:Int)] (.ok (.va (.tup ((Dv ns a m).map af)))):=⟨ns,a,m,h,ha,rfl,rfl⟩
theorem J6 (Fu:fu K "_law_things" "_law_things" gQ f fd) (T:Txt K mg) (h1:cz P w K mg base 2 "_law_digits" Dt) (h2:cz P w K mg base 2 "_law_some" tP):bx P w K mg base (dH P w) 3 f fd ["_law_script","_law_at","_law_many"] (fE K tQ):=by
 refine cR Fu tu tw (by rintro ds r ⟨ns,a,m,_,_,rfl,_⟩; rfl) (by rintro ds r ⟨ns,a,m,_,_,_,rfl⟩; exact ⟨_,rfl⟩) fun c hq ds sl hF=>?_
 obtain ⟨ns,a,m,hm,ha,rfl,e⟩:=hF
 injection e with e
 subst e
 show aS c _ [.va (.lst (ns.map .int)),.va (.int (a:Int)),.va (.int (m:Int))] _ _
 conv in (ay _)=>whnf
 refine aO (dR (KJ (kH (Txt.tuple T) (e_x (ff hq (N':=["_law_k","_law_script","_law_at"]) (ρ0:=fun _=>[.un,.va (.lst (ns.map .int)),.va (.int (a:Int))]) (fun t=>.un (.fr (by walk_at "at") (by walk_at "at") (by decide) rfl (.fr (by walk_at "at") (by walk_at "at") (by decide) rfl .nil))) (gu (Txt.range T) ?_))))))
 walk_at "ev"
 ·exact ⟨by omega,by omega⟩
 ·rw [jB]; exact pX (by omega)
 rw [Pz]
 refine ⟨(Dv ns a m).map fun A=>some (af A),by simp [jB,Dv],?_,?_⟩
 ·intro c3 hc3 t k d o hd ho
  obtain ⟨hk,rfl⟩:=ji hd
  unfold Dv at ho
  rw [OY,OY,RP hk] at ho
  cases ho
  refine dM (by walk_at "at") (qQ (by walk_at "sset") ⟨.un (.same (.same .nil)),?_⟩)
  simp only [uA]
  refine ⟨fun _=>?_,fun h=>by cases h⟩
  refine cC (F:=tP) h2 (by decide) (cB (cC (F:=Dt) h1 (by decide) ?_))
  walk_at "ev"
  rw [show (a:Int)+(k:Int)=((a+k:Nat):Int) by omega]
  refine aF (Mu ns (a+k)) (qV ?_)
  walk_at "ev"
  refine aF (J5 _) ?_
  walk_at "ev"
  rfl
 ·rw [c7 af]
  walk_at "ev"
  rfl
noncomputable def tR:Fn:=fun ds r=>∃ As:List (List aG),As.length≤1000∧ds=[.tup (As.map af)]∧r=.ok (.va (.tup (As.map af)))
theorem Dy {As:List (List aG)} (h:As.length≤1000):tR [.tup (As.map af)] (.ok (.va (.tup (As.map af)))):=⟨As,h,rfl,rfl⟩
theorem J7 (Fu:fu K "_law_copied" "_law_copied" gR f fd) (T:Txt K mg):bx P w K mg base (dH P w) 1 f fd ["_law_told"] (fE K tR):=by
 refine cR Fu tD tE (by rintro ds r ⟨A,_,rfl,_⟩; rfl) (by rintro ds r ⟨A,_,_,rfl⟩; exact ⟨_,rfl⟩) fun c hq ds sl hF=>?_
 obtain ⟨As,hl,rfl,e⟩:=hF
 injection e with e
 subst e
 show aS c _ [.va (.tup (As.map af))] _ _
 conv in (ay _)=>whnf
 refine aO (dR (KJ (kH (Txt.tuple T) (e_x (ff hq (N':=["_law_some_here"]) (ρ0:=fun _=>[.un]) (fun t=>.un .nil) (cA ?_))))))
 walk_at "ev"
 ·exact pX (by rw [OT]; omega)
 refine ⟨As.map fun t=>some (af t),by simp,?_,cj ?_⟩
 ·intro c' hc t i d o hd ho
  simp only [OY,O4] at hd ho
  obtain ⟨x,hx,rfl⟩:=hd
  obtain ⟨x',hx',rfl⟩:=ho
  rw [hx] at hx'; cases hx'
  refine dM (by walk_at "at") (qQ (by walk_at "sset") ⟨.un .nil,?_⟩)
  simp only [uA]
  refine ⟨fun _=>?_,fun h=>by cases h⟩
  refine e_x (AO (Txt.list T) ?_)
  walk_at "ev"
  rfl
 ·rw [c7 af]
  walk_at "ev"
  rfl
noncomputable def Dz:Fn:=fun ds r=>∃ L:List aG,(∀ t∈L,t.1.length≤64)∧ds=[.lst (L.map aP)]∧r=.ok (.va (.bl true))
theorem Mz {L:List aG} (h2:∀ t∈L,t.1.length≤64):Dz [.lst (L.map aP)] (.ok (.va (.bl true))):=⟨L,h2,rfl,rfl⟩
theorem J8 (Fu:fu K "_law_terms" "_law_terms" iU f fd) (T:Txt K mg):bx P w K mg base (dH P w) 1 f fd ["_law_some_here"] (fE K Dz):=by
 refine cR Fu u9 vc (by rintro ds r ⟨n,_,rfl,_⟩; rfl) (by rintro ds r ⟨n,_,_,rfl⟩; exact ⟨_,rfl⟩) fun c hq ds sl hF=>?_
 obtain ⟨L,hlen,rfl,e⟩:=hF
 injection e with e
 subst e
 show aS c _ [.va (.lst (L.map aP)),.un,.un] _ _
 conv in (ay _)=>whnf
 walk_at "ev"
 with_reducible refine cS hq (cA ?_)
 walk_at "ev"
 refine ⟨fun i ρ'=>∃ s1 s2:Sl,ρ'=[.va (.lst (L.map aP)),s1,s2],⟨_,_,rfl⟩,?_,?_⟩
 ·rintro c' oQ zH zI i d ρ' hd ⟨s1,s2,rfl⟩
  simp only [OY,O4] at hd
  obtain ⟨t,ht,rfl⟩:=hd
  have hlt:=hlen t (Qc ht)
  have hq':c'.X.xe=fun _ _=>False:=by rw [oQ]; exact hq
  show nR c' _ (.tup [.tup (t.1.map .int),.int t.2]) _ _
  walk_at "ev"
  case refine_2 h=>exact absurd rfl h
  with_reducible refine cS hq' (cA ?_)
  walk_at "ev"
  ·exact pX (by simp; omega)
  refine ⟨fun i ρ'=>∃ s2:Sl,ρ'=[.va (.lst (L.map aP)),.va (aP t),s2],⟨_,rfl⟩,?_,?_⟩
  ·rintro c2 hcX2 hcR2 hcM2 j d ρ' hd ⟨s2,rfl⟩
   rw [show (t.1.map D.int++[D.int t.2])=(t.1++[t.2]).map D.int by simp,OY,O4] at hd
   obtain ⟨n,_,rfl⟩:=hd
   walk_at "ev"
   exact ⟨_,rfl⟩
  ·rintro ρ' ⟨s2,rfl⟩
   walk_at "ev"
   exact ⟨_,_,rfl⟩
 ·rintro ρ' ⟨s1,s2,rfl⟩
  walk_at "ev"
  rfl
noncomputable def zC:Fn:=fun ds r=>∃ As:List (List aG),As.length≤1000∧(∀ A∈As,∀ t∈A,t.1.length≤64)∧ds=[.tup (As.map af),.tup (As.map af)]∧r=.ok (.va (.bl true))
theorem MA {As:List (List aG)} (h:As.length≤1000) (h2:∀ A∈As,∀ t∈A,t.1.length≤64):zC [.tup (As.map af),.tup (As.map af)] (.ok (.va (.bl true))):=⟨As,h,h2,rfl,rfl⟩
section
local macro_rules | `(tactic| walk_at "evCa")=> `(tactic| first | with_reducible refine cC (F:=Dz) (by assumption) (by decide) ?_)
theorem J9 {f:Addr} {fd:FuncData} (Fu:fu K "_law_same" "_law_same" j0 f fd) (T:Txt K mg) (h1:cz P w K mg base 1 "_law_terms" Dz):bx P w K mg base (dH P w) 2 f fd ["_law_found","_law_due_here"] (fE K zC):=by
 refine cR Fu zk zm (by rintro ds r ⟨n,_,_,rfl,_⟩; rfl) (by rintro ds r ⟨n,_,_,_,rfl⟩; exact ⟨_,rfl⟩) fun c hq ds sl hF=>?_
 obtain ⟨As,hl,hlen,rfl,e⟩:=hF
 injection e with e
 subst e
 show aS c _ [.va (.tup (As.map af)),.va (.tup (As.map af)),.un] _ _
 conv in (ay _)=>whnf
 walk_at "ev"
 case refine_2 h=>exact absurd rfl h
 with_reducible refine cS hq (gu (Txt.range (by assumption)) ?_)
 walk_at "ev"
 ·exact ⟨by omega,by simp only [OT]; omega⟩
 refine ⟨fun i ρ'=>∃ s2:Sl,ρ'=[.va (.tup (As.map af)),.va (.tup (As.map af)),s2],⟨_,rfl⟩,?_,?_⟩
 ·rintro c' oQ zH zI i d ρ' hd ⟨s2,rfl⟩
  obtain ⟨hi,rfl⟩:=ji hd
  rw [OT,Pz] at hi
  have hA:=hlen _ (Pp hi)
  have hat:kE (As.map af) (i:Int)=some (af As[i]):=by
   rw [g6 (by omega) (by simp; omega),Pz,OY,Pc hi]; rfl
  generalize As[i]=A at hA hat
  walk_at "ev"
  refine jc hat ?_
  walk_at "ev"
  refine aF (Mz hA) ?_
  walk_at "ev"
  refine jc hat ?_
  walk_at "ev"
  refine jc hat ?_
  walk_at "ev"
  refine sF (yQ A A) ?_
  walk_at "ev"
  exact ⟨_,rfl⟩
 ·rintro ρ' ⟨s2,rfl⟩
  walk_at "ev"
  rfl
end
noncomputable def Na:D:=.tup [.tup [.int 1],.int 5]
noncomputable def Oc:D:=.tup [.tup [],.int 0]
noncomputable def DA (x:Addr×List D):Addr×List D:=(x.1,Oc::(x.2++[Na]))
noncomputable def MB (i:Nat) (L:List (Addr×List D)):List (Addr×List D):=(L.take i).map DA++L.drop i
theorem DB:∀ L:List (Addr×List D),yU (d7 L)=some (L.map fun x=>D.adr x.1)
 | []=>rfl
 | x::L=>by
  have:=DB L
  unfold d7 at this ⊢
  simp only [OS,yU,Sh.raw,this]
theorem vq (A B):d7 (A++B)=d7 A++d7 B:=by unfold d7; rw [Pq]
theorem DC (h:i<L.length):d7 (MB i L)=d7 ((L.take i).map DA)++.la L[i].1 L[i].2::d7 (L.drop (i+1)):=by
 unfold MB
 rw [vq,Ur h]
 rfl
theorem DE (h:i<L.length):d7 ((L.take i).map DA)++.la L[i].1 (Oc::(L[i].2++[Na]))::d7 (L.drop (i+1))=d7 (MB (i+1) L):=by
 unfold MB
 rw [vq,P0 h,Pq,vq,Pd]
 rfl
noncomputable def tS (s:Sh):Prop:=∃ dss:List (List D),s=.t (dss.map .l)∧dss.length≤1000∧∀ ds∈dss,ds.length≤20000
theorem DF (Fu:fu K "_law_spoil" "_law_spoil" iV f fd):bx P w K mg base (dH P w) 1 f fd ["_law_found"] (KO K tS):=by
 refine N8 Fu vd ve rfl (by decide) fun c hq s hs=>?_
 obtain ⟨dss,rfl,hl,hd'⟩:=hs
 show aS c _ [.fo (.t (dss.map .l)),.un] _ _
 conv in (ay _)=>whnf
 refine aO (JA 0 (by walk_at "at") fun L e=>?_)
 subst e
 show eV c _ [.fo (.t (d7 L)),.un] _ _
 have hll:L.length≤1000:=by rw [← OT (f:=(·.2))]; exact hl
 with_reducible refine cS hq (cA (Jz (by walk_at "at") (by walk_at "at") (DB L) ?_))
 refine ⟨_,rfl,fun i ρ'=>ρ'=[.fo (.t (d7 (MB i L))),.un],rfl,?_,?_⟩
 ·rintro c' oQ zH zI i d ρ' hd rfl
  simp only [OY,O4] at hd
  obtain ⟨x,hx,rfl⟩:=hd
  obtain ⟨hi,rfl⟩:=OZ.mp hx
  have hli:L[i].2.length≤20000:=hd' _ (Pa.mpr ⟨_,Pp hi,rfl⟩)
  refine dM (by walk_at "at") (qQ (by walk_at "sset") ?_)
  rw [DC hi]
  refine Ce 0 1 (.z (.cons rfl .nil)) (by walk_at "at") ?_ (by decide)
  show aS c' _ [.fo (.t (d7 ((L.take i).map DA)++.v (.adr L[i].1)::d7 (L.drop (i+1)))),.aw L[i].1 L[i].2] _ _
  refine aO ?_
  with_reducible refine uu (by walk_at "at") (by walk_at "at") (by walk_at "own") ?_
  generalize hG:(fun ρ''=>aS c' _ ρ'' _ _)=G
  walk_at "ev"
  ·exact iP (by omega)
  subst hG
  refine aO ?_
  with_reducible refine JG (ds:=L[i].2++[Na]) (by walk_at "at") (by walk_at "at") (by walk_at "own") ?_
  generalize hG:(fun ρ''=>aS c' _ ρ'' _ _)=G
  walk_at "ev"
  ·exact iP (by simp; omega)
  subst hG
  show aS c' _ [.fo (.t (d7 ((L.take i).map DA)++.v (.adr L[i].1)::d7 (L.drop (i+1)))),.aw L[i].1 (Oc::(L[i].2++[Na]))] _ _
  refine Cf 0 1 (.z (.cons rfl .nil)) (by walk_at "at") ?_ (by decide)
  refine uq ?_
  show [Sl.fo (.t _),Sl.un]=_
  rw [DE hi]
 ·rintro ρ' rfl
  exact uq trivial
end
section
variable {P:Program} {w:World} {K:ON} {mg:Str→Option Value} {base:Heap}
structure bM (A:List aG):Prop where
 l:A.length≤3
 e:Ex 2 A
 b:Bn 100 A
theorem bM.vv (h:bM A):cI A:=⟨OV h.l (by decide),h.e.mono (by decide),h.b.mono (by decide)⟩
theorem Ka (r):(DZ r).1.length≤6∧(∀ x∈(DZ r).1,0≤x∧x≤2)∧(DZ r).2.natAbs<2 ^ 50:=by
 unfold DZ
 refine ⟨by show (3:Nat)≤6; decide,fun x hx=>?_,?_⟩
 ·simp only [O5,QH,or_false] at hx
  rcases hx with rfl | rfl | rfl <;> omega
 ·have h1:=Int.emod_lt_of_pos (r / 27) (b:=19) (by decide)
  have h2:=Int.emod_nonneg (r / 27) (b:=19) (by decide)
  have e9:(10:Int) ^ SN 9=1000000000:=by decide +kernel
  rw [e9]
  dsimp only
  split <;> omega
theorem vz (i) (r):∀ t∈(nD i r).1,t.1.length≤6∧(∀ x∈t.1,0≤x∧x≤2)∧t.2.natAbs<2 ^ 50:=by
 induction i with
 | zero=>intro t ht; cases ht
 | succ i ih =>
  intro t ht
  rcases Pg.mp ht with h | h
  ·exact ih t h
  ·rw [O3.mp h]; exact Ka _
theorem eZ (n:Int):bM (oM n) where
 l:=OV (jr _) (by rw [kR]; omega)
 e:=Ex.kC fun t ht=>⟨(vz _ _ t ht).1,(vz _ _ t ht).2.1⟩
 b:=(Bn.kC (m:=50) (fun t ht=>(vz _ _ t ht).2.2) (by rw [kR]; omega)).mono (by decide)
theorem xP:∀ {As:List (List aG)},(∀ A∈As,bM A)→bC As≤3 ^ As.length
 | [],_=>OP _
 | A::As,h=>by
  have h1:=(h A O1).l
  have h2:=xP fun B hB=>h B (O2 _ hB)
  show max A.length 1 * bC As≤_
  rw [Pr,Nat.pow_succ,SE]
  exact Rt h2 (by omega)
theorem mO {ps:List Part} (h:∀ p∈ps,p.1.natAbs<1000∧p.2.length≤6∧∀ A∈p.2,bM A) (hl:ps.length≤27):bf ps where
 p:=fun p hp=>⟨PN (h p hp).1 (OV (by decide:1000≤2 ^ 10) (Sf (by decide) (by decide))),OV (h p hp).2.1 (by decide),fun A hA=>((h p hp).2.2 A hA).vv⟩
 l:=OV hl (by decide)
 s:=by
  have:∀ qs:List Part,(∀ p∈qs,p∈ps)→(qs.map fun p=>bC p.2).sum≤729 * qs.length:=fun qs=>by
   induction qs with
   | nil=>exact fun _=>OP _
   | cons q qs ih =>
    intro hq
    have h1:=ih fun p hp=>hq p (O2 _ hp)
    have h2:=h q (hq q O1)
    have h3:bC q.2≤3 ^ 6:=OV (xP h2.2.2) (Sf (by decide) h2.2.1)
    rw [OS,QV,Pr]
    omega
  have:=this ps fun _ h=>h
  omega
theorem Gr (h:bf ps):(aW (cP ps)).length≤20000∧∀ t∈aW (cP ps),t.1.length≤64:=by
 have hh:∀ p∈ps,dz p∧bC p.2≤20000:=fun p hp=>⟨h.p p hp,OV (xN hp) h.s⟩
 rw [← show aW (f9 ps)=aW (cP ps) from dw (xO hh)]
 exact ⟨OV (jr _) (OV (mJ hh) h.s),BK fun t ht=>OV (Dq hh t ht) (by decide)⟩
noncomputable def MC (ps:List Part):List D:=(aW (cP ps)).map aP
noncomputable def DG (k:Nat):List aG:=[(OX k 0++[1],1)]
noncomputable def Ou (A B:List aG):Sl:=.fo (.t [.l (A.map aP),.l (B.map aP)])
noncomputable def tT:Fn:=fun ds r=>∃ k:Nat,k≤10∧ds=[.int k]∧r=.ok (Ou (DG k) (cT 1))
theorem Kc {k:Nat} (h:k≤10):tT [.int k] (.ok (Ou (DG k) (cT 1))):=⟨k,h,rfl,rfl⟩
section
local macro_rules | `(tactic| walk_at "evBo")=> `(tactic| first | ((with_reducible show aJ _ (R6 _ T6 _ _) _ _); with_reducible refine N4 (GZ ?_)))
theorem xQ (k:Nat):(OX k [D.int 0]).flatten=(OX k (0:Int)).map D.int:=by
 induction k with
 | zero=>rfl
 | succ n ih=>rw [Qu,Q2,ih,Qu]; rfl
theorem Gs {f:Addr} {fd:FuncData} (Fu:fu K "free_poly" "free_poly" fV f fd) (T:Txt K mg):bx P w K mg base (dH P w) 1 f fd ["k"] (fE K tT):=by
 refine cR Fu p9 qa (by rintro ds r ⟨k,_,rfl,_⟩; rfl) (by rintro ds r ⟨k,_,_,rfl⟩; exact ⟨_,rfl⟩) fun c hq ds sl hF=>?_
 obtain ⟨k,hk,rfl,e⟩:=hF
 injection e with e
 subst e
 show aS c _ [.va (.int k)] _ _
 conv in (ay _)=>whnf
 walk_at "evSs"
 refine dR ?_
 refine pY ?_
 refine c6 ?_
 refine jy ?_
 walk_at "ev"
 refine ⟨_,rfl,?_⟩
 walk_at "ev"
 ·exact ⟨⟨by lia,by lia⟩,by rw [Pz]; exact pX (by simp only [RK]; lia)⟩
 ·rw [Pz,xQ]; exact pX (by simp only [OT,List.length_replicate,RK]; lia)
 refine ⟨_,rfl,_,rfl,?_⟩
 refine c6 (jy ?_)
 walk_at "ev"
 refine ⟨_,rfl,_,rfl,?_⟩
 refine xq (Sd.mk (gr (QM rfl)) ?_)
 show Sl.fo _=Sl.fo _
 rw [Pz,xQ]
 unfold DG
 rw [UL]
 show _=Sl.fo (Sh.t [.l [.tup [.tup ((OX k (0:Int)++[1]).map D.int),.int 1]],_])
 rw [Pq]
 rfl
end
noncomputable def outF (X:List (List Part)):Res:=.ok (.fo (.t (X.map fun ps=>.l (MC ps))))
noncomputable def gW (a b c d:List aG):List (List Part):=[[(1,[a])],[],[(1,[a])],[(1,[b])],[(1,[c])],[(1,[d])]]
noncomputable def DH (P:Program) (w:World) (K:ON) (mg:Str→Option Value) (base:Heap):Fn:=fun ds r=>∃ (f:Addr) (a b c d:List aG),mj P w K mg base 4 f jA∧(∀ ps∈gW a b c d,bf ps)∧ds=[.adr f,.tup [af a,af b,af c,af d]]∧r=outF (gW a b c d)
theorem MD (hf:mj P w K mg base 4 f jA) (h:∀ ps∈gW a b c d,bf ps):DH P w K mg base [.adr f,.tup [af a,af b,af c,af d]] (outF (gW a b c d)):=⟨f,a,b,c,d,hf,h,rfl,rfl⟩
section
local macro_rules | `(tactic| walk_at "evS")=> `(tactic| ((with_reducible show eV _ (SI (some (RA _ _ _)) _) _ _ _); refine dR (pY ?_)))
theorem Kd (Fu:fu K "curve_rule" "curve_rule" fj f fd) (T:Txt K mg):bx P w K mg base (dH P w) 5 f fd ["total","o"] (fE K (DH P w K mg base)):=by
 refine cR Fu nh ni (by rintro ds r ⟨f,a,b,c,d,_,_,rfl,_⟩; rfl) (by rintro ds r ⟨f,a,b,c,d,_,_,_,rfl⟩; exact ⟨_,rfl⟩) fun k hq ds sl hF=>?_
 obtain ⟨g,a,b,c,d,hg,h,rfl,e⟩:=hF
 injection e with e
 subst e
 have h1:bf [(1,[a])]:=h _ (by simp [gW])
 have h0:bf []:=h _ (by simp [gW])
 have h2:bf [(1,[b])]:=h _ (by simp [gW])
 have h3:bf [(1,[c])]:=h _ (by simp [gW])
 have h4:bf [(1,[d])]:=h _ (by simp [gW])
 show aS k _ [.va (.adr g),.va (.tup [af a,af b,af c,af d])] _ _
 conv in (ay _)=>whnf
 walk_at "ev"
 case refine_1 z=>exact absurd z (show ¬ ((4:Nat):Int)=6 by decide)
 refine c6 ?_
 refine jy (cy hg (by decide) (by walk_at "at") (by walk_at "at") ?_)
 walk_at "ev"
 refine aF (dS h1) ⟨_,rfl,_,rfl,?_⟩
 refine c6 ?_
 refine jy (cy hg (by decide) (by walk_at "at") (by walk_at "at") ?_)
 walk_at "ev"
 refine aF (dS h0) ⟨_,rfl,_,rfl,?_⟩
 refine c6 ?_
 refine jy (cy hg (by decide) (by walk_at "at") (by walk_at "at") ?_)
 walk_at "ev"
 refine aF (dS h1) ⟨_,rfl,_,rfl,?_⟩
 refine c6 ?_
 refine jy (cy hg (by decide) (by walk_at "at") (by walk_at "at") ?_)
 walk_at "ev"
 refine aF (dS h2) ⟨_,rfl,_,rfl,?_⟩
 refine c6 ?_
 refine jy (cy hg (by decide) (by walk_at "at") (by walk_at "at") ?_)
 walk_at "ev"
 refine aF (dS h3) ⟨_,rfl,_,rfl,?_⟩
 refine c6 ?_
 refine jy (cy hg (by decide) (by walk_at "at") (by walk_at "at") ?_)
 walk_at "ev"
 refine aF (dS h4) ⟨_,rfl,_,rfl,?_⟩
 refine xq ?_
 refine Sd.mk (gr (QM rfl)) ?_
 exact rfl
end
noncomputable def DI (P:Program) (w:World) (K:ON) (mg:Str→Option Value) (base:Heap):Fn:=fun ds r=>∃ (f:Addr) (vs:List D),vs.length=6∧ds=[.adr f,.tup vs]∧r=.ok (.va (.tup vs))
theorem ME (f) (a b c d e g):DI P w K mg base [.adr f,.tup [a,b,c,d,e,g]] (.ok (.va (.tup [a,b,c,d,e,g]))):=⟨f,[a,b,c,d,e,g],rfl,rfl,rfl⟩
theorem Ke (Fu:fu K "six_of" "six_of" jY f fd) (T:Txt K mg):bx P w K mg base (dH P w) 5 f fd ["total","v"] (fE K (DI P w K mg base)):=by
 refine cR Fu zf zg (by rintro ds r ⟨f,vs,_,rfl,_⟩; rfl) (by rintro ds r ⟨f,vs,_,_,rfl⟩; exact ⟨_,rfl⟩) fun k hq ds sl hF=>?_
 obtain ⟨g,vs,h6,rfl,e⟩:=hF
 injection e with e
 subst e
 show aS k _ [.va (.adr g),.va (.tup vs)] _ _
 conv in (ay _)=>whnf
 walk_at "ev"
 case refine_2 z=>exact absurd (by rw [h6]; rfl) z
 rfl
noncomputable def zD:Fn:=fun ds r=>∃ a b c d:List aG,(∀ ps∈gW a b c d,bf ps)∧ds=[.tup [af a,af b,af c,af d]]∧r=outF (gW a b c d)
theorem MF (h:∀ ps∈gW a b c d,bf ps):zD [.tup [af a,af b,af c,af d]] (outF (gW a b c d)):=⟨a,b,c,d,h,rfl,rfl⟩
theorem Kf (Fu:fu K "as_curve" "as_curve" gM f fd) (h1:cz P w K mg base 4 "poly_total" jA) (h2:cz P w K mg base 5 "curve_rule" (DH P w K mg base)):bx P w K mg base (dH P w) 6 f fd ["o"] (fE K zD):=by
 refine cR Fu sW sX (by rintro ds r ⟨a,b,c,d,_,rfl,_⟩; rfl) (by rintro ds r ⟨a,b,c,d,_,_,rfl⟩; exact ⟨_,rfl⟩) fun k hq ds sl hF=>?_
 obtain ⟨a,b,c,d,h,rfl,e⟩:=hF
 injection e with e
 subst e
 obtain ⟨g,hm,hg⟩:=h1.at_
 show aS k _ [.va (.tup [af a,af b,af c,af d])] _ _
 conv in (ay _)=>whnf
 walk_at "evSs"
 refine dR (x_call (F:=DH P w K mg base) h2 (by decide) ?_)
 refine cB (uR hm ?_)
 walk_at "ev"
 exact aF (MD hg h) rfl
noncomputable def zM (a b c d e g x y z:List aG):List (List Part):=[[(2,[a,x]),(1,[b,y]),(1,[d,z])],[(1,[b,x]),(2,[c,y]),(1,[e,z])],[(1,[d,x]),(1,[e,y]),(2,[g,z])]]
noncomputable def DJ (P:Program) (w:World) (K:ON) (mg:Str→Option Value) (base:Heap):Fn:=fun ds r=>∃ (f:Addr) (a b c d e g x y z:List aG),mj P w K mg base 4 f jA∧(∀ ps∈zM a b c d e g x y z,bf ps)∧ds=[.adr f,.tup [af a,af b,af c,af d,af e,af g],.tup [af x,af y,af z]]∧r=outF (zM a b c d e g x y z)
theorem MG (hf:mj P w K mg base 4 f jA) (h:∀ ps∈zM a b c d e g x y z,bf ps):DJ P w K mg base [.adr f,.tup [af a,af b,af c,af d,af e,af g],.tup [af x,af y,af z]] (outF (zM a b c d e g x y z)):=⟨f,a,b,c,d,e,g,x,y,z,hf,h,rfl,rfl⟩
theorem Kg (Fu:fu K "curve_polar_rule" "curve_polar_rule" cE f fd):bx P w K mg base (dH P w) 5 f fd ["total","v","i"] (fE K (DJ P w K mg base)):=by
 refine cR Fu iB iC (by rintro ds r ⟨f,a,b,c,d,e,g,x,y,z,_,_,rfl,_⟩; rfl) (by rintro ds r ⟨f,a,b,c,d,e,g,x,y,z,_,_,_,rfl⟩; exact ⟨_,rfl⟩) fun k hq ds sl hF=>?_
 obtain ⟨fg,a,b,c,d,e,g,x,y,z,hg,h,rfl,e⟩:=hF
 injection e with e
 subst e
 have h1:bf [(2,[a,x]),(1,[b,y]),(1,[d,z])]:=h _ (by simp [zM])
 have h2:bf [(1,[b,x]),(2,[c,y]),(1,[e,z])]:=h _ (by simp [zM])
 have h3:bf [(1,[d,x]),(1,[e,y]),(2,[g,z])]:=h _ (by simp [zM])
 show aS k _ [.va (.adr fg),.va (.tup [af a,af b,af c,af d,af e,af g]),.va (.tup [af x,af y,af z])] _ _
 conv in (ay _)=>whnf
 walk_at "evSs"
 refine dR (pY ?_)
 refine c6 ?_
 refine jy (cy hg (by decide) (by walk_at "at") (by walk_at "at") ?_)
 walk_at "ev"
 refine aF (dS h1) ⟨_,rfl,_,rfl,?_⟩
 refine c6 ?_
 refine jy (cy hg (by decide) (by walk_at "at") (by walk_at "at") ?_)
 walk_at "ev"
 refine aF (dS h2) ⟨_,rfl,_,rfl,?_⟩
 refine c6 ?_
 refine jy (cy hg (by decide) (by walk_at "at") (by walk_at "at") ?_)
 walk_at "ev"
 refine aF (dS h3) ⟨_,rfl,_,rfl,?_⟩
 refine xq ?_
 refine Sd.mk (gr (QM rfl)) ?_
 exact rfl
noncomputable def Od (a b d x y z:List aG):List aG:=aW (cP [(2,[a,x]),(1,[b,y]),(1,[d,z])])
noncomputable def Oe (b c e x y z:List aG):List aG:=aW (cP [(1,[b,x]),(2,[c,y]),(1,[e,z])])
noncomputable def Nb (a b c p q:List aG):List Part:=[(1,[a,q,q]),(-1,[b,p,q]),(1,[c,p,p])]
noncomputable def Nc (p q u v:List aG):List Part:=[(1,[p,v]),(-1,[q,u])]
noncomputable def Hh (g h p q x y z:List aG):List (List Part):=[[(1,[g,x]),(1,[h,q])],[(1,[g,y]),(-1,[h,p])],[(1,[g,z])]]
noncomputable def Gu (a b c p q:List aG):List aG:=aW (cP (Nb a b c p q))
noncomputable def Kh (a b c d e p q x y z:List aG):List aG:=aW (cP (Nc p q (Od a b d x y z) (Oe b c e x y z)))
noncomputable def oN (a b c d e p q x y z:List aG):List (List Part):=Hh (Gu a b c p q) (Kh a b c d e p q x y z) p q x y z
structure mP (a b c d e g p q x y z:List aG):Prop where
 cO:∀ ps∈zM a b c d e g x y z,bf ps
 gO:bf (Nb a b c p q)
 hO:bf (Nc p q (Od a b d x y z) (Oe b c e x y z))
 tO:∀ ps∈oN a b c d e p q x y z,bf ps
noncomputable def vA (P:Program) (w:World) (K:ON) (mg:Str→Option Value) (base:Heap):Fn:=fun ds r=>∃ (f:Addr) (a b c d e g p q r1 x y z:List aG),mj P w K mg base 4 f jA∧mP a b c d e g p q x y z∧ds=[.adr f,.tup [af a,af b,af c,af d,af e,af g],.tup [af p,af q,af r1],.tup [af x,af y,af z]]∧r=outF (oN a b c d e p q x y z)
theorem Hi {f:Addr} {a b c d e g p q r1 x y z:List aG} (hf:mj P w K mg base 4 f jA) (h:mP a b c d e g p q x y z):vA P w K mg base [.adr f,.tup [af a,af b,af c,af d,af e,af g],.tup [af p,af q,af r1],.tup [af x,af y,af z]] (outF (oN a b c d e p q x y z)):=⟨f,a,b,c,d,e,g,p,q,r1,x,y,z,hf,h,rfl,rfl⟩
section
local macro_rules | `(tactic| walk_at "evS")=> `(tactic| ((with_reducible show eV _ (SI (some (RA _ _ _)) _) _ _ _); refine dR (pY ?_)))
local macro_rules | `(tactic| walk_at "evCa")=> `(tactic| first
 | with_reducible refine cC (x:=OL "six_of") (F:=DI _ _ _ _ _) (by assumption) (by decide) ?_
 | with_reducible refine Cq (x_call (x:=OL "curve_polar_rule") (F:=DJ _ _ _ _ _) (by assumption) (by decide) ?_)
 | with_reducible refine e_x (cy (by assumption) (by decide) (by walk_at "at") (by walk_at "at") ?_))
theorem Kl {f:Addr} {fd:FuncData} (Fu:fu K "again_rule" "again_rule" fk f fd) (h1:cz P w K mg base 5 "six_of" (DI P w K mg base)) (h2:cz P w K mg base 5 "curve_polar_rule" (DJ P w K mg base)):bx P w K mg base (dH P w) 6 f fd ["total","v","l","i"] (fE K (vA P w K mg base)):=by
 refine cR Fu nj nk (by rintro ds r ⟨f,a,b,c,d,e,g,p,q,r1,x,y,z,_,_,rfl,_⟩; rfl) (by rintro ds r ⟨f,a,b,c,d,e,g,p,q,r1,x,y,z,_,_,_,rfl⟩; exact ⟨_,rfl⟩) fun k hq ds sl hF=>?_
 obtain ⟨fg,a,b,c,d,e,g,p,q,r1,x,y,z,hg,h,rfl,ee⟩:=hF
 injection ee with ee
 subst ee
 have t1:bf [(1,[Gu a b c p q,x]),(1,[Kh a b c d e p q x y z,q])]:=h.tO _ (by simp [oN,Hh])
 have t2:bf [(1,[Gu a b c p q,y]),(-1,[Kh a b c d e p q x y z,p])]:=h.tO _ (by simp [oN,Hh])
 have t3:bf [(1,[Gu a b c p q,z])]:=h.tO _ (by simp [oN,Hh])
 show aS k _ [.va (.adr fg),.va (.tup [af a,af b,af c,af d,af e,af g]),.va (.tup [af p,af q,af r1]),.va (.tup [af x,af y,af z]),.un,.un,.un,.un] _ _
 conv in (ay _)=>whnf
 walk_at "ev"
 refine aF (ME _ _ _ _ _ _ _) (qV ?_)
 walk_at "ev"
 refine aF (MG hg h.cO) ⟨_,rfl,?_⟩
 walk_at "ev"
 refine aF (dS h.gO) (cj ?_)
 walk_at "ev"
 refine aF (dS h.hO) (cj ?_)
 walk_at "ev"
 refine c6 ?_
 refine jy (cy hg (by decide) (by walk_at "at") (by walk_at "at") ?_)
 walk_at "ev"
 refine aF (dS t1) ⟨_,rfl,_,rfl,?_⟩
 refine c6 ?_
 refine jy (cy hg (by decide) (by walk_at "at") (by walk_at "at") ?_)
 walk_at "ev"
 refine aF (dS t2) ⟨_,rfl,_,rfl,?_⟩
 refine c6 ?_
 refine jy (cy hg (by decide) (by walk_at "at") (by walk_at "at") ?_)
 walk_at "ev"
 refine aF (dS t3) ⟨_,rfl,_,rfl,?_⟩
 refine xq ?_
 refine Sd.mk (gr (QM rfl)) ?_
 exact rfl
noncomputable def KQ (t:List aG):List aG:=aW (cP [(-1,[t])])
structure DK (a b c d e g t0 t1 x y z:List aG):Prop where
 n:bf [(-1,[t0])]
 o:bf []
 a:mP a b c d e g (KQ t0) t1 x y z
noncomputable def DL (P:Program) (w:World) (K:ON) (mg:Str→Option Value) (base:Heap):Fn:=fun ds r=>∃ (f:Addr) (a b c d e g t0 t1 x y z:List aG),mj P w K mg base 4 f jA∧DK a b c d e g t0 t1 x y z∧ds=[.adr f,.tup [af a,af b,af c,af d,af e,af g],.tup [af x,af y,af z],.tup [af t0,af t1]]∧r=outF (oN a b c d e (KQ t0) t1 x y z)
theorem MH {f:Addr} {a b c d e g t0 t1 x y z:List aG} (hf:mj P w K mg base 4 f jA) (h:DK a b c d e g t0 t1 x y z):DL P w K mg base [.adr f,.tup [af a,af b,af c,af d,af e,af g],.tup [af x,af y,af z],.tup [af t0,af t1]] (outF (oN a b c d e (KQ t0) t1 x y z)):=⟨f,a,b,c,d,e,g,t0,t1,x,y,z,hf,h,rfl,rfl⟩
theorem Km {f:Addr} {fd:FuncData} (Fu:fu K "roll_rule" "roll_rule" fW f fd) (h1:cz P w K mg base 6 "again_rule" (vA P w K mg base)):bx P w K mg base (dH P w) 7 f fd ["total","v","i","t"] (fE K (DL P w K mg base)):=by
 refine cR Fu qb qe (by rintro ds r ⟨f,a,b,c,d,e,g,p,q,x,y,z,_,_,rfl,_⟩; rfl) (by rintro ds r ⟨f,a,b,c,d,e,g,p,q,x,y,z,_,_,_,rfl⟩; exact ⟨_,rfl⟩) fun k hq ds sl hF=>?_
 obtain ⟨fg,a,b,c,d,e,g,t0,t1,x,y,z,hg,h,rfl,ee⟩:=hF
 injection ee with ee
 subst ee
 show aS k _ [.va (.adr fg),.va (.tup [af a,af b,af c,af d,af e,af g]),.va (.tup [af x,af y,af z]),.va (.tup [af t0,af t1])] _ _
 conv in (ay _)=>whnf
 walk_at "evSs"
 refine dR (x_call (F:=vA P w K mg base) h1 (by decide) ?_)
 walk_at "ev"
 refine aF (dS h.n) (cj ?_)
 walk_at "ev"
 refine aF (dS h.o) (cj ?_)
 walk_at "ev"
 exact aF (Hi (r1:=aW (cP [])) hg h.a) rfl
noncomputable def zE:Fn:=fun ds r=>∃ a b c d e g p q r1 x y z:List aG,mP a b c d e g p q x y z∧ds=[.tup [af a,af b,af c,af d,af e,af g],.tup [af p,af q,af r1],.tup [af x,af y,af z]]∧r=outF (oN a b c d e p q x y z)
theorem MI {a b c d e g p q r1 x y z:List aG} (h:mP a b c d e g p q x y z):zE [.tup [af a,af b,af c,af d,af e,af g],.tup [af p,af q,af r1],.tup [af x,af y,af z]] (outF (oN a b c d e p q x y z)):=⟨a,b,c,d,e,g,p,q,r1,x,y,z,h,rfl,rfl⟩
theorem Kn {f:Addr} {fd:FuncData} (Fu:fu K "again_point" "again_point" eG f fd) (h1:cz P w K mg base 4 "poly_total" jA) (h2:cz P w K mg base 6 "again_rule" (vA P w K mg base)):bx P w K mg base (dH P w) 7 f fd ["v","l","i"] (fE K zE):=by
 refine cR Fu mC mD (by rintro ds r ⟨a,b,c,d,e,g,p,q,r1,x,y,z,_,rfl,_⟩; rfl) (by rintro ds r ⟨a,b,c,d,e,g,p,q,r1,x,y,z,_,_,rfl⟩; exact ⟨_,rfl⟩) fun k hq ds sl hF=>?_
 obtain ⟨a,b,c,d,e,g,p,q,r1,x,y,z,h,rfl,ee⟩:=hF
 injection ee with ee
 subst ee
 obtain ⟨fg,hm,hg⟩:=h1.at_
 show aS k _ [.va (.tup [af a,af b,af c,af d,af e,af g]),.va (.tup [af p,af q,af r1]),.va (.tup [af x,af y,af z])] _ _
 conv in (ay _)=>whnf
 walk_at "evSs"
 refine dR (x_call (F:=vA P w K mg base) h2 (by decide) ?_)
 refine cB (uR hm ?_)
 walk_at "ev"
 exact aF (Hi hg h) rfl
noncomputable def zF:Fn:=fun ds r=>∃ (a b c d e g x y z:List aG) (n:Nat),n≤10∧DK a b c d e g (DG n) (cT 1) x y z∧ds=[.tup [af a,af b,af c,af d,af e,af g],.tup [af x,af y,af z],.int (n:Int)]∧r=outF (oN a b c d e (KQ (DG n)) (cT 1) x y z)
theorem MJ {a b c d e g x y z:List aG} {n:Nat} (hn:n≤10) (h:DK a b c d e g (DG n) (cT 1) x y z):zF [.tup [af a,af b,af c,af d,af e,af g],.tup [af x,af y,af z],.int (n:Int)] (outF (oN a b c d e (KQ (DG n)) (cT 1) x y z)):=⟨a,b,c,d,e,g,x,y,z,n,hn,h,rfl,rfl⟩
theorem Ko {f:Addr} {fd:FuncData} (Fu:fu K "roll_point" "roll_point" fm f fd) (h1:cz P w K mg base 4 "poly_total" jA) (h2:cz P w K mg base 7 "roll_rule" (DL P w K mg base)) (h3:cz P w K mg base 1 "free_poly" tT):bx P w K mg base (dH P w) 8 f fd ["v","i","t"] (fE K zF):=by
 refine cR Fu nv ny (by rintro ds r ⟨a,b,c,d,e,g,x,y,z,n,_,_,rfl,_⟩; rfl) (by rintro ds r ⟨a,b,c,d,e,g,x,y,z,n,_,_,_,rfl⟩; exact ⟨_,rfl⟩) fun k hq ds sl hF=>?_
 obtain ⟨a,b,c,d,e,g,x,y,z,n,hn,h,rfl,ee⟩:=hF
 injection ee with ee
 subst ee
 obtain ⟨fg,hm,hg⟩:=h1.at_
 show aS k _ [.va (.tup [af a,af b,af c,af d,af e,af g]),.va (.tup [af x,af y,af z]),.va (.int (n:Int))] _ _
 conv in (ay _)=>whnf
 walk_at "evSs"
 refine dR (x_call (F:=DL P w K mg base) h2 (by decide) ?_)
 refine cB (uR hm (cB (nS (by walk_at "at") (by walk_at "at") (cB (nS (by walk_at "at") (by walk_at "at") (cB (Cq (x_call (F:=tT) h3 (by decide) ?_))))))))
 walk_at "ev"
 refine aF (Kc hn) ⟨_,rfl,?_⟩
 walk_at "ev"
 exact aF (MH hg h) rfl
end
end
section
variable {P:Program} {w:World} {K:ON} {mg:Str→Option Value} {base:Heap}
structure Lm (l:Nat) (e:Int) (b:Nat) (A:List aG):Prop where
 l:A.length≤l
 e:Ex e A
 b:Bn b A
section
theorem Lm.kC (h:Lm la ea ba A) (hl:la<2 ^ 16:=by decide):Lm la ea (ba+16) (aW A):=⟨OV (jr _) h.l,h.e.kC,h.b.kC (QO h.l hl)⟩
theorem Lm.mono (h:Lm la ea ba A) (h1:la≤lb:=by decide) (h2:ea≤eb:=by decide) (h3:ba≤bb:=by decide):Lm lb eb bb A:=⟨OV h.l h1,h.e.mono h2,h.b.mono h3⟩
theorem Lm.app (h:Lm la ea ba A) (g:Lm lb ea ba B):Lm (la+lb) ea ba (A++B):=⟨by rw [Py]; exact Nat.add_le_add h.l g.l,h.e.app g.e,fun t ht=>(Pg.mp ht).elim (h.b t) (g.b t)⟩
theorem Lm.prod (h:Lm la ea ba A) (g:Lm lb eb bb B) (h0:0≤ea:=by decide) (g0:0≤eb:=by decide):Lm (la * lb) (ea+eb) (ba+bb) (aM A B):=⟨by rw [cZ]; exact Rt h.l g.l,h.e.prod h0 g0 g.e,h.b.prod g.b⟩
theorem Lm.vv (h:Lm la ea ba A) (h1:la≤20000:=by decide) (h2:ea≤120:=by decide) (h3:ba≤2000:=by decide):cI A:=⟨OV h.l h1,h.e.mono h2,h.b.mono h3⟩
theorem Lm.nil:Lm la ea ba []:=⟨Pn _,(fun t ht=>by cases ht),fun t ht=>by cases ht⟩
theorem Lm.con {n:Int} (hn:n.natAbs<2 ^ ba):Lm 1 0 ba (cT n):=⟨OP _,(fun t ht=>by cases O3.mp ht; exact ⟨Pn _,fun x hx=>by cases hx⟩),fun t ht=>by cases O3.mp ht; exact hn⟩
end
theorem bM.lm {A:List aG} (h:bM A):Lm 3 2 100 A:=⟨h.l,h.e,h.b⟩
theorem OJ {A:List aG} {l:Nat} (h:A.length≤l) (h1:1≤l):bC [A]≤l:=by
 show max A.length 1 * 1≤l; omega
theorem MK {A B:List aG} {l m:Nat} (h:A.length≤l) (h1:1≤l) (g:B.length≤m) (g1:1≤m):bC [A,B]≤l * m:=Rt (show max A.length 1≤l by omega) (OJ g g1)
theorem vB {ps:List Part} (h:∀ p∈ps,p.1.natAbs<1000∧p.2.length≤8∧∀ A∈p.2,cI A) (hl:ps.length≤1000) (hs:(ps.map fun p=>bC p.2).sum≤20000):bf ps :=
 ⟨fun p hp=>⟨PN (h p hp).1 (OV (by decide:1000≤2 ^ 10) (Sf (by decide) (by decide))),(h p hp).2.1,(h p hp).2.2⟩,hl,hs⟩
noncomputable def iX (X:List (List Part)):List (List aG):=X.map fun ps=>aW (cP ps)
structure Vt (A:List aG):Prop where
 s:bM A
 c:aW A=A
theorem zG (A):aW (aW A)=aW A:=dw (xy A)
theorem kT (n):Vt (oM n):=⟨eZ n,zG _⟩
theorem Kp:Vt []:=⟨⟨Pn _,(fun t ht=>by cases ht),(fun t ht=>by cases ht)⟩,rfl⟩
theorem Kq (A):mp (cP [(1,[A])])=mp A:=by
 unfold cP
 rw [RU,TM,P1,eS]
 show ((1:Int):MP) * (mp A * 1)=mp A
 have:((1:Int):MP)=1:=by grind
 rw [this]; grind
theorem qp (h:Vt A):aW (cP [(1,[A])])=A:=(dw (Kq A)).trans h.c
noncomputable def lS (Ls:List (List aG)):Sh:=.t ((Ls.map fun A=>A.map aP).map .l)
theorem Hj:∀ Ls:List (List aG),Sh.ds ((Ls.map fun A=>A.map aP).map .l)=Ls.map af
 | []=>rfl
 | A::Ls=>congrArg (af A:: ·) (Hj Ls)
theorem Of (Ls):(lS Ls).d=.tup (Ls.map af):=congrArg D.tup (Hj Ls)
theorem vC (X):outF X=.ok (.fo (lS (iX X))):=by
 unfold outF lS iX MC
 rw [Pb,Pb]; rfl
theorem Gv (ha:Vt a) (hb:Vt b) (hc:Vt c) (hd:Vt d):iX (gW a b c d)=[a,[],a,b,c,d]:=by
 unfold iX gW
 simp only [OS,Ra,qp ha,qp hb,qp hc,qp hd]
 rfl
theorem DM (h:∀ ps∈X,bf ps):∀ L∈iX X,L.length≤20000∧∀ t∈L,t.1.length≤64:=fun L hL=>by
 obtain ⟨ps,hp,rfl⟩:=Pa.mp hL
 exact Gr (h ps hp)
theorem DN (h:∀ ps∈X,bf ps) (hl:X.length≤1000):tS (lS (iX X)):=⟨_,rfl,by rw [OT]; unfold iX; rw [OT]; exact hl,fun ds hd=>by
 obtain ⟨L,hL,rfl⟩:=Pa.mp hd
 rw [OT]; exact (DM h L hL).1⟩
theorem DO (hL:L.map (·.2)=(iX X).map fun A=>A.map aP) (h:∀ ps∈X,bf ps) (hl:X.length≤1000):zC [(Sh.t (d7 L)).d,.tup ((iX X).map af)] (.ok (.va (.bl true))):=by
 rw [Mj,hL,Pb]
 exact MA (by unfold iX; rw [OT]; exact hl) fun A hA=>(DM h A hA).2
theorem oO {L:List (Addr×List D)} (hL:L.map (·.2)=(iX X).map fun A=>A.map aP) (h:∀ ps∈X,bf ps) (hl:X.length≤1000):tS (.t ((L.map (·.2)).map .l)):=by
 rw [hL]; exact DN h hl
theorem ML (p:Part) (ps:List Part):mp (cP (p::ps))=(p.1:MP) * qk p.2+mp (cP ps):=by
 unfold cP
 rw [RU,jV,eS]
theorem MM:mp (cP [])=0:=by
 have h:mp ([]:List aG)=mp []+mp []:=jV [] []
 show mp ([]:List aG)=0
 grind
theorem MN (A:List aG) (As:List (List aG)):qk (A::As)=mp A * qk As:=rfl
theorem MO:qk []=1:=rfl
noncomputable def MQ:Fn:=fun ds r=>∃ a b c d e g p q x y z:List aG,mP a b c d e g p q x y z∧ds=[.tup [af a,af b,af c,af d,af e,af g],af p,af q,.tup [af x,af y,af z]]∧r=.ok (.va (.tup ((iX (oN a b c d e p q x y z)).map af)))
theorem MR {a b c d e g p q x y z:List aG} (h:mP a b c d e g p q x y z):MQ [.tup [af a,af b,af c,af d,af e,af g],af p,af q,.tup [af x,af y,af z]] (.ok (.va (.tup ((iX (oN a b c d e p q x y z)).map af)))):=⟨a,b,c,d,e,g,p,q,x,y,z,h,rfl,rfl⟩
section
local macro_rules | `(tactic| walk_at "evCa")=> `(tactic| first | with_reducible refine cC (F:=Dr) (by assumption) (by decide) ?_)
local macro_rules | `(tactic| walk_at "evIx")=> `(tactic| first | ((with_reducible show aJ _ (QI (O7 _ _) (Expr.Constant _ _ _) _) _ _); with_reducible refine GN ?_))
theorem MS {f:Addr} {fd:FuncData} (Fu:fu K "_law_due" "_law_due" mF f fd) (T:Txt K mg) (h1:cz P w K mg base 3 "_law_sum" Dr):bx P w K mg base (dH P w) 4 f fd ["_law_v","_law_a","_law_b","_law_i"] (fE K MQ):=by
 refine cR Fu CH CI (by rintro ds r ⟨a,b,c,d,e,g,p,q,x,y,z,_,rfl,_⟩; rfl) (by rintro ds r ⟨a,b,c,d,e,g,p,q,x,y,z,_,_,rfl⟩; exact ⟨_,rfl⟩) fun k hq ds sl hF=>?_
 obtain ⟨a,b,c,d,e,g,p,q,x,y,z,h,rfl,ee⟩:=hF
 injection ee with ee
 subst ee
 have u1:bf [(2,[a,x]),(1,[b,y]),(1,[d,z])]:=h.cO _ (by simp [zM])
 have u2:bf [(1,[b,x]),(2,[c,y]),(1,[e,z])]:=h.cO _ (by simp [zM])
 have t1:bf [(1,[Gu a b c p q,x]),(1,[Kh a b c d e p q x y z,q])]:=h.tO _ (by simp [oN,Hh])
 have t2:bf [(1,[Gu a b c p q,y]),(-1,[Kh a b c d e p q x y z,p])]:=h.tO _ (by simp [oN,Hh])
 have t3:bf [(1,[Gu a b c p q,z])]:=h.tO _ (by simp [oN,Hh])
 show aS k _ [.va (.tup [af a,af b,af c,af d,af e,af g]),.va (af p),.va (af q),.va (.tup [af x,af y,af z]),.un,.un,.un,.un,.un,.un,.un,.un] _ _
 conv in (ay _)=>whnf
 walk_at "ev"
 refine aF (mK u1) (cj ?_)
 walk_at "ev"
 refine aF (mK u2) (cj ?_)
 walk_at "ev"
 refine aF (mK h.gO) (cj ?_)
 walk_at "ev"
 refine aF (mK h.hO) (cj ?_)
 walk_at "ev"
 refine aF (mK t1) (cj ?_)
 walk_at "ev"
 refine aF (mK t2) (cj ?_)
 walk_at "ev"
 refine aF (mK t3) (cj ?_)
 walk_at "ev"
 rfl
end
theorem MT (ha:bM a) (hb:bM b) (hc:bM c) (hd:bM d) (he:bM e) (hg:bM g) (hx:bM x) (hy:bM y) (hz:bM z):∀ ps∈zM a b c d e g x y z,bf ps:=by
 intro L hL
 simp only [zM,O5,QH,or_false] at hL
 rcases hL with rfl | rfl | rfl <;> exact mO (by simp [ha,hb,hc,hd,he,hg,hx,hy,hz]) (by simp)
theorem Kr (ha:bM a) (hb:bM b) (hc:bM c) (hd:bM d):∀ ps∈gW a b c d,bf ps:=by
 intro L hL
 simp only [gW,O5,QH,or_false] at hL
 rcases hL with rfl | rfl | rfl | rfl | rfl | rfl <;> exact mO (by simp [ha,hb,hc,hd]) (by simp)
section
theorem DP (ha:bM a) (hb:bM b) (hd:bM d) (hx:bM x) (hy:bM y) (hz:bM z):Lm 27 4 240 (Od a b d x y z):=by
 have p:∀ {n:Int} {A B:List aG},n.natAbs<2 ^ 20→bM A→bM B→Lm 9 4 220 (dZ n [A,B]):=fun hn hA hB=>(((Lm.con (ba:=20) hn).prod hA.lm).prod hB.lm).mono
 exact (((p (n:=2) (by decide) ha hx).app ((p (n:=1) (by decide) hb hy).app ((p (n:=1) (by decide) hd hz).app (Lm.nil (la:=0))))).kC).mono
theorem DQ (hb:bM b) (hc:bM c) (he:bM e) (hx:bM x) (hy:bM y) (hz:bM z):Lm 27 4 240 (Oe b c e x y z):=by
 have p:∀ {n:Int} {A B:List aG},n.natAbs<2 ^ 20→bM A→bM B→Lm 9 4 220 (dZ n [A,B]):=fun hn hA hB=>(((Lm.con (ba:=20) hn).prod hA.lm).prod hB.lm).mono
 exact (((p (n:=1) (by decide) hb hx).app ((p (n:=2) (by decide) hc hy).app ((p (n:=1) (by decide) he hz).app (Lm.nil (la:=0))))).kC).mono
theorem MU (ha:bM a) (hb:bM b) (hc:bM c) (hp:bM p) (hq:bM q):Lm 81 6 340 (Gu a b c p q):=by
 have pp:∀ {n:Int} {A B C:List aG},n.natAbs<2 ^ 20→bM A→bM B→bM C→Lm 27 6 320 (dZ n [A,B,C]):=fun hn hA hB hC=>((((Lm.con (ba:=20) hn).prod hA.lm).prod hB.lm).prod hC.lm).mono
 exact (((pp (n:=1) (by decide) ha hq hq).app ((pp (n:= -1) (by decide) hb hp hq).app ((pp (n:=1) (by decide) hc hp hp).app (Lm.nil (la:=0))))).kC).mono
theorem MV (ha:bM a) (hb:bM b) (hc:bM c) (hd:bM d) (he:bM e) (hp:bM p) (hq:bM q) (hx:bM x) (hy:bM y) (hz:bM z):Lm 162 6 380 (Kh a b c d e p q x y z):=by
 have h0:=DP ha hb hd hx hy hz
 have h1:=DQ hb hc he hx hy hz
 have a1:=((Lm.con (n:=1) (ba:=20) (by decide)).prod hp.lm).prod h1
 have a2:=((Lm.con (n:= -1) (ba:=20) (by decide)).prod hq.lm).prod h0
 exact ((a1.app (a2.app (Lm.nil (la:=0)))).kC).mono
theorem Hl (ha:bM a) (hb:bM b) (hc:bM c) (hd:bM d) (he:bM e) (hg:bM g) (hp:bM p) (hq:bM q) (hx:bM x) (hy:bM y) (hz:bM z):mP a b c d e g p q x y z:=by
 have l0:=DP ha hb hd hx hy hz
 have l1:=DQ hb hc he hx hy hz
 have lg:=MU ha hb hc hp hq
 have lh:=MV ha hb hc hd he hp hq hx hy hz
 refine ⟨MT ha hb hc hd he hg hx hy hz,mO (by simp [Nb,ha,hb,hc,hp,hq]) (by simp [Nb]),vB (by simp [Nc,hp.vv,hq.vv,l0.vv,l1.vv]) (by simp [Nc]) ?_,fun L hL=>?_⟩
 ·have h1:=MK hp.l (by decide) l1.l (by decide)
  have h2:=MK hq.l (by decide) l0.l (by decide)
  show bC [_,_]+(bC [_,_]+0)≤20000
  omega
 ·have hall:∀ {n:Int} {u v:List aG},n.natAbs<1000→bM u→bM v→bf [(1,[Gu a b c p q,u]),(n,[Kh a b c d e p q x y z,v])]:=fun {n u v} hn hu hv=>by
   refine vB (by simp [lg.vv,lh.vv,hu.vv,hv.vv,hn]) (by simp) ?_
   have h1:=MK lg.l (by decide) hu.l (by decide)
   have h2:=MK lh.l (by decide) hv.l (by decide)
   show bC [_,_]+(bC [_,_]+0)≤20000
   omega
  simp only [oN,Hh,O5,QH,or_false] at hL
  rcases hL with rfl | rfl | rfl
  ·exact hall (by decide) hx hq
  ·exact hall (by decide) hy hp
  ·refine vB (by simp [lg.vv,hz.vv]) (by simp) ?_
   have h1:=MK lg.l (by decide) hz.l (by decide)
   show bC [_,_]+0≤20000
   omega
end
end
section
variable {P:Program} {w:World} {K:ON} {mg:Str→Option Value} {base:Heap}
noncomputable def zN (n:Nat):List aG:=[(OX n 0++[1],-1)]
theorem MW:∀ n:Nat,n<6→aW (zN n)=zN n
 | 0,_=>rfl | 1,_=>rfl | 2,_=>rfl | 3,_=>rfl | 4,_=>rfl | 5,_=>rfl
 | n+6,h=>absurd h (by omega)
theorem DR {n:Nat} (h:n<6):KQ (DG n)=zN n:=by
 refine Eq.trans (dw ?_) (MW n h)
 have e:zN n=(DG n).map sI:=rfl
 rw [e,JB]
 simp only [ML,MM,MN,MO]
 grind
theorem Ho {n:Nat} {m:Int} (h:n<6) (hm:m.natAbs<2 ^ 100):bM [(OX n 0++[1],m)]:=by
 refine ⟨by show (1:Nat)≤3; decide,fun t ht=>?_,fun t ht=>by rw [O3.mp ht]; exact hm⟩
 rw [O3.mp ht]
 refine ⟨by simp; omega,fun x hx=>?_⟩
 rcases Pg.mp hx with hx | hx
 ·rw [R9 hx]; exact ⟨by decide,by decide⟩
 ·rw [O3.mp hx]; exact ⟨by decide,by decide⟩
theorem MX:bM (cT 1):=⟨by show (1:Nat)≤3; decide,fun t ht=>by rw [O3.mp ht]; exact ⟨Pn _,fun x hx=>by cases hx⟩,fun t ht=>by rw [O3.mp ht]; show (1:Int).natAbs<_; exact Nat.one_lt_two_pow (by decide)⟩
structure Tw (a b c d e g p q x y z:List aG):Prop where
 fa:bM a
 fb:bM b
 fc:bM c
 fd:bM d
 fe:bM e
 fg:bM g
 fp:bM p
 fq:bM q
 fx:bM x
 fy:bM y
 fz:bM z
section
variable {n:Nat}
theorem Tw.ag (h:Tw a b c d e g p q x y z):mP a b c d e g p q x y z:=Hl h.fa h.fb h.fc h.fd h.fe h.fg h.fp h.fq h.fx h.fy h.fz
theorem Tw.Nd (h:Tw a b c d e g p q x y z) (hn:n<6):mP a b c d e g (zN n) (cT 1) x y z:=Hl h.fa h.fb h.fc h.fd h.fe h.fg (Ho hn (by decide)) MX h.fx h.fy h.fz
theorem Tw.rl (h:Tw a b c d e g p q x y z) (hn:n<6):DK a b c d e g (DG n) (cT 1) x y z:=⟨mO (by simp [DG,Ho hn]) (by simp),mO (by simp) (by simp),by rw [DR hn]; exact h.Nd hn⟩
theorem MY (h:mP a b c d e g p q x y z):zE [.tup [af a,af b,af c,af d,af e,af g],.tup [af p,af q,af r1],.tup [af x,af y,af z]] (.ok (.fo (lS (iX (oN a b c d e p q x y z))))):=by rw [← vC]; exact MI h
theorem MZ (h:Tw a b c d e g p q x y z) (hn:n<6):zF [.tup [af a,af b,af c,af d,af e,af g],.tup [af x,af y,af z],.int (n:Int)] (.ok (.fo (lS (iX (oN a b c d e (zN n) (cT 1) x y z))))):=by
 rw [← vC,← DR hn]; exact MJ (by omega) (h.rl hn)
theorem Ks (ha:Vt a) (hb:Vt b) (hc:Vt c) (hd:Vt d):zD [.tup [af a,af b,af c,af d]] (.ok (.fo (lS [a,[],a,b,c,d]))):=by
 rw [← Gv ha hb hc hd,← vC]; exact MF (Kr ha.s hb.s hc.s hd.s)
end
noncomputable def th (ns:List Int) (k:Nat):List aG:=oM (nC ns k)
theorem Ku (ns):tQ [.lst (ns.map .int),.int 1,.int 6] (.ok (.va (.tup [af (th ns 1),af (th ns 2),af (th ns 3),af (th ns 4),af (th ns 5),af (th ns 6)]))):=Dw ns (a:=1) (m:=6) (by decide) (by decide)
theorem Kv (ns):tQ [.lst (ns.map .int),.int 7,.int 3] (.ok (.va (.tup [af (th ns 7),af (th ns 8),af (th ns 9)]))):=Dw ns (a:=7) (m:=3) (by decide) (by decide)
theorem Kw (ns:List Int):tQ [.lst (ns.map .int),.int 10,.int 3] (.ok (.va (.tup [af (th ns 10),af (th ns 11),af (th ns 12)]))):=Dw ns (a:=10) (m:=3) (by decide) (by decide)
theorem Gw (ns:List Int):qo [.lst (ns.map .int),.int 13] (.ok (.va (.int (ns.getD 13 0)))):=Ds ns 13
theorem Gx (ns:List Int):qo [.lst (ns.map .int),.int 14] (.ok (.va (.int (ns.getD 14 0)))):=Ds ns 14
theorem Kx (a b c d e g):tR [.tup [af a,af b,af c,af d,af e,af g]] (.ok (.va (.tup [af a,af b,af c,af d,af e,af g]))):=Dy (As:=[a,b,c,d,e,g]) (by show (6:Nat)≤1000; decide)
theorem Ky (a b c d):tR [.tup [af a,af b,af c,af d]] (.ok (.va (.tup [af a,af b,af c,af d]))):=Dy (As:=[a,b,c,d]) (by show (4:Nat)≤1000; decide)
theorem Kz (a b c):tR [.tup [af a,af b,af c]] (.ok (.va (.tup [af a,af b,af c]))):=Dy (As:=[a,b,c]) (by show (3:Nat)≤1000; decide)
theorem j5 (Ls Ms:List (List aG)):ly (n+4) (.tup (Ls.map af)) (.tup (Ms.map af)):=.tup fun i d e h1 h2=>by
 simp only [OY,O4] at h1 h2
 obtain ⟨a,_,rfl⟩:=h1
 obtain ⟨b,_,rfl⟩:=h2
 exact B5 a b
theorem vD (L1 L2 L3:List (List aG)):o7 [.tup (L1.map af),.tup (L2.map af),.tup (L3.map af)] [.tup (L1.map af),.tup (L2.map af),.tup (L3.map af)]:=jT (j5 L1 L1) (jT (j5 L2 L2) (jT (j5 L3 L3) (B6 _)))
section
local macro_rules | `(tactic| walk_at "evBo")=> `(tactic| first | ((with_reducible show aJ _ (R6 (RA _ _ _) T6 _ _) _ _); with_reducible refine BV ?_))
local macro_rules | `(tactic| walk_at "evCa")=> `(tactic| first
 | with_reducible refine cC (F:=tQ) (by assumption) (by decide) ?_
 | with_reducible refine cC (F:=tR) (by assumption) (by decide) ?_
 | with_reducible refine cC (F:=qo) (by assumption) (by decide) ?_
 | with_reducible refine cC (F:=MQ) (by assumption) (by decide) ?_
 | with_reducible refine cC (F:=zC) (by assumption) (by decide) ?_
 | with_reducible refine Cq (x_call (x:=OL "as_curve") (F:=zD) (by assumption) (by decide) ?_))
local macro_rules | `(tactic| walk_at "evR")=> `(tactic| first
 | refine aF (Ku _) ?_
 | refine aF (Kv _) ?_
 | refine aF (Kw _) ?_
 | refine aF (Gw _) ?_
 | refine aF (Gx _) ?_
 | refine aF (Kx _ _ _ _ _ _) ?_
 | refine aF (Kz _ _ _) ?_
 | refine aF (Ky _ _ _ _) ?_)
theorem KA {f:Addr} {fd:FuncData} (Fu:fu K "law" "law" vf f fd) (T:Txt K mg) (h1:cz P w K mg base 3 "_law_things" tQ) (h2:cz P w K mg base 1 "_law_copied" tR) (h3:cz P w K mg base 4 "_law_due" MQ) (h4:cz P w K mg base 1 "_law_cell_at" qo)
 (h5:cz P w K mg base 2 "_law_same" zC) (h6:FQ P w K mg base 1 "_law_spoil" tS) (h7:cz P w K mg base 7 "again_point" zE) (h8:cz P w K mg base 8 "roll_point" zF) (h9:cz P w K mg base 6 "as_curve" zD):bx P w K mg base (dH P w) 9 f fd ["_law_script"] (fE K Bb):=by
 refine cR Fu JJ JK (by rintro ds r ⟨ns,_,rfl,_⟩; rfl) (by rintro ds r ⟨ns,_,_,rfl⟩; exact ⟨_,rfl⟩) fun k hq ds sl hF=>?_
 obtain ⟨ns,hns,rfl,ee⟩:=hF
 injection ee with ee
 subst ee
 show aS k _ [.va (.lst (ns.map .int)),.un,.un,.un,.un,.un,.un,.un,.un,.un] _ _
 conv in (ay _)=>whnf
 refine aO ?_
 generalize hG:(fun ρ'=>aS k _ ρ' _ _)=G
 walk_at "ev"
 subst hG
 refine aO ?_
 generalize hG:(fun ρ'=>aS k _ ρ' _ _)=G
 have hR:∀ {a b c d e g:List aG},bM a→bM b→bM c→bM d→bM e→bM g→G [.va (.lst (ns.map .int)),.va (.tup [af a,af b,af c,af d,af e,af g]),.un,.un,.un,.un,.un,.un,.un,.un]:=fun {a b c d e g} ha hb hc hd he hg=>by
  subst hG
  refine aO ?_
  generalize hG:(fun ρ'=>aS k _ ρ' _ _)=G
  walk_at "ev"
  subst hG
  refine aO ?_
  generalize hG:(fun ρ'=>aS k _ ρ' _ _)=G
  walk_at "ev"
  subst hG
  have h:Tw a b c d e g (th ns 7) (th ns 8) (th ns 10) (th ns 11) (th ns 12):=⟨ha,hb,hc,hd,he,hg,eZ _,eZ _,eZ _,eZ _,eZ _⟩
  generalize th ns 7=p at h ⊢
  generalize th ns 8=q at h ⊢
  generalize th ns 9=r1
  generalize th ns 10=x at h ⊢
  generalize th ns 11=y at h ⊢
  generalize th ns 12=z at h ⊢
  refine aO ?_
  generalize hG:(fun ρ'=>aS k _ ρ' _ _)=G
  walk_at "ev"
  subst hG
  obtain ⟨n,hn,en⟩:∃ n:Nat,n<6∧ns.getD 14 0 / 3 % 6=(n:Int):=⟨(ns.getD 14 0 / 3 % 6).toNat,by omega,by omega⟩
  rw [en]
  refine aO ?_
  generalize hG:(fun ρ'=>aS k _ ρ' _ _)=G
  walk_at "ev"
  refine ⟨_,_,rfl,rfl,⟨⟨by simp,by omega,by omega,by rw [Pz]; exact pX (by simp; omega)⟩,?_⟩⟩
  rw [Pz]
  walk_at "ev"
  ·exact pX (by simp; omega)
  subst hG
  have eF:D.lst [.tup [.tup ((OX n [D.int 0]).flatten++[.int 1]),.int (-1)]]=af (zN n):=by
   rw [oJ]; unfold zN af; rw [UL]
   show _=D.lst [.tup [.tup ((OX n (0:Int)++[1]).map D.int),.int (-1)]]
   rw [Pq]; rfl
  refine aO ?_
  generalize hG:(fun ρ'=>aS k _ ρ' _ _)=G
  walk_at "ev"
  subst hG
  refine lJ 5 (d0:=af (zN n)) (by walk_at "at") (by exact congrArg some eF) (by walk_at "sset") ?_
  refine lJ 6 (by walk_at "at") rfl (by walk_at "sset") ?_
  refine aO ?_
  with_reducible refine cS hq (gu (Txt.range (by assumption)) ?_)
  walk_at "ev"
  ·exact ⟨by decide,by decide⟩
  refine ⟨fun i ρ'=>∃ s7:Sl,s7.EC=false∧ρ'=[.va (.lst (ns.map .int)),.va (.tup [af a,af b,af c,af d,af e,af g]),.va (.tup [af p,af q,af r1]),.va (.tup [af x,af y,af z]),.va (.int (n:Int)),.va (af (zN n)),.va (.lst [.tup [af a,af b,af c,af d,af e,af g],.tup [af p,af q,af r1],.tup [af x,af y,af z]]),s7,.un,.un],⟨_,rfl,rfl⟩,?_,?_⟩
  ·rintro c' oQ zH zI i dd ρ' hd ⟨s7,h7F,rfl⟩
   obtain ⟨hi,rfl⟩:=ji hd
   refine dM (by walk_at "at") (qQ (by walk_at "sset") ?_)
   refine aO (CD (by walk_at "at") (x_call (x:=OL "again_point") (F:=zE) h7 (by decide) ?_))
   walk_at "ev"
   refine aF (MY (r1:=r1) h.ag) ⟨_,rfl,fun L8 e8 _=>qQ (by walk_at "sset") ?_⟩
   refine aO (CD (by walk_at "at") (x_call (x:=OL "roll_point") (F:=zF) h8 (by decide) ?_))
   walk_at "ev"
   refine aF (MZ h hn) ⟨_,rfl,fun L9 e9 hd9=>qQ (by walk_at "sset") ?_⟩
   have hdj:∀ x∈L9,∀ y∈L8,x.1≠y.1:=hd9 8 L8 rfl
   have g8:=xD (ρ:=[.va (.lst (ns.map .int)),.va (.tup [af a,af b,af c,af d,af e,af g]),.va (.tup [af p,af q,af r1]),.va (.tup [af x,af y,af z]),.va (.int (n:Int)),.va (af (zN n)),.va (.lst [.tup [af a,af b,af c,af d,af e,af g],.tup [af p,af q,af r1],.tup [af x,af y,af z]]),.va (.int (i:Int)),.fo (.t (d7 L8)),.fo (.t (d7 L9))]) (i:=8) (j:=9) rfl rfl hdj (by rintro (_|_|_|_|_|_|_|_|_|_|n1) r h1 h2 e <;> simp at e h1 h2 <;> subst e <;> rfl)
   have g9:=xD (ρ:=[.va (.lst (ns.map .int)),.va (.tup [af a,af b,af c,af d,af e,af g]),.va (.tup [af p,af q,af r1]),.va (.tup [af x,af y,af z]),.va (.int (n:Int)),.va (af (zN n)),.va (.lst [.tup [af a,af b,af c,af d,af e,af g],.tup [af p,af q,af r1],.tup [af x,af y,af z]]),.va (.int (i:Int)),.fo (.t (d7 L8)),.fo (.t (d7 L9))]) (i:=9) (j:=8) rfl rfl (fun x hx y hy z=>hdj y hy x hx z.symm) (by rintro (_|_|_|_|_|_|_|_|_|_|n1) r h1 h2 e <;> simp at e h1 h2 <;> subst e <;> rfl)
   refine aO (Iu (CC 8 g8 (by walk_at "sset") ?_))
   generalize hG:(fun ρ'=>aS c' _ ρ' _ _)=G
   walk_at "ev"
   refine aF (MR h.ag) (qV ?_)
   walk_at "ev"
   refine aF (DO e8 h.ag.tO (QM rfl)) ?_
   walk_at "ev"
   subst hG
   refine aO (Iu (CC 9 g9 (by walk_at "sset") ?_))
   generalize hG:(fun ρ'=>aS c' _ ρ' _ _)=G
   walk_at "ev"
   refine aF (MR (h.Nd hn)) (qV ?_)
   walk_at "ev"
   refine aF (DO e9 (h.Nd hn).tO (QM rfl)) ?_
   walk_at "ev"
   subst hG
   refine aO (xE h6 (by decide) (by walk_at "at") g8 aN.sM (oO e8 h.ag.tO (QM rfl)) (qQ (by walk_at "sset") ?_))
   refine aO (xE h6 (by decide) (by walk_at "at") (mw.g (.s rfl (.s rfl (.s rfl (.s rfl (.s rfl (.s rfl (.s rfl (.s rfl (.s rfl (.z .nil))))))))))) aN.sM (oO e9 (h.Nd hn).tO (QM rfl)) (qQ (by walk_at "sset") ?_))
   walk_at "ev"
   exact ⟨_,rfl,rfl⟩
  ·rintro ρ' ⟨s7,h7F,rfl⟩
   walk_at "ev"
   refine sF (vD [a,b,c,d,e,g] [p,q,r1] [x,y,z]) ?_
   rfl
 have v1:=kT (nC ns 1)
 have v2:=kT (nC ns 2)
 have v3:=kT (nC ns 3)
 have v4:=kT (nC ns 4)
 clear hG
 walk_at "ev"
 ·refine aF (Ks (a:=th ns 1) (b:=th ns 2) (c:=th ns 3) (d:=th ns 4) v1 v2 v3 v4) ⟨_,rfl,?_⟩
  rw [Of]
  walk_at "ev"
  exact hR v1.s Kp.s v1.s v2.s v3.s v4.s
 ·exact hR v1.s v2.s v3.s v4.s (eZ _) (eZ _)
end
end
section
variable {K:ON}
theorem Gy {fa:Addr} (zL:mg "law"=some (.ref fa)) (T:Txt K mg) (xPLACES:∃ tk:Tok,mg "PLACES"=some (.int 6 tk))
 (D2:aC K mg "trimmed" (top 2))
 (D3:aC K mg "greatest_powers" (top 3))
 (D4:aC K mg "key_of" (top 4))
 (D5:aC K mg "powers_of" (top 5))
 (D6:aC K mg "packed" (top 6))
 (D7:aC K mg "unpacked" (top 7))
 (D8:aC K mg "add_products" (top 8))
 (D10:aC K mg "width_of" (top 10))
 (D11:aC K mg "add_part" (top 11))
 (D12:aC K mg "poly_total" (top 12))
 (D13:aC K mg "free_poly" (top 13))
 (D15:aC K mg "curve_rule" (top 15))
 (D16:aC K mg "six_of" (top 16))
 (D17:aC K mg "curve_polar_rule" (top 17))
 (D18:aC K mg "again_rule" (top 18))
 (D19:aC K mg "roll_rule" (top 19))
 (D20:aC K mg "as_curve" (top 20))
 (D21:aC K mg "again_point" (top 21))
 (D22:aC K mg "roll_point" (top 22))
 (D24:aC K mg "_law_cell_at" (top 24))
 (D25:aC K mg "_law_digits" (top 25))
 (D26:aC K mg "_law_plain" (top 26))
 (D27:aC K mg "_law_product" (top 27))
 (D28:aC K mg "_law_sum" (top 28))
 (D29:aC K mg "_law_some" (top 29))
 (D30:aC K mg "_law_things" (top 30))
 (D31:aC K mg "_law_copied" (top 31))
 (D32:aC K mg "_law_terms" (top 32))
 (D33:aC K mg "_law_same" (top 33))
 (D34:aC K mg "_law_spoil" (top 34))
 (D35:aC K mg "_law_due" (top 35))
 (D36:aC K mg "law" (top 36))
 : ∃ fd:FuncData,(∀ (s:Shared) (u:Value),BindsTo s fd ⟨[u],[]⟩ [("_law_script",u)])∧∀ base:Heap,K.In base→base.Ns mainGlobals mg→bx P w K mg base (dH P w) 20 fa fd ["_law_script"] (fE K Bb):=by
 refine Classical.byContradiction fun hG=>?_
 obtain ⟨f2,fd2,m2,Fu2⟩:=D2
 obtain ⟨f3,fd3,m3,Fu3⟩:=D3
 obtain ⟨f4,fd4,m4,Fu4⟩:=D4
 obtain ⟨f5,fd5,m5,Fu5⟩:=D5
 obtain ⟨f6,fd6,m6,Fu6⟩:=D6
 obtain ⟨f7,fd7,m7,Fu7⟩:=D7
 obtain ⟨f8,fd8,m8,Fu8⟩:=D8
 obtain ⟨f10,fd10,m10,Fu10⟩:=D10
 obtain ⟨f11,fd11,m11,Fu11⟩:=D11
 obtain ⟨f12,fd12,m12,Fu12⟩:=D12
 obtain ⟨f13,fd13,m13,Fu13⟩:=D13
 obtain ⟨f15,fd15,m15,Fu15⟩:=D15
 obtain ⟨f16,fd16,m16,Fu16⟩:=D16
 obtain ⟨f17,fd17,m17,Fu17⟩:=D17
 obtain ⟨f18,fd18,m18,Fu18⟩:=D18
 obtain ⟨f19,fd19,m19,Fu19⟩:=D19
 obtain ⟨f20,fd20,m20,Fu20⟩:=D20
 obtain ⟨f21,fd21,m21,Fu21⟩:=D21
 obtain ⟨f22,fd22,m22,Fu22⟩:=D22
 obtain ⟨f24,fd24,m24,Fu24⟩:=D24
 obtain ⟨f25,fd25,m25,Fu25⟩:=D25
 obtain ⟨f26,fd26,m26,Fu26⟩:=D26
 obtain ⟨f27,fd27,m27,Fu27⟩:=D27
 obtain ⟨f28,fd28,m28,Fu28⟩:=D28
 obtain ⟨f29,fd29,m29,Fu29⟩:=D29
 obtain ⟨f30,fd30,m30,Fu30⟩:=D30
 obtain ⟨f31,fd31,m31,Fu31⟩:=D31
 obtain ⟨f32,fd32,m32,Fu32⟩:=D32
 obtain ⟨f33,fd33,m33,Fu33⟩:=D33
 obtain ⟨f34,fd34,m34,Fu34⟩:=D34
 obtain ⟨f35,fd35,m35,Fu35⟩:=D35
 obtain ⟨f36,fd36,m36,Fu36⟩:=D36
 have e:=zL.symm.trans m36
 cases e
 refine hG ⟨fd36,?_,fun base _ _=>?_⟩
 ·obtain ⟨oc,od,kV,doc,pm,an,cdv,ct,osl,rfl,lk,hcd⟩:=Fu36.ex
  exact fun s u=>.of_eq rfl
 have C2:cz P w K mg base 1 "trimmed" (tF):=bw (ps:=["powers"]) m2 Fu2 (F4 Fu2 T) (fun _ _ _ _ _ _ us hl=>by obtain ⟨a,rfl⟩:=jK us hl; rfl)
 have C3:cz P w K mg base 1 "greatest_powers" (mG):=bw (ps:=["some"]) m3 Fu3 (CP Fu3 T xPLACES) (fun _ _ _ _ _ _ us hl=>by obtain ⟨a,rfl⟩:=jK us hl; rfl)
 have C4:cz P w K mg base 1 "key_of" (CT):=bw (ps:=["powers","width"]) m4 Fu4 (JN Fu4 T xPLACES) (fun _ _ _ _ _ _ us hl=>by obtain ⟨a,b,rfl⟩:=pF us hl; rfl)
 have C5:cz P w K mg base 2 "powers_of" (tG):=bw (ps:=["key","width"]) m5 Fu5 (Gb Fu5 T xPLACES C2) (fun _ _ _ _ _ _ us hl=>by obtain ⟨a,b,rfl⟩:=pF us hl; rfl)
 have C6:cz P w K mg base 2 "packed" (tK):=bw (ps:=["some","width"]) m6 Fu6 (Ge Fu6 T C4) (fun _ _ _ _ _ _ us hl=>by obtain ⟨a,b,rfl⟩:=pF us hl; rfl)
 have C7:cz P w K mg base 3 "unpacked" (CV):=bw (ps:=["total","width"]) m7 Fu7 (JR Fu7 T C5) (fun _ _ _ _ _ _ us hl=>by obtain ⟨a,b,rfl⟩:=pF us hl; rfl)
 have C8:yD P w K mg base 1 "add_products" (Gf):=xo (ps:=["total","left","right"]) m8 Fu8 (JQ Fu8 T) (fun _ _ _ _ _ _ us hl=>by obtain ⟨a,b,c,rfl⟩:=yl us hl; rfl)
 have C10:cz P w K mg base 2 "width_of" (Df):=bw (ps:=["parts"]) m10 Fu10 (JS Fu10 T C3) (fun _ _ _ _ _ _ us hl=>by obtain ⟨a,rfl⟩:=jK us hl; rfl)
 have C11:yD P w K mg base 3 "add_part" (qm):=xo (ps:=["whole","part","width"]) m11 Fu11 (Dl Fu11 T C6 C8) (fun _ _ _ _ _ _ us hl=>by obtain ⟨a,b,c,rfl⟩:=yl us hl; rfl)
 have C12:cz P w K mg base 4 "poly_total" (jA):=bw (ps:=["parts"]) m12 Fu12 (JV Fu12 T C10 C11 C7) (fun _ _ _ _ _ _ us hl=>by obtain ⟨a,rfl⟩:=jK us hl; rfl)
 have C13:cz P w K mg base 1 "free_poly" (tT):=bw (ps:=["k"]) m13 Fu13 (Gs Fu13 T) (fun _ _ _ _ _ _ us hl=>by obtain ⟨a,rfl⟩:=jK us hl; rfl)
 have C15:cz P w K mg base 5 "curve_rule" (DH P w K mg base):=bw (ps:=["total","o"]) m15 Fu15 (Kd Fu15 T) (fun _ _ _ _ _ _ us hl=>by obtain ⟨a,b,rfl⟩:=pF us hl; rfl)
 have C16:cz P w K mg base 5 "six_of" (DI P w K mg base):=bw (ps:=["total","v"]) m16 Fu16 (Ke Fu16 T) (fun _ _ _ _ _ _ us hl=>by obtain ⟨a,b,rfl⟩:=pF us hl; rfl)
 have C17:cz P w K mg base 5 "curve_polar_rule" (DJ P w K mg base):=bw (ps:=["total","v","i"]) m17 Fu17 (Kg Fu17) (fun _ _ _ _ _ _ us hl=>by obtain ⟨a,b,c,rfl⟩:=yl us hl; rfl)
 have C18:cz P w K mg base 6 "again_rule" (vA P w K mg base):=bw (ps:=["total","v","l","i"]) m18 Fu18 (Kl Fu18 C16 C17) (fun _ _ _ _ _ _ us hl=>by obtain ⟨a,b,c,d,rfl⟩:=I0 us hl; rfl)
 have C19:cz P w K mg base 7 "roll_rule" (DL P w K mg base):=bw (ps:=["total","v","i","t"]) m19 Fu19 (Km Fu19 C18) (fun _ _ _ _ _ _ us hl=>by obtain ⟨a,b,c,d,rfl⟩:=I0 us hl; rfl)
 have C20:cz P w K mg base 6 "as_curve" (zD):=bw (ps:=["o"]) m20 Fu20 (Kf Fu20 C12 C15) (fun _ _ _ _ _ _ us hl=>by obtain ⟨a,rfl⟩:=jK us hl; rfl)
 have C21:cz P w K mg base 7 "again_point" (zE):=bw (ps:=["v","l","i"]) m21 Fu21 (Kn Fu21 C12 C18) (fun _ _ _ _ _ _ us hl=>by obtain ⟨a,b,c,rfl⟩:=yl us hl; rfl)
 have C22:cz P w K mg base 8 "roll_point" (zF):=bw (ps:=["v","i","t"]) m22 Fu22 (Ko Fu22 C12 C19 C13) (fun _ _ _ _ _ _ us hl=>by obtain ⟨a,b,c,rfl⟩:=yl us hl; rfl)
 have C24:cz P w K mg base 1 "_law_cell_at" (qo):=bw (ps:=["_law_script","_law_k"]) m24 Fu24 (J2 Fu24 T) (fun _ _ _ _ _ _ us hl=>by obtain ⟨a,b,rfl⟩:=pF us hl; rfl)
 have C25:cz P w K mg base 2 "_law_digits" (Dt):=bw (ps:=["_law_script","_law_k"]) m25 Fu25 (J4 Fu25 T C24) (fun _ _ _ _ _ _ us hl=>by obtain ⟨a,b,rfl⟩:=pF us hl; rfl)
 have C26:cz P w K mg base 1 "_law_plain" (qj):=bw (ps:=["_law_terms_here"]) m26 Fu26 (CM Fu26 T) (fun _ _ _ _ _ _ us hl=>by obtain ⟨a,rfl⟩:=jK us hl; rfl)
 have C27:cz P w K mg base 2 "_law_product" (Dn):=bw (ps:=["_law_factors"]) m27 Fu27 (JW Fu27 T C26) (fun _ _ _ _ _ _ us hl=>by obtain ⟨a,rfl⟩:=jK us hl; rfl)
 have C28:cz P w K mg base 3 "_law_sum" (Dr):=bw (ps:=["_law_parts"]) m28 Fu28 (J0 Fu28 T C26 C27) (fun _ _ _ _ _ _ us hl=>by obtain ⟨a,rfl⟩:=jK us hl; rfl)
 have C29:cz P w K mg base 2 "_law_some" (tP):=bw (ps:=["_law_number"]) m29 Fu29 (Gq Fu29 T C26) (fun _ _ _ _ _ _ us hl=>by obtain ⟨a,rfl⟩:=jK us hl; rfl)
 have C30:cz P w K mg base 3 "_law_things" (tQ):=bw (ps:=["_law_script","_law_at","_law_many"]) m30 Fu30 (J6 Fu30 T C25 C29) (fun _ _ _ _ _ _ us hl=>by obtain ⟨a,b,c,rfl⟩:=yl us hl; rfl)
 have C31:cz P w K mg base 1 "_law_copied" (tR):=bw (ps:=["_law_told"]) m31 Fu31 (J7 Fu31 T) (fun _ _ _ _ _ _ us hl=>by obtain ⟨a,rfl⟩:=jK us hl; rfl)
 have C32:cz P w K mg base 1 "_law_terms" (Dz):=bw (ps:=["_law_some_here"]) m32 Fu32 (J8 Fu32 T) (fun _ _ _ _ _ _ us hl=>by obtain ⟨a,rfl⟩:=jK us hl; rfl)
 have C33:cz P w K mg base 2 "_law_same" (zC):=bw (ps:=["_law_found","_law_due_here"]) m33 Fu33 (J9 Fu33 T C32) (fun _ _ _ _ _ _ us hl=>by obtain ⟨a,b,rfl⟩:=pF us hl; rfl)
 have C34:FQ P w K mg base 1 "_law_spoil" (tS):=FY (ps:=["_law_found"]) m34 Fu34 (DF Fu34) (fun _ _ _ _ _ _ us hl=>by obtain ⟨a,rfl⟩:=jK us hl; rfl)
 have C35:cz P w K mg base 4 "_law_due" (MQ):=bw (ps:=["_law_v","_law_a","_law_b","_law_i"]) m35 Fu35 (MS Fu35 T C28) (fun _ _ _ _ _ _ us hl=>by obtain ⟨a,b,c,d,rfl⟩:=I0 us hl; rfl)
 exact (KA Fu36 T C30 C31 C35 C24 C33 C34 C21 C22 C20).mono (by decide)
end
end My
open PySem PySem.W PyProof.Rows
set_option maxRecDepth 100000 in
set_option maxHeartbeats 0 in
theorem PySem.Challenge.cw_everydraw_k26_meets_again_holds : PySem.Challenge.rw_everydraw_k26_meets_again.Holds := by
 w_on; o_law; k_head; (case hw=>w_witness2)
 k_fill
 refine EV.walk (k:=20) (l:=PySem.Challenge.rw_everydraw_k26_meets_again) (by decide) rfl rfl (fun w h Y=>PySem.W.kIn_of Y) ?F
 case F =>
  intro w mg fa h KX G hmg
  have D2:EV.aC (L2.cF KX) mg (Str.ofString "trimmed") (My.top 2):=by
   dsimp only [L2.cF]
   refine' EV.aV KX G ?a ?l ?c ?k
   (case a=>k_is); (case l=>k_is); (case c=>k_is); (case k=>k_is)
  have D3:EV.aC (L2.cF KX) mg (Str.ofString "greatest_powers") (My.top 3):=by
   dsimp only [L2.cF]
   refine' EV.aV KX G ?a ?l ?c ?k
   (case a=>k_is); (case l=>k_is); (case c=>k_is); (case k=>k_is)
  have D4:EV.aC (L2.cF KX) mg (Str.ofString "key_of") (My.top 4):=by
   dsimp only [L2.cF]
   refine' EV.aV KX G ?a ?l ?c ?k
   (case a=>k_is); (case l=>k_is); (case c=>k_is); (case k=>k_is)
  have D5:EV.aC (L2.cF KX) mg (Str.ofString "powers_of") (My.top 5):=by
   dsimp only [L2.cF]
   refine' EV.aV KX G ?a ?l ?c ?k
   (case a=>k_is); (case l=>k_is); (case c=>k_is); (case k=>k_is)
  have D6:EV.aC (L2.cF KX) mg (Str.ofString "packed") (My.top 6):=by
   dsimp only [L2.cF]
   refine' EV.aV KX G ?a ?l ?c ?k
   (case a=>k_is); (case l=>k_is); (case c=>k_is); (case k=>k_is)
  have D7:EV.aC (L2.cF KX) mg (Str.ofString "unpacked") (My.top 7):=by
   dsimp only [L2.cF]
   refine' EV.aV KX G ?a ?l ?c ?k
   (case a=>k_is); (case l=>k_is); (case c=>k_is); (case k=>k_is)
  have D8:EV.aC (L2.cF KX) mg (Str.ofString "add_products") (My.top 8):=by
   dsimp only [L2.cF]
   refine' EV.aV KX G ?a ?l ?c ?k
   (case a=>k_is); (case l=>k_is); (case c=>k_is); (case k=>k_is)
  have D10:EV.aC (L2.cF KX) mg (Str.ofString "width_of") (My.top 10):=by
   dsimp only [L2.cF]
   refine' EV.aV KX G ?a ?l ?c ?k
   (case a=>k_is); (case l=>k_is); (case c=>k_is); (case k=>k_is)
  have D11:EV.aC (L2.cF KX) mg (Str.ofString "add_part") (My.top 11):=by
   dsimp only [L2.cF]
   refine' EV.aV KX G ?a ?l ?c ?k
   (case a=>k_is); (case l=>k_is); (case c=>k_is); (case k=>k_is)
  have D12:EV.aC (L2.cF KX) mg (Str.ofString "poly_total") (My.top 12):=by
   dsimp only [L2.cF]
   refine' EV.aV KX G ?a ?l ?c ?k
   (case a=>k_is); (case l=>k_is); (case c=>k_is); (case k=>k_is)
  have D13:EV.aC (L2.cF KX) mg (Str.ofString "free_poly") (My.top 13):=by
   dsimp only [L2.cF]
   refine' EV.aV KX G ?a ?l ?c ?k
   (case a=>k_is); (case l=>k_is); (case c=>k_is); (case k=>k_is)
  have D15:EV.aC (L2.cF KX) mg (Str.ofString "curve_rule") (My.top 15):=by
   dsimp only [L2.cF]
   refine' EV.aV KX G ?a ?l ?c ?k
   (case a=>k_is); (case l=>k_is); (case c=>k_is); (case k=>k_is)
  have D16:EV.aC (L2.cF KX) mg (Str.ofString "six_of") (My.top 16):=by
   dsimp only [L2.cF]
   refine' EV.aV KX G ?a ?l ?c ?k
   (case a=>k_is); (case l=>k_is); (case c=>k_is); (case k=>k_is)
  have D17:EV.aC (L2.cF KX) mg (Str.ofString "curve_polar_rule") (My.top 17):=by
   dsimp only [L2.cF]
   refine' EV.aV KX G ?a ?l ?c ?k
   (case a=>k_is); (case l=>k_is); (case c=>k_is); (case k=>k_is)
  have D18:EV.aC (L2.cF KX) mg (Str.ofString "again_rule") (My.top 18):=by
   dsimp only [L2.cF]
   refine' EV.aV KX G ?a ?l ?c ?k
   (case a=>k_is); (case l=>k_is); (case c=>k_is); (case k=>k_is)
  have D19:EV.aC (L2.cF KX) mg (Str.ofString "roll_rule") (My.top 19):=by
   dsimp only [L2.cF]
   refine' EV.aV KX G ?a ?l ?c ?k
   (case a=>k_is); (case l=>k_is); (case c=>k_is); (case k=>k_is)
  have D20:EV.aC (L2.cF KX) mg (Str.ofString "as_curve") (My.top 20):=by
   dsimp only [L2.cF]
   refine' EV.aV KX G ?a ?l ?c ?k
   (case a=>k_is); (case l=>k_is); (case c=>k_is); (case k=>k_is)
  have D21:EV.aC (L2.cF KX) mg (Str.ofString "again_point") (My.top 21):=by
   dsimp only [L2.cF]
   refine' EV.aV KX G ?a ?l ?c ?k
   (case a=>k_is); (case l=>k_is); (case c=>k_is); (case k=>k_is)
  have D22:EV.aC (L2.cF KX) mg (Str.ofString "roll_point") (My.top 22):=by
   dsimp only [L2.cF]
   refine' EV.aV KX G ?a ?l ?c ?k
   (case a=>k_is); (case l=>k_is); (case c=>k_is); (case k=>k_is)
  have D24:EV.aC (L2.cF KX) mg (Str.ofString "_law_cell_at") (My.top 24):=by
   dsimp only [L2.cF]
   refine' EV.aV KX G ?a ?l ?c ?k
   (case a=>k_is); (case l=>k_is); (case c=>k_is); (case k=>k_is)
  have D25:EV.aC (L2.cF KX) mg (Str.ofString "_law_digits") (My.top 25):=by
   dsimp only [L2.cF]
   refine' EV.aV KX G ?a ?l ?c ?k
   (case a=>k_is); (case l=>k_is); (case c=>k_is); (case k=>k_is)
  have D26:EV.aC (L2.cF KX) mg (Str.ofString "_law_plain") (My.top 26):=by
   dsimp only [L2.cF]
   refine' EV.aV KX G ?a ?l ?c ?k
   (case a=>k_is); (case l=>k_is); (case c=>k_is); (case k=>k_is)
  have D27:EV.aC (L2.cF KX) mg (Str.ofString "_law_product") (My.top 27):=by
   dsimp only [L2.cF]
   refine' EV.aV KX G ?a ?l ?c ?k
   (case a=>k_is); (case l=>k_is); (case c=>k_is); (case k=>k_is)
  have D28:EV.aC (L2.cF KX) mg (Str.ofString "_law_sum") (My.top 28):=by
   dsimp only [L2.cF]
   refine' EV.aV KX G ?a ?l ?c ?k
   (case a=>k_is); (case l=>k_is); (case c=>k_is); (case k=>k_is)
  have D29:EV.aC (L2.cF KX) mg (Str.ofString "_law_some") (My.top 29):=by
   dsimp only [L2.cF]
   refine' EV.aV KX G ?a ?l ?c ?k
   (case a=>k_is); (case l=>k_is); (case c=>k_is); (case k=>k_is)
  have D30:EV.aC (L2.cF KX) mg (Str.ofString "_law_things") (My.top 30):=by
   dsimp only [L2.cF]
   refine' EV.aV KX G ?a ?l ?c ?k
   (case a=>k_is); (case l=>k_is); (case c=>k_is); (case k=>k_is)
  have D31:EV.aC (L2.cF KX) mg (Str.ofString "_law_copied") (My.top 31):=by
   dsimp only [L2.cF]
   refine' EV.aV KX G ?a ?l ?c ?k
   (case a=>k_is); (case l=>k_is); (case c=>k_is); (case k=>k_is)
  have D32:EV.aC (L2.cF KX) mg (Str.ofString "_law_terms") (My.top 32):=by
   dsimp only [L2.cF]
   refine' EV.aV KX G ?a ?l ?c ?k
   (case a=>k_is); (case l=>k_is); (case c=>k_is); (case k=>k_is)
  have D33:EV.aC (L2.cF KX) mg (Str.ofString "_law_same") (My.top 33):=by
   dsimp only [L2.cF]
   refine' EV.aV KX G ?a ?l ?c ?k
   (case a=>k_is); (case l=>k_is); (case c=>k_is); (case k=>k_is)
  have D34:EV.aC (L2.cF KX) mg (Str.ofString "_law_spoil") (My.top 34):=by
   dsimp only [L2.cF]
   refine' EV.aV KX G ?a ?l ?c ?k
   (case a=>k_is); (case l=>k_is); (case c=>k_is); (case k=>k_is)
  have D35:EV.aC (L2.cF KX) mg (Str.ofString "_law_due") (My.top 35):=by
   dsimp only [L2.cF]
   refine' EV.aV KX G ?a ?l ?c ?k
   (case a=>k_is); (case l=>k_is); (case c=>k_is); (case k=>k_is)
  have D36:EV.aC (L2.cF KX) mg (Str.ofString "law") (My.top 36):=by
   dsimp only [L2.cF]
   refine' EV.aV KX G ?a ?l ?c ?k
   (case a=>k_is); (case l=>k_is); (case c=>k_is); (case k=>k_is)
  have T:EV.Txt (L2.cF KX) mg:=by
   dsimp only [L2.cF]
   refine' EV.IZ KX G ?z1 ?z2 ?z3 ?z4 ?z5 ?z6 ?z7 ?z8 ?z9 ?z10 ?z11 ?z12 ?z13 ?z14 ?z15 ?z16 ?z17 ?sib
   (case z1=>k_is)
   (case z2=>k_is)
   (case z3=>k_is)
   (case z4=>k_is)
   (case z5=>k_is)
   (case z6=>k_is)
   (case z7=>k_is)
   (case z8=>k_is)
   (case z9=>k_is)
   (case z10=>k_is)
   (case z11=>k_is)
   (case z12=>k_is)
   (case z13=>k_is)
   (case z14=>k_is)
   (case z15=>k_is)
   (case z16=>k_is)
   (case z17=>k_is)
   (case sib=>k_is)
  have xPLACES:∃ tk:Tok,mg (Str.ofString "PLACES")=some (.int 6 tk):=by
   refine' EV.int_mk KX G ?a
   (case a=>k_is)
  exact My.Gy hmg T xPLACES D2 D3 D4 D5 D6 D7 D8 D10 D11 D12 D13 D15 D16 D17 D18 D19 D20 D21 D22 D24 D25 D26 D27 D28 D29 D30 D31 D32 D33 D34 D35 D36
#print axioms PySem.Challenge.cw_everydraw_k26_meets_again_holds
