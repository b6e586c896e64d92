import PyProof.Rows.All
import Wide.All
import OpenK.AllK
import Wide.FinOn
import PySem.Challenge.RW_everydraw_k24_curves_by_five
namespace EV
theorem z2 {α β} {P:α->β->Prop} {G:Prop} (h:∃ a b,P a b) (k:∀ a b,P a b->G):G:=h.elim λa h=>h.elim (k a)
theorem z3 {α β γ} {P:α->β-> γ ->Prop} {G:Prop} (h:∃ a b c,P a b c) (k:∀ a b c,P a b c->G):G:=h.elim λa h=>z2 h (k a)
theorem z4 {α β γ δ} {P:α->β-> γ -> δ ->Prop} {G:Prop} (h:∃ a b c d,P a b c d) (k:∀ a b c d,P a b c d->G):G:=h.elim λa h=>z3 h (k a)
theorem z5 {α β γ δ ε} {P:α->β-> γ -> δ -> ε ->Prop} {G:Prop} (h:∃ a b c d e,P a b c d e) (k:∀ a b c d e,P a b c d e->G):G:=h.elim λa h=>z4 h (k a)
theorem w2 {a b G:Prop} (h:a/\b) (k:a->b->G):G:=k h.1 h.2
theorem w3 {a b c G:Prop} (h:a/\b/\c) (k:a->b->c->G):G:=w2 h.2 (k h.1)
theorem w4 {a b c d G:Prop} (h:a/\b/\c/\d) (k:a->b->c->d->G):G:=w3 h.2 (k h.1)
theorem w5 {a b c d e G:Prop} (h:a/\b/\c/\d/\e) (k:a->b->c->d->e->G):G:=w4 h.2 (k h.1)
theorem w6 {a b c d e f G:Prop} (h:a/\b/\c/\d/\e/\f) (k:a->b->c->d->e->f->G):G:=w5 h.2 (k h.1)
theorem w7 {a b c d e f g G:Prop} (h:a/\b/\c/\d/\e/\f/\g) (k:a->b->c->d->e->f->g->G):G:=w6 h.2 (k h.1)
theorem w8 {a b c d e f g i G:Prop} (h:a/\b/\c/\d/\e/\f/\g/\i) (k:a->b->c->d->e->f->g->i->G):G:=w7 h.2 (k h.1)
theorem v6 {α β γ δ ε ζ} {P:α->β-> γ -> δ -> ε -> ζ ->Prop} {G:Prop} (h:∃ a b c d e f,P a b c d e f) (k:∀ a b c d e f,P a b c d e f->G):G:=h.elim λa h=>z5 h (k a)
end EV
set_option genSizeOf false
set_option Elab.async false
set_option linter.all false
set_option maxRecDepth 100000
open PySem renaming wpAny_bind->PK,wpAny_pure->PR,Spec->Qw,wpAny_field->QK,wpAny_mono->QL,wpAny_newObj_type->QZ,wpAny_rule->Q8,wpAny_call_entry->Ra,wpAny_holding->Rb,wpAny_setField_rec->Ro,wpAny_callSpecial?_slot->Rx,wpAny_Call_Name_kw->Ry,wpAny_seqItems->RP,wpAny_attempt->RQ,Builtin->RY,wpAny_typeOf->Sb,wpAny_passesOwn->SE,wpAny_setField->SI,codeAny_mono->SK,wpAny_letGo->SO,wpAny_call->SW,wpAny_dictEntries->Tq,wpAny_dictEpoch->Tt,typeIs_int->TH,call_meets->TJ,mem_of_lookup->TU,wpAny_truthy_bool->TX,wpAny_isInstance->T4,codeAny_builtin->T5,wpAny_newList->Ua,wpAny_typeNameOfWhole_itemiter->Uu,wpAny_typeNameOfWhole_keyiter->Uv,wpAny_typeNameOf_itemiter->Uy,wpAny_typeNameOf_keyiter->UB,tupleKind_room_in1->UQ,wpAny_newTuple->Va,wpAny_fieldsOf->Vb,wpAny_onRaise->Vg,wpAny_handled->Vh,concat_meets->Vl,wpAny_throw->Vq,wpAny_of_eq->Vr,wpAny_isOneOf_itemiter->VJ,wpAny_updateSeq_pair->VS,wpAny_pyIter_tuple->VY,wpAny_sequenceKey->V4,wpAny_pyIter_slot->V5,wpAny_pyIter_list->V6,slot_list_getitem->V7,noFill_tuple_add->Wf
open PySem.Str renaming ofString->PM
open PySem.W renaming Frag->PN,nsIn->Q3,mg_none_of->Q6,kitOne->Rq,keepIn->RI,fnOf->RS,findIn->Sa,kia_one->SG,callWith_K->TV,clsIn->Ub,codeIn->Ve,mroIn->Vj,specialIn->V8,methodObj->V9
open Nat renaming le_refl->PU,le_trans->P7,ne_of_lt->Qu,zero_le->Qv,lt_of_lt_of_le->QJ,lt_irrefl->RD,lt_of_le_of_lt->RN,le_add_right->RO,le_of_ble_eq_true->R7,zero_add->Se,ne_of_gt->Sf,le_of_lt->Sg,lt_succ_self->SA,mul_le_mul->SJ,pow_le_pow_right->Th,min_eq_left->T6,succ_mul->Ug,mul_comm->Uh,le_sub_one_of_lt->UN,lt_succ_of_lt->UU,succ_le_succ->U0,one_le_iff_ne_zero->VM,add_sub_cancel'->VV
open PyProof.Rows renaming wpS_bind->PV,wpS_pure->PX,wpS_mono->QD,wpS_forRange->Q7,listUpdate_at->Ru,wpS_get->Rv,wpS_modify->RJ,wpS_lift->Sm,slot_tuple_getitem->S0,callWith_type1->S6,seqEpoch_at->TF,listItems_at->Ue,mirror_perm->Uj,slot_tupleiter_next->UP,get?_update_seq->U5,callWith_builtin1->Vz,wpAny_call_entry_kw->VU
open PySem.Heap renaming get?_push_of_some->PY,lt_size->P1,get?_push_size->Qd,SameBut->Rk,size_push->RC,ExtBut->R3,get?_update_ne->R9,get?_update_other->UI,get?_update_self->VR,get?_push_ne->Wd,size_update->Wm
open List renaming map_cons->PZ,length_map->P0,mem_cons_self->P4,getElem?_map->P6,mem_cons->P8,mem_cons_of_mem->P9,getElem?_eq_some_iff->Qa,mem_map->Qe,replicate->Qf,mem_singleton->Qg,map_map->Qi,size_toArray->Qm,append_assoc->Qn,getElem?_eq_getElem->Qo,mem_append->Qq,map_append->Qs,getElem_mem->Qy,length_cons->Qz,range->QC,length_append->QE,mem_append_right->QH,mem_of_getElem?->QI,take_length->QW,append_nil->QX,not_mem_nil->Q0,take_succ_eq_append_getElem->Q4,length_take->Q5,getD_eq_getElem?_getD->Q9,nodup_cons->Rf,getElem?_set_self->Rh,getElem?_set_ne->Ri,filterMap_cons->Rn,foldl_cons->Rp,cons_append->Rz,find?_cons->RB,take_append_drop->RE,getElem?_eq_none->RG,length_nil->RH,replicate_succ->RK,map_congr_left->RL,map_nil->RT,pairwise_map->RV,nil_append->RW,sum_cons->R0,getElem?_append_left->R4,take_of_length_le->R6,mem_append_left->R8,length->Si,filter_cons_of_pos->So,perm_append_comm->Ss,mem_of_mem_take->Su,getElem?_of_mem->Sv,getElem?_range->Sw,flatten_cons->Sz,sum_append->SH,getElem?_append_right->Tc,pairwise_singleton->Tf,pairwise_cons->To,getElem?_drop->Tp,nodup_append->Tr,forIn_cons->Tu,any_cons->Tw,zipWith->Tz,foldl->TL,filter_cons_of_neg->TN,getElem?_append->TR,flatMap_cons->TY,mem_filter->T7,foldr_cons->T8,drop_zero->T9,Nodup->Um,getElem?_zipWith_eq_some->Uw,getElem?_take_of_lt->UC,eq_of_mem_replicate->UD,length_singleton->UL,zip_cons_cons->UR,filterMap_map->US,take_sublist->UW,take_add_one->UX,reverse_perm->UY,ext_getElem?->UZ,mem_flatMap->U1,flatMap_nil->U3,ext_getElem->U4,of_mem_zip->U7,mem_range->Vf,map_id->Vv,Pairwise->Vy,pairwise_iff_getElem->VB,drop_eq_getElem_cons->VC,getElem?_replicate->VI,reverse_append->VW,length_reverse->VX,getElem_range->V2,foldl_append->Wb,drop_sublist->Wc,zipIdx_cons->Wg,lookup_cons->Wh,length_drop->Wi,getElem_map->Wj,all_eq_true->Wl,drop_append_of_le_length->Wz
open Bool renaming false_ne_true->P5,false_eq_true->QU,and_eq_true->SD,eq_iff_iff->Tv,not_true->Ud
open Option renaming map_eq_some_iff->Qc,isSome_map->Sy,bind_eq_some_iff->VH
open PySem.Expr renaming Name->Qh,Call->QN,Subscript->Rt,Tuple->Uo
open PySem.SeqAt renaming EqAt->Qj,RcAt->SX,RcNeAt->Vm
open PySem.Value renaming ref->Qk,none->QG,type->Rg,str->Uq,int->Ur
open Sum renaming inl->Ql,inr->Sn
open Ne renaming symm->Qp
open Array renaming getElem?_eq_getElem->Qt,toList_push->QF,getElem?_toList->QO,length_toList->QS,toList_append->Rc,ext'->Sk,perm_iff_toList_perm->Td,getElem?_eq_some_iff->Te,toList_reverse->Ti,getElem?_extract->UJ,getElem?_eq_none->UK,mem_toList_iff->VT,getElem_mem->We,toList_map->Wo,toList_eraseIdxIfInBounds->Wv
open PySem.Env renaming kindOf->Qx
open Int renaming le_trans->QA,toNat_natCast->QV,le_refl->Rm,le_of_lt->R1,zero_mul->SN,pow_pos->SQ,add_mul->SS,mul_assoc->Uc,zero_add->Ui,toNat->Us,lt_of_le_of_lt->UT,add_zero->Vo,add_comm->Vp,one_mul->Vw,mul_le_mul_of_nonneg_right->Ww
open PySem.Obj renaming mapSeq->QB,data_mapFields->Tj,isFreed_of_fields->VQ,cls_mapFields->Wa
open False renaming elim->QM
open ForInStep renaming yield->QY,done->Rr
open PySem.Builtin.Int renaming intBits->Rj
open PySem.Paired renaming length->Rl,snoc->Vu
open PySem.Builtin.SmallTypes renaming nextOf->Rw,ownedTupleIsFree->Ut,ownedTupleHandOut->Wr
open Option.some renaming inj->RA
open True renaming intro->RU
open PySem.NameKind renaming free->RZ
open PySem.Builtin.List renaming listUpdate->R5,listLengthHint->S9,listItems->TQ,listExtendWith->Ux,listTooLong->VF
open PyProof.Rows.SortSt renaming mk'->Sj
open Lean renaming mkPrivateNameCore->Sq,mkIdent->SM
open PySem.Heap.SameBut renaming update->Sx
open PySem.Data renaming cell->SY,fields->Ul
open PySem.F renaming slot_dict_itemiterator_next->S3,slot_dict_keyiterator_next->TM,plain_extend_loop->Uz,slot_zip_next->U8,slot_int_rmul->U9,args_tuple_add_2->VE,entry_tuple_add->VG,slot_tuple_add->VL,slot_tuple_lt->VO,slot_dict_get->VP,slot_tuple_mul->Wn,args_dict_itemiterator_next_1->Wu,entry_dict_itemiterator_next->Wx,args_dict_keyiterator_next_1->Wy,slot_dict_itemiterator_iter->WA,entry_dict_keyiterator_next->WB
open List.Perm renaming append_left->Tg
open List.Pairwise renaming nil->TZ
open PySem.Stmt renaming Return->Uk,AugAssign->Vc,Assign->Vs
open PySem.Builtin.Slice renaming slicePlaces->UA,sliceAdjust->VD
open PySem.Builtin.Tuple renaming tupleExact->UE
open PySem.AutoSeq1 renaming wpAny_loadPart'->UG
open PySem.Builtin.Range renaming rangeSize->UH
open PySem.Builtin.Dict renaming showsAll->UM
open PySem.Around renaming under_plainId->UO
open PySem.SeqAt.EqAt renaming same->U6,str_int->VZ,int_str->V0,int_int->V1
open Quotient renaming sound->Vd
open Function renaming comp->Vk
open PySem.Operator renaming Add->Vn
open PySem.Builtin.Dict_items renaming pairFromOwner->Vx,ownsTuple->VA,ownedTupleIsFree->Ws,ownedTupleFields->Wt
open PySem.Calls renaming callWith_builtin->VN,spliced_cons->V3
open PySem.Challenge renaming rw_everydraw_k24_curves_by_five->Wq
namespace PySem.W.Fast
theorem tw3380999703807515899:True:=⟨⟩
theorem tw5771873579884601663:True:=⟨⟩
theorem tw18354648446466241110:True:=⟨⟩
theorem tw5555972412614998680:True:=⟨⟩
theorem tw8050545243663364800:True:=⟨⟩
theorem tw6509617670517462658:True:=⟨⟩
theorem tw11919422213389805852:True:=⟨⟩
theorem tw18379153517020310092:True:=⟨⟩
theorem tw4318443732856655378:True:=⟨⟩
theorem tw6759783195313576852:True:=⟨⟩
theorem tw12880182648590996894:True:=⟨⟩
theorem tw4213131974102286920:True:=⟨⟩
theorem tw9297001854415666575:True:=⟨⟩
theorem tw15290954913246009924:True:=⟨⟩
theorem tw5757879326385098063:True:=⟨⟩
theorem tw11219745083256131315:True:=⟨⟩
theorem tw15437395954815820817:True:=⟨⟩
theorem tw1729515701723834770:True:=⟨⟩
theorem tw15022021069276355553:True:=⟨⟩
theorem tw287983321512966277:True:=⟨⟩
theorem tw4182889537079084413:True:=⟨⟩
theorem tw7871300473708118160:True:=⟨⟩
theorem tw1538611553835046709:True:=⟨⟩
theorem tw16984572310762154901:True:=⟨⟩
theorem tw9382810041478674425:True:=⟨⟩
theorem tw917788094456997639:True:=⟨⟩
theorem tw15300603108163556215:True:=⟨⟩
theorem tw2998328323639232750:True:=⟨⟩
theorem tw9207608519292850964:True:=⟨⟩
theorem tw13406312691355922438:True:=⟨⟩
theorem tw14600447239908145186:True:=⟨⟩
theorem tw14443207500759153678:True:=⟨⟩
theorem tw14064193375944847847:True:=⟨⟩
theorem tw14649029457773162133:True:=⟨⟩
theorem tw4701460064000991040:True:=⟨⟩
theorem tw4237684806550628706:True:=⟨⟩
theorem tw3862232238554106505:True:=⟨⟩
theorem tw4581211081965809469:True:=⟨⟩
theorem tw9629648866034561202:True:=⟨⟩
theorem tw12674727945367142044:True:=⟨⟩
theorem tw8529597829158615686:True:=⟨⟩
theorem tw14433309297792244334:True:=⟨⟩
theorem tw5552264470377636496:True:=⟨⟩
theorem tw11013172923211179883:True:=⟨⟩
theorem tw5857658484324179046:True:=⟨⟩
theorem tw4166663609800333034:True:=⟨⟩
theorem tw10428111295422632712:True:=⟨⟩
theorem tw14122374004109963912:True:=⟨⟩
theorem tw14356356074363412615:True:=⟨⟩
theorem tw13372068508257175047:True:=⟨⟩
theorem tw12052761032096906654:True:=⟨⟩
theorem tw13640720136616980669:True:=⟨⟩
theorem tw6895415621236314431:True:=⟨⟩
theorem tw16960337747227809672:True:=⟨⟩
theorem tw3540524487326920370:True:=⟨⟩
theorem tw1622278649555814764:True:=⟨⟩
theorem tw3046155391897940606:True:=⟨⟩
theorem tw18424821313823241592:True:=⟨⟩
theorem tw14647614085397526639:True:=⟨⟩
theorem tw11405031901133088710:True:=⟨⟩
theorem tw16989720530765873811:True:=⟨⟩
theorem tw13909432626923537215:True:=⟨⟩
theorem tw16829391504381515326:True:=⟨⟩
theorem tw3432066694866711418:True:=⟨⟩
theorem tw13984088962465276175:True:=⟨⟩
theorem tw6749774334905167813:True:=⟨⟩
theorem tw3693855725102624760:True:=⟨⟩
theorem tw1383818658336676723:True:=⟨⟩
theorem tw16182716550657860581:True:=⟨⟩
theorem tw1930651756093692853:True:=⟨⟩
theorem tw8593987578632079115:True:=⟨⟩
theorem tw2673336555928639549:True:=⟨⟩
theorem tw15329242325555789854:True:=⟨⟩
theorem tw11260220488733745100:True:=⟨⟩
theorem tw5154416750776999052:True:=⟨⟩
theorem tw1222164225243792416:True:=⟨⟩
theorem tw14590407255313884637:True:=⟨⟩
theorem tw143232143898829926:True:=⟨⟩
theorem tw11399479677182086478:True:=⟨⟩
theorem tw15437060163585996819:True:=⟨⟩
theorem tw11400144386278217060:True:=⟨⟩
theorem tw16990510938761200056:True:=⟨⟩
theorem tw11391775642582502141:True:=⟨⟩
theorem tw11427214925384075008:True:=⟨⟩
theorem tw15026096519693403902:True:=⟨⟩
theorem tw11303878970556131240:True:=⟨⟩
end PySem.W.Fast
local macro_rules | `(tactic| walk_at "u") => `(tactic| with_unfolding_all rfl)
namespace L2
open PySem PySem.Spec PyProof.Rows
noncomputable abbrev Key:=Sum Int Str
noncomputable def kE:Key->Value->Bool
 | .inl k,v=>Value.isInt k v
 | .inr x,v=>Value.isStrOf x v
noncomputable def NX (w:World):Key->Int
 | .inl k=>hashInt k
 | .inr x=>hashStr w x
theorem bH:∀ {k:Key} {v:Value},kE k v=true->(∃ i t,k=Ql i/\v=Ur i t)\/(∃ x t,k=Sn x/\v=Uq x t)
 | .inl i,v,h=>by
  obtain ⟨t,e⟩:=Value.isInt_shape (k:=i) (v:=v) h
  exact .inl ⟨i,t,rfl,e⟩
 | .inr x,v,h=>by
  obtain ⟨t,e⟩:=Value.isStrOf_shape (x:=x) (v:=v) h
  exact .inr ⟨x,t,rfl,e⟩
theorem xw (i) (t:Tok):kE (.inl i) (.int i t)=true:=by simp [kE,Value.isInt]
theorem xx (x) (t:Tok):kE (.inr x) (.str x t)=true:=by simp [kE,Value.isStrOf]
theorem HJ (a b):decide ((Ql a:Key)=Ql b)=(a == b):=by
 by_cases e:a=b
 ·subst e; simp
 ·have h:¬ (Ql a:Key)=Ql b:=λq=>e (Ql.inj q)
  rw [decide_eq_false h]
  exact (beq_eq_false_iff_ne.mpr e).symm
theorem HK (a b):decide ((Sn a:Key)=Sn b)=decide (a=b):=by
 by_cases e:a=b
 ·subst e; simp
 ·have h:¬ (Sn a:Key)=Sn b:=λq=>e (Sn.inj q)
  rw [decide_eq_false h,decide_eq_false e]
theorem HL (a) (b):decide ((Ql a:Key)=Sn b)=false:=decide_eq_false (λq=>nomatch q)
theorem HM (a) (b):decide ((Sn a:Key)=Ql b)=false:=decide_eq_false (λq=>nomatch q)
noncomputable def b9 (prog:Program) (w:World):PySem.KeyKind prog w Key where
 is:=kE
 hash:=NX w
 inj:=λv a b ha hb=>by
  rcases bH ha with ⟨i,t,rfl,rfl⟩ | ⟨x,t,rfl,rfl⟩
  ·rcases bH hb with ⟨j,u,rfl,e⟩ | ⟨y,u,rfl,e⟩
   ·injection e with e1 _; rw [e1]
   ·exact nomatch e
  ·rcases bH hb with ⟨j,u,rfl,e⟩ | ⟨y,u,rfl,e⟩
   ·exact nomatch e
   ·injection e with e1 _; rw [e1]
 byValue:=λk v h=>by
  rcases bH h with ⟨i,t,rfl,rfl⟩ | ⟨x,t,rfl,rfl⟩ <;> rfl
 pyHash:=λhv h=>by
  rcases bH hv with ⟨i,t,rfl,rfl⟩ | ⟨x,t,rfl,rfl⟩
  ·exact wpAny_pyHash_int h
  ·exact wpAny_pyHash_str h
 eqBool:=λhu hv h=>by
  rcases bH hu with ⟨i,t,rfl,rfl⟩ | ⟨x,t,rfl,rfl⟩
  ·rcases bH hv with ⟨j,u,rfl,rfl⟩ | ⟨y,u,rfl,rfl⟩
   ·rw [HJ] at h; exact wpAny_eqBool_int h
   ·rw [HL] at h; exact V0 i t y u _ _ _ _ h
  ·rcases bH hv with ⟨j,u,rfl,rfl⟩ | ⟨y,u,rfl,rfl⟩
   ·rw [HM] at h; exact VZ x t j u _ _ _ _ h
   ·rw [HK] at h; exact wpAny_eqBool_str h
 «strs» :=λk x t v h=>by
  rcases bH h with ⟨i,u,rfl,e⟩ | ⟨y,u,rfl,e⟩
  ·exact nomatch e
  ·injection e with e1 _
   subst e1
   cases v <;> rfl
theorem pY (prog) (w) (i) (t:Tok):(b9 prog w).is (.inl i) (.int i t)=true:=xw i t
theorem pZ (prog) (w) (x) (t:Tok):(b9 prog w).is (.inr x) (.str x t)=true:=xx x t
inductive V where
 | non | bl (b:Bool) | int (i:Int) | str (x:Str) | byt (b:Array UInt8) | flt (b:UInt64) | ref (a:Addr) | ty (n:String)
 deriving DecidableEq
noncomputable def RelV:V->Value->Prop
 | .non,u=>u=QG
 | .bl b,u=>u=Value.bool b
 | .int i,u=>∃ t,u=Ur i t
 | .str x,u=>∃ t,u=Uq x t
 | .byt b,u=>∃ t,u=Value.bytes b t
 | .flt b,u=>∃ t,u=Value.float b t
 | .ref a,u=>u=Qk a
 | .ty n,u=>u=Rg n
noncomputable abbrev Vals:List V->List Value->Prop:=Paired RelV
theorem Vals.length (r:Vals xs us):xs.length=us.length:=Rl r
theorem Vals.get:∀ {xs:List V} {us:List Value} {i:Nat} {x:V},Vals xs us->xs[i]?=some x->∃ u,us[i]?=some u/\RelV x u
 | _,_,_,_,.nil,e=>by simp at e
 | _,_,0,_,.cons r _,e=>by simp at e; subst e; exact ⟨_,rfl,r⟩
 | _,_,i+1,x,.cons _ t,e=>by
  obtain ⟨u,h1,h2⟩:=Vals.get (i:=i) (x:=x) t (by simpa using e)
  exact ⟨u,by simpa using h1,h2⟩
theorem Vals.set (r:RelV x u):∀ {xs:List V} {us:List Value} (i:Nat),Vals xs us->Vals (xs.set i x) (us.set i u)
 | _,_,_,.nil=>.nil
 | _,_,0,.cons _ t=>.cons r t
 | _,_,i+1,.cons q t=>.cons q (Vals.set r i t)
theorem Vals.append:∀ {xs ys:List V} {us ws:List Value},Vals xs us->Vals ys ws->Vals (xs++ys) (us++ws)
 | _,_,_,_,.nil,s=>s
 | _,_,_,_,.cons r t,s=>.cons r (Vals.append t s)
theorem Vals.take:∀ {xs:List V} {us:List Value} (n:Nat),Vals xs us->Vals (xs.take n) (us.take n)
 | _,_,0,_=>.nil
 | _,_,_+1,.nil=>.nil
 | _,_,n+1,.cons r t=>.cons r (Vals.take n t)
theorem Vals.drop:∀ {xs:List V} {us:List Value} (n:Nat),Vals xs us->Vals (xs.drop n) (us.drop n)
 | _,_,0,r=>r
 | _,_,_+1,.nil=>.nil
 | _,_,n+1,.cons _ t=>Vals.drop n t
noncomputable def jT:Option V->Option Value->Prop
 | some v,some u=>RelV v u
 | none,none=>True
 | _,_=>False
noncomputable def KV {κ:Type}:List (κ×V)->List (κ×Value)->Prop:=Paired λ(p:κ×V) (q:κ×Value)=>p.1=q.1/\RelV p.2 q.2
noncomputable def kV:Key->V
 | .inl i=>.int i
 | .inr x=>.str x
inductive HO where
 | lst (xs:List V)
 | tup (xs:List V)
 | dK (kvs:List (Key×V)) | dT (kvs:List (List Key×Addr×V))
 | set (S:Int->Bool) (n:Nat)
 | ins (C dx:Addr) (fs:List (Str×V))
 | own (x:Addr)
 | xd (fs:List (Str×V))
 | met (f x:Addr)
 | rng (lo hi:Int)
 | frz (o:Obj) (u:HO)
 | tbl (ps:Array Value)
 | ext (φ :Heap->Prop)
noncomputable abbrev Hp:=Addr->Option HO
noncomputable def upd (H:Hp) (a:Addr) (o:HO):Hp:=λb=>if b=a then some o else H b
theorem ai:upd H a o a=some o:=by unfold upd; rw [if_pos rfl]
theorem ak (h:b≠a):upd H a o b=H b:=by unfold upd; rw [if_neg h]
theorem nV:upd (upd H a o) a u=upd H a u:=by
 funext b; unfold upd; split <;> rfl
theorem aE {H:Hp} (h:H a=some o) (h':H b=none):a≠b:=by
 intro e; subst e; rw [h] at h'; cases h'
section
variable (P:Program) (w:World)
noncomputable def bq (H:Hp) (h:Heap) (a:Addr):HO->Prop
 | .lst xs=>xs.length<=sizeLine/\∃ (its:List Value) (n:Nat),Vals xs its/\h.get? a=some { cls:=.type "list",data:=.seq its.toArray n }
 | .tup xs=>xs.length<=sizeLine/\∃ its:List Value,Vals xs its/\IsTup h a its.toArray
 | .dK kvs=>kvs.length<=sizeLine/\(a == sysModules)=false/\∃ vs,KV kvs vs/\h.DictOf (b9 P w) a vs
 | .dT kvs=>kvs.length<=sizeLine/\(a == sysModules)=false/\∃ xs:List (List Key×Addr×Value),
  Paired (λ(p:List Key×Addr×V) (q:List Key×Addr×Value)=>p.1=q.1/\p.2.1=q.2.1/\RelV p.2.2 q.2.2) kvs xs /\
  ∃ o es ep,h.get? a=some o/\o.ExactDict/\o.data=.dict es ep/\es.toList=xs.map (entryOfKey (tupleKind (b9 P w)))/\(xs.map (·.1)).Nodup
 | .set S n=>h.SetOf (intKind P w) a S n
 | .ins C dx fs=>H dx=some (.own a)/\fs.length<=1000/\dx≠a/\h.get? a=some (PySem.W.instObj C dx) /\
  ∃ mA,h.Ns1 dx mA/\(∀ f,jT (fs.lookup f) (mA f))/\PySem.Within mA (fs.map (·.1))
 | .own _=>∃ o,h.get? a=some o
 | .xd fs=>∃ mA,h.Ns1 a mA/\∀ f,jT (fs.lookup f) (mA f)
 | .rng lo hi=>∃ t u v,h.get? a=some { cls:=.type "range",data:=.fields #[.int lo t,.int hi u,.int 1 v] }
 | .frz o u=>h.get? a=some o/\bq H h a u
 | .tbl ps=>h.get? a=some { cls:=.none,data:=.fields ps }
 | .met f x=>h.get? a=some (V9 (.ref f) (.ref x))
 | .ext φ => φ h/\(∃ o,h.get? a=some o)/\∀ h1 h2:Heap,φ h1->(∀ o,h1.get? a=some o->h2.get? a=some o)-> φ h2
def jm (H:Hp) (h:Heap):Prop:=∀ a o,H a=some o->bq P w H h a o
end
theorem bq.lt (x:bq P w H h a o):a<h.objs.size:=by
 cases o with
 | lst xs=>obtain ⟨_,_,_,_,e⟩:=x; exact P1 e
 | tup xs=>obtain ⟨_,_,_,p⟩:=x; exact p.lt
 | dK kvs=>obtain ⟨_,_,_,_,o,_,_,e,_⟩:=x; exact P1 e
 | dT kvs=>obtain ⟨_,_,_,_,o,_,_,e,_⟩:=x; exact P1 e
 | set S n=>obtain ⟨o,_,_,_,e,_⟩:=x; exact P1 e
 | ins C dx fs=>obtain ⟨_,_,_,e,_⟩:=x; exact P1 e
 | own y=>obtain ⟨_,e⟩:=x; exact P1 e
 | xd fs=>obtain ⟨_,⟨_,_,_,e,_⟩,_⟩:=x; exact P1 e
 | rng lo hi=>obtain ⟨_,_,_,e⟩:=x; exact P1 e
 | frz ob u=>obtain ⟨e,_⟩:=x; exact P1 e
 | tbl ps=>exact P1 (show h.get? a=some _ from x)
 | met f y=>exact P1 (show h.get? a=some _ from x)
 | ext φ =>obtain ⟨_,⟨_,e⟩,_⟩:=x; exact P1 e
theorem Paired.HN:∀ {l₁:List α} {l₂:List β},Paired F l₁ l₂->(∀ a b,F a b->G a b)->Paired G l₁ l₂
 | _,_,.nil,_=>.nil
 | _,_,.cons r t,f=>.cons (f _ _ r) (Paired.HN t f)
theorem bq.stay (x:bq P w H h a o) (k:∀ b u,(b=a\/H b=some (.own a))->h.get? b=some u->h'.get? b=some u)
 (ho:∀ b,H b=some (.own a)->H' b=some (.own a)) (ht:∀ b xs,H b=some (.tup xs)->H' b=some (.tup xs)):bq P w H' h' a o:=by
 induction o with
 | lst xs=>obtain ⟨z,its,n,r,e⟩:=x; exact ⟨z,its,n,r,k _ _ (.inl rfl) e⟩
 | tup xs=>obtain ⟨z,its,r,ob,e,c⟩:=x; exact ⟨z,its,r,ob,k _ _ (.inl rfl) e,c⟩
 | dK kvs=>obtain ⟨z,y,vs,r,ob,es,ep,e,c⟩:=x; exact ⟨z,y,vs,r,ob,es,ep,k _ _ (.inl rfl) e,c⟩
 | dT kvs =>
  obtain ⟨z,y,xs,r,ob,es,ep,e,c⟩:=x
  exact ⟨z,y,xs,r,ob,es,ep,k _ _ (.inl rfl) e,c⟩
 | set S n=>obtain ⟨ob,es,ep,t,e,c⟩:=x; exact ⟨ob,es,ep,t,k _ _ (.inl rfl) e,c⟩
 | ins C dx fs =>
  obtain ⟨d,z,ne,e,mA,⟨od,es,ep,e2,c⟩,r⟩:=x
  exact ⟨ho _ d,z,ne,k _ _ (.inl rfl) e,mA,⟨od,es,ep,k _ _ (.inr d) e2,c⟩,r⟩
 | own y=>obtain ⟨ob,e⟩:=x; exact ⟨ob,k _ _ (.inl rfl) e⟩
 | xd fs=>obtain ⟨mA,⟨od,es,ep,e,c⟩,r⟩:=x; exact ⟨mA,⟨od,es,ep,k _ _ (.inl rfl) e,c⟩,r⟩
 | rng lo hi=>obtain ⟨t,u,v,e⟩:=x; exact ⟨t,u,v,k _ _ (.inl rfl) e⟩
 | frz ob u ih=>obtain ⟨e,q⟩:=x; exact ⟨k _ _ (.inl rfl) e,ih q⟩
 | tbl ps =>
  have e:h.get? a=some { cls:=.none,data:=.fields ps }:=x
  show h'.get? a=some { cls:=.none,data:=.fields ps }
  exact k a _ (.inl rfl) e
 | met f y =>
  have e:h.get? a=some (V9 (.ref f) (.ref y)):=x
  show h'.get? a=some (V9 (.ref f) (.ref y))
  exact k a _ (.inl rfl) e
 | ext φ =>obtain ⟨p,⟨o,e⟩,st⟩:=x; exact ⟨st _ _ p λo q=>k _ _ (.inl rfl) q,⟨o,k _ _ (.inl rfl) e⟩,st⟩
theorem jm.lt (x:jm P w H h) (e:H a=some o):a<h.objs.size:=(x a o e).lt
theorem jm.fresh (x:jm P w H h) (e:h.objs.size<=a):H a=none:=by
 cases q:H a with
 | none=>rfl
 | some u=>exact absurd (QJ (x.lt q) e) (RD _)
theorem jm.kept (x:jm P w H h) (k:∀ b u,h.get? b=some u->h'.get? b=some u):jm P w H h':=λa o e =>
 (x a o e).stay (λb u _ q=>k b u q) (λ_ q=>q) λ_ _ q=>q
theorem jm.laid (x:jm P w H h) (k:∀ b u,h.get? b=some u->h'.get? b=some u) (hp:h.objs.size<=a) (new:bq P w (upd H a o) h' a o):jm P w (upd H a o) h':=λb u e=>by
 have hn:=x.fresh hp
 by_cases hb:b=a
 ·subst hb; rw [ai] at e; cases e; exact new
 ·rw [ak hb] at e
  exact (x b u e).stay (λc v _ q=>k c v q) (λc q=>by rw [ak (aE q hn)]; exact q) λc xs q=>by rw [ak (aE q hn)]; exact q
def Rd (H:Hp) (a:Addr) (u:HO):Prop:=H a=some u\/∃ o,H a=some (.frz o u)
theorem Rd.ok (r:Rd H a u) (x:jm P w H h):bq P w H h a u:=by
 rcases r with r | ⟨o,r⟩
 ·exact x a u r
 ·obtain ⟨_,q⟩:=x a _ r
  exact q
noncomputable def Lp:Option HO->Prop
 | some (.lst _)=>True
 | some (.dK _)=>True
 | some (.dT _)=>True
 | some (.set _ _)=>True
 | some (.ins _ _ _)=>True
 | some (.ext _)=>True
 | _=>False
theorem jm.write (ok:jm P w H h) (mu:Lp (H x)) (he:e=x\/H e=some (.own x)) (k:∀ b u,b≠e->h.get? b=some u->h'.get? b=some u) (heo:∃ u,h'.get? e=some u)
 (new:bq P w (upd H x o') h' x o'):jm P w (upd H x o') h':=λb u q=>by
 have nown:∀ c y,H c=some (.own y)->c≠x:=λc y r z=>by subst z; rw [r] at mu; exact mu
 have ntup:∀ c xs,H c=some (.tup xs)->c≠x:=λc xs r z=>by subst z; rw [r] at mu; exact mu
 by_cases hb:b=x
 ·subst hb; rw [ai] at q; cases q; exact new
 ·rw [ak hb] at q
  by_cases hbe:b=e
  ·have q':H b=some (.own x):=by
    rcases he with z | z
    ·exact absurd (hbe.trans z) hb
    ·rw [hbe]; exact z
   rw [q] at q'; cases q'
   obtain ⟨v,hv⟩:=heo
   exact ⟨v,by rw [hbe]; exact hv⟩
  ·refine (ok b u q).stay (λc v hc r=>k c v ?_ r) (λc r=>by rw [ak (nown c b r)]; exact r) λc xs r=>by rw [ak (ntup c xs r)]; exact r
   rcases hc with rfl | hc
   ·exact hbe
   ·rintro rfl
    rcases he with z | z
    ·exact nown c b hc z
    ·rw [hc] at z; cases z; exact hb rfl
structure Un (fs ex:List Addr) (H H':Hp) (h h':Heap):Prop where
 keep:∀ b o,h.get? b=some o->H b=none->b∉fs->b∉ex->h'.get? b=some o
 slot:∀ b o,h.get? b=some o->H b=none->b∈fs->b∉ex->∃ sl,h'.get? b=some { o with slots:=sl }
 free:∀ b o,h.get? b=some o->H b=none->b∉ex->H' b=none
 there:∀ b o,h.get? b=some o->b∉ex->∃ o',h'.get? b=some o'
 tups:∀ b xs,H b=some (.tup xs)->H' b=some (.tup xs)
 frzs:∀ b o u,H b=some (.frz o u)->H' b=some (.frz o u)
 tbls:∀ b ps,H b=some (.tbl ps)->∃ more,H' b=some (.tbl (ps++more))
section
variable {fs fs' ex ex':List Addr} {H H1 H2:Hp} {h h1 h2 h':Heap} {a x e:Addr} {o:HO}
theorem Un.any (u:Un fs ex H H1 h h1) (q:h.get? b=some ob) (n:H b=none) (hx:b∉ex):∃ sl,h1.get? b=some { ob with slots:=sl }:=by
 by_cases hb:b∈fs
 ·exact u.slot b ob q n hb hx
 ·exact ⟨ob.slots,u.keep b ob q n hb hx⟩
theorem Un.kept (k:∀ b u,h.get? b=some u->h'.get? b=some u):Un fs ex H H h h' :=
 ⟨λb ob q _ _ _=>k b ob q,λb ob q _ _ _=>⟨ob.slots,k b ob q⟩,λ_ _ _ n _=>n,λb ob q _=>⟨ob,k b ob q⟩,λ_ _ q=>q,λ_ _ _ q=>q,λ_ ps q=>⟨#[],by rw [q]; simp⟩⟩
theorem Un.refl:Un fs ex H H h h:=Un.kept λ_ _ q=>q
theorem Un.laid (k:∀ b u,h.get? b=some u->h'.get? b=some u) (hp:h.objs.size<=a) (hn:H a=none):Un fs ex H (upd H a o) h h' where
 keep:=λb u q _ _ _=>k b u q
 slot:=λb u q _ _ _=>⟨u.slots,k b u q⟩
 free:=λb u q n _=>by rw [ak (Qu (QJ (P1 q) hp))]; exact n
 there:=λb u q _=>⟨u,k b u q⟩
 tups:=λb xs q=>by rw [ak (aE q hn)]; exact q
 frzs:=λb u xs q=>by rw [ak (aE q hn)]; exact q
 tbls:=λb ps q=>⟨#[],by rw [ak (aE q hn),q]; simp⟩
theorem Un.write (mu:Lp (H x)) (he:e=x\/H e=some (.own x)) (k:∀ b u,b≠e->h.get? b=some u->h'.get? b=some u) (heo:∃ u,h'.get? e=some u):Un fs ex H (upd H x o) h h':=by
 have hx:∀ b,H b=none->b≠x:=λb n z=>by subst z; rw [n] at mu; exact mu
 have hb:∀ b,H b=none->b≠e:=λb n z=>by
  subst z
  rcases he with r | r
  ·exact hx b n r
  ·rw [n] at r; cases r
 have hm:∀ b u,H b=some u->¬ Lp (some u)->b≠x:=λb u q nm z=>by subst z; rw [q] at mu; exact nm mu
 refine ⟨λb u q n _ _=>k b u (hb b n) q,λb u q n _ _=>⟨u.slots,k b u (hb b n) q⟩,λb u q n _=>by rw [ak (hx b n)]; exact n,λb u q _=>?_,
  λb xs q=>by rw [ak (hm b _ q λz=>z)]; exact q,λb u xs q=>by rw [ak (hm b _ q λz=>z)]; exact q,λb ps q=>⟨#[],by rw [ak (hm b _ q λz=>z),q]; simp⟩⟩
 by_cases hbe:b=e
 ·subst hbe; exact heo
 ·exact ⟨u,k b u hbe q⟩
end
noncomputable def Nz (h:Heap) (H:Hp):List Addr:=(QC h.objs.size).filter λa=>(H a).isSome
noncomputable def nW (h:Heap) (H:Hp):Heap:=PySem.W.hideAll h (Nz h H)
theorem xy (h) (H):(nW h H).objs.size=h.objs.size:=PySem.W.hideAll_size _ _
theorem zD (e:h.get? b=some o) (n:H b=none):(nW h H).get? b=some o :=
 PySem.W.hideAll_get _ e λhm=>by
  have q:(H b).isSome=true:=(T7.mp hm).2
  rw [n] at q; simp at q
theorem DP (e:(nW h H).get? b=some o):h.get? b=some o/\H b=none:=by
 have e':h.get? b=some o:=PySem.W.of_hideAll (Nz h H) e
 refine ⟨e',?_⟩
 cases q:H b with
 | none=>rfl
 | some x =>
  have hm:b∈Nz h H:=T7.mpr ⟨Vf.mpr (P1 e'),by simp [q]⟩
  have z:(nW h H).get? b=none:=PySem.W.hideAll_none (Nz h H) hm
  rw [z] at e; cases e
structure Mod (K:PN) (mg:Str->Option Value) (base:Heap):Prop where
 kin:K.In base
 glob:base.Ns mainGlobals mg
 blt:∃ mb,base.Ns builtinsNs mb/\∀ x:Str,x≠"__name__"->mb x=bootBuiltins x
 nolimit:base.NoLimit
set_option genInjectivity false in
structure Cx where
 prog:Program
 w:World
 K:PN
 mg:Str->Option Value
 base:Heap
 A:Around
 N:List Str
 s₀:Shared
 H₀:Hp
 env:Env
 outer:List Env
 stack:List Env
 ex:List Addr
 fn:Str->Bool
 calm:Bool
 pn:List (Addr×Obj)
 xe:Value->Shared->Prop
noncomputable def frs (l:List Env):List Addr:=l.filterMap (·.frame)
noncomputable abbrev Cx.fs (X:Cx):List Addr:=frs X.outer
def NY (sc:Scope) (x:Str):Prop:=sc.names.lookup x=some .local\/sc.names.lookup x=some .cell\/sc.names.lookup x=some .free
def Loc (sc:Scope) (x:Str):Prop:=sc.names.lookup x=some .local\/sc.names.lookup x=some .cell
def Look (env:Env) (h:Heap) (m:Str->Option Value) (x:Str) (u:Value):Prop :=
 (env.kindOf x=some .local/\m x=some u)\/((env.kindOf x=some .cell\/env.kindOf x=some .free)/\∃ c,env.cells.lookup x=some c/\h.IsCell c (some u))
structure Cx.Ok (X:Cx):Prop where
 mod:Mod X.K X.mg X.base
 kind:X.env.scope.kind=.function
 glob:X.env.globals=mainGlobals
 blt:X.env.builtins=builtinsNs
 above:X.s₀.heap.objs.size<=X.env.locals
 inj:∀ x y c,X.env.cells.lookup x=some c->X.env.cells.lookup y=some c->x=y
 has:∀ x,(X.env.kindOf x=some .cell\/X.env.kindOf x=some .free)->∃ c,X.env.cells.lookup x=some c
 cab:∀ x c,X.fn x=true->X.env.cells.lookup x=some c->X.s₀.heap.objs.size<=c
 hd:X.calm=true->X.A.handled=none
 frames:X.A.frames=some X.stack
 stk:X.stack=X.outer\/(X.stack=X.env::X.outer/\X.env.frame=some X.env.locals)
 exf:∀ b∈X.ex,b≠X.env.locals/\∀ x c,X.env.cells.lookup x=some c->c≠b
 bs:∀ b o,X.base.get? b=some o->X.s₀.heap.get? b=some o/\X.H₀ b=none
 bsz:X.base.objs.size<=X.s₀.heap.objs.size
 noex:∀ b o,X.base.get? b=some o->b∉X.ex
 exfs:∀ b∈X.ex,b∉X.fs
 jo:X.s₀.heap.FunFrames X.base X.outer
 frf:∀ b∈X.fs,X.H₀ b=none
structure Inv (X:Cx) (aa:List (Addr×Obj)) (σ:List (Option V)) (H:Hp) (s:Shared):Prop where
 ok:X.Ok
 os:s.os=X.s₀.os
 bare:AllBare s.gens
 base:Un X.fs X.ex X.H₀ H X.s₀.heap s.heap
 loc:∃ m,s.heap.Ns X.env.locals m/\∀ (i:Nat) (x:Str) (v:V),X.N[i]?=some x->σ[i]?=some (some v)->NY X.env.scope x->∃ u,RelV v u/\Look X.env s.heap m x u
 cell:∀ x c,X.env.cells.lookup x=some c->∃ v,s.heap.IsCell c v
 free:H X.env.locals=none
 freeC:∀ x c,X.env.cells.lookup x=some c->H c=none
 pin:∀ p∈X.pn++aa,s.heap.get? p.1=some p.2/\H p.1=none/\p.1≠X.env.locals/\p.1∉X.fs/\∀ v,p.2.data≠.cell v
 hok:jm X.prog X.w H s.heap
 len:σ.length=X.N.length
section
variable {X:Cx}
theorem Cx.Ok.NZ (ok:X.Ok) (e:X.base.get? b=some o):b∉X.fs:=λhb=>by
 have:=(ok.jo.mem hb).1
 rw [e] at this; cases this
theorem Inv.bs (I:Inv X aa σ H s):∀ b o,X.base.get? b=some o->s.heap.get? b=some o/\H b=none:=λb o e =>
 ⟨I.base.keep b o (I.ok.bs b o e).1 (I.ok.bs b o e).2 (I.ok.NZ e) (I.ok.noex b o e),I.base.free b o (I.ok.bs b o e).1 (I.ok.bs b o e).2 (I.ok.noex b o e)⟩
theorem Inv.bk (I:Inv X aa σ H s):∀ b o,X.base.get? b=some o->s.heap.get? b=some o:=λb o e=>(I.bs b o e).1
theorem Inv.mod (I:Inv X aa σ H s):Mod X.K X.mg X.base:=I.ok.mod
theorem Inv.l8 (I:Inv X aa σ H s):X.K.In s.heap:=I.ok.mod.kin.keeps I.bk
theorem Inv.lt (I:Inv X aa σ H s):X.env.locals<s.heap.objs.size:=let ⟨_,hn,_⟩:=I.loc; hn.lt
theorem Inv.sz (I:Inv X aa σ H s):X.s₀.heap.objs.size<=s.heap.objs.size:=P7 I.ok.above (Sg I.lt)
theorem Inv.Lq (I:Inv X aa σ H s) (h:s.heap.objs.size<=a):a∉X.fs:=λhb=>by
 obtain ⟨_,o,ho,_⟩:=I.ok.jo.mem hb
 exact absurd (QJ (P1 ho) (P7 I.sz h)) (RD _)
theorem Inv.HP (I:Inv X aa σ H s):∀ x c,X.env.cells.lookup x=some c->c≠X.env.locals:=λx c e z=>by
 obtain ⟨v,o,ho,hd⟩:=I.cell x c e
 obtain ⟨m,⟨o',es,ep,ho',hd',_⟩,_⟩:=I.loc
 rw [z,ho'] at ho; cases ho; rw [hd'] at hd; cases hd
theorem Inv.jo (I:Inv X aa σ H s):s.heap.FunFrames X.base X.outer:=by
 have all:∀ (l:List Env),(∀ b∈frs l,b∈X.fs)->X.s₀.heap.FunFrames X.base l->s.heap.FunFrames X.base l:=by
  intro l
  induction l with
  | nil=>intro _ _; trivial
  | cons env r ih =>
   intro hs hl
   obtain ⟨hk,⟨L,o,hf,hn,ho,hd⟩,hr⟩:=hl
   have hL:L∈X.fs:=hs L (by unfold frs; rw [Rn,hf]; exact P4)
   obtain ⟨sl,e⟩:=I.base.slot L o ho (I.ok.frf L hL) hL λz=>I.ok.exfs L z hL
   exact ⟨hk,⟨L,_,hf,hn,e,hd⟩,ih (λb hb=>hs b (by unfold frs; rw [Rn,hf]; exact P9 _ hb)) hr⟩
 exact all X.outer (λ_ hb=>hb) I.ok.jo
theorem Inv.stack (I:Inv X aa σ H s):s.heap.FunFrames X.base X.stack:=by
 rcases I.ok.stk with e | ⟨e,hf⟩
 ·rw [e]; exact I.jo
 ·rw [e]
  obtain ⟨m,hn,_⟩:=I.loc
  refine .cons (by rw [I.ok.kind]; decide) hf hn ?_ I.jo
  exact Heap.get?_none_of_le (P7 I.ok.bsz I.ok.above)
theorem Inv.sJ (I:Inv X aa σ H s):∀ b∈frs X.stack,b∈X.env.locals::X.fs:=λb hb=>by
 rcases I.ok.stk with e | ⟨e,hf⟩
 ·rw [e] at hb; exact P9 _ hb
 ·rw [e] at hb
  unfold frs at hb
  rw [Rn,hf] at hb
  exact hb
theorem Inv.uN (I:Inv X aa σ H s):∀ b∈frs X.stack,H b=none:=λb hb=>by
 rcases P8.mp (I.sJ b hb) with e | hb
 ·rw [e]; exact I.free
 ·obtain ⟨_,o,ho,_⟩:=I.ok.jo.mem hb
  exact I.base.free b o ho (I.ok.frf b hb) λz=>I.ok.exfs b z hb
theorem Inv.step {ch:List Addr} (I:Inv X aa σ H s)
 (hch:∀ b∈ch,(b∈X.ex\/X.s₀.heap.objs.size<=b)/\b≠X.env.locals/\(∀ x c,X.env.cells.lookup x=some c->c≠b)/\∀ p∈X.pn++aa,p.1≠b)
 (keep:∀ b o,b≠X.env.locals->b∉X.fs->b∉ch->s.heap.get? b=some o->H b=none->h'.get? b=some o)
 (slot:∀ b o,b≠X.env.locals->b∈X.fs->b∉ch->s.heap.get? b=some o->H b=none->∃ sl,h'.get? b=some { o with slots:=sl }) (free:∀ b o,b∉ch->s.heap.get? b=some o->H b=none->H' b=none)
 (there:∀ b o,b∉ch->s.heap.get? b=some o->∃ o',h'.get? b=some o')
 (tups:∀ b xs,H b=some (.tup xs)->H' b=some (.tup xs)) (frzs:∀ b o u,H b=some (.frz o u)->H' b=some (.frz o u)) (tbls:∀ b ps,H b=some (.tbl ps)->∃ more,H' b=some (.tbl (ps++more)))
 (ns:∀ m,s.heap.Ns X.env.locals m->h'.Ns X.env.locals m) (hok:jm X.prog X.w H' h') (hg:AllBare g') :
 Inv X aa σ H' { s with heap:=h',gens:=g',drawn:=d',toks:=t' }:=by
 have neL:∀ b o,X.s₀.heap.get? b=some o->b≠X.env.locals:=λb o e=>Qu (QJ (P1 e) I.ok.above)
 have neC:∀ b o,X.s₀.heap.get? b=some o->b∉X.ex->b∉ch:=λb o e hx hb=>by
  rcases (hch b hb).1 with z | z
  ·exact hx z
  ·exact absurd (QJ (P1 e) z) (RD _)
 have cellK:∀ x c,X.env.cells.lookup x=some c->∀ v,s.heap.IsCell c v->h'.IsCell c v:=λx c e v ⟨o,ho,hd⟩=>by
  have nch:c∉ch:=λz=>(hch c z).2.2.1 x c e rfl
  by_cases hc:c∈X.fs
  ·obtain ⟨sl,q⟩:=slot c o (I.HP x c e) hc nch ho (I.freeC x c e)
   exact ⟨_,q,hd⟩
  ·exact ⟨o,keep c o (I.HP x c e) hc nch ho (I.freeC x c e),hd⟩
 refine ⟨I.ok,I.os,hg,⟨λb o e n hb hx=>?_,λb o e n hb hx=>?_,λb o e n hx=>?_,λb o e hx=>?_,λb xs e=>tups b xs (I.base.tups b xs e),λb o xs e=>frzs b o xs (I.base.frzs b o xs e),λb ps e=>?_⟩,?_,λx c e=>?_,?_,λx c e=>?_,λp hp=>?_,hok,I.len⟩
 ·exact keep b o (neL b o e) hb (neC b o e hx) (I.base.keep b o e n hb hx) (I.base.free b o e n hx)
 ·obtain ⟨sl,e1⟩:=I.base.slot b o e n hb hx
  obtain ⟨sl',e2⟩:=slot b _ (neL b o e) hb (neC b o e hx) e1 (I.base.free b o e n hx)
  exact ⟨sl',e2⟩
 ·obtain ⟨o',e1⟩:=I.base.there b o e hx
  exact free b o' (neC b o e hx) e1 (I.base.free b o e n hx)
 ·obtain ⟨o',e1⟩:=I.base.there b o e hx
  exact there b o' (neC b o e hx) e1
 ·obtain ⟨m1,e1⟩:=I.base.tbls b ps e
  obtain ⟨m2,e2⟩:=tbls b _ e1
  exact ⟨m1++m2,by rw [e2,Array.append_assoc]⟩
 ·obtain ⟨m,hn,hl⟩:=I.loc
  refine ⟨m,ns m hn,λi x v e1 e2 e3=>?_⟩
  obtain ⟨u,r,l⟩:=hl i x v e1 e2 e3
  refine ⟨u,r,?_⟩
  rcases l with l | ⟨k,c,e,z⟩
  ·exact .inl l
  ·exact .inr ⟨k,c,e,cellK x c e _ z⟩
 ·obtain ⟨v,z⟩:=I.cell x c e
  exact ⟨v,cellK x c e v z⟩
 ·obtain ⟨m,⟨o,_,_,ho,_⟩,_⟩:=I.loc
  exact free _ o (λz=>(hch _ z).2.1 rfl) ho I.free
 ·obtain ⟨v,o,ho,hd⟩:=I.cell x c e
  exact free c o (λz=>(hch c z).2.2.1 x c e rfl) ho (I.freeC x c e)
 ·obtain ⟨e,n,ne,nf,d⟩:=I.pin p hp
  have nch:p.1∉ch:=λz=>(hch p.1 z).2.2.2 p hp rfl
  exact ⟨keep p.1 p.2 ne nf nch e n,free p.1 p.2 nch e n,ne,nf,d⟩
theorem Inv.un (I:Inv X aa σ H s) (u:Un X.fs [] H H' s.heap h') (hok:jm X.prog X.w H' h'):Inv X aa σ H' { s with heap:=h',toks:=t' }:=by
 obtain ⟨m,⟨o,es,ep,ho,r⟩,_⟩:=id I.loc
 obtain ⟨sl,hL⟩:=u.any ho I.free (by simp)
 exact I.step (g':=s.gens) (d':=s.drawn) (ch:=[]) (λ_ z=>nomatch z) (λb o _ hb _ e n=>u.keep b o e n hb (by simp)) (λb o _ hb _ e n=>u.slot b o e n hb (by simp)) (λb o _ e n=>u.free b o e n (by simp)) (λb o _ e=>u.there b o e (by simp)) u.tups u.frzs u.tbls (λm' hm=>by
  obtain ⟨o',es',ep',ho',r'⟩:=hm
  rw [ho] at ho'; cases ho'
  exact ⟨_,es',ep',hL,r'⟩) hok I.bare
theorem Inv.call (I:Inv X aa σ H s) (u:Un (frs X.stack) ch H H' s.heap h') (hok:jm X.prog X.w H' h') (hg:AllBare g')
 (hch:∀ b∈ch,(b∈X.ex\/X.s₀.heap.objs.size<=b)/\b≠X.env.locals/\(∀ x c,X.env.cells.lookup x=some c->c≠b)/\∀ p∈X.pn++aa,p.1≠b) :
 Inv X aa σ H' { s with heap:=h',gens:=g',drawn:=d',toks:=t' }:=by
 obtain ⟨m,⟨o,es,ep,ho,r⟩,_⟩:=id I.loc
 obtain ⟨sl,hL⟩:=u.any ho I.free λz=>(hch _ z).2.1 rfl
 exact I.step (ch:=ch) hch (λb o hL hb hc e n=>u.keep b o e n (λz=>(P8.mp (I.sJ b z)).elim hL hb) hc) (λb o _ _ hc e n=>u.any e n hc) (λb o hc e n=>u.free b o e n hc) (λb o hc e=>u.there b o e hc) u.tups u.frzs u.tbls (λm' hm=>by
  obtain ⟨o',es',ep',ho',r'⟩:=hm
  rw [ho] at ho'; cases ho'
  exact ⟨_,es',ep',hL,r'⟩) hok hg
theorem Inv.turned (I:Inv X aa σ H s) (k:∀ b o,b≠it->s.heap.get? b=some o->h'.get? b=some o) (hn:H it=none) (hL:it≠X.env.locals)
 (h1:it∈X.ex\/X.s₀.heap.objs.size<=it) (h2:∀ x c,X.env.cells.lookup x=some c->c≠it) (h3:∀ p∈X.pn++aa,p.1≠it):Inv X aa σ H { s with heap:=h',toks:=t' }:=by
 have nit:∀ b u,H b=some u->b≠it:=λb u e z=>by rw [z,hn] at e; cases e
 refine I.step (g':=s.gens) (d':=s.drawn) (ch:=[it]) (λb hb=>?_) (λb o _ _ hc e _=>k b o (λz=>hc (by simp [z])) e) (λb o _ _ hc e _=>⟨o.slots,k b o (λz=>hc (by simp [z])) e⟩) (λ_ _ _ _ n=>n)
  (λb o hc e=>⟨o,k b o (λz=>hc (by simp [z])) e⟩) (λ_ _ e=>e) (λ_ _ _ e=>e) (λb ps e=>⟨#[],by rw [e]; simp⟩) (λm hm=>?_) (λb u e=>?_) I.bare
 ·have e:b=it:=by simpa using hb
  subst e
  exact ⟨h1,hL,h2,h3⟩
 ·obtain ⟨o,es,ep,ho,r⟩:=hm
  exact ⟨o,es,ep,k _ o (Qp hL) ho,r⟩
 ·refine (I.hok b u e).stay (λc v hc q=>k c v ?_ q) (λ_ q=>q) λ_ _ q=>q
  rcases hc with z | z
  ·rw [z]; exact nit b u e
  ·exact nit c _ z
theorem Inv.tok (I:Inv X aa σ H s) (t):Inv X aa σ H { s with toks:=t }:=I.un (h':=s.heap) (t':=t) Un.refl I.hok
theorem Inv.kept (I:Inv X aa σ H s) (k:∀ b u,s.heap.get? b=some u->h'.get? b=some u):Inv X aa σ H { s with heap:=h',toks:=t' }:=I.un (Un.kept k) (I.hok.kept k)
theorem Inv.laid (I:Inv X aa σ H s) (k:∀ b u,s.heap.get? b=some u->h'.get? b=some u) (hp:s.heap.objs.size<=a) (new:bq X.prog X.w (upd H a o) h' a o) :
 Inv X aa σ (upd H a o) { s with heap:=h',toks:=t' }:=I.un (Un.laid k hp (I.hok.fresh hp)) (I.hok.laid k hp new)
theorem Inv.write (I:Inv X aa σ H s) (mu:Lp (H x)) (he:e=x\/H e=some (.own x)) (k:∀ b u,b≠e->s.heap.get? b=some u->h'.get? b=some u) (heo:∃ u,h'.get? e=some u)
 (new:bq X.prog X.w (upd H x o) h' x o):Inv X aa σ (upd H x o) { s with heap:=h',toks:=t' }:=I.un (Un.write mu he k heo) (I.hok.write mu he k heo new)
theorem Inv.uO (I:Inv X aa σ H s) (h:∀ p∈pins',s.heap.get? p.1=some p.2/\H p.1=none/\p.1≠X.env.locals/\p.1∉X.fs/\∀ v,p.2.data≠.cell v):Inv X pins' σ H s :=
 ⟨I.ok,I.os,I.bare,I.base,I.loc,I.cell,I.free,I.freeC,λp hp=>(Qq.mp hp).elim (λz=>I.pin p (R8 _ z)) (h p),I.hok,I.len⟩
theorem p5 {N:List Str} (hN:N.Nodup) {i j:Nat} (a:N[i]?=some x) (b:N[j]?=some x):i=j:=by
 obtain ⟨h1,e1⟩:=Qa.mp a
 obtain ⟨h2,e2⟩:=Qa.mp b
 exact (List.getElem_inj hN).mp (e1.trans e2.symm)
theorem xA (I:Inv X aa σ H s) (hN:X.N.Nodup) (hi:X.N[i]?=some x) (hx:Loc X.env.scope x) (r:RelV v u)
 (h:∀ s',Inv X aa (σ.set i (some v)) H s'->(∃ a,Rk a s.heap s'.heap/\(a=X.env.locals\/X.env.cells.lookup x=some a))->Q () s') (hf:X.fn x=true\/X.env.scope.names.lookup x=some .local:=by first | exact .inl rfl | exact .inr rfl | assumption):wpAny M A (storeName X.env x u) Q E s:=by
 obtain ⟨m,hn,hl⟩:=id I.loc
 have hcls:(X.env.scope.kind == .class || (X.env.scope.kind == .module && X.env.locals != X.env.globals))=false:=by rw [I.ok.kind]; rfl
 have hiσ:i<σ.length:=by rw [I.len]; exact (Qa.mp hi).1
 have HP:=I.HP
 have tracked:∀ {a:Addr} {h':Heap},(∃ o,s.heap.get? a=some o/\H a=none)->Rk a s.heap h'->jm X.prog X.w H h':=λ{a h'} ha hs b ob e=>by
  obtain ⟨_,_,hfree⟩:=ha
  refine (I.hok b ob e).stay (λc w' hc q=>(hs.2 c ?_).trans q) (λ_ q=>q) λ_ _ q=>q
  rintro rfl
  rcases hc with rfl | hc
  ·rw [hfree] at e; cases e
  ·rw [hfree] at hc; cases hc
 rcases hx with hk | hk
 ·refine wpAny_storeName_local hk hn (λh' hn' hs=>?_) hcls
  obtain ⟨oL,_,_,hoL,_⟩:=id hn
  refine h _ ⟨I.ok,I.os,I.bare,⟨λb o e n hb hx=>?_,λb o e n hb hx=>?_,I.base.free,λb o e hx=>?_,I.base.tups,I.base.frzs,I.base.tbls⟩,⟨_,hn',λj y v' e1 e2 e3=>?_⟩,λy c e=>?_,I.free,I.freeC,λp hp=>?_,tracked ⟨oL,hoL,I.free⟩ hs,by simpa using I.len⟩ ⟨_,hs,.inl rfl⟩
  ·exact (hs.2 b (Qu (QJ (P1 e) I.ok.above))).trans (I.base.keep b o e n hb hx)
  ·obtain ⟨sl,e1⟩:=I.base.slot b o e n hb hx
   exact ⟨sl,(hs.2 b (Qu (QJ (P1 e) I.ok.above))).trans e1⟩
  ·obtain ⟨o',e1⟩:=I.base.there b o e hx
   exact ⟨o',(hs.2 b (Qu (QJ (P1 e) I.ok.above))).trans e1⟩
  ·by_cases hj:j=i
   ·subst hj
    rw [hi] at e1; cases e1
    rw [Rh hiσ] at e2
    cases e2
    exact ⟨u,r,.inl ⟨hk,by simp⟩⟩
   ·rw [Ri (Qp hj)] at e2
    obtain ⟨u',r',q⟩:=hl j y v' e1 e2 e3
    refine ⟨u',r',?_⟩
    rcases q with ⟨k,e⟩ | ⟨k,c,e,z⟩
    ·refine .inl ⟨k,?_⟩
     have:y≠x:=λe=>hj (p5 hN e1 (e ▸ hi))
     simp [this,e]
    ·exact .inr ⟨k,c,e,z.sameBut hs (HP y c e)⟩
  ·obtain ⟨w',z⟩:=I.cell y c e
   exact ⟨w',z.sameBut hs (HP y c e)⟩
  ·obtain ⟨e,n,ne,nf,d⟩:=I.pin p hp
   exact ⟨(hs.2 p.1 ne).trans e,n,ne,nf,d⟩
 ·have hfn:X.fn x=true:=by
   rcases hf with z | z
   ·exact z
   ·rw [z] at hk; cases hk
  obtain ⟨c,hc⟩:=I.ok.has x (.inl hk)
  obtain ⟨w',z⟩:=I.cell x c hc
  refine wpAny_storeName_cell I.ok.kind hk hc z (λh' hc' hs=>?_)
  obtain ⟨oc,hoc,hocd⟩:=id z
  refine h { s with heap:=h' } ⟨I.ok,I.os,I.bare,⟨λb o e n hb hx=>?_,λb o e n hb hx=>?_,I.base.free,λb o e hx=>?_,I.base.tups,I.base.frzs,I.base.tbls⟩,⟨m,hn.sameBut hs (Qp (HP x c hc)),λj y v' e1 e2 e3=>?_⟩,λy c' e=>?_,I.free,I.freeC,λp hp=>?_,tracked ⟨oc,hoc,I.freeC x c hc⟩ hs,by simpa using I.len⟩ ⟨c,hs,.inr hc⟩
  ·exact (hs.2 b (Qu (QJ (P1 e) (I.ok.cab x c hfn hc)))).trans (I.base.keep b o e n hb hx)
  ·obtain ⟨sl,e1⟩:=I.base.slot b o e n hb hx
   exact ⟨sl,(hs.2 b (Qu (QJ (P1 e) (I.ok.cab x c hfn hc)))).trans e1⟩
  ·obtain ⟨o',e1⟩:=I.base.there b o e hx
   exact ⟨o',(hs.2 b (Qu (QJ (P1 e) (I.ok.cab x c hfn hc)))).trans e1⟩
  ·by_cases hj:j=i
   ·subst hj
    rw [hi] at e1; cases e1
    rw [Rh hiσ] at e2
    cases e2
    exact ⟨u,r,.inr ⟨.inl hk,c,hc,hc'⟩⟩
   ·rw [Ri (Qp hj)] at e2
    obtain ⟨u',r',q⟩:=hl j y v' e1 e2 e3
    refine ⟨u',r',?_⟩
    rcases q with q | ⟨k,c',e,z'⟩
    ·exact .inl q
    ·refine .inr ⟨k,c',e,z'.sameBut hs ?_⟩
     rintro rfl
     exact hj (p5 hN e1 (I.ok.inj _ _ _ e hc ▸ hi))
  ·by_cases hcc:c'=c
   ·subst hcc; exact ⟨_,hc'⟩
   ·obtain ⟨w2,z2⟩:=I.cell y c' e
    exact ⟨w2,z2.sameBut hs hcc⟩
  ·obtain ⟨e,n,ne,nf,d⟩:=I.pin p hp
   refine ⟨(hs.2 p.1 ?_).trans e,n,ne,nf,d⟩
   intro q
   rw [q,hoc] at e
   have q':oc=p.2:=RA e
   exact d w' (by rw [<- q']; exact hocd)
theorem kF (I:Inv X aa σ H s) (hN:X.N.Nodup) (hi:X.N[i]?=some x) (hx:Loc X.env.scope x) (r:RelV v u)
 (h:∀ s',Inv X aa (σ.set i (some v)) H s'->Q () s') (hf:X.fn x=true\/X.env.scope.names.lookup x=some .local:=by first | exact .inl rfl | exact .inr rfl | assumption):wpAny M A (storeName X.env x u) Q E s :=
 xA I hN hi hx r (λs' I' _=>h s' I') hf
theorem Inv.GB (I:Inv X aa σ H s) (ho:s'.os=s.os) (u:Un (frs X.stack) ch H H' s.heap s'.heap) (hok:jm X.prog X.w H' s'.heap) (hg:AllBare s'.gens)
 (hch:∀ b∈ch,(b∈X.ex\/X.s₀.heap.objs.size<=b)/\b≠X.env.locals/\(∀ x c,X.env.cells.lookup x=some c->c≠b)/\∀ p∈X.pn++aa,p.1≠b):Inv X aa σ H' s':=by
 obtain ⟨h',g',d',t',o'⟩:=s'
 have e:o'=s.os:=ho
 subst e
 exact I.call (g':=g') (t':=t') (d':=d') u hok hg hch
end
noncomputable abbrev XK:=Value->Option Addr->Hp->Prop
noncomputable abbrev St:=List (Option V)
noncomputable abbrev VK:=V->Hp->Prop
noncomputable abbrev TE:=St->Hp->VK->Prop
noncomputable abbrev TT:=St->Hp->(Bool->Hp->Prop)->Prop
noncomputable abbrev TA:=St->Hp->(List V->Hp->Prop)->Prop
set_option genInjectivity false in
structure Ends where
 nx:St->Hp->Prop
 rt:VK
 bk:St->Hp->Prop:=λ_ _=>False
 ct:St->Hp->Prop:=λ_ _=>False
noncomputable abbrev TS:=Ends->St->Hp->Prop
def EP (X:Cx) (aa:List (Addr×Obj)) (σ:St) (Q:VK) (u:Value) (s':Shared):Prop:=∃ v H',Inv X aa σ H' s'/\RelV v u/\Q v H'
def TP (X:Cx) (aa:List (Addr×Obj)) (σ:St) (Q:Bool->Hp->Prop) (b:Bool) (s':Shared):Prop:=∃ H',Inv X aa σ H' s'/\Q b H'
def AP (X:Cx) (aa:List (Addr×Obj)) (σ:St) (Q:List V->Hp->Prop) (us:List Value) (s':Shared):Prop:=∃ vs H',Inv X aa σ H' s'/\Vals vs us/\Q vs H'
def SP (X:Cx) (aa:List (Addr×Obj)) (D:Ends) (f:Flow) (s':Shared):Prop :=
 match f with
 | .next=>∃ σ' H',Inv X aa σ' H' s'/\D.nx σ' H'
 | .brk=>∃ σ' H',Inv X aa σ' H' s'/\D.bk σ' H'
 | .cont=>∃ σ' H',Inv X aa σ' H' s'/\D.ct σ' H'
 | .ret u=>∃ v σ' H',Inv X aa σ' H' s'/\RelV v u/\D.rt v H'
def PE (X:Cx) (e:Expr) (t:TE):Prop :=
 ∀ (aa:List (Addr×Obj)) (s:Shared) (σ:St) (H:Hp) (Q:VK),Inv X aa σ H s->t σ H Q->wpAny (model X.prog X.w) X.A (eval e X.env) (EP X aa σ Q) X.xe s
def PT (X:Cx) (e:Expr) (t:TT):Prop :=
 ∀ (aa:List (Addr×Obj)) (s:Shared) (σ:St) (H:Hp) (Q:Bool->Hp->Prop),Inv X aa σ H s->t σ H Q->wpAny (model X.prog X.w) X.A (isTrue e X.env (eval e X.env)) (TP X aa σ Q) X.xe s
def PW (X:Cx) (e:Expr) (t:TT):Prop :=
 ∀ (whole:Sem Value) (aa:List (Addr×Obj)) (s:Shared) (σ:St) (H:Hp) (Q:Bool->Hp->Prop),Inv X aa σ H s->t σ H Q->wpAny (model X.prog X.w) X.A (isTrue e X.env whole) (TP X aa σ Q) X.xe s
def PA (X:Cx) (es:List Expr) (t:TA):Prop :=
 ∀ (pos:Pos) (aa:List (Addr×Obj)) (s:Shared) (σ:St) (H:Hp) (Q:List V->Hp->Prop),Inv X aa σ H s->t σ H Q->wpAny (model X.prog X.w) X.A (spliced (backTo pos (starEach es X.env))) (AP X aa σ Q) X.xe s
def PS (X:Cx) (st:Stmt) (t:TS):Prop :=
 ∀ (aa:List (Addr×Obj)) (s:Shared) (σ:St) (H:Hp) (D:Ends),Inv X aa σ H s->t D σ H->wpAny (model X.prog X.w) X.A (exec st X.env) (SP X aa D) X.xe s
def sH (X:Cx) (st:List Stmt) (t:TS):Prop :=
 ∀ (aa:List (Addr×Obj)) (s:Shared) (σ:St) (H:Hp) (D:Ends),Inv X aa σ H s->t D σ H->wpAny (model X.prog X.w) X.A (execs st X.env) (SP X aa D) X.xe s
theorem bz (h:wpAny M A t Q E s) (hQ:∀ a s,Q a s->Q' a s):wpAny M A t Q' E s:=QL h hQ λ_ _ x=>x
section
noncomputable def Lr (i:Nat):TE:=λσ H Q=>∃ v,σ[i]?=some (some v)/\Q v H
noncomputable def tC (v:V):TE:=λ_ H Q=>Q v H
theorem sL (hN:X.N[i]?=some x) (hv:NY X.env.scope x) (hd:(x == ("__debug__":Str))=false:=by decide) (hcd:(x == ("__classdict__":Str))=false:=by decide):PE X (.Name x pos) (Lr i):=by
 intro aa s σ H Q I h
 obtain ⟨v,e,h⟩:=h
 obtain ⟨m,hn,hl⟩:=I.loc
 obtain ⟨u,r,l⟩:=hl i x v hN e hv
 have fin:EP X aa σ Q u s:=⟨v,H,I,r,h⟩
 rcases l with ⟨hk,hm⟩ | ⟨hk,c,hc,hcell⟩
 ·exact wpAny_Name (wpAny_loadName_local I.ok.kind hk hn hm fin) hd
 ·rcases hk with hk | hk
  ·exact wpAny_Name (wpAny_loadName_cell I.ok.kind hk hc hcell fin) hd
  ·exact wpAny_Name (wpAny_loadName_free I.ok.kind hk hc hcell fin hcd) hd
theorem zE {i j pos}:PE X (.Constant (.int i) j pos) (tC (.int i)):=λ_ _ _ H _ I h=>wpAny_Constant_int ⟨.int i,H,I.tok _,⟨_,rfl⟩,h⟩
theorem GC {b j pos}:PE X (.Constant (.bool b) j pos) (tC (.bl b)):=λ_ _ _ H _ I h=>Constant_bool ⟨.bl b,H,I,rfl,h⟩
def Gl (X:Cx) (x:Str):Prop:=X.env.kindOf x=some .globalImplicit
theorem gJ (I:Inv X aa σ H s) (hg:Gl X x) (hm:X.mg x=some u) (h:Q u s)
 (hd:(x == ("__debug__":Str))=false:=by decide):wpAny (model X.prog X.w) X.A (eval (.Name x pos) X.env) Q E s :=
 Calls.Name_function_global I.ok.kind hg (Calls.loadGlobal_global (by rw [I.ok.glob]; exact I.mod.glob.keeps I.bk) hm h) hd
theorem dz (I:Inv X aa σ H s) (hg:Gl X x) (hm:X.mg x=none) (hv:bootBuiltins x=some u) (h:Q u s)
 (hn:x≠"__name__":=by decide) (hd:(x == ("__debug__":Str))=false:=by decide):wpAny (model X.prog X.w) X.A (eval (.Name x pos) X.env) Q E s:=by
 obtain ⟨mb,h1,h2⟩:=I.mod.blt
 exact Calls.Name_function_global I.ok.kind hg (Calls.loadGlobal_builtin (by rw [I.ok.glob]; exact I.mod.glob.keeps I.bk) hm (by rw [I.ok.blt]; exact h1.keeps I.bk) ((h2 x hn).trans hv) h) hd
theorem uP (hg:Gl X x) (hm:X.mg x=some u) (r:RelV v u) (hd:(x == ("__debug__":Str))=false:=by decide):PE X (.Name x pos) (tC v) :=
 λ_ _ _ H _ I h=>gJ I hg hm ⟨v,H,I,r,h⟩ hd
def PC (X:Cx) (op:CmpOp) (a b:Expr) (t:TE):Prop :=
 ∀ (aa:List (Addr×Obj)) (s:Shared) (σ:St) (H:Hp) (Q:VK),Inv X aa σ H s->t σ H Q ->
  wpAny (model X.prog X.w) X.A (eval a X.env) (λv s₁=>wpAny (model X.prog X.w) X.A (eval b X.env) (λu s₂=>wpAny (model X.prog X.w) X.A (compareOp op v u) (EP X aa σ Q) X.xe s₂) X.xe s₁) X.xe s
noncomputable def tB (t:TE):TT:=λσ H Q=>t σ H λx H1=>∃ c,x=.bl c/\Q c H1
theorem HQ (h:PC X op a b t) (h1:behindInMarks op b=false:=by first | exact nobehind _ (by decide) (by decide) | rfl):PT X (.Compare a [op] [b] pos) (tB t):=by
 intro aa s σ H Q I hw
 refine wpAny_isTrue_Compare1 (bz (h aa s σ H _ I hw) λv s1 h1=>bz h1 λu s2 h2=>bz h2 λc s3 ⟨x,H1,I1,r1,q1⟩=>?_) h1
 obtain ⟨d,rfl,q⟩:=q1
 cases r1
 exact TX ⟨H1,I1,q⟩
theorem HR (h:PE X e t) (he:∀ whole,isTrue e X.env whole=(do let v <- whole; standAt e.pos; holding [v] (truthy v)):=by intro _; rfl):PT X e (tB t):=by
 intro aa s σ H Q I hw
 refine isTrue_plain (bz (h aa s σ H _ I hw) λv s1 ⟨x,H1,I1,r1,q1⟩=>?_) (he _)
 obtain ⟨d,rfl,q⟩:=q1
 cases r1
 exact TX ⟨H1,I1,q⟩
variable {rest:List Expr}
noncomputable def N3 (t u:TT):TT:=λσ H Q=>t σ H λc H1=>if c=true then u σ H1 Q else Q false H1
noncomputable def Pk (t u:TT):TT:=λσ H Q=>t σ H λc H1=>if c=true then Q true H1 else u σ H1 Q
noncomputable def N4 (t:TT):TT:=λσ H Q=>t σ H λc H1=>Q (!c) H1
theorem pw_and1 (ha:PT X a tA):PW X (.BoolOp .And [a] pos) tA:=by
 intro wh aa s σ H Q I h
 refine isTrue_and (bz (ha aa s σ H Q I h) λc s1 e=>?_)
 cases c with
 | true=>exact isTrue_and_nil e
 | false=>exact e
theorem pw_or1 (ha:PT X a tA):PW X (.BoolOp .Or [a] pos) tA:=by
 intro wh aa s σ H Q I h
 refine isTrue_or (bz (ha aa s σ H Q I h) λc s1 e=>?_)
 cases c with
 | false=>exact isTrue_or_nil e
 | true=>exact e
theorem pw_and (ha:PT X a tA) (hb:PW X (.BoolOp .And (b::rest) pos) tB'):PW X (.BoolOp .And (a::b::rest) pos) (N3 tA tB'):=by
 intro wh aa s σ H Q I h
 refine isTrue_and (bz (ha aa s σ H _ I h) λc s1 ⟨H1,I1,q1⟩=>?_)
 cases c with
 | true=>exact hb wh aa s1 σ H1 Q I1 q1
 | false=>exact ⟨H1,I1,q1⟩
theorem pw_or (ha:PT X a tA) (hb:PW X (.BoolOp .Or (b::rest) pos) tB'):PW X (.BoolOp .Or (a::b::rest) pos) (Pk tA tB'):=by
 intro wh aa s σ H Q I h
 refine isTrue_or (bz (ha aa s σ H _ I h) λc s1 ⟨H1,I1,q1⟩=>?_)
 cases c with
 | true=>exact ⟨H1,I1,q1⟩
 | false=>exact hb wh aa s1 σ H1 Q I1 q1
theorem HU (ha:PT X a tA):PT X (.UnaryOp .Not a pos) (N4 tA):=by
 intro aa s σ H Q I h
 exact isTrue_not (ha aa s σ H (λc H1=>Q (!c) H1) I h)
noncomputable def Lu (ta tb:TE):TE:=λσ H Q=>ta σ H λx H1=>∃ c,x=.bl c/\if c=true then tb σ H1 Q else Q (.bl false) H1
theorem HV {op} (h:PE X a t):PE X (.BoolOp op [a] pos) t:=λaa s σ H Q I hw=>BoolOp_one (h aa s σ H Q I hw)
theorem HW (ha:PE X a ta) (hb:PE X (.BoolOp .And (b::rest) pos) tb):PE X (.BoolOp .And (a::b::rest) pos) (Lu ta tb):=by
 intro aa s σ H Q I h
 refine BoolOp_and (bz (ha aa s σ H _ I h) λv s1 ⟨x,H1,I1,r1,q1⟩=>?_)
 obtain ⟨c,rfl,q1⟩:=q1
 cases r1
 refine TX ?_
 cases c with
 | true=>exact hb aa s1 σ H1 Q I1 q1
 | false=>exact ⟨.bl false,H1,I1,rfl,q1⟩
noncomputable def Pn (t:TT) (ta tb:TE):TE:=λσ H Q=>t σ H λc H1=>if c=true then ta σ H1 Q else tb σ H1 Q
theorem zF (hc:PT X c tA) (ha:PE X a ta) (hb:PE X b tb):PE X (.IfExp c a b pos) (Pn tA ta tb):=by
 intro aa s σ H Q I h
 refine wpAny_IfExp (bz (hc aa s σ H _ I h) λd s1 ⟨H1,I1,q1⟩=>?_)
 cases d with
 | true=>exact ha aa s1 σ H1 Q I1 q1
 | false=>exact hb aa s1 σ H1 Q I1 q1
end
def f7 (K:PN) (H:Hp) (a:Addr) (xs:List V):Prop :=
 Rd H a (.lst xs) \/
  ∃ (o:Obj) (its:Array Value) (n:Nat),K.lookup a=some o/\o.cls=.type "list"/\o.dict=none/\o.data=.seq its n/\its.size<=sizeLine/\Vals xs its.toList
def cU (K:PN) (H:Hp) (a:Addr) (xs:List V):Prop :=
 Rd H a (.tup xs) \/
  ∃ (o:Obj) (its:Array Value) (n:Nat),K.lookup a=some o/\o.cls=.type "tuple"/\o.data=.seq its n/\its.size<=sizeLine/\Vals xs its.toList
noncomputable def N5:Value->Option V
 | .none=>some .non
 | .bool b=>some (.bl b)
 | .int i _=>some (.int i)
 | .str x _=>some (.str x)
 | .bytes b _=>some (.byt b)
 | .float b _=>some (.flt b)
 | .ref a=>some (.ref a)
 | .type n=>some (.ty n)
 | _=>none
theorem RelV.abs (r:RelV x u):N5 u=some x:=by
 cases x with
 | non=>cases r; rfl
 | bl _=>cases r; rfl
 | int _=>obtain ⟨t,rfl⟩:=r; rfl
 | str _=>obtain ⟨t,rfl⟩:=r; rfl
 | byt _=>obtain ⟨t,rfl⟩:=r; rfl
 | flt _=>obtain ⟨t,rfl⟩:=r; rfl
 | ref _=>cases r; rfl
 | ty _=>cases r; rfl
theorem RelV.inj (r:RelV x u) (q:RelV y u):x=y:=RA (r.abs.symm.trans q.abs)
theorem Vals.inj:∀ {xs ys:List V} {us:List Value},Vals xs us->Vals ys us->xs=ys
 | _,_,_,.nil,.nil=>rfl
 | _,_,_,.cons r t,.cons r' t'=>by rw [r.inj r',Vals.inj t t']
theorem Inv.list (I:Inv X aa σ H s) (h:f7 X.K H a xs):∃ its:List Value,Vals xs its/\PlainL s.heap a its.toArray/\xs.length<=sizeLine:=by
 rcases h with h | ⟨o,its,n,hk,hc,hd,hs,hz,r⟩
 ·obtain ⟨z,its,n,r,e⟩:=h.ok I.hok
  exact ⟨its,r,⟨_,n,e,rfl,rfl,rfl⟩,z⟩
 ·refine ⟨its.toList,r,⟨o,n,I.l8 a o hk,hc,hd,by simpa using hs⟩,?_⟩
  have e:=r.length
  simp only [QS] at e
  lia
theorem Inv.tuple (I:Inv X aa σ H s) (h:cU X.K H a xs):∃ its:List Value,Vals xs its/\IsTup s.heap a its.toArray/\xs.length<=sizeLine:=by
 rcases h with h | ⟨o,its,n,hk,hc,hs,hz,r⟩
 ·obtain ⟨z,its,r,p⟩:=h.ok I.hok
  exact ⟨its,r,p,z⟩
 ·refine ⟨its.toList,r,⟨o,I.l8 a o hk,hc,n,by simpa using hs⟩,?_⟩
  have e:=r.length
  simp only [QS] at e
  lia
theorem Inv.p6 (I:Inv X aa σ H s) (h:f7 X.K H a xs) (h':f7 X.K H a ys):xs=ys:=by
 obtain ⟨its,r,⟨o,n,e,_,_,d⟩,_⟩:=I.list h
 obtain ⟨its',r',⟨o',n',e',_,_,d'⟩,_⟩:=I.list h'
 rw [e] at e'; cases e'
 rw [d] at d'
 injection d' with d1 _
 have:its=its':=by simpa using congrArg Array.toList d1
 subst this
 exact r.inj r'
theorem Inv.gK (I:Inv X aa σ H s) (h:cU X.K H a xs) (h':cU X.K H a ys):xs=ys:=by
 obtain ⟨its,r,⟨o,e,_,n,d⟩,_⟩:=I.tuple h
 obtain ⟨its',r',⟨o',e',_,n',d'⟩,_⟩:=I.tuple h'
 rw [e] at e'; cases e'
 rw [d] at d'
 injection d' with d1 _
 have:its=its':=by simpa using congrArg Array.toList d1
 subst this
 exact r.inj r'
noncomputable abbrev Cx.l9 (X:Cx) (E:Value->Shared->Prop):Cx:={ X with xe:=E }
noncomputable abbrev Cx.GD (X:Cx):Cx:=X.l9 λ_ _=>False
theorem Cx.Ok.l9 {X:Cx} (ok:X.Ok) (E):(X.l9 E).Ok :=
 ⟨ok.mod,ok.kind,ok.glob,ok.blt,ok.above,ok.inj,ok.has,ok.cab,ok.hd,ok.frames,ok.stk,ok.exf,ok.bs,ok.bsz,ok.noex,ok.exfs,ok.jo,ok.frf⟩
theorem Cx.Ok.f9 {X:Cx} (ok:(X.l9 E).Ok):X.Ok :=
 ⟨ok.mod,ok.kind,ok.glob,ok.blt,ok.above,ok.inj,ok.has,ok.cab,ok.hd,ok.frames,ok.stk,ok.exf,ok.bs,ok.bsz,ok.noex,ok.exfs,ok.jo,ok.frf⟩
theorem Inv.l9 (I:Inv X aa σ H s) (E):Inv (X.l9 E) aa σ H s:=⟨I.ok.l9 E,I.os,I.bare,I.base,I.loc,I.cell,I.free,I.freeC,I.pin,I.hok,I.len⟩
theorem Inv.f9 (I:Inv (X.l9 E) aa σ H s):Inv X aa σ H s:=⟨I.ok.f9,I.os,I.bare,I.base,I.loc,I.cell,I.free,I.freeC,I.pin,I.hok,I.len⟩
theorem SP.f9 (h:SP (X.l9 E) aa D f s'):SP X aa D f s':=by
 cases f with
 | next=>obtain ⟨σ',H',I,q⟩:=h; exact ⟨σ',H',I.f9,q⟩
 | brk=>obtain ⟨σ',H',I,q⟩:=h; exact ⟨σ',H',I.f9,q⟩
 | cont=>obtain ⟨σ',H',I,q⟩:=h; exact ⟨σ',H',I.f9,q⟩
 | ret u=>obtain ⟨v,σ',H',I,r,q⟩:=h; exact ⟨v,σ',H',I.f9,r,q⟩
theorem sH.GD {st:List Stmt} (h:sH X.GD st t):sH X st t:=λaa s σ H D I hw =>
 QL (h aa s σ H D (I.l9 _) hw) (λ_ _ q=>q.f9) λ_ _ z=>QM z
section
variable {st:Stmt} {rest:List Stmt}
noncomputable def Lv:TS:=λD σ H=>D.nx σ H
noncomputable def N6 (t u:TS):TS:=λD σ H=>t { D with nx:=u D } σ H
theorem DQ:sH X [] Lv:=λ_ _ σ H _ I h=>wpAny_execs_nil ⟨σ,H,I,h⟩
theorem zG (h1:PS X st t) (h2:sH X rest u):sH X (st::rest) (N6 t u):=by
 intro aa s σ H D I h
 refine wpAny_execs_cons (bz (h1 aa s σ H { D with nx:=u D } I h) λf s1 q=>?_)
 cases f with
 | next =>
  obtain ⟨σ',H',I',q⟩:=q
  exact h2 aa s1 σ' H' D I' q
 | ret v=>exact q
 | brk=>exact q
 | cont=>exact q
theorem Inv.quiet (I:Inv X aa σ H s):interactive X.env=false:=by simp [interactive,I.ok.kind]
noncomputable def Lw (te:TE):TS:=λD σ H=>te σ H λ_ H1=>D.nx σ H1
theorem iL (he:PE X e te) (hs:swapsWith e none pos.line X.env=pure false:=by rfl):PS X (.Expr e pos) (Lw te):=by
 intro aa s σ H D I h
 exact wpAny_Expr_any (bz (he aa s σ H _ I h) λv s1 ⟨x,H1,I1,r1,q1⟩=>⟨σ,H1,I1,q1⟩) I.quiet hs
noncomputable def N7 (te:TE):TS:=λD σ H=>te σ H D.rt
theorem zH (he:PE X e te):PS X (.Return (some e) pos) (N7 te):=by
 intro aa s σ H D I h
 exact wpAny_Return_some (bz (he aa s σ H _ I h) λv s1 ⟨x,H1,I1,r1,q1⟩=>⟨x,σ,H1,I1,r1,q1⟩)
noncomputable def N8 (c:TT) (t u:TS):TS:=λD σ H=>c σ H λb H1=>if b=true then t D σ H1 else u D σ H1
theorem Lx (hc:PT X c tc) (ha:sH X a t) (hb:sH X b u):PS X (.If c a b pos) (N8 tc t u):=by
 intro aa s σ H D I h
 refine wpAny_If (bz (hc aa s σ H _ I h) λd s1 ⟨H1,I1,q1⟩=>?_)
 cases d with
 | true=>exact ha aa s1 σ H1 D I1 q1
 | false=>exact hb aa s1 σ H1 D I1 q1
end
noncomputable abbrev TG:=V->St->Hp->(St->Hp->Prop)->Prop
noncomputable abbrev Ly:=List V->St->Hp->(St->Hp->Prop)->Prop
def PG (X:Cx) (target:Expr) (t:TG):Prop :=
 ∀ (aa:List (Addr×Obj)) (s:Shared) (σ:St) (H:Hp) (v:V) (u:Value) (Q:St->Hp->Prop),Inv X aa σ H s->RelV v u->t v σ H Q ->
  wpAny (model X.prog X.w) X.A (assign target X.env u) (λ_ s'=>∃ σ' H',Inv X aa σ' H' s'/\Q σ' H') X.xe s
def Lc (X:Cx) (ts:List Expr) (t:Ly):Prop :=
 ∀ (aa:List (Addr×Obj)) (s:Shared) (σ:St) (H:Hp) (vs:List V) (us:List Value) (Q:St->Hp->Prop),Inv X aa σ H s->Vals vs us->t vs σ H Q ->
  wpAny (model X.prog X.w) X.A (assignInOrder ((assignEach ts X.env).map (·.2)) us) (λ_ s'=>∃ σ' H',Inv X aa σ' H' s'/\Q σ' H') X.xe s
noncomputable abbrev HX:=V->V->V->Hp->(Hp->Prop)->Prop
def Lz (X:Cx) (t:HX):Prop :=
 ∀ (aa:List (Addr×Obj)) (s:Shared) (σ:St) (H:Hp) (o i v:V) (ov iv u:Value) (Q:Hp->Prop),Inv X aa σ H s->RelV o ov->RelV i iv->RelV v u->t o i v H Q ->
  wpAny (model X.prog X.w) X.A (setItem ov iv u) (λ_ s'=>∃ H',Inv X aa σ H' s'/\Q H') X.xe s
noncomputable abbrev O3:=V->V->Hp->VK->Prop
def O4 (X:Cx) (op:Operator) (t:O3):Prop :=
 ∀ (aa:List (Addr×Obj)) (s:Shared) (σ:St) (H:Hp) (x y:V) (v u:Value) (Q:VK),Inv X aa σ H s->RelV x v->RelV y u->t x y H Q ->
  wpAny (model X.prog X.w) X.A (inplaceOp op v u) (EP X aa σ Q) X.xe s
noncomputable def GF (i:Nat):TG:=λv σ H Q=>Q (σ.set i (some v)) H
theorem nX (hN:X.N.Nodup) (hi:X.N[i]?=some x) (hx:Loc X.env.scope x) (hf:X.fn x=true\/X.env.scope.names.lookup x=some .local:=by first | exact .inl rfl | exact .inr rfl | assumption):PG X (.Name x pos) (GF i):=by
 intro aa s σ H v u Q I r h
 exact wpAny_assign_Name (kF I hN hi hx r (λs' I'=>⟨_,H,I',h⟩) hf)
noncomputable def N9:Ly:=λvs σ H Q=>vs=[]/\Q σ H
noncomputable def LA (t:TG) (u:Ly):Ly:=λvs σ H Q=>∃ v r,vs=v::r/\t v σ H λσ' H'=>u r σ' H' Q
theorem DR:Lc X [] N9:=by
 intro aa s σ H vs us Q I r h
 obtain ⟨e,h⟩:=h
 subst e
 cases r
 exact assignInOrder_nil ⟨σ,H,I,h⟩
theorem zI (h1:PG X e t) (h2:Lc X es u)
 (hs:(assignEach (e::es) X.env).map (·.2)=assign e X.env::(assignEach es X.env).map (·.2):=by rfl):Lc X (e::es) (LA t u):=by
 intro aa s σ H vs us Q I r h
 obtain ⟨v,vr,e1,h⟩:=h
 subst e1
 cases r with
 | cons r rr =>
  rw [hs]
  refine assignInOrder_cons (bz (h1 aa s σ H _ _ _ I r h) λ_ s1 ⟨σ1,H1,I1,q1⟩=>?_)
  exact h2 aa s1 σ1 H1 _ _ Q I1 rr q1
noncomputable def Oa (K:PN) (n:Nat) (t:Ly):TG:=λv σ H Q=>∃ a xs,v=.ref a/\cU K H a xs/\xs.length=n/\t xs σ H Q
theorem HY (hc:X.calm=true) (h:Lc X es t)
 (hn:(assignEach es X.env).length=n:=by rfl) (hst:(assignEach es X.env).findIdx? (·.1)=none:=by rfl):PG X (.Tuple es k pos) (Oa X.K n t):=by
 intro aa s σ H v u Q I r hw
 obtain ⟨a,xs,e1,hq,hl,hw⟩:=hw
 subst e1
 cases r
 obtain ⟨its,rv,ht,hz⟩:=I.tuple hq
 refine assign_Tuple_tuple (I.ok.hd hc) ht (by simp [hn,<- hl,rv.length]) hst λh' hx=>?_
 have I1:Inv X aa σ H { s with heap:=h' }:=I.kept (t':=s.toks) λb o e=>hx b o (Qu (P1 e)) e
 exact h aa _ σ H xs _ Q I1 (by simpa using rv) hw
noncomputable def Ob (to ti:TE) (t:HX):TG:=λv σ H Q=>to σ H λo H1=>ti σ H1 λi H2=>t o i v H2 λH3=>Q σ H3
theorem HZ (ho:PE X o to) (hi:PE X i ti) (hs:Lz X t)
 (ha:∀ v,assign (.Subscript o i pos) X.env v=(do
   let ov <- holding [v] (eval o X.env)
   let iv <- holding [v,ov] (eval i X.env)
   standAt pos
   holding [v,ov,iv] (setItem ov iv v)
   release [v,ov,iv] []):=by intro _; rfl):PG X (.Subscript o i pos) (Ob to ti t):=by
 intro aa s σ H v u Q I r h
 rw [ha]
 refine PK (Rb (bz (ho aa s σ H _ I h) λov s1 ⟨x,H1,I1,r1,q1⟩=>?_))
 refine PK (Rb (bz (hi aa s1 σ H1 _ I1 q1) λiv s2 ⟨y,H2,I2,r2,q2⟩=>?_))
 refine PK (wpAny_standAt (PK (Rb (bz (hs aa s2 σ H2 x y v ov iv u _ I2 r1 r2 r q2) λ_ s3 ⟨H3,I3,q3⟩=>?_))))
 exact wpAny_release ⟨σ,H3,I3,q3⟩
noncomputable def LB (te:TE) (g:TG):TS:=λD σ H=>te σ H λx H1=>g x σ H1 D.nx
theorem Ia (he:PE X e te) (hg:PG X tg g) (hs:swapsWithSole [tg] e pos.line X.env=pure false:=by rfl) (hw:swappedStores [tg] e X.env=pure none:=by rfl)
 (h1:(assignEach [tg] X.env).map (·.2)=[assign tg X.env]:=by rfl):PS X (.Assign [tg] e pos) (LB te g):=by
 intro aa s σ H D I h
 refine wpAny_Assign_stores (bz (he aa s σ H _ I h) λv s1 ⟨x,H1,I1,r1,q1⟩=>?_) hs hw
 rw [h1]
 exact bz (hg aa s1 σ H1 x v _ I1 r1 q1) λ_ s2 q=>q
theorem zJ (hN:X.N.Nodup) (hi:X.N[i]?=some x) (hx:Loc X.env.scope x) (he:PE X e te) (hs:swapsWith e (some (.Name x pos')) pos.line X.env=pure false:=by rfl) (hf:X.fn x=true\/X.env.scope.names.lookup x=some .local:=by first | exact .inl rfl | exact .inr rfl | assumption) :
 PS X (.Assign [.Name x pos'] e pos) (LB te (GF i)):=by
 intro aa s σ H D I h
 refine wpAny_Assign_Name (bz (he aa s σ H _ I h) λv s1 ⟨y,H1,I1,r1,q1⟩=>?_) hs
 exact kF I1 hN hi hx r1 (λs2 I2=>⟨_,H1,I2,q1⟩) hf
noncomputable def Oc (i:Nat) (te:TE) (ti:O3):TS:=λD σ H=>∃ x,σ[i]?=some (some x)/\te σ H λy H1=>ti x y H1 λz H2=>D.nx (σ.set i (some z)) H2
theorem Ib (hN:X.N.Nodup) (hi:X.N[i]?=some x) (hx:Loc X.env.scope x) (he:PE X e te) (ho:O4 X op ti) (hf:X.fn x=true\/X.env.scope.names.lookup x=some .local:=by first | exact .inl rfl | exact .inr rfl | assumption) :
 PS X (.AugAssign (.Name x pos') op e pos) (Oc i te ti):=by
 intro aa s σ H D I h
 obtain ⟨v,e1,h⟩:=h
 obtain ⟨m,hn,hl⟩:=I.loc
 have vis:NY X.env.scope x:=by rcases hx with k | k; exact .inl k; exact .inr (.inl k)
 obtain ⟨u,r,l⟩:=hl i x v hi e1 vis
 refine wpAny_AugAssign_Name ?_
 have go:wpAny (model X.prog X.w) X.A (eval e X.env) (λw s₂=>wpAny (model X.prog X.w) X.A (inplaceOp op u w) (λr s₃=>wpAny (model X.prog X.w) X.A (storeName X.env x r) (λ_=>SP X aa D .next) X.xe s₃) X.xe s₂) X.xe s:=by
  refine bz (he aa s σ H _ I h) λw s1 ⟨y,H1,I1,r1,q1⟩=>?_
  refine bz (ho aa s1 σ H1 v y u w _ I1 r r1 q1) λz s2 ⟨zv,H2,I2,r2,q2⟩=>?_
  exact kF I2 hN hi hx r2 (λs3 I3=>⟨_,H2,I3,q2⟩) hf
 rcases l with ⟨hk,hm⟩ | ⟨hk,c,hc,hcell⟩
 ·exact wpAny_loadName_local I.ok.kind hk hn hm go
 ·rcases hk with hk | hk
  ·exact wpAny_loadName_cell I.ok.kind hk hc hcell go
  ·rcases hx with k | k
   ·have:X.env.scope.names.lookup x=some .free:=hk
    rw [k] at this; cases this
   ·have:X.env.scope.names.lookup x=some .free:=hk
    rw [k] at this; cases this
noncomputable def Ic (c:TT) (tb:TS):TS:=λD σ H=>∃ W:Nat->St->Hp->Prop,(∃ m,W m σ H)/\∀ m σ H,W m σ H ->
 c σ H λb H1=>if b=true then ∃ N:St->Hp->Prop,(∀ σ' H',N σ' H'->∃ m',m'<m/\W m' σ' H')/\tb { D with nx:=N,ct:=N,bk:=D.nx } σ H1 else D.nx σ H1
theorem zK (hp:PassesOwn (model X.prog X.w) X.A X.env X.xe) (hc:PT X c tc) (hb:sH X body tb):PS X (.While c body [] pos) (Ic tc tb):=by
 intro aa s σ H D I h
 obtain ⟨W,⟨m0,w0⟩,turn⟩:=h
 refine wpAny_While (codeAny_whileLoop (λn s'=>∃ σ' H',Inv X aa σ' H' s'/\W n σ' H') ?_ m0 ⟨σ,H,I,w0⟩)
 rintro n s1 ⟨σ1,H1,I1,w1⟩
 refine SE hp (bz (hc aa s1 σ1 H1 _ I1 (turn n σ1 H1 w1)) λb s2 ⟨H2,I2,q2⟩=>?_)
 cases b with
 | true =>
  obtain ⟨N,hN,q2⟩:=q2
  rw [if_pos rfl]
  refine SE hp (bz (hb aa s2 σ1 H2 _ I2 q2) λf s3 q3=>?_)
  cases f with
  | next =>
   obtain ⟨σ3,H3,I3,n3⟩:=q3
   obtain ⟨m',hm,w3⟩:=hN σ3 H3 n3
   exact ⟨m',hm,σ3,H3,I3,w3⟩
  | cont =>
   obtain ⟨σ3,H3,I3,n3⟩:=q3
   obtain ⟨m',hm,w3⟩:=hN σ3 H3 n3
   exact ⟨m',hm,σ3,H3,I3,w3⟩
  | brk=>exact q3
  | ret v=>exact q3
 | false =>
  rw [if_neg P5]
  exact wpAny_execs_nil ⟨σ1,H2,I2,q2⟩
set_option genInjectivity false in
structure It where
 go:Nat->Hp->Prop
 yld:Nat->Hp->V->Hp->Prop
 stop:Nat->Hp->Prop
def eO (X:Cx) (aa:List (Addr×Obj)) (H:Hp) (b:Addr):Prop :=
 H b=none/\b≠X.env.locals/\b∉X.fs/\(b∈X.ex\/X.s₀.heap.objs.size<=b)/\(∀ x c,X.env.cells.lookup x=some c->c≠b)/\∀ p∈X.pn++aa,p.1≠b
theorem Inv.kG (I:Inv X aa σ H s) (hb:s.heap.objs.size<=b) (hn:H' b=none):eO X aa H' b:=by
 refine ⟨hn,Sf (QJ I.lt hb),I.Lq hb,.inr (P7 I.sz hb),λx c e z=>?_,λp hp z=>?_⟩
 ·obtain ⟨v,q⟩:=I.cell x c e
  exact absurd (QJ q.lt (by rw [z]; exact hb)) (RD _)
 ·exact absurd (QJ (P1 (I.pin p hp).1) (by rw [z]; exact hb)) (RD _)
structure Turn (P:Program) (w:World) (K:PN) (tg:Expr) (J:It) (fp:List Addr) (it:Addr) (tn:Nat->Heap->Prop):Prop where
 mem:it∈fp
 obj:∀ i h,tn i h->∀ b∈fp,∃ o,h.get? b=some o/\∀ v,o.data≠.cell v
 keep:∀ i h h',tn i h->(∀ b∈fp,∀ o,h.get? b=some o->h'.get? b=some o)->tn i h'
 item:∀ (X:Cx),X.prog=P->X.w=w->X.K=K->X.calm=true->∀ (i:Nat) (aa:List (Addr×Obj)) (s:Shared) (σ:St) (H:Hp) (E:Value->Shared->Prop),Inv X aa σ H s->(∀ b∈fp,eO X aa H b)->tn i s.heap->J.go i H ->
  wpAny (model P w) X.A (pyNext (.ref it)) (λr s1=>∃ u,r=some u /\
   wpAny (model P w) X.A (letOwnedTupleGo tg (.ref it) u) (λ_ s2=>∃ x H',Inv X aa σ H' s2/\RelV x u/\J.yld i H x H'/\tn (i+1) s2.heap/\∀ b∈fp,H' b=none) E s1) E s
 done:∀ (X:Cx),X.prog=P->X.w=w->X.K=K->X.calm=true->∀ (i:Nat) (aa:List (Addr×Obj)) (s:Shared) (σ:St) (H:Hp) (E:Value->Shared->Prop),Inv X aa σ H s->(∀ b∈fp,eO X aa H b)->tn i s.heap->J.stop i H ->
  wpAny (model P w) X.A (pyNext (.ref it)) (λr s1=>r=none/\Inv X aa σ H s1) E s
 self:∀ (A:Around) (i:Nat) (s:Shared) (Q:Value->Shared->Prop) (E:Value->Shared->Prop),tn i s.heap->Q (.ref it) s->wpAny (model P w) A (pyIter (.ref it)) Q E s
noncomputable abbrev TI:=St->Hp->(It->Hp->Prop)->Prop
def Od (X:Cx) (aa:List (Addr×Obj)) (σ:St) (tg:Expr) (R:It->Hp->Prop) (itv:Value) (s2:Shared):Prop :=
 ∃ (it:Addr) (fp:List Addr) (tn:Nat->Heap->Prop) (J:It) (H':Hp),itv=.ref it/\Inv X aa σ H' s2/\Turn X.prog X.w X.K tg J fp it tn/\tn 0 s2.heap/\(∀ b∈fp,eO X aa H' b)/\R J H'
def PI (X:Cx) (tg iter:Expr) (wi:TI):Prop :=
 ∀ (aa:List (Addr×Obj)) (s:Shared) (σ:St) (H:Hp) (R:It->Hp->Prop),Inv X aa σ H s->wi σ H R ->
  wpAny (model X.prog X.w) X.A (eval iter X.env) (λv s1=>wpAny (model X.prog X.w) X.A (pyIter v) (Od X aa σ tg R) X.xe s1) X.xe s
theorem mR (ho:s.heap.get? it=some o) (hc:o.cls=.type n) (hd:o.data=.fields vs)
 (hn:["enumerate","zip","dict_itemiterator","dict_reverseitemiterator","odict_iterator","itertools.zip_longest","itertools.pairwise"].contains n=false) (hQ:Q () s):wpAny M A (letOwnedTupleGo tg (.ref it) u) Q E s:=by
 unfold letOwnedTupleGo
 cases tg <;> first
  | exact PR hQ
  | (cases u <;> first
      | exact PR hQ
      | (refine PK (wpAny_load ho ?_)
         rw [hc,hd]
         show wpAny M A (if (["enumerate","zip","dict_itemiterator","dict_reverseitemiterator","odict_iterator","itertools.zip_longest","itertools.pairwise"].contains n && vs[0]? == some (rawInt _))=true then _ else _) Q E s
         rw [if_neg (by intro h; rw [hn,Bool.false_and] at h; cases h)]
         exact PR hQ))
noncomputable def Oe (K:PN) (a:Addr):It :=
 ⟨λi H=>∃ xs x,f7 K H a xs/\xs[i]?=some x,λi H x H'=>H'=H/\∀ xs,f7 K H a xs->xs[i]?=some x,λi H=>∃ xs,f7 K H a xs/\xs.length<=i⟩
noncomputable def Of (K:PN) (a:Addr):It :=
 ⟨λi H=>∃ xs x,cU K H a xs/\xs[i]?=some x,λi H x H'=>H'=H/\∀ xs,cU K H a xs->xs[i]?=some x,λi H=>∃ xs,cU K H a xs/\xs.length<=i⟩
noncomputable def NB (lo:Int) (n:Nat):It:=⟨λi _=>i<n,λi H x H'=>H'=H/\x=.int (lo+i),λi _=>n<=i⟩
theorem xB {P:Program} {w:World} {K:PN} {tg:Expr} (a it:Addr):Turn P w K tg (Oe K a) [it] it (λi h=>h.IsListIter it a i) where
 mem:=by simp
 obj:=λi h st b hb=>by
  have e:b=it:=by simpa using hb
  subst e
  obtain ⟨o,e,c,d⟩:=st
  exact ⟨o,e,λv z=>by rw [d] at z; cases z⟩
 keep:=λi h h' st k=>st.at λo e=>k it (by simp) o e
 item:=by
  intro X hP hw hK hc i aa s σ H E I hf st hg
  subst hP hw hK
  obtain ⟨xs,x,hq,hx⟩:=hg
  obtain ⟨its,rv,p,hz⟩:=I.list hq
  obtain ⟨u,hu,ru⟩:=rv.get hx
  obtain ⟨f0,f1,f2,f3,f4,f5⟩:=hf it (by simp)
  refine wpAny_pyNext_list_item st p.isList (x:=u) (by simpa using hu) λh' st' sb=>?_
  have I1:Inv X aa σ H { s with heap:=h' }:=I.turned (t':=s.toks) (λb o hb e=>(sb.2 b hb).trans e) f0 f1 f3 f4 f5
  obtain ⟨o,e,c,d⟩:=id st'
  exact ⟨u,rfl,mR (s:={ s with heap:=h' }) e c d (by decide) ⟨x,H,I1,ru,⟨rfl,λys hy=>by rw [I.p6 hy hq]; exact hx⟩,st',λb hb=>(hf b hb).1⟩⟩
 done:=by
  intro X hP hw hK hc i aa s σ H E I hf st hg
  subst hP hw hK
  obtain ⟨xs,hq,hx⟩:=hg
  obtain ⟨its,rv,p,hz⟩:=I.list hq
  obtain ⟨f0,f1,f2,f3,f4,f5⟩:=hf it (by simp)
  have hl:=rv.length
  exact wpAny_pyNext_list_end (I.ok.hd hc) st p.isList (by simp; lia) λh' eb=>⟨rfl,I.turned (t':=s.toks) (λb o hb e=>eb b o hb e) f0 f1 f3 f4 f5⟩
 self:=λ_ _ _ _ _ st h=>wpAny_pyIter_listiter st h
theorem sM {P:Program} {w:World} {K:PN} {tg:Expr} (a it:Addr):Turn P w K tg (Of K a) [it] it (λi h=>h.IsTupleIter it a i) where
 mem:=by simp
 obj:=λi h st b hb=>by
  have e:b=it:=by simpa using hb
  subst e
  obtain ⟨o,e,c,d⟩:=st
  exact ⟨o,e,λv z=>by rw [d] at z; cases z⟩
 keep:=λi h h' st k=>st.at λo e=>k it (by simp) o e
 item:=by
  intro X hP hw hK hc i aa s σ H E I hf st hg
  subst hP hw hK
  obtain ⟨xs,x,hq,hx⟩:=hg
  obtain ⟨its,rv,p,hz⟩:=I.tuple hq
  obtain ⟨u,hu,ru⟩:=rv.get hx
  obtain ⟨f0,f1,f2,f3,f4,f5⟩:=hf it (by simp)
  refine wpAny_pyNext_tuple_item st (show s.heap.IsTuple a its.toArray from p) (x:=u) (by simpa using hu) λh' st' sb=>?_
  have I1:Inv X aa σ H { s with heap:=h' }:=I.turned (t':=s.toks) (λb o hb e=>(sb.2 b hb).trans e) f0 f1 f3 f4 f5
  obtain ⟨o,e,c,d⟩:=id st'
  exact ⟨u,rfl,mR (s:={ s with heap:=h' }) e c d (by decide) ⟨x,H,I1,ru,⟨rfl,λys hy=>by rw [I.gK hy hq]; exact hx⟩,st',λb hb=>(hf b hb).1⟩⟩
 done:=by
  intro X hP hw hK hc i aa s σ H E I hf st hg
  subst hP hw hK
  obtain ⟨xs,hq,hx⟩:=hg
  obtain ⟨its,rv,p,hz⟩:=I.tuple hq
  obtain ⟨f0,f1,f2,f3,f4,f5⟩:=hf it (by simp)
  have hl:=rv.length
  exact wpAny_pyNext_tuple_end (I.ok.hd hc) st (show s.heap.IsTuple a its.toArray from p) (by simp; lia) λh' eb=>⟨rfl,I.turned (t':=s.toks) (λb o hb e=>eb b o hb e) f0 f1 f3 f4 f5⟩
 self:=λ_ _ _ _ _ st h=>wpAny_pyIter_tupleiter st h
theorem sN {P:Program} {w:World} {K:PN} {tg:Expr} (it:Addr) (lo:Int) (n:Nat):Turn P w K tg (NB lo n) [it] it (λi h=>IsRangeIter h it (lo+(i:Nat) * 1) ((n:Int) - (i:Nat)) 1) where
 mem:=by simp
 obj:=λi h st b hb=>by
  have e:b=it:=by simpa using hb
  subst e
  exact ⟨_,st,λv z=>by
   have z':Ul _=SY v:=z
   cases z'⟩
 keep:=λi h h' st k=>k it (by simp) _ st
 item:=by
  intro X hP hw hK hc i aa s σ H E I hf st hg
  subst hP hw hK
  obtain ⟨f0,f1,f2,f3,f4,f5⟩:=hf it (by simp)
  have W:=Walks.range (prog:=X.prog) (w:=X.w) (I.ok.hd hc) it lo 1 n
  refine W.item i s _ _ hg st λv h' tk hv st' kk=>?_
  obtain ⟨t,rfl⟩:=hv
  have I1:Inv X aa σ H { s with heap:=h',toks:=tk }:=I.turned (λb o hb e=>kk b o (by simpa using hb) e) f0 f1 f3 f4 f5
  refine ⟨_,rfl,mR (s:={ s with heap:=h',toks:=tk }) (n:="range_iterator") st' rfl rfl (by decide) ⟨.int (lo+i),H,I1,⟨t,?_⟩,⟨rfl,rfl⟩,st',λb hb=>(hf b hb).1⟩⟩
  rw [Int.mul_one]
 done:=by
  intro X hP hw hK hc i aa s σ H E I hf st hg
  subst hP hw hK
  obtain ⟨f0,f1,f2,f3,f4,f5⟩:=hf it (by simp)
  exact wpAny_pyNext_range_end (I.ok.hd hc) st (by have:n<=i:=hg; lia) λh' eb=>⟨rfl,I.turned (t':=s.toks) (λb o hb e=>eb b o hb e) f0 f1 f3 f4 f5⟩
 self:=λ_ _ _ _ _ st h=>wpAny_pyIter_rangeiter st h
theorem zL {lo hi:Int} (I:Inv X aa σ H s) (h1: -(2 ^ 62)<=lo) (h2:lo<2 ^ 62) (h3: -(2 ^ 62)<=hi) (h4:hi<2 ^ 62)
 (q:R (NB lo (hi - lo).toNat) H):wpAny (model X.prog X.w) X.A (pyIter (.ref s.heap.objs.size)) (Od X aa σ tg R) E { s with heap:=s.heap.push { cls:=.type "range",data:=.fields #[.int lo t,.int hi u,.int 1 v] },toks:=tk }:=by
 refine wpAny_pyIter_range (IsRange.new ..) (small_one h1 h2 h3 h4) ?_
 have I1:Inv X aa σ H { s with heap:=s.heap.push { cls:=.type "range",data:=.fields #[.int lo t,.int hi u,.int 1 v] },toks:=tk }:=I.kept λb o e=>PY _ e
 refine ⟨(s.heap.push { cls:=.type "range",data:=.fields #[.int lo t,.int hi u,.int 1 v] }).objs.size,[(s.heap.push { cls:=.type "range",data:=.fields #[.int lo t,.int hi u,.int 1 v] }).objs.size],_,_,H,rfl,
  I1.kept (t':=tk) λb o e=>PY _ e,sN _ lo (hi - lo).toNat,?_,λb hb=>?_,q⟩
 ·have e1:lo+((0:Nat):Int) * 1=lo:=by simp
  have e2:(((hi - lo).toNat:Nat):Int) - ((0:Nat):Int)=UH lo hi 1:=by rw [rangeSize_one]; split <;> lia
  show IsRangeIter _ _ (lo+((0:Nat):Int) * 1) ((((hi - lo).toNat:Nat):Int) - ((0:Nat):Int)) 1
  rw [e1,e2]
  exact Qd _ rfl
 ·have e:b=(s.heap.push { cls:=.type "range",data:=.fields #[.int lo t,.int hi u,.int 1 v] }).objs.size:=by simpa using hb
  subst e
  exact I1.kG (PU _) (I1.hok.fresh (PU _))
noncomputable def LC (ta:TA):TI:=λσ H R=>ta σ H λvs H1=>∃ j:Int,vs=[.int j]/\ -(2 ^ 62)<=j/\j<2 ^ 62/\R (NB 0 j.toNat) H1
theorem xC (hg:Gl X "range") (hm:X.mg "range"=none) (ha:PA X [a] ta) (hs:starEach [a] X.env=[(false,eval a X.env)]:=by rfl):PI X tg (.Call (.Name "range" p) [a] [] pos) (LC ta):=by
 intro aa s σ H R I h
 refine Call_ (dz I hg hm boot_range (S6 (bz (ha pos aa s σ H _ I h) λus s1 ⟨vs,H1,I1,r1,q1⟩=>?_) hs rfl))
 obtain ⟨j,e,q1,q2,q⟩:=q1
 subst e
 cases r1 with
 | cons r rr =>
  cases rr
  obtain ⟨t,rfl⟩:=r
  exact call_range_1 (zL I1 (by lia) (by lia) q1 q2 (by simpa using q))
noncomputable def Og (wi:TI) (g:TG) (tb:TS):TS:=λD σ H=>wi σ H λJ H1=>∃ W:Nat->Nat->St->Hp->Prop,(∃ m,W 0 m σ H1)/\∀ i m σ H,W i m σ H ->
 (J.stop i H/\D.nx σ H)\/(J.go i H/\∃ N:St->Hp->Prop,(∀ σ' H',N σ' H'->∃ m',m'<m/\W (i+1) m' σ' H')/\∀ x H',J.yld i H x H'->g x σ H' λσ2 H2=>tb { D with nx:=N,ct:=N,bk:=D.nx } σ2 H2)
noncomputable def jq (fp:List Addr) (h:Heap):List (Addr×Obj):=fp.filterMap λb=>(h.get? b).map λo=>(b,o)
theorem dW (hb:b∈fp) (e:h.get? b=some o):(b,o)∈jq fp h:=List.mem_filterMap.mpr ⟨b,hb,by rw [e]; rfl⟩
theorem xD (hp:p∈jq fp h):p.1∈fp/\h.get? p.1=some p.2:=by
 obtain ⟨b,hb,e⟩:=List.mem_filterMap.mp hp
 cases q:h.get? b with
 | none=>rw [q] at e; cases e
 | some o =>
  rw [q] at e
  have e':(b,o)=p:=RA e
  subst e'
  exact ⟨hb,q⟩
theorem Inv.pinned (I:Inv X aa σ H s) (hf:∀ b∈fp,eO X aa H b) (ho:∀ b∈fp,∃ o,s.heap.get? b=some o/\∀ v,o.data≠.cell v):Inv X (aa++jq fp s.heap) σ H s :=
 I.uO λp hp=>(Qq.mp hp).elim (λz=>I.pin p (QH _ z)) λz=>by
  obtain ⟨hb,e⟩:=xD z
  obtain ⟨f0,f1,f2,_⟩:=hf p.1 hb
  obtain ⟨o,e',d⟩:=ho p.1 hb
  rw [e] at e'; cases e'
  exact ⟨e,f0,f1,f2,d⟩
theorem Inv.fh (I:Inv X (aa++pl) σ H s):Inv X aa σ H s:=I.uO λp hp=>I.pin p (QH _ (R8 _ hp))
theorem Ie (hp:PassesOwn (model X.prog X.w) X.A X.env X.xe) (hc:X.calm=true) (hi:PI X tg iter wi) (hg:PG X tg g) (hb:sH X body tb)
 (hs:∀ x,foldedSetIterable iter X.env x=pure x:=by intro _; rfl):PS X (.For tg iter body [] pos) (Og wi g tb):=by
 intro aa s σ H D I h
 refine wpAny_For (bz (hi aa s σ H _ I h) λv s1 h1=>bz h1 λitv s2 h2=>?_) hs
 obtain ⟨it,fp,tn,J,H2,e,I2,T,st2,f2,W,⟨m0,w0⟩,turn⟩:=h2
 subst e
 have stat:∀ {H':Hp},(∀ b∈fp,H' b=none)->∀ b∈fp,eO X aa H' b:=λhn b hb=>⟨hn b hb,(f2 b hb).2⟩
 refine codeAny_forLoop_any (λn s'=>∃ i σ' H',Inv X aa σ' H' s'/\tn i s'.heap/\(∀ b∈fp,H' b=none)/\W i n σ' H') ?_ m0 ⟨0,σ,H2,I2,st2,λb hb=>(f2 b hb).1,w0⟩
 rintro n s3 ⟨i,σ3,H3,I3,st3,fr3,w3⟩
 rcases turn i n σ3 H3 w3 with ⟨stop,qn⟩ | ⟨go,N,hN,step⟩
 ·refine SE hp (bz (T.done X rfl rfl rfl hc i aa s3 σ3 H3 X.xe I3 (stat fr3) st3 stop) λr s4 ⟨hr,I4⟩=>?_)
  subst hr
  exact wpAny_execs_nil ⟨σ3,H3,I4,qn⟩
 ·refine SE hp (bz (T.item X rfl rfl rfl hc i aa s3 σ3 H3 X.xe I3 (stat fr3) st3 go) λr s4 ⟨u,hr,h4⟩=>?_)
  subst hr
  refine SE hp (bz h4 λ_ s5 ⟨x,H5,I5,r5,y5,st5,fr5⟩=>?_)
  have I5':=I5.pinned (stat fr5) (T.obj _ _ st5)
  refine SE hp (bz (hg _ s5 σ3 H5 x u _ I5' r5 (step x H5 y5)) λ_ s6 ⟨σ6,H6,I6,q6⟩=>?_)
  refine SE hp (bz (hb _ s6 σ6 H6 _ I6 q6) λf s7 q7=>?_)
  have again:∀ {σ7:St} {H7:Hp},Inv X (aa++jq fp s5.heap) σ7 H7 s7->N σ7 H7->∃ m,m<n/\∃ i σ' H',Inv X aa σ' H' s7/\tn i s7.heap/\(∀ b∈fp,H' b=none)/\W i m σ' H':=λ{σ7 H7} I7 n7=>by
   obtain ⟨m',hm,w7⟩:=hN σ7 H7 n7
   refine ⟨m',hm,i+1,σ7,H7,I7.fh,T.keep _ _ _ st5 λb hb o e=>(I7.pin (b,o) (QH _ (QH _ (dW hb e)))).1,λb hb=>?_,w7⟩
   obtain ⟨o,e,d⟩:=T.obj _ _ st5 b hb
   exact (I7.pin (b,o) (QH _ (QH _ (dW hb e)))).2.1
  cases f with
  | next=>obtain ⟨σ7,H7,I7,n7⟩:=q7; exact again I7 n7
  | cont=>obtain ⟨σ7,H7,I7,n7⟩:=q7; exact again I7 n7
  | brk=>obtain ⟨σ7,H7,I7,q7⟩:=q7; exact ⟨σ7,H7,I7.fh,q7⟩
  | ret v=>obtain ⟨x7,σ7,H7,I7,r7,q7⟩:=q7; exact ⟨x7,σ7,H7,I7.fh,r7,q7⟩
noncomputable abbrev R2:=V->V->Hp->VK->Prop
def fj (X:Cx) (f:Value->Value->Sem Value) (r:R2):Prop :=
 ∀ (aa:List (Addr×Obj)) (s:Shared) (σ:St) (H:Hp) (x y:V) (v u:Value) (Q:VK),Inv X aa σ H s->RelV x v->RelV y u->r x y H Q ->
  wpAny (model X.prog X.w) X.A (f v u) (EP X aa σ Q) X.xe s
def Oh (X:Cx) (f:Value->Sem Value) (r:V->Hp->VK->Prop):Prop :=
 ∀ (aa:List (Addr×Obj)) (s:Shared) (σ:St) (H:Hp) (x:V) (v:Value) (Q:VK),Inv X aa σ H s->RelV x v->r x H Q ->
  wpAny (model X.prog X.w) X.A (f v) (EP X aa σ Q) X.xe s
def gc (X:Cx) (f:Value) (r:List V->Hp->VK->Prop):Prop :=
 ∀ (aa:List (Addr×Obj)) (s:Shared) (σ:St) (H:Hp) (xs:List V) (us:List Value) (Q:VK),Inv X aa σ H s->Vals xs us->r xs H Q ->
  wpAny (model X.prog X.w) X.A (call f us) (EP X aa σ Q) X.xe s
noncomputable def NC (r:R2) (ta tb:TE):TE:=λσ H Q=>ta σ H λx H1=>tb σ H1 λy H2=>r x y H2 Q
noncomputable def Po (r:V->Hp->VK->Prop) (ta:TE):TE:=λσ H Q=>ta σ H λx H1=>r x H1 Q
noncomputable def rI (C:Int->Int->Prop) (g:Int->Int->V):R2:=λx y H Q=>∃ i j,x=.int i/\y=.int j/\C i j/\Q (g i j) H
noncomputable def uQ (g:Int->Int->V):R2:=λx y H Q=>∃ i j,x=.int i/\y=.int j/\Q (g i j) H
noncomputable def rU (g:Int->V):V->Hp->VK->Prop:=λx H Q=>∃ i,x=.int i/\Q (g i) H
theorem Ig (ha:PE X a ta) (hb:PE X b tb) {R:V->V->Hp->Prop} (I:Inv X aa σ H s)
 (h:ta σ H λx H1=>tb σ H1 λy H2=>R x y H2) {f:Value->Value->Sem Value}
 (hf:∀ v u s2 x y H2,Inv X aa σ H2 s2->RelV x v->RelV y u->R x y H2->wpAny (model X.prog X.w) X.A (f v u) Q X.xe s2) :
 wpAny (model X.prog X.w) X.A (eval a X.env) (λv s₁=>wpAny (model X.prog X.w) X.A (eval b X.env) (λu s₂=>wpAny (model X.prog X.w) X.A (f v u) Q X.xe s₂) X.xe s₁) X.xe s:=by
 refine bz (ha aa s σ H _ I h) λv s1 ⟨x,H1,I1,r1,q1⟩=>?_
 refine bz (hb aa s1 σ H1 _ I1 q1) λu s2 ⟨y,H2,I2,r2,q2⟩=>?_
 exact hf v u s2 x y H2 I2 r1 r2 q2
theorem zM (ho:fj X (binaryOp op) r) (ha:PE X a ta) (hb:PE X b tb):PE X (.BinOp a op b pos) (NC r ta tb):=by
 intro aa s σ H Q I h
 exact wpAny_BinOp (Ig ha hb I h λv u s2 x y H2 I2 rx ry q=>ho aa s2 σ H2 x y v u Q I2 rx ry q)
theorem LD (ho:Oh X (unaryOp op) r) (ha:PE X a ta):PE X (.UnaryOp op a pos) (Po r ta):=by
 intro aa s σ H Q I h
 exact UnaryOp_ (bz (ha aa s σ H _ I h) λv s1 ⟨x,H1,I1,r1,q1⟩=>ho aa s1 σ H1 x v Q I1 r1 q1)
theorem Ld {g:Int->Int->Int}
 (rule:∀ (i j:Int) (t u:Tok) (s:Shared) (Q:Value->Shared->Prop) (E:Value->Shared->Prop),C i j->Q (.int (g i j) s.toks) { s with toks:=s.toks+1 }->wpAny (model X.prog X.w) X.A (f (.int i t) (.int j u)) Q E s) :
 fj X f (rI C λi j=>.int (g i j)):=by
 intro aa s σ H x y v u Q I rx ry h
 obtain ⟨i,j,rfl,rfl,hc,q⟩:=h
 obtain ⟨t,rfl⟩:=rx
 obtain ⟨t',rfl⟩:=ry
 exact rule i j t t' s _ _ hc ⟨.int (g i j),H,I.tok _,⟨_,rfl⟩,q⟩
theorem zN {g:Int->Int->Int}
 (rule:∀ (i j:Int) (t u:Tok) (s:Shared) (Q:Value->Shared->Prop) (E:Value->Shared->Prop),Q (.int (g i j) s.toks) { s with toks:=s.toks+1 }->wpAny (model X.prog X.w) X.A (f (.int i t) (.int j u)) Q E s) :
 fj X f (uQ λi j=>.int (g i j)):=by
 intro aa s σ H x y v u Q I rx ry h
 obtain ⟨i,j,rfl,rfl,q⟩:=h
 obtain ⟨t,rfl⟩:=rx
 obtain ⟨t',rfl⟩:=ry
 exact rule i j t t' s _ _ ⟨.int (g i j),H,I.tok _,⟨_,rfl⟩,q⟩
theorem Ih {g:Int->Int->Bool}
 (rule:∀ (i j:Int) (t u:Tok) (s:Shared) (Q:Value->Shared->Prop) (E:Value->Shared->Prop),Q (.bool (g i j)) s->wpAny (model X.prog X.w) X.A (f (.int i t) (.int j u)) Q E s) :
 fj X f (uQ λi j=>.bl (g i j)):=by
 intro aa s σ H x y v u Q I rx ry h
 obtain ⟨i,j,rfl,rfl,q⟩:=h
 obtain ⟨t,rfl⟩:=rx
 obtain ⟨t',rfl⟩:=ry
 exact rule i j t t' s _ _ ⟨.bl (g i j),H,I,rfl,q⟩
def sO (i j:Int):Prop:=0<=j/\j<=1000000/\i.natAbs<2 ^ 64
theorem sP (k):(0:Int)<=2 ^ k:=by
 rw [two_pow_cast]
 exact Int.natCast_nonneg _
theorem Ii:fj X (binaryOp .Add) (uQ λi j=>.int (i+j)):=zN λ_ _ _ _ _ _ _ q=>add_int q
theorem Ij:fj X (binaryOp .Sub) (uQ λi j=>.int (i - j)):=zN λ_ _ _ _ _ _ _ q=>sub_int q
theorem Ik:fj X (binaryOp .Mod) (rI (λ_ j=>0<j) λi j=>.int (i % j)):=Ld λi j _ _ _ _ _ hc q=>by
 have h1:(0:Int)<j:=hc
 exact mod_int' (by lia) (by rw [Int.fmod_eq_emod_of_nonneg i (by lia)]; exact q)
theorem Il:fj X (binaryOp .Pow) (rI sO λi j=>.int (i ^ j.toNat)):=Ld λ_ _ _ _ _ _ _ hc q=>pow_int_small hc.1 hc.2.1 hc.2.2 q
theorem Im:fj X (binaryOp .LShift) (rI sO λi j=>.int (i * 2 ^ j.toNat)):=Ld λ_ _ _ _ _ _ _ hc q=>lshift_int_small hc.1 hc.2.1 hc.2.2 q
theorem Io:fj X (binaryOp .RShift) (rI (λ_ j=>0<=j) λi j=>.int (i / 2 ^ j.toNat)):=Ld λi j _ _ _ _ _ hc q =>
 rshift_int hc (by rw [Int.fdiv_eq_ediv_of_nonneg i (sP _)]; exact q)
theorem Ip:fj X (binaryOp .BitAnd) (uQ λi j=>.int (Builtin.bitAnd i j)):=zN λ_ _ _ _ _ _ _ q=>and_int q
theorem DS:fj X (inplaceOp .Add) (uQ λi j=>.int (i+j)):=zN λ_ _ _ _ _ _ _ q=>iadd_int q
theorem DT:fj X (inplaceOp .Sub) (uQ λi j=>.int (i - j)):=zN λ_ _ _ _ _ _ _ q=>isub_int q
theorem Pp {g:Int->Int}
 (rule:∀ (i:Int) (t:Tok) (s:Shared) (Q:Value->Shared->Prop) (E:Value->Shared->Prop),Q (.int (g i) s.toks) { s with toks:=s.toks+1 }->wpAny (model X.prog X.w) X.A (f (.int i t)) Q E s) :
 Oh X f (rU λi=>.int (g i)):=by
 intro aa s σ H x v Q I rx h
 obtain ⟨i,rfl,q⟩:=h
 obtain ⟨t,rfl⟩:=rx
 exact rule i t s _ _ ⟨.int (g i),H,I.tok _,⟨_,rfl⟩,q⟩
theorem Iq:Oh X (unaryOp .USub) (rU λi=>.int (-i)):=Pp λ_ _ _ _ _ q=>neg_int q
noncomputable def DU:V->V->Bool
 | .non,.non=>true | .non,.int _=>true | .int _,.non=>true | .non,.bl _=>true | .bl _,.non=>true | .non,.str _=>true | .str _,.non=>true
 | .int _,.int _=>true | .bl _,.bl _=>true | .str _,.str _=>true | .byt _,.byt _=>true
 | .int _,.str _=>true | .str _,.int _=>true | .bl _,.str _=>true | .str _,.bl _=>true
 | _,_=>false
noncomputable def Pq:R2:=λx y H Q=>DU x y=true/\Q (.bl (decide (x=y))) H
noncomputable def Pr:R2:=λx y H Q=>DU x y=true/\Q (.bl (!decide (x=y))) H
theorem uR:decide (V.int i=V.int j)=(i == j):=by
 rw [Tv]
 simp
theorem zO:decide (V.bl i=V.bl j)=(i == j):=by
 rw [Tv]
 simp
theorem uS:decide (V.str i=V.str j)=(i == j):=by
 rw [Tv]
 simp
theorem uT:decide (V.byt i=V.byt j)=(i.toList == j.toList):=by
 rw [Tv]
 cases i
 cases j
 simp
theorem bh (I:Inv X aa σ H s) (q:Q (.bl k) H) (e:k=k'):EP X aa σ Q (.bool k') s:=by
 subst e
 exact ⟨.bl k,H,I,rfl,q⟩
theorem LF:fj X (compareOp .Eq) Pq:=by
 intro aa s σ H x y v u Q I rx ry h
 obtain ⟨hs,q⟩:=h
 cases x with
 | non =>
  cases rx
  cases y with
  | non=>cases ry; exact PySem.EqNone.eq_none_none (bh I q (by simp))
  | bl j=>cases ry; exact PySem.EqNone.eq_none_bool (bh I q (by simp))
  | int j=>obtain ⟨t',rfl⟩:=ry; exact PySem.EqNone.eq_none_int (bh I q (by simp))
  | str j=>obtain ⟨t',rfl⟩:=ry; exact PySem.EqNone.eq_none_str (bh I q (by simp))
  | _=>exact absurd (show false=true from hs) P5
 | bl i =>
  cases rx
  cases y with
  | non=>cases ry; exact PySem.EqNone.eq_bool_none (bh I q (by simp))
  | bl j=>cases ry; exact eq_bool (bh I q zO)
  | str j=>obtain ⟨t',rfl⟩:=ry; exact PySem.EqMixed.eq_bool_str (bh I q (by simp))
  | _=>exact absurd (show false=true from hs) P5
 | int i =>
  obtain ⟨t,rfl⟩:=rx
  cases y with
  | non=>cases ry; exact PySem.EqNone.eq_int_none (bh I q (by simp))
  | int j=>obtain ⟨t',rfl⟩:=ry; exact eq_int (bh I q uR)
  | str j=>obtain ⟨t',rfl⟩:=ry; exact PySem.EqMixed.eq_int_str (bh I q (by simp))
  | _=>exact absurd (show false=true from hs) P5
 | str i =>
  obtain ⟨t,rfl⟩:=rx
  cases y with
  | non=>cases ry; exact PySem.EqNone.eq_str_none (bh I q (by simp))
  | bl j=>cases ry; exact PySem.EqMixed.eq_str_bool (bh I q (by simp))
  | int j=>obtain ⟨t',rfl⟩:=ry; exact PySem.EqMixed.eq_str_int (bh I q (by simp))
  | str j=>obtain ⟨t',rfl⟩:=ry; exact eq_str (bh I q uS)
  | _=>exact absurd (show false=true from hs) P5
 | byt i =>
  obtain ⟨t,rfl⟩:=rx
  cases y with
  | byt j=>obtain ⟨t',rfl⟩:=ry; exact PySem.W.eq_bytes (bh I q uT)
  | _=>exact absurd (show false=true from hs) P5
 | _=>cases y <;> exact absurd (show false=true from hs) P5
theorem LG:fj X (compareOp .NotEq) Pr:=by
 intro aa s σ H x y v u Q I rx ry h
 obtain ⟨hs,q⟩:=h
 cases x with
 | non =>
  cases rx
  cases y with
  | non=>cases ry; exact PySem.EqNone.ne_none_none (bh I q (by simp))
  | bl j=>cases ry; exact PySem.EqNone.ne_none_bool (bh I q (by simp))
  | int j=>obtain ⟨t',rfl⟩:=ry; exact PySem.EqNone.ne_none_int (bh I q (by simp))
  | str j=>obtain ⟨t',rfl⟩:=ry; exact PySem.EqNone.ne_none_str (bh I q (by simp))
  | _=>exact absurd (show false=true from hs) P5
 | bl i =>
  cases rx
  cases y with
  | non=>cases ry; exact PySem.EqNone.ne_bool_none (bh I q (by simp))
  | bl j=>cases ry; exact ne_bool (bh I q (congrArg not zO))
  | str j=>obtain ⟨t',rfl⟩:=ry; exact PySem.EqMixed.ne_bool_str (bh I q (by simp))
  | _=>exact absurd (show false=true from hs) P5
 | int i =>
  obtain ⟨t,rfl⟩:=rx
  cases y with
  | non=>cases ry; exact PySem.EqNone.ne_int_none (bh I q (by simp))
  | int j=>obtain ⟨t',rfl⟩:=ry; exact ne_int (bh I q (congrArg not uR))
  | str j=>obtain ⟨t',rfl⟩:=ry; exact PySem.EqMixed.ne_int_str (bh I q (by simp))
  | _=>exact absurd (show false=true from hs) P5
 | str i =>
  obtain ⟨t,rfl⟩:=rx
  cases y with
  | non=>cases ry; exact PySem.EqNone.ne_str_none (bh I q (by simp))
  | bl j=>cases ry; exact PySem.EqMixed.ne_str_bool (bh I q (by simp))
  | int j=>obtain ⟨t',rfl⟩:=ry; exact PySem.EqMixed.ne_str_int (bh I q (by simp))
  | str j=>obtain ⟨t',rfl⟩:=ry; exact ne_str (bh I q (congrArg not uS))
  | _=>exact absurd (show false=true from hs) P5
 | byt i =>
  obtain ⟨t,rfl⟩:=rx
  cases y with
  | byt j=>obtain ⟨t',rfl⟩:=ry; exact PySem.W.ne_bytes (bh I q (congrArg not uT))
  | _=>exact absurd (show false=true from hs) P5
 | _=>cases y <;> exact absurd (show false=true from hs) P5
theorem LH:fj X (compareOp .Lt) (uQ λi j=>.bl (decide (i<j))):=Ih λ_ _ _ _ _ _ _ q=>lt_int q
theorem LJ:fj X (compareOp .Gt) (uQ λi j=>.bl (decide (j<i))):=Ih λ_ _ _ _ _ _ _ q=>gt_int q
theorem LK:fj X (compareOp .GtE) (uQ λi j=>.bl (decide (j<=i))):=Ih λ_ _ _ _ _ _ _ q=>ge_int q
theorem fj.or (h:fj X f r) (h':fj X f r'):fj X f (λx y H Q=>r x y H Q\/r' x y H Q):=by
 intro aa s σ H x y v u Q I rx ry q
 rcases q with q | q
 ·exact h aa s σ H x y v u Q I rx ry q
 ·exact h' aa s σ H x y v u Q I rx ry q
theorem jr (b) (h:op≠.In:=by decide) (h2:op≠.NotIn:=by decide):behindInMarks op b=false:=by
 have e1:(op == CmpOp.In)=false:=by cases op <;> first | rfl | exact absurd rfl h
 have e2:(op == CmpOp.NotIn)=false:=by cases op <;> first | rfl | exact absurd rfl h2
 cases b <;> simp [behindInMarks,e1,e2]
theorem DV (ho:fj X (compareOp op) r) (ha:PE X a ta) (hb:PE X b tb) (hm:behindInMarks op b=false):PE X (.Compare a [op] [b] pos) (NC r ta tb):=by
 intro aa s σ H Q I h
 exact wpAny_Compare1 (Ig ha hb I h λv u s2 x y H2 I2 rx ry q=>ho aa s2 σ H2 x y v u Q I2 rx ry q) hm
noncomputable def LL (t:TE):TT:=λσ H Q=>t σ H λx H'=>∃ k,x=.bl k/\Q k H'
theorem DW (ho:fj X (compareOp op) r) (ha:PE X a ta) (hb:PE X b tb) (hm:behindInMarks op b=false):PT X (.Compare a [op] [b] pos) (LL (NC r ta tb)):=by
 intro aa s σ H Q I h
 refine wpAny_isTrue_Compare1 (bz (ha aa s σ H _ I h) λv s1 ⟨x,H1,I1,r1,q1⟩=>bz (hb aa s1 σ H1 _ I1 q1) λu s2 ⟨y,H2,I2,r2,q2⟩ =>
  bz (ho aa s2 σ H2 x y v u _ I2 r1 r2 q2) λc s3 ⟨z,H3,I3,r3,k,e,q3⟩=>?_) hm
 subst e
 cases r3
 exact TX ⟨H3,I3,q3⟩
theorem nY:(sizeLine:Nat)<2 ^ 63:=by rw [sizeLine_eq]; decide
theorem sQ:fj X (binaryOp .Add) (λx y H Q=>∃ i j,x=.str i/\y=.str j/\i.length+j.length<=sizeLine/\Q (.str (i++j)) H):=by
 intro aa s σ H x y v u Q I rx ry h
 obtain ⟨i,j,rfl,rfl,hz,q⟩:=h
 obtain ⟨t,rfl⟩:=rx
 obtain ⟨t',rfl⟩:=ry
 exact add_str (λt' tk=>⟨.str (i++j),H,I.tok _,⟨_,rfl⟩,q⟩) hz
theorem vals1 (r:Vals [x] us):∃ u,us=[u]/\RelV x u:=by
 cases r with
 | cons r1 r2=>cases r2; exact ⟨_,rfl,r1⟩
theorem vals2 (r:Vals [x,y] us):∃ u w',us=[u,w']/\RelV x u/\RelV y w':=by
 cases r with
 | cons r1 r2 =>
  cases r2 with
  | cons r3 r4=>cases r4; exact ⟨_,_,rfl,r1,r3⟩
theorem xE (hc:X.calm=true):gc X (.builtin "max") (λxs H Q=>∃ i j,xs=[.int i,.int j]/\Q (.int (if j>i then j else i)) H):=by
 intro aa s σ H xs us Q I r h
 obtain ⟨i,j,rfl,q⟩:=h
 obtain ⟨u,w',rfl,⟨t,rfl⟩,⟨t',rfl⟩⟩:=vals2 r
 refine max_two_ints (I.ok.hd hc) λh' tk k=>⟨_,H,I.kept k,?_,q⟩
 by_cases hj:j>i
 ·rw [if_pos hj,if_pos hj]; exact ⟨_,rfl⟩
 ·rw [if_neg hj,if_neg hj]; exact ⟨_,rfl⟩
structure Pu (h:Heap) (x dx C:Addr) (mA:Str->Option Value):Prop where
 obj:h.get? x=some (PySem.W.instObj C dx)
 ns:h.Ns1 dx mA
 ne:dx≠x
theorem jT.some_of (r:jT (some v) o):∃ u,o=some u/\RelV v u:=by
 cases o with
 | none=>exact (show False from r).elim
 | some u=>exact ⟨u,rfl,r⟩
structure Pw (K:PN) (C:Addr):Prop where
 pg:PySem.W.plainGet K C Str.empty=true
 hd:PySem.W.hasDictIn K C=true
 po:PySem.W.plainOver K C=true
 sa:Sa K (.ref C) "__setattr__"=some (some (.builtin "object.__setattr__"))
structure Con (K:PN) (C:Addr) (f:Str) (v:V) (u:Value):Prop where
 at_:Sa K (.ref C) f=some (some u)
 rel:RelV v u
 get:V8 K u "__get__"=some none
 cp:PySem.W.copiedNames.contains f=false
structure Meth (K:PN) (C:Addr) (m:Str) (f:Addr):Prop where
 at_:Sa K (.ref C) m=some (some (.ref f))
 fn:PySem.W.isFn K (.ref f)=true
 kp:RI K (.ref f)=true
def LM (X:Cx) (op:Operator) (rd:V->V->Hp->VK->Prop):Prop :=
 ∀ (aa:List (Addr×Obj)) (s:Shared) (σ:St) (H:Hp) (x y:V) (u v:Value) (Q:VK),Inv X aa σ H s->RelV x u->RelV y v->rd x y H Q->wpAny (model X.prog X.w) X.A (inplaceOp op u v) (EP X aa σ Q) X.xe s
section
variable {X:Cx} {aa:List (Addr×Obj)} {σ:St} {H:Hp} {s:Shared} {A:Around} {E:Value->Shared->Prop} {Q:Value->Shared->Prop} {c:Value} {b:Bool}
inductive kH (K:PN) (H:Hp):V->Value->Prop where
 | non:kH K H .non (.type "NoneType")
 | bl (x:Bool):kH K H (.bl x) (.type "bool")
 | int (i:Int):kH K H (.int i) (.type "int")
 | str (x:Str):kH K H (.str x) (.type "str")
 | flt (x:UInt64):kH K H (.flt x) (.type "float")
 | lst {a:Addr} {xs:List V} (e:H a=some (.lst xs)):kH K H (.ref a) (.type "list")
 | frz {a:Addr} {o:Obj} {xs:List V} (e:H a=some (.frz o (.lst xs))):kH K H (.ref a) (.type "list")
 | tup {a:Addr} {xs:List V} (e:H a=some (.tup xs)):kH K H (.ref a) (.type "tuple")
 | dK {a:Addr} {kvs:List (Key×V)} (e:H a=some (.dK kvs)):kH K H (.ref a) (.type "dict")
 | dT {a:Addr} {kvs:List (List Key×Addr×V)} (e:H a=some (.dT kvs)):kH K H (.ref a) (.type "dict")
 | ins {a C dx:Addr} {fs:List (Str×V)} (e:H a=some (.ins C dx fs)) (cl:Pw K C) (ha:Sa K (.ref C) "__class__"=some (some (.builtin "object.__class__")))
  (hn:V8 K (.builtin "object.__class__") "__get__"=some (some (.builtin "getset_descriptor.__get__"))) (htk:PySem.W.takesIn K (.builtin "object.__class__")=some true)
  (hm:Vj K C (.type "object")=some true):kH K H (.ref a) (.ref C)
end
structure gY (k:Nat) (A:Around):Prop where
 hd:A.handled=none
 dp:A.depth+3 * k+5<recursionLimit
 un:A.units+16 * k+200<cLine
theorem gY.mono (r:gY k A) (h:j<=k):gY j A:=⟨r.hd,by have:=r.dp; lia,by have:=r.un; lia⟩
theorem gY.deeper (r:gY (k+1) A) (env:Env):gY k (A.deeper env) :=
 ⟨r.hd,by have:=r.dp; show A.depth+1+3 * k+5<_; lia,by have:=r.un; show A.units+3+16 * k+200<_; lia⟩
theorem gY.depth (r:gY k A):A.depth<recursionLimit:=by have:=r.dp; lia
theorem gY.units (r:gY k A):A.units+64<cLine:=by have:=r.un; lia
noncomputable def Oi:TA:=λ_ H Q=>Q [] H
noncomputable def LN (ta:TE) (tr:TA):TA:=λσ H Q=>ta σ H λx H1=>tr σ H1 λxs H2=>Q (x::xs) H2
theorem cL:PA X [] Oi:=λ_ _ _ _ H Q I h=>Calls.spliced_nil ⟨[],H,I,.nil,h⟩
theorem bF (ha:PE X e te) (hr:PA X es t) (hs:starEach (e::es) X.env=(false,eval e X.env)::starEach es X.env:=by rfl):PA X (e::es) (LN te t):=by
 intro pos aa s σ H Q I h
 rw [hs]
 show wpAny _ _ (spliced ((false,eval e X.env)::backTo pos (starEach es X.env))) _ _ s
 refine V3 (bz (ha aa s σ H _ I h) λu s1 ⟨x,H1,I1,r1,q1⟩=>?_)
 exact bz (hr pos aa s1 σ H1 _ I1 q1) λus s2 ⟨xs,H2,I2,r2,q2⟩=>⟨x::xs,H2,I2,.cons r1 r2,q2⟩
noncomputable def Oj (t:TA):TE:=λσ H Q=>t σ H λxs H1=>xs.length<=sizeLine/\∀ p,H1 p=none->Q (.ref p) (upd H1 p (.tup xs))
noncomputable def Ol (t:TA):TE:=λσ H Q=>t σ H λxs H1=>xs.length<=sizeLine/\∀ p,H1 p=none->Q (.ref p) (upd H1 p (.lst xs))
theorem zP {x1} (h:PA X es t):PE X (.Tuple es x1 pos) (Oj t):=by
 intro aa s σ H Q I hq
 refine wpAny_Tuple_spliced (bz (h pos aa s σ H _ I hq) λus s1 ⟨xs,H1,I1,r,z,q⟩=>⟨by rw [<- r.length]; exact z,?_⟩)
 have hf:H1 s1.heap.objs.size=none:=I1.hok.fresh (PU _)
 refine ⟨.ref s1.heap.objs.size,upd H1 s1.heap.objs.size (.tup xs),I1.laid (t':=s1.toks) (λb u e=>PY _ e) (PU _) ?_,rfl,q _ hf⟩
 exact ⟨z,us,r,⟨_,Qd _ rfl,rfl,_,rfl⟩⟩
theorem Ir (h:PA X es t):PE X (.List es pos) (Ol t):=by
 intro aa s σ H Q I hq
 refine wpAny_List_spliced (bz (h pos aa s σ H _ I hq) λus s1 ⟨xs,H1,I1,r,z,q⟩=>⟨by rw [<- r.length]; exact z,?_⟩)
 have hf:H1 s1.heap.objs.size=none:=I1.hok.fresh (PU _)
 refine ⟨.ref s1.heap.objs.size,upd H1 s1.heap.objs.size (.lst xs),I1.laid (t':=s1.toks) (λb u e=>PY _ e) (PU _) ?_,rfl,q _ hf⟩
 exact ⟨z,us,0,r,Qd _ rfl⟩
noncomputable abbrev Sp:=List V->Hp->VK->XK->Prop
noncomputable abbrev Iu:=List Env->Hp->Shared->XK->Value->Shared->Prop
structure DX (P:Program) (w:World) (K:PN) (mg:Str->Option Value) (base:Heap) (A:Around) (outer:List Env) (s:Shared) (H:Hp):Prop where
 frames:A.frames=some outer
 mod:Mod K mg base
 bs:∀ b o,base.get? b=some o->s.heap.get? b=some o/\H b=none
 bsz:base.objs.size<=s.heap.objs.size
 jo:s.heap.FunFrames base outer
 frf:∀ b∈frs outer,H b=none
 hok:jm P w H s.heap
 bare:AllBare s.gens
def CE (outer:List Env) (P:Program) (w:World) (H:Hp) (s:Shared) (Q:VK) (u:Value) (s':Shared):Prop :=
 ∃ v H',s'.os=s.os/\AllBare s'.gens/\Un (frs outer) [] H H' s.heap s'.heap/\jm P w H' s'.heap/\RelV v u/\Q v H'
def CR (CX:Iu) (outer:List Env) (P:Program) (w:World) (H:Hp) (s:Shared) (Q:VK) (E:XK) (r:Result) (s':Shared):Prop :=
 match r with
 | .ok (.ret u)=>CE outer P w H s Q u s'
 | .ok _=>False
 | .error e=>CX outer H s E e s'
structure bu (P:Program) (w:World) (K:PN) (mg:Str->Option Value) (base:Heap) (CX:Iu) (k:Nat) (f:Addr) (fd:FuncData) (ps:List Str) (sp:Sp):Prop where
 len:∀ vs H Q E,sp vs H Q E->vs.length=ps.length
 run:∀ (A:Around) (outer:List Env) (s:Shared) (H:Hp) (args:Args) (us:List Value) (vs:List V) (Q:VK) (E:XK),gY k A->DX P w K mg base A outer s H->BindsTo s fd args (ps.zip us)->Vals vs us->sp vs H Q E ->
  codeAny (model P w) A (.call (.ref f) args) (CR CX outer P w H s Q E) s
theorem bu.mono {K:PN} (F:bu P w K mg base CX j f fd ps sp) (h:j<=k) :
 bu P w K mg base CX k f fd ps sp:=⟨F.len,λA outer s H args us vs Q E hr=>F.run A outer s H args us vs Q E (hr.mono h)⟩
theorem Inv.zQ (I:Inv X aa σ H s):DX X.prog X.w X.K X.mg X.base X.A X.stack s H :=
 ⟨I.ok.frames,I.ok.mod,I.bs,P7 I.ok.bsz I.sz,I.stack,I.uN,I.hok,I.bare⟩
theorem Inv.after (I:Inv X aa σ H s) (h:CE X.stack X.prog X.w H s Q u s'):EP X aa σ Q u s':=by
 obtain ⟨v,H',os,bare,un,hok,r,q⟩:=h
 obtain ⟨hh,g,d,t,os'⟩:=s'
 obtain rfl:os'=s.os:=os
 exact ⟨v,H',I.call (h':=hh) (g':=g) (d':=d) (t':=t) (ch:=[]) un hok bare (λb z=>absurd z (by simp)),r,q⟩
def Binds (K:PN) (fd:FuncData) (ps:List Str) (ds:List Value):Prop :=
 ∀ (s:Shared) (us:List Value),K.In s.heap->(us++ds).length=ps.length->BindsTo s fd ⟨us,[]⟩ (ps.zip (us++ds))
theorem Binds.all {K:PN} (h:∀ us:List Value,us.length=ps.length->bindArgs fd ⟨us,[]⟩=pure (ps.zip us)):Binds K fd ps []:=λs us _ hl=>by
 rw [QX] at hl |-
 exact .of_eq (h us hl)
section
variable {X:Cx} {CX:Iu} {k:Nat} {f C:Addr} {fd:FuncData} {ps:List Str} {sp:Sp} {dvs:List V} {ds:List Value} {E:XK} {x m:Str} {p pos apos:Pos} {e o:Expr} {es:List Expr} {ta:TE} {t:TA}
structure Mk (K:PN) (C f:Addr):Prop where
 makes:PySem.W.makesIn K C=true
 init:Sa K (.ref C) "__init__"=some (some (.ref f))
 fn:PySem.W.isFn K (.ref f)=true
 kp:RI K (.ref C)=true
end
section
variable {X:Cx} {CX:Iu} {k:Nat} {f C:Addr} {fd:FuncData} {ps ks:List Str} {sp:Sp} {E:XK} {x m:Str} {p pos apos kpos:Pos} {e o:Expr} {es:List Expr} {kws:List Keyword} {te ta:TE} {t tk:TA} {nm:Option Str}
structure Om (K:PN) (fd:FuncData) (ps ks:List Str) (g:List Value->List Value->List Value) (gV:List V->List V->List V):Prop where
 to:∀ (s:Shared) (us ws:List Value),K.In s.heap->(g us ws).length=ps.length->BindsTo s fd ⟨us,ks.zip ws⟩ (ps.zip (g us ws))
 rel:∀ {vs:List V} {us:List Value} {zs:List V} {ws:List Value},Vals vs us->Vals zs ws->Vals (gV vs zs) (g us ws)
end
structure nZ (N P:List Str) (sc:Scope):Prop where
 kind:sc.kind=.function
 co:sc.isCoroutine=false
 gen:sc.isGenerator=false
 nd:N.Nodup
 pre:N.take P.length=P
 par:∀ x∈P,sc.names.lookup x=some .local\/sc.names.lookup x=some .cell
 nofree:∀ y∈sc.names,y.2≠.free
theorem mS {kindOf:Str->Option NameKind}:∀ {binds:List (Str×Value)} {m:Str->Option Value},(∀ v,(x,v)∉binds)->bindL kindOf binds m x=m x
 | [],_,_=>rfl
 | (n,v)::r,m,h=>by
  unfold bindL
  rw [mS λw hw=>h w (P9 _ hw)]
  split
  ·have:x≠n:=by rintro rfl; exact h v P4
   simp [this]
  ·rfl
theorem mT {kindOf:Str->Option NameKind}:∀ {binds:List (Str×Value)} {m:Str->Option Value},(∀ v,(x,v)∉binds)->bindC kindOf binds m x=m x
 | [],_,_=>rfl
 | (n,v)::r,m,h=>by
  unfold bindC
  rw [mT λw hw=>h w (P9 _ hw)]
  split
  ·rfl
  ·have:x≠n:=by rintro rfl; exact h v P4
   simp [this]
theorem mU {kindOf:Str->Option NameKind}:∀ {P:List Str} {vs:List Value} {i:Nat} {m:Str->Option Value},P.Nodup->P[i]?=some x->vs[i]?=some v->kindOf x=some .local ->
 bindL kindOf (P.zip vs) m x=some v
 | [],_,_,_,_,h,_,_=>by simp at h
 | _::_,[],_,_,_,_,h,_=>by simp at h
 | p::P,w::vs,0,m,nd,h1,h2,hk=>by
  simp at h1 h2; subst h1; subst h2
  show bindL kindOf ((p,w)::P.zip vs) m p=_
  unfold bindL
  rw [mS λv hv=>(Rf.mp nd).1 (U7 hv).1,if_pos hk]
  simp
 | p::P,w::vs,i+1,m,nd,h1,h2,hk=>by
  show bindL kindOf ((p,w)::P.zip vs) m x=_
  unfold bindL
  exact mU (i:=i) (Rf.mp nd).2 (by simpa using h1) (by simpa using h2) hk
theorem mV {kindOf:Str->Option NameKind}:∀ {P:List Str} {vs:List Value} {i:Nat} {m:Str->Option Value},P.Nodup->P[i]?=some x->vs[i]?=some v->kindOf x≠some .local ->
 bindC kindOf (P.zip vs) m x=some v
 | [],_,_,_,_,h,_,_=>by simp at h
 | _::_,[],_,_,_,_,h,_=>by simp at h
 | p::P,w::vs,0,m,nd,h1,h2,hk=>by
  simp at h1 h2; subst h1; subst h2
  show bindC kindOf ((p,w)::P.zip vs) m p=_
  unfold bindC
  rw [mT λv hv=>(Rf.mp nd).1 (U7 hv).1,if_neg hk]
  simp
 | p::P,w::vs,i+1,m,nd,h1,h2,hk=>by
  show bindC kindOf ((p,w)::P.zip vs) m x=_
  unfold bindC
  exact mV (i:=i) (Rf.mp nd).2 (by simpa using h1) (by simpa using h2) hk
noncomputable def start (N:List Str) (vs:List V):St:=vs.map some++Qf (N.length - vs.length) none
noncomputable def p7 (CX:Iu) (P:Program) (w:World) (K:PN) (mg:Str->Option Value) (base:Heap) (N:List Str) (qual:Str) (scope:Scope) (f:Addr) (cd:Value) (A:Around) (outer:List Env) (s:Shared) (H:Hp) (E:XK):Cx where
 prog:=P
 w:=w
 K:=K
 mg:=mg
 base:=base
 A:=A.deeper (envOfC qual scope s.heap.objs.size f cd)
 N:=N
 s₀:=s
 H₀:=H
 env:=envOfC qual scope s.heap.objs.size f cd
 outer:=outer
 stack:=envOfC qual scope s.heap.objs.size f cd::outer
 ex:=[]
 calm:=true
 fn:=λ_=>true
 pn:=[]
 xe:=λe s'=>wpAny (model P w) (A.deeper (envOfC qual scope s.heap.objs.size f cd)) (leaving (envOfC qual scope s.heap.objs.size f cd) e) (λ_ s''=>CX outer H s E e s'') (λe' s''=>CX outer H s E e' s'') s'
theorem p9 {sc:Scope} (h:sc.names.lookup x=some .cell):∃ c,(cellsFrom n sc.names []).lookup x=some c:=by
 have q:=PySem.W.cellsFrom_some sc.names n [] (.inl h)
 exact Option.isSome_iff_exists.mp q
theorem xF {K:PN}
 (S:nZ N ps scope) (hd:A.handled=none) (e0:DX P w K mg base A outer s H) (hl:vs.length=ps.length) (r:Vals vs us)
 (x:InCallC s s.heap.objs.size (bindL (envOfC qual scope s.heap.objs.size f cd).kindOf (ps.zip us) λ_=>none) (cellsFrom (s.heap.objs.size+1) scope.names []) (bindC (envOfC qual scope s.heap.objs.size f cd).kindOf (ps.zip us) λ_=>none) s1) :
 Inv (p7 CX P w K mg base N qual scope f cd A outer s H E) [] (start N vs) H s1:=by
 have hpl:ps.length<=N.length:=by have:=congrArg Si S.pre; rw [Q5] at this; lia
 obtain ⟨h1,tk,rfl,hk⟩:=x.done
 have noA:∀ b:Addr,b∉(p7 CX P w K mg base N qual scope f cd A outer s H E).ex:=λb z=>absurd (show b∈([]:List Addr) from z) (by simp)
 refine ⟨⟨e0.mod,S.kind,rfl,rfl,PU _,λy z c h1 h2=>?_,λy hy=>?_,λy c _ h=>?_,λ_=>hd,Around.frames_deeper e0.frames,.inr ⟨rfl,rfl⟩,λb z=>absurd z (noA b),e0.bs,e0.bsz,λb _ _=>noA b,λb z=>absurd z (noA b),e0.jo,e0.frf⟩,
  rfl,e0.bare,Un.kept hk,⟨_,x.toInCall.ns,λi y v h1 h2 h3=>?_⟩,λy c h=>⟨_,x.cell y c h⟩,e0.hok.fresh (PU _),λy c h=>?_,λp hp=>absurd (show p∈([]:List (Addr×Obj)) from hp) (by simp),e0.hok.kept hk,?_⟩
 ·exact name_of_addr x.apart (TU h1) (TU h2)
 ·have hy:scope.names.lookup y=some .cell\/scope.names.lookup y=some .free:=hy
  rcases hy with hy | hy
  ·exact p9 hy
  ·exact absurd rfl (S.nofree _ (TU hy))
 ·exact Sg (x.above y c (TU h))
 ·have hi:i<vs.length:=by
   unfold start at h2
   by_cases hi:i<vs.length
   ·exact hi
   ·rw [Tc (by simpa using hi)] at h2
    rw [VI] at h2
    split at h2 <;> cases h2
  have ha:vs[i]?=some v:=by
   unfold start at h2
   rw [R4 (by simpa using hi),P6] at h2
   cases e:vs[i]? with
   | none=>rw [e] at h2; cases h2
   | some a=>rw [e] at h2; cases h2; rfl
  obtain ⟨u,hu,rv⟩:=r.get ha
  have hp:ps[i]?=some y:=by
   rw [<- S.pre,UC (by lia)]; exact h1
  have ndP:ps.Nodup:=by rw [<- S.pre]; exact S.nd.sublist (UW _ _)
  refine ⟨u,rv,?_⟩
  rcases S.par y (QI hp) with k | k
  ·exact .inl ⟨k,mU ndP hp hu k⟩
  ·obtain ⟨c,e⟩:=p9 (n:=s.heap.objs.size+1) k
   refine .inr ⟨.inl k,c,e,?_⟩
   have q:=x.cell y c e
   rw [mV ndP hp hu (by show scope.names.lookup y≠_; rw [k]; decide)] at q
   exact q
 ·exact e0.hok.fresh (Sg (x.above y c (TU h)))
 ·unfold start
  show _=N.length
  rw [QE,P0,List.length_replicate]
  lia
theorem zR {K:PN} {dV kV doc pm cdv ct oc:Value}
 (lk:K.lookup f=some ⟨oc,od,.func (RS name qual params body scope dV kV doc pm an cdv ct),osl⟩) (hcd:Ve K cdv qual=true) (S:nZ N ps scope)
  (len:∀ vs H Q E,sp vs H Q E->vs.length=ps.length)
  (hbody:∀ (A:Around) (outer:List Env) (s:Shared) (H:Hp) (vs:List V) (Q:VK) (E:XK),gY k (A.deeper (envOfC qual scope s.heap.objs.size f cdv))->sp vs H Q E ->
    ∃ t,sH (p7 CX P w K mg base N qual scope f cdv A outer s H E) body t/\t { nx:=λ_ H'=>Q .non H',rt:=Q } (start N vs) H) :
  bu P w K mg base CX (k+1) f (RS name qual params body scope dV kV doc pm an cdv ct) ps sp:=by
  refine ⟨len,λA outer s H args us vs Q E hr e0 hb r mQ=>?_⟩
  have hl:=len _ _ _ _ mQ
  have KX:K.In s.heap:=e0.mod.kin.keeps λb o e=>(e0.bs b o e).1
  have lim:s.heap.NoLimit:=e0.mod.nolimit.keeps λb o e=>(e0.bs b o e).1
  have hkind:∀ y∈ps.zip us,scope.names.lookup y.1=some .local\/(scope.names.lookup y.1=some .cell/\((cellsFrom (s.heap.objs.size+1) scope.names []).lookup y.1).isSome=true):=λ⟨n,v⟩ hy=>by
   rcases S.par n (U7 hy).1 with q | q
   ·exact .inl q
   ·exact .inr ⟨q,PySem.W.cellsFrom_some _ _ _ (.inl q)⟩
  refine codeAny_call_function hr.depth (KX _ _ lk) rfl S.co S.gen rfl (PySem.W.codeRec_of KX hcd) (hb _ _ _ _ ?_)
  refine wpAny_newFunctionEnv_cells S.kind hkind λenv he s1 x=>?_
  subst he
  refine ⟨lim.keeps x.toInCall.keep,codeAny_func ?_⟩
  obtain ⟨t,ht,hq⟩:=hbody A outer s H vs Q E (hr.deeper _) mQ
  have I:Inv (p7 CX P w K mg base N qual scope f cdv A outer s H E) [] (start N vs) H s1:=xF S hr.hd e0 hl r x
  refine QL (ht [] s1 (start N vs) H _ I hq) (λfl s' hs=>?_) λe s' hs=>hs
  have fin:∀ {σ':St} {H':Hp} {v:V} {u:Value},Inv (p7 CX P w K mg base N qual scope f cdv A outer s H E) [] σ' H' s'->RelV v u->Q v H'->CE outer P w H s Q u s' :=
   λ{σ' H' v u} J rv q=>⟨v,H',J.os,J.bare,J.base,J.hok,rv,q⟩
  cases fl with
  | ret u =>
   obtain ⟨v,σ',H',J,rv,q⟩:=hs
   exact fin J rv q
  | next =>
   obtain ⟨σ',H',J,q⟩:=hs
   exact fin (v:=V.non) (u:=QG) J rfl q
  | brk =>
   obtain ⟨_,_,_,q⟩:=hs
   exact QM q
  | cont =>
   obtain ⟨_,_,_,q⟩:=hs
   exact QM q
section
variable {id T:String}
noncomputable def O5 (r:List V->Hp->VK->Prop) (t:TA):TE:=λσ H Q=>t σ H λvs H1=>r vs H1 Q
theorem zS (hc:gc X (.builtin id) r) (hg:Gl X x) (hm:X.mg x=none) (hv:bootBuiltins x=some (.builtin id)) (ha:PA X (e::es) t) (hn:x≠"__name__":=by decide) (hdb:(x == ("__debug__":Str))=false:=by decide)
 (he:starEach (e::es) X.env=(false,eval e X.env)::starEach es X.env:=by rfl) (hpl:(backTo pos (starEach es X.env)).any (·.1)=false:=by rfl):PE X (.Call (.Name x p) (e::es) [] pos) (O5 r t):=by
 intro aa s σ H Q I h
 refine Ry (dz I hg hm hv ?_ hn hdb)
 exact Vz (bz (ha pos aa s σ H _ I h) λus s1 ⟨vs,H1,I1,r1,q1⟩=>hc aa s1 σ H1 vs us Q I1 r1 q1) he hpl
theorem ju (hc:gc X (.type T) r) (hg:Gl X x) (hm:X.mg x=none) (hv:bootBuiltins x=some (.type T)) (ha:PA X (e::es) t) (hn:x≠"__name__":=by decide) (hdb:(x == ("__debug__":Str))=false:=by decide)
 (he:starEach (e::es) X.env=(false,eval e X.env)::starEach es X.env:=by rfl) (hpl:(backTo pos (starEach es X.env)).any (·.1)=false:=by rfl):PE X (.Call (.Name x p) (e::es) [] pos) (O5 r t):=by
 intro aa s σ H Q I h
 refine Ry (dz I hg hm hv ?_ hn hdb)
 exact S6 (bz (ha pos aa s σ H _ I h) λus s1 ⟨vs,H1,I1,r1,q1⟩=>hc aa s1 σ H1 vs us Q I1 r1 q1) he hpl
end
end L2
namespace HT
open PySem PyProof.Rows
noncomputable def lexLt:List Int->List Int->Bool
 | [],[]=>false
 | [],_::_=>true
 | _::_,[]=>false
 | x::xs,y::ys=>if x=y then lexLt xs ys else decide (x<y)
theorem cM (x y) (xs ys):lexLt (x::xs) (y::ys)=if x=y then lexLt xs ys else decide (x<y):=rfl
theorem g6:lexLt [] []=false:=rfl
theorem gh (y) (ys):lexLt [] (y::ys)=true:=rfl
theorem gi (x) (xs):lexLt (x::xs) []=false:=rfl
theorem zT (A:Around) (s) (a) (t:Tok) (c) (u:Tok):∃ e,Qj A s (.int a t) (.int c u) e/\(e=true↔a=c) :=
 ⟨(a == c),V1 a t c u,by simp⟩
theorem zU (A:Around) (s) (a) (t:Tok) (c) (u:Tok) (prog) (w) (E) (Q) (h:Q (.bool (decide (a<c))) s) :
 wpAny (model prog w) A (richCompare .Lt (.int a t) (.int c u)) Q E s :=
 (PyProof.Rows.lt_int h:wpAny (model prog w) A (compareOp .Lt (.int a t) (.int c u)) Q E s)
section
open PySem.SeqAt
open PySem.AutoSeq1 (wpAny_loadPart')
open PySem.MeetsSeq PySem.MeetsSeq2 PySem.MeetsSeq3
theorem ic (l b) (items items2) (n n2) (dd dd2) (sl sl2) (ns ms) (hi:IntsAre items.toList ns) (hj:IntsAre items2.toList ms) :
 Meets (Builtin.«tuple.__lt__» ⟨[.ref l,.ref b],[]⟩)
  (λ_ R s=>s.heap.get? l=some { cls:=.type "tuple",dict:=dd,data:=.seq items n,slots:=sl }/\s.heap.get? b=some { cls:=.type "tuple",dict:=dd2,data:=.seq items2 n2,slots:=sl2 } /\
    R (.ok (.ret (.bool (lexLt ns ms)))) s) :=
 .of_wp λprog w A R s h=>by
  obtain ⟨hp,g,d,tk,os⟩:=s; obtain ⟨hl,hb,h⟩:=h
  have f2:=AutoSeq1.sub_tuple_tuple
  have z1:items.size=ns.length:=by rw [<- hi.length]; simp
  have z2:items2.size=ms.length:=by rw [<- hj.length]; simp
  wp_walk using wpAny_loadPart' hl,wpAny_loadPart' hb,wpAny_forIn_list _ (λrest b s'=>b.1=none/\s'=⟨hp,g,d,tk,os⟩/\∃ (vs ws:List Value) (ns' ms':List Int),rest=vs.zip ws /\
   IntsAre vs ns'/\IntsAre ws ms'/\ns'.length+items2.size=ms'.length+items.size/\R (.ok (.ret (.bool (lexLt ns' ms')))) ⟨hp,g,d,tk,os⟩) _
  case turn =>
   rintro ⟨y,x⟩ rest b s' ⟨hb',rfl,vs,ws,ns',ms',hz,hvi,hwi,hlen,hR⟩
   cases hvi with
   | nil=>rw [List.zip_nil_left] at hz; cases hz
   | cons a t hvi' =>
    cases hwi with
    | nil=>rw [List.zip_nil_right] at hz; cases hz
    | cons c u hwi' =>
     rw [UR] at hz
     injection hz with hyx hrest
     injection hyx with hy hx
     subst hy hx
     rw [cM] at hR
     simp only [Qz] at hlen
     obtain ⟨e,he,hiff⟩:=zT A.in1 ⟨hp,g,d,tk,os⟩ a t c u
     refine PK (he prog w _ _ ?_)
     cases e with
     | true =>
      rw [if_pos (hiff.mp rfl)] at hR
      wp_walk
      exact ⟨rfl,rfl,_,_,_,_,hrest,hvi',hwi',by lia,hR⟩
     | false =>
      rw [if_neg (λq=>absurd (hiff.mpr q) P5)] at hR
      have hri:=zU A.in1 ⟨hp,g,d,tk,os⟩ a t c u prog w
      wp_walk using hri
      exact ⟨_,rfl,by simpa using hR⟩
  case fin =>
   rintro ⟨b1,b2⟩ s' ⟨hb',rfl,vs,ws,ns',ms',hz,hvi,hwi,hlen,hR⟩
   simp only at hb'
   subst hb'
   have hv:lexLt ns' ms'=decide (items.size<items2.size):=by
    cases hvi with
    | nil =>
     cases hwi with
     | nil =>
      simp only [RH] at hlen
      rw [g6]
      exact (decide_eq_false (by lia)).symm
     | cons c u hw =>
      simp only [RH,Qz] at hlen
      rw [gh]
      exact (decide_eq_true (by lia)).symm
    | cons a t hv =>
     cases hwi with
     | nil =>
      simp only [RH,Qz] at hlen
      rw [gi]
      exact (decide_eq_false (by lia)).symm
     | cons c u hw =>
      rw [UR] at hz
      cases hz
   rw [hv] at hR
   wp_walk
   exact ⟨_,rfl,by simpa [Builtin.Tuple.tupleCompareSizes] using hR⟩
  case h =>
   exact ⟨rfl,rfl,items.toList,items2.toList,ns,ms,rfl,hi,hj,by lia,h⟩
end
theorem sR (hl:IsTup s.heap l items) (hb:IsTup s.heap b items2) (hi:IntsAre items.toList ns) (hj:IntsAre items2.toList ms)
 (hu:A.units<cLine) (h:Q (.bool (lexLt ns ms)) s):wpAny (model prog w) A (compareOp .Lt (.ref l) (.ref b)) Q E s:=by
 obtain ⟨⟨cls,dd,data,sl⟩,ho,hc,n,hd⟩:=id hl
 obtain ⟨⟨cls2,dd2,data2,sl2⟩,ho2,hc2,n2,hd2⟩:=id hb
 simp only at hc hd hc2 hd2
 subst hc hd hc2 hd2
 exact richCompare_meets_room (op:=.Lt) ⟨_,ho,rfl⟩ ⟨_,ho2,rfl⟩ VO PySem.F.entry_tuple_lt (PySem.F.args_tuple_lt_2 _ _) (ic l b items items2 n n2 dd dd2 sl sl2 ns ms hi hj)
  ⟨ho,ho2,show Value.bool (lexLt ns ms)≠Value.notImplemented/\Q (.bool (lexLt ns ms)) s from ⟨(λx=>nomatch x),h⟩⟩ hu
noncomputable def cg (n d:Nat):Option Int->Nat
 | none=>d
 | some v=>if v<0 then (v+(n:Int)).toNat else min v.toNat n
theorem Iv (n d) (hd:d<=n) (o):cg n d o<=n:=by
 cases o with
 | none=>exact hd
 | some v =>
  show (if v<0 then (v+(n:Int)).toNat else min v.toNat n)<=n
  by_cases hv:v<0
  ·rw [if_pos hv]; lia
  ·rw [if_neg hv]; exact Nat.min_le_right _ _
theorem uU (v) (n d:Nat):(if v<0 then max (v+(n:Int)) 0 else min v (n:Int))=((cg n d (some v):Nat):Int):=by
 show (if v<0 then max (v+(n:Int)) 0 else min v (n:Int))=(((if v<0 then (v+(n:Int)).toNat else min v.toNat n):Nat):Int)
 by_cases hv:v<0
 ·simp only [if_pos hv]; lia
 ·simp only [if_neg hv]; lia
theorem sS (lo hi) (n:Nat):VD lo hi 1 (n:Int)=(((cg n 0 lo:Nat):Int),((cg n n hi:Nat):Int)):=by
 have h1:¬ ((1:Int)<0):=by lia
 unfold VD
 simp only [h1,if_false]
 refine Prod.ext ?_ ?_
 ·cases lo with
  | none=>rfl
  | some v=>exact uU v n 0
 ·cases hi with
  | none=>rfl
  | some v=>exact uU v n n
theorem sV (i j:Nat):UA (i:Int) (j:Int) 1=j - i:=by
 unfold UA
 have h1:(1:Int)>0:=by lia
 simp only [h1,if_true,Int.ediv_one]
 split <;> lia
theorem kI (p:IsPart v o) (h:Q o s):wpAny (model prog w) A (Builtin.Slice.slicePartIndex v) Q E s:=by
 cases p with
 | none=>exact slicePart_none h
 | int i t=>exact slicePart_int h
theorem fk {sl:Addr} {vl vu:Value} {lo hi:Option Int} {n:Nat} {Q:Int×Int×Nat->Shared->Prop} (hs:s.heap.IsSliceOf sl vl vu .none) (pl:IsPart vl lo) (pu:IsPart vu hi)
 (h:Q (((cg n 0 lo:Nat):Int),1,cg n n hi - cg n 0 lo) s):wpAny (model prog w) A (Builtin.Slice.sliceApplied (.ref sl) (pure (n:Int))) Q E s:=by
 obtain ⟨os,hos,hcs,hds⟩:=id hs
 unfold Builtin.Slice.sliceApplied Builtin.Slice.sliceFields
 refine PK (PK (QK hos hds (x:=vl) rfl (PK (QK hos hds (x:=vu) rfl (PK (QK hos hds (x:=.none) rfl (PR ?_)))))))
 refine PK (slicePart_none ?_)
 show wpAny _ _ (if ((1:Int) == 0)=true then _ else _) _ _ s
 rw [if_neg (by decide)]
 refine PK (kI pl (PK (kI pu (PK (PR ?_)))))
 show wpAny _ _ (match VD lo hi 1 (n:Int) with | (lo,hi)=>pure (lo,(1:Int),UA lo hi 1)) _ _ s
 rw [sS lo hi n]
 show wpAny _ _ (pure (((cg n 0 lo:Nat):Int),(1:Int),UA ((cg n 0 lo:Nat):Int) ((cg n n hi:Nat):Int) 1)) _ _ s
 rw [sV]
 exact PR h
theorem zV (xs:Array Value) (i k:Nat):((QC k).filterMap λ(m:Nat)=>xs[((i:Int)+(m:Int) * 1).toNat]?).toArray=((xs.toList.drop i).take k).toArray:=by
 have e:(λ(m:Nat)=>xs[((i:Int)+(m:Int) * 1).toNat]?)=λm=>xs[i+m]?:=by
  funext m
  have:((i:Int)+(m:Int) * 1).toNat=i+m:=by lia
  rw [this]
 rw [e]
 have:=pick_run xs i k
 rw [US] at this
 have e2:((λx=>xs[x]?)∘λx=>i+x)=λm=>xs[i+m]?:=rfl
 rw [e2] at this
 rw [this]
theorem iM {lo hi:Option Int} (ht:IsTup s.heap t items) (hs:s.heap.IsSliceOf sl vl vu .none) (pl:IsPart vl lo) (pu:IsPart vu hi)
 (hw:¬ (cg items.size 0 lo=0/\cg items.size items.size hi=items.size))
 (h:Q (.ref s.heap.objs.size) { s with heap:=s.heap.push { cls:=.type "tuple",data:=.seq ((items.toList.drop (cg items.size 0 lo)).take (cg items.size items.size hi - cg items.size 0 lo)).toArray } })
 (hsz:items.size<=sizeLine):wpAny (model prog w) A (getItem (.ref t) (.ref sl)) Q E s:=by
 have htake:sizeOk (.seq ((items.toList.drop (cg items.size 0 lo)).take (cg items.size items.size hi - cg items.size 0 lo)).toArray):=by
  show ((items.toList.drop (cg items.size 0 lo)).take (cg items.size items.size hi - cg items.size 0 lo)).toArray.size<=sizeLine
  rw [Qm,Q5,Wi,QS]
  lia
 have hj:cg items.size items.size hi<=items.size:=Iv _ _ (PU _) hi
 obtain ⟨os,hos,hcs,hds⟩:=id hs
 have hTs:s.TypeIs (.ref sl) "slice":=⟨os,hos,hcs⟩
 unfold getItem
 try with_reducible refine Rb ?_
 first | refine PK (PR ?_) | skip
 refine PK (V4 ht.typeIs (by decide) ?_)
 refine PK (Rx (name:=PM "__getitem__") ht.typeIs S0
  (Ra S0 ht.typeIs entry_tuple_getitem ?_ (args_tuple_getitem _ _)))
 show wpAny _ _ (Builtin.Tuple.tupleItemsOf (.ref t) >>= _) _ _ s
 refine PK (tupleItemsOf_ ht ?_)
 refine PK (Sb hTs ?_)
 rw [if_pos (by decide)]
 refine PK (fk hs pl pu ?_)
 have hno:¬ ((((cg items.size 0 lo:Nat):Int) == 0 && (1:Int) == 1 && (cg items.size items.size hi - cg items.size 0 lo) == items.size)=true):=by
  intro q
  rw [SD,SD] at q
  have q1:((cg items.size 0 lo:Nat):Int)=0:=eq_of_beq q.1.1
  have q2:cg items.size items.size hi - cg items.size 0 lo=items.size:=eq_of_beq q.2
  exact hw ⟨by lia,by lia⟩
 show wpAny _ _ (if (((cg items.size 0 lo:Nat):Int) == 0 && (1:Int) == 1 && (cg items.size items.size hi - cg items.size 0 lo) == items.size)=true then _ else _) _ _ s
 rw [if_neg hno,zV]
 first
  | exact PK (m:=UE _) (QZ (PR ⟨_,rfl,PR h⟩) htake)
  | exact PK (m:=UE _) (QZ (PK (PR (PR ⟨_,rfl,PR h⟩))) htake)
  | exact PK (PK (m:=UE _) (QZ (PR (PR ⟨_,rfl,PR h⟩)) htake))
  | exact PK (PK (m:=UE _) (QZ (PR ⟨_,rfl,PR h⟩) htake))
end HT
namespace L2
open PySem PySem.Spec PyProof.Rows
noncomputable abbrev TO:=St->Hp->(Option Int->Hp->Prop)->Prop
def PO (X:Cx) (e:Option Expr) (t:TO):Prop :=
 ∀ (aa:List (Addr×Obj)) (s:Shared) (σ:St) (H:Hp) (Q:Option Int->Hp->Prop),Inv X aa σ H s->t σ H Q ->
  wpAny (model X.prog X.w) X.A (evalPart e X.env) (λu s'=>∃ o H',Inv X aa σ H' s'/\IsPart u o/\Q o H') X.xe s
noncomputable def DY:TO:=λ_ H Q=>Q none H
noncomputable def LO (t:TE):TO:=λσ H Q=>t σ H λx H1=>∃ i,x=.int i/\Q (some i) H1
theorem intsAre_of:∀ {us:List Value},Vals (ns.map V.int) us->IntsAre us ns:=by
 induction ns with
 | nil=>intro us r; rw [RT] at r; cases r; exact .nil
 | cons n ns ih =>
  intro us r
  rw [PZ] at r
  cases r with
  | cons r1 r2 =>
   obtain ⟨t,e⟩:=r1
   subst e
   exact .cons n t (ih r2)
section
variable {lo hi:Option Expr}
theorem DZ:PO X none DY:=by
 intro aa s σ H Q I h
 rw [evalPart_none]
 exact PR ⟨none,H,I,.none,h⟩
theorem D0 (h:PE X e te):PO X (some e) (LO te):=by
 intro aa s σ H Q I hw
 rw [evalPart_some]
 refine bz (h aa s σ H _ I hw) λu s1 ⟨x,H1,I1,r1,q1⟩=>?_
 obtain ⟨i,rfl,q⟩:=q1
 obtain ⟨t,rfl⟩:=r1
 exact ⟨some i,H1,I1,.int i t,q⟩
def DH (X:Cx) (r:V->Option Int->Option Int->Hp->VK->Prop):Prop :=
 ∀ (aa:List (Addr×Obj)) (s:Shared) (σ:St) (H:Hp) (x:V) (v vl vu:Value) (lo hi:Option Int) (sl:Addr) (Q:VK),Inv X aa σ H s->RelV x v->s.heap.IsSliceOf sl vl vu .none->IsPart vl lo->IsPart vu hi->r x lo hi H Q ->
  ∃ T id,typeLookup (.type T) "__getitem__"=pure (some (.builtin id))/\s.TypeIs v T/\wpAny (model X.prog X.w) X.A (getItem v (.ref sl)) (EP X aa σ Q) X.xe s
theorem DH.or (h:DH X r) (h':DH X r'):DH X (λx lo hi H Q=>r x lo hi H Q\/r' x lo hi H Q):=by
 intro aa s σ H x v vl vu lo hi sl Q I rx hs pl pu q
 rcases q with q | q
 ·exact h aa s σ H x v vl vu lo hi sl Q I rx hs pl pu q
 ·exact h' aa s σ H x v vl vu lo hi sl Q I rx hs pl pu q
noncomputable def Px (r:V->Option Int->Option Int->Hp->VK->Prop) (te:TE) (tl th:TO):TE:=λσ H Q=>te σ H λx H1=>tl σ H1 λl H2=>th σ H2 λu H3=>r x l u H3 Q
theorem qa (hr:DH X r) (he:PE X e te) (hl:PO X lo tl) (hu:PO X hi th):PE X (.Subscript e (.Slice lo hi none p2) pos) (Px r te tl th):=by
 intro aa s σ H Q I h
 refine Subscript_ (bz (he aa s σ H _ I h) λv s1 ⟨x,H1,I1,r1,q1⟩=>?_)
 refine wpAny_Slice (bz (hl aa s1 σ H1 _ I1 q1) λvl s2 ⟨l,H2,I2,pl,q2⟩=>bz (hu aa s2 σ H2 _ I2 q2) λvu s3 ⟨u,H3,I3,pu,q3⟩=>?_)
 rw [evalPart_none]
 refine PR ?_
 have I4:Inv X aa σ H3 { s3 with heap:=s3.heap.push { cls:=.type "slice",data:=.fields #[vl,vu,.none] } }:=I3.kept (t':=s3.toks) λb ob q=>PY _ q
 obtain ⟨T,id,hT,ht,hg⟩:=hr aa { s3 with heap:=s3.heap.push { cls:=.type "slice",data:=.fields #[vl,vu,.none] } } σ H3 x v vl vu l u s3.heap.objs.size Q I4 r1 (Heap.IsSliceOf.new ..) pl pu q3
 show wpAny (model X.prog X.w) X.A (subscriptTail e (.Slice lo hi none p2) v (.ref s3.heap.objs.size)) (EP X aa σ Q) X.xe { s3 with heap:=s3.heap.push { cls:=.type "slice",data:=.fields #[vl,vu,.none] } }
 exact tail_any (ops:=[.ref s3.heap.objs.size,v]) ht hT hg (by walk_at "u")
noncomputable def kJ (xs:List V) (lo hi:Option Int):List V:=(xs.drop (HT.cg xs.length 0 lo)).take (HT.cg xs.length xs.length hi - HT.cg xs.length 0 lo)
theorem jL (xs) (lo hi):(kJ xs lo hi).length<=xs.length:=by
 unfold kJ
 rw [Q5,Wi]
 lia
noncomputable def Oo (K:PN):V->Option Int->Option Int->Hp->VK->Prop:=λx lo hi H Q=>∃ a xs,x=.ref a/\cU K H a xs /\
 ¬ (HT.cg xs.length 0 lo=0/\HT.cg xs.length xs.length hi=xs.length)/\∀ p,H p=none->Q (.ref p) (upd H p (.tup (kJ xs lo hi)))
theorem zW:DH X (Oo X.K):=by
 intro aa s σ H x v vl vu lo hi sl Q I rx hs pl pu h
 obtain ⟨a,xs,rfl,hx,hw,q⟩:=h
 cases rx
 obtain ⟨its,r,ht,hz⟩:=I.tuple hx
 have hlen:its.toArray.size=xs.length:=by rw [Qm]; exact r.length.symm
 refine ⟨"tuple",_,S0.lookup,ht.typeIs,?_⟩
 refine HT.iM ht hs pl pu (by rw [hlen]; exact hw) ?_ (by rw [hlen]; exact hz)
 rw [hlen]
 refine ⟨.ref s.heap.objs.size,_,I.laid (t':=s.toks) (o:=.tup (kJ xs lo hi)) (λb ob q=>PY _ q) (PU _) ?_,rfl,q _ (I.hok.fresh (PU _))⟩
 exact ⟨P7 (jL xs lo hi) hz,_,(r.drop (HT.cg xs.length 0 lo)).take (HT.cg xs.length xs.length hi - HT.cg xs.length 0 lo),IsTup.new _ _⟩
theorem Vals.uV (r:Vals xs us):us=[]↔xs=[]:=by
 cases r with
 | nil=>simp
 | cons _ _=>simp
end
noncomputable def Le (n:Nat) (i:Int):Option Nat:=if 0<=i then (if i<n then some i.toNat else none) else if -(n:Int)<=i then some (i+n).toNat else none
noncomputable def jM {α:Type} (xs:List α) (i:Int):Option α:=(Le xs.length i).bind λj=>xs[j]?
theorem D9 (h:Le n i=some j):seqIndex? i n=some j/\j<n/\ -(n:Int)<=i/\i<n:=by
 unfold Le at h
 by_cases h0:0<=i
 ·rw [if_pos h0] at h
  by_cases h1:i<n
  ·rw [if_pos h1] at h
   have e:i.toNat=j:=RA h
   exact ⟨by rw [seqIndex_of h0 h1,e],by lia,by lia,h1⟩
  ·rw [if_neg h1] at h; cases h
 ·rw [if_neg h0] at h
  by_cases h1: -(n:Int)<=i
  ·rw [if_pos h1] at h
   have e:(i+n).toNat=j:=RA h
   exact ⟨by rw [seqIndex_neg (by lia) h1,e],by lia,h1,by lia⟩
  ·rw [if_neg h1] at h; cases h
theorem uW (h:jM xs i=some v):∃ j,seqIndex? i xs.length=some j/\xs[j]?=some v/\j<xs.length/\ -(xs.length:Int)<=i/\i<xs.length:=by
 unfold jM at h
 cases e:Le xs.length i with
 | none=>rw [e] at h; cases h
 | some j =>
  rw [e] at h
  obtain ⟨h1,h2,h3,h4⟩:=D9 e
  exact ⟨j,h1,h,h2,h3,h4⟩
def j7 (b:Expr):Prop:=∀ o i,subscripted b false o i=operate [o,i] (getItem o i)
def GG (X:Cx) (r:R2):Prop :=
 ∀ (value slice:Expr) (aa:List (Addr×Obj)) (s:Shared) (σ:St) (H:Hp) (x y:V) (v u:Value) (Q:VK),Inv X aa σ H s->RelV x v->RelV y u->r x y H Q ->
  subscripted slice false v u=operate [v,u] (getItem v u)->wpAny (model X.prog X.w) X.A (subscriptTail value slice v u) (EP X aa σ Q) X.xe s
def Oq (X:Cx) (id:String) (r:V->List V->Hp->VK->Prop):Prop :=
 ∀ (aa:List (Addr×Obj)) (s:Shared) (σ:St) (H:Hp) (x:V) (xs:List V) (v:Value) (us:List Value) (Q:VK),Inv X aa σ H s->RelV x v->Vals xs us->r x xs H Q ->
  wpAny (model X.prog X.w) X.A (call (.builtin id) (v::us)) (EP X aa σ Q) X.xe s
section
theorem GG.or (h:GG X r) (h':GG X r'):GG X (λx y H Q=>r x y H Q\/r' x y H Q):=by
 intro value slice aa s σ H x y v u Q I rx ry q hs
 rcases q with q | q
 ·exact h value slice aa s σ H x y v u Q I rx ry q hs
 ·exact h' value slice aa s σ H x y v u Q I rx ry q hs
theorem LP (hr:GG X r) (ha:PE X a ta) (hb:PE X b tb) (hs:j7 b):PE X (.Subscript a b pos) (NC r ta tb):=by
 intro aa s σ H Q I h
 exact Subscript_ (Ig ha hb I h λv u s2 x y H2 I2 rx ry q=>hr a b aa s2 σ H2 x y v u Q I2 rx ry q (hs _ _))
noncomputable def Ot (K:PN):R2:=λx y H Q=>∃ p xs i v,x=.ref p/\y=.int i/\f7 K H p xs/\jM xs i=some v/\Q v H
noncomputable def Ou (K:PN):R2:=λx y H Q=>∃ p xs i v,x=.ref p/\y=.int i/\cU K H p xs/\jM xs i=some v/\Q v H
theorem Ea:GG X (Ot X.K):=by
 intro value slice aa s σ H x y v u Q I rx ry h hs
 obtain ⟨p,xs,i,z,rfl,rfl,hq,he,q⟩:=h
 cases rx
 obtain ⟨t,rfl⟩:=ry
 obtain ⟨its,r,pl,hz⟩:=I.list hq
 obtain ⟨j,h1,h2,h3,h4,h5⟩:=uW he
 obtain ⟨w,ew,rw'⟩:=r.get h2
 have hl:=r.length
 have hn:=nY
 have fin:EP X aa σ Q w s:=⟨z,H,I,rw',q⟩
 by_cases h0:0<=i
 ·have hj:i.toNat=j:=by
   rw [seqIndex_of h0 h5] at h1
   exact RA h1
  exact item_listR pl.isList h0 (by lia) (by rw [hj]; simpa using ew) fin hs
 ·have hj:(i+(its.toArray.size:Int)).toNat=j:=by
   rw [seqIndex_neg (by lia) h4] at h1
   rw [Qm,<- hl]
   exact RA h1
  exact subscriptTail_builtinR (x:=w) pl.isList.typeIs V7.lookup
   (wpAny_getItem_list_neg (Q:=λr s'=>r=w/\EP X aa σ Q r s') pl.isList (by lia) (by rw [Qm] <;> lia) (by lia) (by rw [hj]; simpa using ew) ⟨rfl,fin⟩) hs
theorem Iw:GG X (Ou X.K):=by
 intro value slice aa s σ H x y v u Q I rx ry h hs
 obtain ⟨p,xs,i,z,rfl,rfl,hq,he,q⟩:=h
 cases rx
 obtain ⟨t,rfl⟩:=ry
 obtain ⟨its,r,pl,hz⟩:=I.tuple hq
 obtain ⟨j,h1,h2,h3,h4,h5⟩:=uW he
 obtain ⟨w,ew,rw'⟩:=r.get h2
 have hl:=r.length
 have hn:=nY
 have fin:EP X aa σ Q w s:=⟨z,H,I,rw',q⟩
 exact subscriptTail_builtinR (x:=w) pl.typeIs slot_tuple_getitem.lookup
  (getItem_tuple (j:=j) (Q:=λr s'=>r=w/\EP X aa σ Q r s') pl (by lia) (by lia) (by rw [Qm,<- hl]; exact h1) (by simpa using ew) ⟨rfl,fin⟩) hs
theorem n5 (lo hi) (n):(sliceBounds lo hi none n).1=((HT.cg n 0 lo:Nat):Int)/\(sliceBounds lo hi none n).2.1=((HT.cg n n hi:Nat):Int)/\(sliceBounds lo hi none n).2.2=1:=by
 refine ⟨?_,?_,rfl⟩
 ·cases lo with
  | none=>simp [sliceBounds,HT.cg]
  | some i =>
   simp only [sliceBounds,HT.cg,Option.getD_none,show (1:Int)>0 by decide,if_true]
   by_cases h:i<0
   ·simp only [h,if_true] <;> lia
   ·simp only [h,if_false] <;> lia
 ·cases hi with
  | none=>simp [sliceBounds,HT.cg]
  | some i =>
   simp only [sliceBounds,HT.cg,Option.getD_none,show (1:Int)>0 by decide,if_true]
   by_cases h:i<0
   ·simp only [h,if_true] <;> lia
   ·simp only [h,if_false] <;> lia
theorem mh (its:List Value) (lo hi):slicePick its.toArray lo hi none=((its.drop (HT.cg its.length 0 lo)).take (HT.cg its.length its.length hi - HT.cg its.length 0 lo)).toArray:=by
 obtain ⟨h1,h2,h3⟩:=n5 lo hi its.toArray.size
 unfold slicePick
 rw [h1,h2,h3]
 simp only [sliceRange_one,pick_run,Qm] <;> rfl
noncomputable def Ov (K:PN):V->Option Int->Option Int->Hp->VK->Prop:=λx lo hi H Q=>∃ a xs,x=.ref a/\f7 K H a xs/\∀ p,H p=none->Q (.ref p) (upd H p (.lst (kJ xs lo hi)))
theorem Eb:DH X (Ov X.K):=by
 intro aa s σ H x v vl vu lo hi sl Q I rx hs pl pu h
 obtain ⟨a,xs,rfl,hx,q⟩:=h
 cases rx
 obtain ⟨its,r,ht,hz⟩:=I.list hx
 have hlen:=r.length
 refine ⟨"list",_,V7.lookup,ht.isList.typeIs,?_⟩
 refine wpAny_getItem_list_slice ht.isList hs pl pu .none (by simp) ?_ (by rw [Qm] <;> lia)
 rw [mh,<- hlen]
 refine ⟨.ref s.heap.objs.size,_,I.laid (t':=s.toks) (o:=.lst (kJ xs lo hi)) (λb ob q=>PY _ q) (PU _) ?_,rfl,q _ (I.hok.fresh (PU _))⟩
 exact ⟨P7 (jL xs lo hi) hz,_,0,(r.drop (HT.cg xs.length 0 lo)).take (HT.cg xs.length xs.length hi - HT.cg xs.length 0 lo),Qd _ rfl⟩
noncomputable def iN:V->Bool
 | .non=>true
 | .bl _=>true
 | .int _=>true
 | .str _=>true
 | _=>false
noncomputable def GH:V->V->Bool
 | .non,.non=>true
 | .bl a,.bl b=>a == b
 | .bl a,.int b=>(if a then 1 else 0) == b
 | .int a,.bl b=>a == (if b then 1 else 0)
 | .int a,.int b=>a == b
 | .str a,.str b=>a == b
 | _,_=>false
theorem Iz (ry:RelV y u) (rx:RelV x v) (fy:iN y=true) (fx:iN x=true):Qj A s u v (GH y x):=by
 cases y with
 | non =>
  cases ry
  cases x with
  | non=>cases rx; exact U6 _
  | bl b=>cases rx; exact Qj.none_bool b
  | int b=>obtain ⟨t,rfl⟩:=rx; exact Qj.none_int b t
  | str b=>obtain ⟨t,rfl⟩:=rx; exact Qj.none_str b t
  | _=>exact absurd (show false=true from fx) P5
 | bl a =>
  cases ry
  cases x with
  | non=>cases rx; exact Qj.bool_none a
  | bl b=>cases rx; exact Qj.bool_bool a b
  | int b=>obtain ⟨t,rfl⟩:=rx; exact Qj.bool_int a b t
  | str b=>obtain ⟨t,rfl⟩:=rx; exact Qj.bool_str a b t
  | _=>exact absurd (show false=true from fx) P5
 | int a =>
  obtain ⟨t',rfl⟩:=ry
  cases x with
  | non=>cases rx; exact Qj.int_none a t'
  | bl b=>cases rx; exact Qj.int_bool a t' b
  | int b=>obtain ⟨t,rfl⟩:=rx; exact V1 a t' b t
  | str b=>obtain ⟨t,rfl⟩:=rx; exact V0 a t' b t
  | _=>exact absurd (show false=true from fx) P5
 | str a =>
  obtain ⟨t',rfl⟩:=ry
  cases x with
  | non=>cases rx; exact Qj.str_none a t'
  | bl b=>cases rx; exact Qj.str_bool a t' b
  | int b=>obtain ⟨t,rfl⟩:=rx; exact VZ a t' b t
  | str b=>obtain ⟨t,rfl⟩:=rx; exact Qj.str_str a t' b t
  | _=>exact absurd (show false=true from fx) P5
 | _=>exact absurd (show false=true from fy) P5
noncomputable def Ec (x:V) (u:Value):Bool:=match u with
 | .none=>GH .non x
 | .bool b=>GH (.bl b) x
 | .int i _=>GH (.int i) x
 | .str z _=>GH (.str z) x
 | _=>false
theorem zX (r:RelV y u) (f:iN y=true):Ec x u=GH y x:=by
 cases y with
 | non=>cases r; rfl
 | bl b=>cases r; rfl
 | int i=>obtain ⟨t,rfl⟩:=r; rfl
 | str z=>obtain ⟨t,rfl⟩:=r; rfl
 | _=>exact absurd (show false=true from f) P5
theorem n6:∀ {xs:List V} {us:List Value},Vals xs us->xs.all iN=true->us.any (Ec x)=xs.any λy=>GH y x
 | _,_,.nil,_=>rfl
 | y::xs,u::us,.cons r t,f=>by
  rw [List.all_cons,SD] at f
  rw [Tw,Tw,zX r f.1,n6 t f.2]
theorem kK (rx:RelV x v) (fx:iN x=true):∀ {xs:List V} {us:List Value},Vals xs us->xs.all iN=true->∀ u∈us,Qj A s u v (Ec x u)
 | _,_,.nil,_=>λu hu=>by cases hu
 | y::xs,u::us,.cons r t,f=>λu' hu=>by
  rw [List.all_cons,SD] at f
  rcases P8.mp hu with rfl | hu
  ·rw [zX r f.1]; exact Iz r rx f.1 fx
  ·exact kK rx fx t f.2 u' hu
noncomputable def ND (x:V) (xs:List V):Bool:=xs.any λy=>GH y x
noncomputable def O6 (K:PN) (neg:Bool):R2:=λx y H Q=>∃ p xs,y=.ref p/\(f7 K H p xs\/cU K H p xs)/\iN x=true/\xs.all iN=true/\Q (.bl (if neg then !ND x xs else ND x xs)) H
theorem xG:fj X (compareOp .In) (O6 X.K false):=by
 intro aa s σ H x y v u Q I rx ry h
 obtain ⟨p,xs,rfl,hq,fx,fs,q⟩:=h
 cases ry
 rcases hq with hq | hq
 ·obtain ⟨its,r,pl,hz⟩:=I.list hq
  refine SeqAt.in_listAt (Ec x) pl.isList (λw hw=>kK rx fx r fs w (by simpa using hw)) ⟨.bl _,H,I,rfl,?_⟩
  rw [show its.toArray.any (Ec x)=its.any (Ec x) by simp,n6 r fs]
  exact q
 ·obtain ⟨its,r,pl,hz⟩:=I.tuple hq
  refine SeqAt.in_tupleAt (Ec x) pl (λw hw=>kK rx fx r fs w (by simpa using hw)) ⟨.bl _,H,I,rfl,?_⟩
  rw [show its.toArray.any (Ec x)=its.any (Ec x) by simp,n6 r fs]
  exact q
theorem n8:gc X (.builtin "len") (λxs H Q=>∃ p ys,xs=[.ref p]/\(f7 X.K H p ys\/cU X.K H p ys)/\Q (.int ys.length) H):=by
 intro aa s σ H xs us Q I r h
 obtain ⟨p,ys,rfl,hq,q⟩:=h
 obtain ⟨u,rfl,rx⟩:=vals1 r
 cases rx
 have hn:=nY
 rcases hq with hq | hq
 ·obtain ⟨its,r',pl,hz⟩:=I.list hq
  have hlen:=r'.length
  exact Calls.call_len_list pl.isList (by simp only [Qm] <;> lia) ⟨.int ys.length,H,I.tok _,⟨s.toks+1,by rw [Qm,hlen]⟩,q⟩
 ·obtain ⟨its,r',pl,hz⟩:=I.tuple hq
  have hlen:=r'.length
  exact len_tuple pl (by simp only [Qm] <;> lia) ⟨.int ys.length,H,I.tok _,⟨s.toks+1,by rw [Qm,hlen]⟩,q⟩
theorem n9:gc X (.type "list") (λxs H Q=>∃ p ys,xs=[.ref p]/\(f7 X.K H p ys\/cU X.K H p ys)/\∀ l,H l=none->Q (.ref l) (upd H l (.lst ys))):=by
 intro aa s σ H xs us Q I r h
 obtain ⟨p,ys,rfl,hq,q⟩:=h
 obtain ⟨u,rfl,rx⟩:=vals1 r
 cases rx
 have fin:∀ (its:List Value),Vals ys its->ys.length<=sizeLine->∀ (h':Heap) (c':Nat),(∀ b o',s.heap.get? b=some o'->h'.get? b=some o') ->
  h'.get? s.heap.objs.size=some { cls:=.type "list",dict:=none,data:=.seq its.toArray c',slots:= #[] }->EP X aa σ Q (.ref s.heap.objs.size) { s with heap:=h' }:=λits r' hz h' c' kp e =>
  ⟨.ref s.heap.objs.size,_,I.laid (t':=s.toks) kp (PU _) (show bq X.prog X.w _ h' _ (.lst ys) from ⟨hz,its,c',r',e⟩),rfl,q _ (I.hok.fresh (PU _))⟩
 rcases hq with hq | hq
 ·obtain ⟨its,r',pl,hz⟩:=I.list hq
  have hlen:=r'.length
  obtain ⟨o,ho,hc,n,hd⟩:=pl.isList
  exact call_list_seq p (.inl rfl) ho hc hd (λh' c' kp e=>fin its r' hz h' c' kp e) (by simp only [Qm] <;> lia)
 ·obtain ⟨its,r',pl,hz⟩:=I.tuple hq
  have hlen:=r'.length
  obtain ⟨o,ho,hc,n,hd⟩:=pl
  exact call_list_seq p (.inr rfl) ho hc hd (λh' c' kp e=>fin its r' hz h' c' kp e) (by simp only [Qm] <;> lia)
theorem ie:gc X (.type "tuple") (λxs H Q=>∃ p ys,xs=[.ref p]/\((f7 X.K H p ys/\∀ l,H l=none->Q (.ref l) (upd H l (.tup ys)))\/(cU X.K H p ys/\Q (.ref p) H))):=by
 intro aa s σ H xs us Q I r h
 obtain ⟨p,ys,rfl,h⟩:=h
 obtain ⟨u,rfl,rx⟩:=vals1 r
 cases rx
 rcases h with ⟨hq,q⟩ | ⟨hq,q⟩
 ·obtain ⟨its,r',pl,hz⟩:=I.list hq
  have hlen:=r'.length
  refine call_tuple_list pl.isList (λh' kp=>?_) (by simp only [Qm] <;> lia)
  have I1:Inv X aa σ H { s with heap:=h' }:=I.kept (t':=s.toks) kp
  have I2:Inv X aa σ (upd H h'.objs.size (.tup ys)) { s with heap:=h'.push { cls:=.type "tuple",data:=.seq its.toArray } } :=
   I1.laid (t':=s.toks) (λb o e=>PY _ e) (PU _) (show bq X.prog X.w _ _ _ (.tup ys) from ⟨hz,its,r',IsTup.new _ _⟩)
  exact ⟨.ref h'.objs.size,_,I2,rfl,q _ (I1.hok.fresh (PU _))⟩
 ·obtain ⟨its,r',pl,hz⟩:=I.tuple hq
  exact call_tuple_same pl ⟨.ref p,H,I,rfl,q⟩
def Ow (K:PN) (T:String) (x:V) (H:Hp):Prop:=match x with
 | .str _=>T="str"
 | .int _=>T="int"
 | .ref p=>(T="list"/\∃ xs,f7 K H p xs)\/(T="tuple"/\∃ o,K.lookup p=some o/\o.cls=.type "tuple"/\o.dict=none) \/
  (T="dict"/\((∃ kvs,H p=some (.dK kvs))\/∃ kvs,H p=some (.dT kvs)))\/(T="set"/\∃ S n,H p=some (.set S n))
 | _=>False
theorem zY (I:Inv X aa σ H s) (r:RelV x v) (ty:Ow X.K T x H) :
 s.TypeIs v T/\∀ a,v=.ref a->∃ ob,s.heap.get? a=some ob/\ob.dict=none:=by
 cases x with
 | str z =>
  obtain ⟨t,rfl⟩:=r
  cases (show T="str" from ty)
  exact ⟨typeIs_str s z t,λ_ e=>nomatch e⟩
 | int i =>
  obtain ⟨t,rfl⟩:=r
  cases (show T="int" from ty)
  exact ⟨TH s i t,λ_ e=>nomatch e⟩
 | ref p =>
  cases r
  rcases ty with ⟨rfl,xs,hq⟩ | ⟨rfl,o,hk,hc,hd⟩ | ⟨rfl,hk⟩ | ⟨rfl,S,n,hk⟩
  ·obtain ⟨its,_,pl,_⟩:=I.list hq
   refine ⟨pl.isList.typeIs,λa e=>?_⟩
   cases e
   obtain ⟨o,n,e,c,hd,_⟩:=pl
   exact ⟨o,e,hd⟩
  ·refine ⟨⟨o,I.l8 p o hk,hc⟩,λa e=>?_⟩
   cases e
   exact ⟨o,I.l8 _ o hk,hd⟩
  ·have z:∃ o,s.heap.get? p=some o/\o.ExactDict:=by
    rcases hk with ⟨kvs,hk⟩ | ⟨kvs,hk⟩
    ·obtain ⟨_,_,_,_,o,_,_,e,ex,_⟩:=I.hok p _ hk
     exact ⟨o,e,ex⟩
    ·obtain ⟨_,_,_,_,o,_,_,e,ex,_⟩:=I.hok p _ hk
     exact ⟨o,e,ex⟩
   obtain ⟨o,e,ex⟩:=z
   refine ⟨⟨o,e,ex.1⟩,λa e2=>?_⟩
   cases e2
   exact ⟨o,e,ex.2.1⟩
  ·obtain ⟨o,_,_,_,e,ex,_⟩:=I.hok p _ hk
   refine ⟨⟨o,e,ex.1⟩,λa e2=>?_⟩
   cases e2
   exact ⟨o,e,ex.2.1⟩
 | _=>exact QM ty
noncomputable def Ox (K:PN) (T:String) (r:V->List V->Hp->VK->Prop) (to:TE):TE:=λσ H Q=>to σ H λx H1=>Ow K T x H1/\r x [] H1 Q
noncomputable def Py (K:PN) (T:String) (r:V->List V->Hp->VK->Prop) (to:TE) (t:TA):TE:=λσ H Q=>to σ H λx H1=>Ow K T x H1/\t σ H1 λxs H2=>r x xs H2 Q
variable {T id:String}
theorem IB (pa:PlainAttrs T) (slot:Slot T name id) (hty:typeOf (.builtin id)=pure (.type "method_descriptor")) (hm:Oq X id r) (ho:PE X o to)
 (hbase:attributeBase o name X.env (eval o X.env)=eval o X.env:=by rfl) (hline:(apos.endLine == cpos.line)=true:=by rfl):PE X (.Call (.Attribute o name apos) [] [] cpos) (Ox X.K T r to):=by
 intro aa s σ H Q I h
 refine wpAny_Call_method0_late hbase hline (bz (ho aa s σ H _ I h) λv s1 ⟨x,H1,I1,r1,ty,q1⟩=>?_)
 obtain ⟨h1,h2⟩:=zY I1 r1 ty
 exact ⟨T,id,pa,slot,hty,h1,h2,VN rfl (PySem.evalArgs_none (hm aa s1 σ H1 x [] v [] Q I1 r1 .nil q1))⟩
theorem GI (pa:PlainAttrs T) (slot:Slot T name id) (hty:typeOf (.builtin id)=pure (.type "method_descriptor")) (hm:Oq X id r) (ho:PE X o to) (ha:PA X (e::es) t)
 (hbase:attributeBase o name X.env (eval o X.env)=eval o X.env:=by rfl)
 (hfew:((backTo cpos (starEach (e::es) X.env)).all (λx=> !x.1) && (backToKw cpos (keywordEach [] X.env)).all (λx=>x.1.isSome)
   && decide ((e::es).length+([]:List Keyword).length+(if ([]:List Keyword).isEmpty then 0 else 1)<30))=true:=by rfl)
 (hline:(apos.endLine == cpos.line)=true:=by rfl) (hs:starEach (e::es) X.env=(false,eval e X.env)::starEach es X.env:=by rfl) (hplain:(backTo cpos (starEach es X.env)).any (·.1)=false:=by rfl) :
 PE X (.Call (.Attribute o name apos) (e::es) [] cpos) (Py X.K T r to t):=by
 intro aa s σ H Q I h
 refine wpAny_Call_method_late hbase hfew hline rfl (bz (ho aa s σ H _ I h) λv s1 ⟨x,H1,I1,r1,ty,q1⟩=>?_)
 obtain ⟨h1,h2⟩:=zY I1 r1 ty
 refine ⟨T,id,pa,slot,hty,h1,h2,?_⟩
 have hA:=ha cpos aa s1 σ H1 _ I1 q1
 rw [hs] at hA |-
 refine VN (by show (false || (backTo cpos (starEach es X.env)).any (·.1))=false; rw [hplain] <;> rfl) (Calls.evalArgs_plain ?_)
 exact bz hA λus s2 ⟨vs,H2,I2,r2,q2⟩=>hm aa s2 σ H2 x vs v us Q I2 r1 r2 q2
end
def O7 (X:Cx) (id:String) (r:V->List V->Hp->VK->Prop):Prop :=
 ∀ (aa:List (Addr×Obj)) (s:Shared) (σ:St) (H:Hp) (x:V) (xs:List V) (v:Value) (us:List Value) (Q:VK),Inv X aa σ H s->RelV x v->Vals xs us->r x xs H Q ->
  wpAny (model X.prog X.w) X.A (call (.builtin id) (v::us)) (EP X aa σ Q) X.xe s
theorem Vals.one:∀ {x:V} {us:List Value},Vals [x] us->∃ u,us=[u]/\RelV x u
 | _,_,.cons r .nil=>⟨_,rfl,r⟩
theorem Vals.rep (h:Vals xs us):∀ k:Nat,Vals (Qf k xs).flatten (Qf k us).flatten
 | 0=>.nil
 | k+1=>by
  rw [RK,RK,Sz,Sz]
  exact Vals.append h (Vals.rep h k)
theorem foldl_rep (its):∀ (k:Nat) (acc:List Value),
 TL (λx1 x2=>x1++x2) acc.toArray (Qf k its.toArray)=(acc++(Qf k its).flatten).toArray
 | 0,acc=>by simp
 | k+1,acc=>by
  have e:acc.toArray++its.toArray=(acc++its).toArray:=by simp
  have e2:(acc++its)++(Qf k its).flatten=acc++(Qf (k+1) its).flatten:=by
   rw [RK,Sz,Qn]
  rw [<- e2,<- foldl_rep its k (acc++its),<- e,RK,Rp]
theorem Inv.sW {its its':List Value} (I:Inv X aa σ H s) (hH:H l=some (.lst xs))
 (e:s.heap.get? l=some { cls:=.type "list",data:=.seq its.toArray n }) (hf:f its.toArray=its'.toArray) (hv:Vals ys its') (hz:ys.length<=sizeLine) :
 Inv X aa σ (upd H l (.lst ys)) { s with heap:=s.heap.update l (QB f),toks:=t' }:=by
 have q:=PySem.IsL.update e f
 rw [hf] at q
 refine I.write (x:=l) (e:=l) (by rw [hH]; exact trivial) (.inl rfl) (λb' u hb hu=>(UI s.heap (QB f) (Qp hb)).trans hu) ⟨_,q⟩ ?_
 exact ⟨hz,its',_,hv,q⟩
theorem Inv.Ed (I:Inv X aa σ H s) (hv:Vals ys its) (hz:ys.length<=sizeLine) :
 Inv X aa σ (upd H s.heap.objs.size (.lst ys)) { s with heap:=s.heap.push { cls:=.type "list",data:=.seq its.toArray },toks:=t' } :=
 I.laid (λ_ _ q=>PY _ q) (PU _) ⟨hz,its,0,hv,Qd _ rfl⟩
theorem Inv.fresh (I:Inv X aa σ H s):H s.heap.objs.size=none:=I.hok.fresh (PU _)
theorem Inv.qb (I:Inv X aa σ H s) (hH:H l=some (.lst xs)):xs.length<=sizeLine/\∃ (its:List Value) (n:Nat),Vals xs its/\xs.length=its.length/\s.heap.get? l=some { cls:=.type "list",data:=.seq its.toArray n }:=by
 obtain ⟨z,its,n,r,e⟩:=I.hok l _ hH
 exact ⟨z,its,n,r,r.length,e⟩
theorem zZ (h:n<=sizeLine):VF n=false:=by
 unfold VF
 exact decide_eq_false (by lia)
noncomputable def Ef:V->List V->Hp->VK->Prop:=λx vs H Q=>∃ l xs y,x=.ref l/\vs=[y]/\H l=some (.lst xs)/\xs.length<sizeLine/\Q .non (upd H l (.lst (xs++[y])))
theorem mW:O7 X "list.append" Ef:=by
 intro aa s σ H x vs v us Q I rx rv h
 obtain ⟨l,xs,y,rfl,rfl,hH,hz,q⟩:=h
 cases rx
 obtain ⟨u,rfl,ru⟩:=rv.one
 obtain ⟨z,its,n,r,hl,e⟩:=I.qb hH
 refine TJ F.slot_list_append ⟨_,e,rfl⟩ F.entry_list_append (F.args_list_append_2 _ _) (PySem.list_append l its.toArray n u (by rw [Qm]; lia)) ⟨e,?_⟩
 refine ⟨.non,_,I.sW (its':=its++[u]) hH e (by simp) (r.append (.cons ru .nil)) ?_,rfl,q⟩
 rw [QE,UL]
 lia
noncomputable def Oz:R2:=λx y H Q=>∃ l k xs,x=.ref l/\y=.int k/\H l=some (.lst xs)/\ -(2 ^ 63)<=k/\k<2 ^ 63/\xs.length * k.toNat<=sizeLine /\
 ∀ p,H p=none->Q (.ref p) (upd H p (.lst (Qf k.toNat xs).flatten))
theorem len_rep {α:Type} (xs:List α) (k):(Qf k xs).flatten.length=k * xs.length:=by
 induction k with
 | zero=>simp
 | succ k ih=>rw [RK,Sz,QE,ih,Ug,Nat.add_comm]
theorem IC:fj X (binaryOp .Mult) Oz:=by
 intro aa s σ H x y v u Q I rx ry h
 obtain ⟨l,k,xs,rfl,rfl,hH,h1,h2,hz,q⟩:=h
 cases rx
 obtain ⟨t,rfl⟩:=ry
 obtain ⟨z,its,n,r,hl,e⟩:=I.qb hH
 have hlen:its.toArray.size * k.toNat<=sizeLine:=by rw [Qm,<- hl]; exact hz
 have hcap:¬ its.toArray.size * k.toNat>(2 ^ 63 - 1) / 8:=by
  have:(sizeLine:Nat)<=(2 ^ 63 - 1) / 8:=by decide
  lia
 have hfit:¬ (!Builtin.List.listFitsIndex k)=true:=by
  rw [fitsIndex_both h1 h2]
  exact P5
 have hlong:¬ VF (its.toArray.size * k.toNat)=true:=by
  rw [zZ hlen]
  exact P5
 have hnew:TL (λx1 x2=>x1++x2) #[] (Qf (if its.toArray.isEmpty=true then 0 else k.toNat) its.toArray)=(Qf k.toNat its).flatten.toArray:=by
  have f0:∀ m:Nat,TL (λx1 x2=>x1++x2) #[] (Qf m its.toArray)=(Qf m its).flatten.toArray:=λm=>by
   have:=foldl_rep its m []
   rw [RW] at this
   exact this
  rw [f0]
  cases its with
  | nil=>simp
  | cons a r'=>rw [if_neg (by simp)]
 refine wpAny_binaryOp_repeat_ref (T:="list") (U:="int") (by decide) ⟨_,e,rfl⟩ (λs'=>TH s' k t) noFill_list_mul F.fills_int_mul U9 repeat_list F.slot_int_index.lookup
  (TJ U9 (TH s k t) F.entry_int_rmul (F.args_int_rmul_2 _ _) (int___rmul___int_list k t l its.toArray n)
    ⟨e,rfl,⟨_,e,rfl⟩,TJ F.slot_list_mul ⟨_,e,rfl⟩ F.entry_list_mul (F.args_list_mul_2 _ _) (AutoListH.list___mul___list_int_3 l its.toArray n k t hfit hcap hlong) ⟨e,?_⟩⟩)
 rw [hnew]
 exact ⟨.ref _,_,I.Ed (t':=s.toks) (r.rep k.toNat) (by rw [len_rep,Uh]; exact hz),rfl,q _ I.fresh⟩
section
variable {κ:Type} [DecidableEq κ]
noncomputable def kL (kvs:List (κ×V)) (k:κ):Option V:=(kvs.find? λkv=>decide (kv.1=k)).map (·.2)
noncomputable def putK (kvs:List (κ×V)) (k:κ) (v:V):List (κ×V) :=
 if (kvs.any λkv=>decide (kv.1=k))=true then kvs.map (λkv=>if kv.1=k then (kv.1,v) else kv) else kvs++[(k,v)]
theorem kM {p:κ×V} {r:List (κ×V)} {k:κ} (e:p.1=k):kL (p::r) k=some p.2:=by simp [kL,RB,e]
theorem kN {p:κ×V} {r:List (κ×V)} {k:κ} (e:¬ p.1=k):kL (p::r) k=kL r k:=by simp [kL,RB,e]
theorem qe (k:κ):∀ kvs:List (κ×V),(kvs.any λkv=>decide (kv.1=k))=(kL kvs k).isSome
 | []=>rfl
 | p::r=>by
  rw [Tw]
  by_cases e:p.1=k
  ·simp only [kM e,decide_eq_true e,Bool.true_or,Option.isSome_some]
  ·rw [kN e,decide_eq_false e,Bool.false_or]; exact qe k r
theorem qf (kvs) (k:κ) (v):(putK kvs k v).length<=kvs.length+1:=by
 unfold putK
 split
 ·rw [P0]; lia
 ·rw [QE,Qz,RH]; lia
theorem jT.jv (r:jT o u):o.isSome=u.isSome:=by
 cases o with
 | none=>cases u with
  | none=>rfl
  | some _=>exact (show False from r).elim
 | some _=>cases u with
  | none=>exact (show False from r).elim
  | some _=>rfl
theorem jT.getD (r:jT o u) (rd:RelV d d'):RelV (o.getD d) (u.getD d'):=by
 cases o with
 | none=>cases u with
  | none=>exact rd
  | some _=>exact (show False from r).elim
 | some _=>cases u with
  | none=>exact (show False from r).elim
  | some _=>exact r
theorem KV.val (r:KV kvs vs) (k:κ):jT (kL kvs k) (valueAt vs k):=by
 unfold KV at r
 induction r with
 | nil=>exact RU
 | @cons p q ps qs h t ih =>
  obtain ⟨h1,h2⟩:=h
  by_cases e:p.1=k
  ·have e':q.1=k:=h1.symm.trans e
   have b:valueAt (q::qs) k=some q.2:=by simp [valueAt,RB,e']
   rw [kM e,b]; exact h2
  ·have e':¬ q.1=k:=λz=>e (h1.trans z)
   have b:valueAt (q::qs) k=valueAt qs k:=by simp [valueAt,RB,e']
   rw [kN e,b]; exact ih
theorem KV.any (r:KV kvs vs) (k:κ):(kvs.any λkv=>decide (kv.1=k))=vs.any λkv=>decide (kv.1=k):=by
 unfold KV at r
 induction r with
 | nil=>rfl
 | cons h t ih=>rw [Tw,Tw,ih,h.1]
theorem KV.repl (r:KV kvs vs) (k:κ) (ry:RelV y u) :
 KV (kvs.map λkv=>if kv.1=k then (kv.1,y) else kv) (vs.map λkv=>if kv.1=k then (kv.1,u) else kv):=by
 unfold KV at r |-
 induction r with
 | nil=>exact .nil
 | @cons p q ps qs h t ih =>
  rw [PZ,PZ]
  refine .cons ?_ ih
  obtain ⟨h1,h2⟩:=h
  by_cases e:p.1=k
  ·rw [if_pos e,if_pos (h1.symm.trans e)]; exact ⟨h1,ry⟩
  ·rw [if_neg e,if_neg (λz=>e (h1.trans z))]; exact ⟨h1,h2⟩
theorem KV.put (r:KV kvs vs) (k:κ) (ry:RelV y u):KV (putK kvs k y) (stored vs k u):=by
 unfold putK stored
 rw [r.any k]
 by_cases e:(vs.any λkv=>decide (kv.1=k))=true
 ·rw [if_pos e,if_pos e]; exact r.repl k ry
 ·rw [if_neg e,if_neg e]; exact Vu r ⟨rfl,ry⟩
theorem KV.length {kvs:List (κ×V)} {vs:List (κ×Value)} (r:KV kvs vs):kvs.length=vs.length:=Rl r
end
theorem qg (r:RelV (kV k) u):(b9 P w).is k u=true:=by
 cases k with
 | inl i=>obtain ⟨t,e⟩:=(show ∃ t,u=Ur i t from r); subst e; exact pY P w i t
 | inr x=>obtain ⟨t,e⟩:=(show ∃ t,u=Uq x t from r); subst e; exact pZ P w x t
theorem mX:∀ {ks:List Key} {us:List Value},Vals (ks.map kV) us->ItemsAre (b9 P w) ks us
 | [],_,r=>by rw [RT] at r; cases r; exact .nil
 | k::ks,_,r=>by
  rw [PZ] at r
  cases r with
  | cons h t=>exact .cons (qg h) (mX t)
noncomputable abbrev KT:List (List Key×Addr×V)->List (List Key×Addr×Value)->Prop:=Paired λp q=>p.1=q.1/\p.2.1=q.2.1/\RelV p.2.2 q.2.2
noncomputable def atT (kvs:List (List Key×Addr×V)) (k:List Key):Option V:=(kvs.find? λkv=>decide (kv.1=k)).map (·.2.2)
noncomputable def oh (k:List Key) (v:V) (x:List Key×Addr×V):List Key×Addr×V:=if x.1=k then (x.1,x.2.1,v) else x
noncomputable def qh (kvs:List (List Key×Addr×V)) (k:List Key) (b:Addr) (v:V):List (List Key×Addr×V) :=
 if (atT kvs k).isSome=true then kvs.map (oh k v) else kvs++[(k,b,v)]
theorem qi (kvs) (k) (b) (v):(qh kvs k b v).length<=kvs.length+1:=by
 unfold qh
 split
 ·rw [P0]; lia
 ·rw [QE,Qz,RH]; lia
theorem KT.val (r:KT kvs xs) (k):jT (atT kvs k) ((atKey xs k).map (·.2)):=by
 induction r with
 | nil=>exact RU
 | @cons p q ps qs h t ih =>
  obtain ⟨h1,_,h2⟩:=h
  by_cases e:p.1=k
  ·have e':q.1=k:=h1.symm.trans e
   have b:atKey (q::qs) k=some q.2:=by simp [atKey,RB,e']
   have b2:atT (p::ps) k=some p.2.2:=by simp [atT,RB,e]
   rw [b2,b]; exact h2
  ·have e':¬ q.1=k:=λz=>e (h1.trans z)
   have b:atKey (q::qs) k=atKey qs k:=by simp [atKey,RB,e']
   have b2:atT (p::ps) k=atT ps k:=by simp [atT,RB,e]
   rw [b2,b]; exact ih
theorem KT.repl (r:KT kvs xs) (k) (ry:RelV y u) :
 KT (kvs.map (oh k y)) (xs.map (putAt k u)):=by
 induction r with
 | nil=>exact .nil
 | @cons p q ps qs h t ih =>
  rw [PZ,PZ]
  refine .cons ?_ ih
  obtain ⟨h1,h2,h3⟩:=h
  unfold putAt oh
  by_cases e:p.1=k
  ·rw [if_pos e,if_pos (h1.symm.trans e)]; exact ⟨h1,h2,ry⟩
  ·rw [if_neg e,if_neg (λz=>e (h1.trans z))]; exact ⟨h1,h2,h3⟩
theorem KT.put (r:KT kvs xs) (k) (ry:RelV y u) :
 KT (qh kvs k b y) (storedH xs k b u):=by
 have e:(atT kvs k).isSome=(atKey xs k).isSome:=by
  rw [(r.val k).jv,Sy]
 unfold qh storedH
 rw [e]
 by_cases q:(atKey xs k).isSome=true
 ·rw [if_pos q,if_pos q]; exact r.repl k ry
 ·rw [if_neg q,if_neg q]; exact Vu r ⟨rfl,rfl,ry⟩
theorem Aa (ok:jm P w H h) (e:Rd H a u):bq P w H h a u:=e.ok ok
theorem mY (ok:jm P w H h) (e:Rd H a (.dK kvs)):kvs.length<=sizeLine/\(a == sysModules)=false/\∃ vs,KV kvs vs/\h.DictOf (b9 P w) a vs :=
 show bq P w H h a (.dK kvs) from Aa ok e
theorem LQ (ok:jm P w H h) (e:H a=some (.dK kvs)):kvs.length<=sizeLine/\(a == sysModules)=false/\∃ vs,KV kvs vs/\h.DictOf (b9 P w) a vs:=mY ok (.inl e)
theorem kO (I:Inv X aa σ H s) (e:cU X.K H a (ks.map kV)):(tupleKind (b9 X.prog X.w)).is s.heap ks a:=by
 obtain ⟨its,r,⟨o,h1,h2,n,h3⟩,_⟩:=I.tuple e
 exact ⟨o,its.toArray,n,h1,h2,h3,by simpa using mX r⟩
theorem qj (I:Inv X aa σ H s) (e:Rd H a (.dT kvs)) (hk:∀ x∈kvs,cU X.K H x.2.1 (x.1.map kV)):kvs.length<=sizeLine/\(a == sysModules)=false /\
 ∃ xs,KT kvs xs/\s.heap.DictOfH (tupleKind (b9 X.prog X.w)) a xs:=by
 obtain ⟨z,y,xs,r,o,es,ep,h1,h2,h3,h4,h5⟩:=(show bq X.prog X.w H s.heap a (.dT kvs) from Aa I.hok e)
 refine ⟨z,y,xs,r,o,es,ep,h1,h2,h3,h4,?_,h5⟩
 have all:∀ {l:List (List Key×Addr×V)} {m:List (List Key×Addr×Value)},KT l m->(∀ x∈l,cU X.K H x.2.1 (x.1.map kV))->∀ x∈m,(tupleKind (b9 X.prog X.w)).is s.heap x.1 x.2.1:=by
  intro l m q
  induction q with
  | nil=>intro _ x hx; exact nomatch hx
  | @cons p q ps qs hq t ih =>
   intro hl x hx
   rcases P8.mp hx with e | hx
   ·subst e
    rw [<- hq.1,<- hq.2.1]
    exact kO I (hl p P4)
   ·exact ih (λy hy=>hl y (P9 _ hy)) x hx
 exact all r hk
def oi (K:PN) (H:Hp) (a:Addr) (y:V) (r:Option V):Prop :=
 (∃ kvs k,Rd H a (.dK kvs)/\y=kV k/\r=kL kvs k)\/∃ kvs k b,Rd H a (.dT kvs)/\(∀ x∈kvs,cU K H x.2.1 (x.1.map kV))/\y=.ref b/\cU K H b (k.map kV)/\r=atT kvs k
def Eg (K:PN) (H:Hp) (a:Addr) (y v:V) (H':Hp):Prop :=
 (∃ kvs k,H a=some (.dK kvs)/\y=kV k/\kvs.length<sizeLine/\H'=upd H a (.dK (putK kvs k v))) \/
 ∃ kvs k b,H a=some (.dT kvs)/\(∀ x∈kvs,cU K H x.2.1 (x.1.map kV))/\y=.ref b/\cU K H b (k.map kV)/\kvs.length<sizeLine/\H'=upd H a (.dT (qh kvs k b v))
theorem Inv.big (I:Inv X aa σ H s):sysModules<s.heap.objs.size:=by
 have h:mainGlobals<s.heap.objs.size:=(I.mod.glob.keeps I.bk).lt
 exact Nat.lt_trans (by decide) h
theorem mZ (hu:A.units+1<cLine) (I:Inv X aa σ H s) (g:oi X.K H a y (some v)) (ry:RelV y u) (h:∀ w' s',Inv X aa σ H s'->RelV v w'->Q w' s') :
 wpAny (model X.prog X.w) A (getItem (.ref a) u) Q E s:=by
 rcases g with ⟨kvs,k,e,ey,l⟩ | ⟨kvs,k,b,e,hk,ey,eb,l⟩
 ·subst ey
  obtain ⟨z,hd,vs,rel,dd⟩:=mY I.hok e
  obtain ⟨w',hw,rw'⟩:=jT.some_of (v:=v) (o:=valueAt vs k) (by rw [l]; exact rel.val k)
  exact wpAny_getItem_of (qg ry) dd.mapOf hw (h w' _ (I.tok _) rw')
 ·subst ey
  cases (show u=Qk b from ry)
  obtain ⟨z,hd,xs,rel,dd⟩:=qj I e hk
  obtain ⟨w',hw,rw'⟩:=jT.some_of (v:=v) (o:=(atKey xs k).map (·.2)) (by rw [l]; exact rel.val k)
  obtain ⟨p,hp,hp2⟩:=Qc.mp hw
  refine wpAny_getItem_heap (UQ hu) (kO I eb) dd hp ?_
  rw [hp2]
  exact h w' _ (I.tok _) rw'
theorem OA (hu:A.units+1<cLine) (I:Inv X aa σ H s) (g:oi X.K H a y o) (ry:RelV y u) (h:∀ s',Inv X aa σ H s'->Q (.bool o.isSome) s') :
 wpAny (model X.prog X.w) A (compareOp .In u (.ref a)) Q E s:=by
 rcases g with ⟨kvs,k,e,ey,l⟩ | ⟨kvs,k,b,e,hk,ey,eb,l⟩
 ·subst ey
  obtain ⟨z,hd,vs,rel,dd⟩:=mY I.hok e
  refine wpAny_in_of (qg ry) hd dd.mapOf ?_
  rw [<- (rel.val k).jv,<- l]
  exact h _ (I.tok _)
 ·subst ey
  cases (show u=Qk b from ry)
  obtain ⟨z,hd,xs,rel,dd⟩:=qj I e hk
  refine wpAny_in_heap (UQ hu) (kO I eb) hd dd ?_
  have q:=(rel.val k).jv
  rw [Sy] at q
  rw [<- q,<- l]
  exact h _ (I.tok _)
theorem uX (I:Inv X aa σ H s) (mu:Lp (H a)) (hs:Rk a s.heap h') (he:∃ q,h'.get? a=some q) (new:bq X.prog X.w (upd H a ob) h' a ob) :
 Inv X aa σ (upd H a ob) { s with heap:=h',toks:=t' } :=
 I.write (x:=a) (e:=a) mu (.inl rfl) (λb q hb z=>(hs.2 b hb).trans z) he new
theorem ID (z:kvs.length<=sizeLine) (hd:(a == sysModules)=false) (rel:KV kvs vs) (dd:h'.DictOf (b9 P w) a vs) :
 bq P w H' h' a (.dK kvs):=⟨z,hd,vs,rel,dd⟩
theorem m5 (hu:A.units+1<cLine) (I:Inv X aa σ H s) (g:Eg X.K H a y v H') (ry:RelV y u) (rv:RelV v r) (h:∀ s',Inv X aa σ H' s'->Q () s') :
 wpAny (model X.prog X.w) A (setItem (.ref a) u r) Q E s:=by
 rcases g with ⟨kvs,k,e,ey,l,eH⟩ | ⟨kvs,k,b,e,hk,ey,eb,l,eH⟩
 ·subst ey eH
  obtain ⟨z,hd,vs,rel,dd⟩:=LQ I.hok e
  have hz:vs.length<=sizeLine:=by rw [<- rel.length]; exact z
  have hl:(putK kvs k v).length<=sizeLine:=by have:=qf kvs k v; lia
  refine wpAny_setItem_pairs (hsz:=hz) (qg ry) dd λh' dd' hs=>h _ ?_
  have he:∃ q,h'.get? a=some q:=let ⟨q,_,_,hq,_⟩:=dd'; ⟨q,hq⟩
  exact uX I (by rw [e]; exact RU) hs he (ID hl hd (rel.put k rv) dd')
 ·subst ey eH
  cases (show u=Qk b from ry)
  obtain ⟨z,hd,xs,rel,dd⟩:=qj I (.inl e) hk
  have hz:xs.length<=sizeLine:=by rw [<- Rl rel]; exact z
  have hl:(qh kvs k b v).length<=sizeLine:=by have:=qi kvs k b v; lia
  refine wpAny_setItem_heap (hsz:=hz) (UQ hu) (kO I eb) dd λh' dd' hs=>h _ ?_
  obtain ⟨q,es,ep,hq,h2,h3,h4,_,h5⟩:=dd'
  exact uX I (by rw [e]; exact RU) hs ⟨q,hq⟩ ⟨hl,hd,_,rel.put k rv,q,es,ep,hq,h2,h3,h4,h5⟩
def Eh (i:Expr):Prop:=∀ ov iv,subscripted i false ov iv=operate [ov,iv] (getItem ov iv)
theorem Ei {T id:String}
 (hl:typeLookup (.type T) "__getitem__"=pure (some (.builtin id))) (hs:Eh slice)
 (h:wpAny (model prog w) A (eval value env) (λo s₁=>wpAny (model prog w) A (eval slice env) (λi s₂=>s₂.TypeIs o T/\wpAny (model prog w) A (getItem o i) Q E s₂) E s₁) E s) :
 wpAny (model prog w) A (eval (.Subscript value slice pos) env) Q E s:=by
 refine Subscript_ (QL h (λo s₁ h₁=>QL h₁ (λi s₂ h₂=>?_) λ_ _ x=>x) λ_ _ x=>x)
 obtain ⟨hT,h₂⟩:=h₂
 unfold subscriptTail
 refine PK ?_
 rw [getitemInPython_of_ne hT.not_modules]
 refine PK (wpAny_specialOf hT hl ?_)
 have fin:wpAny (model prog w) A (subscripted slice false o i) (λr s₃=>wpAny (model prog w) A (letTemporaryGo value o r >>= λ_=>pure r) Q E s₃) E s₂:=by
  rw [hs o i]
  exact wpAny_operating (QL h₂ (λr s₃ h₃=>PK (wpAny_letTemporaryGo (PR h₃))) λ_ _ x=>x)
 first
  | exact PR (PK fin)
  | exact PK (PR (PK fin))
  | exact PK fin
theorem qk (I:Inv X aa σ H s) (g:oi X.K H a y o):s.TypeIs (.ref a) "dict":=by
 rcases g with ⟨kvs,k,e,_,_⟩ | ⟨kvs,k,b,e,hk,_,_,_⟩
 ·obtain ⟨_,_,vs,_,dd⟩:=mY I.hok e
  exact dd.typeIs
 ·obtain ⟨_,_,xs,_,dd⟩:=qj I e hk
  exact dd.typeIs
noncomputable def LR (X:Cx) (td ty:TE):TE:=λσ H Q=>td σ H λx H1=>ty σ H1 λy H2=>∃ a v,x=.ref a/\oi X.K H2 a y (some v)/\Q v H2
noncomputable def OB (X:Cx) (ty td:TE):TE:=λσ H Q=>ty σ H λy H1=>td σ H1 λx H2=>∃ a o,x=.ref a/\oi X.K H2 a y o/\Q (.bl o.isSome) H2
noncomputable def LS (X:Cx) (td ty tv:TE):TS:=λD σ H=>tv σ H λv H1=>td σ H1 λx H2=>ty σ H2 λy H3=>∃ a H4,x=.ref a/\Eg X.K H3 a y v H4/\D.nx σ H4
noncomputable def LU (X:Cx) (td ty tv:TE) (rd:V->V->Hp->VK->Prop):TS:=λD σ H=>td σ H λx H1=>ty σ H1 λy H2=>∃ a v,x=.ref a/\oi X.K H2 a y (some v) /\
 tv σ H2 λy2 H3=>rd v y2 H3 λz H4=>∃ H5,Eg X.K H4 a y z H5/\D.nx σ H5
theorem uY (hu:X.A.units+1<cLine) (ho:PE X o td) (hi:PE X i ty) (hs:Eh i):PE X (.Subscript o i pos) (LR X td ty):=by
 intro aa s σ H Q I h
 refine Ei PySem.F.slot_dict_getitem.lookup hs (bz (ho aa s σ H _ I h) λu s1 ⟨x,H1,I1,rx,q1⟩=>bz (hi aa s1 σ H1 _ I1 q1) λiv s2 ⟨y,H2,I2,ry,a,v,ex,g,q2⟩=>?_)
 subst ex
 obtain rfl:u=Qk a:=rx
 exact ⟨qk I2 g,mZ hu I2 g ry λw' s3 I3 rw'=>⟨v,H2,I3,rw',q2⟩⟩
theorem IE (hu:X.A.units+1<cLine) (hi:PE X i ty) (ho:PE X o td):PC X .In i o (OB X ty td):=by
 intro aa s σ H Q I h
 refine bz (hi aa s σ H _ I h) λiv s1 ⟨y,H1,I1,ry,q1⟩=>bz (ho aa s1 σ H1 _ I1 q1) λu s2 ⟨x,H2,I2,rx,a,ov,ex,g,q2⟩=>?_
 subst ex
 obtain rfl:u=Qk a:=rx
 exact OA hu I2 g ry λs3 I3=>⟨.bl ov.isSome,H2,I3,rfl,q2⟩
theorem Ej (hu:X.A.units+1<cLine) (ho:PE X o td) (hi:PE X i ty) (hv:PE X value tv) (hs:swapsWith value (some (.Subscript o i pos')) pos.line X.env=pure false) :
 PS X (.Assign [.Subscript o i pos'] value pos) (LS X td ty tv):=by
 intro aa s σ H D I h
 refine wpAny_Assign_Subscript (bz (hv aa s σ H _ I h) λr s1 ⟨v,H1,I1,rv,q1⟩=>bz (ho aa s1 σ H1 _ I1 q1) λu s2 ⟨x,H2,I2,rx,q2⟩=>bz (hi aa s2 σ H2 _ I2 q2) λiv s3 ⟨y,H3,I3,ry,a,H4,ex,g,q3⟩=>?_) hs
 subst ex
 obtain rfl:u=Qk a:=rx
 exact m5 hu I3 g ry rv λs4 I4=>⟨σ,H4,I4,q3⟩
theorem Ek (hu:X.A.units+1<cLine) (ho:PE X o td) (hi:PE X i ty) (hv:PE X value tv) (hop:LM X op rd)
 (ha:∀ ov iv new,augStore i ov iv new=(do holding [new,ov,iv] (setItem ov iv new); release [new,ov,iv] []; pure .next)):PS X (.AugAssign (.Subscript o i tpos) op value pos) (LU X td ty tv rd):=by
 intro aa s σ H D I h
 refine wpAny_AugAssign_SubscriptAny (bz (ho aa s σ H _ I h) λu s1 ⟨x,H1,I1,rx,q1⟩=>bz (hi aa s1 σ H1 _ I1 q1) λiv s2 ⟨y,H2,I2,ry,a,v,ex,g,q2⟩=>?_) ha
 subst ex
 obtain rfl:u=Qk a:=rx
 refine mZ hu I2 g ry λw' s3 I3 rw'=>bz (hv aa s3 σ H2 _ I3 q2) λw2 s4 ⟨y2,H3,I4,ry2,q3⟩=>bz (hop aa s4 σ H3 v y2 w' w2 _ I4 rw' ry2 q3) λw3 s5 ⟨z,H4,I5,rz,H5,g5,q4⟩=>?_
 exact m5 hu I5 g5 ry rz λs6 I6=>⟨σ,H5,I6,q4⟩
theorem Ab (h:Heap) (hb:sysModules<h.objs.size):bq P w H (h.push { cls:=.type "dict",data:=.dict #[] }) h.objs.size (.dK []) :=
 ⟨Qv _,beq_eq_false_iff_ne.mpr (Qp (Qu hb)),[],.nil,Heap.DictOf.new h⟩
theorem Ac (h:Heap) (hb:sysModules<h.objs.size):bq P w H (h.push { cls:=.type "dict",data:=.dict #[] }) h.objs.size (.dT []) :=
 ⟨Qv _,beq_eq_false_iff_ne.mpr (Qp (Qu hb)),[],.nil,_,#[],0,Qd _ rfl,⟨rfl,rfl,rfl⟩,rfl,rfl,List.nodup_nil⟩
noncomputable def IF:TE:=λ_ H Q=>∀ p,H p=none->Q (.ref p) (upd H p (.dK []))
noncomputable def IG:TE:=λ_ H Q=>∀ p,H p=none->Q (.ref p) (upd H p (.dT []))
theorem Ad:PE X (.Dict [] [] pos) IF:=λaa s σ H Q I h =>
 wpAny_Dict_empty ⟨.ref s.heap.objs.size,_,I.laid (a:=s.heap.objs.size) (o:=.dK []) (t':=s.toks) (λ_ _ q=>PY _ q) (PU _) (Ab s.heap I.big),rfl,h _ (I.hok.fresh (PU _))⟩
theorem Ae:PE X (.Dict [] [] pos) IG:=λaa s σ H Q I h =>
 wpAny_Dict_empty ⟨.ref s.heap.objs.size,_,I.laid (a:=s.heap.objs.size) (o:=.dT []) (t':=s.toks) (λ_ _ q=>PY _ q) (PU _) (Ac s.heap I.big),rfl,h _ (I.hok.fresh (PU _))⟩
structure M1 (X:Cx) (o:Expr) (m:Str) (apos:Pos) (e:Expr) (cpos:Pos):Prop where
 base:attributeBase o m X.env (eval o X.env)=eval o X.env
 few:((backTo cpos (starEach [e] X.env)).all (λx=> !x.1) && (backToKw cpos (keywordEach [] X.env)).all (λx=>x.1.isSome)
  && decide (([e]:List Expr).length+([]:List Keyword).length+(if ([]:List Keyword).isEmpty then 0 else 1)<30))=true
 line:(apos.endLine == cpos.line)=true
 trees:backTo cpos (starEach [e] X.env)=[(false,eval e X.env)]
structure M2 (X:Cx) (o:Expr) (m:Str) (apos:Pos) (e f:Expr) (cpos:Pos):Prop where
 base:attributeBase o m X.env (eval o X.env)=eval o X.env
 few:((backTo cpos (starEach [e,f] X.env)).all (λx=> !x.1) && (backToKw cpos (keywordEach [] X.env)).all (λx=>x.1.isSome)
  && decide (([e,f]:List Expr).length+([]:List Keyword).length+(if ([]:List Keyword).isEmpty then 0 else 1)<30))=true
 line:(apos.endLine == cpos.line)=true
 trees:backTo cpos (starEach [e,f] X.env)=[(false,eval e X.env),(false,eval f X.env)]
def OC (H:Hp) (a:Addr):Prop:=(∃ kvs,Rd H a (.dK kvs))\/∃ kvs,Rd H a (.dT kvs)
theorem II (I:Inv X aa σ H s) (d:OC H a) :
 s.TypeIs (.ref a) "dict"/\(∀ b,Qk a=.ref b->∃ ob,s.heap.get? b=some ob/\ob.dict=none)/\(a == sysModules)=false:=by
 rcases d with ⟨kvs,e⟩ | ⟨kvs,e⟩
 ·obtain ⟨_,hd,vs,_,dd⟩:=mY I.hok e
  refine ⟨dd.typeIs,λb q=>?_,hd⟩
  cases q
  obtain ⟨ob,_,_,h1,h2,_⟩:=dd
  exact ⟨ob,h1,h2.2.1⟩
 ·obtain ⟨_,hd,xs,_,ob,es,ep,h1,h2,_⟩:=(show bq X.prog X.w H s.heap a (.dT kvs) from Aa I.hok e)
  refine ⟨⟨ob,h1,h2.1⟩,λb q=>?_,hd⟩
  cases q
  exact ⟨ob,h1,h2.2.1⟩
theorem IJ (hu:A.units+1<cLine) (I:Inv X aa σ H s) (g:oi X.K H a y o) (ry:RelV y u) (rd:RelV d r) (h:∀ w' s',Inv X aa σ H s'->RelV (o.getD d) w'->Q w' s') :
 wpAny (model X.prog X.w) A (call (.builtin "dict.get") [.ref a,u,r]) Q E s:=by
 rcases g with ⟨kvs,k,e,ey,l⟩ | ⟨kvs,k,b,e,hk,ey,eb,l⟩
 ·subst ey
  obtain ⟨z,hd,vs,rel,dd⟩:=mY I.hok e
  refine call_meetsIn VP dd.typeIs PySem.F.entry_dict_get (PySem.F.args_dict_get_3 _ _ _) (meets_dict_get_default (b9 X.prog X.w) a (qg ry) hd r) ⟨_,dd.mapOf,h _ _ (I.tok _) ?_⟩
  rw [l]
  exact (rel.val k).getD rd
 ·subst ey
  cases (show u=Qk b from ry)
  obtain ⟨z,hd,xs,rel,dd⟩:=qj I e hk
  refine call_meetsIn VP dd.typeIs PySem.F.entry_dict_get (PySem.F.args_dict_get_3 _ _ _) (meetsH_dict_get_default (tupleKind (b9 X.prog X.w)) a b hd r) ⟨UQ hu,k,xs,kO I eb,dd,h _ _ (I.tok _) ?_⟩
  rw [l]
  exact (rel.val k).getD rd
noncomputable def IK (X:Cx) (td ty tx:TE):TE:=λσ H Q=>td σ H λx H1=>∃ a,x=.ref a/\OC H1 a/\ty σ H1 λy H2=>tx σ H2 λz H3=>∃ o,oi X.K H3 a y o/\Q (o.getD z) H3
theorem Af (hu:X.A.units+1<cLine) (ho:PE X o td) (he:PE X e ty) (hf:PE X f tx) (m:M2 X o "get" apos e f cpos):PE X (.Call (.Attribute o "get" apos) [e,f] [] cpos) (IK X td ty tx):=by
 intro aa s σ H Q I h
 refine wpAny_Call_method m.base m.few m.line PySem.F.plainAttrs_dict VP PySem.F.type_dict_get (bz (ho aa s σ H _ I h) λu s1 ⟨x,H1,I1,rx,a,ex,d,q1⟩=>?_)
 subst ex
 obtain rfl:u=Qk a:=rx
 obtain ⟨t1,t2,_⟩:=II I1 d
 refine ⟨t1,t2,?_⟩
 rw [m.trees]
 refine VN rfl (Calls.evalArgs_plain (V3 (bz (he aa s1 σ H1 _ I1 q1) λiv s2 ⟨y,H2,I2,ry,q2⟩ =>
  V3 (bz (hf aa s2 σ H2 _ I2 q2) λfv s3 ⟨z,H3,I3,rz,ov,g,q3⟩=>Calls.spliced_nil ?_))))
 exact IJ hu I3 g ry rz λw' s4 I4 rw'=>⟨_,H3,I4,rw',q3⟩
end L2
namespace Att
open PySem PySem.W PySem.Calls PyProof.Rows
theorem jU:∀ (ns:List Int) (vs:List Value),WellAll P h vs (ns.map WData.int)->IntsAre vs ns:=by
 intro ns
 induction ns with
 | nil =>
  intro vs w
  rw [RT] at w
  cases w
  exact .nil
 | cons n ns ih =>
  intro vs w
  rw [PZ] at w
  cases w with
  | cons a b =>
   cases a
   exact .cons _ _ (ih _ b)
theorem xH {l:OpenLaw} (hn:l.most=some n)
 (hpre:l.row.toRowW.claim.pre args=true) (hwl:WellAll P h vals args) :
 ∃ a vs ns,vals=[Qk a]/\args=[WData.list (ns.map WData.int)]/\h.get? a=some { cls:=.type "list",data:=.seq vs.toArray }/\IntsAre vs ns/\ns.length<=n:=by
 have hsh:WShape.hasAll [] args [.list .int]=true:=(pre_splitW hpre).1
 have hc:l.pre.holds [] { args:=args }=true:=(pre_splitW hpre).2
 obtain ⟨d,r,rfl,h1,h2⟩:=hasAllW_cons hsh
 obtain rfl:=hasAllW_nil h2
 obtain ⟨xs,rfl,h3⟩:=hasW_list h1
 obtain ⟨ns,rfl⟩:=items_int h3
 have hlen:ns.length<=n:=by
  unfold OpenLaw.pre at hc
  have h4:(WTm.not (.lt (.lit (.int (n:Int))) (.len (.arg 0)))).holds [] { args:=[.list (ns.map .int)] }=true:=by
   have h4:=(holds_andW hc).1
   rw [hn] at h4
   exact h4
  have h5:=condW_of h4 (w_not (w_lt w_lit (w_len_list (w_arg rfl))))
  rw [P0] at h5
  refine Nat.le_of_not_lt λq=>?_
  have q':(n:Int)<((ns.length:Nat):Int):=by lia
  first
   | (rw [decide_eq_true q'] at h5; exact absurd h5 (by decide))
   | (simp at h5; lia)
 cases hwl with
 | cons w1 w2 =>
  cases w2
  cases w1 with
  | list ho hall=>exact ⟨_,_,ns,rfl,rfl,ho,jU ns _ hall,hlen⟩
theorem xJ (l:OpenLaw) (args):l.row.toRowW.claim.post args (.bool true) args=true :=
 postW_of (r:=l.row.toRowW) (X:=(true == true))
  (show WShape.has [] (.bool true) .bool=true by first | rfl | decide | simp [WShape.has,WShape.arms,WShape.armsAll])
  (show (WTm.eq .res (.lit (.bool true))).value [] { args:=args,res:=some (.bool true),after:=args }=some (.bool (true == true)) from w_eq_bool (w_res rfl) w_lit) rfl
theorem ql {l:OpenLaw}
 (hn:l.most=some n) (hdf:d.params.defaults=[])
 (call:∀ (w:World) (s₀ s₁:Shared) (mg mb:Str->Option Value) (fa:Addr) (o:Obj) (pm cd doc:Value) (a:Addr) (vs:List Value) (ns:List Int),
   Ground q loose [] XP w s₀ mg mb s₁.heap->YP w s₁.heap ->
   s₁.heap.get? fa=some o->o.data=.func (docDef d.name d.params d.body d.scope pm cd doc)->s₁.heap.CodeRec cd d.name->mg d.name=some (.ref fa) ->
   s₁.heap.get? a=some { cls:=.type "list",data:=.seq vs.toArray }->IntsAre vs ns->ns.length<=n->s₁.gens= #[] ->
   codeAny (model l.prog w) callerA (.call (.ref fa) ⟨[.ref a],[]⟩) (λr s'=>r=.ok (.ret (.bool true))/\OldK s₁.heap s'.heap/\s'.os=s₁.os/\AllBare s'.gens) s₁) :
 WalkO q loose XP YP l.row.toRowW d [] (λf vs=>PySem.call f vs):=by
 intro w s₀ s₁ mg mb G Y fa o pm cd doc dV kV ho hd hcd hD hmg hg args vals as hpre hlay hrd hwl hlo
 obtain rfl:dV=.none:=Dflts.none hD hdf
 obtain rfl:kV=.none:=Dflts.noKw hD
 obtain ⟨a,vs,ns,rfl,rfl,hobj,hints,hlen⟩:=xH hn hpre hwl
 refine enter_call (SK (call w s₀ s₁ mg mb fa o pm cd doc a vs ns G Y ho (fd_plain hd) hcd hmg hobj hints hlen hg) λr s' hq=>?_)
 obtain ⟨rfl,h2,h3,h4⟩:=hq
 exact ⟨.inl ⟨.bool true,.bool true,[],rfl,λ_=>rfl,.bool true,xJ l _,λ_=>⟨TZ,λ_ hm=>(nomatch hm)⟩⟩,h2,h3,h4⟩
end Att
namespace L2
open PySem PySem.Spec PyProof.Rows
theorem m6:∀ {vs:List Value} {ns:List Int},IntsAre vs ns->Vals (ns.map V.int) vs
 | _,_,.nil=>.nil
 | _,_,.cons n t h=>.cons ⟨t,rfl⟩ (m6 h)
def IL (H:Hp):Prop:=∀ b,H b=none\/∃ o xs,H b=some (.frz o (.lst xs))
theorem Ag {K:PN}
 (KX:K.In s₁.heap) (hns:s₁.heap.Ns mainGlobals mg) (hb:s₁.heap.Ns builtinsNs mb) (hbb:∀ x:Str,x≠"__name__"->mb x=bootBuiltins x) (hlim:s₁.heap.NoLimit) (hg:s₁.gens= #[])
 (ha:s₁.heap.get? a=some { cls:=.type "list",data:=.seq vs.toArray }) (hi:IntsAre vs ns) (hl:ns.length<=sizeLine) (hr:gY k callerA)
 (F:∀ base:Heap,K.In base->base.Ns mainGlobals mg->bu P w K mg base CX k fa fd [x] sp) (hbind:∀ (s:Shared) (u:Value),BindsTo s fd ⟨[u],[]⟩ [(x,u)])
 (mQ:∀ H:Hp,IL H->f7 K H a (ns.map V.int)->sp [.ref a] H (λv _=>v=.bl true) λ_ _ _=>False)
 (hCX:∀ H e s',CX [] H s₁ (λ_ _ _=>False) e s'->False) :
 codeAny (model P w) callerA (.call (.ref fa) ⟨[.ref a],[]⟩) (λr s'=>r=.ok (.ret (.bool true))/\OldK s₁.heap s'.heap/\s'.os=s₁.os/\AllBare s'.gens) s₁:=by
 have rv:=m6 hi
 have lenV:=hi.length
 have core:∀ H:Hp,IL H->f7 K H a (ns.map V.int)->jm P w H s₁.heap->(∀ b,H b≠none->b=a)->(H a≠none->K.lookup a=none) ->
  codeAny (model P w) callerA (.call (.ref fa) ⟨[.ref a],[]⟩) (λr s'=>r=.ok (.ret (.bool true))/\OldK s₁.heap s'.heap/\s'.os=s₁.os/\AllBare s'.gens) s₁:=by
  intro H hO hS hok hA hK
  have base_of:∀ {b:Addr} {o:Obj},s₁.heap.get? b=some o->H b=none->(nW s₁.heap H).get? b=some o:=λe n=>zD e n
  have noA:∀ {b:Addr} {o:Obj} {es:Array DictEntry} {ep:Nat},s₁.heap.get? b=some o->o.data=.dict es ep->H b=none:=λ{b o es ep} e d=>by
   cases q:H b with
   | none=>rfl
   | some u =>
    have e':b=a:=hA b (by rw [q]; simp)
    subst e'
    rw [ha] at e; cases e
    have d':Data.seq vs.toArray _=Data.dict es ep:=d
    cases d'
  have nsK:∀ {b:Addr} {m:Str->Option Value},s₁.heap.Ns b m->(nW s₁.heap H).Ns b m:=λ{b m} ⟨o,es,ep,e,d,r⟩=>⟨o,es,ep,base_of e (noA e d),d,r⟩
  have hKb:K.In (nW s₁.heap H):=λb o e=>base_of (KX b o e) (by
   cases q:H b with
   | none=>rfl
   | some u =>
    have e':b=a:=hA b (by rw [q]; simp)
    subst e'
    rw [hK (by rw [q]; simp)] at e; cases e)
  have hM:Mod K mg (nW s₁.heap H):=⟨hKb,nsK hns,⟨mb,nsK hb,hbb⟩,let ⟨mc,h1,h2⟩:=hlim; ⟨mc,nsK h1,h2⟩⟩
  have e0:DX P w K mg (nW s₁.heap H) callerA [] s₁ H:=⟨rfl,hM,λb o e=>DP e,Nat.le_of_eq (xy _ _),trivial,λb hb=>absurd (show b∈([]:List Addr) from hb) (by simp),hok,.of_eq hg⟩
  refine SK ((F _ hKb (nsK hns)).run callerA [] s₁ H ⟨[.ref a],[]⟩ [.ref a] [.ref a] _ _ hr e0 (hbind s₁ (.ref a)) (.cons rfl .nil) (mQ H hO hS)) λr s' h=>?_
  cases r with
  | error e=>exact (hCX H e s' h).elim
  | ok fl =>
   cases fl with
   | next=>exact QM h
   | brk=>exact QM h
   | cont=>exact QM h
   | ret u =>
    obtain ⟨v,H',os,bare,un,hok',r',q⟩:=h
    have q':v=.bl true:=q
    subst q'
    obtain rfl:u=Value.bool true:=r'
    refine ⟨rfl,OldK.of_keep λb o e=>?_,os,bare⟩
    cases q:H b with
    | none=>exact un.keep b o e q (by intro z; exact absurd (show b∈([]:List Addr) from z) (by simp)) (by simp)
    | some u =>
     rcases hO b with z | ⟨ob,xs,z⟩
     ·rw [q] at z; cases z
     ·have z2:=un.frzs b ob _ z
      obtain ⟨e1,_⟩:=hok b _ z
      obtain ⟨e2,_⟩:=hok' b _ z2
      rw [e] at e1; cases e1
      exact e2
 cases hk:K.lookup a with
 | some o =>
  have e:=KX a o hk
  rw [ha] at e
  cases e
  refine core (λ_=>none) (λ_=>.inl rfl) (.inr ⟨_,vs.toArray,_,hk,rfl,rfl,rfl,by rw [Qm,lenV]; exact hl,by simpa using rv⟩) (λb u z=>by have z':(none:Option HO)=some u:=z; cases z') (λb z=>absurd rfl z) λz=>absurd rfl z
 | none =>
  refine core (λb=>if b=a then some (.frz { cls:=.type "list",data:=.seq vs.toArray } (.lst (ns.map V.int))) else none) (λb=>?_) (.inl (.inr ⟨{ cls:=.type "list",data:=.seq vs.toArray },if_pos rfl⟩)) (λb u z=>?_) (λb z=>?_) λ_=>hk
  ·by_cases hb:b=a
   ·exact .inr ⟨_,_,if_pos hb⟩
   ·exact .inl (if_neg hb)
  ·by_cases hb:b=a
   ·have z':=(if_pos hb).symm.trans z
    cases z'
    subst hb
    exact ⟨ha,by rw [P0]; exact hl,vs,_,rv,ha⟩
   ·have z':=(if_neg hb).symm.trans z
    cases z'
  ·by_cases hb:b=a
   ·exact hb
   ·exact absurd (if_neg hb) z
noncomputable abbrev fW {K:PN} {h:Heap} (_:K.In h):PN:=K
theorem El {l:PySem.W.OpenLaw} {K:Params->PN} {CX:World->Iu} {sp:World->Sp}
 (hn:l.most=some n) (hn2:n<=sizeLine) (hdf:d.params.defaults=[]) (hr:gY k callerA)
 (hY:∀ (w:World) (h:Heap),YP w h->(K w.params).In h)
 (F:∀ (w:World) (mg:Str->Option Value) (fa:Addr) (h:Heap),(K w.params).In h->h.Ns mainGlobals mg->mg d.name=some (.ref fa) ->
   ∃ fd:FuncData,(∀ (s:Shared) (u:Value),BindsTo s fd ⟨[u],[]⟩ [(x,u)]) /\
    ∀ base:Heap,(K w.params).In base->base.Ns mainGlobals mg->bu l.prog w (K w.params) mg base (CX w) k fa fd [x] (sp w))
 (mQ:∀ (w:World) (H:Hp) (a:Addr) (ns:List Int),ns.length<=n->IL H->f7 (K w.params) H a (ns.map V.int)->sp w [.ref a] H (λv _=>v=.bl true) λ_ _ _=>False)
 (hCX:∀ (w:World) (H:Hp) (s:Shared) (e:Value) (s':Shared),CX w [] H s (λ_ _ _=>False) e s'->False) :
 PySem.W.WalkO q loose XP YP l.row.toRowW d [] (λf vs=>PySem.call f vs):=by
 refine Att.ql hn hdf λw s₀ s₁ mg mb fa o pm cd doc a vs ns G Y ho hd hcd hmg hobj hints hlen hg=>?_
 have KX:=hY w _ Y
 obtain ⟨fd,hb,hF⟩:=F w mg fa _ KX G.T.g hmg
 exact Ag KX G.T.g G.T.b G.T.builtins G.T.nolimit hg hobj hints (P7 hlen hn2) hr hF hb (λH hO hS=>mQ w H a ns hlen hO hS) λH e s'=>hCX w H s₁ e s'
end L2
namespace L2
open PySem PySem.Spec PyProof.Rows
noncomputable def eV (s:Stmt):Arguments:=match s with
 | .FunctionDef _ a _ _ _ _ _ _ _ _=>a
 | _=>{ posonlyargs:=[],args:=[],vararg:=none,kwonlyargs:=[],kw_defaults:=[],kwarg:=none,defaults:=[] }
noncomputable def ay (s:Stmt):List Stmt:=match s with
 | .FunctionDef _ _ b _ _ _ _ _ _ _=>b
 | _=>[]
noncomputable def aQ (s:Stmt):Scope:=match s with
 | .FunctionDef _ _ _ _ _ _ sc _ _ _=>sc
 | _=>{ kind:=.function,names:=[],isGenerator:=false,isCoroutine:=false }
structure eS (K:PN) (x qual:Str) (st:Stmt) (f:Addr) (fd:FuncData):Prop where
 ex:∃ (oc:Value) (od:Option Addr) (kV doc pm:Value) (an:Option Addr) (cdv ct:Value) (osl:Array (Option Value)),
  fd=RS x qual (eV st) (ay st) (aQ st) .none kV doc pm an cdv ct/\K.lookup f=some ⟨oc,od,.func fd,osl⟩/\Ve K cdv qual=true
 kp:RI K (.ref f)=true
section
variable {K:PN}
theorem eS.binds {st:Stmt} (F:eS K x qual st f fd)
 (h:∀ (kV doc pm:Value) (an:Option Addr) (cdv ct:Value) (us:List Value),us.length=ps.length->bindArgs (RS x qual (eV st) (ay st) (aQ st) .none kV doc pm an cdv ct) ⟨us,[]⟩=pure (ps.zip us)):Binds K fd ps []:=by
 obtain ⟨oc,od,kV,doc,pm,an,cdv,ct,osl,rfl,lk,hcd⟩:=F.ex
 exact .all (h kV doc pm an cdv ct)
theorem IM {st:Stmt} {kV doc pm cdv ct:Value} (l:K.lookup f=some ⟨oc,od,.func (RS x qual (eV st) (ay st) (aQ st) .none kV doc pm an cdv ct),osl⟩)
 (c:Ve K cdv qual=true) (k:RI K (.ref f)=true):eS K x qual st f (RS x qual (eV st) (ay st) (aQ st) .none kV doc pm an cdv ct):=⟨⟨oc,od,kV,doc,pm,an,cdv,ct,osl,rfl,l,c⟩,k⟩
end
theorem LV (hr:gY k A):A.units+1<cLine:=RN (Nat.add_le_add_left (by decide:1<=64) _) hr.units
theorem xK (h:n<=1000):n<sizeLine:=RN h (by decide)
def aL (H H':Hp):Prop:=∀ b o,H b=some o->H' b=some o
theorem aL.refl (H):aL H H:=λ_ _ h=>h
theorem aL.trans (a:aL H H1) (b:aL H1 H2):aL H H2:=λc o h=>b c o (a c o h)
theorem aL.free (e:aL H H') (h:H' l=Option.none):H l=Option.none:=by
 cases q:H l with
 | none=>rfl
 | some o =>
  rw [e l o q] at h
  cases h
theorem aL.seq {K:PN} (e:aL H H') (h:f7 K H a xs):f7 K H' a xs:=by
 rcases h with (h | ⟨o,h⟩) | h
 ·exact .inl (.inl (e _ _ h))
 ·exact .inl (.inr ⟨o,e _ _ h⟩)
 ·exact .inr h
section
variable {κ:Type} [DecidableEq κ]
end
end L2
namespace EV
open PySem PySem.Spec PyProof.Rows L2
inductive D where
 | non | bl (b:Bool) | int (i:Int) | str (x:Str) | tup (ds:List D) | lst (ds:List D) | exc (C:Addr)
 | fdK (ks:List Key) (ds:List D) | fdT (ks:List (List Key)) (ds:List D) | adr (a:Addr)
noncomputable def sX (a C:Addr):Heap->Prop:=λh=>∃ o,h.get? a=some o/\o.cls=.ref C/\∃ vs,o.data=.fields vs
mutual
def Rep (K:PN) (H:Hp):D->V->Prop
 | .non,v=>v=.non
 | .bl b,v=>v=.bl b
 | .int i,v=>v=.int i
 | .str x,v=>v=.str x
 | .tup ds,v=>∃ a xs,v=.ref a/\cU K H a xs/\aq K H ds xs
 | .lst ds,v=>∃ a xs,v=.ref a/\f7 K H a xs/\aq K H ds xs
 | .exc C,v=>∃ a,v=.ref a/\H a=some (.ext (sX a C))
 | .fdK ks ds,v=>∃ a ys o,v=.ref a/\H a=some (.frz o (.dK ys))/\ys.map (·.1)=ks/\aq K H ds (ys.map (·.2))
 | .fdT ks ds,v=>∃ a ys o,v=.ref a/\H a=some (.frz o (.dT ys))/\ys.map (·.1)=ks/\(∀ y∈ys,cU K H y.2.1 (y.1.map kV))/\aq K H ds (ys.map (·.2.2))
 | .adr a,v=>v=.ref a
def aq (K:PN) (H:Hp):List D->List V->Prop
 | [],xs=>xs=[]
 | d::ds,xs=>∃ x r,xs=x::r/\Rep K H d x/\aq K H ds r
end
theorem av {K:PN} (e:aL H H') (h:cU K H a xs):cU K H' a xs:=by
 rcases h with (h | ⟨o,h⟩) | h
 ·exact .inl (.inl (e _ _ h))
 ·exact .inl (.inr ⟨o,e _ _ h⟩)
 ·exact .inr h
mutual
theorem Rep.mono {K:PN} {H H':Hp} (e:aL H H'):∀ (d:D) {v:V},Rep K H d v->Rep K H' d v
 | .non,_,h=>by simpa [Rep] using h
 | .bl b,_,h=>by simpa [Rep] using h
 | .int i,_,h=>by simpa [Rep] using h
 | .str x,_,h=>by simpa [Rep] using h
 | .tup ds,_,h=>by
  simp only [Rep] at h |-
  obtain ⟨a,xs,e1,h1,h2⟩:=h
  exact ⟨a,xs,e1,av e h1,aq.mono e ds h2⟩
 | .lst ds,_,h=>by
  simp only [Rep] at h |-
  obtain ⟨a,xs,e1,h1,h2⟩:=h
  exact ⟨a,xs,e1,e.seq h1,aq.mono e ds h2⟩
 | .exc C,_,h=>by
  simp only [Rep] at h |-
  obtain ⟨a,e1,h1⟩:=h
  exact ⟨a,e1,e _ _ h1⟩
 | .fdK ks ds,_,h=>by
  simp only [Rep] at h |-
  obtain ⟨a,ys,o,e1,h1,h2,h3⟩:=h
  exact ⟨a,ys,o,e1,e _ _ h1,h2,aq.mono e ds h3⟩
 | .fdT ks ds,_,h=>by
  simp only [Rep] at h |-
  obtain ⟨a,ys,o,e1,h1,h2,h3,h4⟩:=h
  exact ⟨a,ys,o,e1,e _ _ h1,h2,λy hy=>av e (h3 y hy),aq.mono e ds h4⟩
 | .adr a,_,h=>by simpa [Rep] using h
theorem aq.mono {K:PN} {H H':Hp} (e:aL H H'):∀ (ds:List D) {xs:List V},aq K H ds xs->aq K H' ds xs
 | [],_,h=>by simpa [aq] using h
 | d::ds,_,h=>by
  simp only [aq] at h |-
  obtain ⟨x,r,e1,h1,h2⟩:=h
  exact ⟨x,r,e1,Rep.mono e d h1,aq.mono e ds h2⟩
end
section
variable {K:PN}
theorem aA:Rep K H (.int i) v↔v=.int i:=by simp only [Rep]
theorem fc:Rep K H (.bl i) v↔v=.bl i:=by simp only [Rep]
theorem bR:Rep K H .non v↔v=.non:=by simp only [Rep]
theorem fM:Rep K H (.str i) v↔v=.str i:=by simp only [Rep]
theorem aH:Rep K H (.tup ds) v↔∃ a xs,v=.ref a/\cU K H a xs/\aq K H ds xs:=by simp only [Rep]
theorem aX:Rep K H (.lst ds) v↔∃ a xs,v=.ref a/\f7 K H a xs/\aq K H ds xs:=by simp only [Rep]
theorem iO:Rep K H (.fdK ks ds) v↔∃ a ys o,v=.ref a/\H a=some (.frz o (.dK ys))/\ys.map (·.1)=ks/\aq K H ds (ys.map (·.2)):=by simp only [Rep]
theorem iP:Rep K H (.fdT ks ds) v↔∃ a ys o,v=.ref a/\H a=some (.frz o (.dT ys))/\ys.map (·.1)=ks/\(∀ y∈ys,cU K H y.2.1 (y.1.map kV))/\aq K H ds (ys.map (·.2.2)):=by simp only [Rep]
theorem fm:Rep K H (.adr a) v↔v=.ref a:=by simp only [Rep]
theorem Em:Rep K H (.exc C) v↔∃ a,v=.ref a/\H a=some (.ext (sX a C)):=by simp only [Rep]
theorem aC:aq K H [] xs↔xs=[]:=by simp only [aq]
theorem aF:aq K H (d::ds) xs↔∃ x r,xs=x::r/\Rep K H d x/\aq K H ds r:=by simp only [aq]
theorem aq.length:∀ {ds:List D} {xs:List V},aq K H ds xs->ds.length=xs.length
 | [],_,h=>by rw [aC] at h; subst h; rfl
 | d::ds,_,h=>by
  rw [aF] at h
  obtain ⟨x,r,rfl,_,h2⟩:=h
  simp [aq.length h2]
theorem aq.get:∀ {ds:List D} {xs:List V} {i:Nat} {d:D},aq K H ds xs->ds[i]?=some d->∃ x,xs[i]?=some x/\Rep K H d x
 | [],_,_,_,_,e=>by simp at e
 | d::ds,_,i,d',h,e=>by
  rw [aF] at h
  obtain ⟨x,r,rfl,h1,h2⟩:=h
  cases i with
  | zero=>simp at e; subst e; exact ⟨x,by simp,h1⟩
  | succ i =>
   obtain ⟨y,e2,h3⟩:=aq.get (i:=i) (d:=d') h2 (by simpa using e)
   exact ⟨y,by simpa using e2,h3⟩
theorem aq.get':∀ {ds:List D} {xs:List V} {i:Nat} {x:V},aq K H ds xs->xs[i]?=some x->∃ d,ds[i]?=some d/\Rep K H d x:=λ{ds xs i x} h e=>by
 have hl:=h.length
 have hi:i<xs.length:=(Qa.mp e).1
 obtain ⟨y,e2,h2⟩:=h.get (i:=i) (d:=ds[i]'(by lia)) (by simp)
 rw [e] at e2; cases e2
 exact ⟨_,by simp,h2⟩
theorem aq.append:∀ {ds es:List D} {xs ys:List V},aq K H ds xs->aq K H es ys->aq K H (ds++es) (xs++ys)
 | [],_,_,_,h,g=>by rw [aC] at h; subst h; exact g
 | d::ds,_,_,_,h,g=>by
  rw [aF] at h
  obtain ⟨x,r,rfl,h1,h2⟩:=h
  exact aF.mpr ⟨x,r++_,rfl,h1,aq.append h2 g⟩
theorem aq.drop:∀ (n:Nat) {ds:List D} {xs:List V},aq K H ds xs->aq K H (ds.drop n) (xs.drop n)
 | 0,_,_,h=>h
 | n+1,[],_,h=>by rw [aC] at h; subst h; exact aC.mpr rfl
 | n+1,d::ds,_,h=>by
  rw [aF] at h
  obtain ⟨x,r,rfl,h1,h2⟩:=h
  exact aq.drop n h2
theorem aq.take:∀ (n:Nat) {ds:List D} {xs:List V},aq K H ds xs->aq K H (ds.take n) (xs.take n)
 | 0,_,_,h=>aC.mpr rfl
 | n+1,[],_,h=>by rw [aC] at h; subst h; exact aC.mpr rfl
 | n+1,d::ds,_,h=>by
  rw [aF] at h
  obtain ⟨x,r,rfl,h1,h2⟩:=h
  exact aF.mpr ⟨x,r.take n,rfl,h1,aq.take n h2⟩
theorem aq.one (h:Rep K H d v):aq K H [d] [v]:=aF.mpr ⟨v,[],rfl,h,aC.mpr rfl⟩
theorem aq.cons (h:Rep K H d v) (t:aq K H ds xs):aq K H (d::ds) (v::xs):=aF.mpr ⟨v,xs,rfl,h,t⟩
theorem jw:∀ (ns:List Int),aq K H (ns.map D.int) (ns.map V.int)
 | []=>aC.mpr rfl
 | n::ns=>.cons (aA.mpr rfl) (jw ns)
end
inductive Sh where
 | v (d:D) | l (ds:List D) | la (a:Addr) (ds:List D) | t (ss:List Sh) | ls (ss:List Sh)
noncomputable def pl (p:Addr) (xs:List V):HO:=.ext λh=>xs.length<=sizeLine/\∃ (its:List Value) (n:Nat),Vals xs its/\h.get? p=some { cls:=.type "list",data:=.seq its.toArray n }
mutual
def aG (K:PN) (H Hf:Hp):Sh->V->List (Addr×List V)->Prop
 | .v d,v,fp=>Rep K Hf d v/\fp=[]
 | .l ds,v,fp=>∃ p xs,v=.ref p/\H p=some (pl p xs)/\Hf p=none/\aq K Hf ds xs/\fp=[(p,xs)]
 | .la p ds,v,fp=>∃ xs,v=.ref p/\H p=some (pl p xs)/\Hf p=none/\aq K Hf ds xs/\fp=[(p,xs)]
 | .t ss,v,fp=>∃ a xs,v=.ref a/\cU K Hf a xs/\ah K H Hf ss xs fp
 | .ls ss,v,fp=>∃ p xs fq,v=.ref p/\H p=some (pl p xs)/\Hf p=none/\ah K H Hf ss xs fq/\fp=(p,xs)::fq
def ah (K:PN) (H Hf:Hp):List Sh->List V->List (Addr×List V)->Prop
 | [],xs,fp=>xs=[]/\fp=[]
 | s::ss,xs,fp=>∃ x r f1 f2,xs=x::r/\aG K H Hf s x f1/\ah K H Hf ss r f2/\fp=f1++f2
end
def Ah (H:Hp) (q:Addr):Prop:=∃ xs,H q=some (pl q xs)
mutual
theorem aG.mv {K:PN} {H Hf H' aj:Hp} (sf:aL Hf aj):∀ (s:Sh) {v:V} {fp:List (Addr×List V)},(∀ q∈fp,H q.1=some (pl q.1 q.2)->Hf q.1=none->H' q.1=some (pl q.1 q.2)/\aj q.1=none)->aG K H Hf s v fp->aG K H' aj s v fp
 | .v d,_,_,_,h=>by simp only [aG] at h |-; exact ⟨h.1.mono sf d,h.2⟩
 | .l ds,_,_,hk,h=>by
  simp only [aG] at h |-
  obtain ⟨p,xs,e,h1,h2,h3,rfl⟩:=h
  obtain ⟨q1,q2⟩:=hk _ P4 h1 h2
  exact ⟨p,xs,e,q1,q2,h3.mono sf ds,rfl⟩
 | .la p ds,_,_,hk,h=>by
  simp only [aG] at h |-
  obtain ⟨xs,e,h1,h2,h3,rfl⟩:=h
  obtain ⟨q1,q2⟩:=hk _ P4 h1 h2
  exact ⟨xs,e,q1,q2,h3.mono sf ds,rfl⟩
 | .t ss,_,_,hk,h=>by
  simp only [aG] at h |-
  obtain ⟨a,xs,e,h1,h2⟩:=h
  exact ⟨a,xs,e,av sf h1,ah.mv sf ss hk h2⟩
 | .ls ss,_,_,hk,h=>by
  simp only [aG] at h |-
  obtain ⟨p,xs,fq,e,h1,h2,h3,rfl⟩:=h
  obtain ⟨q1,q2⟩:=hk _ P4 h1 h2
  exact ⟨p,xs,fq,e,q1,q2,ah.mv sf ss (λq hq=>hk q (P9 _ hq)) h3,rfl⟩
theorem ah.mv {K:PN} {H Hf H' aj:Hp} (sf:aL Hf aj):∀ (ss:List Sh) {xs:List V} {fp:List (Addr×List V)},(∀ q∈fp,H q.1=some (pl q.1 q.2)->Hf q.1=none->H' q.1=some (pl q.1 q.2)/\aj q.1=none)->ah K H Hf ss xs fp->ah K H' aj ss xs fp
 | [],_,_,_,h=>by simpa only [ah] using h
 | s::ss,_,_,hk,h=>by
  simp only [ah] at h |-
  obtain ⟨x,r,f1,f2,e,h1,h2,rfl⟩:=h
  exact ⟨x,r,f1,f2,e,aG.mv sf s (λq hq=>hk q (R8 _ hq)) h1,ah.mv sf ss (λq hq=>hk q (QH _ hq)) h2,rfl⟩
end
inductive Sl where
 | un
 | va (d:D)
 | ow (ds:List D)
 | oT (kvs:List (List Key×D))
 | oK (kvs:List (Key×D))
 | aw (a:Addr) (ds:List D)
 | aT (a:Addr) (kvs:List (List Key×D))
 | aK (a:Addr) (kvs:List (Key×D))
 | fo (s:Sh)
noncomputable def l0 (K:PN) (H:Hp) {κ:Type}:List (κ×D)->List (κ×V)->Prop:=Paired λa b=>a.1=b.1/\Rep K H a.2 b.2
theorem l0.mono {K:PN} (e:aL H H') (h:l0 K H ks xs):l0 K H' ks xs :=
 Paired.HN h λa b z=>⟨z.1,Rep.mono e _ z.2⟩
noncomputable def kP (K:PN) (H:Hp):List (List Key×D)->List (List Key×Addr×V)->Prop:=Paired λa b=>a.1=b.1/\cU K H b.2.1 (a.1.map kV)/\Rep K H a.2 b.2.2
theorem kP.mono {K:PN} (e:aL H H') (h:kP K H ks xs):kP K H' ks xs :=
 Paired.HN h λa b z=>⟨z.1,av e z.2.1,Rep.mono e _ z.2.2⟩
noncomputable def aW (K:PN) (fr:Addr->Prop) (H Hf:Hp):Sl->V->Prop
 | .un,_=>False
 | .va d,v=>Rep K Hf d v
 | .ow ds,v=>∃ p xs,v=.ref p/\fr p/\H p=some (.lst xs)/\Hf p=none/\aq K Hf ds xs
 | .oT kvs,v=>∃ p xs,v=.ref p/\fr p/\H p=some (.dT xs)/\Hf p=none/\kP K Hf kvs xs
 | .oK kvs,v=>∃ p xs,v=.ref p/\fr p/\H p=some (.dK xs)/\Hf p=none/\l0 K Hf kvs xs
 | .aw a ds,v=>∃ p xs,v=.ref p/\(fr p/\p=a)/\H p=some (.lst xs)/\Hf p=none/\aq K Hf ds xs
 | .aT a kvs,v=>∃ p xs,v=.ref p/\(fr p/\p=a)/\H p=some (.dT xs)/\Hf p=none/\kP K Hf kvs xs
 | .aK a kvs,v=>∃ p xs,v=.ref p/\(fr p/\p=a)/\H p=some (.dK xs)/\Hf p=none/\l0 K Hf kvs xs
 | .fo s,v=>∃ fp,aG K H Hf s v fp/\(fp.map (·.1)).Nodup/\∀ a∈fp,fr a.1
noncomputable def Sl.owned:Sl->Bool
 | .ow _=>true | .oT _=>true | .oK _=>true | .aw _ _=>true | .aT _ _=>true | .aK _ _=>true | _=>false
structure aY (H Hf H' aj:Hp):Prop where
 s:aL H H'
 f:aL Hf aj
 b:aL aj H'
 n:∀ b,Hf b=none->H b≠none->(∀ xs,H b≠some (.tup xs))->aj b=none
theorem aY.refl (b:aL Hf H):aY H Hf H Hf:=⟨.refl _,.refl _,b,λ_ h _ _=>h⟩
theorem aY.trans (a:aY H Hf H1 aM) (b:aY H1 aM H2 cD):aY H Hf H2 cD :=
 ⟨a.s.trans b.s,a.f.trans b.f,b.b,λc h1 h2 h3=>by
   cases q:H c with
   | none=>exact absurd q h2
   | some o =>
    have e:=a.s c o q
    exact b.n c (a.n c h1 h2 h3) (by rw [e]; simp) (by intro xs; rw [e,<- q]; exact h3 xs)⟩
theorem aY.new (b:aL Hf H) (hp:H p=none):aY H Hf (upd H p o) (upd Hf p o):=by
 have hf:Hf p=none:=b.free hp
 refine ⟨λc u h=>?_,λc u h=>?_,λc u h=>?_,λc h1 h2 _=>?_⟩
 ·rw [ak (aE h hp)]; exact h
 ·rw [ak (aE h hf)]; exact h
 ·by_cases e:c=p
  ·subst e; rw [ai] at h |-; exact h
  ·rw [ak e] at h |-; exact b c u h
 ·by_cases e:c=p
  ·subst e; exact absurd hp h2
  ·rw [ak e]; exact h1
theorem aY.gj (b:aL Hf H) (hp:H p=none):aY H Hf (upd H p o) Hf :=
 ⟨(aY.new b hp (o:=o)).s,.refl _,λc u h=>(aY.new b hp (o:=o)).s c u (b c u h),λ_ h _ _=>h⟩
inductive At {α:Type}:List α->Nat->α->Prop where
 | z {x:α} {l:List α}:At (x::l) 0 x
 | s {x y:α} {l:List α} {i:Nat}:At l i x->At (y::l) (i+1) x
theorem At.get (h:At l i x):l[i]?=some x:=by
 induction h with
 | z=>rfl
 | s _ ih=>simpa using ih
theorem At.mem (h:At l i x):x∈l:=QI h.get
inductive SSet {α:Type}:List α->Nat->α->List α->Prop where
 | z {x r:α} {l:List α}:SSet (x::l) 0 r (r::l)
 | s {r y:α} {l l':List α} {i:Nat}:SSet l i r l'->SSet (y::l) (i+1) r (y::l')
theorem SSet.eq (h:SSet l i r l'):l'=l.set i r:=by
 induction h with
 | z=>rfl
 | s _ ih=>simp [ih]
structure dB (K:PN) (H₀ dR:Hp) (σ:L2.St) (H Hf:Hp) (ρ:List Sl):Prop where
 bas:aY H₀ dR H Hf
 len:σ.length=ρ.length
 at_:∀ (i:Nat) (r:Sl),ρ[i]?=some r->r≠.un->∃ v,σ[i]?=some (some v)/\aW K (λp=>H₀ p=none) H Hf r v
 sep:∀ (i j:Nat) (r r':Sl) (p:Addr),i≠j->ρ[i]?=some r->ρ[j]?=some r'->r.owned=true->r'.owned=true->σ[i]?=some (some (.ref p))->σ[j]?≠some (some (.ref p))
structure LW (P:Program) (w:World) (outer:List Env) (H:Hp) (s:Shared) (a C:Addr) (H':Hp) (s':Shared):Prop where
 os:s'.os=s.os
 bare:AllBare s'.gens
 un:Un (frs outer) [] H H' s.heap s'.heap
 hok:jm P w H' s'.heap
 new:s.heap.get? a=none
 free:H' a=none
 fly:∃ (t:Addr) (B:Heap),Heap.FlyingW B outer a (.ref C) (.ref t) s'.heap/\(∀ b o,s.heap.get? b=some o->b∉frs outer->∃ o',s'.heap.get? b=some o'/\B.get? b=some o') /\
  ∀ b o,H' b≠none->s'.heap.get? b=some o->B.get? b=some o
noncomputable def di (P:Program) (w:World):Iu:=λouter H s E e s'=>∃ a C H',e=.ref a/\LW P w outer H s a C H' s'/\E (.ref C) (some a) H'
set_option genInjectivity false in
structure Ctx (P:Program) (w:World) (K:PN) (mg:Str->Option Value) (base:Heap) (k:Nat) (N:List Str) (sc:Scope) (bk:Bool) where
 X:Cx
 eP:X.prog=P
 ew:X.w=w
 eK:X.K=K
 emg:X.mg=mg
 eb:X.base=base
 eN:X.N=N
 esc:X.env.scope=sc
 calm:X.calm=true
 top:bk=false->X.stack=X.env::X.outer/\X.env.frame=some X.env.locals/\X.ex=[]
 cb:bk=false->∀ (aa:List (Addr×Obj)) (σ:L2.St) (H:Hp) (s:Shared),Inv X aa σ H s->∀ (x:Str) (c:Addr),X.env.cells.lookup x=some c->X.s₀.heap.objs.size<=c
 fn:∀ x,bk=false\/sc.names.lookup x=some .local->X.fn x=true\/X.env.scope.names.lookup x=some .local
 room:gY k X.A
 nd:N.Nodup
 vis:∀ x∈N,Loc sc x
 Hf:Hp
 B:Hp
 RX:Addr->List Sl->Prop
 exc:∀ (C a:Addr) (aa:List (Addr×Obj)) (σ:L2.St) (H aj:Hp) (ρ:List Sl) (s:Shared) (H':Hp) (s':Shared),Inv X aa σ H s->dB X.K B Hf σ H aj ρ->RX C ρ->LW X.prog X.w X.stack H s a C H' s'->aL H H'->X.xe (.ref a) s'
 RM:Addr->List Sl->Prop
 mde:∀ (C a:Addr) (aa:List (Addr×Obj)) (σ:L2.St) (H aj:Hp) (ρ:List Sl) (s:Shared) (h':Heap) (us:List Value),Inv X aa σ H s->dB X.K B Hf σ H aj ρ->RM C ρ->Heap.MadeExcOf s.heap h' a (.ref C) us->X.xe (.ref a) { s with heap:=h' }
noncomputable def Sl.sY:Sl->Bool | .fo _=>true | _=>false
abbrev pR {α:Type} (fr:Addr->Prop) (H Hf:Hp) (o:α->HO) (R:α->Prop) (v:V):Prop:=∃ (p:Addr) (xs:α),v=.ref p/\fr p/\H p=some (o xs)/\Hf p=none/\R xs
theorem pR.Lf (h:pR fr H Hf o R v) (hk:∀ p,v=.ref p->∀ u,(∀ ys,u≠.tup ys)->H p=some u->Hf p=none->H' p=some u/\aj p=none) (ho:∀ xs ys,o xs≠.tup ys) (hR:∀ xs,R xs->R' xs):pR fr H' aj o R' v:=by
 obtain ⟨p,xs,e,f,h1,h2,h3⟩:=h
 exact ⟨p,xs,e,f,(hk p e _ (ho xs) h1 h2).1,(hk p e _ (ho xs) h1 h2).2,hR xs h3⟩
theorem pR.Lg (h:pR fr H Hf o R v) (hf:∀ p,fr p->fr' p):pR fr' H Hf o R v :=
 let ⟨p,xs,e,f,h⟩:=h; ⟨p,xs,e,hf p f,h⟩
theorem aW.mv {K:PN} {B:Addr->Prop} (sf:aL Hf aj) (hk:∀ q o,¬ B q->H q=some o->(∀ xs,o≠.tup xs)->Hf q=none->H' q=some o/\aj q=none):∀ {r:Sl} {v:V},
 (r.sY=true->∀ q,B q->¬ Ah H q)->(r.owned=true->∀ q,v=.ref q->¬ B q)->aW K fr H Hf r v->aW K fr H' aj r v
 | .un,_,_,_,h=>h
 | .va d,_,_,_,h=>Rep.mono sf d h
 | .ow ds,_,_,hv,h=>pR.Lf h (λp e o z ho hf=>hk p o (hv rfl p e) ho z hf) (λ_ _ z=>by cases z) λ_ h=>h.mono sf
 | .oT kvs,_,_,hv,h=>pR.Lf h (λp e o z ho hf=>hk p o (hv rfl p e) ho z hf) (λ_ _ z=>by cases z) λ_ h=>h.mono sf
 | .oK kvs,_,_,hv,h=>pR.Lf h (λp e o z ho hf=>hk p o (hv rfl p e) ho z hf) (λ_ _ z=>by cases z) λ_ h=>h.mono sf
 | .aw a ds,_,_,hv,h=>pR.Lf h (λp e o z ho hf=>hk p o (hv rfl p e) ho z hf) (λ_ _ z=>by cases z) λ_ h=>h.mono sf
 | .aT a kvs,_,_,hv,h=>pR.Lf h (λp e o z ho hf=>hk p o (hv rfl p e) ho z hf) (λ_ _ z=>by cases z) λ_ h=>h.mono sf
 | .aK a kvs,_,_,hv,h=>pR.Lf h (λp e o z ho hf=>hk p o (hv rfl p e) ho z hf) (λ_ _ z=>by cases z) λ_ h=>h.mono sf
 | .fo s,_,hB,_,⟨fp,h1,h2,h3⟩=>⟨fp,aG.mv sf s (λq _ e1 e2=>hk q.1 _ (λb=>hB rfl q.1 b ⟨q.2,e1⟩) e1 (by intro ys z; cases z) e2) h1,h2,h3⟩
theorem aW.cA {K:PN} (g:aY H Hf H' aj) (h:aW K fr H Hf r v):aW K fr H' aj r v :=
 aW.mv (B:=λ_=>False) g.f (λq o _ e1 e2 e3=>⟨g.s _ _ e1,g.n q e3 (by rw [e1]; simp) λxs z=>e2 xs (by rw [e1] at z; exact RA z)⟩) (λ_ _ z=>z.elim) (λ_ _ _ z=>z) h
theorem aW.weak {K:PN} (hf:∀ p,fr p->fr' p):∀ {r:Sl} {v:V},aW K fr H Hf r v->aW K fr' H Hf r v
 | .un,_,h=>h
 | .va d,_,h=>h
 | .ow ds,_,h=>pR.Lg h hf
 | .oT ds,_,h=>pR.Lg h hf
 | .oK ds,_,h=>pR.Lg h hf
 | .aw a ds,_,h=>pR.Lg h λp f=>⟨hf p f.1,f.2⟩
 | .aT a ds,_,h=>pR.Lg h λp f=>⟨hf p f.1,f.2⟩
 | .aK a ds,_,h=>pR.Lg h λp f=>⟨hf p f.1,f.2⟩
 | .fo s,_,⟨fp,h1,h2,h3⟩=>⟨fp,h1,h2,λa ha=>hf _ (h3 a ha)⟩
section
variable {K:PN}
def Ctx.fr (c:Ctx P w K mg base k N sc bk) (p:Addr):Prop:=c.B p=none
abbrev bw (c:Ctx P w K mg base k N sc bk) (σ:L2.St) (H Hf:Hp) (ρ:List Sl):Prop:=dB c.X.K c.B c.Hf σ H Hf ρ
theorem dB.cA (S:dB K H₀ dR σ H Hf ρ) (g:aY H Hf H' aj):dB K H₀ dR σ H' aj ρ :=
 ⟨S.bas.trans g,S.len,λi r h hr=>let ⟨v,e,q⟩:=S.at_ i r h hr; ⟨v,e,q.cA g⟩,S.sep⟩
theorem dB.sb (S:dB K H₀ dR σ H Hf ρ):aL Hf H:=S.bas.b
theorem dB.va (S:dB K H₀ dR σ H Hf ρ) {i:Nat} (h:ρ[i]?=some (.va d)):∃ v,σ[i]?=some (some v)/\Rep K Hf d v:=S.at_ i _ h (by simp)
theorem dB.set (S:dB K H₀ dR σ H Hf ρ) (g:aY H Hf H1 aM) (hr:aW K (λp=>H p=none) H1 aM r v) :
 dB K H₀ dR (σ.set i (some v)) H1 aM (ρ.set i r):=by
 have S1:=S.cA g
 have fr0:∀ p,H p=none->H₀ p=none:=λp h=>S.bas.s.free h
 have fresh:∀ p,r.owned=true->v=.ref p->H p=none:=λp ho e=>by
  subst e
  cases r with
  | un=>cases ho
  | va d=>cases ho
  | ow ds=>obtain ⟨p',xs,e,h,_⟩:=hr; cases e; exact h
  | oT ds=>obtain ⟨p',xs,e,h,_⟩:=hr; cases e; exact h
  | oK ds=>obtain ⟨p',xs,e,h,_⟩:=hr; cases e; exact h
  | aw a ds=>obtain ⟨p',xs,e,h,_⟩:=hr; cases e; exact h.1
  | aT a ds=>obtain ⟨p',xs,e,h,_⟩:=hr; cases e; exact h.1
  | aK a ds=>obtain ⟨p',xs,e,h,_⟩:=hr; cases e; exact h.1
  | fo s=>cases ho
 have old:∀ (j:Nat) (r':Sl) (p:Addr),ρ[j]?=some r'->r'.owned=true->σ[j]?=some (some (.ref p))->H p≠none:=λj r' p h ho hs=>by
  obtain ⟨v',e,q⟩:=S.at_ j r' h (by rintro rfl; cases ho)
  rw [hs] at e; cases e
  cases r' with
  | un=>cases ho
  | va d=>cases ho
  | ow ds=>obtain ⟨p',xs,e,_,h,_⟩:=q; cases e; rw [h]; simp
  | oT ds=>obtain ⟨p',xs,e,_,h,_⟩:=q; cases e; rw [h]; simp
  | oK ds=>obtain ⟨p',xs,e,_,h,_⟩:=q; cases e; rw [h]; simp
  | aw a ds=>obtain ⟨p',xs,e,_,h,_⟩:=q; cases e; rw [h]; simp
  | aT a ds=>obtain ⟨p',xs,e,_,h,_⟩:=q; cases e; rw [h]; simp
  | aK a ds=>obtain ⟨p',xs,e,_,h,_⟩:=q; cases e; rw [h]; simp
  | fo s=>cases ho
 refine ⟨S1.bas,by simp [S.len],λj r' hj hu=>?_,λj j' r1 r2 p hne h1 h2 o1 o2 e1 e2=>?_⟩
 ·by_cases q:j=i
  ·subst q
   have hi:j<ρ.length:=by
    have:=(Qa.mp hj).1
    simpa using this
   rw [Rh hi] at hj; cases hj
   exact ⟨v,Rh (by rw [S.len]; exact hi),hr.weak fr0⟩
  ·rw [Ri (Qp q)] at hj |-
   exact S1.at_ j r' hj hu
 ·have hlt:∀ {j:Nat} {r:Sl},(ρ.set i r)[j]?=some r->j<ρ.length:=λ{j r} h=>by
   have:=(Qa.mp h).1
   simpa using this
  by_cases q1:j=i
  ·subst q1
   have hi:j<ρ.length:=by have:=(Qa.mp h1).1; simpa using this
   rw [Rh hi] at h1; cases h1
   rw [Rh (by rw [S.len]; exact hi)] at e1
   rw [Ri hne] at h2 e2
   exact old j' r2 p h2 o2 e2 (fresh p o1 (by simpa using e1))
  ·by_cases q2:j'=i
   ·subst q2
    have hi:j'<ρ.length:=by have:=(Qa.mp h2).1; simpa using this
    rw [Rh hi] at h2; cases h2
    rw [Rh (by rw [S.len]; exact hi)] at e2
    rw [Ri (Qp hne)] at h1 e1
    exact old j r1 p h1 o1 e1 (fresh p o2 (by simpa using e2))
   ·rw [Ri (Qp q1)] at h1 e1
    rw [Ri (Qp q2)] at h2 e2
    exact S.sep j j' r1 r2 p hne h1 h2 o1 o2 e1 e2
theorem dB.weak (S:dB K H₀ dR σ H Hf ρ) (hl:ρ'.length=ρ.length) (h:∀ (i:Nat) (r:Sl),ρ'[i]?=some r->r≠.un->ρ[i]?=some r):dB K H₀ dR σ H Hf ρ' :=
 ⟨S.bas,by rw [S.len,hl],λi r e hu=>S.at_ i r (h i r e hu) hu,λi j r r' p hne h1 h2 o1 o2=>S.sep i j r r' p hne (h i r h1 (by rintro rfl; cases o1)) (h j r' h2 (by rintro rfl; cases o2)) o1 o2⟩
end
section
variable {P:Program} {w:World} {K:PN} {mg:Str->Option Value} {base:Heap} {k:Nat} {N:List Str} {sc:Scope} {bk:Bool}
noncomputable def bE (X:Cx) (e:Expr):TE:=λσ H Q=>∀ aa s,Inv X aa σ H s->wpAny (model X.prog X.w) X.A (eval e X.env) (EP X aa σ Q) X.xe s
theorem cQ:PE X e (bE X e):=λaa s σ H Q I h=>h aa s I
theorem bJ (h:PE X e t) (q:t σ H Q):bE X e σ H Q:=λaa s I=>h aa s σ H Q I q
noncomputable def bT (X:Cx) (e:Expr):TT:=λσ H Q=>∀ aa s,Inv X aa σ H s->wpAny (model X.prog X.w) X.A (isTrue e X.env (eval e X.env)) (TP X aa σ Q) X.xe s
theorem GJ:PT X e (bT X e):=λaa s σ H Q I h=>h aa s I
theorem uZ (h:PT X e t) (q:t σ H Q):bT X e σ H Q:=λaa s I=>h aa s σ H Q I q
noncomputable def bA (X:Cx) (es:List Expr):TA:=λσ H Q=>∀ pos aa s,Inv X aa σ H s->wpAny (model X.prog X.w) X.A (spliced (backTo pos (starEach es X.env))) (AP X aa σ Q) X.xe s
theorem En:PA X es (bA X es):=λpos aa s σ H Q I h=>h pos aa s I
theorem kQ (h:PA X es t) (q:t σ H Q):bA X es σ H Q:=λpos aa s I=>h pos aa s σ H Q I q
noncomputable def bS (X:Cx) (st:Stmt):TS:=λD σ H=>∀ aa s,Inv X aa σ H s->wpAny (model X.prog X.w) X.A (exec st X.env) (SP X aa D) X.xe s
theorem Pz {st:Stmt}:PS X st (bS X st):=λaa s σ H D I h=>h aa s I
theorem dQ {st:Stmt} (h:PS X st t) {D:Ends} (q:t D σ H):bS X st D σ H:=λaa s I=>h aa s σ H D I q
noncomputable def IP (X:Cx) (st:List Stmt):TS:=λD σ H=>∀ aa s,Inv X aa σ H s->wpAny (model X.prog X.w) X.A (execs st X.env) (SP X aa D) X.xe s
theorem qm {st:List Stmt}:sH X st (IP X st):=λaa s σ H D I h=>h aa s I
theorem Ai {st:List Stmt} (h:sH X st t) {D:Ends} (q:t D σ H):IP X st D σ H:=λaa s I=>h aa s σ H D I q
noncomputable def bG (X:Cx) (tg:Expr):TG:=λv σ H Q=>∀ aa s u,Inv X aa σ H s->RelV v u->wpAny (model X.prog X.w) X.A (assign tg X.env u) (λ_ s'=>∃ σ' H',Inv X aa σ' H' s'/\Q σ' H') X.xe s
theorem PB:PG X tg (bG X tg):=λaa s σ H v u Q I r h=>h aa s u I r
theorem Aj (h:PG X tg t) (q:t v σ H Q):bG X tg v σ H Q:=λaa s u I r=>h aa s σ H v u Q I r q
variable (c:Ctx P w K mg base k N sc bk)
def cN (e:Expr) (ρ:List Sl) (R:Sl->Prop):Prop :=
 ∀ (σ:L2.St) (H Hf:Hp) (Q:VK),bw c σ H Hf ρ->(∀ r v H' aj,R r->aW c.X.K (λp=>H p=none) H' aj r v->aY H Hf H' aj->Q v H')->bE c.X e σ H Q
def aJ (e:Expr) (ρ:List Sl) (R:D->Prop):Prop :=
 ∀ (σ:L2.St) (H Hf:Hp) (Q:VK),bw c σ H Hf ρ->(∀ d v H' aj,R d->Rep c.X.K aj d v->aY H Hf H' aj->Q v H')->bE c.X e σ H Q
def iJ (e:Expr) (ρ:List Sl) (R:Bool->Prop):Prop :=
 ∀ (σ:L2.St) (H Hf:Hp) (Q:Bool->Hp->Prop),bw c σ H Hf ρ->(∀ b H' aj,R b->aY H Hf H' aj->Q b H')->bT c.X e σ H Q
def qo (es:List Expr) (ρ:List Sl) (R:List D->Prop):Prop :=
 ∀ (σ:L2.St) (H Hf:Hp) (Q:List V->Hp->Prop),bw c σ H Hf ρ->(∀ ds vs H' aj,R ds->aq c.X.K aj ds vs->aY H Hf H' aj->Q vs H')->bA c.X es σ H Q
set_option genInjectivity false in
structure Pt where
 rt:Sl->Prop
 bk:List Sl->Prop:=λ_=>False
 ct:List Sl->Prop:=λ_=>False
structure Ak (nx:List Sl->Prop) (p:Pt) (D:Ends):Prop where
 nx:∀ σ H Hf ρ,bw c σ H Hf ρ->nx ρ->D.nx σ H
 rt:∀ r v H Hf,aY c.B c.Hf H Hf->aW c.X.K c.fr H Hf r v->p.rt r->D.rt v H
 bk:∀ σ H Hf ρ,bw c σ H Hf ρ->p.bk ρ->D.bk σ H
 ct:∀ σ H Hf ρ,bw c σ H Hf ρ->p.ct ρ->D.ct σ H
def eU (st:Stmt) (ρ:List Sl) (nx:List Sl->Prop) (p:Pt):Prop :=
 ∀ (σ:L2.St) (H Hf:Hp) (D:Ends),bw c σ H Hf ρ->Ak c nx p D->bS c.X st D σ H
def aI (st:List Stmt) (ρ:List Sl) (nx:List Sl->Prop) (p:Pt):Prop :=
 ∀ (σ:L2.St) (H Hf:Hp) (D:Ends),bw c σ H Hf ρ->Ak c nx p D->IP c.X st D σ H
def mj (tg:Expr) (d:D) (ρ:List Sl) (R:List Sl->Prop):Prop :=
 ∀ (σ:L2.St) (H Hf:Hp) (v:V) (Q:L2.St->Hp->Prop),bw c σ H Hf ρ->Rep c.X.K Hf d v->(∀ σ' H' aj ρ',bw c σ' H' aj ρ'->aY H Hf H' aj->R ρ'->Q σ' H')->bG c.X tg v σ H Q
variable {c}
noncomputable def Sl.fz:Sl->Option D
 | .va d=>some d
 | .ow ds=>some (.lst ds)
 | _=>none
def IQ (R:D->Prop) (r:Sl):Prop:=∃ d,r.fz=some d/\R d
theorem IS (e:r.fz=some d) (h:aW K (λp=>H p=none) H' aj r v) (g:aY H Hf H' aj) :
 ∃ cD,Rep K cD d v/\aY H Hf H' cD:=by
 cases r with
 | un=>cases e
 | va d'=>cases e; exact ⟨aj,h,g⟩
 | oT _=>cases e
 | oK _=>cases e
 | aw _ _=>cases e
 | aT _ _=>cases e
 | aK _ _=>cases e
 | fo _=>cases e
 | ow ds =>
  cases e
  obtain ⟨p,xs,rfl,hp,h1,h2,h3⟩:=h
  have sf:aL aj (upd aj p (.lst xs)):=λb o e=>by rw [ak (aE e h2)]; exact e
  have sb:aL (upd aj p (.lst xs)) H':=λb o e=>by
   by_cases q:b=p
   ·subst q; rw [ai] at e; rw [h1]; exact e
   ·rw [ak q] at e; exact g.b b o e
  refine ⟨upd aj p (.lst xs),aX.mpr ⟨p,xs,rfl,.inl (.inl ai),h3.mono sf⟩,g.s,g.f.trans sf,sb,λb q1 q2 q3=>?_⟩
  have e:=g.n b q1 q2 q3
  by_cases q:b=p
  ·subst q; exact absurd hp q2
  ·rw [ak q]; exact e
theorem e_x (h:cN c e ρ (IQ R)):aJ c e ρ R:=λσ H Hf Q S q =>
 h σ H Hf Q S λr v H' aj ⟨d,e1,rd⟩ rs g=>let ⟨cD,h1,g2⟩:=IS e1 rs g; q d v H' cD rd h1 g2
theorem GK (h:aJ c e ρ λd=>R (.va d)):cN c e ρ R:=λσ H Hf Q S q =>
 h σ H Hf Q S λd v H' aj rd h1 g=>q (.va d) v H' aj rd h1 g
theorem aJ.imp (h:aJ c e ρ R) (hi:∀ d,R d->R' d):aJ c e ρ R':=λσ H Hf Q S q=>h σ H Hf Q S λd v H' aj rd=>q d v H' aj (hi d rd)
theorem cN.imp (h:cN c e ρ R) (hi:∀ d,R d->R' d):cN c e ρ R':=λσ H Hf Q S q=>h σ H Hf Q S λd v H' aj rd=>q d v H' aj (hi d rd)
theorem iJ.imp (h:iJ c e ρ R) (hi:∀ d,R d->R' d):iJ c e ρ R':=λσ H Hf Q S q=>h σ H Hf Q S λd H' aj rd=>q d H' aj (hi d rd)
theorem u0 (hN:At N i x) (hs:At ρ i (.va d)) (hR:R d)
 (hd:(x == ("__debug__":Str))=false:=by decide) (hcd:(x == ("__classdict__":Str))=false:=by decide) :
 aJ c (.Name x pos) ρ R:=λσ H Hf Q S q=>by
 obtain ⟨v,e,r⟩:=S.va hs.get
 exact bJ (sL (X:=c.X) (i:=i) (by rw [c.eN]; exact hN.get) (by rw [c.esc]; rcases c.vis x hN.mem with h | h; exact .inl h; exact .inr (.inl h)) hd hcd) ⟨v,e,q d v H Hf hR r (.refl S.sb)⟩
theorem GL (hR:R (.int i)):aJ c (.Constant (.int i) j pos) ρ R:=λσ H Hf Q S q =>
 bJ zE (q _ _ H Hf hR (aA.mpr rfl) (.refl S.sb))
theorem OD (hR:R (.bl i)):aJ c (.Constant (.bool i) j pos) ρ R:=λσ H Hf Q S q =>
 bJ GC (q _ _ H Hf hR (fc.mpr rfl) (.refl S.sb))
theorem sZ (hm:mg x=some (.int i t)) (hR:R (.int i)) (hg:sc.names.lookup x=some .globalImplicit:=by walk_at "u") (hd:(x == ("__debug__":Str))=false:=by decide) :
 aJ c (.Name x pos) ρ R:=λσ H Hf Q S q =>
 bJ (uP (X:=c.X) (v:=.int i) (u:=.int i t) (by unfold Gl Qx; rw [c.esc]; exact hg) (by rw [c.emg]; exact hm) ⟨t,rfl⟩ hd) (q _ _ H Hf hR (aA.mpr rfl) (.refl S.sb))
def NF (K:PN) (r:R2) (p:D->D->(Sl->Prop)->Prop):Prop :=
 ∀ (x y:D) (v u:V) (H Hf:Hp) (Q:VK) (R:Sl->Prop),aL Hf H->Rep K Hf x v->Rep K Hf y u->p x y R ->
  (∀ z v' H' aj,R z->aW K (λp=>H p=none) H' aj z v'->aY H Hf H' aj->Q v' H')->r v u H Q
theorem oj (ho:fj c.X (binaryOp op) r) (hd:NF c.X.K r p)
 (h:aJ c a ρ λx=>aJ c b ρ λy=>p x y R):cN c (.BinOp a op b pos) ρ R:=λσ H Hf Q S q =>
 bJ (zM ho cQ cQ) (h σ H Hf _ S λx v1 H1 aM h1 r1 g1=>h1 σ H1 aM _ (S.cA g1) λy v2 H2 cD h2 r2 g2 =>
  hd x y v1 v2 H2 cD Q R g2.b (Rep.mono g2.f x r1) r2 h2 λz v' H' aj hz rz g3 =>
   q z v' H' aj hz (rz.weak λp hp=>(g1.trans g2).s.free hp) ((g1.trans g2).trans g3))
theorem m7 {f:Int->Int->Int}:NF K (rI C λi j=>.int (f i j)) λx y R=>∃ i j,x=.int i/\y=.int j/\C i j/\R (.va (.int (f i j))):=by
 rintro x y v u H Hf Q R s rx ry ⟨i,j,rfl,rfl,hC,hR⟩ q
 rw [aA] at rx ry
 exact ⟨i,j,rx,ry,hC,q (.va (.int (f i j))) _ H Hf hR (show Rep K Hf (.int (f i j)) _ from aA.mpr rfl) (.refl s)⟩
theorem Al {f:Int->Int->Int}:NF K (uQ λi j=>.int (f i j)) λx y R=>∃ i j,x=.int i/\y=.int j/\R (.va (.int (f i j))):=by
 rintro x y v u H Hf Q R s rx ry ⟨i,j,rfl,rfl,hR⟩ q
 rw [aA] at rx ry
 exact ⟨i,j,rx,ry,q (.va (.int (f i j))) _ H Hf hR (show Rep K Hf (.int (f i j)) _ from aA.mpr rfl) (.refl s)⟩
theorem iQ (h:cN c e ρ λr=>∃ d,r=.va d/\R d):aJ c e ρ R:=e_x (h.imp λr ⟨d,e,hr⟩=>⟨d,by subst e; rfl,hr⟩)
noncomputable def jN:D->D->Bool
 | .non,.non=>true | .non,.int _=>true | .int _,.non=>true | .non,.bl _=>true | .bl _,.non=>true | .non,.str _=>true | .str _,.non=>true
 | .int _,.int _=>true | .bl _,.bl _=>true | .str _,.str _=>true | .int _,.str _=>true | .str _,.int _=>true | .bl _,.str _=>true | .str _,.bl _=>true
 | _,_=>false
noncomputable instance:DecidableEq D:=λ_ _=>Classical.propDecidable _
inductive j8:Nat->D->D->Prop where
 | sc {n:Nat} {x y:D} (h:jN x y=true):j8 n x y
 | tup {n:Nat} {ds es:List D} (h:∀ (i:Nat) (d e:D),ds[i]?=some d->es[i]?=some e->j8 n d e):j8 (n+1) (.tup ds) (.tup es)
 | lst {n:Nat} {ds es:List D} (h:∀ (i:Nat) (d e:D),ds[i]?=some d->es[i]?=some e->j8 n d e):j8 (n+1) (.lst ds) (.lst es)
 | ln {n:Nat} {ds:List D}:j8 n (.lst ds) .non
 | nl {n:Nat} {ds:List D}:j8 n .non (.lst ds)
 | tn {n:Nat} {ds:List D}:j8 n (.tup ds) .non
 | nt {n:Nat} {ds:List D}:j8 n .non (.tup ds)
def jV (ds es:List D):Prop:=∀ (i:Nat) (d e:D),ds[i]?=some d->es[i]?=some e->j8 40 d e
def LX (x y:D):Prop:=jN x y=true\/∃ ds es,((x=.tup ds/\y=.tup es)\/(x=.lst ds/\y=.lst es))/\jV ds es
section
variable {a b:Expr} {pos:Pos} {ρ:List Sl} {R:D->Prop}
structure Sd (A B:Prop):Prop where
 s:A
 r:B
structure mq (A B:Prop) (x:Bool):Prop where
 t:x=true->A
 f:x=false->B
theorem GN (h1:A):mq A B true:=⟨λ_=>h1,λh=>by cases h⟩
theorem GO (h1:B):mq A B false:=⟨λh=>(by cases h),λ_=>h1⟩
theorem u5 (h1:p->A) (h2:¬ p->B):mq A B (@decide p i):=⟨λh=>h1 (of_decide_eq_true h),λh=>h2 (of_decide_eq_false h)⟩
theorem Eo (h:mq B A x):mq A B (!x):=⟨λe=>h.f (by simpa using e),λe=>h.t (by simpa using e)⟩
def Am (x y:D) (T:Bool->Prop):Prop:=LX x y/\T (decide (x=y))
theorem Ep (h:T (decide (i=j))):Am (.int i) (.int j) T:=⟨.inl rfl,by
 have e:decide (D.int i=D.int j)=decide (i=j):=by simp
 rw [e]; exact h⟩
theorem Er (h:Sd (jV ds es) (T (decide (ds=es)))):Am (.tup ds) (.tup es) T:=⟨.inr ⟨ds,es,.inl ⟨rfl,rfl⟩,h.s⟩,by
 have e:decide (D.tup ds=D.tup es)=decide (ds=es):=by simp
 rw [e]; exact h.r⟩
theorem Es (h:Sd (jV ds es) (T (decide (ds=es)))):Am (.lst ds) (.lst es) T:=⟨.inr ⟨ds,es,.inr ⟨rfl,rfl⟩,h.s⟩,by
 have e:decide (D.lst ds=D.lst es)=decide (ds=es):=by simp
 rw [e]; exact h.r⟩
noncomputable def I2 (k:Int->Int->Prop):D->D->Prop:=λx y=>∃ i j,x=.int i/\y=.int j/\k i j
theorem i2 {k:Int->Int->Prop} (h:k i j):I2 k (.int i) (.int j):=⟨i,j,rfl,rfl,h⟩
noncomputable def I1 (k:Int->Prop):D->Prop:=λx=>∃ i,x=.int i/\k i
theorem i1 {k:Int->Prop} (h:k i):I1 k (.int i):=⟨i,rfl,h⟩
noncomputable def B1 (k:Bool->Prop):D->Prop:=λx=>∃ i,x=.bl i/\k i
theorem b1 {k:Bool->Prop} (h:k i):B1 k (.bl i):=⟨i,rfl,h⟩
theorem LY (h:aJ c a ρ λx=>aJ c b ρ λy=>I2 (λi j=>R (.int (i - j))) x y):aJ c (.BinOp a .Sub b pos) ρ R :=
 iQ (oj Ij Al (h.imp λx hx=>hx.imp λy ⟨i,j,e1,e2,r⟩=>⟨i,j,e1,e2,_,rfl,r⟩))
def MulOk (i j:Int):Prop:=IntMulOk i j
def An (j:Int):Prop:=0<j/\j.natAbs.log2<9000
theorem Et:fj c.X (binaryOp .Mult) (rI MulOk λi j=>.int (i * j)):=Ld λ_ _ _ _ _ _ _ hc q=>mul_int q hc
theorem Ao:fj c.X (binaryOp .FloorDiv) (rI (λ_ j=>An j) λi j=>.int (i / j)):=Ld λi j _ _ _ _ _ hc q=>by
 have h1:(0:Int)<j:=hc.1
 exact floordiv_int (by lia) (by rw [Int.fdiv_eq_ediv_of_nonneg i (by lia)]; exact q) (.inl (PyProof.noPylong_of_log2 hc.2))
theorem LZ (h:aJ c a ρ λx=>aJ c b ρ λy=>I2 (λi j=>Sd (MulOk i j) (R (.int (i * j)))) x y):aJ c (.BinOp a .Mult b pos) ρ R :=
 iQ (oj Et m7 (h.imp λx hx=>hx.imp λy ⟨i,j,e1,e2,⟨hc,r⟩⟩=>⟨i,j,e1,e2,hc,_,rfl,r⟩))
theorem IT (h:aJ c a ρ λx=>aJ c b ρ λy=>I2 (λi j=>Sd (An j) (R (.int (i / j)))) x y):aJ c (.BinOp a .FloorDiv b pos) ρ R :=
 iQ (oj Ao m7 (h.imp λx hx=>hx.imp λy ⟨i,j,e1,e2,⟨hc,r⟩⟩=>⟨i,j,e1,e2,hc,_,rfl,r⟩))
theorem L6 (h:aJ c a ρ λx=>aJ c b ρ λy=>I2 (λi j=>Sd (0<j) (R (.int (i % j)))) x y):aJ c (.BinOp a .Mod b pos) ρ R :=
 iQ (oj Ik m7 (h.imp λx hx=>hx.imp λy ⟨i,j,e1,e2,⟨hc,r⟩⟩=>⟨i,j,e1,e2,hc,_,rfl,r⟩))
theorem L7 (h:aJ c a ρ λx=>aJ c b ρ λy=>I2 (λi j=>Sd (sO i j) (R (.int (i ^ j.toNat)))) x y):aJ c (.BinOp a .Pow b pos) ρ R :=
 iQ (oj Il m7 (h.imp λx hx=>hx.imp λy ⟨i,j,e1,e2,⟨hc,r⟩⟩=>⟨i,j,e1,e2,hc,_,rfl,r⟩))
theorem Ma (h:aJ c a ρ (I1 λi=>R (.int (-i)))):aJ c (.UnaryOp .USub a pos) ρ R:=λσ H Hf Q S q =>
 bJ (LD Iq cQ) (h σ H Hf _ S λx v H' aj hx r g=>by
  obtain ⟨i,rfl,hR⟩:=hx
  rw [aA] at r
  exact ⟨i,r,q _ _ H' aj hR (aA.mpr rfl) g⟩)
def xM (K:PN) (r:R2) (p:D->D->(Bool->Prop)->Prop):Prop :=
 ∀ (x y:D) (v u:V) (H Hf:Hp) (Q:VK) (R:Bool->Prop),aL Hf H->Rep K Hf x v->Rep K Hf y u->p x y R->(∀ b,R b->Q (.bl b) H)->r v u H Q
theorem Mb (ho:fj c.X (compareOp op) r) (hd:xM c.X.K r p) (h:aJ c a ρ λx=>aJ c b ρ λy=>p x y λz=>R (.bl z))
 (hm:behindInMarks op b=false):aJ c (.Compare a [op] [b] pos) ρ R:=λσ H Hf Q S q =>
 bJ (DV ho cQ cQ hm) (h σ H Hf _ S λx v1 H1 aM h1 r1 g1=>h1 σ H1 aM _ (S.cA g1) λy v2 H2 cD h2 r2 g2 =>
  hd x y v1 v2 H2 cD Q _ g2.b (Rep.mono g2.f x r1) r2 h2 λz hz=>q _ _ H2 cD hz (fc.mpr rfl) (g1.trans g2))
theorem m8 (ho:fj c.X (compareOp op) r) (hd:xM c.X.K r p) (h:aJ c a ρ λx=>aJ c b ρ λy=>p x y T)
 (hm:behindInMarks op b=false):iJ c (.Compare a [op] [b] pos) ρ T:=λσ H Hf Q S q =>
 uZ (DW ho cQ cQ hm) (h σ H Hf _ S λx v1 H1 aM h1 r1 g1=>h1 σ H1 aM _ (S.cA g1) λy v2 H2 cD h2 r2 g2 =>
  hd x y v1 v2 H2 cD _ T g2.b (Rep.mono g2.f x r1) r2 h2 λz hz=>⟨z,rfl,q _ H2 cD hz (g1.trans g2)⟩)
theorem Aq {f:Int->Int->Bool}:xM K (uQ λi j=>.bl (f i j)) λx y R=>I2 (λi j=>R (f i j)) x y:=by
 rintro x y v u H Hf Q R s rx ry ⟨i,j,rfl,rfl,hR⟩ q
 rw [aA] at rx ry
 exact ⟨i,j,rx,ry,q _ hR⟩
theorem u6 (h:jN x y=true) (rx:Rep K H x v) (ry:Rep K H y u):DU v u=true/\decide (v=u)=decide (x=y):=by
 cases x <;> cases y <;> simp [jN] at h <;> simp only [aA,fc,bR,fM] at rx ry <;> subst rx <;> subst ry <;> simp [DU]
theorem OE (h:aJ c a ρ λx=>aJ c b ρ λy=>I2 (λi j=>T (decide (i<j))) x y):iJ c (.Compare a [.Lt] [b] pos) ρ T:=m8 LH Aq h (jr b)
theorem OF (h:aJ c a ρ λx=>aJ c b ρ λy=>I2 (λi j=>T (decide (j<i))) x y):iJ c (.Compare a [.Gt] [b] pos) ρ T:=m8 LJ Aq h (jr b)
theorem OG (h:aJ c a ρ λx=>aJ c b ρ λy=>I2 (λi j=>T (decide (j<=i))) x y):iJ c (.Compare a [.GtE] [b] pos) ρ T:=m8 LK Aq h (jr b)
end
end
section
variable {K:PN} {c:Ctx P w K mg base k N sc bk}
variable {es rest:List Expr}
noncomputable def bW (X:Cx) (e:Expr):TT:=λσ H Q=>∀ whole aa s,Inv X aa σ H s->wpAny (model X.prog X.w) X.A (isTrue e X.env whole) (TP X aa σ Q) X.xe s
theorem O8:PW X e (bW X e):=λwhole aa s σ H Q I h=>h whole aa s I
theorem u7 (h:PW X e t) (q:t σ H Q):bW X e σ H Q:=λwhole aa s I=>h whole aa s σ H Q I q
def GP (c:Ctx P w K mg base k N sc bk) (e:Expr) (ρ:List Sl) (R:Bool->Prop):Prop :=
 ∀ (σ:L2.St) (H Hf:Hp) (Q:Bool->Hp->Prop),bw c σ H Hf ρ->(∀ b H' aj,R b->aY H Hf H' aj->Q b H')->bW c.X e σ H Q
theorem O9 (h:GP c e ρ T):iJ c e ρ T:=λσ H Hf Q S q aa s I=>h σ H Hf Q S q _ aa s I
theorem IU (h:iJ c a ρ T):GP c (.BoolOp .And [a] pos) ρ T:=λσ H Hf Q S q=>u7 (pw_and1 GJ) (h σ H Hf Q S q)
theorem Mc (h:iJ c a ρ T):GP c (.BoolOp .Or [a] pos) ρ T:=λσ H Hf Q S q=>u7 (pw_or1 GJ) (h σ H Hf Q S q)
theorem w_and (h:iJ c a ρ (mq (GP c (.BoolOp .And (b::rest) pos) ρ T) (T false))):GP c (.BoolOp .And (a::b::rest) pos) ρ T:=λσ H Hf Q S q =>
 u7 (pw_and GJ O8) (h σ H Hf _ S λx H' aj hx g=>by
  cases x with
  | true=>exact hx.t rfl σ H' aj Q (S.cA g) λy H2 cD hy g2=>q y H2 cD hy (g.trans g2)
  | false=>exact q false H' aj (hx.f rfl) g)
theorem w_or (h:iJ c a ρ (mq (T true) (GP c (.BoolOp .Or (b::rest) pos) ρ T))):GP c (.BoolOp .Or (a::b::rest) pos) ρ T:=λσ H Hf Q S q =>
 u7 (pw_or GJ O8) (h σ H Hf _ S λx H' aj hx g=>by
  cases x with
  | false=>exact hx.f rfl σ H' aj Q (S.cA g) λy H2 cD hy g2=>q y H2 cD hy (g.trans g2)
  | true=>exact q true H' aj (hx.t rfl) g)
theorem Me (h:iJ c a ρ λx=>T (!x)):iJ c (.UnaryOp .Not a pos) ρ T:=λσ H Hf Q S q =>
 uZ (HU GJ) (h σ H Hf _ S λx H' aj hx g=>q _ H' aj hx g)
theorem Mf (h:aJ c a ρ R):aJ c (.BoolOp op [a] pos) ρ R:=λσ H Hf Q S q=>bJ (HV cQ) (h σ H Hf Q S q)
theorem Mg (h:aJ c a ρ (B1 (mq (aJ c (.BoolOp .And (b::rest) pos) ρ R) (R (.bl false))))):aJ c (.BoolOp .And (a::b::rest) pos) ρ R:=λσ H Hf Q S q =>
 bJ (HW cQ cQ) (h σ H Hf _ S λx v H' aj ⟨k,e,h1⟩ r g=>by
  subst e
  rw [fc] at r
  refine ⟨k,r,?_⟩
  cases k with
  | true=>rw [if_pos rfl]; exact h1.t rfl σ H' aj Q (S.cA g) λy v2 H2 cD hy r2 g2=>q y v2 H2 cD hy r2 (g.trans g2)
  | false=>rw [if_neg P5]; exact q _ _ H' aj (h1.f rfl) (fc.mpr rfl) g)
theorem Eu {R:Sl->Prop} (h:iJ c t ρ (mq (cN c a ρ R) (cN c b ρ R))):cN c (.IfExp t a b pos) ρ R:=λσ H Hf Q S q =>
 bJ (zF GJ cQ cQ) (h σ H Hf _ S λx H' aj hx g=>by
  cases x with
  | true=>rw [if_pos rfl]; exact hx.t rfl σ H' aj Q (S.cA g) λy v2 H2 cD hy r2 g2=>q y v2 H2 cD hy (r2.weak λp hp=>g.s.free hp) (g.trans g2)
  | false=>rw [if_neg P5]; exact hx.f rfl σ H' aj Q (S.cA g) λy v2 H2 cD hy r2 g2=>q y v2 H2 cD hy (r2.weak λp hp=>g.s.free hp) (g.trans g2))
theorem Ew (h:iJ c t ρ (mq (aJ c a ρ R) (aJ c b ρ R))):aJ c (.IfExp t a b pos) ρ R :=
 iQ (Eu (h.imp λx hx=>⟨λe=>GK ((hx.t e).imp λd h=>⟨d,rfl,h⟩),λe=>GK ((hx.f e).imp λd h=>⟨d,rfl,h⟩)⟩))
theorem Mh (h:aJ c e ρ (B1 T)) (he:∀ (env:Env) whole,isTrue e env whole=(do let v <- whole; standAt e.pos; holding [v] (truthy v)):=by intro _ _; walk_at "u"):iJ c e ρ T:=λσ H Hf Q S q =>
 uZ (HR cQ (he _)) (h σ H Hf _ S λx v H' aj ⟨k,e,h1⟩ r g=>by
  subst e; rw [fc] at r
  exact ⟨k,r,q k H' aj h1 g⟩)
theorem kR {R:List D->Prop} (h:R []):qo c [] ρ R:=λσ H Hf Q S q=>kQ cL (q [] [] H Hf h (aC.mpr rfl) (.refl S.sb))
theorem cV {R:List D->Prop} (h:aJ c e ρ λd=>qo c es ρ λds=>R (d::ds)) (hs:∀ env,starEach (e::es) env=(false,eval e env)::starEach es env:=by intro _; walk_at "u"):qo c (e::es) ρ R:=λσ H Hf Q S q =>
 kQ (bF cQ En (hs _)) (h σ H Hf _ S λd v H1 aM h1 r1 g1=>h1 σ H1 aM _ (S.cA g1) λds vs H2 cD h2 r2 g2=>q _ _ H2 cD h2 (.cons (Rep.mono g2.f d r1) r2) (g1.trans g2))
theorem GQ (h:qo c es ρ λds=>Sd (ds.length<=sizeLine) (R (.tup ds))):aJ c (.Tuple es j pos) ρ R:=λσ H Hf Q S q =>
 bJ (zP En) (h σ H Hf _ S λds vs H' aj ⟨hl,hR⟩ r g=>⟨by rw [<- r.length]; exact hl,λp hp=>by
  have g2:=aY.new g.b hp (o:=.tup vs)
  exact q _ _ _ _ hR (aH.mpr ⟨p,vs,rfl,.inl (.inl ai),r.mono g2.f⟩) (g.trans g2)⟩)
theorem GR {R:Sl->Prop} (h:qo c es ρ λds=>Sd (ds.length<=sizeLine) (R (.ow ds))):cN c (.List es pos) ρ R:=λσ H Hf Q S q =>
 bJ (Ir En) (h σ H Hf _ S λds vs H' aj ⟨hl,hR⟩ r g=>⟨by rw [<- r.length]; exact hl,λp hp=>by
  have g2:=aY.gj g.b hp (o:=.lst vs)
  exact q _ _ _ _ hR ⟨p,vs,rfl,g.s.free hp,ai,g.b.free hp,r⟩ (g.trans g2)⟩)
variable {st:Stmt}
theorem tu (h:nx ρ):aI c [] ρ nx p:=λσ H Hf D S o=>Ai DQ (o.nx σ H Hf ρ S h)
theorem au (h:eU c st ρ (λρ'=>aI c sts ρ' nx p) p):aI c (st::sts) ρ nx p:=λσ H Hf D S o =>
 Ai (zG Pz qm) (h σ H Hf { D with nx:=IP c.X sts D } S ⟨λσ' H' aj ρ' S' q=>q σ' H' aj D S' o,o.rt,o.bk,o.ct⟩)
theorem dw (h:cN c e ρ p.rt):eU c (.Return (some e) pos) ρ nx p:=λσ H Hf D S o =>
 dQ (zH cQ) (h σ H Hf _ S λr v H' aj hr rs g=>o.rt r v H' aj (S.bas.trans g) (rs.weak λp hp=>S.bas.s.free hp) hr)
theorem Ar (hN:At N i x) (hi:At ρ i r) (hu:r.owned=true) (h:p.rt r)
 (hd:(x == ("__debug__":Str))=false:=by decide) (hcd:(x == ("__classdict__":Str))=false:=by decide) :
 eU c (.Return (some (.Name x pos2)) pos) ρ nx p:=λσ H Hf D S o=>by
 obtain ⟨v,e,rs⟩:=S.at_ i r hi.get (by rintro rfl; cases hu)
 exact dQ (zH (sL (X:=c.X) (i:=i) (by rw [c.eN]; exact hN.get) (by rw [c.esc]; rcases c.vis x hN.mem with h | h; exact .inl h; exact .inr (.inl h)) hd hcd)) ⟨v,e,o.rt r v H Hf S.bas rs h⟩
theorem xN (h:iJ c t ρ (mq (aI c A ρ nx p) (aI c B ρ nx p))):eU c (.If t A B pos) ρ nx p:=λσ H Hf D S o =>
 dQ (Lx GJ qm qm) (h σ H Hf _ S λx H' aj hx g=>by
  cases x with
  | true=>rw [if_pos rfl]; exact hx.t rfl σ H' aj D (S.cA g) o
  | false=>rw [if_neg P5]; exact hx.f rfl σ H' aj D (S.cA g) o)
def Nx (ρ:List Sl) (i:Nat) (R:List Sl->Prop) (r:Sl):Prop:=∃ ρ',SSet ρ i r ρ'/\R ρ'
theorem jO {R:List Sl->Prop} (h:SSet ρ i r ρ') (hr:R ρ'):Nx ρ i R r:=⟨ρ',h,hr⟩
theorem u9 (hN:At N i x) (h:cN c e ρ (Nx ρ i nx))
 (hs:∀ env,swapsWith e (some (.Name x pos2)) pos.line env=pure false:=by intro _; walk_at "u") (hf:bk=false\/sc.names.lookup x=some .local:=by first | exact .inl rfl | exact .inr (by walk_at "u")):eU c (.Assign [.Name x pos2] e pos) ρ nx p:=λσ H Hf D S o =>
 dQ (zJ (X:=c.X) (i:=i) (by rw [c.eN]; exact c.nd) (by rw [c.eN]; exact hN.get) (by rw [c.esc]; exact c.vis x hN.mem) cQ (hs _) (c.fn x hf)) (h σ H Hf _ S λr v H' aj ⟨ρ',hs,hx⟩ rs g=>o.nx _ H' aj _ (hs.eq ▸ S.set g rs) hx)
theorem cE {R:List Sl->Prop} (hN:At N i x) (h:Nx ρ i R (.va d)) (hf:bk=false\/sc.names.lookup x=some .local:=by first | exact .inl rfl | exact .inr (by walk_at "u")):mj c (.Name x pos) d ρ R:=λσ H Hf v Q S r q=>by
 obtain ⟨ρ',hs,h⟩:=h
 exact Aj (nX (X:=c.X) (i:=i) (by rw [c.eN]; exact c.nd) (by rw [c.eN]; exact hN.get) (by rw [c.esc]; exact c.vis x hN.mem) (c.fn x hf)) (q _ H Hf _ (hs.eq ▸ S.set (.refl S.sb) (r:=.va d) r) (.refl S.sb) h)
def xO (c:Ctx P w K mg base k N sc bk) (ts:List Expr) (ds:List D) (ρ:List Sl) (R:List Sl->Prop):Prop :=
 ∀ (σ:L2.St) (H Hf:Hp) (vs:List V) (Q:L2.St->Hp->Prop),bw c σ H Hf ρ->aq c.X.K Hf ds vs->(∀ σ' H' aj ρ',bw c σ' H' aj ρ'->aY H Hf H' aj->R ρ'->Q σ' H') ->
  ∀ aa s us,Inv c.X aa σ H s->Vals vs us->wpAny (model c.X.prog c.X.w) c.X.A (assignInOrder ((assignEach ts c.X.env).map (·.2)) us) (λ_ s'=>∃ σ' H',Inv c.X aa σ' H' s'/\Q σ' H') c.X.xe s
theorem IV {R:List Sl->Prop} (h:R ρ):xO c [] [] ρ R:=λσ H Hf vs Q S r q aa s us I rv=>by
 rw [aC] at r; subst r
 exact DR aa s σ H [] us Q I rv ⟨rfl,q σ H Hf ρ S (.refl S.sb) h⟩
theorem Ey {R:List Sl->Prop} (hN:At N i x) (h:Nx ρ i (λρ'=>xO c ts ds ρ' R) (.va d))
 (hs:∀ env,(assignEach (.Name x pos::ts) env).map (·.2)=assign (.Name x pos) env::(assignEach ts env).map (·.2):=by intro _; walk_at "u") (hf:bk=false\/sc.names.lookup x=some .local:=by first | exact .inl rfl | exact .inr (by walk_at "u")):xO c (.Name x pos::ts) (d::ds) ρ R:=λσ H Hf vs Q S r q aa s us I rv=>by
 obtain ⟨ρ',hs',h⟩:=h
 rw [aF] at r
 obtain ⟨v,vr,rfl,r1,r2⟩:=r
 have hp:Lc c.X ts (λvs' σ' H' Q'=>∀ aa s us,Inv c.X aa σ' H' s->Vals vs' us->wpAny (model c.X.prog c.X.w) c.X.A (assignInOrder ((assignEach ts c.X.env).map (·.2)) us) (λ_ s'=>∃ σ'' H'',Inv c.X aa σ'' H'' s'/\Q' σ'' H'') c.X.xe s) :=
  λaa s σ H vs us Q I r h=>h aa s us I r
 refine zI (nX (X:=c.X) (i:=i) (by rw [c.eN]; exact c.nd) (by rw [c.eN]; exact hN.get) (by rw [c.esc]; exact c.vis x hN.mem) (c.fn x hf)) hp (hs _) aa s σ H _ us Q I rv ⟨v,vr,rfl,?_⟩
 have S1:=S.set (i:=i) (.refl S.sb) (r:=.va d) (v:=v) r1
 rw [<- hs'.eq] at S1
 exact h _ H Hf vr Q S1 r2 q
theorem vc {R:List Sl->Prop} (he:d=.tup ds) (hl:ds.length=ts.length) (h:xO c ts ds ρ R)
 (hn:∀ env,(assignEach ts env).length=ts.length:=by intro _; walk_at "u") (hst:∀ env,(assignEach ts env).findIdx? (·.1)=none:=by intro _; walk_at "u"):mj c (.Tuple ts j pos) d ρ R:=λσ H Hf v Q S r q=>by
 subst he
 rw [aH] at r
 obtain ⟨a,xs,rfl,h1,h2⟩:=r
 have hp:Lc c.X ts (λvs' σ' H' Q'=>∀ aa s us,Inv c.X aa σ' H' s->Vals vs' us->wpAny (model c.X.prog c.X.w) c.X.A (assignInOrder ((assignEach ts c.X.env).map (·.2)) us) (λ_ s'=>∃ σ'' H'',Inv c.X aa σ'' H'' s'/\Q' σ'' H'') c.X.xe s) :=
  λaa s σ H vs us Q I r h=>h aa s us I r
 refine Aj (HY (X:=c.X) (k:=j) (n:=ts.length) c.calm hp (hn _) (hst _)) ⟨a,xs,rfl,av S.sb h1,by rw [<- h2.length,hl],?_⟩
 exact h σ H Hf xs Q S h2 λσ' H' aj ρ' S' g' hR=>q σ' H' aj ρ' S' g' hR
theorem Mi {f:Int->Int->Int} (ho:fj c.X (inplaceOp op) (rI C λi j=>.int (f i j))) (hN:At N i x) (hi:At ρ i (.va (.int m)))
 (h:aJ c e ρ (I1 λj=>Sd (C m j) (Nx ρ i nx (.va (.int (f m j)))))) (hf:bk=false\/sc.names.lookup x=some .local:=by first | exact .inl rfl | exact .inr (by walk_at "u")):eU c (.AugAssign (.Name x pos2) op e pos) ρ nx p:=λσ H Hf D S o=>by
 obtain ⟨v,e1,r1⟩:=S.va hi.get
 rw [aA] at r1; subst r1
 have hip:O4 c.X op (rI C λi j=>.int (f i j)):=λaa s σ H x y v u Q I rx ry h=>ho aa s σ H x y v u Q I rx ry h
 refine dQ (Ib (X:=c.X) (i:=i) (by rw [c.eN]; exact c.nd) (by rw [c.eN]; exact hN.get) (by rw [c.esc]; exact c.vis x hN.mem) cQ hip (c.fn x hf)) ⟨_,e1,h σ H Hf _ S λd v H' aj ⟨j,ed,⟨hC,ρ',hs,hn⟩⟩ r g=>?_⟩
 subst ed; rw [aA] at r
 have S2:=S.set g (i:=i) (r:=.va (.int (f m j))) (show Rep c.X.K aj (.int (f m j)) (.int (f m j)) from aA.mpr rfl)
 rw [<- hs.eq] at S2
 exact ⟨m,j,rfl,r,hC,o.nx _ H' aj _ S2 hn⟩
theorem IW (hN:At N i x) (hi:At ρ i (.va (.int m))) (h:aJ c e ρ (I1 λj=>Nx ρ i nx (.va (.int (m - j))))) (hf:bk=false\/sc.names.lookup x=some .local:=by first | exact .inl rfl | exact .inr (by walk_at "u")) :
 eU c (.AugAssign (.Name x pos2) .Sub e pos) ρ nx p :=
 Mi (C:=λ_ _=>True) (f:=λi j=>i - j) (λaa s σ H x y v u Q I rx ry ⟨i,j,e1,e2,_,q⟩=>DT aa s σ H x y v u Q I rx ry ⟨i,j,e1,e2,q⟩) hN hi (h.imp λd ⟨j,e,q⟩=>⟨j,e,trivial,q⟩) hf
theorem vd (hq:c.X.xe=λ_ _=>False) (I:Nat->List Sl->Prop) (h0:I m₀ ρ)
 (h:∀ m ρ',I m ρ'->iJ c t ρ' (mq (aI c body ρ' (λr=>∃ m',m'<m/\I m' r) { ct:=λr=>∃ m',m'<m/\I m' r,bk:=nx,rt:=p.rt }) (nx ρ'))) :
 eU c (.While t body [] pos) ρ nx p:=λσ H Hf D S o =>
 dQ (zK (by rw [hq]; exact PassesOwn.never) GJ qm) ⟨λm σ H=>∃ Hf ρ',bw c σ H Hf ρ'/\I m ρ',⟨m₀,Hf,ρ,S,h0⟩,λm σ H ⟨Hf,ρ',S,hI⟩=>h m ρ' hI σ H Hf _ S λx H' aj hx g=>by
  cases x with
  | false=>rw [if_neg P5]; exact o.nx σ H' aj ρ' (S.cA g) (hx.f rfl)
  | true =>
   rw [if_pos rfl]
   refine ⟨λσ' H'=>∃ m',m'<m/\∃ Hf ρ',bw c σ' H' Hf ρ'/\I m' ρ',λσ' H' ⟨m',hl,hh⟩=>⟨m',hl,hh⟩,?_⟩
   exact hx.t rfl σ H' aj _ (S.cA g) ⟨λσ H Hf ρ S ⟨m',hl,hi⟩=>⟨m',hl,Hf,ρ,S,hi⟩,o.rt,λσ H Hf ρ S q=>o.nx σ H Hf ρ S q,λσ H Hf ρ S ⟨m',hl,hi⟩=>⟨m',hl,Hf,ρ,S,hi⟩⟩⟩
end
theorem dG (h:n<=1000):n<=sizeLine:=Sg (xK h)
theorem Au (h:0<j) (h2:j.natAbs.log2<9000):An j:=⟨h,h2⟩
inductive Res where
 | ok (r:Sl)
 | ex (C:Addr)
noncomputable abbrev Fn:=List D->Res->Prop
noncomputable def eX (K:PN) (F:Fn):Sp:=λvs H Q E=>∃ Hf ds r,aL Hf H/\aq K Hf ds vs/\F ds r/\match r with
 | .ok sl=>∀ v H' aj,aY H Hf H' aj->aW K (λp=>H p=none) H' aj sl v->Q v H'
 | .ex C=>∀ a H',aL H H'->E (.ref C) (some a) H'
structure eG (P:Program) (w:World) (K:PN) (mg:Str->Option Value) (base:Heap) (k:Nat) (x:Str) (F:Fn):Prop where
 ex:∃ f fd ps,mg x=some (.ref f)/\RI K (.ref f)=true/\Binds K fd ps []/\bu P w K mg base (di P w) k f fd ps (eX K F)
section
variable {K:PN} {c:Ctx P w K mg base k N sc bk}
noncomputable def IX (c:Ctx P w K mg base k N sc bk) (ρ:List Sl) (R:Sl->Prop):Res->Prop
 | .ok sl=>R sl
 | .ex C=>c.RX C ρ
theorem Ez (h:eG P w K mg base j x F) (hj:j<=k):∃ f,mg x=some (.ref f)/\RI K (.ref f)=true /\
 ∀ (aa:List (Addr×Obj)) (σ:L2.St) (H Hf:Hp) (s:Shared) (us:List Value) (vs:List V) (ds:List D) (r:Res) (Q:VK),Inv c.X aa σ H s->bw c σ H Hf ρ->Vals vs us->aq c.X.K Hf ds vs->F ds r ->
  (∀ sl v H' aj,r=.ok sl->aW c.X.K (λp=>H p=none) H' aj sl v->aY H Hf H' aj->Q v H')->(∀ C,r=.ex C->c.RX C ρ)->wpAny (model c.X.prog c.X.w) c.X.A (call (.ref f) us) (EP c.X aa σ Q) c.X.xe s:=by
 obtain ⟨f,fd,ps,hm,hk,hb,hF⟩:=h.ex
 refine ⟨f,hm,hk,λaa σ H Hf s us vs ds r Q I S rv rs hr q hx=>?_⟩
 have hF':bu c.X.prog c.X.w c.X.K c.X.mg c.X.base (di c.X.prog c.X.w) k f fd ps (eX c.X.K F):=by rw [c.eP,c.ew,c.eK,c.emg,c.eb]; exact hF.mono hj
 have mQ:eX c.X.K F vs H Q (λcv ao H'=>∃ C,r=.ex C/\cv=.ref C/\aL H H'):=by
  refine ⟨Hf,ds,r,S.bas.b,rs,hr,?_⟩
  cases r with
  | ok sl=>exact λv H' aj g rs2=>q sl v H' aj rfl rs2 g
  | ex C=>exact λa H' s2=>⟨C,rfl,rfl,s2⟩
 have hl:us.length=ps.length:=by rw [<- rv.length]; exact hF'.len _ _ _ _ mQ
 have hb':Binds c.X.K fd ps []:=by rw [c.eK]; exact hb
 have hb2:=hb' s us I.l8 (by simpa using hl)
 rw [QX] at hb2
 refine SW (SK (hF'.run c.X.A c.X.stack s H ⟨us,[]⟩ us vs Q _ c.room I.zQ hb2 rv mQ) λr' s' hq=>?_)
 cases r' with
 | error e =>
  obtain ⟨a,C,H',rfl,hE,C',e1,e2,sm⟩:=hq
  cases e2
  exact c.exc C a aa σ H Hf ρ s H' s' I S (hx C e1) hE sm
 | ok fl =>
  cases fl with
  | ret u=>exact I.after hq
  | next=>exact QM hq
  | brk=>exact QM hq
  | cont=>exact QM hq
theorem x_call {R:Sl->Prop} (h:eG P w K mg base j x F) (hj:j<=k)
 (ha:qo c (e::es) ρ λds=>∃ r,F ds r/\IX c ρ R r)
 (hg:sc.names.lookup x=some .globalImplicit:=by walk_at "u") (hdb:(x == ("__debug__":Str))=false:=by decide) (he:∀ env,starEach (e::es) env=(false,eval e env)::starEach es env:=by intro _; walk_at "u")
 (hpl:∀ env,(backTo pos (starEach es env)).any (·.1)=false:=by intro _; walk_at "u"):cN c (.Call (.Name x p) (e::es) [] pos) ρ R:=λσ H Hf Q S q aa s I=>by
 obtain ⟨f,hm,hk,run⟩:=Ez (c:=c) (ρ:=ρ) h hj
 refine Ry (gJ I (by unfold Gl Qx; rw [c.esc]; exact hg) (by rw [c.emg]; exact hm) ?_ hdb)
 refine TV (h₀:=c.X.base) I.ok.mod.kin (by rw [c.eK]; exact hk) (bz (ha σ H Hf (λvs H1=>∃ aM ds,(∃ r,F ds r/\IX c ρ R r)/\aq c.X.K aM ds vs/\aY H Hf H1 aM) S (λds vs H1 aM hr rs g=>⟨aM,ds,hr,rs,g⟩) pos aa s I) λus s1 hh=>z2 hh λvs H1 hh=>w3 hh λI1 rv hh=>z2 hh λaM ds hh=>w3 hh λhh rs g=>hh.elim λr hh=>w2 hh λhF hR=>⟨I1.l8,?_⟩) (he _) (hpl _)
 refine run aa σ H1 aM s1 us vs ds r Q I1 (S.cA g) rv rs hF (λsl v H' aj e1 rs2 g2=>?_) λC e1=>?_
 ·subst e1
  exact q sl v H' aj hR (rs2.weak λp hp=>g.s.free hp) (g.trans g2)
 ·subst e1
  exact hR
theorem bL (h:eG P w K mg base j x F) (hj:j<=k)
 (ha:qo c (e::es) ρ λds=>∃ r,F ds r/\IX c ρ (IQ R) r)
 (hg:sc.names.lookup x=some .globalImplicit:=by walk_at "u") (hdb:(x == ("__debug__":Str))=false:=by decide) (he:∀ env,starEach (e::es) env=(false,eval e env)::starEach es env:=by intro _; walk_at "u")
 (hpl:∀ env,(backTo pos (starEach es env)).any (·.1)=false:=by intro _; walk_at "u"):aJ c (.Call (.Name x p) (e::es) [] pos) ρ R:=e_x (x_call h hj ha hg hdb he hpl)
noncomputable def ir (N:List Str) (ds:List D):List Sl:=ds.map .va++Qf (N.length - ds.length) .un
theorem Av (r:aq K dR ds vs) (sb:aL dR H₀):dB K H₀ dR (L2.start N vs) H₀ dR (ir N ds):=by
 have hl:=r.length
 refine ⟨.refl sb,by simp [L2.start,ir,hl],λi r' h hu=>?_,λi j r1 r2 p hne h1 h2 o1 o2=>?_⟩
 ·by_cases q:i<ds.length
  ·have e:(ir N ds)[i]?=some (.va ds[i]):=by
    unfold ir
    rw [R4 (by simpa using q)]; simp [q]
   rw [e] at h; cases h
   obtain ⟨x,e2,rx⟩:=r.get (i:=i) (d:=ds[i]) (by simp)
   refine ⟨x,?_,rx⟩
   unfold L2.start
   rw [R4 (by simp; lia)]
   simp [e2]
  ·unfold ir at h
   rw [Tc (by simp; lia)] at h
   have:=QI h
   exact absurd (UD this) hu
 ·exfalso
  unfold ir at h1
  by_cases q:i<(ds.map Sl.va).length
  ·rw [R4 q] at h1
   rw [P6] at h1
   cases z:ds[i]? with
   | none=>rw [z] at h1; cases h1
   | some d=>rw [z] at h1; cases h1; cases o1
  ·rw [Tc (by lia)] at h1
   have e3:=UD (QI h1)
   subst e3; cases o1
abbrev FS (N P:List Str) (st:Stmt):Prop:=(aQ st).kind=.function/\(aQ st).isCoroutine=false/\(aQ st).isGenerator=false/\N.Nodup/\N.take P.length=P/\(∀ x∈P,(aQ st).names.lookup x=some .local\/(aQ st).names.lookup x=some .cell)/\(∀ y∈(aQ st).names,y.2≠.free)/\∀ x∈N,(aQ st).names.lookup x=some .local\/(aQ st).names.lookup x=some .cell
theorem Aw {N P:List Str} {st:Stmt} (h:FS N P st):nZ N P (aQ st)/\∀ x∈N,Loc (aQ st) x:=⟨⟨h.1,h.2.1,h.2.2.1,h.2.2.2.1,h.2.2.2.2.1,h.2.2.2.2.2.1,h.2.2.2.2.2.2.1⟩,h.2.2.2.2.2.2.2⟩
theorem cG {st:Stmt} (Fu:eS K x qual st f fd) (SV:FS N ps st) (ar:∀ ds r,F ds r->ds.length=ps.length)
 (hok:∀ ds r,F ds r->∃ sl,r=.ok sl)
 (body:∀ (c:Ctx P w K mg base k N (aQ st) false),c.X.xe=(λ_ _=>False)->∀ ds sl,F ds (.ok sl)->aI c (ay st) (ir N ds) (λ_=>sl=.va .non) { rt:=λr=>r=sl }) :
 bu P w K mg base (di P w) (k+1) f fd ps (eX K F):=by
 obtain ⟨Sc,Vi⟩:=Aw SV
 obtain ⟨oc,od,kV,doc,pm,an,cdv,ct,osl,rfl,lk,hcd⟩:=Fu.ex
 refine zR lk hcd Sc (λvs H Q E ⟨Hf,ds,r,_,rs,hF,_⟩=>by rw [<- rs.length]; exact ar _ _ hF) λA outer s H vs Q E hr ⟨Hf,ds,r,sb,rs,hF,hq⟩=>?_
 obtain ⟨sl,rfl⟩:=hok _ _ hF
 let X:Cx:=(p7 (di P w) P w K mg base N qual (aQ st) f cdv A outer s H E).GD
 let c:Ctx P w K mg base k N (aQ st) false :=
  { X:=X,eP:=rfl,ew:=rfl,eK:=rfl,emg:=rfl,eb:=rfl,eN:=rfl,esc:=rfl,calm:=rfl,top:=λ_=>⟨rfl,rfl,rfl⟩,cb:=λ_ _ _ _ _ I x c h=>I.ok.cab x c rfl h,fn:=λ_ _=>.inl rfl,B:=H,room:=hr,nd:=Sc.nd,vis:=Vi,Hf:=Hf,RX:=λ_ _=>False,
    exc:=λ_ _ _ _ _ _ _ _ _ _ _ _ h _ _=>h.elim,RM:=λ_ _=>False,mde:=λ_ _ _ _ _ _ _ _ _ _ _ _ h _=>h.elim }
 refine ⟨_,sH.GD (t:=IP X (ay st)) (qm (X:=X)),?_⟩
 refine body c rfl ds sl hF (L2.start N vs) H Hf _ (Av rs sb) ⟨λσ H' aj ρ S e=>?_,λr v H' aj g rv e=>?_,λ_ _ _ _ _ h=>h.elim,λ_ _ _ _ _ h=>h.elim⟩
 ·subst e
  exact hq .non H' aj S.bas (show Rep K aj .non .non from bR.mpr rfl)
 ·have e:r=sl:=e
  subst e
  exact hq v H' aj g rv
def OH (K:PN) (r:List V->Hp->VK->Prop) (p:List D->(Sl->Prop)->Prop):Prop :=
 ∀ (ds:List D) (vs:List V) (H Hf:Hp) (Q:VK) (R:Sl->Prop),aL Hf H->aq K Hf ds vs->p ds R->(∀ z v' H' aj,R z->aW K (λp=>H p=none) H' aj z v'->aY H Hf H' aj->Q v' H')->r vs H Q
theorem Mj {id:String} {R:Sl->Prop} (hc:gc c.X (.type id) r) (hd:OH c.X.K r q) (hm:mg x=none) (hv:bootBuiltins x=some (.type id))
 (ha:qo c (e::es) ρ λds=>q ds R) (hg:sc.names.lookup x=some .globalImplicit:=by walk_at "u") (hn:x≠"__name__":=by decide) (hdb:(x == ("__debug__":Str))=false:=by decide)
 (he:∀ env,starEach (e::es) env=(false,eval e env)::starEach es env:=by intro _; walk_at "u") (hpl:∀ env,(backTo pos (starEach es env)).any (·.1)=false:=by intro _; walk_at "u"):cN c (.Call (.Name x p) (e::es) [] pos) ρ R:=λσ H Hf Q S qq =>
 bJ (ju hc (by unfold Gl Qx; rw [c.esc]; exact hg) (by rw [c.emg]; exact hm) hv En hn hdb (he _) (hpl _))
  (ha σ H Hf _ S λds vs H1 aM h1 rs g=>hd ds vs H1 aM Q R g.b rs h1 λz v' H' aj hz rz g2=>qq z v' H' aj hz (rz.weak λp hp=>g.s.free hp) (g.trans g2))
theorem qp (h:aq K H [d] vs):∃ v,vs=[v]/\Rep K H d v:=by
 rw [aF] at h
 obtain ⟨x,r,rfl,h1,h2⟩:=h
 rw [aC] at h2; subst h2
 exact ⟨x,rfl,h1⟩
def Ax (K:PN) (r:List V->Hp->VK->Prop) (p:List D->(D->Prop)->Prop):Prop :=
 ∀ (ds:List D) (vs:List V) (H Hf:Hp) (Q:VK) (R:D->Prop),aL Hf H->aq K Hf ds vs->p ds R->(∀ d v H' aj,R d->Rep K aj d v->aY H Hf H' aj->Q v H')->r vs H Q
theorem ve {id:String} (hc:gc c.X (.builtin id) r) (hd:Ax c.X.K r q) (hm:mg x=none) (hv:bootBuiltins x=some (.builtin id))
 (ha:qo c (e::es) ρ λds=>q ds R) (hg:sc.names.lookup x=some .globalImplicit) (hn:x≠"__name__") (hdb:(x == ("__debug__":Str))=false)
 (he:∀ env,starEach (e::es) env=(false,eval e env)::starEach es env) (hpl:∀ env,(backTo pos (starEach es env)).any (·.1)=false):aJ c (.Call (.Name x p) (e::es) [] pos) ρ R:=λσ H Hf Q S qq =>
 bJ (zS hc (by unfold Gl Qx; rw [c.esc]; exact hg) (by rw [c.emg]; exact hm) hv En hn hdb (he _) (hpl _))
  (ha σ H Hf _ S λds vs H1 aM h1 rs g=>hd ds vs H1 aM Q R g.b rs h1 λz v' H' aj hz rz g2=>qq z v' H' aj hz rz (g.trans g2))
theorem Ml {id:String} (hc:gc c.X (.type id) r) (hd:Ax c.X.K r q) (hm:mg x=none) (hv:bootBuiltins x=some (.type id))
 (ha:qo c (e::es) ρ λds=>q ds R) (hg:sc.names.lookup x=some .globalImplicit) (hn:x≠"__name__") (hdb:(x == ("__debug__":Str))=false)
 (he:∀ env,starEach (e::es) env=(false,eval e env)::starEach es env) (hpl:∀ env,(backTo pos (starEach es env)).any (·.1)=false):aJ c (.Call (.Name x p) (e::es) [] pos) ρ R:=λσ H Hf Q S qq =>
 bJ (ju hc (by unfold Gl Qx; rw [c.esc]; exact hg) (by rw [c.emg]; exact hm) hv En hn hdb (he _) (hpl _))
  (ha σ H Hf _ S λds vs H1 aM h1 rs g=>hd ds vs H1 aM Q R g.b rs h1 λz v' H' aj hz rz g2=>qq z v' H' aj hz rz (g.trans g2))
end
end EV
namespace EV
open PySem PySem.Spec PySem.Calls PyProof.Rows L2
theorem IY (x:bq P w H h a o):∃ u,h.get? a=some u:=by
 cases o with
 | lst xs=>obtain ⟨_,_,_,_,e⟩:=x; exact ⟨_,e⟩
 | tup xs=>obtain ⟨_,_,_,ob,e,_⟩:=x; exact ⟨_,e⟩
 | dK kvs=>obtain ⟨_,_,_,_,o,_,_,e,_⟩:=x; exact ⟨_,e⟩
 | dT kvs=>obtain ⟨_,_,_,_,o,_,_,e,_⟩:=x; exact ⟨_,e⟩
 | set S n=>obtain ⟨o,_,_,_,e,_⟩:=x; exact ⟨_,e⟩
 | ins C dx fs=>obtain ⟨_,_,_,e,_⟩:=x; exact ⟨_,e⟩
 | own y=>exact x
 | xd fs=>obtain ⟨_,⟨_,_,_,e,_⟩,_⟩:=x; exact ⟨_,e⟩
 | rng lo hi=>obtain ⟨_,_,_,e⟩:=x; exact ⟨_,e⟩
 | frz ob u=>obtain ⟨e,_⟩:=x; exact ⟨_,e⟩
 | tbl ps=>exact ⟨_,x⟩
 | met f y=>exact ⟨_,x⟩
 | ext φ =>exact x.2.1
section
variable {K:PN}
end
open PySem.W Builtin Builtin.ObjectAttr Builtin.Getset_descriptor
structure NG (K:PN) (C:Addr):Prop where
 ga:Sa K (.ref C) "__getattribute__"=some (some (.builtin "BaseException.__getattribute__"))
 hk:Sa K (.ref C) "__getattr__"=some none
 ca:Sa K (.ref C) "__class__"=some (some (.builtin "object.__class__"))
 gt:V8 K (.builtin "object.__class__") "__get__"=some (some (.builtin "getset_descriptor.__get__"))
 tk:PySem.W.takesIn K (.builtin "object.__class__")=some true
 mo:Vj K C (.type "object")=some true
 mb:Vj K C (.type "BaseException")=some true
section
variable {prog:Program} {w:World} {A:Around} {E:Value->Shared->Prop} {s:Shared} {K:PN} {x C:Addr} {R:Result->Shared->Prop}
theorem vf (p:sX x C h):Looks M h (typeOf (.ref x)) (.ref C):=by
 obtain ⟨o,ho,hc,_⟩:=p
 rw [<- hc]
 exact (Looks.ld ho).andThen .now
theorem mw (X:K.In s.heap) (L:Looks (model prog w) s.heap (typeOf (.ref x)) (.ref C)) (hm:Vj K C (.type "object")=some true)
 (h:R (.ok (.ret (.ref C))) s):codeAny (model prog w) A (.call (.builtin "getset_descriptor.__get__") ⟨[.builtin "object.__class__",.ref x,tp],[]⟩) R s:=by
 obtain ⟨hh,g,dr,t,os⟩:=s
 have L0:=L
 have L1:=looks_mroIn (M:=model prog w) X hm
 refine codeAny_call_builtin KF.slot_gs.plain KF.entry_gs (KF.slot_gs.check _ _ _ _ _ _ _ _ KF.type_class (KF.args_gs _ _ _) ?_)
 unfold Builtin.«getset_descriptor.__get__» descrGet
 rw [dga_obj]
 refine PK (PR ?_)
 unfold descrGetter descrCheckInstance descrNameAndClass isInstance
 simp only [KF.owner_class]
 repeat lk
 refine ⟨Code.quiet_builtin _ (by decide +kernel),T5 KF.entry_class ?_⟩
 unfold Builtin.«object.__class__» shownTypeOf
 repeat lk
 exact h
theorem Ay (X:K.In h) (k:NG K C):Looks M h (find (.ref x) (.ref C) "__class__") (.bind (.builtin "getset_descriptor.__get__") (.builtin "object.__class__")):=by
 have L1:=looks_findIn (M:=M) X k.ca
 have L2:Looks M h (getOf (some (.builtin "object.__class__"))) (some (.builtin "getset_descriptor.__get__")):=looks_specialIn X k.gt
 have L3:=looks_takesIn (M:=M) X k.tk
 unfold find
 refine L1.andThen (L2.andThen ?_)
 refine Looks.andThen (a:=some (.builtin "getset_descriptor.__get__",.builtin "object.__class__")) ?_ (Looks.tag .now)
 unfold dataDescriptor?
 exact L3.andThen .now
theorem xP (X:K.In s.heap) (p:sX x C s.heap) (k:NG K C) (h:Q (some (.ref C)) { s with toks:=s.toks+1 }):wpAny (model prog w) A (getAttr? (.ref x) "__class__") Q E s:=by
 obtain ⟨hh,g,d,t,os⟩:=s
 have L0:Looks (model prog w) hh (typeOf (.ref x)) (.ref C):=vf p
 have L1:=looks_findIn (M:=model prog w) X k.ga
 have L2:=looks_findIn (M:=model prog w) X k.hk
 have L3:=looks_mroIn (M:=model prog w) X k.mb
 have L4:=Ay (M:=model prog w) (x:=x) X k
 unfold getAttr? getAttrBy? getAttrBy
 refine PK (wpAny_mkText (PK (RQ (Rb (PK (L0.at (PK (L1.at ?_))))))))
 dsimp only
 have hx2:(Value.builtin "BaseException.__getattribute__" == Value.builtin "object.__getattribute__")=false:=by decide +kernel
 rw [hx2,Bool.and_false,if_neg P5]
 unfold getAttrByItsOwn hookBefore
 rw [if_pos (by rfl)]
 refine PK (L2.at ?_)
 refine PK (RQ (Rb ?_))
 unfold callGetattribute
 rw [if_neg (by simp)]
 unfold boundAndCalled
 have f3:=PySem.F.attrBase_ValueError.ga.bind (.ref x)
 rw [f3]
 refine PK (PR ?_)
 refine SW (codeAny_call_builtin PySem.F.attrBase_ValueError.ga.plain PySem.F.entry_bexc_ga ?_)
 have hk:builtinKind "BaseException.__getattribute__"=some .slot:=by decide +kernel
 have hsplit:splitId "BaseException.__getattribute__"=some ("BaseException","__getattribute__"):=by decide +kernel
 have ha:=PySem.F.args_bexc_ga (.ref x) (Uq "__class__" t)
 simp only [checkBuiltinCall,hk,hsplit]
 dsimp only [Rz,RW]
 have LI:Looks (model prog w) hh (isInstance (.ref x) (.type "BaseException")) true:=L0.andThen L3
 refine PK (LI.at ?_)
 rw [if_neg (by decide)]
 refine QL (Q:=λ_ s1=>s1=⟨hh,g,d,t+1,os⟩) (E:=λ_ _=>False) ?_ (λ_ s1 e1=>?_) (λ_ _ z=>z.elim)
 ·repeat (any_goals (first | assumption | rfl | wp_step))
 subst e1
 unfold «object.__getattribute__»
 repeat (first | with_reducible refine SW ?_ | lk)
 refine mw X L0 k.mo ?_
 repeat lk
 exact h
theorem Az (k:NG K C):PySem.W.KitX K (.ref x) (.ref C) (sX x C) where
 ty:=λ_ _ _ p=>vf p
 it:=λ_ _ X _=>by
  have hdct:∃ cd,Ub K C=some cd:=by
   obtain ⟨cd,h1,_⟩:=VH.mp (show (Ub K C).bind _=some true from k.mo)
   exact ⟨cd,h1⟩
  obtain ⟨cdD,hcD⟩:=hdct
  unfold Ub at hcD
  split at hcD
  ·rename_i c' d' cd' sl' ho
   intro A' Q' E' s' k q
   unfold isType loadHead
   exact PK (wpAny_loadPart (k _ _ (X _ _ ho)) (PR q))
  ·cases hcD
 ne:=λh tp dd its n sl X htp=>by
  obtain ⟨cdD,hcD,_⟩:=VH.mp (show (Ub K C).bind _=some true from k.mo)
  refine Bool.eq_false_iff.mpr λq=>?_
  have e:C=tp:=Qk.inj (beq_iff_eq.mp q)
  subst e
  unfold Ub at hcD
  split at hcD
  ·rename_i c' d' cd' sl' ho
   have z:=(X _ _ ho).symm.trans htp
   cases z
  ·cases hcD
 ca:=λX p h=>xP X p k h
end
inductive xQ (K:PN):D->Value->Prop where
 | non:xQ K .non (.type "NoneType")
 | bl {x:Bool}:xQ K (.bl x) (.type "bool")
 | int {i:Int}:xQ K (.int i) (.type "int")
 | str {x:Str}:xQ K (.str x) (.type "str")
 | lst {ds:List EV.D}:xQ K (.lst ds) (.type "list")
 | tup {ds:List EV.D}:xQ K (.tup ds) (.type "tuple")
 | exc {C:Addr} (k:NG K C):xQ K (.exc C) (.ref C)
theorem EA (I:Inv X aa σ H s) (sb:aL Hf H) (rx:RelV v u) (rd:Rep X.K Hf d v) (ty:xQ X.K d t) (e:Rq X.K t cv=some b) (h:∀ tk,Q (.bool b) { s with toks:=tk }) :
 wpAny (model X.prog X.w) A (call (.builtin "isinstance") [u,cv]) Q E s:=by
 cases ty with
 | non=>rw [bR] at rd; subst rd; cases (show u=QG from rx); exact SG PySem.W.kitx_none I.l8 RU e (λz=>nomatch z) h
 | bl=>rw [fc] at rd; subst rd; cases (show u=Value.bool _ from rx); exact SG PySem.W.kitx_bool I.l8 RU e (λz=>nomatch z) h
 | int=>rw [aA] at rd; subst rd; obtain ⟨t,q⟩:=(show ∃ t,u=Ur _ t from rx); cases q; exact SG PySem.W.kitx_int I.l8 RU e (λz=>nomatch z) h
 | str=>rw [fM] at rd; subst rd; obtain ⟨t,q⟩:=(show ∃ t,u=Uq _ t from rx); cases q; exact SG PySem.W.kitx_str I.l8 RU e (λz=>nomatch z) h
 | lst =>
  rw [aX] at rd
  obtain ⟨a,xs,rfl,h1,_⟩:=rd
  cases (show u=Qk a from rx)
  obtain ⟨its,_,p,_⟩:=I.list (sb.seq h1)
  obtain ⟨o,n1,p1,p2,_⟩:=p
  exact SG PySem.W.kitx_list I.l8 ⟨o,p1,p2⟩ e (λz=>nomatch z) h
 | tup =>
  rw [aH] at rd
  obtain ⟨a,xs,rfl,h1,_⟩:=rd
  cases (show u=Qk a from rx)
  obtain ⟨its,_,p,_⟩:=I.tuple (av sb h1)
  obtain ⟨o,p1,p2,_⟩:=p
  exact SG PySem.W.kitx_tuple I.l8 ⟨o,p1,p2⟩ e (λz=>nomatch z) h
 | @exc C k =>
  rw [Em] at rd
  obtain ⟨a,rfl,h1⟩:=rd
  cases (show u=Qk a from rx)
  have p:sX a C s.heap:=(show bq X.prog X.w H s.heap a (.ext (sX a C)) from I.hok a _ (sb _ _ h1)).1
  exact SG (Az k) I.l8 p e (λz=>nomatch z) h
section
variable {K:PN} {c:Ctx P w K mg base k N sc bk}
def iR (mg:Str->Option Value) (x:Str) (cv:Value):Prop:=(∃ C,cv=.ref C/\mg x=some (.ref C))\/(∃ T,cv=.type T/\mg x=none/\bootBuiltins x=some (.type T)/\x≠"__name__")
theorem xR:bootBuiltins "isinstance"=some (.builtin "isinstance"):=by decide +kernel
theorem om (hm:mg "isinstance"=none) (hc:iR mg x cv) (h:aJ c e ρ λd=>∃ t b,xQ K d t/\Rq K t cv=some b/\R (.bl b))
 (hgi:sc.names.lookup (PM "isinstance")=some .globalImplicit:=by walk_at "u") (hgx:sc.names.lookup x=some .globalImplicit:=by walk_at "u") (hdx:(x == ("__debug__":Str))=false:=by decide)
 (he:∀ env,starEach [e,.Name x cp] env=(false,eval e env)::starEach [.Name x cp] env:=by intro _; walk_at "u") (he2:∀ env,starEach [.Name x cp] env=[(false,eval (.Name x cp) env)]:=by intro _; walk_at "u")
 (hpl:∀ env,(backTo pos (starEach [.Name x cp] env)).any (·.1)=false:=by intro _; walk_at "u"):aJ c (.Call (.Name "isinstance" np) [e,.Name x cp] [] pos) ρ R:=λσ H Hf Q S q aa s I=>by
 refine Ry (dz I (by unfold Gl Qx; rw [c.esc]; exact hgi) (by rw [c.emg]; exact hm) xR ?_ (by decide) (by decide))
 have hx:∀ (s1:Shared) (H1:Hp) (Q':Value->Shared->Prop),Inv c.X aa σ H1 s1->Q' cv s1->wpAny (model c.X.prog c.X.w) c.X.A (eval (.Name x cp) c.X.env) Q' c.X.xe s1:=λs1 H1 Q' I1 q'=>by
  rcases hc with ⟨C,rfl,hm'⟩ | ⟨T,rfl,hm',hb,hn⟩
  ·exact gJ I1 (by unfold Gl Qx; rw [c.esc]; exact hgx) (by rw [c.emg]; exact hm') q' hdx
  ·exact dz I1 (by unfold Gl Qx; rw [c.esc]; exact hgx) (by rw [c.emg]; exact hm') hb q' hn hdx
 refine Vz (spliced_more (h σ H Hf (λv H1=>∃ d aM,(∃ t b,xQ K d t/\Rq K t cv=some b/\R (.bl b))/\Rep c.X.K aM d v/\aY H Hf H1 aM) S (λd v H' aj hR r g=>⟨d,aj,hR,r,g⟩) aa s I |> (bz · λu s1 hh=>z2 hh λv H1 hh=>w3 hh λI1 rv hh=>z2 hh λd aM hh=>w3 hh λhh rd g=>z2 hh λt b hh=>w3 hh λty ek hR=>?_)) (he _)) (he _) (hpl _)
 refine spliced_more (hx s1 H1 _ I1 (spliced_none ?_)) (he2 _)
 refine EA I1 g.b rv rd (by rw [c.eK]; exact ty) (by rw [c.eK]; exact ek) λtk=>?_
 exact ⟨.bl b,H1,I1.tok tk,rfl,q _ _ H1 aM hR (fc.mpr rfl) g⟩
end
section
variable {X:Cx}
theorem oq (I:Inv X aa σ H s) (sb:aL Hf H):∀ (n:Nat) (d e:D) (v:V),j8 n d e->Rep X.K Hf d v->Rep X.K Hf e v->d=e:=by
 intro n
 induction n with
 | zero =>
  intro d e v h r1 r2
  cases h with
  | sc h=>cases d <;> cases e <;> simp [jN] at h <;> simp_all [Rep]
  | ln=>rw [bR] at r2; subst r2; rw [aX] at r1; obtain ⟨_,_,e,_⟩:=r1; cases e
  | nl=>rw [bR] at r1; subst r1; rw [aX] at r2; obtain ⟨_,_,e,_⟩:=r2; cases e
  | tn=>rw [bR] at r2; subst r2; rw [aH] at r1; obtain ⟨_,_,e,_⟩:=r1; cases e
  | nt=>rw [bR] at r1; subst r1; rw [aH] at r2; obtain ⟨_,_,e,_⟩:=r2; cases e
 | succ n ih =>
  have els:∀ (ds es:List D) (xs:List V),(∀ (i:Nat) (d e:D),ds[i]?=some d->es[i]?=some e->j8 n d e)->aq X.K Hf ds xs->aq X.K Hf es xs->ds=es:=λds es xs h q1 q2=>by
   apply UZ
   intro i
   cases a:ds[i]? with
   | none =>
    have:ds.length<=i:=by simpa using a
    symm
    rw [List.getElem?_eq_none_iff,q2.length,<- q1.length]; exact this
   | some d =>
    obtain ⟨x,ex,rx⟩:=q1.get a
    obtain ⟨e,ee,re⟩:=q2.get' ex
    rw [ee,ih d e x (h i d e a ee) rx re]
  intro d e v h r1 r2
  cases h with
  | sc h=>cases d <;> cases e <;> simp [jN] at h <;> simp_all [Rep]
  | ln=>rw [bR] at r2; subst r2; rw [aX] at r1; obtain ⟨_,_,e,_⟩:=r1; cases e
  | nl=>rw [bR] at r1; subst r1; rw [aX] at r2; obtain ⟨_,_,e,_⟩:=r2; cases e
  | tn=>rw [bR] at r2; subst r2; rw [aH] at r1; obtain ⟨_,_,e,_⟩:=r1; cases e
  | nt=>rw [bR] at r1; subst r1; rw [aH] at r2; obtain ⟨_,_,e,_⟩:=r2; cases e
  | tup h =>
   rw [aH] at r1 r2
   obtain ⟨a,xs,rfl,p1,q1⟩:=r1
   obtain ⟨a',ys,e',p2,q2⟩:=r2
   cases e'
   have:=I.gK (av sb p1) (av sb p2)
   subst this
   rw [els _ _ _ h q1 q2]
  | lst h =>
   rw [aX] at r1 r2
   obtain ⟨a,xs,rfl,p1,q1⟩:=r1
   obtain ⟨a',ys,e',p2,q2⟩:=r2
   cases e'
   have:=I.p6 (sb.seq p1) (sb.seq p2)
   subst this
   rw [els _ _ _ h q1 q2]
theorem ou {α:Type} [BEq α] [LawfulBEq α] {a b:α} {i:Decidable (a=b)}:(a == b)=@decide (a=b) i:=by
 by_cases h:a=b
 ·subst h; simp
 ·simp [h]
theorem all_range {ds es:List D} (hn:ds.length=n) (hm:es.length=m) (h:n=m):((QC n).all λj=>decide (ds[j]?=es[j]?))=decide (ds=es):=by
 rw [Tv,Wl]
 simp only [Vf,decide_eq_true_eq]
 constructor
 ·intro q
  apply UZ
  intro i
  by_cases hi:i<n
  ·exact q i hi
  ·rw [RG (by lia),RG (by lia)]
 ·rintro rfl; intro _ _; rfl
theorem vg (h:jN x y=true) (r1:Rep X.K Hf x v) (r2:Rep X.K Hf y v') (e1:RelV v u) (e2:RelV v' u'):Qj A s u u' (decide (x=y)):=by
 cases x <;> cases y <;> simp [jN] at h <;> simp only [aA,fc,bR,fM] at r1 r2 <;> subst r1 <;> subst r2
 case non.non=>cases e1; cases e2; simpa using U6 _
 case non.bl b=>cases e1; cases e2; simpa using Qj.none_bool (A:=A) (s:=s) b
 case non.int i=>cases e1; obtain ⟨t,rfl⟩:=e2; simpa using Qj.none_int (A:=A) (s:=s) i t
 case non.str i=>cases e1; obtain ⟨t,rfl⟩:=e2; simpa using Qj.none_str (A:=A) (s:=s) i t
 case bl.non b=>cases e1; cases e2; simpa using Qj.bool_none (A:=A) (s:=s) b
 case bl.bl a b=>cases e1; cases e2; have q:=Qj.bool_bool (A:=A) (s:=s) a b; rw [ou (i:=inferInstance)] at q; simpa using q
 case bl.str a b=>cases e1; obtain ⟨t,rfl⟩:=e2; simpa using Qj.bool_str (A:=A) (s:=s) a b t
 case int.non a=>obtain ⟨t,rfl⟩:=e1; cases e2; simpa using Qj.int_none (A:=A) (s:=s) a t
 case int.int a b=>obtain ⟨t,rfl⟩:=e1; obtain ⟨t',rfl⟩:=e2; have q:=V1 (A:=A) (s:=s) a t b t'; rw [ou (i:=inferInstance)] at q; simpa using q
 case int.str a b=>obtain ⟨t,rfl⟩:=e1; obtain ⟨t',rfl⟩:=e2; simpa using V0 (A:=A) (s:=s) a t b t'
 case str.non a=>obtain ⟨t,rfl⟩:=e1; cases e2; simpa using Qj.str_none (A:=A) (s:=s) a t
 case str.bl a b=>obtain ⟨t,rfl⟩:=e1; cases e2; simpa using Qj.str_bool (A:=A) (s:=s) a t b
 case str.int a b=>obtain ⟨t,rfl⟩:=e1; obtain ⟨t',rfl⟩:=e2; simpa using VZ (A:=A) (s:=s) a t b t'
 case str.str a b=>obtain ⟨t,rfl⟩:=e1; obtain ⟨t',rfl⟩:=e2; have q:=Qj.str_str (A:=A) (s:=s) a t b t'; rw [ou (i:=inferInstance)] at q; simpa using q
theorem in1_units (A:Around):A.in1.units=A.units+1:=rfl
theorem vh:decide (D.tup ds=D.tup es)=decide (ds=es):=by simp
theorem j9:decide (D.lst ds=D.lst es)=decide (ds=es):=by simp
theorem oA (I:Inv X aa σ H s) {A:Around} (h:∀ (i:Nat) (d e:D),ds[i]?=some d->es[i]?=some e->j8 n d e)
 (ih:∀ (d e:D) (v v':V) (u u':Value) (A:Around),j8 n d e->Rep X.K Hf d v->Rep X.K Hf e v'->RelV v u->RelV v' u'->A.units+n<cLine->Qj A s u u' (decide (d=e)))
 (q1:aq X.K Hf ds xs) (q2:aq X.K Hf es ys) (r1:Vals xs us) (r2:Vals ys ws) (hu:A.in1.units+n<cLine) :
 ∀ j (h1:j<us.toArray.size) (h2:j<ws.toArray.size),Qj A.in1 s us.toArray[j] ws.toArray[j] (decide (ds[j]?=es[j]?)):=λj h1 h2=>by
 have l1:=q1.length
 have l2:=q2.length
 have m1:=r1.length
 have m2:=r2.length
 simp only [Qm] at h1 h2
 have hd:ds[j]?=some ds[j]:=Qo (by lia)
 have he:es[j]?=some es[j]:=Qo (by lia)
 obtain ⟨x,ex,rx⟩:=q1.get hd
 obtain ⟨y,ey,ry⟩:=q2.get he
 obtain ⟨u,eu,ru⟩:=r1.get ex
 obtain ⟨u',eu',ru'⟩:=r2.get ey
 have z1:us.toArray[j]=u:=by
  have:=Qo h1
  rw [this] at eu
  simpa using eu
 have z2:ws.toArray[j]=u':=by
  have:=Qo h2
  rw [this] at eu'
  simpa using eu'
 rw [z1,z2,hd,he]
 have q:=ih _ _ x y u u' A.in1 (h j _ _ hd he) rx ry ru ru' hu
 simpa using q
theorem xS (I:Inv X aa σ H s) (sb:aL Hf H):∀ (n:Nat) (d e:D) (v v':V) (u u':Value) (A:Around),j8 n d e->Rep X.K Hf d v->Rep X.K Hf e v'->RelV v u->RelV v' u'->A.units+n<cLine->Qj A s u u' (decide (d=e)):=by
 have non:∀ (n:Nat) (d e:D) (v v':V) (u u':Value) (A:Around),A.units<cLine->Rep X.K Hf d v->Rep X.K Hf e v'->RelV v u->RelV v' u' ->
  ((∃ ds,d=.lst ds/\e=.non)\/(∃ ds,d=.non/\e=.lst ds)\/(∃ ds,d=.tup ds/\e=.non)\/(∃ ds,d=.non/\e=.tup ds))->Qj A s u u' (decide (d=e)):=by
  intro n d e v v' u u' A hu r1 r2 e1 e2 h
  rcases h with ⟨ds,rfl,rfl⟩ | ⟨ds,rfl,rfl⟩ | ⟨ds,rfl,rfl⟩ | ⟨ds,rfl,rfl⟩
  ·rw [bR] at r2; subst r2; rw [aX] at r1; obtain ⟨a,xs,rfl,p,_⟩:=r1; cases e1; cases e2
   obtain ⟨its,_,q,_⟩:=I.list (sb.seq p)
   simpa using Qj.list_none (A:=A) q.isList hu
  ·rw [bR] at r1; subst r1; rw [aX] at r2; obtain ⟨a,xs,rfl,p,_⟩:=r2; cases e1; cases e2
   obtain ⟨its,_,q,_⟩:=I.list (sb.seq p)
   simpa using Qj.none_list (A:=A) q.isList hu
  ·rw [bR] at r2; subst r2; rw [aH] at r1; obtain ⟨a,xs,rfl,p,_⟩:=r1; cases e1; cases e2
   obtain ⟨its,_,q,_⟩:=I.tuple (av sb p)
   simpa using Qj.tuple_none (A:=A) (show s.heap.IsTuple a its.toArray from q) hu
  ·rw [bR] at r1; subst r1; rw [aH] at r2; obtain ⟨a,xs,rfl,p,_⟩:=r2; cases e1; cases e2
   obtain ⟨its,_,q,_⟩:=I.tuple (av sb p)
   simpa using Qj.none_tuple (A:=A) (show s.heap.IsTuple a its.toArray from q) hu
 intro n
 induction n with
 | zero =>
  intro d e v v' u u' A h r1 r2 e1 e2 hu
  cases h with
  | sc h=>exact vg h r1 r2 e1 e2
  | ln=>exact non 0 _ _ _ _ _ _ A (by lia) r1 r2 e1 e2 (.inl ⟨_,rfl,rfl⟩)
  | nl=>exact non 0 _ _ _ _ _ _ A (by lia) r1 r2 e1 e2 (.inr (.inl ⟨_,rfl,rfl⟩))
  | tn=>exact non 0 _ _ _ _ _ _ A (by lia) r1 r2 e1 e2 (.inr (.inr (.inl ⟨_,rfl,rfl⟩)))
  | nt=>exact non 0 _ _ _ _ _ _ A (by lia) r1 r2 e1 e2 (.inr (.inr (.inr ⟨_,rfl,rfl⟩)))
 | succ n ih =>
  intro d e v v' u u' A h r1 r2 e1 e2 hu
  cases h with
  | sc h=>exact vg h r1 r2 e1 e2
  | ln=>exact non 0 _ _ _ _ _ _ A (by lia) r1 r2 e1 e2 (.inl ⟨_,rfl,rfl⟩)
  | nl=>exact non 0 _ _ _ _ _ _ A (by lia) r1 r2 e1 e2 (.inr (.inl ⟨_,rfl,rfl⟩))
  | tn=>exact non 0 _ _ _ _ _ _ A (by lia) r1 r2 e1 e2 (.inr (.inr (.inl ⟨_,rfl,rfl⟩)))
  | nt=>exact non 0 _ _ _ _ _ _ A (by lia) r1 r2 e1 e2 (.inr (.inr (.inr ⟨_,rfl,rfl⟩)))
  | @tup _ ds es h =>
   have hh:=j8.tup h
   have r1':=r1; have r2':=r2
   rw [aH] at r1 r2
   obtain ⟨a,xs,rfl,p1,q1⟩:=r1
   obtain ⟨b,ys,rfl,p2,q2⟩:=r2
   cases e1; cases e2
   by_cases hab:a=b
   ·subst hab
    have:=oq I sb _ _ _ _ hh r1' r2'
    rw [this]
    simpa using U6 _
   ·obtain ⟨us,v1,t1,_⟩:=I.tuple (av sb p1)
    obtain ⟨ws,v2,t2,_⟩:=I.tuple (av sb p2)
    have key:=SX.tuples (A:=A) (s:=s) (show s.heap.IsTuple a us.toArray from t1) (show s.heap.IsTuple b ws.toArray from t2) (by lia) (oA I h ih q1 q2 v1 v2 (by rw [in1_units]; lia))
    have hl1:us.toArray.size=ds.length:=by simp [<- v1.length,q1.length]
    have hl2:ws.toArray.size=es.length:=by simp [<- v2.length,q2.length]
    have e:((QC (min us.toArray.size ws.toArray.size)).all (λj=>decide (ds[j]?=es[j]?)) && us.toArray.size == ws.toArray.size)=decide (D.tup ds=D.tup es):=by
     rw [vh,hl1,hl2]
     by_cases hl:ds.length=es.length
     ·rw [hl,Nat.min_self]
      simp only [beq_self_eq_true,Bool.and_true]
      exact all_range hl rfl rfl
     ·have:¬ ds=es:=λz=>hl (by rw [z])
      simp [hl,this]
    rw [e] at key
    exact .of_refs hab key
  | @lst _ ds es h =>
   have hh:=j8.lst h
   have r1':=r1; have r2':=r2
   rw [aX] at r1 r2
   obtain ⟨a,xs,rfl,p1,q1⟩:=r1
   obtain ⟨b,ys,rfl,p2,q2⟩:=r2
   cases e1; cases e2
   by_cases hab:a=b
   ·subst hab
    have:=oq I sb _ _ _ _ hh r1' r2'
    rw [this]
    simpa using U6 _
   ·obtain ⟨us,v1,t1,_⟩:=I.list (sb.seq p1)
    obtain ⟨ws,v2,t2,_⟩:=I.list (sb.seq p2)
    have hl1:us.toArray.size=ds.length:=by simp [<- v1.length,q1.length]
    have hl2:ws.toArray.size=es.length:=by simp [<- v2.length,q2.length]
    by_cases hl:ds.length=es.length
    ·have key:=SX.lists (A:=A) (s:=s) t1.isList t2.isList (by rw [hl1,hl2,hl]) (by lia) (oA I h ih q1 q2 v1 v2 (by rw [in1_units]; lia))
     rw [hl1,all_range rfl hl.symm rfl,<- j9] at key
     exact .of_refs hab key
    ·have key:=SX.lists_lengths (A:=A) (s:=s) t1.isList t2.isList (by rw [hl1,hl2]; simpa using hl) (by lia)
     have e:decide (D.lst ds=D.lst es)=false:=by
      rw [j9]; exact decide_eq_false λz=>hl (by rw [z])
     rw [e]
     exact .of_refs hab key
theorem qt (I:Inv X aa σ H s) (sb:aL Hf H) (hu:A.units+50<cLine) (hk:(d=.tup ds/\e=.tup es)\/(d=.lst ds/\e=.lst es)) (h:jV ds es)
 (r1:Rep X.K Hf d v) (r2:Rep X.K Hf e v') (e1:RelV v u) (e2:RelV v' u'):SX A s u u' (decide (d=e))/\Vm A s u u' (!decide (d=e)):=by
 have ih:=xS I sb 40
 rcases hk with ⟨rfl,rfl⟩ | ⟨rfl,rfl⟩
 ·rw [aH] at r1 r2
  obtain ⟨a,xs,rfl,p1,q1⟩:=r1
  obtain ⟨b,ys,rfl,p2,q2⟩:=r2
  cases e1; cases e2
  obtain ⟨us,v1,t1,_⟩:=I.tuple (av sb p1)
  obtain ⟨ws,v2,t2,_⟩:=I.tuple (av sb p2)
  have els:=oA (A:=A) I h ih q1 q2 v1 v2 (by rw [in1_units]; lia)
  have key:=SX.tuples (A:=A) (s:=s) (show s.heap.IsTuple a us.toArray from t1) (show s.heap.IsTuple b ws.toArray from t2) (by lia) els
  have key2:=Vm.tuples (A:=A) (s:=s) (show s.heap.IsTuple a us.toArray from t1) (show s.heap.IsTuple b ws.toArray from t2) (by lia) els
  have hl1:us.toArray.size=ds.length:=by simp [<- v1.length,q1.length]
  have hl2:ws.toArray.size=es.length:=by simp [<- v2.length,q2.length]
  have e:((QC (min us.toArray.size ws.toArray.size)).all (λj=>decide (ds[j]?=es[j]?)) && us.toArray.size == ws.toArray.size)=decide (D.tup ds=D.tup es):=by
   rw [vh,hl1,hl2]
   by_cases hl:ds.length=es.length
   ·rw [hl,Nat.min_self]
    simp only [beq_self_eq_true,Bool.and_true]
    exact all_range hl rfl rfl
   ·have:¬ ds=es:=λz=>hl (by rw [z])
    simp [hl,this]
  rw [e] at key key2
  exact ⟨key,key2⟩
 ·rw [aX] at r1 r2
  obtain ⟨a,xs,rfl,p1,q1⟩:=r1
  obtain ⟨b,ys,rfl,p2,q2⟩:=r2
  cases e1; cases e2
  obtain ⟨us,v1,t1,_⟩:=I.list (sb.seq p1)
  obtain ⟨ws,v2,t2,_⟩:=I.list (sb.seq p2)
  have hl1:us.toArray.size=ds.length:=by simp [<- v1.length,q1.length]
  have hl2:ws.toArray.size=es.length:=by simp [<- v2.length,q2.length]
  by_cases hl:ds.length=es.length
  ·have els:=oA (A:=A) I h ih q1 q2 v1 v2 (by rw [in1_units]; lia)
   have key:=SX.lists (A:=A) (s:=s) t1.isList t2.isList (by rw [hl1,hl2,hl]) (by lia) els
   have key2:=Vm.lists (A:=A) (s:=s) t1.isList t2.isList (by rw [hl1,hl2,hl]) (by lia) els
   rw [hl1,all_range rfl hl.symm rfl,<- j9] at key key2
   exact ⟨key,key2⟩
  ·have key:=SX.lists_lengths (A:=A) (s:=s) t1.isList t2.isList (by rw [hl1,hl2]; simpa using hl) (by lia)
   have key2:=Vm.lists_lengths (A:=A) (s:=s) t1.isList t2.isList (by rw [hl1,hl2]; simpa using hl) (by lia)
   have e:decide (D.lst ds=D.lst es)=false:=by
    rw [j9]; exact decide_eq_false λz=>hl (by rw [z])
   rw [e]
   exact ⟨key,key2⟩
end
section
variable {K:PN} {c:Ctx P w K mg base k N sc bk}
noncomputable def EB (K:PN) (neg:Bool):R2:=λv u H Q=>∃ x y Hf,aL Hf H/\Rep K Hf x v/\Rep K Hf y u/\LX x y/\Q (.bl (if neg then !decide (x=y) else decide (x=y))) H
theorem AA:fj c.X (compareOp .Eq) (EB c.X.K false):=λaa s σ H v u v' u' Q I rv ru ⟨x,y,Hf,sb,rx,ry,ok,q⟩=>by
 rcases ok with h | ⟨ds,es,hk,hi⟩
 ·obtain ⟨z1,z2⟩:=u6 h rx ry
  exact LF aa s σ H v u v' u' Q I rv ru ⟨z1,by rw [z2]; exact q⟩
 ·exact (qt I sb (by have:=c.room.un; lia) hk hi rx ry rv ru).1 _ _ _ _ ⟨.bl (decide (x=y)),H,I,rfl,q⟩
theorem IZ:fj c.X (compareOp .NotEq) (EB c.X.K true):=λaa s σ H v u v' u' Q I rv ru ⟨x,y,Hf,sb,rx,ry,ok,q⟩=>by
 rcases ok with h | ⟨ds,es,hk,hi⟩
 ·obtain ⟨z1,z2⟩:=u6 h rx ry
  exact LG aa s σ H v u v' u' Q I rv ru ⟨z1,by rw [z2]; exact q⟩
 ·exact (qt I sb (by have:=c.room.un; lia) hk hi rx ry rv ru).2 _ _ _ _ ⟨.bl (!decide (x=y)),H,I,rfl,q⟩
theorem AB:xM K (EB K false) λx y R=>Am x y R:=λx y v u H Hf Q R s rx ry ⟨h1,h2⟩ q=>⟨x,y,Hf,s,rx,ry,h1,q _ h2⟩
theorem I0:xM K (EB K true) λx y R=>Am x y λb=>R (!b):=λx y v u H Hf Q R s rx ry ⟨h1,h2⟩ q=>⟨x,y,Hf,s,rx,ry,h1,q _ h2⟩
theorem OI (h:aJ c a ρ λx=>aJ c b ρ λy=>Am x y T):iJ c (.Compare a [.Eq] [b] pos) ρ T:=m8 AA AB h (jr b)
theorem OJ (h:aJ c a ρ λx=>aJ c b ρ λy=>Am x y λb=>T (!b)):iJ c (.Compare a [.NotEq] [b] pos) ρ T:=m8 IZ I0 h (jr b)
theorem OL (h:aJ c a ρ λx=>aJ c b ρ λy=>Am x y λb=>R (.bl b)):aJ c (.Compare a [.Eq] [b] pos) ρ R:=Mb AA AB h (jr b)
end
section
variable {P:Program} {w:World} {K:PN} {mg:Str->Option Value} {base:Heap} {k:Nat} {N:List Str} {sc:Scope} {bk:Bool} {c:Ctx P w K mg base k N sc bk} {ρ:List Sl} {pos:Pos} {a b e:Expr} {es:List Expr} {R:D->Prop} {T:Bool->Prop}
noncomputable def D.row:D->Option (List D)
 | .lst ds=>some ds
 | .tup ds=>some ds
 | _=>none
theorem iS (e:d.row=some ds) (h:Rep K H d v):∃ p xs,v=.ref p/\aq K H ds xs/\((d=.lst ds/\f7 K H p xs)\/(d=.tup ds/\cU K H p xs)):=by
 cases d with
 | lst _=>cases e; rw [aX] at h; obtain ⟨p,xs,rfl,h1,h2⟩:=h; exact ⟨p,xs,rfl,h2,.inl ⟨rfl,h1⟩⟩
 | tup _=>cases e; rw [aH] at h; obtain ⟨p,xs,rfl,h1,h2⟩:=h; exact ⟨p,xs,rfl,h2,.inr ⟨rfl,h1⟩⟩
 | _=>cases e
def Lh (x y:D) (R:D->Prop):Prop:=∃ ds i d,x.row=some ds/\y=.int i/\jM ds i=some d/\R d
theorem vm (h:jM ds i=some d) (hR:R d):Lh (.lst ds) (.int i) R:=⟨ds,i,d,rfl,rfl,h,hR⟩
theorem fu (h:jM ds i=some d) (hR:R d):Lh (.tup ds) (.int i) R:=⟨ds,i,d,rfl,rfl,h,hR⟩
theorem AD (h:aq K H ds xs) (e:jM ds i=some d):∃ x,jM xs i=some x/\Rep K H d x:=by
 unfold jM at e |-
 rw [<- h.length]
 obtain ⟨j,e1,e2⟩:=VH.mp e
 obtain ⟨x,e3,rx⟩:=h.get e2
 exact ⟨x,by rw [e1]; exact e3,rx⟩
theorem Mm (h:aJ c a ρ λx=>aJ c b ρ λy=>Lh x y R) (hs:j7 b:=by intro _ _; walk_at "u"):aJ c (.Subscript a b pos) ρ R:=λσ H Hf Q S q =>
 bJ (LP (GG.or Ea Iw) cQ cQ hs) (h σ H Hf _ S λx v H1 aM h1 r1 g1=>h1 σ H1 aM _ (S.cA g1) λy u H2 cD ⟨ds,i,d,e1,e2,e3,hR⟩ r2 g2=>by
  subst e2
  rw [aA] at r2; subst r2
  obtain ⟨p,xs,rfl,hr,hk⟩:=iS e1 (Rep.mono g2.f x r1)
  obtain ⟨z,ez,rz⟩:=AD hr e3
  have fin:=q d z H2 cD hR rz (g1.trans g2)
  rcases hk with ⟨_,hk⟩ | ⟨_,hk⟩
  ·exact .inl ⟨p,xs,i,z,rfl,rfl,g2.b.seq hk,ez,fin⟩
  ·exact .inr ⟨p,xs,i,z,rfl,rfl,av g2.b hk,ez,fin⟩)
theorem vn (sb:aL Hf H) {d:D} (h:(d=.lst ds/\f7 K Hf p xs)\/(d=.tup ds/\cU K Hf p xs)):f7 K H p xs\/cU K H p xs:=h.elim (λz=>.inl (sb.seq z.2)) λz=>.inr (av sb z.2)
theorem AE:Ax K (λxs H Q=>∃ p ys,xs=[.ref p]/\(f7 K H p ys\/cU K H p ys)/\Q (.int ys.length) H) (λds R=>∃ x,ds=[x]/\∃ ys,x.row=some ys/\R (.int ys.length)):=by
 rintro ds vs H Hf Q R s rs ⟨x,rfl,ys,e,hR⟩ q
 obtain ⟨v,rfl,rv⟩:=qp rs
 obtain ⟨p,xs,rfl,hr,hk⟩:=iS e rv
 exact ⟨p,xs,rfl,vn s hk,q _ _ H Hf hR (by rw [hr.length]; exact aA.mpr rfl) (.refl s)⟩
theorem e_len (hm:mg "len"=none) (h:aJ c e ρ λx=>∃ ys,x.row=some ys/\R (.int ys.length)) (hg:sc.names.lookup (PM "len")=some .globalImplicit:=by walk_at "u")
 (he:∀ env,starEach [e] env=(false,eval e env)::starEach [] env:=by intro _; walk_at "u"):aJ c (.Call (.Name "len" p) [e] [] pos) ρ R :=
 ve n8 AE hm PySem.boot_len (cV (h.imp λd hd=>kR ⟨d,rfl,hd⟩) he) hg (by decide) (by decide) he (by intro _; walk_at "u")
theorem AF {R:Sl->Prop} (hm:mg "list"=none) (h:aJ c e ρ λx=>∃ ys,x.row=some ys/\R (.ow ys)) (hg:sc.names.lookup (PM "list")=some .globalImplicit:=by walk_at "u")
 (he:∀ env,starEach [e] env=(false,eval e env)::starEach [] env:=by intro _; walk_at "u"):cN c (.Call (.Name "list" p) [e] [] pos) ρ R :=
 Mj n9 (q:=λds R=>∃ x ys,ds=[x]/\x.row=some ys/\R (.ow ys)) (λds vs H Hf Q R s rs ⟨x,ys,e1,e2,hR⟩ q=>by
  subst e1
  obtain ⟨v,rfl,rv⟩:=qp rs
  obtain ⟨p,xs,rfl,hr,hk⟩:=iS e2 rv
  exact ⟨p,xs,rfl,vn s hk,λl hl=>by
   have g2:=aY.gj s hl (o:=.lst xs)
   exact q _ _ _ _ hR ⟨l,xs,rfl,hl,ai,s.free hl,hr⟩ g2⟩) hm PyProof.Rows.boot_list (cV (h.imp λd ⟨ys,h1,h2⟩=>kR ⟨d,ys,rfl,h1,h2⟩) he) hg (by decide) (by decide) he (by intro _; walk_at "u")
theorem kc (hm:mg "tuple"=none) (h:aJ c e ρ λx=>∃ ys,x.row=some ys/\R (.tup ys)) (hg:sc.names.lookup (PM "tuple")=some .globalImplicit:=by walk_at "u")
 (he:∀ env,starEach [e] env=(false,eval e env)::starEach [] env:=by intro _; walk_at "u"):aJ c (.Call (.Name "tuple" p) [e] [] pos) ρ R :=
 Ml ie (q:=λds R=>∃ x ys,ds=[x]/\x.row=some ys/\R (.tup ys)) (λds vs H Hf Q R s rs ⟨x,ys,e1,e2,hR⟩ q=>by
  subst e1
  obtain ⟨v,rfl,rv⟩:=qp rs
  obtain ⟨p,xs,rfl,hr,hk⟩:=iS e2 rv
  rcases hk with ⟨_,hk⟩ | ⟨_,hk⟩
  ·exact ⟨p,xs,rfl,.inl ⟨s.seq hk,λl hl=>by
    have g2:=aY.new s hl (o:=.tup xs)
    exact q _ _ _ _ hR (aH.mpr ⟨l,xs,rfl,.inl (.inl ai),hr.mono g2.f⟩) g2⟩⟩
  ·exact ⟨p,xs,rfl,.inr ⟨av s hk,q _ _ H Hf hR (aH.mpr ⟨p,xs,rfl,hk,hr⟩) (.refl s)⟩⟩) hm PyProof.Rows.boot_tuple (cV (h.imp λd ⟨ys,h1,h2⟩=>kR ⟨d,ys,rfl,h1,h2⟩) he) hg (by decide) (by decide) he (by intro _; walk_at "u")
noncomputable def GS (K:PN):R2:=λx y H Q=>∃ l b xs zs,x=.ref l/\y=.ref b/\f7 K H l xs/\f7 K H b zs/\xs.length+zs.length<=sizeLine/\∀ p,H p=none->Q (.ref p) (upd H p (.lst (xs++zs)))
theorem EC:fj X (binaryOp .Add) (GS X.K):=by
 intro aa s σ H x y v u Q I rx ry h
 obtain ⟨l,b,xs,zs,rfl,rfl,hH,hB,hz,q⟩:=h
 cases rx
 cases ry
 obtain ⟨its,r,hl,z⟩:=I.list hH
 obtain ⟨its2,r2,hl2,z2⟩:=I.list hB
 have e1:=r.length
 have e2:=r2.length
 obtain ⟨⟨cls,dd,data,sl⟩,n,p1,p2,p3,p4⟩:=hl
 obtain ⟨⟨cls2,dd2,data2,sl2⟩,n',q1,q2,q3,q4⟩:=hl2
 simp only at p2 p3 p4 q2 q3 q4
 subst p2 p3 p4 q2 q3 q4
 have ea:its.toArray++its2.toArray=(its++its2).toArray:=by simp
 refine Vl ⟨_,p1,rfl⟩ ⟨_,q1,rfl⟩ noFill_list_add seq_list_add PySem.F.slot_list_add PySem.F.entry_list_add (PySem.F.args_list_add_2 _ _) (list_addW l b its.toArray its2.toArray n n' none none sl sl2 (by simp; lia)) ⟨p1,q1,?_⟩
 rw [ea]
 exact ⟨.ref _,_,I.Ed (t':=s.toks) (r.append r2) (by rw [QE]; lia),rfl,q _ I.fresh⟩
noncomputable def AG (K:PN):R2:=λx y H Q=>∃ a b xs ys,x=.ref a/\y=.ref b/\cU K H a xs/\cU K H b ys/\xs.length+ys.length<=sizeLine /\
 (xs=[]->Q (.ref b) H)/\(ys=[]->Q (.ref a) H)/\∀ p,H p=none->Q (.ref p) (upd H p (.tup (xs++ys)))
theorem AH:fj X (binaryOp .Add) (AG X.K):=by
 intro aa s σ H x y v u Q I rx ry h
 obtain ⟨t,b,xs,ys,rfl,rfl,hH,hB,hz,c1,c2,q⟩:=h
 cases rx
 cases ry
 obtain ⟨vs,r,ht,z⟩:=I.tuple hH
 obtain ⟨ws,r2,hb,z2⟩:=I.tuple hB
 obtain ⟨⟨cls,dd,data,sl⟩,ho,hc,n,hd⟩:=id ht
 obtain ⟨⟨cls2,dd2,data2,sl2⟩,ho2,hc2,n2,hd2⟩:=id hb
 simp only at hc hd hc2 hd2
 subst hc hd hc2 hd2
 have e:vs.toArray++ws.toArray=(vs++ws).toArray:=by simp
 have e1:=r.length
 have e2:=r2.length
 by_cases hv:vs=[]
 ·exact Vl ⟨_,ho,rfl⟩ ⟨_,ho2,rfl⟩ Wf seq_tuple_add VL VG (VE _ _)
   (tuple_addW0 t b vs.toArray ws.toArray n n2 dd dd2 sl sl2 (by simp [hv])) ⟨ho,ho2,⟨.ref b,H,I,rfl,c1 (by rw [Vals.uV r] at hv; exact hv)⟩⟩
 ·by_cases hw:ws=[]
  ·exact Vl ⟨_,ho,rfl⟩ ⟨_,ho2,rfl⟩ Wf seq_tuple_add VL VG (VE _ _)
    (tuple_addW1 t b vs.toArray ws.toArray n n2 dd dd2 sl sl2 (by simpa using hv) (by simp [hw])) ⟨ho,ho2,⟨.ref t,H,I,rfl,c2 (by rw [Vals.uV r2] at hw; exact hw)⟩⟩
  ·refine Vl ⟨_,ho,rfl⟩ ⟨_,ho2,rfl⟩ Wf seq_tuple_add VL VG (VE _ _)
    (tuple_addW2 t b vs.toArray ws.toArray n n2 dd dd2 sl sl2 (by simpa using hv) (by simpa using hw) (by rw [Qm,Qm]; lia)) ⟨ho,ho2,?_⟩
   rw [e]
   refine ⟨.ref s.heap.objs.size,_,I.laid (t':=s.toks) (o:=.tup (xs++ys)) (λb ob q=>PY _ q) (PU _) ?_,rfl,q _ (I.hok.fresh (PU _))⟩
   exact ⟨by rw [QE]; exact hz,_,r.append r2,IsTup.new _ _⟩
inductive kT:D->D->(Sl->Prop)->Prop where
 | int {i j:Int} {R:Sl->Prop} (h:R (.va (.int (i+j)))):kT (.int i) (.int j) R
 | lst {ds es:List D} {R:Sl->Prop} (h:Sd (ds.length+es.length<=sizeLine) (R (.ow (ds++es)))):kT (.lst ds) (.lst es) R
 | tup {ds es:List D} {R:Sl->Prop} (h:Sd (ds.length+es.length<=sizeLine) (R (.va (.tup (ds++es))))):kT (.tup ds) (.tup es) R
 | str {x y:Str} {R:Sl->Prop} (h:Sd (x.length+y.length<=sizeLine) (R (.va (.str (x++y))))):kT (.str x) (.str y) R
theorem jP (h:aq K H ds []):ds=[]:=by
 have:=h.length; cases ds with
 | nil=>rfl
 | cons _ _=>simp at this
theorem ED:NF K (λx y H Q=>(((uQ λi j=>V.int (i+j)) x y H Q\/GS K x y H Q)\/AG K x y H Q)\/∃ i j,x=.str i/\y=.str j/\i.length+j.length<=sizeLine/\Q (.str (i++j)) H) kT:=by
 rintro x y v u H Hf Q R s rx ry h q
 cases h with
 | @int i j _ h =>
  rw [aA] at rx ry
  exact .inl (.inl (.inl ⟨i,j,rx,ry,q (.va (.int (i+j))) _ H Hf h (show Rep K Hf (.int (i+j)) _ from aA.mpr rfl) (.refl s)⟩))
 | @lst ds es _ h =>
  rw [aX] at rx ry
  obtain ⟨a,xs,rfl,h1,h2⟩:=rx
  obtain ⟨b,ys,rfl,h3,h4⟩:=ry
  refine .inl (.inl (.inr ⟨a,b,xs,ys,rfl,rfl,s.seq h1,s.seq h3,by rw [<- h2.length,<- h4.length]; exact h.s,λp hp=>?_⟩))
  exact q (.ow (ds++es)) _ _ _ h.r ⟨p,xs++ys,rfl,hp,ai,s.free hp,h2.append h4⟩ (aY.gj s hp)
 | @tup ds es _ h =>
  rw [aH] at rx ry
  obtain ⟨a,xs,rfl,h1,h2⟩:=rx
  obtain ⟨b,ys,rfl,h3,h4⟩:=ry
  refine .inl (.inr ⟨a,b,xs,ys,rfl,rfl,av s h1,av s h3,by rw [<- h2.length,<- h4.length]; exact h.s,λe=>?_,λe=>?_,λp hp=>?_⟩)
  ·subst e
   have:=jP h2
   subst this
   exact q (.va (.tup ([]++es))) _ H Hf h.r (show Rep K Hf (.tup ([]++es)) _ from aH.mpr ⟨b,ys,rfl,h3,h4⟩) (.refl s)
  ·subst e
   have:=jP h4
   subst this
   exact q (.va (.tup (ds++[]))) _ H Hf h.r (show Rep K Hf (.tup (ds++[])) _ from aH.mpr ⟨a,xs,rfl,h1,by rw [QX]; exact h2⟩) (.refl s)
  ·have g:=aY.new s hp (o:=.tup (xs++ys))
   exact q (.va (.tup (ds++es))) _ _ _ h.r (show Rep K _ (.tup (ds++es)) _ from aH.mpr ⟨p,xs++ys,rfl,.inl (.inl ai),(h2.append h4).mono g.f⟩) g
 | @str x y _ h =>
  rw [fM] at rx ry
  exact .inr ⟨x,y,rx,ry,h.s,q (.va (.str (x++y))) _ H Hf h.r (show Rep K Hf (.str (x++y)) _ from fM.mpr rfl) (.refl s)⟩
theorem AI {R:Sl->Prop} (h:aJ c a ρ λx=>aJ c b ρ λy=>kT x y R):cN c (.BinOp a .Add b pos) ρ R :=
 oj (fj.or (fj.or (fj.or Ii EC) AH) sQ) ED h
noncomputable def cutD {α:Type} (xs:List α) (lo hi:Option Int):List α:=(xs.drop (HT.cg xs.length 0 lo)).take (HT.cg xs.length xs.length hi - HT.cg xs.length 0 lo)
theorem qu (h:aq K H ds xs) (lo hi):aq K H (cutD ds lo hi) (kJ xs lo hi):=by
 unfold cutD kJ
 rw [h.length]
 exact (h.drop _).take _
noncomputable def bP (X:Cx) (e:Option Expr):TO:=λσ H Q=>∀ aa s,Inv X aa σ H s->wpAny (model X.prog X.w) X.A (evalPart e X.env) (λu s'=>∃ o H',Inv X aa σ H' s'/\IsPart u o/\Q o H') X.xe s
theorem Ja {X:Cx} {e:Option Expr}:PO X e (bP X e):=λaa s σ H Q I h=>h aa s I
def AJ (c:Ctx P w K mg base k N sc bk) (e:Option Expr) (ρ:List Sl) (R:Option Int->Prop):Prop :=
 ∀ (σ:L2.St) (H Hf:Hp) (Q:Option Int->Hp->Prop),bw c σ H Hf ρ->(∀ o H' aj,R o->aY H Hf H' aj->Q o H')->bP c.X e σ H Q
theorem AK {R:Option Int->Prop} (h:R none):AJ c none ρ R:=λσ H Hf Q S q aa s I=>DZ aa s σ H Q I (q none H Hf h (.refl S.sb))
theorem AL {R:Option Int->Prop} (h:aJ c e ρ (I1 λi=>R (some i))):AJ c (some e) ρ R:=λσ H Hf Q S q aa s I =>
 D0 cQ aa s σ H Q I (h σ H Hf _ S λd v H' aj ⟨i,e,hR⟩ r g=>by subst e; rw [aA] at r; exact ⟨i,r,q _ H' aj hR g⟩)
noncomputable def Mn (K:PN):V->Option Int->Option Int->Hp->VK->Prop:=λx lo hi H Q=>∃ a xs,x=.ref a/\cU K H a xs /\
 (HT.cg xs.length 0 lo=0/\HT.cg xs.length xs.length hi=xs.length)/\Q (.ref a) H
theorem gZ {lo hi:Option Int} (ht:IsTup s.heap t items) (hs:s.heap.IsSliceOf sl vl vu .none) (pl:IsPart vl lo) (pu:IsPart vu hi)
 (hw:HT.cg items.size 0 lo=0/\HT.cg items.size items.size hi=items.size) (h:Q (.ref t) s):wpAny (model prog w) A (getItem (.ref t) (.ref sl)) Q E s:=by
 obtain ⟨os,hos,hcs,hds⟩:=id hs
 have hTs:s.TypeIs (.ref sl) "slice":=⟨os,hos,hcs⟩
 unfold getItem
 try with_reducible refine Rb ?_
 first | refine PK (PR ?_) | skip
 refine PK (V4 ht.typeIs (by decide) ?_)
 refine PK (Rx (name:=PM "__getitem__") ht.typeIs S0
  (Ra S0 ht.typeIs entry_tuple_getitem ?_ (args_tuple_getitem _ _)))
 show wpAny _ _ (Builtin.Tuple.tupleItemsOf (.ref t) >>= _) _ _ s
 refine PK (tupleItemsOf_ ht ?_)
 refine PK (Sb hTs ?_)
 rw [if_pos (by decide)]
 refine PK (HT.fk hs pl pu ?_)
 have hyes:((((HT.cg items.size 0 lo:Nat):Int) == 0 && (1:Int) == 1 && (HT.cg items.size items.size hi - HT.cg items.size 0 lo) == items.size)=true):=by
  rw [hw.1,hw.2]; simp
 show wpAny _ _ (if (((HT.cg items.size 0 lo:Nat):Int) == 0 && (1:Int) == 1 && (HT.cg items.size items.size hi - HT.cg items.size 0 lo) == items.size)=true then _ else _) _ _ s
 rw [if_pos hyes]
 obtain ⟨⟨cls,dd,data,sl'⟩,ho,hc,n,hd⟩:=id ht
 simp only at hc hd
 subst hc hd
 unfold Builtin.Tuple.tupleIsExact
 wp_walk using UG ho
 exact ⟨_,rfl,PR h⟩
theorem AM:DH X (Mn X.K):=by
 intro aa s σ H x v vl vu lo hi sl Q I rx hs pl pu h
 obtain ⟨a,xs,rfl,hx,hw,q⟩:=h
 cases rx
 obtain ⟨its,r,ht,hz⟩:=I.tuple hx
 have hlen:its.toArray.size=xs.length:=by rw [Qm]; exact r.length.symm
 refine ⟨"tuple",_,S0.lookup,ht.typeIs,?_⟩
 exact gZ ht hs pl pu (by rw [hlen]; exact hw) ⟨.ref a,H,I,rfl,q⟩
inductive Jb:D->Option Int->Option Int->(Sl->Prop)->Prop where
 | lst {ds:List D} {lo hi:Option Int} {R:Sl->Prop} (h:R (.ow (cutD ds lo hi))):Jb (.lst ds) lo hi R
 | tup {ds:List D} {lo hi:Option Int} {R:Sl->Prop} (h:R (.va (.tup (cutD ds lo hi)))):Jb (.tup ds) lo hi R
theorem xT {lo hi:Option Int} (h:HT.cg xs.length 0 lo=0/\HT.cg xs.length xs.length hi=xs.length):cutD xs lo hi=xs:=by
 unfold cutD; rw [h.1,h.2]; simp
theorem vo {lo hi:Option Expr} {R:Sl->Prop} (h:aJ c e ρ λx=>AJ c lo ρ λl=>AJ c hi ρ λu=>Jb x l u R):cN c (.Subscript e (.Slice lo hi none p2) pos) ρ R:=λσ H Hf Q S q =>
 bJ (qa (DH.or (DH.or Eb zW) AM) cQ Ja Ja) (h σ H Hf _ S λx v H1 aM h1 r1 g1=>h1 σ H1 aM _ (S.cA g1) λl H2 cD h2 g2=>h2 σ H2 cD _ (S.cA (g1.trans g2)) λu H3 Hf3 h3 g3=>by
  have r3:=Rep.mono g3.f x (Rep.mono g2.f x r1)
  have g:=(g1.trans g2).trans g3
  cases h3 with
  | lst h =>
   rw [aX] at r3
   obtain ⟨a,xs,rfl,k1,k2⟩:=r3
   refine .inl (.inl ⟨a,xs,rfl,g3.b.seq k1,λp hp=>?_⟩)
   exact q _ _ _ _ h ⟨p,_,rfl,g.s.free hp,ai,g3.b.free hp,qu k2 l u⟩ (g.trans (aY.gj g3.b hp))
  | tup h =>
   rw [aH] at r3
   obtain ⟨a,xs,rfl,k1,k2⟩:=r3
   by_cases hw:HT.cg xs.length 0 l=0/\HT.cg xs.length xs.length u=xs.length
   ·refine .inr ⟨a,xs,rfl,av g3.b k1,hw,?_⟩
    refine q _ _ _ _ h (show Rep c.X.K Hf3 _ _ from aH.mpr ⟨a,xs,rfl,k1,?_⟩) g
    rw [xT (by rw [k2.length]; exact hw)]; exact k2
   ·refine .inl (.inr ⟨a,xs,rfl,av g3.b k1,hw,λp hp=>?_⟩)
    have g4:=aY.new g3.b hp (o:=.tup (kJ xs l u))
    exact q _ _ _ _ h (show Rep c.X.K _ _ _ from aH.mpr ⟨p,_,rfl,.inl (.inl ai),(qu k2 l u).mono g4.f⟩) (g.trans g4))
theorem AN (a:aY H₀ dR H1 aM) (b:aY H₀ aM H Hf):aY H₀ dR H Hf :=
 ⟨b.s,a.f.trans b.f,b.b,λc h1 h2 h3=>b.n c (a.n c h1 h2 h3) h2 h3⟩
theorem dB.re (a:aY H₀ dR H1 aM) (S:dB K H₀ aM σ H Hf ρ):dB K H₀ dR σ H Hf ρ:=⟨AN a S.bas,S.len,S.at_,S.sep⟩
theorem dB.anew (S:dB K H₀ dR σ H Hf ρ):dB K H₀ Hf σ H Hf ρ:=⟨⟨S.bas.s,.refl _,S.bas.b,λ_ h _ _=>h⟩,S.len,S.at_,S.sep⟩
noncomputable def Ctx.at_ (c:Ctx P w K mg base k N sc bk) {H1 aM:Hp} (a:aY c.B c.Hf H1 aM):Ctx P w K mg base k N sc bk :=
 { X:=c.X,eP:=c.eP,ew:=c.ew,eK:=c.eK,emg:=c.emg,eb:=c.eb,eN:=c.eN,esc:=c.esc,calm:=c.calm,top:=c.top,cb:=c.cb,fn:=c.fn,room:=c.room,nd:=c.nd,vis:=c.vis,B:=c.B,Hf:=aM,RX:=c.RX,RM:=c.RM,
   exc:=λC x aa σ H aj ρ s H' s' I S h X sm=>c.exc C x aa σ H aj ρ s H' s' I (S.re a) h X sm,mde:=λC x aa σ H aj ρ s h' us I S h hx=>c.mde C x aa σ H aj ρ s h' us I (S.re a) h hx }
theorem Ak.at_ {nx:List Sl->Prop} {p:Pt} {D:Ends} {H1 aM:Hp} (a:aY c.B c.Hf H1 aM) (o:Ak c nx p D):Ak (c.at_ a) nx p D :=
 ⟨λσ H Hf ρ S q=>o.nx σ H Hf ρ (dB.re a S) q,λr v H Hf g rv q=>o.rt r v H Hf (AN a g) rv q,λσ H Hf ρ S q=>o.bk σ H Hf ρ (dB.re a S) q,λσ H Hf ρ S q=>o.ct σ H Hf ρ (dB.re a S) q⟩
noncomputable def bI (X:Cx) (tg iter:Expr):TI:=λσ H R=>∀ aa s,Inv X aa σ H s->wpAny (model X.prog X.w) X.A (eval iter X.env) (λv s1=>wpAny (model X.prog X.w) X.A (pyIter v) (Od X aa σ tg R) X.xe s1) X.xe s
theorem PD {X:Cx} {tg iter:Expr}:PI X tg iter (bI X tg iter):=λaa s σ H R I h=>h aa s I
structure iT (K:PN) (J:It) (ds:List D) (dR:Hp):Prop where
 go:∀ i d H Hf,aL dR Hf->aL Hf H->ds[i]?=some d->J.go i H/\∀ x H',J.yld i H x H'->∃ aj,aY H Hf H' aj/\Rep K aj d x
 stop:∀ i H Hf,aL dR Hf->aL Hf H->ds.length<=i->J.stop i H
def xU (c:Ctx P w K mg base k N sc bk) (tg iter:Expr) (ρ:List Sl) (R:List D->Prop):Prop :=
 ∀ (σ:L2.St) (H Hf:Hp) (Q:It->Hp->Prop),bw c σ H Hf ρ->(∀ ds J H' aj,R ds->aY H Hf H' aj->iT c.X.K J ds aj->Q J H')->bI c.X tg iter σ H Q
theorem xV {K:PN} {ds:List D} {xs:List V} {p:Addr} {dR:Hp} (h:f7 K dR p xs) (r:aq K dR ds xs):iT K (Oe K p) ds dR where
 go:=λi d H Hf s1 s2 e=>by
  obtain ⟨x,ex,rx⟩:=r.get e
  refine ⟨⟨xs,x,(s1.trans s2).seq h,ex⟩,λy H' ⟨e1,e2⟩=>?_⟩
  subst e1
  have:=e2 xs ((s1.trans s2).seq h)
  rw [ex] at this; cases this
  exact ⟨Hf,.refl s2,Rep.mono s1 d rx⟩
 stop:=λi H Hf s1 s2 e=>⟨xs,(s1.trans s2).seq h,by rw [<- r.length]; exact e⟩
theorem AO {K:PN} {ds:List D} {xs:List V} {p:Addr} {dR:Hp} (h:cU K dR p xs) (r:aq K dR ds xs):iT K (Of K p) ds dR where
 go:=λi d H Hf s1 s2 e=>by
  obtain ⟨x,ex,rx⟩:=r.get e
  refine ⟨⟨xs,x,av (s1.trans s2) h,ex⟩,λy H' ⟨e1,e2⟩=>?_⟩
  subst e1
  have:=e2 xs (av (s1.trans s2) h)
  rw [ex] at this; cases this
  exact ⟨Hf,.refl s2,Rep.mono s1 d rx⟩
 stop:=λi H Hf s1 s2 e=>⟨xs,av (s1.trans s2) h,by rw [<- r.length]; exact e⟩
noncomputable def OM (K:PN) (tl:TE):TI:=λσ H R=>tl σ H λx H1=>∃ a,x=.ref a/\(((∃ xs,f7 K H1 a xs)/\R (Oe K a) H1)\/((∃ xs,cU K H1 a xs)/\R (Of K a) H1))
theorem Jc (hl:PE X l tl):PI X tg l (OM X.K tl):=by
 intro aa s σ H R I h
 refine bz (hl aa s σ H _ I h) λv s1 ⟨x,H1,I1,r1,q1⟩=>?_
 obtain ⟨a,e,h⟩:=q1
 subst e
 cases r1
 rcases h with ⟨⟨xs,hq⟩,q⟩ | ⟨⟨xs,hq⟩,q⟩
 ·obtain ⟨its,rv,p,hz⟩:=I1.list hq
  refine V6 p.isList ?_
  refine ⟨s1.heap.objs.size,[s1.heap.objs.size],_,_,H1,rfl,I1.kept (t':=s1.toks) λb o e=>PY _ e,xB a _,⟨_,Qd _ rfl,rfl,rfl⟩,λb hb=>?_,q⟩
  have e:b=s1.heap.objs.size:=by simpa using hb
  subst e
  exact I1.kG (PU _) (I1.hok.fresh (PU _))
 ·obtain ⟨its,rv,p,hz⟩:=I1.tuple hq
  refine VY (show s1.heap.IsTuple a its.toArray from p) ?_
  refine ⟨s1.heap.objs.size,[s1.heap.objs.size],_,_,H1,rfl,I1.kept (t':=s1.toks) λb o e=>PY _ e,sM a _,⟨_,Qd _ rfl,rfl,rfl⟩,λb hb=>?_,q⟩
  have e:b=s1.heap.objs.size:=by simpa using hb
  subst e
  exact I1.kG (PU _) (I1.hok.fresh (PU _))
theorem cj {R:List D->Prop} (h:aJ c e ρ λd=>∃ ds,d.row=some ds/\R ds):xU c tg e ρ R:=λσ H Hf Q S q aa s I =>
 Jc cQ aa s σ H Q I (h σ H Hf _ S λd v H' aj ⟨ds,er,hR⟩ r g=>by
  obtain ⟨p,xs,rfl,hr,hk⟩:=iS er r
  refine ⟨p,rfl,?_⟩
  rcases hk with ⟨_,hk⟩ | ⟨_,hk⟩
  ·exact .inl ⟨⟨xs,g.b.seq hk⟩,q ds _ H' aj hR g (xV hk hr)⟩
  ·exact .inr ⟨⟨xs,av g.b hk⟩,q ds _ H' aj hR g (AO hk hr)⟩)
noncomputable def qv (lo:Int) (n:Nat):List D:=(QC n).map λ(i:Nat)=>D.int (lo+(i:Int))
theorem AQ {K:PN} {lo:Int} {n:Nat} {dR:Hp}:iT K (NB lo n) (qv lo n) dR where
 go:=λi d H Hf s1 s2 e=>by
  unfold qv at e
  rw [P6] at e
  obtain ⟨j,e1,e2⟩:=Qc.mp e
  have hi:i<n:=by
   have:=(Qa.mp e1).1
   simpa using this
  have:j=i:=by
   rw [Sw hi] at e1; cases e1; rfl
  subst this
  refine ⟨hi,λx H' ⟨e3,e4⟩=>?_⟩
  subst e3 e4 e2
  exact ⟨Hf,.refl s2,aA.mpr rfl⟩
 stop:=λi H Hf s1 s2 e=>by
  show n<=i
  simpa [qv] using e
def AR (i:Int):Prop:= -(2 ^ 62)<=i/\i<2 ^ 62
theorem dX {R:List D->Prop} (hm:mg "range"=none) (h:aJ c e ρ (I1 λj=>Sd (AR j) (R (qv 0 j.toNat)))) (hg:sc.names.lookup (PM "range")=some .globalImplicit:=by walk_at "u")
 (hs:∀ env,starEach [e] env=(false,eval e env)::starEach [] env:=by intro _; walk_at "u"):xU c tg (.Call (.Name "range" p) [e] [] pos) ρ R:=λσ H Hf Q S q aa s I =>
 xC (by unfold Gl Qx; rw [c.esc]; exact hg) (by rw [c.emg]; exact hm) (bF cQ cL (hs _)) (hs _) aa s σ H Q I (h σ H Hf _ S λd v H' aj ⟨j,ed,⟨hj,hR⟩⟩ r g=>by
  subst ed; rw [aA] at r; subst r
  exact ⟨j,rfl,hj.1,hj.2,q _ _ H' aj hR g AQ⟩)
theorem cO {tg iter:Expr} {body:List Stmt} {nx:List Sl->Prop} {p:Pt} (hq:c.X.xe=λ_ _=>False)
 (h:xU c tg iter ρ λds=>∃ I:Nat->List Sl->Prop,I 0 ρ /\
   (∀ c':Ctx P w K mg base k N sc bk,c'.X=c.X->c'.RX=c.RX->c'.RM=c.RM->∀ i d ρ',ds[i]?=some d->I i ρ'->mj c' tg d ρ' λρ''=>aI c' body ρ'' (I (i+1)) { rt:=p.rt,bk:=nx,ct:=I (i+1) })/\∀ ρ',I ds.length ρ'->nx ρ')
 (hs:∀ env x,foldedSetIterable iter env x=pure x:=by intro _ _; walk_at "u"):eU c (.For tg iter body [] pos) ρ nx p:=λσ H Hf D S o =>
 dQ (Ie (by rw [hq]; exact PassesOwn.never) c.calm PD PB qm (hs _)) (h σ H Hf _ S λds J H1 aM ⟨I,h0,hb,he⟩ g io=>by
  have S1:=S.cA g
  have gb:aY c.B c.Hf H1 aM:=S1.bas
  refine ⟨λi m σ H=>m=ds.length - i/\i<=ds.length/\∃ Hf ρ',bw (c.at_ gb) σ H Hf ρ'/\I i ρ',⟨_,rfl,Qv _,aM,ρ,S1.anew,h0⟩,?_⟩
  rintro i m σ H ⟨rfl,hi,Hf,ρ',S',hI⟩
  by_cases hlt:i<ds.length
  ·have ed:ds[i]?=some ds[i]:=Qo hlt
   obtain ⟨hgo,hy⟩:=io.go i _ H Hf S'.bas.f S'.bas.b ed
   refine .inr ⟨hgo,λσ' H'=>∃ aj ρ'',bw (c.at_ gb) σ' H' aj ρ''/\I (i+1) ρ'',λσ' H' ⟨aj,ρ'',S'',hI'⟩=>⟨_,by omega,rfl,hlt,aj,ρ'',S'',hI'⟩,λx H' hx=>?_⟩
   obtain ⟨aj,g',rx⟩:=hy x H' hx
   refine hb (c.at_ gb) rfl rfl rfl i _ ρ' ed hI σ H' aj x _ (S'.cA g') rx λσ2 H2 cD ρ2 S2 _ hbody=>?_
   exact hbody σ2 H2 cD _ S2 ⟨λσ H Hf ρ S q=>⟨Hf,ρ,S,q⟩,(o.at_ gb).rt,λσ H Hf ρ S q=>(o.at_ gb).nx σ H Hf ρ S q,λσ H Hf ρ S q=>⟨Hf,ρ,S,q⟩⟩
  ·have e:i=ds.length:=by omega
   subst e
   exact .inl ⟨io.stop _ H Hf S'.bas.f S'.bas.b (PU _),(o.at_ gb).nx σ H Hf ρ' S' (he ρ' hI)⟩)
end
section
variable {K:PN}
end
section
variable {K:PN} {R:D->Prop}
theorem GU (h:R d):IQ R (.va d):=⟨d,rfl,h⟩
theorem bQ (h:R (.lst ds)):IQ R (.ow ds):=⟨.lst ds,rfl,h⟩
theorem Jd (h:aJ c a ρ λx=>aJ c b ρ λy=>kT x y (IQ R)):aJ c (.BinOp a .Add b pos) ρ R:=e_x (AI h)
theorem qo.imp {R R':List D->Prop} (h:qo c es ρ R) (hi:∀ d,R d->R' d):qo c es ρ R':=λσ H Hf Q S q=>h σ H Hf Q S λd v H' aj rd=>q d v H' aj (hi d rd)
theorem Je (h:qo c es ρ λds=>Sd (ds.length<=sizeLine) (R (.lst ds))):aJ c (.List es pos) ρ R:=e_x (GR (h.imp λds hd=>⟨hd.s,bQ hd.r⟩))
theorem AS {lo hi:Option Expr} (h:aJ c e ρ λx=>AJ c lo ρ λl=>AJ c hi ρ λu=>Jb x l u (IQ R)):aJ c (.Subscript e (.Slice lo hi none p2) pos) ρ R:=e_x (vo h)
theorem AU {R:Sl->Prop} (h:R (.va (.int (i+j)))):kT (.int i) (.int j) R:=.int h
theorem AV {ds es:List D} {R:Sl->Prop} (h:Sd (ds.length+es.length<=sizeLine) (R (.ow (ds++es)))):kT (.lst ds) (.lst es) R:=.lst h
theorem AW {ds es:List D} {R:Sl->Prop} (h:Sd (ds.length+es.length<=sizeLine) (R (.va (.tup (ds++es))))):kT (.tup ds) (.tup es) R:=.tup h
theorem Jf {b:Bool} (ty:xQ K d t) (e:Rq K t cv=some b) (h:R (.bl b)):∃ t b,xQ K d t/\Rq K t cv=some b/\R (.bl b):=⟨t,b,ty,e,h⟩
theorem qw (h:aJ c a ρ λx=>aJ c b ρ λy=>Lh x y R) (hs:j7 b:=by with_unfolding_all exact λ_ _=>rfl):aJ c (.Subscript a b pos) ρ R:=Mm h hs
theorem AX {x:D} {Q:List D->Prop} (e:x.row=some ds) (h:Q ds):∃ ys,x.row=some ys/\Q ys:=⟨ds,e,h⟩
theorem az {F:Fn} {R:Sl->Prop} (h:F ds (.ok sl)) (r:R sl):∃ r,F ds r/\IX c ρ R r:=⟨_,h,r⟩
end
section
variable {K:PN}
end
noncomputable def del (H:Hp) (p:Addr):Hp:=λb=>if b=p then none else H b
theorem iU:del H p p=none:=if_pos rfl
theorem cz (h:b≠p):del H p b=H b:=if_neg h
theorem AY (h:H₀ p=none) (s:aL H₀ H):aL H₀ (del H p):=λb o e=>by
 rw [cz (aE e h)]; exact s b o e
theorem iV (h:del H p b=some o):b≠p/\H b=some o:=by
 by_cases e:b=p
 ·subst e; rw [iU] at h; cases h
 ·rw [cz e] at h; exact ⟨e,h⟩
theorem gM (sb:aL Hf H) (hp:Hf p=none):aY (del H p) Hf (upd H p o) Hf :=
 ⟨λb u e=>by obtain ⟨h1,h2⟩:=iV e; rw [ak h1]; exact h2,.refl _,λb u e=>by rw [ak (aE e hp)]; exact sb b u e,λ_ h _ _=>h⟩
section
variable {K:PN}
theorem aW.vp (ho:r.owned=true) (h:aW K fr H Hf r v):∃ p o,v=.ref p/\fr p/\H p=some o/\Hf p=none/\¬ Ah H p:=by
 have nf:∀ {p:Addr} {u:HO},H p=some u->(∀ φ,u≠.ext φ)->¬ Ah H p:=λe k ⟨z,e2⟩=>by rw [e] at e2; exact k _ (RA e2)
 cases r with
 | un=>cases ho
 | va d=>cases ho
 | fo s=>cases ho
 | ow ds=>obtain ⟨p,xs,rfl,f,h1,h2,_⟩:=h; exact ⟨p,_,rfl,f,h1,h2,nf h1 (by intro _ z; cases z)⟩
 | oT ds=>obtain ⟨p,xs,rfl,f,h1,h2,_⟩:=h; exact ⟨p,_,rfl,f,h1,h2,nf h1 (by intro _ z; cases z)⟩
 | oK ds=>obtain ⟨p,xs,rfl,f,h1,h2,_⟩:=h; exact ⟨p,_,rfl,f,h1,h2,nf h1 (by intro _ z; cases z)⟩
 | aw a ds=>obtain ⟨p,xs,rfl,f,h1,h2,_⟩:=h; exact ⟨p,_,rfl,f.1,h1,h2,nf h1 (by intro _ z; cases z)⟩
 | aT a ds=>obtain ⟨p,xs,rfl,f,h1,h2,_⟩:=h; exact ⟨p,_,rfl,f.1,h1,h2,nf h1 (by intro _ z; cases z)⟩
 | aK a ds=>obtain ⟨p,xs,rfl,f,h1,h2,_⟩:=h; exact ⟨p,_,rfl,f.1,h1,h2,nf h1 (by intro _ z; cases z)⟩
theorem aW.qx (ho:r.owned=true) (h:aW K fr H Hf r v):∃ p o,v=.ref p/\fr p/\H p=some o/\Hf p=none :=
 let ⟨p,o,a,b,c,d,_⟩:=h.vp ho; ⟨p,o,a,b,c,d⟩
theorem aW.Mp (nf:¬ Ah H p) (hv:r.owned=true->v≠.ref p) (h:aW K fr H Hf r v):aW K fr (del H p) Hf r v :=
 aW.mv (B:=λq=>q=p) (.refl _) (λq o hq e1 _ e3=>⟨by rw [cz hq]; exact e1,e3⟩) (λ_ q e=>by subst e; exact nf) (λho q z e=>by subst e; exact hv ho z) h
theorem dB.own (S:dB K H₀ dR σ H Hf ρ) {i:Nat} (hi:ρ[i]?=some r) (ho:r.owned=true):∃ p,σ[i]?=some (some (.ref p))/\aW K (λp=>H₀ p=none) H Hf r (.ref p):=by
 obtain ⟨v,e,q⟩:=S.at_ i r hi (by rintro rfl; cases ho)
 obtain ⟨p,o,rfl,_⟩:=q.qx ho
 exact ⟨p,e,q⟩
theorem dB.upd (S:dB K H₀ dR σ H Hf ρ) (hi:ρ[i]?=some r) (ho:r.owned=true) (hp:σ[i]?=some (some (.ref p))) (g:aY (del H p) Hf H1 aM)
 (hr:aW K (λq=>q=p) H1 aM r' (.ref p)) (ho':r'.owned=true):dB K H₀ dR σ H1 aM (ρ.set i r'):=by
 obtain ⟨p',ep,q⟩:=S.own hi ho
 rw [hp] at ep; cases ep
 obtain ⟨_,o,e,fp,hHp,hfp,nfz⟩:=q.vp ho
 cases e
 have hlt:i<ρ.length:=(Qa.mp hi).1
 refine ⟨⟨(AY fp S.bas.s).trans g.s,S.bas.f.trans g.f,g.b,λb h1 h2 h3=>?_⟩,by simp [S.len],λj r1 hj hu=>?_,λj j' r1 r2 q' hne h1 h2 o1 o2=>?_⟩
 ·have hb:b≠p:=λz=>by subst z; exact h2 fp
  cases z:H₀ b with
  | none=>exact absurd z h2
  | some o1 =>
   have e1:=S.bas.s b o1 z
   refine g.n b (S.bas.n b h1 h2 h3) (by rw [cz hb,e1]; simp) λxs=>?_
   rw [cz hb,e1,<- z]; exact h3 xs
 ·by_cases e:j=i
  ·subst e
   rw [Rh hlt] at hj; cases hj
   exact ⟨_,hp,hr.weak λq' z=>by subst z; exact fp⟩
  ·rw [Ri (Qp e)] at hj
   obtain ⟨v,e1,e2⟩:=S.at_ j r1 hj hu
   exact ⟨v,e1,(e2.Mp (p:=p) nfz λow z=>by subst z; exact S.sep i j _ _ p (Qp e) hi hj ho ow hp e1).cA g⟩
 ·have out:∀ {j:Nat} {r1:Sl},(ρ.set i r')[j]?=some r1->r1.owned=true->∃ r2,ρ[j]?=some r2/\r2.owned=true:=λ{j r1} hj how=>by
   by_cases e:j=i
   ·subst e; exact ⟨r,hi,ho⟩
   ·rw [Ri (Qp e)] at hj; exact ⟨r1,hj,how⟩
  obtain ⟨r3,a1,a2⟩:=out h1 o1
  obtain ⟨r4,b1,b2⟩:=out h2 o2
  exact S.sep j j' r3 r4 q' hne a1 b1 a2 b2
end
section
variable {K:PN} {c:Ctx P w K mg base k N sc bk}
theorem Ctx.jW (c:Ctx P w K mg base k N sc bk) (hN:At N i x) (hd:(x == ("__debug__":Str))=false) (hcd:(x == ("__classdict__":Str))=false):PE c.X (.Name x px) (Lr i) :=
 sL (X:=c.X) (i:=i) (by rw [c.eN]; exact hN.get) (by rw [c.esc]; rcases c.vis x hN.mem with h | h; exact .inl h; exact .inr (.inl h)) hd hcd
noncomputable def Sl.getL:Sl->Option (List D) | .ow ds=>some ds | .aw _ ds=>some ds | _=>none
noncomputable def Sl.putL:Sl->List D->Sl | .ow _,es=>.ow es | .aw a _,es=>.aw a es | s,_=>s
theorem dD {r:Sl} (h:r.getL=some ds):r.owned=true:=by cases r <;> first | rfl | cases h
theorem iu {r:Sl} {ds es:List D} (h:r.getL=some ds):(r.putL es).owned=true:=by cases r <;> first | rfl | cases h
theorem Jg {p:Addr} (h:r.getL=some ds) (q:aW K fr H Hf r (.ref p)):∃ xs,H p=some (.lst xs)/\Hf p=none/\aq K Hf ds xs:=by
 cases r with
 | ow es=>cases h; obtain ⟨_,xs,e,_,h1,h2,h3⟩:=q; cases e; exact ⟨xs,h1,h2,h3⟩
 | aw a es=>cases h; obtain ⟨_,xs,e,_,h1,h2,h3⟩:=q; cases e; exact ⟨xs,h1,h2,h3⟩
 | _=>cases h
theorem kU {ds es:List D} {p:Addr} (h:r.getL=some ds) (q:aW K fr H Hf r (.ref p)) (h1:H1 p=some (.lst ys)) (h2:aM p=none) (h3:aq K aM es ys) :
 aW K (λq=>q=p) H1 aM (r.putL es) (.ref p):=by
 cases r with
 | ow _=>exact ⟨p,ys,rfl,rfl,h1,h2,h3⟩
 | aw a _=>obtain ⟨_,xs,e,f,_⟩:=q; cases e; exact ⟨p,ys,rfl,⟨rfl,f.2⟩,h1,h2,h3⟩
 | _=>cases h
theorem tw (hN:At N i x) (hi:At ρ i r) (hr:r.getL=some ds) (h:aJ c e ρ λd=>Sd (ds.length<sizeLine) (Nx ρ i nx (r.putL (ds++[d]))))
 (hs:∀ env,swapsWith (.Call (.Attribute (.Name x px) "append" ap) [e] [] cp) none pos.line env=pure false:=by intro _; walk_at "u") (hd:(x == ("__debug__":Str))=false:=by decide) (hcd:(x == ("__classdict__":Str))=false:=by decide)
 (hbase:∀ env,attributeBase (.Name x px) "append" env (eval (.Name x px) env)=eval (.Name x px) env:=by intro _; walk_at "u")
 (hfew:∀ env,((backTo cp (starEach [e] env)).all (λx=> !x.1) && (backToKw cp (keywordEach [] env)).all (λx=>x.1.isSome)
   && decide (([e]:List Expr).length+([]:List Keyword).length+(if ([]:List Keyword).isEmpty then 0 else 1)<30))=true:=by intro _; walk_at "u")
 (hline:(ap.endLine == cp.line)=true:=by walk_at "u") (he:∀ env,starEach [e] env=(false,eval e env)::starEach [] env:=by intro _; walk_at "u") (hpl:∀ env,(backTo cp (starEach [] env)).any (·.1)=false:=by intro _; walk_at "u") :
 eU c (.Expr (.Call (.Attribute (.Name x px) "append" ap) [e] [] cp) pos) ρ nx p:=λσ H Hf D S o=>by
 obtain ⟨q,eq,rq⟩:=S.own hi.get (dD hr)
 obtain ⟨xs,h1,h2,h3⟩:=Jg hr rq
 refine dQ (iL (GI PySem.F.plainAttrs_list PySem.F.slot_list_append PySem.F.type_list_append mW (c.jW hN hd hcd) (bF cQ cL (he _)) (hbase _) (hfew _) hline (he _) (hpl _)) (hs _)) ⟨_,eq,.inl ⟨rfl,xs,.inl (.inl h1)⟩,?_⟩
 refine h σ H Hf _ S λd v H' aj ⟨hz,ρ',hs',hn⟩ rd g=>?_
 have S':=S.cA g
 have e1:H' q=some (.lst xs):=g.s _ _ h1
 have e2:aj q=none:=g.n q h2 (by rw [h1]; simp) (by intro ys; rw [h1]; simp)
 refine ⟨q,xs,v,rfl,rfl,e1,by rw [<- h3.length]; exact hz,?_⟩
 refine o.nx _ _ aj ρ' ?_ hn
 rw [hs'.eq]
 have rq':=rq.cA g
 exact S'.upd hi.get (dD hr) eq (gM g.b e2) (kU hr rq' ai e2 ((h3.mono g.f).append (.one rd))) (iu hr)
end
section
variable {κ β:Type} [DecidableEq κ]
noncomputable def bD (kvs:List (κ×β)) (k:κ):Option β:=(kvs.find? λkv=>decide (kv.1=k)).map (·.2)
noncomputable def putD (kvs:List (κ×β)) (k:κ) (v:β):List (κ×β) :=
 if (bD kvs k).isSome=true then kvs.map (λkv=>if kv.1=k then (kv.1,v) else kv) else kvs++[(k,v)]
theorem br {q:κ×β} {r:List (κ×β)} {k:κ} (e:q.1=k):bD (q::r) k=some q.2:=by simp [bD,RB,e]
theorem aV {q:κ×β} {r:List (κ×β)} {k:κ} (e:¬ q.1=k):bD (q::r) k=bD r k:=by simp [bD,RB,e]
end
noncomputable def D.xW:D->Option Key | .int i=>some (.inl i) | .str x=>some (.inr x) | _=>none
noncomputable def D.keys:List D->Option (List Key)
 | []=>some []
 | d::r=>match d.xW,D.keys r with | some k,some ks=>some (k::ks) | _,_=>none
theorem iW {K:PN} (h:d.xW=some k) (r:Rep K H d v):v=kV k:=by
 cases d with
 | int i=>cases h; exact aA.mp r
 | str x=>cases h; exact fM.mp r
 | _=>cases h
theorem gO {K:PN}:∀ {ds:List D} {ks:List Key} {xs:List V},D.keys ds=some ks->aq K H ds xs->xs=ks.map kV
 | [],ks,xs,h,r=>by cases h; rw [aC.mp r]; rfl
 | d::ds,ks,xs,h,r=>by
  obtain ⟨x,t,rfl,r1,r2⟩:=aF.mp r
  unfold D.keys at h
  cases e1:d.xW with
  | none=>rw [e1] at h; cases h
  | some k =>
   cases e2:D.keys ds with
   | none=>rw [e1,e2] at h; cases h
   | some ks' =>
    rw [e1,e2] at h; cases h
    rw [iW e1 r1,gO e2 r2]; rfl
noncomputable def Sl.GV:Sl->Bool | .oK _=>true | .aK _ _=>true | .oT _=>true | .aT _ _=>true | _=>false
theorem qy {r:Sl} (h:r.GV=true):r.owned=true:=by cases r <;> first | rfl | cases h
noncomputable def Sl.tD:Sl->Option (List (Key×D)) | .oK kvs=>some kvs | .aK _ kvs=>some kvs | _=>none
noncomputable def Sl.qz:Sl->List (Key×D)->Sl | .oK _,es=>.oK es | .aK a _,es=>.aK a es | s,_=>s
noncomputable def Sl.xX:Sl->Option (List (List Key×D)) | .oT kvs=>some kvs | .aT _ kvs=>some kvs | _=>none
noncomputable def Sl.AZ:Sl->List (List Key×D)->Sl | .oT _,es=>.oT es | .aT a _,es=>.aT a es | s,_=>s
theorem kW {r:Sl} (h:r.tD=some kvs):r.owned=true:=by cases r <;> first | rfl | cases h
theorem kX {r:Sl} (h:r.tD=some kvs):(r.qz es).owned=true:=by cases r <;> first | rfl | cases h
theorem tE {r:Sl} (h:r.xX=some kvs):(r.AZ es).owned=true:=by cases r <;> first | rfl | cases h
section
variable {K:PN} {fr:Addr->Prop} {H Hf H1 aM:Hp} {r:Sl} {p:Addr}
theorem xY (h:r.tD=some kvs) (q:aW K fr H Hf r (.ref p)):∃ xs,H p=some (.dK xs)/\Hf p=none/\l0 K Hf kvs xs:=by
 cases r with
 | oK es=>cases h; obtain ⟨_,xs,e,_,h1,h2,h3⟩:=q; cases e; exact ⟨xs,h1,h2,h3⟩
 | aK a es=>cases h; obtain ⟨_,xs,e,_,h1,h2,h3⟩:=q; cases e; exact ⟨xs,h1,h2,h3⟩
 | _=>cases h
theorem EE (h:r.xX=some kvs) (q:aW K fr H Hf r (.ref p)):∃ xs,H p=some (.dT xs)/\Hf p=none/\kP K Hf kvs xs:=by
 cases r with
 | oT es=>cases h; obtain ⟨_,xs,e,_,h1,h2,h3⟩:=q; cases e; exact ⟨xs,h1,h2,h3⟩
 | aT a es=>cases h; obtain ⟨_,xs,e,_,h1,h2,h3⟩:=q; cases e; exact ⟨xs,h1,h2,h3⟩
 | _=>cases h
theorem qA (h:r.tD=some kvs) (q:aW K fr H Hf r (.ref p)) (h1:H1 p=some (.dK ys)) (h2:aM p=none) (h3:l0 K aM es ys):aW K (λq=>q=p) H1 aM (r.qz es) (.ref p):=by
 cases r with
 | oK _=>exact ⟨p,ys,rfl,rfl,h1,h2,h3⟩
 | aK a _=>obtain ⟨_,xs,e,f,_⟩:=q; cases e; exact ⟨p,ys,rfl,⟨rfl,f.2⟩,h1,h2,h3⟩
 | _=>cases h
theorem A0 (h:r.xX=some kvs) (q:aW K fr H Hf r (.ref p)) (h1:H1 p=some (.dT ys)) (h2:aM p=none) (h3:kP K aM es ys):aW K (λq=>q=p) H1 aM (r.AZ es) (.ref p):=by
 cases r with
 | oT _=>exact ⟨p,ys,rfl,rfl,h1,h2,h3⟩
 | aT a _=>obtain ⟨_,xs,e,f,_⟩:=q; cases e; exact ⟨p,ys,rfl,⟨rfl,f.2⟩,h1,h2,h3⟩
 | _=>cases h
noncomputable def A1 (K:PN) (Hf:Hp):Option D->Option V->Prop
 | none,none=>True
 | some d,some v=>Rep K Hf d v
 | _,_=>False
theorem l0.val (h:l0 K Hf kvs xs) (k:Key):A1 K Hf (bD kvs k) (kL xs k):=by
 unfold l0 at h
 induction h with
 | nil=>exact RU
 | @cons a b as bs h t ih =>
  by_cases e:a.1=k
  ·rw [br e,kM (h.1.symm.trans e)]; exact h.2
  ·rw [aV e,kN (λz=>e (h.1.trans z))]; exact ih
theorem A1.isSome (h:A1 K Hf o u):o.isSome=u.isSome:=by
 cases o <;> cases u <;> first | rfl | exact h.elim
theorem l0.put (h:l0 K Hf kvs xs) (k:Key) (rd:Rep K Hf d v):l0 K Hf (putD kvs k d) (putK xs k v):=by
 have e:=(h.val k).isSome
 unfold putD putK
 rw [e,qe]
 by_cases q:(kL xs k).isSome=true
 ·rw [if_pos q,if_pos q]
  unfold l0 at h |-
  clear e q
  induction h with
  | nil=>exact .nil
  | @cons a b as bs h t ih =>
   rw [PZ,PZ]
   refine .cons ?_ ih
   by_cases e:a.1=k
   ·rw [if_pos e,if_pos (h.1.symm.trans e)]; exact ⟨h.1,rd⟩
   ·rw [if_neg e,if_neg (λz=>e (h.1.trans z))]; exact h
 ·rw [if_neg q,if_neg q]; exact Vu h ⟨rfl,rd⟩
theorem kP.val (h:kP K Hf kvs xs) (k):A1 K Hf (bD kvs k) (atT xs k):=by
 unfold kP at h
 induction h with
 | nil=>exact RU
 | @cons a b as bs h t ih =>
  by_cases e:a.1=k
  ·have z:L2.atT (b::bs) k=some b.2.2:=by simp [L2.atT,RB,h.1.symm.trans e]
   rw [br e,z]; exact h.2.2
  ·have z:L2.atT (b::bs) k=L2.atT bs k:=by
    have:¬ b.1=k:=λz=>e (h.1.trans z)
    simp [L2.atT,RB,this]
   rw [aV e,z]; exact ih
theorem kP.put (h:kP K Hf kvs xs) (k) (hb:cU K Hf b (k.map kV)) (rd:Rep K Hf d v):kP K Hf (putD kvs k d) (qh xs k b v):=by
 have e:=(h.val k).isSome
 unfold putD qh
 rw [e]
 by_cases q:(atT xs k).isSome=true
 ·rw [if_pos q,if_pos q]
  unfold kP at h |-
  clear e q
  induction h with
  | nil=>exact .nil
  | @cons a b' as bs h t ih =>
   rw [PZ,PZ]
   refine .cons ?_ ih
   unfold oh
   by_cases e:a.1=k
   ·rw [if_pos e,if_pos (h.1.symm.trans e)]; exact ⟨h.1,h.2.1,rd⟩
   ·rw [if_neg e,if_neg (λz=>e (h.1.trans z))]; exact h
 ·rw [if_neg q,if_neg q]; exact Vu h ⟨rfl,hb,rd⟩
theorem kP.A2 (h:kP K Hf kvs xs):∀ x∈xs,cU K Hf x.2.1 (x.1.map kV):=by
 unfold kP at h
 induction h with
 | nil=>intro x hx; cases hx
 | @cons a b as bs h t ih =>
  intro x hx
  rcases P8.mp hx with e | hx
  ·subst e; rw [<- h.1]; exact h.2.1
  ·exact ih x hx
inductive GW:Sl->D->Option D->Prop
 | k {r:Sl} {kvs:List (Key×D)} {d:D} {k:Key} (h:r.tD=some kvs) (hk:d.xW=some k):GW r d (bD kvs k)
 | t {r:Sl} {kvs:List (List Key×D)} {ds:List D} {k:List Key} (h:r.xX=some kvs) (hk:D.keys ds=some k):GW r (.tup ds) (bD kvs k)
inductive EF:Sl->D->D->Sl->Prop
 | k {r:Sl} {kvs:List (Key×D)} {d e:D} {k:Key} (h:r.tD=some kvs) (hk:d.xW=some k) (hz:kvs.length<sizeLine):EF r d e (r.qz (putD kvs k e))
 | t {r:Sl} {kvs:List (List Key×D)} {ds:List D} {e:D} {k:List Key} (h:r.xX=some kvs) (hk:D.keys ds=some k) (hz:kvs.length<sizeLine):EF r (.tup ds) e (r.AZ (putD kvs k e))
theorem EF.owned' (h:EF r d e r'):r'.owned=true:=by cases h with | k h _ _=>exact kX h | t h _ _=>exact tE h
theorem GW.get (h:GW r d o) (q:aW K fr H Hf r (.ref p)) (rv:Rep K Hf d v) (sb:aL Hf H):∃ u,oi K H p v u/\A1 K Hf o u:=by
 cases h with
 | k h hk =>
  obtain ⟨xs,h1,_,h3⟩:=xY h q
  rw [iW hk rv]
  exact ⟨_,.inl ⟨xs,_,.inl h1,rfl,rfl⟩,h3.val _⟩
 | t h hk =>
  obtain ⟨xs,h1,_,h3⟩:=EE h q
  obtain ⟨a,ys,rfl,h4,h5⟩:=aH.mp rv
  have:=gO hk h5
  subst this
  exact ⟨_,.inr ⟨xs,_,a,.inl h1,λx hx=>av sb (h3.A2 x hx),rfl,av sb h4,rfl⟩,h3.val _⟩
theorem l0.length (h:l0 K Hf kvs xs):kvs.length=xs.length:=Rl h
theorem kP.length (h:kP K Hf kvs xs):kvs.length=xs.length:=Rl h
theorem EF.put (h:EF r d e r') (q:aW K fr H Hf r (.ref p)) (rv:Rep K Hf d v) (ry:Rep K Hf e y) (sb:aL Hf H) :
 ∃ o,Eg K H p v y (upd H p o)/\aW K (λq=>q=p) (upd H p o) Hf r' (.ref p):=by
 cases h with
 | k h hk hz =>
  obtain ⟨xs,h1,h2,h3⟩:=xY h q
  rw [iW hk rv]
  exact ⟨_,.inl ⟨xs,_,h1,rfl,by rw [<- h3.length]; exact hz,rfl⟩,qA h q ai h2 (h3.put _ ry)⟩
 | t h hk hz =>
  obtain ⟨xs,h1,h2,h3⟩:=EE h q
  obtain ⟨a,ys,rfl,h4,h5⟩:=aH.mp rv
  have:=gO hk h5
  subst this
  exact ⟨_,.inr ⟨xs,_,a,h1,λx hx=>av sb (h3.A2 x hx),rfl,av sb h4,by rw [<- h3.length]; exact hz,rfl⟩,A0 h q ai h2 (h3.put _ h4 ry)⟩
end
section
variable {K:PN} {c:Ctx P w K mg base k N sc bk}
theorem Ctx.hu (c:Ctx P w K mg base k N sc bk):c.X.A.units+1<cLine:=LV c.room
theorem vq {R:Sl->Prop} (h:R (.oK [])):cN c (.Dict [] [] pos) ρ R:=λσ H Hf Q S q =>
 bJ Ad λp hp=>q (.oK []) (.ref p) _ Hf h ⟨p,[],rfl,hp,ai,S.sb.free hp,.nil⟩ (aY.gj S.sb hp)
theorem EG {R:Sl->Prop} (h:R (.oT [])):cN c (.Dict [] [] pos) ρ R:=λσ H Hf Q S q =>
 bJ Ae λp hp=>q (.oT []) (.ref p) _ Hf h ⟨p,[],rfl,hp,ai,S.sb.free hp,.nil⟩ (aY.gj S.sb hp)
theorem Jh (hN:At N i x) (hi:At ρ i r) (h:aJ c e ρ λdk=>aJ c f ρ λdf=>∃ o,GW r dk o/\R (o.getD df)) (hd:(x == ("__debug__":Str))=false:=by decide) (hcd:(x == ("__classdict__":Str))=false:=by decide) (ho:r.GV=true:=by rfl)
 (m1:∀ env,attributeBase (.Name x px) "get" env (eval (.Name x px) env)=eval (.Name x px) env:=by intro _; walk_at "u")
 (m2:∀ env,((backTo cp (starEach [e,f] env)).all (λx=> !x.1) && (backToKw cp (keywordEach [] env)).all (λx=>x.1.isSome)
   && decide (([e,f]:List Expr).length+([]:List Keyword).length+(if ([]:List Keyword).isEmpty then 0 else 1)<30))=true:=by intro _; walk_at "u")
 (m3:(ap.endLine == cp.line)=true:=by walk_at "u") (m4:∀ env,backTo cp (starEach [e,f] env)=[(false,eval e env),(false,eval f env)]:=by intro _; walk_at "u") :
 aJ c (.Call (.Attribute (.Name x px) "get" ap) [e,f] [] cp) ρ R:=λσ H Hf Q S q=>by
 obtain ⟨p,ep,rp⟩:=S.own hi.get (qy ho)
 have Jf:OC H p:=by
  cases r with
  | oK kvs=>obtain ⟨xs,h1,_⟩:=xY (r:=.oK kvs) rfl rp; exact .inl ⟨xs,.inl h1⟩
  | aK a kvs=>obtain ⟨xs,h1,_⟩:=xY (r:=.aK a kvs) rfl rp; exact .inl ⟨xs,.inl h1⟩
  | oT kvs=>obtain ⟨xs,h1,_⟩:=EE (r:=.oT kvs) rfl rp; exact .inr ⟨xs,.inl h1⟩
  | aT a kvs=>obtain ⟨xs,h1,_⟩:=EE (r:=.aT a kvs) rfl rp; exact .inr ⟨xs,.inl h1⟩
  | _=>cases ho
 refine bJ (Af c.hu (c.jW hN hd hcd) cQ cQ ⟨m1 _,m2 _,m3,m4 _⟩) ⟨_,ep,p,rfl,Jf,h σ H Hf _ S λdk v H1 aM h1 rv g1=>h1 σ H1 aM _ (S.cA g1) λdf y H2 cD ⟨o,lk,hR⟩ ry g2=>?_⟩
 obtain ⟨u,dg,rel⟩:=lk.get (rp.cA (g1.trans g2)) (Rep.mono g2.f _ rv) g2.b
 refine ⟨u,dg,?_⟩
 cases o with
 | none=>cases u with
  | none=>exact q df y H2 cD hR ry (g1.trans g2)
  | some _=>exact rel.elim
 | some d=>cases u with
  | none=>exact rel.elim
  | some v'=>exact q d v' H2 cD hR rel (g1.trans g2)
theorem Ji (hN:At N i x) (hi:At ρ i r) (h:aJ c e ρ λdv=>aJ c b ρ λdk=>∃ r',EF r dk dv r'/\Nx ρ i nx r') (ho:r.owned=true:=by rfl)
 (hs:∀ env,swapsWith e (some (.Subscript (.Name x px) b tp)) pos.line env=pure false:=by intro _; walk_at "u") (hd:(x == ("__debug__":Str))=false:=by decide) (hcd:(x == ("__classdict__":Str))=false:=by decide) :
 eU c (.Assign [.Subscript (.Name x px) b tp] e pos) ρ nx p:=λσ H Hf D S o=>by
 obtain ⟨p,ep,rp⟩:=S.own hi.get ho
 refine dQ (Ej c.hu (c.jW hN hd hcd) cQ cQ (hs _)) (h σ H Hf _ S λdv v H1 aM h1 rv g1=>⟨_,ep,h1 σ H1 aM _ (S.cA g1) λdk y H2 cD ⟨r',pt,ρ',hs',hn⟩ ry g2=>?_⟩)
 have g:=g1.trans g2
 obtain ⟨ob,dp,rp'⟩:=pt.put (rp.cA g) ry (Rep.mono g2.f _ rv) g.b
 refine ⟨p,_,rfl,dp,o.nx _ _ cD ρ' ?_ hn⟩
 rw [hs'.eq]
 obtain ⟨_,_,e0,_,_,hf⟩:=(rp.cA g).qx ho
 cases e0
 exact (S.cA g).upd hi.get ho ep (gM g.b hf) rp' pt.owned'
theorem vv (hN:At N i x) (hi:At ρ i r) (h:aJ c b ρ λdk=>∃ m:Int,GW r dk (some (.int m))/\aJ c e ρ (I1 λj=>∃ r',EF r dk (.int (m+j)) r'/\Nx ρ i nx r')) (ho:r.owned=true:=by rfl)
 (ha:∀ ov iv new,augStore b ov iv new=(do holding [new,ov,iv] (setItem ov iv new); release [new,ov,iv] []; pure .next):=by intro _ _ _; walk_at "u") (hd:(x == ("__debug__":Str))=false:=by decide) (hcd:(x == ("__classdict__":Str))=false:=by decide) :
 eU c (.AugAssign (.Subscript (.Name x px) b tp) .Add e pos) ρ nx p:=λσ H Hf D S o=>by
 obtain ⟨p,ep,rp⟩:=S.own hi.get ho
 have hop:LM c.X .Add (uQ λi j=>.int (i+j)):=DS
 refine dQ (Ek c.hu (c.jW hN hd hcd) cQ cQ hop ha) ⟨_,ep,h σ H Hf _ S λdk y H1 aM ⟨m,lk,h1⟩ ry g1=>?_⟩
 obtain ⟨u,dg,rel⟩:=lk.get (rp.cA g1) ry g1.b
 cases u with
 | none=>exact rel.elim
 | some u =>
  have eu:u=V.int m:=(aA (K:=c.X.K) (H:=aM)).mp rel
  subst eu
  refine ⟨p,_,rfl,dg,h1 σ H1 aM _ (S.cA g1) λdj y2 H2 cD ⟨j,ej,r',pt,ρ',hs',hn⟩ ry2 g2=>?_⟩
  subst ej
  rw [aA.mp ry2]
  have g:=g1.trans g2
  obtain ⟨ob,dp,rp'⟩:=pt.put (rp.cA g) (Rep.mono g2.f _ ry) (v:=y) (y:=.int (m+j)) (aA.mpr rfl) g.b
  refine ⟨m,j,rfl,rfl,_,dp,o.nx _ _ cD ρ' ?_ hn⟩
  rw [hs'.eq]
  obtain ⟨_,_,e0,_,_,hf⟩:=(rp.cA g).qx ho
  cases e0
  exact (S.cA g).upd hi.get ho ep (gM g.b hf) rp' pt.owned'
theorem GX (hN:At N i x) (hi:At ρ i r) (h:aJ c e ρ λdk=>∃ o,GW r dk o/\T o.isSome) (ho:r.owned=true:=by rfl) (hm:behindInMarks CmpOp.In (.Name x px)=false:=by walk_at "u")
 (hd:(x == ("__debug__":Str))=false:=by decide) (hcd:(x == ("__classdict__":Str))=false:=by decide):iJ c (.Compare e [.In] [.Name x px] pos) ρ T:=λσ H Hf Q S q=>by
 obtain ⟨p,ep,rp⟩:=S.own hi.get ho
 refine uZ (HQ (IE c.hu cQ (c.jW hN hd hcd)) hm) (h σ H Hf _ S λdk y H1 aM ⟨o,lk,hT⟩ ry g=>⟨_,ep,?_⟩)
 obtain ⟨u,dg,rel⟩:=lk.get (rp.cA g) ry g.b
 refine ⟨p,u,rfl,dg,u.isSome,rfl,q _ H1 aM ?_ g⟩
 rw [<- rel.isSome]; exact hT
end
noncomputable abbrev f6:Value->Shared->Prop:=λ_ _=>False
section
variable {prog:Program} {w:World} {A:Around} {R:Result->Shared->Prop} {s:Shared}
theorem oB {elt target iter:Expr} {ifs:List Expr} {scope:Scope} {pos:Pos} {it acc:Value} {env:Env} (I:Nat->Shared->Prop)
 (turn:∀ n s,I n s->wpAny (model prog w) A (pyNext it) (λr s₁=>match r with
   | none=>R (.ok .next) s₁
   | some v=>wpAny (model prog w) A (letOwnedTupleGo target it v) (λ_ s₁'=>wpAny (model prog w) A (assign target env v) (λ_ s₂ =>
    wpAny (model prog w) A (forIn ifs true λc r=>if r=true then do let ok <- isTrue c env (eval c env); pure (QY ok) else pure (QY r)) (λok s₃ =>
     if ok=true then wpAny (model prog w) A (eval elt env) (λx s₄ =>
      wpAny (model prog w) A (call (.builtin "list.append") [acc,x]) (λ_ s₅=>∃ m,m<n/\I m s₅) f6 s₄) f6 s₃
     else ∃ m,m<n/\I m s₃) f6 s₂) f6 s₁') f6 s₁) f6 s)
 (n:Nat) (h:I n s) :
 codeAny (model prog w) A (.compLoop (.ListComp elt [⟨target,iter,ifs,0⟩] scope pos) 0 it acc env) R s:=by
 refine codeAny_loop rfl I (λn s hI=>?_) n h
 show wpAny _ A ((compTurn (.ListComp elt [⟨target,iter,ifs,0⟩] scope pos) 0 it acc env).onRaise (λx=>do noteFrame x env; theTreesLotGoes x)) _ _ s
 refine wpAny_noted ?_
 rw [compTurn_list]
 refine PK (wpAny_standAt (PK (QL (turn n s hI) (λr s₁ h₁=>?_) λ_ _ f=>f.elim)))
 cases r with
 | none=>exact PR h₁
 | some v =>
  refine PK (QL h₁ (λ_ s₁' h₁'=>?_) λ_ _ f=>f.elim)
  refine PK (QL h₁' (λ_ s₂ h₂=>PK (QL h₂ (λok s₃ h₃=>?_) λ_ _ f=>f.elim)) λ_ _ f=>f.elim)
  cases ok with
  | false=>exact PR ⟨rfl,h₃⟩
  | true =>
   exact PK (PK (QL h₃ (λx s₄ h₄=>PK (QL h₄ (λ_ s₅ h₅=>PR (PR ⟨rfl,h₅⟩)) λ_ _ f=>f.elim)) λ_ _ f=>f.elim))
theorem jQ:∀ (ifs:List Expr),Q false s ->
 wpAny (model prog w) A (forIn ifs false λc r=>if r=true then do let ok <- isTrue c env (eval c env); pure (QY ok) else pure (QY r)) Q E s
 | [],h=>PR h
 | t::ts,h=>by
  simp only [Tu,QU,if_false]
  exact PK (PR (jQ ts h))
theorem tF
 (h:wpAny (model prog w) A (isTrue t env (eval t env)) (λb s'=>if b=true then wpAny (model prog w) A (forIn ts true λc r=>if r=true then do let ok <- isTrue c env (eval c env); pure (QY ok) else pure (QY r)) Q E s' else Q false s') E s) :
 wpAny (model prog w) A (forIn (t::ts) true λc r=>if r=true then do let ok <- isTrue c env (eval c env); pure (QY ok) else pure (QY r)) Q E s:=by
 simp only [Tu,if_true]
 refine PK (PK (QL h (λb s' hb=>PR ?_) λ_ _ x=>x))
 cases b with
 | true=>exact hb
 | false=>exact jQ ts hb
end
noncomputable def bK (scope sc:Scope):Scope:={ scope with names:=scope.names.map λ(n,k)=>if (k == .free && sc.kind == .function && sc.names.lookup n == some .cell) then (n,.cell) else (n,k) }
theorem qB (h:env.scope=sc):relabel scope env=bK scope sc:=by
 subst h; rfl
noncomputable def Sl.tag (a:Addr):Sl->Sl
 | .ow ds=>.aw a ds | .oT ds=>.aT a ds | .oK ds=>.aK a ds
 | .aw b ds=>.aw b ds | .aT b ds=>.aT b ds | .aK b ds=>.aK b ds | .fo s=>.fo s
 | .un=>.un | .va d=>.va d
inductive tG (t:Str->Addr) (nm:List (Str×NameKind)) (N:List Str) (ρ:List Sl):List Str->List Sl->Prop
 | nil:tG t nm N ρ [] []
 | un {y:Str} {M:List Str} {r:List Sl}:tG t nm N ρ M r->tG t nm N ρ (y::M) (.un::r)
 | fr {y:Str} {i:Nat} {s s':Sl} {M:List Str} {r:List Sl} (hN:At N i y) (hs:At ρ i s) (hy:(y,RZ)∈nm) (ht:s.tag (t y)=s'):tG t nm N ρ M r->tG t nm N ρ (y::M) (s'::r)
theorem tG.len (h:tG t nm N ρ M r):M.length=r.length:=by
 induction h with
 | nil=>rfl
 | un t ih=>simp [ih]
 | fr hN hs hy ht t ih=>simp [ih]
inductive A3:List Sl->List Sl->Prop
 | nil:A3 [] []
 | un {r:Sl} {a b:List Sl}:A3 a b->A3 (.un::a) (r::b)
 | same {r:Sl} {a b:List Sl}:A3 a b->A3 (r::a) (r::b)
theorem A3.weak (h:A3 a b):a.length=b.length/\∀ (i:Nat) (r:Sl),a[i]?=some r->r≠.un->b[i]?=some r:=by
 induction h with
 | nil=>exact ⟨rfl,λi r e=>by simp at e⟩
 | un t ih=>exact ⟨by simp [ih.1],λi r e hu=>by cases i with | zero=>simp at e; exact absurd e.symm hu | succ i=>simpa using ih.2 i r (by simpa using e) hu⟩
 | same t ih=>exact ⟨by simp [ih.1],λi r e hu=>by cases i with | zero=>simpa using e | succ i=>simpa using ih.2 i r (by simpa using e) hu⟩
section
variable {K:PN}
noncomputable def jX (c:Ctx P w K mg base k N sc bk):List Expr->List Sl->(Bool->Prop)->Prop
 | [],_,T=>T true
 | t::ts,ρ,T=>iJ c t ρ (mq (jX c ts ρ T) (T false))
theorem m9 (hq:c.X.xe=f6):∀ (ifs:List Expr) {H Hf:Hp} {s:Shared},bw c σ H Hf ρ->jX c ifs ρ T->(∀ b H' aj,T b->aY H Hf H' aj->Q b H')->Inv c.X aa σ H s ->
 wpAny (model c.X.prog c.X.w) c.X.A (forIn ifs true λt r=>if r=true then do let ok <- isTrue t c.X.env (eval t c.X.env); pure (QY ok) else pure (QY r)) (TP c.X aa σ Q) f6 s
 | [],H,Hf,s,S,h,q,I=>wpAny_tests_nil ⟨H,I,q true H Hf h (.refl S.sb)⟩
 | t::ts,H,Hf,s,S,h,q,I=>by
  have h0:=h σ H Hf (λb H'=>∃ aj,mq (jX c ts ρ T) (T false) b/\aY H Hf H' aj) S (λb H' aj hb g=>⟨aj,hb,g⟩) aa s I
  rw [hq] at h0
  refine tF (bz h0 λb s' ⟨H',I',aj,hb,g⟩=>?_)
  cases b with
  | true=>exact m9 hq ts (S.cA g) (hb.t rfl) (λb H2 cD hT g2=>q b H2 cD hT (g.trans g2)) I'
  | false=>exact ⟨H',I',q false H' aj (hb.f rfl) g⟩
end
theorem kY:∀ (names:List (Str×NameKind)) (cs:List (Str×Addr)),(∀ x∈names,x.2=.free->∃ a,env.cells.lookup x.1=some a) ->
 ∃ cl,(forIn names cs (λ(x:Str×NameKind) (r:List (Str×Addr))=>(if (x.2 == RZ)=true then do let a <- cellOf env x.1; pure (QY ((x.1,a)::r)) else pure (QY r):Sem (ForInStep (List (Str×Addr))))))=(pure cl:Sem (List (Str×Addr))) /\
  (∀ y a,cl.lookup y=some a->cs.lookup y=some a\/env.cells.lookup y=some a/\(y,RZ)∈names)/\(∀ y a,(y,RZ)∈names\/(∃ b,cs.lookup y=some b/\env.cells.lookup y=some b)->env.cells.lookup y=some a->cl.lookup y=some a)
 | [],cs,_=>⟨cs,rfl,λy a e=>.inl e,λy a h e=>by
  rcases h with h | ⟨b,h1,h2⟩
  ·cases h
  ·rw [e] at h2; cases h2; exact h1⟩
 | (n,kd)::r,cs,h=>by
  by_cases hk:kd=.free
  ·subst hk
   obtain ⟨a,ea⟩:=h (n,.free) P4 rfl
   obtain ⟨cl,e1,e2,e3⟩:=kY r ((n,a)::cs) λx hx=>h x (P9 _ hx)
   refine ⟨cl,?_,λy b e=>?_,λy b hy e=>?_⟩
   ·rw [Tu]
    simp only [beq_self_eq_true,if_true,cellOf,ea,pure_bind]
    exact e1
   ·rcases e2 y b e with z | ⟨z1,z2⟩
    ·rw [Wh] at z
     cases q:(y == n) with
     | true =>
      rw [q] at z; cases z
      have:y=n:=by simpa using q
      subst this
      exact .inr ⟨ea,P4⟩
     | false=>rw [q] at z; exact .inl z
    ·exact .inr ⟨z1,P9 _ z2⟩
   ·refine e3 y b ?_ e
    rcases hy with hy | ⟨b',h1,h2⟩
    ·rcases P8.mp hy with z | z
     ·cases z; exact .inr ⟨a,by simp,ea⟩
     ·exact .inl z
    ·refine .inr ⟨b',?_,h2⟩
     rw [Wh]
     cases q:(y == n) with
     | true =>
      have:y=n:=by simpa using q
      subst this
      rw [ea] at h2; exact h2
     | false=>exact h1
  ·have hb:(kd == RZ)=false:=by simpa using hk
   obtain ⟨cl,e1,e2,e3⟩:=kY r cs λx hx=>h x (P9 _ hx)
   refine ⟨cl,?_,λy b e=>?_,λy b hy e=>?_⟩
   ·rw [Tu]
    simp only [hb,QU,if_false,pure_bind]
    exact e1
   ·rcases e2 y b e with z | ⟨z1,z2⟩
    ·exact .inl z
    ·exact .inr ⟨z1,P9 _ z2⟩
   ·refine e3 y b ?_ e
    rcases hy with hy | hy
    ·rcases P8.mp hy with z | z
     ·cases z; exact absurd rfl hk
     ·exact .inl z
    ·exact .inr hy
theorem EH (h:∀ x∈scope.names,x.2=.free->∃ a,env.cells.lookup x.1=some a) :
 ∃ cl,closureFor scope env=pure cl/\(∀ y a,cl.lookup y=some a->env.cells.lookup y=some a/\(y,RZ)∈scope.names)/\(∀ y a,(y,RZ)∈scope.names->env.cells.lookup y=some a->cl.lookup y=some a):=by
 obtain ⟨cl,e1,e2,e3⟩:=kY scope.names [] h
 refine ⟨cl,?_,λy a e=>?_,λy a hy e=>e3 y a (.inl hy) e⟩
 ·unfold closureFor
  have e1':=congrArg (· >>= λcs=>(pure cs:Sem _)) e1
  simp only [pure_bind] at e1'
  exact e1'
 ·rcases e2 y a e with z | z
  ·simp at z
  ·exact z
section
variable {P:Program} {w:World} {K:PN} {mg:Str->Option Value} {base:Heap} {k:Nat} {N:List Str} {sc:Scope} {bk:Bool} {c:Ctx P w K mg base k N sc bk} {ρ:List Sl} {pos:Pos}
def qC (c:Ctx P w K mg base k N sc bk) (tg:Expr) (ifs:List Expr) (elt:Expr) (ρ0:List Sl) (d:D) (o:Option D):Prop :=
 mj c tg d ρ0 λρ1=>A3 ρ0 ρ1/\jX c ifs ρ1 (mq (aJ c elt ρ1 λe=>o=some e) (o=none))
theorem iX {nm:List (Str×NameKind)}:∀ {y:Str} {kd:NameKind},(nm.map λ(x:Str×NameKind)=>match x with | (n,k)=>(if (k == .free && sc.kind == .function && sc.names.lookup n == some .cell)=true then (n,NameKind.cell) else (n,k))).lookup y=some kd->∃ k0,(y,k0)∈nm/\(kd=k0\/kd=.cell/\k0=.free):=by
 induction nm with
 | nil=>intro y kd h; simp at h
 | cons x r ih =>
  obtain ⟨n,k0⟩:=x
  intro y kd h
  rw [PZ,Wh] at h
  by_cases e:(k0 == .free && sc.kind == .function && sc.names.lookup n == some .cell)=true
  ·simp only [e,if_true] at h
   cases q:(y == n) with
   | true =>
    rw [q] at h; cases h
    have:y=n:=by simpa using q
    subst this
    have hf:k0=.free:=by simp only [SD,beq_iff_eq] at e; exact e.1.1
    exact ⟨k0,P4,.inr ⟨rfl,hf⟩⟩
   | false=>rw [q] at h; obtain ⟨k1,h1,h2⟩:=ih h; exact ⟨k1,P9 _ h1,h2⟩
  ·simp only [e,QU,if_false] at h
   cases q:(y == n) with
   | true =>
    rw [q] at h; cases h
    have:y=n:=by simpa using q
    subst this
    exact ⟨k0,P4,.inl rfl⟩
   | false=>rw [q] at h; obtain ⟨k1,h1,h2⟩:=ih h; exact ⟨k1,P9 _ h1,h2⟩
theorem tG.start {σ:L2.St} (h:tG t nm N ρ M r) (hσ:∀ (i:Nat) (s:Sl),ρ[i]?=some s->s≠.un->∃ v,σ[i]?=some (some v)) :
 ∃ σ0:L2.St,σ0.length=r.length/\∀ (j:Nat) (s:Sl),r[j]?=some s->(s=.un/\σ0[j]?=some none)\/∃ (i:Nat) (y:Str) (v:V) (s0:Sl),M[j]?=some y/\(y,RZ)∈nm/\N[i]?=some y/\ρ[i]?=some s0/\s=s0.tag (t y)/\s0≠.un/\σ[i]?=some (some v)/\σ0[j]?=some (some v):=by
 induction h with
 | nil=>exact ⟨[],rfl,λj s e=>by simp at e⟩
 | un t ih =>
  obtain ⟨σ0,hl,h0⟩:=ih
  refine ⟨none::σ0,by simp [hl],λj s e=>?_⟩
  cases j with
  | zero=>simp at e; exact .inl ⟨e.symm,by simp⟩
  | succ j =>
   rcases h0 j s (by simpa using e) with ⟨h1,h2⟩ | ⟨i,y,v,s0,h1,h2,h3,h4,h5,h6,h7,h8⟩
   ·exact .inl ⟨h1,by simpa using h2⟩
   ·exact .inr ⟨i,y,v,s0,by simpa using h1,h2,h3,h4,h5,h6,h7,by simpa using h8⟩
 | @fr y i s' s'' M r hN hs hy ht t ih =>
  obtain ⟨σ0,hl,h0⟩:=ih
  by_cases hu:s'=.un
  ·refine ⟨none::σ0,by simp [hl],λj s e=>?_⟩
   cases j with
   | zero=>simp at e; subst hu; exact .inl ⟨e.symm.trans ht.symm,by simp⟩
   | succ j =>
    rcases h0 j s (by simpa using e) with ⟨h1,h2⟩ | ⟨i,y,v,s0,h1,h2,h3,h4,h5,h6,h7,h8⟩
    ·exact .inl ⟨h1,by simpa using h2⟩
    ·exact .inr ⟨i,y,v,s0,by simpa using h1,h2,h3,h4,h5,h6,h7,by simpa using h8⟩
  ·obtain ⟨v,ev⟩:=hσ i s' hs.get hu
   refine ⟨some v::σ0,by simp [hl],λj s e=>?_⟩
   cases j with
   | zero=>simp at e; subst e; exact .inr ⟨i,y,v,s',by simp,hy,hN.get,hs.get,ht.symm,hu,ev,by simp⟩
   | succ j =>
    rcases h0 j s (by simpa using e) with ⟨h1,h2⟩ | ⟨i,y,v,s0,h1,h2,h3,h4,h5,h6,h7,h8⟩
    ·exact .inl ⟨h1,by simpa using h2⟩
    ·exact .inr ⟨i,y,v,s0,by simpa using h1,h2,h3,h4,h5,h6,h7,by simpa using h8⟩
noncomputable def Sl.adr:Sl->Option Addr | .aw a _=>some a | .aT a _=>some a | .aK a _=>some a | _=>none
theorem nc {s:Sl}:(s.tag a).owned=s.owned:=by cases s <;> rfl
theorem EI {s:Sl} (h:s.owned=true):∃ b,(s.tag a).adr=some b:=by cases s <;> first | exact ⟨_,rfl⟩ | cases h
theorem vz (hv:s.owned=true->v=.ref a) (h:aW K fr H Hf s v):aW K fr H Hf (s.tag a) v:=by
 cases s with
 | ow ds=>obtain ⟨p,xs,e,f,r⟩:=h; exact ⟨p,xs,e,⟨f,by have:=hv rfl; rw [e] at this; cases this; rfl⟩,r⟩
 | oT ds=>obtain ⟨p,xs,e,f,r⟩:=h; exact ⟨p,xs,e,⟨f,by have:=hv rfl; rw [e] at this; cases this; rfl⟩,r⟩
 | oK ds=>obtain ⟨p,xs,e,f,r⟩:=h; exact ⟨p,xs,e,⟨f,by have:=hv rfl; rw [e] at this; cases this; rfl⟩,r⟩
 | _=>exact h
theorem vA (hb:s.adr=some b) (h:aW K fr H Hf s (.ref p)):p=b:=by
 cases s with
 | aw a ds=>cases hb; obtain ⟨q,xs,e,f,r⟩:=h; cases e; exact f.2
 | aT a ds=>cases hb; obtain ⟨q,xs,e,f,r⟩:=h; cases e; exact f.2
 | aK a ds=>cases hb; obtain ⟨q,xs,e,f,r⟩:=h; cases e; exact f.2
 | _=>cases hb
theorem dB.apart (S:dB K H₀ dR σ H Hf ρ) (h0:H₀ a=none) (hf:Hf a=none) (nf:¬ Ah H a) (ha:∀ (i:Nat) (r:Sl),ρ[i]?=some r->r.owned=true->σ[i]?≠some (some (.ref a))):dB K H₀ dR σ (L2.upd H a o) Hf ρ :=
 ⟨⟨λb u e=>by rw [L2.ak (aE e h0)]; exact S.bas.s b u e,S.bas.f,λb u e=>by rw [L2.ak (aE e hf)]; exact S.bas.b b u e,S.bas.n⟩,S.len,λi r hi hu=>by
   obtain ⟨v,e,q⟩:=S.at_ i r hi hu
   refine ⟨v,e,?_⟩
   have hg:aY (del H a) Hf (L2.upd H a o) Hf:=gM S.bas.b hf
   exact (q.Mp (p:=a) nf λow z=>by subst z; exact ha i r hi ow e).cA hg,S.sep⟩
theorem kg (g:aY H1 aM H' aj) (h1:H1 a=none) (hf:aj a=none):aY H1 aM (upd H' a o) aj :=
 ⟨λb u e=>by rw [ak (aE e h1)]; exact g.s b u e,g.f,λb u e=>by rw [ak (aE e hf)]; exact g.b b u e,g.n⟩
section
variable {K:PN} {H Hf H' aj:Hp}
noncomputable abbrev Fp:=List (Addr×List V)
mutual
theorem aG.fz:∀ (s:Sh) {v:V} {fp:Fp},aG K H Hf s v fp->∀ a∈fp,H a.1=some (pl a.1 a.2)/\Hf a.1=none
 | .v d,_,_,h=>by simp only [aG] at h; obtain ⟨_,rfl⟩:=h; intro a ha; cases ha
 | .l ds,_,_,h=>by
  simp only [aG] at h
  obtain ⟨p,xs,e,h1,h2,h3,rfl⟩:=h
  intro a ha
  obtain rfl:=Qg.mp ha
  exact ⟨h1,h2⟩
 | .la p ds,_,_,h=>by
  simp only [aG] at h
  obtain ⟨xs,e,h1,h2,h3,rfl⟩:=h
  intro a ha
  obtain rfl:=Qg.mp ha
  exact ⟨h1,h2⟩
 | .t ss,_,_,h=>by
  simp only [aG] at h
  obtain ⟨a,xs,e,h1,h2⟩:=h
  exact ah.fz ss h2
 | .ls ss,_,_,h=>by
  simp only [aG] at h
  obtain ⟨p,xs,fq,e,h1,h2,h3,rfl⟩:=h
  intro a ha
  rcases P8.mp ha with rfl | ha
  ·exact ⟨h1,h2⟩
  ·exact ah.fz ss h3 a ha
theorem ah.fz:∀ (ss:List Sh) {xs:List V} {fp:Fp},ah K H Hf ss xs fp->∀ a∈fp,H a.1=some (pl a.1 a.2)/\Hf a.1=none
 | [],_,_,h=>by simp only [ah] at h; obtain ⟨_,rfl⟩:=h; intro a ha; cases ha
 | s::ss,_,_,h=>by
  simp only [ah] at h
  obtain ⟨x,r,f1,f2,e,h1,h2,rfl⟩:=h
  intro a ha
  rcases Qq.mp ha with ha | ha
  ·exact aG.fz s h1 a ha
  ·exact ah.fz ss h2 a ha
end
end
noncomputable def Sl.sh:Sl->Option Sh | .va d=>some (.v d) | .fo s=>some s | _=>none
theorem A4 {H H' aj:Hp} (e:r.sh=some s) (h:aW K (λp=>H p=none) H' aj r v):∃ fp,aG K H' aj s v fp/\(fp.map (·.1)).Nodup/\∀ a∈fp,H a.1=none:=by
 cases r with
 | va d=>cases e; exact ⟨[],by simp only [aG]; exact ⟨h,trivial⟩,by simp,by intro a ha; cases ha⟩
 | fo s=>cases e; exact h
 | _=>cases e
theorem ah.snoc (h:aG K H Hf s v fp):∀ {ss:List Sh} {vs:List V} {fq:Fp},ah K H Hf ss vs fq->ah K H Hf (ss++[s]) (vs++[v]) (fq++fp)
 | [],_,_,q=>by
  simp only [ah] at q
  obtain ⟨rfl,rfl⟩:=q
  simp only [RW,ah]
  exact ⟨v,[],fp,[],rfl,h,⟨rfl,rfl⟩,(QX _).symm⟩
 | s'::ss,_,_,q=>by
  simp only [ah] at q
  obtain ⟨x,r,f1,f2,rfl,h1,h2,rfl⟩:=q
  have:=ah.snoc h h2
  simp only [Rz,ah]
  exact ⟨x,r++[v],f1,f2++fp,rfl,h1,this,Qn _ _ _⟩
def vB (c:Ctx P w K mg base k N sc bk) (tg:Expr) (ifs:List Expr) (elt:Expr) (ρ0:List Sl) (d:D) (o:Option Sh):Prop :=
 mj c tg d ρ0 λρ1=>A3 ρ0 ρ1/\jX c ifs ρ1 (mq (cN c elt ρ1 λr=>∃ z,o=some z/\r.sh=some z) (o=none))
abbrev Li (scope sc:Scope) (N':List Str):Prop:=scope.kind=.function/\(∀ x∈scope.names,x.2≠.cell)/\(∀ x∈scope.names,x.2=.local->scope.names.lookup x.1=some .local)/\(∀ x∈scope.names,x.2=.free->sc.names.lookup x.1=some .cell)/\N'.Nodup/\(∀ x∈N',(bK scope sc).names.lookup x=some .local\/(bK scope sc).names.lookup x=some .cell)/\∀ x∈scope.names,x.2=.free->(bK scope sc).names.lookup x.1=some .cell
theorem vC {elt tg iter:Expr} {ifs:List Expr} {scope:Scope} {N':List Str} {ρ0:(Str->Addr)->List Sl} {R:List Sh->Prop} (hq:c.X.xe=f6) (hfr:∀ t,tG t scope.names N ρ N' (ρ0 t))
 (h:xU c tg iter ρ λds=>Sd (ds.length<=sizeLine) (∃ os:List (Option Sh),os.length=ds.length /\
   (∀ c':Ctx P w K mg base k N' (bK scope sc) true,c'.X.xe=f6->∀ (t:Str->Addr) (i:Nat) (d:D) (o:Option Sh),ds[i]?=some d->os[i]?=some o->vB c' tg ifs elt (ρ0 t) d o)/\R (os.filterMap id)))
 (hcp:Li scope sc N':=by decide +kernel)
 (hs:∀ env v,foldedSetIterable iter env v=pure v:=by intro _ _; walk_at "u")
 {σ:L2.St} {H Hf:Hp} (S:bw c σ H Hf ρ) {aa:List (Addr×Obj)} {s:Shared} (I:Inv c.X aa σ H s) {use:Option (Value->Sem Unit)} {QQ:Value->Shared->Prop}
 (kont:∀ (s':Shared) (H' aj:Hp) (a C:Addr) (ss:List Sh) (vs:List V) (fq:Fp),R ss->(∃ m,s'.heap.Ns C m)->C∉c.X.fs->eO c.X aa H' C->H a=none->H' a=some (.lst vs)->aj a=none->ah c.X.K H' aj ss vs fq->(fq.map (·.1)).Nodup->(∀ b∈fq,H b.1=none)->aY H Hf H' aj->(∀ h5,Rk C s'.heap h5->Inv c.X aa σ H' { s' with heap:=h5 })->compPost (model c.X.prog c.X.w) c.X.A f6 use QQ (.ref a) C (.ok .next) s') :
 wpAny (model c.X.prog c.X.w) c.X.A (comprehension (.ListComp elt [⟨tg,iter,ifs,0⟩] scope pos) scope c.X.env (firstIterPos [⟨tg,iter,ifs,0⟩] pos) (newList []) (firstAsync [⟨tg,iter,ifs,0⟩]) (firstIter [⟨tg,iter,ifs,0⟩] c.X.env) use) QQ f6 s:=by
 obtain ⟨hk,hnc,hnl,hfree,hnd,hv,hvf⟩:=hcp
 have hI:=h σ H Hf (λJ H1=>∃ ds aM,Sd (ds.length<=sizeLine) (∃ os:List (Option Sh),os.length=ds.length /\
  (∀ c':Ctx P w K mg base k N' (bK scope sc) true,c'.X.xe=f6->∀ (t:Str->Addr) (i:Nat) (d:D) (o:Option Sh),ds[i]?=some d->os[i]?=some o->vB c' tg ifs elt (ρ0 t) d o)/\R (os.filterMap id))/\aY H Hf H1 aM/\iT c.X.K J ds aM) S (λds J H' aj hR g io=>⟨ds,aj,hR,g,io⟩) aa s I
 rw [hq] at hI
 have hcells:∀ x∈scope.names,x.2=.free->∃ a,c.X.env.cells.lookup x.1=some a:=λx hx hf=>I.ok.has x.1 (.inl (by unfold Qx; rw [c.esc]; exact hfree x hx hf))
 obtain ⟨cl,hclos,zz,hcl2⟩:=EH hcells
 refine wpAny_comprehension_free (cl:=cl) (use:=use) rfl (hs _) hclos hk hnl ?_
 refine bz (show wpAny _ _ (eval iter c.X.env) _ _ _ from hI) λv s1 h1=>bz h1 λitv s2 hh=>z5 hh λit fp tn J H1 hh=>w6 hh λe0 I1 Tn t0 hfp hh=>z2 hh λds aM hh=>w3 hh λhz g io=>?_
 obtain ⟨hz,os,hh⟩:=hz
 refine w3 hh λhol hb hR=>?_
 subst e0
 have hcell':∀ y∈scope.names,y.2≠.cell:=hnc
 refine QZ (wpAny_newFunctionEnv hcell' (by intro y hy; simp at hy) (λh4 hns hsb=>?_) hk)
 dsimp only at hns hsb |-
 generalize hDe:s2.heap.objs.size=Da at *
 have k3:∀ b u,s2.heap.get? b=some u->(s2.heap.push { cls:=.type "list",dict:=none,data:=.seq ([]:List Value).toArray }).get? b=some u:=λb u e=>PY _ e
 generalize hH3:s2.heap.push { cls:=.type "list",dict:=none,data:=.seq ([]:List Value).toArray }=h3 at *
 have hCe:h3.objs.size=Da+1:=by rw [<- hH3,RC,hDe]
 have hgD:h3.get? Da=some { cls:=.type "list",dict:=none,data:=.seq ([]:List Value).toArray }:=by rw [<- hH3,<- hDe]; exact Qd _ rfl
 have uM:H1 Da=none:=by rw [<- hDe]; exact I1.hok.fresh (PU _)
 have I3:Inv c.X aa σ (upd H1 Da (.lst [])) { s2 with heap:=h3,toks:=s2.toks }:=I1.laid (a:=Da) (o:=.lst []) (t':=s2.toks) k3 (by rw [hDe]; exact PU _) ⟨Qv _,[],0,.nil,hgD⟩
 have fpne:∀ b∈fp,b≠Da:=λb hb z=>by
  obtain ⟨o,e,_⟩:=Tn.obj _ _ t0 b hb
  subst z
  exact absurd (P1 e) (by rw [hDe]; exact RD _)
 have fplt:∀ b∈fp,b<h3.objs.size:=λb hb=>by
  obtain ⟨o,e,_⟩:=Tn.obj _ _ t0 b hb
  exact P1 (k3 b o e)
 let s3:Shared:={ s2 with heap:=h3,toks:=s2.toks }
 let H2:Hp:=upd H1 Da (.lst [])
 let X':Cx:={ prog:=c.X.prog,w:=c.X.w,K:=c.X.K,mg:=c.X.mg,base:=c.X.base,A:=c.X.A,N:=N',s₀:=s3,H₀:=H2,env:=compEnvC scope cl h3.objs.size c.X.env,outer:=c.X.stack,stack:=c.X.stack,ex:=fp,fn:=λ_=>false,calm:=true,pn:=[],xe:=f6 }
 have S1:=S.cA g
 have S2:bw c σ H2 aM ρ:=S1.cA (aY.gj g.b uM)
 obtain ⟨t,ht⟩:∃ t:Str->Addr,∀ (i:Nat) (y:Str) (p:Addr),N[i]?=some y->σ[i]?=some (some (.ref p))->t y=p:=by
  classical
  refine ⟨λy=>if h:∃ (i:Nat) (p:Addr),N[i]?=some y/\σ[i]?=some (some (.ref p)) then h.choose_spec.choose else 0,λi y p e1 e2=>?_⟩
  have h:∃ (i:Nat) (p:Addr),N[i]?=some y/\σ[i]?=some (some (.ref p)):=⟨i,p,e1,e2⟩
  show (if h:_ then _ else _)=p
  rw [dif_pos h]
  obtain ⟨e3,e4⟩:=h.choose_spec.choose_spec
  have hi:h.choose<N.length:=(Qa.mp e3).1
  have e5:h.choose=i:=(List.getElem?_inj hi c.nd).mp (e3.trans e1.symm)
  have e6:=(congrArg (λz=>σ[z]?) e5).symm.trans e4
  rw [show σ[i]?=some (some (.ref p)) from e2] at e6
  have e4:=e6
  exact (V.ref.inj (RA (RA e4))).symm
 have hfr:=hfr t
 generalize hρ:ρ0 t=ρt at hfr
 obtain ⟨σ0,hσl,hσ0⟩:=hfr.start (σ:=σ) λi s e hu=>let ⟨v,e2,_⟩:=S2.at_ i s e hu; ⟨v,e2⟩
 have k4:∀ b u,h3.get? b=some u->h4.get? b=some u:=λb u e=>hsb.extBut b u (Qu (P1 e)) (PY _ e)
 have hsc:X'.env.scope=bK scope sc:=qB c.esc
 have okX:X'.Ok:={
  mod:=I3.ok.mod
  kind:=hk
  glob:=I3.ok.glob
  blt:=I3.ok.blt
  above:=PU _
  inj:=λx y a e1 e2=>I3.ok.inj x y a (zz x a e1).1 (zz y a e2).1
  has:=λx hx=>by
   have key:(x,RZ)∈scope.names:=by
    have hx':(bK scope sc).names.lookup x=some .cell\/(bK scope sc).names.lookup x=some .free:=by
     unfold Qx at hx; rw [hsc] at hx; exact hx
    rcases hx' with hx' | hx'
    ·obtain ⟨k0,h1,h2⟩:=iX hx'
     rcases h2 with h2 | ⟨_,h2⟩
     ·subst h2; exact absurd rfl (hnc _ h1)
     ·subst h2; exact h1
    ·obtain ⟨k0,h1,h2⟩:=iX hx'
     rcases h2 with h2 | ⟨h2,_⟩
     ·subst h2; exact h1
     ·cases h2
   obtain ⟨a,ea⟩:=hcells _ key rfl
   exact ⟨a,hcl2 x a key ea⟩
  cab:=λx a hf=>by cases hf
  hd:=λ_=>I3.ok.hd c.calm
  frames:=I3.ok.frames
  stk:=.inl rfl
  exf:=λb hb=>⟨Qu (fplt b hb),λx a ea=>(hfp b hb).2.2.2.2.1 x a (zz x a ea).1⟩
  bs:=I3.bs
  bsz:=P7 I3.ok.bsz I3.sz
  noex:=λb o e hb=>by
   rcases (hfp b hb).2.2.2.1 with z | z
   ·exact I3.ok.noex b o e z
   ·exact absurd (QJ (P1 e) (P7 I3.ok.bsz z)) (RD _)
  exfs:=λb hb m=>by
   rcases P8.mp (I3.sJ b m) with z | z
   ·exact (hfp b hb).2.1 z
   ·exact (hfp b hb).2.2.1 z
  jo:=I3.stack
  frf:=I3.uN }
 have I4:Inv X' [] σ0 H2 { s2 with heap:=h4,toks:=s2.toks+([]:List (Str×Value)).length }:={
  ok:=okX
  os:=rfl
  bare:=I3.bare
  base:=Un.kept k4
  loc:=⟨_,hns,λj y v hy hv' _=>by
   have hj:j<ρt.length:=by
    have:=(Qa.mp hv').1
    rw [hσl] at this; exact this
   rcases hσ0 j ρt[j] (Qo hj) with ⟨_,z⟩ | hh
   ·rw [z] at hv'; cases hv'
   ·refine z4 hh λi y' v' s0 hh=>w8 hh λh1 h2 h3' h4' hs5 hs6 h5 h6=>?_
    rw [h6] at hv'; cases hv'
    have hy':N'[j]?=some y:=hy
    rw [h1] at hy'; cases hy'
    obtain ⟨m0,hm0,hl⟩:=I3.loc
    have hkc:c.X.env.kindOf y=some .cell:=by unfold Qx; rw [c.esc]; exact hfree _ h2 rfl
    obtain ⟨u,r,lk⟩:=hl i y v (by rw [c.eN]; exact h3') h5 (.inr (.inl hkc))
    refine ⟨u,r,?_⟩
    rcases lk with ⟨q1,_⟩ | ⟨_,a,e1,e2⟩
    ·rw [hkc] at q1; cases q1
    ·refine .inr ⟨.inl ?_,a,hcl2 _ a h2 e1,?_⟩
     ·show List.lookup y X'.env.scope.names=_
      rw [hsc]; exact hvf _ h2 rfl
     ·obtain ⟨oc,e3,e4⟩:=e2
      exact ⟨oc,k4 _ _ e3,e4⟩⟩
  cell:=λx a ea=>by
   obtain ⟨v',oc,e3,e4⟩:=I3.cell x a (zz x a ea).1
   exact ⟨v',oc,k4 _ _ e3,e4⟩
  free:=I3.hok.fresh (PU _)
  freeC:=λx a ea=>I3.freeC x a (zz x a ea).1
  pin:=λq hq'=>by simp at hq'; cases hq'
  hok:=I3.hok.kept k4
  len:=by rw [hσl]; exact hfr.len.symm }
 let c':Ctx P w K mg base k N' (bK scope sc) true :=
  { X:=X',eP:=c.eP,ew:=c.ew,eK:=c.eK,emg:=c.emg,eb:=c.eb,eN:=rfl,esc:=hsc,calm:=rfl,top:=λz=>(by cases z),cb:=λz=>(by cases z),fn:=λx hx=>.inr (by rw [hsc]; exact hx.resolve_left (λz=>by cases z)),room:=c.room,nd:=hnd,vis:=hv,
    Hf:=c.Hf,B:=c.B,RX:=λ_ _=>False,exc:=λ_ _ _ _ _ _ _ _ _ _ _ _ h _ _=>h.elim,RM:=λ_ _=>False,mde:=λ_ _ _ _ _ _ _ _ _ _ _ _ h _=>h.elim }
 have hN0:N'.length=ρt.length:=hfr.len
 have S4:bw c' σ0 H2 aM ρt:=by
  refine ⟨S2.bas,hσl,λj r hj hu=>?_,λj j' r r' p hne e1 e2 o1 o2 f1 f2=>?_⟩
  ·rcases hσ0 j r hj with ⟨z,_⟩ | hh
   ·exact absurd z hu
   ·refine z4 hh λi y v s0 hh=>w8 hh λh1 h2 h3' h4' hs5 hs6 h5 h6=>?_
    obtain ⟨v',e3,q3⟩:=S2.at_ i s0 h4' hs6
    rw [h5] at e3; cases e3
    subst hs5
    exact ⟨v,h6,vz (λow=>by
     obtain ⟨p,_,rfl,_⟩:=q3.qx ow
     rw [ht i y p h3' h5]) q3⟩
  ·have u1:r≠.un:=by rintro rfl; cases o1
   have u2:r'≠.un:=by rintro rfl; cases o2
   rcases hσ0 j r e1 with ⟨z,_⟩ | hh
   ·exact u1 z
   rcases hσ0 j' r' e2 with ⟨z,_⟩ | hh'
   ·exact u2 z
   refine z4 hh λi y v s0 hh=>w8 hh λh1 h2 h3' h4' hs5 hs6 h5 h6=>z4 hh' λi' y' v' s0' hh'=>w8 hh' λh1' h2' h3'' h4'' hs5' hs6' h5' h6'=>?_
   rw [f1] at h6; cases h6
   rw [f2] at h6'; cases h6'
   have hii:i≠i':=λz=>by
    subst z
    rw [h3'] at h3''; cases h3''
    have a1:j<N'.length:=(Qa.mp h1).1
    exact hne ((List.getElem?_inj a1 hnd).mp (h1.trans h1'.symm))
   subst hs5; subst hs5'
   rw [nc] at o1 o2
   exact S2.sep i i' s0 s0' p hii h4' h4'' o1 o2 h5 h5'
 have howA:∀ (j:Nat) (r:Sl),ρt[j]?=some r->r.owned=true->∃ b,r.adr=some b/\b≠Da:=λj r hj ho=>by
  rcases hσ0 j r hj with ⟨z,_⟩ | hh
  ·subst z; cases ho
  ·refine z4 hh λi y v s0 hh=>w8 hh λh1 h2 h3' h4' hs5 hs6 h5 h6=>?_
   subst hs5
   rw [nc] at ho
   obtain ⟨b,eb⟩:=EI (a:=t y) ho
   refine ⟨b,eb,λz=>?_⟩
   obtain ⟨v',e3,q3⟩:=S1.at_ i s0 h4' hs6
   obtain ⟨p,o,e4,_,e5,_⟩:=q3.qx ho
   subst e4
   have q4:=vz (a:=t y) (λ_=>by rw [ht i y p h3' e3]) q3
   have:=vA eb q4
   rw [this,z,uM] at e5; cases e5
 have hB0:c.B Da=none:=S1.bas.s.free uM
 have fps:∀ {H':Hp},(∀ b∈fp,H' b=none)->∀ b∈fp,eO X' [] H' b:=λhn b hb =>
  ⟨hn b hb,Qu (fplt b hb),okX.exfs b hb,.inl hb,λx a ea=>(hfp b hb).2.2.2.2.1 x a (zz x a ea).1,λp hp=>by cases hp⟩
 have fin:∀ (s':Shared) (σ':L2.St) (H' aj:Hp) (vs:List V) (fq:Fp),Inv X' [] σ' H' s'->aY H1 aM H' aj->H' Da=some (.lst vs)->aj Da=none->ah c.X.K H' aj (os.filterMap id) vs fq->(fq.map (·.1)).Nodup->(∀ b∈fq,H1 b.1=none) ->
  compPost (model c.X.prog c.X.w) c.X.A f6 use QQ (.ref Da) h3.objs.size (.ok .next) s':=λs' σ' H' aj vs fq I' g' hD hfD hr hnd2 hfr2=>by
  obtain ⟨m,hm,_⟩:=I'.loc
  have hCX:h3.objs.size∉c.X.fs:=I3.Lq (PU _)
  have hCf:eO c.X aa H' h3.objs.size:=by
   refine ⟨I'.free,λz=>?_,hCX,.inr I3.sz,λx a ea z=>?_,λp hp z=>?_⟩
   ·obtain ⟨m0,hm0,_⟩:=I3.loc
    obtain ⟨o,_,_,e,_⟩:=hm0
    exact absurd (P1 e) (by rw [<- z]; exact RD _)
   ·obtain ⟨v',oc,e,_⟩:=I3.cell x a ea
    exact absurd (P1 e) (by rw [z]; exact RD _)
   ·exact absurd (P1 (I3.pin p hp).1) (by rw [z]; exact RD _)
  refine kont s' H' aj Da h3.objs.size (os.filterMap id) vs fq hR ⟨m,hm⟩ hCX hCf (g.s.free uM) hD hfD hr hnd2 (λb hb=>g.s.free (hfr2 b hb)) (g.trans g') λh5 sF=>?_
  have ub:Un (frs c.X.stack) fp H2 H' s3.heap h5:=by
   have u:=I'.base
   have ne:∀ b o,s3.heap.get? b=some o->b≠h3.objs.size:=λb o e=>Qu (P1 e)
   refine ⟨λb o e n hf hx=>(sF.2 b (ne b o e)).trans (u.keep b o e n hf hx),λb o e n hf hx=>?_,u.free,λb o e hx=>?_,u.tups,u.frzs,u.tbls⟩
   ·obtain ⟨sl,e2⟩:=u.slot b o e n hf hx
    exact ⟨sl,(sF.2 b (ne b o e)).trans e2⟩
   ·obtain ⟨o',e2⟩:=u.there b o e hx
    exact ⟨o',(sF.2 b (ne b o e)).trans e2⟩
  have hokf:jm c.X.prog c.X.w H' h5:=λb u e=>(I'.hok b u e).stay (λa o ha e2=>by
   refine (sF.2 a ?_).trans e2
   intro z; subst z
   have hfree':H' h3.objs.size=none:=I'.free
   rcases ha with z | z
   ·subst z; rw [hfree'] at e; cases e
   ·rw [hfree'] at z; cases z) (λ_ z=>z) λ_ _ z=>z
  exact I3.GB (ch:=fp) I'.os ub hokf I'.bare λb hb=>⟨(hfp b hb).2.2.2.1,(hfp b hb).2.1,(hfp b hb).2.2.2.2.1,(hfp b hb).2.2.2.2.2⟩
 have loop:codeAny (model c.X.prog c.X.w) c.X.A (.compLoop (.ListComp elt [⟨tg,iter,ifs,0⟩] scope pos) 0 (.ref it) (.ref Da) X'.env) (compPost (model c.X.prog c.X.w) c.X.A f6 use QQ (.ref Da) h3.objs.size) { s2 with heap:=h4,toks:=s2.toks+([]:List (Str×Value)).length }:=by
  refine oB (λn s'=>∃ (i:Nat) (σ':L2.St) (H' aj:Hp) (vs:List V) (fq:Fp),n=ds.length - i/\i<=ds.length/\Inv X' [] σ' H' s'/\tn i s'.heap/\bw c' σ' H' aj ρt/\aY H1 aM H' aj/\H' Da=some (.lst vs)/\aj Da=none/\ah c.X.K H' aj ((os.take i).filterMap id) vs fq/\(fq.map (·.1)).Nodup/\(∀ b∈fq,H1 b.1=none)/\vs.length<=i/\∀ b∈fp,H' b=none) ?_ ds.length
   ⟨0,σ0,H2,aM,[],[],by simp,Qv _,I4,Tn.keep _ _ _ t0 λb hb o e=>k4 b o (k3 b o e),S4,aY.gj g.b uM,ai,g.b.free uM,by simp [ah],List.nodup_nil,(λb hb=>by cases hb),PU _,λb hb=>by show upd H1 Da _ b=none; rw [ak (fpne b hb)]; exact (hfp b hb).1⟩
  refine λn s5 hh=>z5 hh λi σ5 H5 Hf5 vs hh=>hh.elim λfq hh=>w6 hh λen hi I5 t5 S5 hh=>w6 hh λg5 hD5 hfD5 hr5 hnd5 hh=>w3 hh λhfr5 hlv fr5=>?_
  subst en
  by_cases hlt:i<ds.length
  ·have ed:ds[i]?=some ds[i]:=Qo hlt
   have eo:os[i]?=some (os[i]'(by rw [hol]; exact hlt)):=Qo _
   generalize ds[i]=d at ed
   generalize os[i]'(by rw [hol]; exact hlt)=o at eo
   obtain ⟨hgo,hy⟩:=io.go i d H5 Hf5 g5.f g5.b ed
   refine bz (Tn.item X' rfl rfl rfl rfl i [] s5 σ5 H5 f6 I5 (fps fr5) t5 hgo) λr s6 hh=>hh.elim λu hh=>w2 hh λhr h6=>?_
   subst hr
   refine bz h6 λ_ s7 hh=>z2 hh λx H7 hh=>w5 hh λI7 rx y7 t7 fr7=>?_
   obtain ⟨Hf7,g7,rx7⟩:=hy x H7 y7
   have I7':=I7.pinned (fps fr7) (Tn.obj _ _ t7)
   have S7:bw c' σ5 H7 Hf7 ρt:=S5.cA g7
   have hasg0:=hb c' rfl t i d o ed eo
   rw [hρ] at hasg0
   have hasg:=hasg0 σ5 H7 Hf7 x (λσ2 H2'=>∃ cD ρ1,bw c' σ2 H2' cD ρ1/\aY H7 Hf7 H2' cD/\A3 ρt ρ1/\jX c' ifs ρ1 (mq (cN c' elt ρ1 λr=>∃ z,o=some z/\r.sh=some z) (o=none))) S7 rx7 (λσ2 H2' cD ρ1 S' g' hw=>⟨cD,ρ1,S',g',hw⟩) _ s7 u I7' rx
   refine bz (show wpAny _ _ _ _ f6 _ from hasg) λ_ s8 hh=>z2 hh λσ8 H8 hh=>w2 hh λI8 hh=>z2 hh λHf8 ρ8 hh=>w4 hh λS8 g8 w8 hC8=>?_
   refine bz (m9 (c:=c') rfl ifs S8 hC8 (Q:=λb H'=>∃ aj,mq (cN c' elt ρ8 λr=>∃ z,o=some z/\r.sh=some z) (o=none) b/\aY H8 Hf8 H' aj) (λb H' aj hb' g'=>⟨aj,hb',g'⟩) I8) λb s9 hh=>hh.elim λH9 hh=>w2 hh λI9 hh=>hh.elim λHf9 hh=>w2 hh λhb9 g9=>?_
   have g79:=(g7.trans g8).trans g9
   have hD9:H9 Da=some (.lst vs):=g79.s _ _ hD5
   have hfD9:Hf9 Da=none:=g79.n Da hfD5 (by rw [hD5]; simp) (by intro ys; rw [hD5]; simp)
   have keepT:∀ {σ':L2.St} {H':Hp} {s':Shared},Inv X' ([]++jq fp s7.heap) σ' H' s'->tn (i+1) s'.heap/\∀ b∈fp,H' b=none:=λ{σ' H' s'} I' =>
    ⟨Tn.keep _ _ _ t7 λb hb' ob e=>(I'.pin (b,ob) (QH _ (QH _ (dW hb' e)))).1,λb hb'=>by
      obtain ⟨ob,e,_⟩:=Tn.obj _ _ t7 b hb'
      exact (I'.pin (b,ob) (QH _ (QH _ (dW hb' e)))).2.1⟩
   have wk:∀ {σ':L2.St} {H' aj:Hp},bw c' σ' H' aj ρ8->bw c' σ' H' aj ρt:=λS'=>dB.weak S' w8.weak.1 w8.weak.2
   have tk:(os.take (i+1)).filterMap id=(os.take i).filterMap id++o.toList:=by
    rw [UX,eo,List.filterMap_append]
    cases o <;> rfl
   cases b with
   | false =>
    have eo':=hb9.f rfl
    subst eo'
    rw [if_neg P5]
    obtain ⟨t9,fr9⟩:=keepT I9
    have hr9:ah c.X.K H9 Hf9 ((os.take i).filterMap id) vs fq:=ah.mv g79.f _ (λa _ e1 e2=>⟨g79.s _ _ e1,g79.n a.1 e2 (by rw [e1]; simp) (by intro ys z; rw [e1] at z; cases z)⟩) hr5
    exact ⟨_,Nat.sub_lt_sub_left hlt (SA i),i+1,σ8,H9,Hf9,vs,fq,rfl,hlt,I9.fh,t9,wk (S8.cA g9),g5.trans g79,hD9,hfD9,by rw [tk]; simpa using hr9,hnd5,hfr5,Nat.le_succ_of_le hlv,fr9⟩
   | true =>
    rw [if_pos rfl]
    have hev:=hb9.t rfl σ8 H9 Hf9 (λv H'=>∃ aj r,(∃ z,o=some z/\r.sh=some z)/\aW c.X.K (λp=>H9 p=none) H' aj r v/\aY H9 Hf9 H' aj) (S8.cA g9) (λr v H' aj he r' g'=>⟨aj,r,he,r',g'⟩) _ s9 I9
    refine bz (show wpAny _ _ _ _ f6 _ from hev) λu2 s10 hh=>z2 hh λv2 H10 hh=>w3 hh λI10 r10 hh=>z2 hh λHf10 r hh=>w3 hh λeo0 re g10=>?_
    obtain ⟨z,rfl,eo'⟩:=eo0
    obtain ⟨f1,rf1,nd1,fr1⟩:=A4 eo' re
    have z1:=aG.fz z rf1
    have z0:=ah.fz _ hr5
    have g510:=g79.trans g10
    have hr10:ah c.X.K H10 Hf10 ((os.take i).filterMap id) vs fq:=ah.mv g510.f _ (λa _ e1 e2=>⟨g510.s _ _ e1,g510.n a.1 e2 (by rw [e1]; simp) (by intro ys z; rw [e1] at z; cases z)⟩) hr5
    have hD10:H10 Da=some (.lst vs):=g10.s _ _ hD9
    have hfD10:Hf10 Da=none:=g10.n Da hfD9 (by rw [hD9]; simp) (by intro ys; rw [hD9]; simp)
    have app:=mW (X:=X') _ s10 σ8 H10 (.ref Da) [v2] (.ref Da) [u2] (λ_ H'=>H'=upd H10 Da (.lst (vs++[v2]))) I10 rfl (.cons r10 .nil) ⟨Da,vs,v2,rfl,rfl,hD10,QJ (RN hlv hlt) hz,rfl⟩
    refine bz (show wpAny _ _ _ _ f6 _ from app) λ_ s11 ⟨_,H11,I11,_,e11⟩=>?_
    subst e11
    obtain ⟨t11,fr11⟩:=keepT I11
    have S10:bw c' σ8 H10 Hf10 ρ8:=(S8.cA g9).cA g10
    have gA:aY H1 aM (upd H10 Da (.lst (vs++[v2]))) Hf10:=kg ((g5.trans g79).trans g10) uM hfD10
    refine ⟨_,Nat.sub_lt_sub_left hlt (SA i),i+1,σ8,_,Hf10,vs++[v2],fq++f1,rfl,hlt,I11.fh,t11,?_,gA,ai,hfD10,?_,?_,?_,by rw [QE]; exact U0 hlv,fr11⟩
    ·refine (wk S10).apart hB0 hfD10 (λ⟨_,z⟩=>by rw [hD10] at z; cases z) λj r hj ho=>λz=>?_
     obtain ⟨b,eb,nb⟩:=howA j r hj ho
     obtain ⟨v',e3,q3⟩:=(wk S10).at_ j r hj (by rintro rfl; cases ho)
     rw [z] at e3; cases e3
     exact nb (vA eb q3).symm
    ·rw [tk]
     refine ah.mv (.refl _) _ (λa ha e1 e2=>⟨?_,e2⟩) (ah.snoc rf1 hr10)
     rw [ak λz=>by rw [z,hD10] at e1; cases e1]; exact e1
    ·rw [Qs,Tr]
     refine ⟨hnd5,nd1,λa ha b hb z=>?_⟩
     subst z
     obtain ⟨p,hp,ep⟩:=Qe.mp ha
     obtain ⟨q,hq',eq⟩:=Qe.mp hb
     have e1:=g79.s _ _ (z0 p hp).1
     have e2:=fr1 q hq'
     rw [eq,<- ep,e1] at e2; cases e2
    ·intro b hb
     rcases Qq.mp hb with hb | hb
     ·exact hfr5 b hb
     ·exact (g5.trans g79).s.free (fr1 b hb)
  ·have e:i=ds.length:=Nat.le_antisymm hi (Nat.le_of_not_lt hlt)
   subst e
   refine bz (Tn.done X' rfl rfl rfl rfl ds.length [] s5 σ5 H5 f6 I5 (fps fr5) t5 (io.stop _ H5 Hf5 g5.f g5.b (PU _))) λr s6 ⟨hr,I6⟩=>?_
   subst hr
   refine fin s6 σ5 H5 Hf5 vs fq I6 g5 hD5 hfD5 ?_ hnd5 hfr5
   rw [R6 (by rw [hol]; exact PU _)] at hr5
   exact hr5
 exact codeAny_compStart_list loop (Tn.self _ 0 _ _ _ (Tn.keep _ _ _ t0 λb hb o e=>k4 b o (k3 b o e)) loop)
theorem vD:∀ {ds:List D} {vs:List V} {fq:Fp},ah K H Hf (ds.map .v) vs fq->aq K Hf ds vs
 | [],_,_,h=>by simp only [RT,ah] at h; exact aC.mpr h.1
 | d::ds,_,_,h=>by
  simp only [PZ,ah,aG] at h
  obtain ⟨x,r,f1,f2,rfl,h1,h2,-⟩:=h
  exact aq.cons h1.1 (vD h2)
theorem Jj:∀ os:List (Option D),(os.map (Option.map Sh.v)).filterMap id=(os.filterMap id).map Sh.v
 | []=>rfl
 | none::os=>Jj os
 | some d::os=>congrArg (Sh.v d:: ·) (Jj os)
theorem jX.imp (h:∀ b,T b->T' b):∀ {ifs:List Expr} {ρ:List Sl},jX c ifs ρ T->jX c ifs ρ T'
 | [],_,q=>h _ q
 | _::_,_,q=>λσ H Hf Q S z=>q σ H Hf Q S λb H' aj hb g=>z b H' aj ⟨λe=>jX.imp h (hb.t e),λe=>h _ (hb.f e)⟩ g
theorem A5 (h:qC c tg ifs elt ρ0 d o):vB c tg ifs elt ρ0 d (o.map .v):=λσ H Hf v Q S r q=>h σ H Hf v Q S r λσ' H' aj ρ' S' g hw=>q σ' H' aj ρ' S' g ⟨hw.1,jX.imp (λb hb=>⟨λe=>λσ2 H2 cD Q2 S2 q2=>hb.t e σ2 H2 cD Q2 S2 λd2 v2 H3 Hf3 ed rv g3=>q2 (.va d2) v2 H3 Hf3 ⟨.v d2,by rw [ed]; rfl,rfl⟩ rv g3,λe=>by rw [hb.f e]; rfl⟩) hw.2⟩
theorem vE {elt tg iter:Expr} {ifs:List Expr} {scope:Scope} {N':List Str} {ρ0:(Str->Addr)->List Sl} {R:Sl->Prop} (hq:c.X.xe=f6) (hfr:∀ t,tG t scope.names N ρ N' (ρ0 t))
 (h:xU c tg iter ρ λds=>Sd (ds.length<=sizeLine) (∃ os:List (Option D),os.length=ds.length /\
   (∀ c':Ctx P w K mg base k N' (bK scope sc) true,c'.X.xe=f6->∀ (t:Str->Addr) (i:Nat) (d:D) (o:Option D),ds[i]?=some d->os[i]?=some o->qC c' tg ifs elt (ρ0 t) d o)/\R (.ow (os.filterMap id))))
 (hcp:Li scope sc N':=by decide +kernel)
 (hs:∀ env v,foldedSetIterable iter env v=pure v:=by intro _ _; walk_at "u")
 {σ:L2.St} {H Hf:Hp} (S:bw c σ H Hf ρ) {aa:List (Addr×Obj)} {s:Shared} (I:Inv c.X aa σ H s) {use:Option (Value->Sem Unit)} {QQ:Value->Shared->Prop}
 (kont:∀ (s':Shared) (H' aj:Hp) (a C:Addr) (r:Sl),R r->(∃ m,s'.heap.Ns C m)->C∉c.X.fs->eO c.X aa H' C->aW c.X.K (λp=>H p=none) H' aj r (.ref a)->aY H Hf H' aj->(∀ h5,Rk C s'.heap h5->Inv c.X aa σ H' { s' with heap:=h5 })->compPost (model c.X.prog c.X.w) c.X.A f6 use QQ (.ref a) C (.ok .next) s') :
 wpAny (model c.X.prog c.X.w) c.X.A (comprehension (.ListComp elt [⟨tg,iter,ifs,0⟩] scope pos) scope c.X.env (firstIterPos [⟨tg,iter,ifs,0⟩] pos) (newList []) (firstAsync [⟨tg,iter,ifs,0⟩]) (firstIter [⟨tg,iter,ifs,0⟩] c.X.env) use) QQ f6 s:=by
 refine vC (R:=λss=>∃ os:List D,ss=os.map .v/\R (.ow os)) hq hfr (λσ' H' aj Q S' q=>h σ' H' aj Q S' λds J H1 aM hd=>q ds J H1 aM ⟨hd.1,hd.2.elim λos ho=>⟨os.map (Option.map .v),by rw [P0]; exact ho.1,λc' hc t i d o e1 e2=>?_,os.filterMap id,?_,ho.2.2⟩⟩) hcp hs S I λs' H' aj a C ss vs fq hR hC1 hC2 zw ha h1 h2 r nd fr g hJ=>?_
 ·rw [P6,Qc] at e2
  obtain ⟨o',e3,rfl⟩:=e2
  exact A5 (ho.2.1 c' hc t i d o' e1 e3)
 ·exact Jj os
 ·obtain ⟨os,rfl,hR⟩:=hR
  exact kont s' H' aj a C (.ow os) hR hC1 hC2 zw ⟨a,vs,rfl,ha,h1,h2,vD r⟩ g hJ
theorem dJ {elt tg iter:Expr} {ifs:List Expr} {scope:Scope} {N':List Str} {ρ0:(Str->Addr)->List Sl} {R:Sl->Prop} (hq:c.X.xe=f6) (hfr:∀ t,tG t scope.names N ρ N' (ρ0 t))
 (h:xU c tg iter ρ λds=>Sd (ds.length<=sizeLine) (∃ os:List (Option D),os.length=ds.length /\
   (∀ c':Ctx P w K mg base k N' (bK scope sc) true,c'.X.xe=f6->∀ (t:Str->Addr) (i:Nat) (d:D) (o:Option D),ds[i]?=some d->os[i]?=some o->qC c' tg ifs elt (ρ0 t) d o)/\R (.ow (os.filterMap id))))
 (hcp:Li scope sc N':=by decide +kernel)
 (hs:∀ env v,foldedSetIterable iter env v=pure v:=by intro _ _; walk_at "u"):cN c (.ListComp elt [⟨tg,iter,ifs,0⟩] scope pos) ρ R:=λσ H Hf Q S q aa s I=>by
 rw [hq]
 rw [show (eval (.ListComp elt [⟨tg,iter,ifs,0⟩] scope pos) c.X.env)=comprehension (.ListComp elt [⟨tg,iter,ifs,0⟩] scope pos) scope c.X.env (firstIterPos [⟨tg,iter,ifs,0⟩] pos) (newList []) (firstAsync [⟨tg,iter,ifs,0⟩]) (firstIter [⟨tg,iter,ifs,0⟩] c.X.env) from rfl]
 exact vE hq hfr h hcp hs S I λs' H' aj a C r hr ⟨m,hm⟩ _ _ hrep g hJ=>⟨m,hm,λh5 sF=>⟨.ref a,H',hJ h5 sF,rfl,q r _ H' aj hr hrep g⟩⟩
theorem oE:Rk a h h:=⟨rfl,λ_ _=>rfl⟩
theorem EJ (I:Inv X aa σ H s) (hC:eO X aa H C) (hsb:Rk C s.heap h5):Inv X aa σ H { s with heap:=h5 }:=by
 refine I.GB (ch:=[C]) rfl ⟨λb o e _ _ hx=>?_,λb o e _ _ hx=>⟨o.slots,?_⟩,λb o e n _=>n,λb o e hx=>⟨o,?_⟩,λb xs e=>e,λb o u e=>e,λb ps e=>⟨#[],by simpa using e⟩⟩ (λb u e=>(I.hok b u e).stay (λa o ha e2=>?_) (λ_ z=>z) λ_ _ z=>z) I.bare λb hb=>?_
 ·exact (hsb.2 b (λz=>hx (by rw [z]; exact P4))).trans e
 ·exact (hsb.2 b (λz=>hx (by rw [z]; exact P4))).trans e
 ·exact (hsb.2 b (λz=>hx (by rw [z]; exact P4))).trans e
 ·refine (hsb.2 a ?_).trans e2
  intro z; subst z
  rcases ha with z | z
  ·subst z; rw [hC.1] at e; cases e
  ·rw [hC.1] at z; cases z
 ·have:b=C:=by simpa using hb
  subst this
  exact ⟨hC.2.2.2.1,hC.2.1,hC.2.2.2.2.1,hC.2.2.2.2.2⟩
theorem A6 {elt tg iter:Expr} {ifs:List Expr} {scope:Scope} {N':List Str} {ρ0:(Str->Addr)->List Sl} {nx:List Sl->Prop} {p:Pt} {x:Str} {pos2 posA:Pos} {i:Nat} (hN:At N i x) (hq:c.X.xe=f6) (hfr:∀ t,tG t scope.names N ρ N' (ρ0 t))
 (h:xU c tg iter ρ λds=>Sd (ds.length<=sizeLine) (∃ os:List (Option D),os.length=ds.length /\
   (∀ c':Ctx P w K mg base k N' (bK scope sc) true,c'.X.xe=f6->∀ (t:Str->Addr) (i:Nat) (d:D) (o:Option D),ds[i]?=some d->os[i]?=some o->qC c' tg ifs elt (ρ0 t) d o)/\Nx ρ i nx (.ow (os.filterMap id))))
 (hsw:(pos2.line == pos.line && !scope.names.any λ(n,k)=>n == x && (k == NameKind.local || k == NameKind.cell))=true:=by decide +kernel) (hl:sc.names.lookup x=some .local:=by walk_at "u")
 (hcp:Li scope sc N':=by decide +kernel)
 (hs:∀ env v,foldedSetIterable iter env v=pure v:=by intro _ _; walk_at "u"):eU c (.Assign [.Name x pos2] (.ListComp elt [⟨tg,iter,ifs,0⟩] scope pos) posA) ρ nx p:=λσ H Hf D S o aa s I=>by
 have hsw':swapsWith (.ListComp elt [⟨tg,iter,ifs,0⟩] scope pos) (some (.Name x pos2)) posA.line c.X.env=pure true:=by
  have e1:c.X.env.blockKind=.function:=by unfold Env.blockKind; rw [show c.X.env.scope.kind=.function from I.ok.kind]; rfl
  have e2:c.X.env.kindOf x=some .local:=by unfold Qx; rw [c.esc]; exact hl
  show pure (c.X.env.blockKind == ScopeKind.function && c.X.env.kindOf x == some NameKind.local && pos2.line == pos.line && !scope.names.any λ(n,k)=>n == x && (k == NameKind.local || k == NameKind.cell))=pure true
  rw [e1,e2]; exact congrArg pure hsw
 rw [hq,exec_Assign_Name_used x pos2 _ posA hsw']
 refine PK (wpAny_standAt ?_)
 refine PK ?_
 rw [show (evalThenUse (.ListComp elt [⟨tg,iter,ifs,0⟩] scope pos) c.X.env (assign (.Name x pos2) c.X.env))=(do let _ <- comprehension (.ListComp elt [⟨tg,iter,ifs,0⟩] scope pos) scope c.X.env (firstIterPos [⟨tg,iter,ifs,0⟩] pos) (newList []) (firstAsync [⟨tg,iter,ifs,0⟩]) (firstIter [⟨tg,iter,ifs,0⟩] c.X.env) (some (assign (.Name x pos2) c.X.env)); pure ()) from rfl]
 refine PK (vE hq hfr h hcp hs S I λs' H' aj a C r hr ⟨m,hm⟩ hCX hCf hrep g hJ=>?_)
 have J:=hJ s'.heap oE
 obtain ⟨oC,es,ep,e1,e2,e3,e4⟩:=hm
 have fps:∀ b∈[C],eO c.X aa H' b:=λb hb=>by rw [Qg.mp hb]; exact hCf
 have hob:∀ b∈[C],∃ o,s'.heap.get? b=some o/\∀ v:Option Value,o.data≠.cell v:=λb hb=>by
  rw [Qg.mp hb]; exact ⟨oC,e1,λv z=>by rw [e2] at z; cases z⟩
 have J2:=J.pinned fps hob
 have hmem:(C,oC)∈jq [C] s'.heap:=dW P4 e1
 obtain ⟨ρ',hset,hx⟩:=hr
 have st:=Aj (nX (X:=c.X) (i:=i) (pos:=pos2) (by rw [c.eN]; exact c.nd) (by rw [c.eN]; exact hN.get) (by rw [c.esc]; exact c.vis x hN.mem) (c.fn x (.inr hl))) (v:=.ref a) (σ:=σ) (H:=H') (Q:=λσ' H''=>D.nx σ' H'') (o.nx _ H' aj _ (hset.eq ▸ S.set g hrep) hx) _ s' (.ref a) J2 rfl
 rw [hq] at st
 refine bz st λ_ s'' ⟨σ',H'',I'',dn⟩=>?_
 have pC:=I''.pin (C,oC) (QH _ (QH _ hmem))
 refine ⟨m,⟨oC,es,ep,pC.1,e2,e3,e4⟩,λh' hsb=>?_⟩
 have I3:Inv c.X aa σ' H'' s'':=I''.fh
 have I4:=EJ I3 (C:=C) ⟨pC.2.1,hCf.2⟩ hsb
 exact PR (PR ⟨_,_,I4,dn⟩)
end
mutual
def D.nl:D->Prop
 | .lst _=>False
 | .fdK _ _=>False
 | .fdT _ _=>False
 | .tup ds=>D.kh ds
 | _=>True
def D.kh:List D->Prop
 | []=>True
 | d::ds=>d.nl/\D.kh ds
end
theorem vF:∀ {ds:List D},D.kh ds↔∀ d∈ds,d.nl
 | []=>by simp [D.kh]
 | d::ds=>by simp [D.kh,vF (ds:=ds)]
theorem cJ {α:Type} {f:α->D} {l:List α} (h:∀ x∈l,(f x).nl):D.kh (l.map f):=vF.mpr λd hd=>by
 obtain ⟨x,hx,rfl⟩:=Qe.mp hd
 exact h x hx
theorem kZ:(D.int i).nl:=by simp [D.nl]
theorem EK (l:List Int):D.kh (l.map D.int):=cJ λx _=>kZ
theorem tH (h:D.kh ds):(D.tup ds).nl:=by simpa [D.nl] using h
noncomputable def HO.mt:HO->Prop | .lst _=>True | .dK _=>True | .dT _=>True | _=>False
theorem xZ {K:PN} (hp:Hf p=some o) (hm:HO.mt o) (h:cU K Hf a xs):cU K (del Hf p) a xs:=by
 rcases h with (h | ⟨o',h⟩) | h
 ·exact .inl (.inl (by rw [cz (by rintro rfl; rw [hp] at h; cases h; exact hm)]; exact h))
 ·exact .inl (.inr ⟨o',by rw [cz (by rintro rfl; rw [hp] at h; cases h; exact hm)]; exact h⟩)
 ·exact .inr h
mutual
theorem tK {K:PN} {Hf:Hp} {p:Addr} {o:HO} (hp:Hf p=some o) (hm:HO.mt o):∀ (d:D) {v:V},d.nl->Rep K Hf d v->Rep K (del Hf p) d v
 | .non,_,_,h=>by simpa [Rep] using h
 | .bl _,_,_,h=>by simpa [Rep] using h
 | .int _,_,_,h=>by simpa [Rep] using h
 | .str _,_,_,h=>by simpa [Rep] using h
 | .adr _,_,_,h=>by simpa [Rep] using h
 | .tup ds,v,f,h=>by
  simp only [Rep] at h |-
  obtain ⟨a,xs,e,h1,h2⟩:=h
  exact ⟨a,xs,e,xZ hp hm h1,oF hp hm ds (by simpa [D.nl] using f) h2⟩
 | .lst _,_,f,_=>by simp [D.nl] at f
 | .fdK _ _,_,f,_=>by simp [D.nl] at f
 | .fdT _ _,_,f,_=>by simp [D.nl] at f
 | .exc C,_,_,h=>by
  simp only [Rep] at h |-
  obtain ⟨a,e,h⟩:=h
  exact ⟨a,e,by rw [cz (by rintro rfl; rw [hp] at h; cases h; exact hm)]; exact h⟩
theorem oF {K:PN} {Hf:Hp} {p:Addr} {o:HO} (hp:Hf p=some o) (hm:HO.mt o):∀ (ds:List D) {xs:List V},D.kh ds->aq K Hf ds xs->aq K (del Hf p) ds xs
 | [],_,_,h=>by simpa [aq] using h
 | d::ds,xs,f,h=>by
  simp only [aq] at h |-
  simp only [D.kh] at f
  obtain ⟨x,r,e,h1,h2⟩:=h
  exact ⟨x,r,e,tK hp hm d f.1 h1,oF hp hm ds f.2 h2⟩
end
noncomputable def Sl.nl:Sl->Prop
 | .va d=>d.nl
 | .ow ds=>D.kh ds
 | _=>False
theorem aW.ON {K:PN} {H H' aj:Hp} (hp:aj p=some oz) (hm:HO.mt oz) (h0:H p=some o) (f:r.nl) (h:aW K (λp=>H p=none) H' aj r v):aW K (λp=>H p=none) H' (del aj p) r v:=by
 cases r with
 | va d=>exact tK hp hm d f h
 | ow ds =>
  obtain ⟨q,xs,rfl,fq,h1,h2,h3⟩:=h
  refine ⟨q,xs,rfl,fq,h1,?_,oF hp hm ds f h3⟩
  rw [cz (by rintro rfl; rw [h0] at fq; cases fq)]; exact h2
 | _=>exact f.elim
section
variable {P:Program} {w:World} {K:PN} {mg:Str->Option Value} {base:Heap} {k:Nat} {N:List Str} {sc:Scope} {bk:Bool} {c:Ctx P w K mg base k N sc bk} {ρ ρ':List Sl} {pos ap cp px tp:Pos} {a b e f:Expr} {es:List Expr} {R:D->Prop} {T:Bool->Prop} {nx:List Sl->Prop} {p:Pt} {x:Str} {i:Nat} {r:Sl} {ds:List D}
noncomputable def Sl.mz:Sl->Option D
 | .ow ds=>some (.lst ds) | .aw _ ds=>some (.lst ds)
 | _=>none
theorem k9 (h:r.mz=some d):r.owned=true:=by cases r <;> first | rfl | cases h
theorem iY {κ:Type} {Hf:Hp} {kvs:List (κ×D)} {xs:List (κ×V)} (h:l0 K Hf kvs xs):xs.map (·.1)=kvs.map (·.1)/\aq K Hf (kvs.map (·.2)) (xs.map (·.2)):=by
 unfold l0 at h
 induction h with
 | nil=>exact ⟨rfl,aC.mpr rfl⟩
 | cons h t ih=>exact ⟨by rw [PZ,PZ,ih.1,h.1],.cons h.2 ih.2⟩
theorem fE (h:kP K Hf kvs xs):xs.map (·.1)=kvs.map (·.1)/\(∀ y∈xs,cU K Hf y.2.1 (y.1.map kV))/\aq K Hf (kvs.map (·.2)) (xs.map (·.2.2)):=by
 refine ⟨?_,h.A2,?_⟩
 ·unfold kP at h
  induction h with
  | nil=>rfl
  | cons h t ih=>rw [PZ,PZ,ih,h.1]
 ·unfold kP at h
  induction h with
  | nil=>exact aC.mpr rfl
  | cons h t ih=>exact .cons h.2.2 ih
theorem aW.mz (h:r.mz=some d) (q:aW K fr H Hf r v):∃ p o,v=.ref p/\fr p/\H p=some o/\Hf p=none/\HO.mt o/\Rep K (upd Hf p o) d v:=by
 have sf:∀ {p:Addr} {o:HO},Hf p=none->aL Hf (upd Hf p o):=λhp b u e=>by rw [ak (aE e hp)]; exact e
 cases r with
 | ow ds=>cases h; obtain ⟨p,xs,rfl,f,h1,h2,h3⟩:=q; exact ⟨p,_,rfl,f,h1,h2,trivial,aX.mpr ⟨p,xs,rfl,.inl (.inl ai),h3.mono (sf h2)⟩⟩
 | aw a ds=>cases h; obtain ⟨p,xs,rfl,f,h1,h2,h3⟩:=q; exact ⟨p,_,rfl,f.1,h1,h2,trivial,aX.mpr ⟨p,xs,rfl,.inl (.inl ai),h3.mono (sf h2)⟩⟩
 | _=>cases h
theorem dB.ki (S:dB K H₀ dR σ H Hf ρ) (h:ρ[i]?=some r) (hr:r.mz=some d) :
 ∃ q o,H q=some o/\Hf q=none/\HO.mt o/\dB K H₀ dR σ H (L2.upd Hf q o) (ρ.set i (.va d)):=by
 obtain ⟨q,ev,rq⟩:=S.own h (k9 hr)
 obtain ⟨_,o,e0,fq,hq,sI,hm,rd⟩:=rq.mz hr
 cases e0
 have hi:i<ρ.length:=(Qa.mp h).1
 have hown:=k9 hr
 have sf:aL Hf (L2.upd Hf q o):=λb u e=>by rw [L2.ak (aE e sI)]; exact e
 have sb:aL (L2.upd Hf q o) H:=λb u e=>by
  by_cases z:b=q
  ·subst z; rw [L2.ai] at e; rw [hq]; exact e
  ·rw [L2.ak z] at e; exact S.sb b u e
 refine ⟨q,o,hq,sI,hm,⟨S.bas.s,S.bas.f.trans sf,sb,λb h1 h2 h3=>?_⟩,by simp [S.len],λj r' hj hu=>?_,λj j' r1 r2 q' hne h1 h2 o1 o2=>?_⟩
 ·have e:=S.bas.n b h1 h2 h3
  by_cases z:b=q
  ·subst z; exact absurd fq h2
  ·rw [L2.ak z]; exact e
 ·by_cases z:j=i
  ·subst z
   rw [Rh hi] at hj
   cases hj
   exact ⟨_,ev,rd⟩
  ·rw [Ri (Qp z)] at hj
   obtain ⟨v,e1,e2⟩:=S.at_ j r' hj hu
   refine ⟨v,e1,?_⟩
   have key:r'.owned=true->v≠.ref q:=λho z=>by
    subst z
    exact S.sep i j _ _ q (Qp ‹_›) h hj hown ho ev e1
   exact aW.mv (B:=λz=>z=q) sf (λz u hz e1 _ e3=>⟨e1,by rw [L2.ak hz]; exact e3⟩) (by rintro _ z rfl ⟨ys,e9⟩; rw [hq] at e9; cases e9; exact hm) (λho z e=>by rintro rfl; exact key ho e) e2
 ·have out:∀ {j:Nat} {r:Sl},(ρ.set i (.va d))[j]?=some r->r.owned=true->ρ[j]?=some r:=λ{j r} hj ho=>by
   by_cases z:j=i
   ·subst z; rw [Rh hi] at hj; cases hj; cases ho
   ·rw [Ri (Qp z)] at hj; exact hj
  exact S.sep j j' r1 r2 q' hne (out h1 o1) (out h2 o2) o1 o2
theorem qD (sb:aL Hf H) (hq:H q=some o) (sI:Hf q=none) (g:aY H (upd Hf q o) H' aj):aY H Hf H' (del aj q) :=
 ⟨g.s,λb o e=>by rw [cz (aE e sI)]; exact g.f b o (by rw [ak (aE e sI)]; exact e),λb o e=>by obtain ⟨_,e2⟩:=iV e; exact g.b b o e2,λb h1 h2 h3=>by
   by_cases z:b=q
   ·subst z; exact iU
   ·rw [cz z]; exact g.n b (by rw [ak z]; exact h1) h2 h3⟩
theorem Mq (i) (hi:At ρ i r) (hr:r.mz=some d0) (hs:SSet ρ i (.va d0) ρ') (h:aJ c e ρ' λd=>Sd d.nl (R d)):aJ c e ρ R:=λσ H Hf Q S q=>by
 obtain ⟨a,o,ha,zA,hm,S1⟩:=S.ki hi.get hr
 rw [<- hs.eq] at S1
 exact h σ H _ Q S1 λd v H' aj ⟨fl,rd⟩ rv g=>q d v H' _ rd (tK (g.f a _ ai) hm d fl rv) (qD S.sb ha zA g)
theorem qE (i) {R:Sl->Prop} (hi:At ρ i r) (hr:r.mz=some d0) (hs:SSet ρ i (.va d0) ρ') (h:cN c e ρ' λd=>Sd d.nl (R d)):cN c e ρ R:=λσ H Hf Q S q=>by
 obtain ⟨a,o,ha,zA,hm,S1⟩:=S.ki hi.get hr
 rw [<- hs.eq] at S1
 exact h σ H _ Q S1 λd v H' aj ⟨fl,rd⟩ rv g=>q d v H' _ rd (rv.ON (g.f a _ ai) hm ha fl) (qD S.sb ha zA g)
theorem dM {st:List Stmt} (i) (hi:At ρ i r) (hr:r.mz=some d0) (hs:SSet ρ i (.va d0) ρ') (h:aI c st ρ' nx p):aI c st ρ nx p:=λσ H Hf D S o=>by
 obtain ⟨a,ob,ha,zA,hm,S1⟩:=S.ki hi.get hr
 rw [<- hs.eq] at S1
 exact h σ H _ D S1 o
theorem Mr {st:Stmt} (i) (hi:At ρ i r) (hr:r.mz=some d0) (hs:SSet ρ i (.va d0) ρ') (h:eU c st ρ' nx p):eU c st ρ nx p:=λσ H Hf D S o=>by
 obtain ⟨a,ob,ha,zA,hm,S1⟩:=S.ki hi.get hr
 rw [<- hs.eq] at S1
 exact h σ H _ D S1 o
theorem Mt (hN:At N i x) (hi:At ρ i r) (hr:r.mz=some (.lst ds)) (hs:SSet ρ i (.va (.lst ds)) ρ') (h:aJ c b ρ' λy=>Sd y.nl (∃ j d,y=.int j/\jM ds j=some d/\Sd d.nl (R d))) (hx:At ρ' i (.va (.lst ds)))
 (hd:(x == ("__debug__":Str))=false:=by decide) (hcd:(x == ("__classdict__":Str))=false:=by decide) (hp:j7 b:=by with_unfolding_all exact λ_ _=>rfl):aJ c (.Subscript (.Name x p2) b pos) ρ R :=
 Mq i hi hr hs (Mm (u0 hN hx (h.imp λy ⟨_,j,d,e1,e2,e3⟩=>⟨ds,j,d,rfl,e1,e2,e3⟩) hd hcd) hp)
end
end EV
set_option maxHeartbeats 0
namespace EV
open PySem PySem.Spec PyProof.Rows L2
section
variable {P:Program} {w:World} {K:PN} {mg:Str->Option Value} {base h:Heap}
def aD (K:PN) (mg:Str->Option Value) (x:Str) (st:Stmt):Prop:=∃ f fd,mg x=some (.ref f)/\eS K x x st f fd
theorem Jk {st:Stmt} {kV doc pm cdv ct:Value} (KX:K.In h) (G:h.Ns mainGlobals mg) (a:Q3 K mainGlobals x=some (some (.ref f)))
 (l:K.lookup f=some ⟨oc,od,.func (RS x x (eV st) (ay st) (aQ st) .none kV doc pm an cdv ct),osl⟩) (c:Ve K cdv x=true) (k:RI K (.ref f)=true):aD K mg x st :=
 ⟨f,_,PySem.W.mg_of KX G a,IM l c k⟩
theorem Jl (e:(t == Rg T)=false) (m:PySem.W.kitMeta T=true) (s:PySem.W.subIn K t (.type T)=some b):Rq K t (.type T)=some b:=by
 unfold Rq PySem.W.kitCls
 simp [e,m,s]
theorem lg (e:(t == t)=true):Rq K t t=some true:=by
 unfold Rq
 simp [e]
structure Txt (K:PN) (mg:Str->Option Value):Prop where
 abs:mg "abs"=none
 len:mg "len"=none
 isin:mg "isinstance"=none
 range:mg "range"=none
 int:mg "int"=none
 bool:mg "bool"=none
 tuple:mg "tuple"=none
 list:mg "list"=none
 max:mg "max"=none
 min:mg "min"=none
 sum:mg "sum"=none
 sorted:mg "sorted"=none
 zip:mg "zip"=none
 enum:mg "enumerate"=none
 all:mg "all"=none
 any:mg "any"=none
 dict:mg "dict"=none
 ib:Rq K (.type "int") (.type "bool")=some false
theorem Txt.Mu (T:Txt K mg):iR mg "int" (.type "int"):=.inr ⟨_,rfl,T.int,by decide +kernel,by decide +kernel⟩
theorem Txt.Jm (T:Txt K mg):iR mg "bool" (.type "bool"):=.inr ⟨_,rfl,T.bool,by decide +kernel,by decide +kernel⟩
theorem Txt.EL (T:Txt K mg):iR mg "tuple" (.type "tuple"):=.inr ⟨_,rfl,T.tuple,by decide +kernel,by decide +kernel⟩
theorem Txt.Jo (T:Txt K mg):iR mg "list" (.type "list"):=.inr ⟨_,rfl,T.list,by decide +kernel,by decide +kernel⟩
theorem Jp:Rq K (.type "int") (.type "int")=some true:=lg (by decide)
theorem Jq:Rq K (.type "tuple") (.type "tuple")=some true:=lg (by decide)
theorem Jr:Rq K (.type "list") (.type "list")=some true:=lg (by decide)
theorem Js (KX:K.In h) (G:h.Ns mainGlobals mg)
 (z1:Q3 K mainGlobals "abs"=some none)
 (z2:Q3 K mainGlobals "len"=some none)
 (z3:Q3 K mainGlobals "isinstance"=some none)
 (z4:Q3 K mainGlobals "range"=some none)
 (z5:Q3 K mainGlobals "int"=some none)
 (z6:Q3 K mainGlobals "bool"=some none)
 (z7:Q3 K mainGlobals "tuple"=some none)
 (z8:Q3 K mainGlobals "list"=some none)
 (z9:Q3 K mainGlobals "max"=some none)
 (z10:Q3 K mainGlobals "min"=some none)
 (z11:Q3 K mainGlobals "sum"=some none)
 (z12:Q3 K mainGlobals "sorted"=some none)
 (z13:Q3 K mainGlobals "zip"=some none)
 (z14:Q3 K mainGlobals "enumerate"=some none)
 (z15:Q3 K mainGlobals "all"=some none)
 (z16:Q3 K mainGlobals "any"=some none)
 (z17:Q3 K mainGlobals "dict"=some none)
 (sib:PySem.W.subIn K (.type "int") (.type "bool")=some false):Txt K mg :=
 ⟨Q6 KX G z1,Q6 KX G z2,Q6 KX G z3,Q6 KX G z4,Q6 KX G z5,Q6 KX G z6,Q6 KX G z7,Q6 KX G z8,
  Q6 KX G z9,Q6 KX G z10,Q6 KX G z11,Q6 KX G z12,Q6 KX G z13,Q6 KX G z14,Q6 KX G z15,Q6 KX G z16,Q6 KX G z17,
  Jl (by decide) (by decide) sib⟩
theorem Jt {α:Type} (us:List α) (h:us.length=1):∃ a,us=[a]:=by match us,h with | [a],_=>exact ⟨a,rfl⟩
theorem Ju {α:Type} (us:List α) (h:us.length=2):∃ a b,us=[a,b]:=by match us,h with | [a,b],_=>exact ⟨a,b,rfl⟩
theorem Jv {α:Type} (us:List α) (h:us.length=3):∃ a b c,us=[a,b,c]:=by match us,h with | [a,b,c],_=>exact ⟨a,b,c,rfl⟩
theorem Jw {α:Type} (us:List α) (h:us.length=5):∃ a b c d e,us=[a,b,c,d,e]:=by match us,h with | [a,b,c,d,e],_=>exact ⟨a,b,c,d,e,rfl⟩
theorem Jx {α:Type} (us:List α) (h:us.length=6):∃ a b c d e f,us=[a,b,c,d,e,f]:=by match us,h with | [a,b,c,d,e,f],_=>exact ⟨a,b,c,d,e,f,rfl⟩
theorem bf (P) (w) (base) {st:Stmt} (D:aD K mg x st) (ok:∀ {f:Addr} {fd:FuncData},eS K x x st f fd->bu P w K mg base (di P w) k f fd ps (eX K F))
 (hb:∀ (kV doc pm:Value) (an:Option Addr) (cdv ct:Value) (us:List Value),us.length=ps.length->bindArgs (RS x x (eV st) (ay st) (aQ st) .none kV doc pm an cdv ct) ⟨us,[]⟩=pure (ps.zip us):=by intro _ _ _ _ _ _ us hl; first | (obtain ⟨a,rfl⟩:=Jt us hl; rfl) | (obtain ⟨a,b,rfl⟩:=Ju us hl; rfl) | (obtain ⟨a,b,c,rfl⟩:=Jv us hl; rfl) | (obtain ⟨a,b,c,d,rfl⟩:=len4 us hl; rfl) | (obtain ⟨a,b,c,d,e,rfl⟩:=Jw us hl; rfl) | (obtain ⟨a,b,c,d,e,f,rfl⟩:=Jx us hl; rfl) | (obtain rfl:=len0 us hl; rfl)):eG P w K mg base k x F :=
 let ⟨f,fd,m,Fu⟩:=D; ⟨f,fd,ps,m,Fu.kp,Fu.binds hb,ok Fu⟩
noncomputable def A7:Fn:=λds r=>∃ ns:List Int,ns.length<=63/\ds=[.lst (ns.map D.int)]/\r=.ok (.va (.bl true))
theorem Jy (H) (a) (ns:List Int) (hl:ns.length<=63) (hS:f7 K H a (ns.map V.int)):eX K A7 [.ref a] H (λv _=>v=.bl true) λ_ _ _=>False :=
 ⟨H,[.lst (ns.map D.int)],.ok (.va (.bl true)),.refl H,.cons (aX.mpr ⟨a,_,rfl,hS,jw ns⟩) (aC.mpr rfl),⟨ns,hl,rfl,rfl⟩,λv H' aj _ r=>(fc (K:=K) (H:=aj)).mp r⟩
theorem walk {l:PySem.W.OpenLaw} {K:Params->PN} (hk:k<=20) (hn:l.most=some 63) (hdf:d.params.defaults=[])
 (hY:∀ (w:World) (h:Heap),YP w h->(K w.params).In h)
 (F:∀ (w:World) (mg:Str->Option Value) (fa:Addr) (h:Heap),(K w.params).In h->h.Ns mainGlobals mg->mg d.name=some (.ref fa) ->
   ∃ fd:FuncData,(∀ (s:Shared) (u:Value),BindsTo s fd ⟨[u],[]⟩ [("_law_script",u)])/\∀ base:Heap,(K w.params).In base->base.Ns mainGlobals mg->bu l.prog w (K w.params) mg base (di l.prog w) 20 fa fd ["_law_script"] (eX (K w.params) A7)) :
 PySem.W.WalkO q loose XP YP l.row.toRowW d [] (λf vs=>PySem.call f vs) :=
 L2.El (n:=63) (k:=20) (x:="_law_script") (CX:=λw=>di l.prog w) (sp:=λw=>eX (K w.params) A7) hn (by decide) hdf ⟨rfl,by decide,by decide⟩ hY F (λ_ H a ns hl _ hS=>Jy H a ns hl hS) λ_ _ _ _ _ ⟨_,_,_,_,_,q⟩=>q
end
theorem qF (f:α->β) (xs) (lo hi):EV.cutD (xs.map f) lo hi=(EV.cutD xs lo hi).map f:=by
 unfold EV.cutD; simp only [P0,List.map_take,List.map_drop]
theorem gP (h0:0<=j) (h1:j<xs.length):jM xs j=xs[j.toNat]?:=by
 unfold jM Le
 rw [if_pos h0,if_pos h1]; rfl
theorem vG {j:Int} (h0:j<0) (h1:0<=j+xs.length):jM xs j=xs[(j+xs.length).toNat]?:=by
 unfold jM Le
 rw [if_neg (by lia)]
 rw [if_pos (by lia)]; rfl
theorem qG (h:a.natAbs<2 ^ 63):Rj a<=64:=by
 unfold Rj
 by_cases z:a=0
 ·subst z; decide
 ·have e:(a == 0)=false:=by simpa using z
  rw [e,if_neg P5]
  have:=(Nat.log2_lt (n:=a.natAbs) (k:=63) (by lia)).mpr h
  lia
theorem lu (h:a.natAbs<2 ^ 63):EV.MulOk a b:=IntMulOk.of_left (qG h)
theorem fN (h:(qv 0 n)[i]?=some d):i<n/\d=.int (i:Int):=by
 unfold qv at h
 simp only [P6,Qc] at h
 obtain ⟨j,h1,rfl⟩:=h
 obtain ⟨hj,rfl⟩:=Qa.mp h1
 simp at hj
 exact ⟨hj,by simp⟩
section
variable {K:PN}
end
end EV
namespace EV
open PySem PySem.Spec PySem.Calls PyProof.Rows L2
noncomputable def HO.dct:HO->Prop | .dK _=>True | .dT _=>True | _=>False
theorem oG (I:Inv X aa σ H s) (hu:H a=some u) (nu:∀ xs,u≠.tup xs) (nw:∀ y,u≠.own y) (nt:∀ ps,u≠.tbl ps) (nf:∀ o z,X.H₀ a≠some (.frz o z))
 (hv:bq X.prog X.w H s.heap a v):Inv X aa σ (upd H a v) s:=by
 have hne:∀ {b:Addr} {z:HO},H b=some z->z≠u->b≠a:=λe d q=>by subst q; rw [hu] at e; cases e; exact d rfl
 have hno:∀ {b:Addr},H b=none->b≠a:=λe q=>by subst q; rw [hu] at e; cases e
 have hst:∀ {b:Addr} {z:HO},bq X.prog X.w H s.heap b z->bq X.prog X.w (upd H a v) s.heap b z:=λq =>
  q.stay (λ_ _ _ e=>e) (λb e=>by rw [ak (hne e (Qp (nw _)))]; exact e) λb xs e=>by rw [ak (hne e (Qp (nu xs)))]; exact e
 have fr:=I.free
 exact {
  ok:=I.ok,os:=I.os,bare:=I.bare,loc:=I.loc,cell:=I.cell,len:=I.len
  base:=⟨I.base.keep,I.base.slot,λb o h1 h2 h3=>by have e:=I.base.free b o h1 h2 h3; rw [ak (hno e)]; exact e,I.base.there,
   λb xs e=>by have q:=I.base.tups b xs e; rw [ak (hne q (Qp (nu xs)))]; exact q,
   λb o z e=>by
    have q:=I.base.frzs b o z e
    by_cases w:b=a
    ·subst w; exact absurd e (nf o z)
    ·rw [ak w]; exact q,
   λb ps e=>by obtain ⟨m,q⟩:=I.base.tbls b ps e; exact ⟨m,by rw [ak (hne q (Qp (nt _)))]; exact q⟩⟩
  free:=by rw [ak (hno I.free)]; exact I.free
  freeC:=λx c e=>by have q:=I.freeC x c e; rw [ak (hno q)]; exact q
  pin:=λq hq=>by obtain ⟨h1,h2,h3⟩:=I.pin q hq; exact ⟨h1,by rw [ak (hno h2)]; exact h2,h3⟩
  hok:=λb z e=>by
   by_cases w:b=a
   ·subst w; rw [ai] at e; cases e; exact hst hv
   ·rw [ak w] at e; exact hst (I.hok b z e) }
theorem EM (I:Inv X aa σ H s) (hu:H a=some u) (hd:HO.dct u) :
 ∃ o,Inv X aa σ (upd H a (.frz o u)) s/\∀ o z,X.H₀ a≠some (.frz o z):=by
 obtain ⟨o,ho⟩:=IY (I.hok a u hu)
 have nf:∀ o z,X.H₀ a≠some (.frz o z):=λo z e=>by
  have q:=I.base.frzs a o z e
  rw [hu] at q; cases q; exact hd
 exact ⟨o,oG I hu (by rintro xs rfl; exact hd) (by rintro y rfl; exact hd) (by rintro ps rfl; exact hd) nf ⟨ho,I.hok a u hu⟩,nf⟩
theorem A8 (I:Inv X aa σ H s) (hu:H a=some (.frz o u)) (nf:∀ o z,X.H₀ a≠some (.frz o z)):Inv X aa σ (upd H a u) s :=
 oG I hu (by intro xs z; cases z) (by intro y z; cases z) (by intro ps z; cases z) nf (I.hok a _ hu).2
noncomputable def Sl.qH:Sl->Option D
 | .oK kvs=>some (.fdK (kvs.map (·.1)) (kvs.map (·.2))) | .aK _ kvs=>some (.fdK (kvs.map (·.1)) (kvs.map (·.2)))
 | .oT kvs=>some (.fdT (kvs.map (·.1)) (kvs.map (·.2))) | .aT _ kvs=>some (.fdT (kvs.map (·.1)) (kvs.map (·.2)))
 | _=>none
theorem ly {r:Sl} (h:r.qH=some d):r.owned=true:=by cases r <;> first | rfl | cases h
section
variable {K:PN}
theorem aW.qH (h:r.qH=some d) (q:aW K fr H Hf r v):∃ p u,v=.ref p/\fr p/\H p=some u/\Hf p=none/\HO.dct u/\∀ o,Rep K (L2.upd Hf p (.frz o u)) d v:=by
 have sf:∀ {p:Addr} {o:HO},Hf p=none->aL Hf (L2.upd Hf p o):=λhp b u e=>by rw [ak (aE e hp)]; exact e
 cases r with
 | oK ds=>cases h; obtain ⟨p,xs,rfl,f,h1,h2,h3⟩:=q; exact ⟨p,_,rfl,f,h1,h2,trivial,λo=>iO.mpr ⟨p,xs,o,rfl,ai,(iY h3).1,(iY h3).2.mono (sf h2)⟩⟩
 | aK a ds=>cases h; obtain ⟨p,xs,rfl,f,h1,h2,h3⟩:=q; exact ⟨p,_,rfl,f.1,h1,h2,trivial,λo=>iO.mpr ⟨p,xs,o,rfl,ai,(iY h3).1,(iY h3).2.mono (sf h2)⟩⟩
 | oT ds=>cases h; obtain ⟨p,xs,rfl,f,h1,h2,h3⟩:=q; exact ⟨p,_,rfl,f,h1,h2,trivial,λo=>iP.mpr ⟨p,xs,o,rfl,ai,(fE h3).1,λy hy=>av (sf h2) ((fE h3).2.1 y hy),(fE h3).2.2.mono (sf h2)⟩⟩
 | aT a ds=>cases h; obtain ⟨p,xs,rfl,f,h1,h2,h3⟩:=q; exact ⟨p,_,rfl,f.1,h1,h2,trivial,λo=>iP.mpr ⟨p,xs,o,rfl,ai,(fE h3).1,λy hy=>av (sf h2) ((fE h3).2.1 y hy),(fE h3).2.2.mono (sf h2)⟩⟩
 | _=>cases h
theorem dB.EN (S:dB K H₀ dR σ H Hf ρ) (h:ρ[i]?=some r) (hr:r.qH=some d) :
 ∃ q u,H q=some u/\Hf q=none/\HO.dct u/\∀ o,dB K H₀ dR σ (L2.upd H q (.frz o u)) (L2.upd Hf q (.frz o u)) (ρ.set i (.va d)):=by
 obtain ⟨q,ev,rq⟩:=S.own h (ly hr)
 obtain ⟨_,u,e0,fq,hq,sI,hd,rd⟩:=rq.qH hr
 cases e0
 have hi:i<ρ.length:=(Qa.mp h).1
 have hown:=ly hr
 refine ⟨q,u,hq,sI,hd,λo=>⟨⟨λb z e=>?_,λb z e=>?_,λb z e=>?_,λb h1 h2 h3=>?_⟩,by simp [S.len],λj r' hj hu=>?_,λj j' r1 r2 q' hne h1 h2 o1 o2=>?_⟩⟩
 ·rw [L2.ak (aE e fq)]; exact S.bas.s b z e
 ·have e2:=S.bas.f b z e
  rw [L2.ak (aE e2 sI)]; exact e2
 ·by_cases w:b=q
  ·subst w; rw [L2.ai] at e |-; exact e
  ·rw [L2.ak w] at e |-; exact S.sb b z e
 ·have e:=S.bas.n b h1 h2 h3
  by_cases z:b=q
  ·subst z; exact absurd fq h2
  ·rw [L2.ak z]; exact e
 ·have sf:aL Hf (L2.upd Hf q (.frz o u)):=λb z e=>by rw [L2.ak (aE e sI)]; exact e
  by_cases z:j=i
  ·subst z
   rw [Rh hi] at hj
   cases hj
   exact ⟨_,ev,rd o⟩
  ·rw [Ri (Qp z)] at hj
   obtain ⟨v,e1,e2⟩:=S.at_ j r' hj hu
   refine ⟨v,e1,?_⟩
   have key:r'.owned=true->v≠.ref q:=λho z=>by
    subst z
    exact S.sep i j _ _ q (Qp ‹_›) h hj hown ho ev e1
   exact aW.mv (B:=λz=>z=q) sf (λz w hz e1 _ e3=>⟨by rw [L2.ak hz]; exact e1,by rw [L2.ak hz]; exact e3⟩) (by rintro _ z rfl ⟨ys,e9⟩; rw [hq] at e9; cases e9; exact hd) (λho z e=>by rintro rfl; exact key ho e) e2
 ·have out:∀ {j:Nat} {r:Sl},(ρ.set i (.va d))[j]?=some r->r.owned=true->ρ[j]?=some r:=λ{j r} hj ho=>by
   by_cases z:j=i
   ·subst z; rw [Rh hi] at hj; cases hj; cases ho
   ·rw [Ri (Qp z)] at hj; exact hj
  exact S.sep j j' r1 r2 q' hne (out h1 o1) (out h2 o2) o1 o2
end
theorem x6 (sb:aL Hf H) (hq:H q=some u) (sI:Hf q=none) (g:aY (upd H q (.frz o u)) (upd Hf q (.frz o u)) H' aj):aY H Hf (upd H' q u) (del aj q) :=
 ⟨λb z e=>by
   by_cases w:b=q
   ·subst w; rw [ai]; rw [hq] at e; exact e
   ·rw [ak w]; exact g.s b z (by rw [ak w]; exact e),
   λb z e=>by rw [cz (aE e sI)]; exact g.f b z (by rw [ak (aE e sI)]; exact e),
   λb z e=>by obtain ⟨w,e2⟩:=iV e; rw [ak w]; exact g.b b z e2,λb h1 h2 h3=>by
   by_cases w:b=q
   ·subst w; exact iU
   ·rw [cz w]; exact g.n b (by rw [ak w]; exact h1) (by rw [ak w]; exact h2) λxs=>by rw [ak w]; exact h3 xs⟩
theorem EO {K:PN} (hp:Hf p=some (.frz o u)) (hd:HO.dct u) (h:cU K Hf a xs):cU K (del Hf p) a xs:=by
 rcases h with (h | ⟨o',h⟩) | h
 ·exact .inl (.inl (by rw [cz (by rintro rfl; rw [hp] at h; cases h)]; exact h))
 ·exact .inl (.inr ⟨o',by rw [cz (by rintro rfl; rw [hp] at h; cases h; exact hd)]; exact h⟩)
 ·exact .inr h
mutual
theorem A9 {K:PN} {Hf:Hp} {p:Addr} {o:Obj} {u:HO} (hp:Hf p=some (.frz o u)) (hd:HO.dct u):∀ (d:D) {v:V},d.nl->Rep K Hf d v->Rep K (del Hf p) d v
 | .non,_,_,h=>by simpa [Rep] using h
 | .bl _,_,_,h=>by simpa [Rep] using h
 | .int _,_,_,h=>by simpa [Rep] using h
 | .str _,_,_,h=>by simpa [Rep] using h
 | .adr _,_,_,h=>by simpa [Rep] using h
 | .tup ds,v,f,h=>by
  simp only [Rep] at h |-
  obtain ⟨a,xs,e,h1,h2⟩:=h
  exact ⟨a,xs,e,EO hp hd h1,oH hp hd ds (by simpa [D.nl] using f) h2⟩
 | .lst _,_,f,_=>by simp [D.nl] at f
 | .fdK _ _,_,f,_=>by simp [D.nl] at f
 | .fdT _ _,_,f,_=>by simp [D.nl] at f
 | .exc C,_,_,h=>by
  simp only [Rep] at h |-
  obtain ⟨a,e,h⟩:=h
  exact ⟨a,e,by rw [cz (by rintro rfl; rw [hp] at h; cases h)]; exact h⟩
theorem oH {K:PN} {Hf:Hp} {p:Addr} {o:Obj} {u:HO} (hp:Hf p=some (.frz o u)) (hd:HO.dct u):∀ (ds:List D) {xs:List V},D.kh ds->aq K Hf ds xs->aq K (del Hf p) ds xs
 | [],_,_,h=>by simpa [aq] using h
 | d::ds,xs,f,h=>by
  simp only [aq] at h |-
  simp only [D.kh] at f
  obtain ⟨x,r,e,h1,h2⟩:=h
  exact ⟨x,r,e,A9 hp hd d f.1 h1,oH hp hd ds f.2 h2⟩
end
section
variable {K:PN}
theorem Ba (S:bw c σ H Hf ρ) (hi:At ρ i r) (hr:r.qH=some d0) (hs:SSet ρ i (.va d0) ρ')
 (h:∀ q u o,H q=some u->Hf q=none->HO.dct u->bw c σ (upd H q (.frz o u)) (upd Hf q (.frz o u)) ρ'->bE c.X e σ (upd H q (.frz o u)) λv H'=>∃ aj,aY (upd H q (.frz o u)) (upd Hf q (.frz o u)) H' aj/\Q v (upd H' q u)):bE c.X e σ H Q:=by
 obtain ⟨q,u,hq,sI,hd,S1⟩:=S.EN hi.get hr
 intro aa s I
 obtain ⟨o,I1,nf⟩:=EM I hq hd
 have S2:=S1 o
 rw [<- hs.eq] at S2
 refine bz (h q u o hq sI hd S2 aa s I1) λv s' ⟨x,H',I',rv,aj,g,hQ⟩=>⟨x,_,A8 I' (g.s q _ ai) nf,rv,hQ⟩
theorem tL (i) {R:Sl->Prop} (hi:At ρ i r) (hr:r.qH=some d0) (hs:SSet ρ i (.va d0) ρ') (h:cN c e ρ' λd=>Sd d.nl (R d)):cN c e ρ R:=λσ H Hf Q S q=>by
 refine Ba S hi hr hs λa u o ha zA hd S1=>h σ _ _ _ S1 λr1 v H' aj ⟨fl,rd⟩ rv g=>⟨aj,g,?_⟩
 have hp:=g.f a _ ai
 refine q r1 v _ (del aj a) rd ?_ (x6 S.sb ha zA g)
 have hH:H' a=some (.frz o u):=g.s a _ ai
 cases r1 with
 | va d=>exact A9 hp hd d fl rv
 | ow ds =>
  obtain ⟨b,xs,rfl,fb,h1,h2,h3⟩:=rv
  have nb:b≠a:=by rintro rfl; rw [show (upd H b (.frz o u)) b=_ from ai] at fb; cases fb
  exact ⟨b,xs,rfl,by rw [ak nb] at fb; exact fb,by rw [ak nb]; exact h1,by rw [cz nb]; exact h2,oH hp hd ds fl h3⟩
 | _=>exact fl.elim
end
def Bb (h:Heap) (it d:Addr) (i n ep:Nat):Prop :=
 ∃ (x:Value) (f:Bool) (k v:Value),h.get? it=some { cls:=.type "dict_itemiterator",dict:=none,data:=.fields #[x,.bool f,.ref d,.int i 0,.int n 0,.int ep 0,k,v],slots:= #[] }/\(x=.none\/∃ a:Addr,x=rawInt a)
section
variable {s:Shared} {i n ep:Nat}
theorem oJ:VA "dict_itemiterator"=true:=by decide
theorem qI (h:Q (s.heap.get? a) s):wpAny M A (loadIfAlive a) Q E s:=λΓ p z=>by
 show Sem.wp M Γ (Sem.loadIfAlive a Sem.pure) _ _ p s
 rw [Sem.wp_loadIfAlive,Sem.wp]
 exact h
theorem Bc (hs:s.heap=h) (hit:h.get? it=some { cls:=.type "dict_itemiterator",dict:=none,data:=.fields #[x,.bool f,.ref d,.int i 0,.int n 0,.int ep 0,k,v],slots:= #[] }) (hx:x=.none\/∃ a:Addr,x=rawInt a)
 (hQ:∀ h',Bb h' it d i n ep->h'.get? h.objs.size=some { cls:=.type "tuple",data:=.seq #[a,b] }->h'.objs.size=h.objs.size+1->(∀ c o,c≠it->h.get? c=some o->h'.get? c=some o)->Q (.ref h.objs.size) { s with heap:=h' }) :
 wpAny (model prog w) A (Vx (.ref it) 6 a b) Q E s:=by
 subst hs
 have lt:it<s.heap.objs.size:=P1 hit
 have ne:s.heap.objs.size≠it:=Sf lt
 unfold Vx
 refine PK (Va ?_)
 have sG:=PY ({ cls:=.type "tuple",data:=.seq [a,b].toArray }:Obj) hit
 have htu:(s.heap.push { cls:=.type "tuple",data:=.seq [a,b].toArray }).get? s.heap.objs.size=some { cls:=.type "tuple",data:=.seq #[a,b] }:=Qd _ rfl
 have hsz:(s.heap.push { cls:=.type "tuple",data:=.seq [a,b].toArray }).objs.size=s.heap.objs.size+1:=RC ..
 have hold:∀ c o,s.heap.get? c=some o->(s.heap.push { cls:=.type "tuple",data:=.seq [a,b].toArray }).get? c=some o:=λc o e=>PY _ e
 generalize (s.heap.push { cls:=.type "tuple",data:=.seq [a,b].toArray })=h2 at sG htu hsz hold |-
 have free:wpAny (model prog w) A (do
  let old:=[<- field (.ref it) 6,<- field (.ref it) (6+1)]
  setField (.ref it) 6 a; setField (.ref it) (6+1) b
  setField (.ref it) 0 (rawInt s.heap.objs.size); setField (.ref it) 1 (.bool false)
  letGo old [.ref s.heap.objs.size]
  pure (Qk s.heap.objs.size)) Q E { s with heap:=h2 }:=by
  refine PK (QK sG rfl (x:=k) rfl (PK (QK sG rfl (x:=v) rfl ?_)))
  refine PK (Ro sG (by simp) λh3 e3 s3=>?_)
  refine PK (Ro e3 (by simp) λh4 e4 s4=>?_)
  refine PK (Ro e4 (by simp) λh5 e5 s5=>?_)
  refine PK (Ro e5 (by simp) λh6 e6 s6=>?_)
  have keep:∀ c o,c≠it->h2.get? c=some o->h6.get? c=some o:=λc o hc e=>s6.extBut c o hc (s5.extBut c o hc (s4.extBut c o hc (s3.extBut c o hc e)))
  refine PK (SO (PR (hQ h6 ⟨_,_,_,_,e6,.inr ⟨_,rfl⟩⟩ (keep _ _ ne htu) ?_ λc o hc e=>keep c o hc (hold c o e))))
  rw [s6.1,s5.1,s4.1,s3.1,hsz]
 have told:∀ (h3:Heap) (x:Value) (f:Bool),h3.get? it=some { cls:=.type "dict_itemiterator",dict:=none,data:=.fields #[x,.bool f,.ref d,.int i 0,.int n 0,.int ep 0,k,v],slots:= #[] }->(x=.none\/∃ a:Addr,x=rawInt a) ->
  Rk it h2 h3->Q (.ref s.heap.objs.size) { s with heap:=h3 }:=λh3 x f e hx' s3 =>
  hQ h3 ⟨x,f,k,v,e,hx'⟩ (s3.extBut _ _ ne htu) (by rw [s3.1,hsz]) λc o hc e=>s3.extBut c o hc (hold c o e)
 show wpAny _ _ (Ws (.ref it) >>= _) _ _ _
 unfold Ws
 refine PK (PK (QK sG rfl (x:=x) rfl ?_))
 rcases hx with rfl | ⟨a0,rfl⟩
 ·exact PR free
 ·show wpAny _ _ (loadIfAlive (a0:Int).toNat >>= _) _ _ _
  refine PK (qI ?_)
  split
  ·exact PR free
  ·refine PK ?_
   refine QK sG rfl (x:=.bool f) rfl ?_
   cases f with
   | true =>
    dsimp only
    rw [if_neg (by decide)]
    exact PR (PR (told h2 _ _ sG (.inr ⟨a0,rfl⟩) (.refl ..)))
   | false =>
    dsimp only
    rw [if_pos (by decide)]
    refine PK (Ro sG (by simp) λh3 e3 s3=>?_)
    exact PR (PR (told h3 _ true e3 (.inr ⟨a0,rfl⟩) s3))
theorem Bb.Jz (h:Bb s.heap it d i n ep):s.TypeIs (.ref it) "dict_itemiterator":=let ⟨_,_,_,_,e,_⟩:=h; ⟨_,e,rfl⟩
theorem next_item (hit:Bb s.heap it d i es.size ep) (hod:s.heap.get? d=some od) (hdd:od.data=.dict es ep) (hx:es[i]?=some e)
 (hQ:∀ h',Bb h' it d (i+1) es.size ep->h'.get? s.heap.objs.size=some { cls:=.type "tuple",data:=.seq #[e.key,e.val] }->h'.objs.size=s.heap.objs.size+1->(∀ c o,c≠it->s.heap.get? c=some o->h'.get? c=some o)->Q (some (.ref s.heap.objs.size)) { s with heap:=h' }) :
 wpAny (model prog w) A (pyNext (.ref it)) Q E s:=by
 have hT:=hit.Jz
 obtain ⟨x,f,k,v,hat,hxx⟩:=hit
 have hlt:i<es.size:=(Te.mp hx).1
 unfold pyNext
 refine PK (RQ (Rx (name:=PM "__next__") hT S3 (Ra S3 hT Wx ?_ (Wu _))))
 refine PK (PR (PK (PK ?_)))
 first | refine PK (Uu hT (PR ?_)) | refine PK (Uy hT (PR ?_))
 refine PK (Vb hat rfl ?_)
 simp only [oJ,if_true]
 show wpAny _ _ (if (Qk d == QG)=true then _ else _) _ _ _
 rw [if_neg (show ¬ (Qk d == QG)=true from P5)]
 refine PK (PR (PK (Tq hod hdd ?_)))
 rw [if_neg (by simp)]
 refine PK (PR (PK (Tt hod hdd ?_)))
 rw [if_neg (by simp)]
 refine PR ?_
 simp only [show ¬ ((i:Int)<0) from by lia,if_false,QV,hx]
 refine PK ?_
 first | refine PK (Uu hT (PR ?_)) | refine PK (Uy hT (PR ?_))
 refine PK (VJ hT ?_)
 show wpAny _ _ (setField (.ref it) 3 (rawInt ((i:Int)+1)) >>= _) _ _ s
 refine PK (Ro hat (by simp) λh1 e1 s1=>?_)
 have e1':h1.get? it=some { cls:=.type "dict_itemiterator",dict:=none,data:=.fields #[x,.bool f,.ref d,.int ((i+1:Nat):Int) 0,.int es.size 0,.int ep 0,k,v],slots:= #[] }:=by
  have q:((i+1:Nat):Int)=(i:Int)+1:=by lia
  rw [q]; simpa [rawInt] using e1
 have hT1:Shared.TypeIs { s with heap:=h1 } (.ref it) "dict_itemiterator":=⟨_,e1',rfl⟩
 refine PK (Rb ?_)
 refine PK (VJ hT1 (PK (VJ hT1 ?_)))
 show wpAny _ _ (Vx (.ref it) 6 e.key e.val) _ _ { s with heap:=h1 }
 have z1:h1.objs.size=s.heap.objs.size:=s1.1
 refine Bc (s:={ s with heap:=h1 }) rfl e1' hxx λh2 g2 t2 z2 k2=>?_
 rw [z1] at t2 z2 |-
 exact PR ⟨_,rfl,PR (hQ h2 g2 t2 z2 λc o hc q=>k2 c o hc (s1.extBut c o hc q))⟩
theorem next_end (hh:A.handled=none) (hit:Bb s.heap it d i es.size ep) (hod:s.heap.get? d=some od) (hdd:od.data=.dict es ep) (hx:es.size<=i)
 (hQ:∀ h',R3 it s.heap h'->Q none { s with heap:=h' }):wpAny (model prog w) A (pyNext (.ref it)) Q E s:=by
 have hT:=hit.Jz
 obtain ⟨x,f,k,v,hat,hxx⟩:=hit
 unfold pyNext
 refine PK (RQ (Rx (name:=PM "__next__") hT S3 (Ra S3 hT Wx ?_ (Wu _))))
 refine PK (PR (PK (PK ?_)))
 first | refine PK (Uu hT (PR ?_)) | refine PK (Uy hT (PR ?_))
 refine PK (Vb hat rfl ?_)
 simp only [oJ,if_true]
 show wpAny _ _ (if (Qk d == QG)=true then _ else _) _ _ _
 rw [if_neg (show ¬ (Qk d == QG)=true from P5)]
 refine PK (PR (PK (Tq hod hdd ?_)))
 rw [if_neg (by simp)]
 refine PK (PR (PK (Tt hod hdd ?_)))
 rw [if_neg (by simp)]
 refine PR ?_
 simp only [show ¬ ((i:Int)<0) from by lia,if_false,QV,UK hx]
 refine PK ?_
 first | refine PK (Uu hT (PR ?_)) | refine PK (Uy hT (PR ?_))
 show wpAny _ _ (setField (.ref it) 2 .none >>= _) _ _ s
 refine PK (SI hat rfl (by simp) (PK ?_))
 simp only [newExc,newTuple]
 refine PK (QZ ?_ (by size_fits))
 refine PK (m:=firstArgMember _ _) (Vr (a:=QG) (by first | rfl | (simp only [firstArgMember]; rfl)) ?_)
 refine QZ ?_ (by size_fits)
 simp only [raiseNew]
 refine PK (Vh ?_)
 rw [show A.in1.handled=none from hh]
 refine PK (PR (Vq ?_))
 refine PK (T4 (T:="StopIteration") (b:=true) ⟨_,Qd _ rfl,rfl⟩ isSubtype_stop ?_)
 exact PR (hQ _ (((Sx ..).extBut.push _).push _))
theorem ER (hit:Bb s.heap it d i n ep) (h:∀ h',Bb h' it d i n ep->Rk it s.heap h'->Q () { s with heap:=h' }):wpAny (model prog w) A (letOwnedTupleGo tg (.ref it) (.ref a)) Q E s:=by
 have stay:Q () s:=h s.heap hit (.refl ..)
 obtain ⟨x,f,k,v,hat,hxx⟩:=hit
 have part:wpAny (model prog w) A (do
  let o <- load it
  match o.cls,o.data with
  | .type n,.fields vs =>
   if (["enumerate","zip","dict_itemiterator","dict_reverseitemiterator","odict_iterator","itertools.zip_longest","itertools.pairwise"].contains n && vs[0]? == some (rawInt a))=true then do
    rule "for.unpacks-the-owned-tuple"
    updateField it 0 .none
   else pure ()
  | _,_=>pure ()) Q E s:=by
  refine PK (wpAny_load hat ?_)
  dsimp only
  split
  ·refine PK (Q8 ?_)
   show wpAny _ _ (setField (.ref it) 0 .none) Q E s
   exact Ro hat (by simp) λh' e' s'=>h h' ⟨_,_,_,_,e',.inl rfl⟩ s'
  ·exact PR stay
 unfold letOwnedTupleGo
 cases tg <;> first
  | exact PR stay
  | exact part
end
noncomputable def bN:HO->List (V×V)
 | .dK ys=>ys.map λy=>(kV y.1,y.2)
 | .dT ys=>ys.map λy=>(.ref y.2.1,y.2.2)
 | _=>[]
theorem vH (h:kE k v=true):RelV (kV k) v:=by
 rcases bH h with ⟨i,t,rfl,rfl⟩ | ⟨x,t,rfl,rfl⟩
 ·exact ⟨t,rfl⟩
 ·exact ⟨t,rfl⟩
theorem cP (ok:bq P w H h d u) (hd:HO.dct u) (ho:h.get? d=some o) :
 o.ExactDict/\∃ es ep,o.data=.dict es ep/\Paired (λ(a:V×V) (e:DictEntry)=>RelV a.1 e.key/\RelV a.2 e.val) (bN u) es.toList/\(d == sysModules)=false/\(bN u).length<=sizeLine:=by
 cases u with
 | dK ys =>
  obtain ⟨z,y,vs,kv,o',es,ep,h1,h2,h3,h4,h5,h6⟩:=ok
  rw [ho] at h1; cases h1
  refine ⟨h2,es,ep,h3,?_,y,by simpa [bN] using z⟩
  show Paired _ (ys.map _) _
  clear h3 h4 h6 z
  generalize es.toList=l at h5 |-
  unfold KV at kv
  induction kv generalizing l with
  | nil=>cases h5; exact .nil
  | @cons a b as bs q t ih =>
   cases h5 with
   | cons r t' t''=>exact .cons ⟨by show L2.RelV (kV a.1) _; rw [q.1]; exact vH r,by rw [t']; exact q.2⟩ (ih hd _ t'')
 | dT ys =>
  obtain ⟨z,y,xs,kv,o',es,ep,h1,h2,h3,h4,h5⟩:=ok
  rw [ho] at h1; cases h1
  refine ⟨h2,es,ep,h3,?_,y,by simpa [bN] using z⟩
  rw [h4]
  show Paired _ (ys.map _) _
  clear h3 h4 h5 z
  induction kv with
  | nil=>exact .nil
  | @cons a b as bs q t ih =>
   rw [PZ,PZ]
   refine .cons ⟨?_,q.2.2⟩ (ih hd)
   show Qk b.2.1=Qk a.2.1
   rw [q.2.1]
 | _=>exact hd.elim
theorem dF:∀ {l:List α} {m:List β} {i:Nat} {a:α},Paired F l m->l[i]?=some a->∃ b,m[i]?=some b/\F a b
 | _,_,_,_,.nil,e=>by simp at e
 | _,_,0,_,.cons r _,e=>by simp at e; subst e; exact ⟨_,rfl,r⟩
 | _,_,i+1,a,.cons _ t,e=>by
  obtain ⟨b,h1,h2⟩:=dF (i:=i) t (by simpa using e)
  exact ⟨b,by simpa using h1,h2⟩
noncomputable def OO (d:Addr) (o:Obj) (u:HO):It :=
 ⟨λi H=>H d=some (.frz o u)/\i<(bN u).length,λi H x H'=>∃ p kv,(bN u)[i]?=some kv/\x=.ref p/\H p=none/\H'=upd H p (.tup [kv.1,kv.2]),λi H=>H d=some (.frz o u)/\(bN u).length<=i⟩
theorem x8:entryFor table "dict_itemiterator.__iter__"=some Builtin.«dict_keyiterator.__iter__» :=entryFor_alias (id':="dict_keyiterator.__iter__") (by kernel_rfl) rfl (by decide +kernel) (by kernel_rfl)
theorem tM {P:Program} {w:World} {K:PN} {tg:Expr} {d it:Addr} {o:Obj} {u:HO} {es:Array DictEntry} {ep:Nat} (hd:HO.dct u) (hod:o.data=.dict es ep) (hne:it≠d) (hes:es.size=(bN u).length) :
 Turn P w K tg (OO d o u) [it] it (λi h=>Bb h it d i es.size ep) where
 mem:=by simp
 obj:=λi h st b hb=>by
  have e:b=it:=by simpa using hb
  subst e
  obtain ⟨x,f,k,v,e,_⟩:=st
  exact ⟨_,e,λv z=>by
   have z':Ul _=SY v:=z
   cases z'⟩
 keep:=λi h h' st k=>by
  obtain ⟨x,f,kk,v,e,hx⟩:=st
  exact ⟨x,f,kk,v,k it (by simp) _ e,hx⟩
 item:=by
  intro X hP hw hK hc i aa s σ H E I hf st hg
  subst hP hw hK
  obtain ⟨hH,hi⟩:=hg
  obtain ⟨f0,f1,f2,f3,f4,f5⟩:=hf it (by simp)
  obtain ⟨ho,ok⟩:=(show bq X.prog X.w H s.heap d (.frz o u) from I.hok d _ hH)
  obtain ⟨_,es',ep',e1,e2,_⟩:=cP ok hd ho
  rw [hod] at e1; cases e1
  obtain ⟨e,he,re⟩:=dF e2 (Qo hi)
  have he':es[i]?=some e:=by simpa using he
  refine next_item st ho hod he' λh1 g1 t1 z1 k1=>?_
  have hil:it<s.heap.objs.size:=by
   obtain ⟨_,_,_,_,q,_⟩:=st
   exact P1 q
  have Hp:H s.heap.objs.size=none:=I.hok.fresh (PU _)
  have hit0:it≠s.heap.objs.size:=Qu hil
  generalize hkv:(bN u)[i]=kv at re
  have IA:Inv X aa σ (upd H s.heap.objs.size (.tup [kv.1,kv.2])) { s with heap:=s.heap.push { cls:=.type "tuple",data:=.seq #[e.key,e.val] },toks:=s.toks } :=
   I.laid (a:=s.heap.objs.size) (o:=.tup [kv.1,kv.2]) (λ_ _ q=>PY _ q) (PU _) ⟨by show 2<=sizeLine; decide,[e.key,e.val],.cons re.1 (.cons re.2 .nil),_,Qd _ rfl,rfl,0,rfl⟩
  have g0:upd H s.heap.objs.size (.tup [kv.1,kv.2]) it=none:=by rw [ak hit0]; exact f0
  have I1:Inv X aa σ (upd H s.heap.objs.size (.tup [kv.1,kv.2])) { s with heap:=h1,toks:=s.toks }:=IA.turned (λb o hb q=>by
   by_cases z:b=s.heap.objs.size
   ·subst z
    rw [Qd _ rfl] at q; cases q; exact t1
   ·have lt:b<s.heap.objs.size:=by
     have:=P1 q
     rw [RC] at this
     exact Nat.lt_of_le_of_ne (Nat.le_of_lt_succ this) z
    refine k1 b o hb ?_
    rw [Wd _ _ _ z] at q; exact q) g0 f1 f3 f4 f5
  refine ⟨_,rfl,ER (s:={ s with heap:=h1 }) g1 λh2 g2 s2=>?_⟩
  refine ⟨.ref s.heap.objs.size,_,I1.turned (t':=s.toks) (λb o hb q=>(s2.2 b hb).trans q) g0 f1 f3 f4 f5,rfl,⟨_,kv,by rw [Qo hi,hkv],rfl,Hp,rfl⟩,g2,λb hb=>?_⟩
  have e:b=it:=by simpa using hb
  rw [e]; exact g0
 done:=by
  intro X hP hw hK hc i aa s σ H E I hf st hg
  subst hP hw hK
  obtain ⟨hH,hi⟩:=hg
  obtain ⟨f0,f1,f2,f3,f4,f5⟩:=hf it (by simp)
  obtain ⟨ho,ok⟩:=(show bq X.prog X.w H s.heap d (.frz o u) from I.hok d _ hH)
  exact next_end (I.ok.hd hc) st ho hod (by lia) λh' eb=>⟨rfl,I.turned (t':=s.toks) (λb o hb e=>eb b o hb e) f0 f1 f3 f4 f5⟩
 self:=by
  intro A i s Q E st h
  have hT:=st.Jz
  refine V5 hT WA (Ra WA hT x8 ?_ (F.args_dict_itemiterator_iter_1 _))
  show wpAny _ _ (ret (.ref it)) _ _ s
  exact PR ⟨_,rfl,"dict_itemiterator",_,hT,S3.lookup,h⟩
theorem qJ (d) (hd:(d == sysModules)=false) :
 MeetsIn prog w (Builtin.«dict.items» ⟨[.ref d],[]⟩) (λ_ R s=>s.TypeIs (.ref d) "dict"/\R (.ok (.ret (.ref s.heap.objs.size))) { s with heap:=s.heap.push { cls:=.type "dict_items",data:=.fields #[.ref d] } }) :=
 .of_wp λA R s ⟨hT,h⟩=>by
  unfold Builtin.«dict.items»
  refine PK ?_
  unfold Builtin.Dict.noArgs
  refine PK (wpAny_notOrdered_dict hT (show wpAny _ _ (pure d) _ _ s from PR ?_))
  show wpAny _ _ (UM d >>= _) _ _ s
  unfold UM
  rw [if_neg (by rw [hd]; exact P5)]
  exact PK (PR (PK (QZ (PR ⟨_,rfl,h⟩))))
theorem x9 (hv:s.heap.IsItemsView v d) (hod:s.heap.get? d=some od) (hdd:od.data=.dict es ep)
 (hQ:Q (.ref s.heap.objs.size) { s with heap:=s.heap.push { cls:=.type "dict_itemiterator",data:=.fields #[.none,.bool false,.ref d,.int 0 0,.int es.size 0,.int ep 0,.none,.none] } }) :
 wpAny (model prog w) A (pyIter (.ref v)) Q E s:=by
 obtain ⟨ov,hov,hcv,hdv⟩:=id hv
 refine V5 hv.typeIs F.slot_dict_items_iter (Ra F.slot_dict_items_iter hv.typeIs F.entry_dict_items_iter ?_ (F.args_dict_items_iter_1 _))
 unfold Builtin.«dict_items.__iter__»
 refine PK (PR (PK ?_))
 unfold Builtin.Dict_items.dictOf
 refine PK (QK hov hdv (x:=.ref d) rfl (PR (PK ?_)))
 unfold Builtin.Dict_items.newIterator
 refine PK (Tq hod hdd (PK (Tt hod hdd ?_)))
 simp only [oJ,if_true]
 refine QZ (PR ⟨_,rfl,"dict_itemiterator",_,⟨_,Qd _ rfl,rfl⟩,S3.lookup,?_⟩)
  (by simp only [sizeOk,Wt,Qm,QE,Qz,RH,sizeLine_eq]; lia)
 simpa [rawInt,Wt] using hQ
noncomputable def ya:Key->D | .inl i=>.int i | .inr x=>.str x
noncomputable def D.pairs:D->Option (List D)
 | .fdK ks ds=>some (Tz (λk d=>D.tup [ya k,d]) ks ds)
 | .fdT ks ds=>some (Tz (λk d=>D.tup [.tup (k.map ya),d]) ks ds)
 | _=>none
section
variable {K:PN} {Hf:Hp}
theorem qK:Rep K Hf (ya k) (kV k):=by
 cases k with
 | inl i=>exact aA.mpr rfl
 | inr x=>exact fM.mpr rfl
theorem ng:∀ {ks:List Key},aq K Hf (ks.map ya) (ks.map kV)
 | []=>aC.mpr rfl
 | k::ks=>.cons qK ng
def nh (K:PN) (Hf:Hp) (d:D) (kv:V×V):Prop:=∃ k e,d=.tup [k,e]/\Rep K Hf k kv.1/\Rep K Hf e kv.2
theorem vI:∀ {ys:List (Key×V)} {vs:List D},aq K Hf vs (ys.map (·.2))->Paired (nh K Hf) (Tz (λk d=>D.tup [ya k,d]) (ys.map (·.1)) vs) (ys.map λy=>(kV y.1,y.2))
 | [],vs,h=>by
  cases vs with
  | nil=>exact .nil
  | cons d ds=>obtain ⟨x,r,e,_⟩:=aF.mp h; cases e
 | y::ys,vs,h=>by
  cases vs with
  | nil=>rw [aC] at h; cases h
  | cons d ds =>
   obtain ⟨x,r,e,h1,h2⟩:=aF.mp h
   cases e
   exact .cons ⟨_,_,rfl,qK,h1⟩ (vI h2)
theorem vJ:∀ {ys:List (List Key×Addr×V)} {vs:List D},(∀ y∈ys,cU K Hf y.2.1 (y.1.map kV))->aq K Hf vs (ys.map (·.2.2))->Paired (nh K Hf) (Tz (λk d=>D.tup [.tup (k.map ya),d]) (ys.map (·.1)) vs) (ys.map λy=>(.ref y.2.1,y.2.2))
 | [],vs,_,h=>by
  cases vs with
  | nil=>exact .nil
  | cons d ds=>obtain ⟨x,r,e,_⟩:=aF.mp h; cases e
 | y::ys,vs,hk,h=>by
  cases vs with
  | nil=>rw [aC] at h; cases h
  | cons d ds =>
   obtain ⟨x,r,e,h1,h2⟩:=aF.mp h
   cases e
   exact .cons ⟨_,_,rfl,aH.mpr ⟨_,_,rfl,hk y P4,ng⟩,h1⟩ (vJ (λz hz=>hk z (P9 _ hz)) h2)
theorem yb (hp:d.pairs=some ds) (h:Rep K Hf d v):∃ a o u,v=.ref a/\Hf a=some (.frz o u)/\HO.dct u/\Paired (nh K Hf) ds (bN u):=by
 cases d with
 | fdK ks vs =>
  cases hp
  obtain ⟨a,ys,o,rfl,h1,h2,h3⟩:=iO.mp h
  subst h2
  exact ⟨a,o,_,rfl,h1,trivial,vI h3⟩
 | fdT ks vs =>
  cases hp
  obtain ⟨a,ys,o,rfl,h1,h2,h3,h4⟩:=iP.mp h
  subst h2
  exact ⟨a,o,_,rfl,h1,trivial,vJ h3 h4⟩
 | _=>cases hp
theorem tN {ds:List D} {a:Addr} {o:Obj} {u:HO} (h:Hf a=some (.frz o u)) (hp:Paired (nh K Hf) ds (bN u)):iT K (OO a o u) ds Hf where
 go:=λi d H aM s1 s2 e=>by
  obtain ⟨kv,ekv,k,dd,rfl,r1,r2⟩:=dF hp e
  refine ⟨⟨s2 _ _ (s1 _ _ h),(Qa.mp ekv).1⟩,λx H' ⟨p,kv',e1,e2,e3,e4⟩=>?_⟩
  rw [ekv] at e1; cases e1
  subst e2 e4
  have g:=aY.new s2 e3 (o:=.tup [kv.1,kv.2])
  exact ⟨upd aM p (.tup [kv.1,kv.2]),g,aH.mpr ⟨p,_,rfl,.inl (.inl ai),.cons (Rep.mono (s1.trans g.f) _ r1) (.cons (Rep.mono (s1.trans g.f) _ r2) (aC.mpr rfl))⟩⟩
 stop:=λi H aM s1 s2 e=>⟨s2 _ _ (s1 _ _ h),by rw [<- Rl hp]; exact e⟩
end
section
variable {K:PN}
end
end EV
namespace SR
open PySem PyProof.Rows
noncomputable def cW:Bool->Keyed->Array Keyed->Nat->Nat->Nat->StateT SortSt Sem (Option Nat):=sortPriv% PySem.Builtin.gallop
noncomputable def cH:Nat->StateT SortSt Sem Unit:=sortPriv% PySem.Builtin.setMinGallop
noncomputable def dS (left:Bool) (key:Keyed) (arr:Array Keyed) (base i:Nat):StateT SortSt Sem (Option Bool):=do
 let x <- elem' arr (base+i)
 if left then lt' x key else return (<- lt' key x).map (!·)
noncomputable abbrev qL:=Option (Option Nat)×Nat×Nat
noncomputable def lz (bey:Nat->StateT SortSt Sem (Option Bool)) (n lo hi:Nat):StateT SortSt Sem (Option Nat):=do
 let __s <- forIn [0:n] ((none,lo,hi):qL) λ_ __s =>
  if __s.snd.fst>=__s.snd.snd then pure (Rr (none,__s.snd.fst,__s.snd.snd))
  else do
   let __x <- bey (__s.snd.fst+(__s.snd.snd - __s.snd.fst) / 2)
   match __x with
   | some more=>if more=true then pure (QY (none,__s.snd.fst+(__s.snd.snd - __s.snd.fst) / 2+1,__s.snd.snd)) else pure (QY (none,__s.snd.fst,__s.snd.fst+(__s.snd.snd - __s.snd.fst) / 2))
   | _=>pure (Rr (some none,__s.snd.fst,__s.snd.snd))
 match __s.fst with
 | some r=>pure r
 | none=>pure (some __s.snd.snd)
noncomputable def Be (bey:Nat->StateT SortSt Sem (Option Bool)) (n hint maxofs:Nat):StateT SortSt Sem qL :=
 forIn [0:n] ((none,0,1):qL) λ_ __s =>
  if __s.snd.snd>=maxofs then pure (Rr (none,__s.snd.fst,__s.snd.snd))
  else do
   let __x <- bey (hint+__s.snd.snd)
   match __x with
   | some more=>if (!more)=true then pure (Rr (none,__s.snd.fst,__s.snd.snd)) else pure (QY (none,__s.snd.snd,2 * __s.snd.snd+1))
   | _=>pure (Rr (some none,__s.snd.fst,__s.snd.snd))
noncomputable def Bf (bey:Nat->StateT SortSt Sem (Option Bool)) (n hint maxofs:Nat):StateT SortSt Sem qL :=
 forIn [0:n] ((none,0,1):qL) λ_ __s =>
  if __s.snd.snd>=maxofs then pure (Rr (none,__s.snd.fst,__s.snd.snd))
  else do
   let __x <- bey (hint - __s.snd.snd)
   match __x with
   | some found=>if found=true then pure (Rr (none,__s.snd.fst,__s.snd.snd)) else pure (QY (none,__s.snd.snd,2 * __s.snd.snd+1))
   | _=>pure (Rr (some none,__s.snd.fst,__s.snd.snd))
local macro_rules | `(tactic| walk_at "dl gallop")=>do
 let i:=SM (Sq `PySem.Builtin.List.W1All `PySem.Builtin.gallop)
 `(tactic| delta $i)
theorem tO (left) (key) (arr) (base n hint):cW left key arr base n hint=(do
 let __x <- dS left key arr base hint
 match __x with
 | some right =>
  if right=true then do
   let __s <- Be (dS left key arr base) n hint (n - hint)
   match __s.fst with
   | some r=>pure r
   | none=>lz (dS left key arr base) n (hint+__s.snd.fst+1) (hint+min __s.snd.snd (n - hint))
  else do
   let __s <- Bf (dS left key arr base) n hint (hint+1)
   match __s.fst with
   | some r=>pure r
   | none=>lz (dS left key arr base) n (hint+1 - min __s.snd.snd (hint+1)) (hint - __s.snd.fst)
 | _=>pure none):=by
 unfold cW
 walk_at "dl gallop"
 unfold Be Bf lz dS
 dsimp only
 congr 1
 funext x
 cases x with
 | none=>rfl
 | some right =>
  dsimp only
  cases right with
  | true =>
   rw [if_pos rfl,if_pos rfl]
   congr 1
   funext c
   obtain ⟨r,l,o⟩:=c
   cases r with
   | some r=>rfl
   | none =>
    dsimp only
    congr 1
    funext c
    obtain ⟨r,l,o⟩:=c
    cases r <;> rfl
  | false =>
   rw [if_neg P5,if_neg P5]
   congr 1
   funext c
   obtain ⟨r,l,o⟩:=c
   cases r with
   | some r=>rfl
   | none =>
    dsimp only
    congr 1
    funext c
    obtain ⟨r,l,o⟩:=c
    cases r <;> rfl
def iK (prog:Program) (w:World) (A:Around) (s:Shared) (κ:SortKind) (rk:Keyed->Int) (L:List Keyed):Prop :=
 ∀ x∈L,∀ y∈L,∀ (E:Value->Shared->Prop) (Q:Bool->Shared->Prop),Q (decide (rk x<rk y)) s->wpAny (model prog w) A (keyLt' κ x.1 y.1) Q E s
noncomputable def R (rk:Keyed->Int) (xs:Array Keyed) (i:Nat):Int:=match xs[i]? with | some p=>rk p | none=>0
theorem dU (h:xs[i]?=some p):R rk xs i=rk p:=by unfold R; rw [h]
theorem cy (h:xs[i]?=ys[j]?):R rk xs i=R rk ys j:=by unfold R; rw [h]
theorem lB {st:SortSt} (hC:iK prog w A s κ rk L) (hk:kindOf st=κ) (hx:x∈L) (hy:y∈L) (h:Q (some (decide (rk x<rk y))) st):wpS (model prog w) A E s (lt' x y) Q st:=by
 rw [lt'_eq]
 refine PV (Rv ?_)
 rw [hk]
 refine PV (Sm (RQ (hC x hx y hy _ _ ⟨rfl,?_⟩)))
 exact PX h
theorem aU {st:SortSt} (hi:arr[i]?=some p) (h:Q p st):wpS (model prog w) A E s (elem' arr i) Q st:=by
 rw [elem'_eq,hi]; exact PX h
theorem yc {st:SortSt} (hC:iK prog w A s κ rk L) (hk:kindOf st=κ) (hi:(arrOf st)[i]?=some p) (hj:(arrOf st)[j]?=some q) (hp:p∈L) (hq:q∈L)
 (h:Q (some (decide (R rk (arrOf st) i<R rk (arrOf st) j))) st):wpS (model prog w) A E s (ltAt' i j) Q st:=by
 rw [ltAt'_eq]
 refine PV (Rv ?_)
 show wpS _ _ _ _ (do let x <- elem' (arrOf st) i; let y <- elem' (arrOf st) j; lt' x y) Q st
 refine PV (aU hi (PV (aU hj (lB hC hk hp hq ?_))))
 rw [dU hi,dU hj] at h
 exact h
theorem tP {st:SortSt} (hC:iK prog w A s κ rk L) (hk:kindOf st=κ) (hkey:key∈L) (hi:arr[base+i]?=some p) (hp:p∈L)
 (hb:(if left=true then rk p<rk key else rk p<=rk key)↔i<k) (h:Q (some (decide (i<k))) st):wpS (model prog w) A E s (dS left key arr base i) Q st:=by
 unfold dS
 refine PV (aU hi ?_)
 cases left with
 | true =>
  simp only [if_true] at hb |-
  refine lB hC hk hp hkey ?_
  rw [decide_eq_decide.mpr hb]; exact h
 | false =>
  simp only [QU,if_false] at hb |-
  refine PV (lB hC hk hkey hp (PX ?_))
  have e:(!decide (rk key<rk p))=decide (i<k):=by
   rw [<- decide_not]; exact decide_eq_decide.mpr (by rw [<- hb]; omega)
  rw [Option.map_some,e]; exact h
theorem lC {st:SortSt} {n lo hi k:Nat} (hb:∀ i,i<n->∀ (Q:Option Bool->SortSt->Prop),Q (some (decide (i<k))) st->wpS (model prog w) A E s (bey i) Q st)
 (h1:lo<=k) (h2:k<=hi) (h3:hi<=n) (h:Q (some k) st):wpS (model prog w) A E s (lz bey n lo hi) Q st:=by
 unfold lz
 refine PV (QD (Q7 (I:=λx c st'=>st'=st/\∃ l r,c=(none,l,r)/\l<=k/\k<=r/\r<=n/\r - l<=n - x) (Q:=λc st'=>st'=st/\∃ l,c=(none,l,k)) ?step ?fin ⟨rfl,lo,hi,rfl,h1,h2,h3,by omega⟩) ?post)
 case fin =>
  rintro c st' ⟨rfl,l,r,rfl,a1,a2,a3,a4⟩
  have:r=k:=by omega
  subst this
  exact ⟨rfl,l,rfl⟩
 case step =>
  rintro x c st' _ hx ⟨rfl,l,r,rfl,a1,a2,a3,a4⟩
  dsimp only
  by_cases hge:l>=r
  ·rw [if_pos hge]
   have:r=k:=by omega
   subst this
   exact PX ⟨rfl,l,rfl⟩
  ·rw [if_neg hge]
   refine PV (hb _ (by omega) _ ?_)
   dsimp only
   by_cases hm:l+(r - l) / 2<k
   ·rw [decide_eq_true hm,if_pos rfl]
    exact PX ⟨rfl,_,_,rfl,by omega,by omega,by omega,by omega⟩
   ·rw [decide_eq_false hm,if_neg P5]
    exact PX ⟨rfl,_,_,rfl,by omega,by omega,by omega,by omega⟩
 case post =>
  rintro c st' ⟨rfl,l,rfl⟩
  exact PX h
theorem fO {st:SortSt} (hC:iK prog w A s κ rk L) (hk:kindOf st=κ) (hkey:key∈L) (harr:∀ i,i<n->∃ p,arr[base+i]?=some p/\p∈L)
 (hb:∀ i,i<n->((if left=true then R rk arr (base+i)<rk key else R rk arr (base+i)<=rk key)↔i<k)) (hkn:k<=n) (hh:hint<n) (h:Q (some k) st):wpS (model prog w) A E s (cW left key arr base n hint) Q st:=by
 have bey:∀ i,i<n->∀ (Q:Option Bool->SortSt->Prop),Q (some (decide (i<k))) st->wpS (model prog w) A E s (dS left key arr base i) Q st:=λi hi Q hQ=>by
  obtain ⟨p,e,hp⟩:=harr i hi
  refine tP hC hk hkey e hp ?_ hQ
  have:=hb i hi
  rw [dU e] at this
  exact this
 rw [tO]
 refine PV (bey hint hh _ ?_)
 dsimp only
 by_cases hr:hint<k
 ·rw [decide_eq_true hr,if_pos rfl]
  unfold Be
  refine PV (QD (Q7 (I:=λx c st'=>st'=st/\∃ l o,c=(none,l,o)/\hint+l<k/\x<o) (Q:=λc st'=>st'=st/\∃ l o,c=(none,l,o)/\hint+l<k/\(k<=hint+o\/n - hint<=o)) ?step ?fin ⟨rfl,0,1,rfl,hr,by omega⟩) ?post)
  case fin =>
   rintro c st' ⟨rfl,l,o,rfl,a1,a2⟩
   exact ⟨rfl,l,o,rfl,a1,.inr (by omega)⟩
  case step =>
   rintro x c st' _ hx ⟨rfl,l,o,rfl,a1,a2⟩
   dsimp only
   by_cases hge:o>=n - hint
   ·rw [if_pos hge]; exact PX ⟨rfl,l,o,rfl,a1,.inr hge⟩
   ·rw [if_neg hge]
    refine PV (bey _ (by omega) _ ?_)
    dsimp only
    by_cases hm:hint+o<k
    ·rw [decide_eq_true hm]; simp only [Ud,QU,if_false]
     exact PX ⟨rfl,o,2 * o+1,rfl,hm,by omega⟩
    ·rw [decide_eq_false hm]; simp only [Bool.not_false,if_true]
     exact PX ⟨rfl,l,o,rfl,a1,.inl (by omega)⟩
  case post =>
   rintro c st' ⟨rfl,l,o,rfl,a1,a2⟩
   dsimp only
   exact lC bey (by omega) (by omega) (by omega) h
 ·rw [decide_eq_false hr,if_neg P5]
  unfold Bf
  refine PV (QD (Q7 (I:=λx c st'=>st'=st/\∃ l o,c=(none,l,o)/\l<=hint/\k<=hint - l/\x<o) (Q:=λc st'=>st'=st/\∃ l o,c=(none,l,o)/\l<=hint/\k<=hint - l/\(hint+1<=k+o\/hint+1<=o)) ?step ?fin ⟨rfl,0,1,rfl,by omega,by omega,by omega⟩) ?post)
  case fin =>
   rintro c st' ⟨rfl,l,o,rfl,a1,a2,a3⟩
   exact ⟨rfl,l,o,rfl,a1,a2,.inr (by omega)⟩
  case step =>
   rintro x c st' _ hx ⟨rfl,l,o,rfl,a1,a2,a3⟩
   dsimp only
   by_cases hge:o>=hint+1
   ·rw [if_pos hge]; exact PX ⟨rfl,l,o,rfl,a1,a2,.inr hge⟩
   ·rw [if_neg hge]
    refine PV (bey _ (by omega) _ ?_)
    dsimp only
    by_cases hm:hint - o<k
    ·rw [decide_eq_true hm,if_pos rfl]
     exact PX ⟨rfl,l,o,rfl,a1,a2,.inl (by omega)⟩
    ·rw [decide_eq_false hm,if_neg P5]
     exact PX ⟨rfl,o,2 * o+1,rfl,by omega,by omega,by omega⟩
  case post =>
   rintro c st' ⟨rfl,l,o,rfl,a1,a2,a3⟩
   dsimp only
   exact lC bey (by omega) (by omega) (by omega) h
noncomputable def lD:Array Keyed->Array Keyed->StateT SortSt Sem (Array Keyed):=sortPriv% PySem.Builtin.mergeLo
theorem fP {st:SortSt} (h:Q () (Sj (kindOf st) (arrOf st) (pendingOf st) g (failedOf st))):wpS M A E s (cH g) Q st :=
 RJ (f:=λst=>Sj (kindOf st) (arrOf st) (pendingOf st) g (failedOf st)) h
section
variable {rk:Keyed->Int} {a b:Array Keyed}
def Bg (rk:Keyed->Int) (xs:List Keyed):Prop:=xs.Pairwise λp q=>rk p<=rk q
theorem vK (h:xs.length<=1):Bg rk xs:=by
 cases xs with
 | nil=>exact TZ
 | cons x xs =>
  cases xs with
  | nil=>exact Tf _ _
  | cons y ys=>simp at h
def Res (rk:Keyed->Int) (a b r:Array Keyed):Prop:=r.toList.Perm (a.toList++b.toList)/\Bg rk r.toList
structure WL (rk:Keyed->Int) (a b:Array Keyed) (out:Array Keyed) (ia ib:Nat):Prop where
 pa:ia<=a.size
 pb:ib<=b.size
 pm:out.toList.Perm (a.toList.take ia++b.toList.take ib)
 sr:Bg rk out.toList
 ha:∀ p∈out.toList,∀ (j:Nat) (q:Keyed),ia<=j->a[j]?=some q->rk p<=rk q
 hb:∀ p∈out.toList,∀ (j:Nat) (q:Keyed),ib<=j->b[j]?=some q->rk p<=rk q
def Up (rk:Keyed->Int) (a:Array Keyed):Prop:=∀ (i j:Nat) (p q:Keyed),i<=j->a[i]?=some p->a[j]?=some q->rk p<=rk q
theorem jx (h:Up rk a):Bg rk a.toList:=by
 unfold Bg
 rw [VB]
 intro i j hi hj hij
 exact h i j _ _ (Sg hij) (by simp at hi |-) (by simp at hj |-)
theorem JA (h:Bg rk a.toList):Up rk a:=λi j p q hij e1 e2=>by
 rw [<- QO] at e1 e2
 obtain ⟨h1,r1⟩:=Qa.mp e1
 obtain ⟨h2,r2⟩:=Qa.mp e2
 subst r1 r2
 rcases Nat.lt_or_eq_of_le hij with z | z
 ·exact (VB.mp h) i j h1 h2 z
 ·subst z; exact Rm _
theorem bO (h1:Bg rk xs) (h2:Bg rk ys) (h3:∀ p∈xs,∀ q∈ys,rk p<=rk q):Bg rk (xs++ys):=List.pairwise_append.mpr ⟨h1,h2,h3⟩
theorem dY (xs:Array Keyed) (i j):(xs.extract i j).toList=(xs.toList.take j).drop i:=by
 rw [List.drop_take]; simp [List.extract_eq_take_drop]
theorem gQ (xs:Array Keyed) (i):(xs.extract i xs.size).toList=xs.toList.drop i:=by
 rw [dY,R6 (by simp)]
theorem iZ (xs:Array Keyed) (i):(xs.extract i i).toList=[]:=by
 rw [dY,List.drop_take]; simp
theorem vL {xs:Array Keyed} (h:q∈(xs.extract i j).toList):∃ k,i<=k/\k<j/\xs[k]?=some q:=by
 obtain ⟨n,hn⟩:=Sv h
 rw [QO,UJ] at hn
 split at hn
 ·rename_i z
  exact ⟨i+n,by lia,by lia,hn⟩
 ·cases hn
theorem WL.jy (h:WL rk a b out ia ib) (ua:Up rk a) (e:ib=b.size):Res rk a b (out++a.extract ia a.size++b.extract ib b.size):=by
 subst e
 have e0:(out++a.extract ia a.size++b.extract b.size b.size).toList=out.toList++a.toList.drop ia:=by
  rw [Rc,Rc,gQ,gQ,List.drop_of_length_le (show b.toList.length<=b.size by simp),QX]
 refine ⟨?_,?_⟩
 ·rw [e0]
  have hp:=h.pm
  rw [R6 (show b.toList.length<=b.size by simp)] at hp
  refine (hp.append_right _).trans ?_
  have:(a.toList.take ia++b.toList++a.toList.drop ia).Perm (a.toList.take ia++a.toList.drop ia++b.toList):=by
   rw [Qn,Qn]
   exact Tg _ Ss
  rw [RE] at this
  exact this
 ·rw [e0]
  refine bO h.sr ((jx ua).sublist (Wc _ _)) λp hp q hq=>?_
  obtain ⟨n,hn⟩:=Sv hq
  rw [Tp] at hn
  exact h.ha p hp (ia+n) q (by lia) (by rw [<- QO]; exact hn)
theorem WL.jz (h:WL rk a b out ia ib) (ub:Up rk b) (e:ia=a.size):Res rk a b (out++a.extract ia a.size++b.extract ib b.size):=by
 subst e
 have e0:(out++a.extract a.size a.size++b.extract ib b.size).toList=out.toList++b.toList.drop ib:=by
  rw [Rc,Rc,gQ,gQ,List.drop_of_length_le (show a.toList.length<=a.size by simp),QX]
 refine ⟨?_,?_⟩
 ·rw [e0]
  have hp:=h.pm
  rw [R6 (show a.toList.length<=a.size by simp)] at hp
  refine (hp.append_right _).trans ?_
  rw [Qn,RE]
 ·rw [e0]
  refine bO h.sr ((jx ub).sublist (Wc _ _)) λp hp q hq=>?_
  obtain ⟨n,hn⟩:=Sv hq
  rw [Tp] at hn
  exact h.hb p hp (ib+n) q (by lia) (by rw [<- QO]; exact hn)
theorem WL.last (h:WL rk a b out ia ib) (ub:Up rk b) (e:ia+1=a.size) (hl:∀ (j:Nat) (p q:Keyed),a[ia]?=some p->b[j]?=some q->rk q<=rk p) :
 Res rk a b (out++b.extract ib b.size++a.extract ia a.size):=by
 have e0:(out++b.extract ib b.size++a.extract ia a.size).toList=out.toList++(b.toList.drop ib++a.toList.drop ia):=by
  rw [Rc,Rc,gQ,gQ,Qn]
 refine ⟨?_,?_⟩
 ·rw [e0]
  refine (h.pm.append_right _).trans ?_
  have:(a.toList.take ia++b.toList.take ib++(b.toList.drop ib++a.toList.drop ia)).Perm (a.toList.take ia++a.toList.drop ia++(b.toList.take ib++b.toList.drop ib)):=by
   rw [Qn,Qn]
   refine Tg _ ?_
   rw [<- Qn]
   exact Ss
  rw [RE,RE] at this
  exact this
 ·rw [e0]
  have ml:∀ q∈b.toList.drop ib,∃ j,ib<=j/\b[j]?=some q:=λq hq=>by
   obtain ⟨n,hn⟩:=Sv hq
   rw [Tp] at hn
   exact ⟨ib+n,by lia,by rw [<- QO]; exact hn⟩
  have ml2:∀ q∈a.toList.drop ia,a[ia]?=some q:=λq hq=>by
   obtain ⟨n,hn⟩:=Sv hq
   rw [Tp] at hn
   have:=(Qa.mp hn).1
   have hn0:n=0:=by simp at this; lia
   subst hn0
   rw [<- QO]; exact hn
  refine bO h.sr (bO ((jx ub).sublist (Wc _ _)) ?_ λp hp q hq=>?_) λp hp q hq=>?_
  ·exact vK (by simp; lia)
  ·obtain ⟨j,_,e1⟩:=ml p hp
   exact hl j q p (ml2 q hq) e1
  ·rcases Qq.mp hq with z | z
   ·obtain ⟨j,h1,e1⟩:=ml q z
    exact h.hb p hp j q h1 e1
   ·exact h.ha p hp ia q (PU _) (ml2 q z)
theorem cX {xs:Array Keyed} (h:xs[i]?=some p):xs.toList.take (i+1)=xs.toList.take i++[p]:=by
 rw [UX,QO,h]; rfl
theorem WL.gm {out:Array Keyed} {ia ib:Nat} {p:Keyed} (h:WL rk a b out ia ib) (ub:Up rk b) (e:b[ib]?=some p) (hl:∀ (j:Nat) (q:Keyed),ia<=j->a[j]?=some q->rk p<=rk q):WL rk a b (out.push p) ia (ib+1) where
 pa:=h.pa
 pb:=(Te.mp e).1
 pm:=by
  rw [QF,cX e,<- Qn]
  exact h.pm.append_right _
 sr:=by
  rw [QF]
  exact bO h.sr (Tf _ _) λq hq r hr=>by
   rw [Qg.mp hr]; exact h.hb q hq ib p (PU _) e
 ha:=λq hq j r hj er=>by
  rw [QF] at hq
  rcases Qq.mp hq with z | z
  ·exact h.ha q z j r hj er
  ·rw [Qg.mp z]; exact hl j r hj er
 hb:=λq hq j r hj er=>by
  rw [QF] at hq
  rcases Qq.mp hq with z | z
  ·exact h.hb q z j r (by lia) er
  ·rw [Qg.mp z]; exact ub ib j p r (by lia) e er
theorem WL.gn {out:Array Keyed} {ia ib:Nat} {p:Keyed} (h:WL rk a b out ia ib) (ua:Up rk a) (e:a[ia]?=some p) (hl:∀ (j:Nat) (q:Keyed),ib<=j->b[j]?=some q->rk p<=rk q):WL rk a b (out.push p) (ia+1) ib where
 pa:=(Te.mp e).1
 pb:=h.pb
 pm:=by
  rw [QF,cX e]
  refine (h.pm.append_right _).trans ?_
  rw [Qn,Qn]
  exact Tg _ Ss
 sr:=by
  rw [QF]
  exact bO h.sr (Tf _ _) λq hq r hr=>by
   rw [Qg.mp hr]; exact h.ha q hq ia p (PU _) e
 hb:=λq hq j r hj er=>by
  rw [QF] at hq
  rcases Qq.mp hq with z | z
  ·exact h.hb q z j r hj er
  ·rw [Qg.mp z]; exact hl j r hj er
 ha:=λq hq j r hj er=>by
  rw [QF] at hq
  rcases Qq.mp hq with z | z
  ·exact h.ha q z j r (by lia) er
  ·rw [Qg.mp z]; exact ua ia j p r (by lia) e er
theorem WL.qM (h:WL rk a b out ia ib) (ua:Up rk a):∀ (k:Nat),ia+k<=a.size->(∀ (i j:Nat) (p q:Keyed),ia<=i->i<ia+k->ib<=j->a[i]?=some p->b[j]?=some q->rk p<=rk q)->WL rk a b (out++a.extract ia (ia+k)) (ia+k) ib
 | 0,_,_=>by
  have:out++a.extract ia (ia+0)=out:=by
   apply Sk
   rw [Rc,Nat.add_zero,iZ,QX]
  rw [this]; exact h
 | k+1,hk,hl=>by
  have ih:=h.qM ua k (by lia) λi j p q h1 h2=>hl i j p q h1 (by lia)
  have e:a[ia+k]?=some (a[ia+k]'(by lia)):=Qt _
  have z:=ih.gn ua e λj q hj eq=>hl _ j _ q (by lia) (by lia) hj e eq
  have:out++a.extract ia (ia+(k+1))=(out++a.extract ia (ia+k)).push (a[ia+k]'(by lia)):=by
   apply Sk
   simp only [Rc,QF,dY]
   rw [show ia+(k+1)=(ia+k)+1 by lia,cX e,Wz (by simp; lia),Qn]
  rw [this]; exact z
theorem WL.qN (h:WL rk a b out ia ib) (ub:Up rk b):∀ (k:Nat),ib+k<=b.size->(∀ (i j:Nat) (p q:Keyed),ib<=i->i<ib+k->ia<=j->b[i]?=some p->a[j]?=some q->rk p<=rk q)->WL rk a b (out++b.extract ib (ib+k)) ia (ib+k)
 | 0,_,_=>by
  have:out++b.extract ib (ib+0)=out:=by
   apply Sk
   rw [Rc,Nat.add_zero,iZ,QX]
  rw [this]; exact h
 | k+1,hk,hl=>by
  have ih:=h.qN ub k (by lia) λi j p q h1 h2=>hl i j p q h1 (by lia)
  have e:b[ib+k]?=some (b[ib+k]'(by lia)):=Qt _
  have z:=ih.gm ub e λj q hj eq=>hl _ j _ q (by lia) (by lia) hj e eq
  have:out++b.extract ib (ib+(k+1))=(out++b.extract ib (ib+k)).push (b[ib+k]'(by lia)):=by
   apply Sk
   simp only [Rc,QF,dY]
   rw [show ib+(k+1)=(ib+k)+1 by lia,cX e,Wz (by simp; lia),Qn]
  rw [this]; exact z
end
section
variable {prog:Program} {w:World} {A:Around} {E:Value->Shared->Prop} {s:Shared} {L:List Keyed} {κ:SortKind} {rk:Keyed->Int} {a b:Array Keyed}
theorem lE (f:Nat->Int) (c):∀ n,(∀ i j,i<=j->j<n->f i<=f j)->∃ k,k<=n/\∀ i,i<n->(f i<=c↔i<k)
 | 0,_=>⟨0,PU _,λi hi=>by lia⟩
 | n+1,hm=>by
  obtain ⟨k,h1,h2⟩:=lE f c n λi j hij hj=>hm i j hij (by lia)
  by_cases hc:f n<=c
  ·refine ⟨n+1,PU _,λi hi=>⟨λ_=>hi,λ_=>?_⟩⟩
   exact QA (hm i n (by lia) (by lia)) hc
  ·refine ⟨k,by lia,λi hi=>?_⟩
   by_cases hin:i<n
   ·exact h2 i hin
   ·have:i=n:=by lia
    subst this
    exact ⟨λz=>absurd z hc,λz=>by lia⟩
theorem lF (f:Nat->Int) (c):∀ n,(∀ i j,i<=j->j<n->f i<=f j)->∃ k,k<=n/\∀ i,i<n->(f i<c↔i<k)
 | 0,_=>⟨0,PU _,λi hi=>by lia⟩
 | n+1,hm=>by
  obtain ⟨k,h1,h2⟩:=lF f c n λi j hij hj=>hm i j hij (by lia)
  by_cases hc:f n<c
  ·refine ⟨n+1,PU _,λi hi=>⟨λ_=>hi,λ_=>?_⟩⟩
   exact UT (hm i n (by lia) (by lia)) hc
  ·refine ⟨k,by lia,λi hi=>?_⟩
   by_cases hin:i<n
   ·exact h2 i hin
   ·have:i=n:=by lia
    subst this
    exact ⟨λz=>absurd z hc,λz=>by lia⟩
theorem Mw (h:Up rk a) (hij:i<=j) (hj:j<a.size):R rk a i<=R rk a j:=by
 have e1:a[i]?=some (a[i]'(by lia)):=Qt _
 have e2:a[j]?=some a[j]:=Qt _
 rw [dU e1,dU e2]
 exact h i j _ _ hij e1 e2
structure cY (st st':SortSt):Prop where
 k:kindOf st'=kindOf st
 a:arrOf st'=arrOf st
 p:pendingOf st'=pendingOf st
 f:failedOf st'=failedOf st
theorem cY.refl (st:SortSt):cY st st:=⟨rfl,rfl,rfl,rfl⟩
theorem cY.min {st st':SortSt} (h:cY st st') (g):cY st (Sj (kindOf st') (arrOf st') (pendingOf st') g (failedOf st')):=⟨h.k,h.a,h.p,h.f⟩
theorem cY.trans (h:cY s1 s2) (g:cY s2 s3):cY s1 s3:=⟨g.k.trans h.k,g.a.trans h.a,g.p.trans h.p,g.f.trans h.f⟩
theorem qO {st:SortSt} (hC:iK prog w A s κ rk L) (hk:kindOf st=κ) (hkey:key∈L) (mx:∀ (i:Nat) (p:Keyed),xs[i]?=some p->p∈L) (ux:Up rk xs) (n) (hn:base+n<=xs.size) (hh:hint<n)
 (h:∀ k,k<=n->(∀ (i:Nat) (p:Keyed),i<k->xs[base+i]?=some p->rk p<=rk key)->(∀ (i:Nat) (p:Keyed),k<=i->base+i<base+n->xs[base+i]?=some p->rk key<rk p)->Q (some k) st) :
 wpS (model prog w) A E s (cW false key xs base n hint) Q st:=by
 obtain ⟨k,h1,h2⟩:=lE (λi=>R rk xs (base+i)) (rk key) n λi j hij hj=>Mw ux (by lia) (by lia)
 refine fO hC hk hkey (λi hi=>⟨xs[base+i]'(by lia),Qt _,mx _ _ (Qt _)⟩) (λi hi=>by simp only [QU,if_false]; exact h2 i hi) h1 hh (h k h1 (λi p hi e=>?_) λi p hi hb e=>?_)
 ·have:=(h2 i (by lia)).mpr hi
  rw [dU e] at this; exact this
 ·have:=mt (h2 i (by lia)).mp (by lia)
  rw [dU e] at this; lia
theorem qP {st:SortSt} (hC:iK prog w A s κ rk L) (hk:kindOf st=κ) (hkey:key∈L) (mx:∀ (i:Nat) (p:Keyed),xs[i]?=some p->p∈L) (ux:Up rk xs) (n) (hn:base+n<=xs.size) (hh:hint<n)
 (h:∀ k,k<=n->(∀ (i:Nat) (p:Keyed),i<k->xs[base+i]?=some p->rk p<rk key)->(∀ (i:Nat) (p:Keyed),k<=i->base+i<base+n->xs[base+i]?=some p->rk key<=rk p)->Q (some k) st) :
 wpS (model prog w) A E s (cW true key xs base n hint) Q st:=by
 obtain ⟨k,h1,h2⟩:=lF (λi=>R rk xs (base+i)) (rk key) n λi j hij hj=>Mw ux (by lia) (by lia)
 refine fO hC hk hkey (λi hi=>⟨xs[base+i]'(by lia),Qt _,mx _ _ (Qt _)⟩) (λi hi=>by simp only [if_true]; exact h2 i hi) h1 hh (h k h1 (λi p hi e=>?_) λi p hi hb e=>?_)
 ·have:=(h2 i (by lia)).mpr hi
  rw [dU e] at this; exact this
 ·have:=mt (h2 i (by lia)).mp (by lia)
  rw [dU e] at this; lia
structure mC (rk:Keyed->Int) (a b out:Array Keyed) (ia ib:Nat):Prop where
 w:WL rk a b out ia ib
 la:ia+1<a.size
 lb:ib<b.size
end
section
local macro_rules | `(tactic| walk_at "dl mergeLo")=>do
 let i:=SM (Sq `PySem.Builtin.List.W1All `PySem.Builtin.mergeLo)
 `(tactic| delta $i)
noncomputable abbrev Bh:=Option (Array Keyed)×Array Keyed×Nat×Nat×Nat×Nat×Nat
noncomputable def GY (a b out:Array Keyed) (ia ib:Nat):Array Keyed:=out++a.extract ia a.size++b.extract ib b.size
noncomputable def DI (a b out:Array Keyed) (ia ib:Nat):Array Keyed:=out++b.extract ib b.size++a.extract ia a.size
noncomputable def vM (a b:Array Keyed) (mg ac bc ia ib:Nat) (out:Array Keyed):StateT SortSt Sem (ForInStep Bh):=do
 let p <- elem' a ia
 if (ia+1+1 == a.size)=true then pure (.done (some (DI a b (out.push p) (ia+1) ib),out.push p,ia+1,ib,mg,ac,bc))
 else if (decide (ac<7) && decide (bc<7))=true then pure (.done (none,out.push p,ia+1,ib,mg,ac,bc))
 else pure (.yield (none,out.push p,ia+1,ib,mg,ac,bc))
noncomputable def vN (a b:Array Keyed) (mg ac bc ia ib:Nat) (out:Array Keyed):StateT SortSt Sem (ForInStep Bh):=do
 let q <- elem' b ib
 if (ib+1 == b.size)=true then pure (.done (some (GY a b (out.push q) ia (ib+1)),out.push q,ia,ib+1,mg,ac,bc))
 else do
  let p <- elem' a ia
  let x <- cW true p b (ib+1) (b.size - (ib+1)) 0
  match x with
  | some k=>(if k>0 then
   (if (ib+1+k == b.size)=true then pure (.done (some (GY a b (out.push q++b.extract (ib+1) (ib+1+k)) ia (ib+1+k)),out.push q++b.extract (ib+1) (ib+1+k),ia,ib+1+k,mg,ac,k))
    else vM a b mg ac k ia (ib+1+k) (out.push q++b.extract (ib+1) (ib+1+k)))
   else vM a b mg ac k ia (ib+1) (out.push q))
  | _=>pure (.done (some (GY a b (out.push q) ia (ib+1)),out.push q,ia,ib+1,mg,ac,bc))
noncomputable def vO (a b:Array Keyed) (mg ac bc ia ib:Nat) (out:Array Keyed):StateT SortSt Sem (ForInStep Bh):=do
 cH mg
 let q <- elem' b ib
 let x <- cW false q a ia (a.size - ia) 0
 match x with
 | some k=>(if k>0 then
  (if (ia+k+1 == a.size)=true then pure (.done (some (DI a b (out++a.extract ia (ia+k)) (ia+k) ib),out++a.extract ia (ia+k),ia+k,ib,mg,k,bc))
   else if (ia+k == a.size)=true then pure (.done (some (GY a b (out++a.extract ia (ia+k)) (ia+k) ib),out++a.extract ia (ia+k),ia+k,ib,mg,k,bc))
   else vN a b mg k bc (ia+k) ib (out++a.extract ia (ia+k)))
  else vN a b mg k bc ia ib out)
 | _=>pure (.done (some (GY a b out ia ib),out,ia,ib,mg,ac,bc))
noncomputable def Bj (a b:Array Keyed) (c:Bh):StateT SortSt Sem (ForInStep Bh) :=
 if c.2.2.2.2.1>1 then vO a b (c.2.2.2.2.1 - 1) c.2.2.2.2.2.1 c.2.2.2.2.2.2 c.2.2.1 c.2.2.2.1 c.2.1 else vO a b c.2.2.2.2.1 c.2.2.2.2.2.1 c.2.2.2.2.2.2 c.2.2.1 c.2.2.2.1 c.2.1
noncomputable abbrev JB:=Option (Array Keyed)×Array Keyed×Nat×Nat×Nat×Nat
noncomputable def Bk (a b:Array Keyed) (mg:Nat) (c:JB):StateT SortSt Sem (ForInStep JB):=do
 let q <- elem' b c.2.2.2.1
 let p <- elem' a c.2.2.1
 let x <- lt' q p
 match x with
 | some y=>(if y=true then (do
  let q <- elem' b c.2.2.2.1
  if (c.2.2.2.1+1 == b.size)=true then pure (.done (some (GY a b (c.2.1.push q) c.2.2.1 (c.2.2.2.1+1)),c.2.1.push q,c.2.2.1,c.2.2.2.1+1,0,c.2.2.2.2.2+1))
  else if c.2.2.2.2.2+1>=mg then pure (.done (none,c.2.1.push q,c.2.2.1,c.2.2.2.1+1,0,c.2.2.2.2.2+1))
  else pure (.yield (none,c.2.1.push q,c.2.2.1,c.2.2.2.1+1,0,c.2.2.2.2.2+1)))
  else (do
   let p <- elem' a c.2.2.1
   if (c.2.2.1+1+1 == a.size)=true then pure (.done (some (DI a b (c.2.1.push p) (c.2.2.1+1) c.2.2.2.1),c.2.1.push p,c.2.2.1+1,c.2.2.2.1,c.2.2.2.2.1+1,0))
   else if c.2.2.2.2.1+1>=mg then pure (.done (none,c.2.1.push p,c.2.2.1+1,c.2.2.2.1,c.2.2.2.2.1+1,0))
   else pure (.yield (none,c.2.1.push p,c.2.2.1+1,c.2.2.2.1,c.2.2.2.2.1+1,0))))
 | _=>pure (.done (some (GY a b c.2.1 c.2.2.1 c.2.2.2.1),c.2.1,c.2.2.1,c.2.2.2.1,c.2.2.2.2.1,c.2.2.2.2.2))
noncomputable abbrev ES:=Option (Array Keyed)×Array Keyed×Nat×Nat×Nat
noncomputable def oM (a b:Array Keyed) (c:ES):StateT SortSt Sem (ForInStep ES):=do
 let s <- forIn [:a.size+b.size] ((none,c.2.1,c.2.2.1,c.2.2.2.1,0,0):JB) λ_ s=>Bk a b c.2.2.2.2 s
 match s.1 with
 | some r=>pure (.done (some r,s.2.1,s.2.2.1,s.2.2.2.1,c.2.2.2.2))
 | none=>do
  liftM (rule "list.sort.gallop")
  let t <- forIn [:a.size+b.size] ((none,s.2.1,s.2.2.1,s.2.2.2.1,c.2.2.2.2+1,s.2.2.2.2.1,s.2.2.2.2.2):Bh) λ_ t=>Bj a b t
  match t.1 with
  | some r=>pure (.done (some r,t.2.1,t.2.2.1,t.2.2.2.1,t.2.2.2.2.1))
  | none=>do
   cH (t.2.2.2.2.1+1)
   pure (.yield (none,t.2.1,t.2.2.1,t.2.2.2.1,t.2.2.2.2.1+1))
theorem qQ (a b):lD a b=(do
 liftM (rule "list.sort.merge-lo")
 let p <- elem' b 0
 if (1 == b.size)=true then pure (GY a b #[p] 0 1)
 else if (0+1 == a.size)=true then pure (DI a b #[p] 0 1)
 else do
  let st <- get
  let s <- forIn [:a.size+b.size] ((none,#[p],0,1,gallopOf st):ES) λ_ c=>oM a b c
  match s.1 with
  | some r=>pure r
  | none=>liftM (unsupported (α:=Array Keyed) "internal:list.sort.merge-bound")):=by
 unfold lD
 walk_at "dl mergeLo"
 dsimp only
 refine congrArg _ (funext λ_=>?_)
 refine congrArg _ (funext λp=>?_)
 refine congrArg _ (congrArg _ ?_)
 refine congrArg _ (funext λst=>?_)
 have e:∀ (f g:Nat->ES->StateT SortSt Sem (ForInStep ES)) (c:ES) (k:ES->StateT SortSt Sem (Array Keyed)),f=g->(forIn [:a.size+b.size] c f >>= k)=(forIn [:a.size+b.size] c g >>= k):=λ_ _ _ _ h=>by rw [h]
 refine (e _ _ _ _ (funext λ_=>funext λc=>?_)).trans (congrArg _ (funext λs=>?_))
 ·obtain ⟨o,out,ia,ib,mg⟩:=c
  unfold oM
  dsimp only
  have e2:∀ (f g:Nat->JB->StateT SortSt Sem (ForInStep JB)) (c:JB) (k l:JB->StateT SortSt Sem (ForInStep ES)),f=g->k=l->(forIn [:a.size+b.size] c f >>= k)=(forIn [:a.size+b.size] c g >>= l):=λ_ _ _ _ _ h h2=>by rw [h,h2]
  refine e2 _ _ _ _ _ (funext λ_=>funext λc=>?_) (funext λs=>?_)
  ·rfl
  ·obtain ⟨o,out,ia,ib,ac,bc⟩:=s
   cases o with
   | some r=>rfl
   | none =>
    dsimp only
    refine congrArg _ (funext λ_=>?_)
    have e3:∀ (f g:Nat->Bh->StateT SortSt Sem (ForInStep Bh)) (c:Bh) (k l:Bh->StateT SortSt Sem (ForInStep ES)),f=g->k=l->(forIn [:a.size+b.size] c f >>= k)=(forIn [:a.size+b.size] c g >>= l):=λ_ _ _ _ _ h h2=>by rw [h,h2]
    refine e3 _ _ _ _ _ (funext λ_=>funext λc=>?_) (funext λs=>?_)
    ·rfl
    ·obtain ⟨o,s⟩:=s
     cases o <;> rfl
 ·obtain ⟨o,s⟩:=s
  cases o <;> rfl
end
theorem some_at {xs:Array Keyed} (h:i<xs.size):∃ p,xs[i]?=some p:=⟨xs[i],Qt h⟩
def ET (rk:Keyed->Int) (a b:Array Keyed) (n:Nat) (o:Option (Array Keyed)) (ia ib:Nat) (out:Array Keyed):Prop:=(∃ r,o=some r/\Res rk a b r)\/(o=none/\mC rk a b out ia ib/\n<=ia+ib)
noncomputable def EU (rk:Keyed->Int) (a b:Array Keyed) (n:Nat):ForInStep Bh->Prop
 | .done c=>ET rk a b n c.1 c.2.2.1 c.2.2.2.1 c.2.1
 | .yield c=>c.1=none/\mC rk a b c.2.1 c.2.2.1 c.2.2.2.1/\n<=c.2.2.1+c.2.2.2.1
theorem ni {st:SortSt} (lA:∀ {out:Array Keyed} {ia ib:Nat},WL rk a b out ia ib->ia+1=a.size->Res rk a b (DI a b out ia ib)) (W:WL rk a b out ia ib) (ua:Up rk a) (la:ia+1<a.size) (lb:ib<b.size) (ep:a[ia]?=some p)
 (hl:∀ (j:Nat) (r:Keyed),ib<=j->b[j]?=some r->rk p<=rk r) (hn:n<=ia+1+ib) (hQ:∀ x,EU rk a b n x->Q x st):wpS (model prog w) A E s (vM a b mg ac bc ia ib out) Q st:=by
 unfold vM
 have W4:=W.gn ua ep hl
 refine PV (aU ep ?_)
 by_cases e9:ia+1+1=a.size
 ·rw [if_pos (by simpa using e9)]
  exact PX (hQ _ (.inl ⟨_,rfl,lA W4 e9⟩))
 rw [if_neg (by simpa using e9)]
 have hL:mC rk a b (out.push p) (ia+1) ib:=⟨W4,Nat.lt_of_le_of_ne la e9,lb⟩
 split
 ·exact PX (hQ _ (.inr ⟨rfl,hL,hn⟩))
 ·exact PX (hQ _ ⟨rfl,hL,hn⟩)
theorem oN {xs:Array Keyed} {i j:Nat} (h:i<=j) (e:xs[j]?=some p):xs[i+(j - i)]?=some p:=by rw [VV h]; exact e
theorem nj {st:SortSt} (hC:iK prog w A s κ rk L) (hk:kindOf st=κ) (ma:∀ (i:Nat) (p:Keyed),a[i]?=some p->p∈L) (mb:∀ (i:Nat) (p:Keyed),b[i]?=some p->p∈L)
 (lA:∀ {out:Array Keyed} {ia ib:Nat},WL rk a b out ia ib->ia+1=a.size->Res rk a b (DI a b out ia ib)) (W:WL rk a b out ia ib) (ua:Up rk a) (ub:Up rk b) (la:ia+1<a.size) (lb:ib<b.size) (eq:b[ib]?=some q)
 (hl:∀ (j:Nat) (r:Keyed),ia<=j->a[j]?=some r->rk q<=rk r) (hn:n<=ia+ib+2) (hQ:∀ x,EU rk a b n x->Q x st):wpS (model prog w) A E s (vN a b mg ac bc ia ib out) Q st:=by
 unfold vN
 have W2:=W.gm ub eq hl
 refine PV (aU eq ?_)
 by_cases e5:ib+1=b.size
 ·rw [if_pos (by simpa using e5)]
  exact PX (hQ _ (.inl ⟨_,rfl,W2.jy ua e5⟩))
 rw [if_neg (by simpa using e5)]
 obtain ⟨p,ep⟩:=some_at (xs:=a) (i:=ia) (by lia)
 refine PV (aU ep ?_)
 refine PV (qP hC hk (ma _ _ ep) mb ub _ (by lia) (by lia) λk hj1 hj2 hj3=>?_)
 dsimp only
 have W3:=W2.qN ub k (by lia) λi j r p' z1 z2 z3 e6 e7=>QA (R1 (hj2 (i - (ib+1)) r (by lia) (oN z1 e6))) (ua ia j p p' z3 ep e7)
 have bwd:∀ (j:Nat) (r:Keyed),ib+1+k<=j->b[j]?=some r->rk p<=rk r:=λj r hj e6=>hj3 (j - (ib+1)) r (by lia) (by have:=(Te.mp e6).1; lia) (oN (P7 (RO _ _) hj) e6)
 by_cases hj0:k>0
 ·rw [if_pos hj0]
  by_cases e8:ib+1+k=b.size
  ·rw [if_pos (by simpa using e8)]
   exact PX (hQ _ (.inl ⟨_,rfl,W3.jy ua e8⟩))
  rw [if_neg (by simpa using e8)]
  exact ni lA W3 ua la (by lia) ep bwd (by lia) hQ
 ·rw [if_neg hj0]
  exact ni lA W2 ua la (by lia) ep (λj r hj e6=>bwd j r (by lia) e6) (by lia) hQ
theorem nk {st:SortSt} (hC:iK prog w A s κ rk L) (hk:kindOf st=κ) (ma:∀ (i:Nat) (p:Keyed),a[i]?=some p->p∈L) (mb:∀ (i:Nat) (p:Keyed),b[i]?=some p->p∈L)
 (lA:∀ {out:Array Keyed} {ia ib:Nat},WL rk a b out ia ib->ia+1=a.size->Res rk a b (DI a b out ia ib)) (ua:Up rk a) (ub:Up rk b) (hL:mC rk a b out ia ib) (hn:n<=ia+ib) (hQ:∀ x st',cY st st'->EU rk a b n x->Q x st') :
 wpS (model prog w) A E s (vO a b mg ac bc ia ib out) Q st:=by
 unfold vO
 have W:=hL.w
 have la:=hL.la
 have lb:=hL.lb
 obtain ⟨q,eq⟩:=some_at (xs:=b) lb
 refine PV (fP ?_)
 have HH:=λx=>hQ x _ ((cY.refl st).min mg)
 refine PV (aU eq ?_)
 refine PV (qO hC (by exact hk) (mb _ _ eq) ma ua _ (by lia) (by lia) λk hk1 hk2 hk3=>?_)
 dsimp only
 have Wk:=W.qM ua k (by lia) λi j p r z1 z2 z3 e3 e4=>QA (hk2 (i - ia) p (by lia) (oN z1 e3)) (ub ib j q r z3 eq e4)
 have fwd:∀ (j:Nat) (r:Keyed),ia+k<=j->a[j]?=some r->rk q<=rk r:=λj r hj e3=>R1 (hk3 (j - ia) r (by lia) (by have:=(Te.mp e3).1; lia) (oN (P7 (RO _ _) hj) e3))
 by_cases hk0:k>0
 ·rw [if_pos hk0]
  by_cases e3:ia+k+1=a.size
  ·rw [if_pos (by simpa using e3)]
   exact PX (HH _ (.inl ⟨_,rfl,lA Wk e3⟩))
  rw [if_neg (by simpa using e3)]
  by_cases e4:ia+k=a.size
  ·rw [if_pos (by simpa using e4)]
   exact PX (HH _ (.inl ⟨_,rfl,Wk.jz ub e4⟩))
  rw [if_neg (by simpa using e4)]
  exact nj hC (by exact hk) ma mb lA Wk ua ub (by lia) lb eq fwd (by lia) HH
 ·rw [if_neg hk0]
  exact nj hC (by exact hk) ma mb lA W ua ub la lb eq (λj r hj e3=>fwd j r (by lia) e3) (by lia) HH
theorem yd {st:SortSt} (hC:iK prog w A s κ rk L) (hk:kindOf st=κ) (ma:∀ (i:Nat) (p:Keyed),a[i]?=some p->p∈L) (mb:∀ (i:Nat) (p:Keyed),b[i]?=some p->p∈L)
 (lA:∀ {out:Array Keyed} {ia ib:Nat},WL rk a b out ia ib->ia+1=a.size->Res rk a b (DI a b out ia ib)) (ua:Up rk a) (ub:Up rk b) (hL:mC rk a b c.2.1 c.2.2.1 c.2.2.2.1) (hn:n<=c.2.2.1+c.2.2.2.1+1)
 (hQ:∀ o ia ib out z y,ET rk a b n o ia ib out->Q (.done (o,out,ia,ib,z)) st/\(o=none->Q (.yield (none,out,ia,ib,y)) st)):wpS (model prog w) A E s (Bk a b mg c) Q st:=by
 obtain ⟨_,out,ia,ib,ac,bc⟩:=c
 unfold Bk
 dsimp only at hL hn |-
 have W:=hL.w
 have la:=hL.la
 have lb:=hL.lb
 obtain ⟨q,eq⟩:=some_at (xs:=b) lb
 obtain ⟨p,ep⟩:=some_at (xs:=a) (Nat.lt_of_succ_lt la)
 refine PV (aU eq (PV (aU ep (PV (lB hC hk (mb _ _ eq) (ma _ _ ep) ?_)))))
 dsimp only
 by_cases hw:rk q<rk p
 ·rw [decide_eq_true hw,if_pos rfl]
  have W1:=W.gm ub eq λj r hj e=>QA (R1 hw) (ua ia j p r hj ep e)
  refine PV (aU eq ?_)
  by_cases e3:ib+1=b.size
  ·rw [if_pos (by simpa using e3)]
   exact PX (hQ _ _ _ _ _ (0,0) (.inl ⟨_,rfl,W1.jy ua e3⟩)).1
  rw [if_neg (by simpa using e3)]
  have z:=hQ none ia (ib+1) (out.push q) (0,bc+1) (0,bc+1) (.inr ⟨rfl,⟨W1,la,by lia⟩,by lia⟩)
  split
  ·exact PX z.1
  ·exact PX (z.2 rfl)
 ·rw [decide_eq_false hw,if_neg P5]
  have W1:=W.gn ua ep λj r hj e=>QA (Int.not_lt.mp hw) (ub ib j q r hj eq e)
  refine PV (aU ep ?_)
  by_cases e3:ia+1+1=a.size
  ·rw [if_pos (by simpa using e3)]
   exact PX (hQ _ _ _ _ _ (0,0) (.inl ⟨_,rfl,lA W1 e3⟩)).1
  rw [if_neg (by simpa using e3)]
  have z:=hQ none (ia+1) ib (out.push p) (ac+1,0) (ac+1,0) (.inr ⟨rfl,⟨W1,by lia,lb⟩,by lia⟩)
  split
  ·exact PX z.1
  ·exact PX (z.2 rfl)
theorem tQ {st:SortSt} (hC:iK prog w A s κ rk L) (hk:kindOf st=κ) (ma:∀ (i:Nat) (p:Keyed),a[i]?=some p->p∈L) (mb:∀ (i:Nat) (p:Keyed),b[i]?=some p->p∈L)
 (lA:∀ {out:Array Keyed} {ia ib:Nat},WL rk a b out ia ib->ia+1=a.size->Res rk a b (DI a b out ia ib)) (ua:Up rk a) (ub:Up rk b) (hL:mC rk a b c.2.1 c.2.2.1 c.2.2.2.1) (hn:n<=c.2.2.1+c.2.2.2.1+1)
 (h1:∀ r z st',cY st st'->Res rk a b r->Q (.done (some r,z)) st') (h2:∀ ia ib out g st',cY st st'->mC rk a b out ia ib->n<=ia+ib->Q (.yield (none,out,ia,ib,g)) st'):wpS (model prog w) A E s (oM a b c) Q st:=by
 unfold oM
 refine PV (QD (Q7 (I:=λy c st'=>st'=st/\c.1=none/\mC rk a b c.2.1 c.2.2.1 c.2.2.2.1/\n+y<=c.2.2.1+c.2.2.2.1+1) (Q:=λc st'=>st'=st/\ET rk a b n c.1 c.2.2.1 c.2.2.2.1 c.2.1) ?step ?fin ⟨rfl,rfl,hL,hn⟩) ?post)
 case fin =>
  rintro c st' ⟨rfl,hc,hL',hx⟩
  exact ⟨rfl,.inr ⟨hc,hL',by have:=hL'.la; have:=hL'.lb; lia⟩⟩
 case step =>
  rintro y c st' _ hy ⟨rfl,_,hL',hx⟩
  refine yd (n:=n+y) hC hk ma mb lA ua ub hL' hx λo ia ib out z y hR=>⟨?_,?_⟩
  ·refine ⟨rfl,?_⟩
   rcases hR with hR | ⟨q1,q2,q3⟩
   ·exact .inl hR
   ·exact .inr ⟨q1,q2,P7 (RO _ _) q3⟩
  ·rintro rfl
   rcases hR with ⟨_,q,_⟩ | ⟨q1,q2,q3⟩
   ·cases q
   ·exact ⟨rfl,rfl,q2,U0 q3⟩
 case post =>
  rintro ⟨o,out,ia,ib,ac,bc⟩ st' ⟨rfl,hR⟩
  dsimp only at hR |-
  rcases hR with ⟨r,rfl,hr⟩ | ⟨rfl,hL2,hn2⟩
  ·exact PX (h1 r _ _ (.refl _) hr)
  refine PV (Sm (Q8 ⟨rfl,?_⟩))
  refine PV (QD (Q7 (I:=λy c st''=>cY st' st''/\c.1=none/\mC rk a b c.2.1 c.2.2.1 c.2.2.2.1/\n<=c.2.2.1+c.2.2.2.1) (Q:=λc st''=>cY st' st''/\ET rk a b n c.1 c.2.2.1 c.2.2.2.1 c.2.1) ?gstep ?gfin ⟨.refl _,rfl,hL2,hn2⟩) ?gpost)
  case gfin=>exact λc st'' ⟨q1,q2,q3,q4⟩=>⟨q1,.inr ⟨q2,q3,q4⟩⟩
  case gstep =>
   rintro y c st'' _ _ ⟨q1,q2,q3,q4⟩
   have key:wpS (model prog w) A E s (Bj a b c) (λx st3=>cY st'' st3/\EU rk a b n x) st'':=by
    unfold Bj
    split
    ·exact nk hC (q1.k.trans hk) ma mb lA ua ub q3 q4 λx st3 k h=>⟨k,h⟩
    ·exact nk hC (q1.k.trans hk) ma mb lA ua ub q3 q4 λx st3 k h=>⟨k,h⟩
   refine QD key λx st3 ⟨k,h⟩=>?_
   cases x with
   | done c=>exact ⟨q1.trans k,h⟩
   | yield c=>exact ⟨q1.trans k,h⟩
  case gpost =>
   rintro ⟨o,out,ia,ib,g,ac,bc⟩ st'' ⟨q1,hR⟩
   dsimp only at hR |-
   rcases hR with ⟨r,rfl,hr⟩ | ⟨rfl,hL3,hn3⟩
   ·exact PX (h1 r _ _ q1 hr)
   ·exact PV (fP (PX (h2 _ _ _ _ _ (q1.min _) hL3 hn3)))
theorem qR {st:SortSt} (hC:iK prog w A s κ rk L) (hk:kindOf st=κ) (ma:∀ (i:Nat) (p:Keyed),a[i]?=some p->p∈L) (mb:∀ (i:Nat) (p:Keyed),b[i]?=some p->p∈L) (ua:Up rk a) (ub:Up rk b) (na:1<=a.size) (nb:1<=b.size)
 (h0:∀ p q,a[0]?=some p->b[0]?=some q->rk q<=rk p) (hl:∀ (j:Nat) (p q:Keyed),a[a.size - 1]?=some p->b[j]?=some q->rk q<=rk p) (h:∀ r st',Res rk a b r->cY st st'->Q r st'):wpS (model prog w) A E s (lD a b) Q st:=by
 have lastA:∀ {out:Array Keyed} {ia ib:Nat},WL rk a b out ia ib->ia+1=a.size->Res rk a b (DI a b out ia ib):=λhw e=>hw.last ub e λj p q e1 e2=>hl j p q (by rw [<- e]; exact e1) e2
 obtain ⟨q0,eq0⟩:=some_at (xs:=b) (i:=0) nb
 obtain ⟨p0,ep0⟩:=some_at (xs:=a) (i:=0) na
 have W0:WL rk a b #[q0] 0 1:=by
  have z:WL rk a b #[] 0 0:=⟨Qv _,Qv _,by simp,TZ,by simp,by simp⟩
  exact z.gm ub eq0 λj q _ e=>QA (h0 p0 q0 ep0 eq0) (ua 0 j p0 q (Qv _) ep0 e)
 rw [qQ]
 refine PV (Sm (Q8 ⟨rfl,?_⟩))
 refine PV (aU eq0 ?_)
 by_cases e1:1=b.size
 ·rw [if_pos (by simpa using e1)]
  exact PX (h _ _ (W0.jy ua e1) (.refl _))
 rw [if_neg (by simpa using e1)]
 by_cases e2:0+1=a.size
 ·rw [if_pos (by simpa using e2)]
  exact PX (h _ _ (lastA W0 e2) (.refl _))
 rw [if_neg (by simpa using e2)]
 refine PV (Rv ?_)
 refine PV (QD (Q7 (I:=λx c st'=>cY st st'/\c.1=none/\mC rk a b c.2.1 c.2.2.1 c.2.2.2.1/\x+1<=c.2.2.1+c.2.2.2.1) (Q:=λc st'=>cY st st'/\∃ r,c.1=some r/\Res rk a b r) ?step ?fin ⟨.refl _,rfl,⟨W0,by dsimp only; lia,by dsimp only; lia⟩,by dsimp only; lia⟩) ?post)
 case fin =>
  rintro c st' ⟨hK,hc,hL,hx⟩
  have h1:=hL.la
  have h2:=hL.lb
  lia
 case post =>
  rintro c st' ⟨hK,r,hc,hr⟩
  rw [hc]
  exact PX (h r st' hr hK)
 case step =>
  rintro x c st1 _ hx ⟨hK,_,hL,hn⟩
  exact tQ (n:=x+2) hC (hK.k.trans hk) ma mb lastA ua ub hL (U0 hn) (λr z st' k hr=>⟨hK.trans k,r,rfl,hr⟩) λia ib out g st' k q1 q2=>⟨hK.trans k,rfl,q1,q2⟩
noncomputable def lG:Array Keyed->Array Keyed->StateT SortSt Sem (Array Keyed):=sortPriv% PySem.Builtin.mergeHi
local macro_rules | `(tactic| walk_at "dl mergeHi")=>do
 let i:=SM (Sq `PySem.Builtin.List.W1All `PySem.Builtin.mergeHi)
 `(tactic| delta $i)
section
variable {rk:Keyed->Int} {a b:Array Keyed}
structure WH (rk:Keyed->Int) (a b:Array Keyed) (out:Array Keyed) (na nb:Nat):Prop where
 pa:na<=a.size
 pb:nb<=b.size
 pm:out.toList.Perm (a.toList.drop na++b.toList.drop nb)
 sr:Bg rk out.toList.reverse
 ha:∀ p∈out.toList,∀ (j:Nat) (q:Keyed),j<na->a[j]?=some q->rk q<=rk p
 hb:∀ p∈out.toList,∀ (j:Nat) (q:Keyed),j<nb->b[j]?=some q->rk q<=rk p
theorem dH (xs:Array Keyed) (i):(xs.extract 0 i).toList=xs.toList.take i:=by rw [dY,T9]
theorem i6 {xs:Array Keyed} (h:q∈xs.toList.take i):∃ j,j<i/\xs[j]?=some q:=by
 obtain ⟨n,hn⟩:=Sv h
 have hl:=(Qa.mp hn).1
 rw [Q5] at hl
 rw [UC (by lia)] at hn
 exact ⟨n,by lia,by rw [<- QO]; exact hn⟩
theorem WH.res (h:WH rk a b out na nb) (x) (hx:x.toList.Perm (a.toList.take na++b.toList.take nb)) (hs:Bg rk x.toList):Res rk a b (x++out.reverse):=by
 have e0:(x++out.reverse).toList=x.toList++out.toList.reverse:=by simp
 refine ⟨?_,?_⟩
 ·rw [e0]
  refine (hx.append ((UY _).trans h.pm)).trans ?_
  have:(a.toList.take na++b.toList.take nb++(a.toList.drop na++b.toList.drop nb)).Perm (a.toList.take na++a.toList.drop na++(b.toList.take nb++b.toList.drop nb)):=by
   rw [Qn,Qn]
   refine Tg _ ?_
   rw [<- Qn,<- Qn]
   exact List.Perm.append_right _ Ss
  rw [RE,RE] at this
  exact this
 ·rw [e0]
  refine bO hs h.sr λp hp q hq=>?_
  have hq':q∈out.toList:=by simpa using hq
  rcases Qq.mp (hx.mem_iff.mp hp) with z | z
  ·obtain ⟨j,h1,e⟩:=i6 z
   exact h.ha q hq' j p h1 e
  ·obtain ⟨j,h1,e⟩:=i6 z
   exact h.hb q hq' j p h1 e
theorem WH.jz (h:WH rk a b out na nb) (ub:Up rk b) (e:na=0):Res rk a b (a.extract 0 na++b.extract 0 nb++out.reverse):=by
 subst e
 refine h.res _ ?_ ?_
 ·simp [dH]
 ·have:(a.extract 0 0++b.extract 0 nb).toList=b.toList.take nb:=by rw [Rc,dH,dH]; simp
  rw [this]; exact (jx ub).sublist (UW _ _)
theorem WH.jy (h:WH rk a b out na nb) (ua:Up rk a) (e:nb=0):Res rk a b (a.extract 0 na++b.extract 0 nb++out.reverse):=by
 subst e
 refine h.res _ ?_ ?_
 ·simp [dH]
 ·have:(a.extract 0 na++b.extract 0 0).toList=a.toList.take na:=by rw [Rc,dH,dH]; simp
  rw [this]; exact (jx ua).sublist (UW _ _)
theorem WH.first (h:WH rk a b out na nb) (ua:Up rk a) (e:nb=1) (hf:∀ (j:Nat) (p q:Keyed),a[j]?=some p->b[0]?=some q->rk q<=rk p) :
 Res rk a b (b.extract 0 nb++a.extract 0 na++out.reverse):=by
 subst e
 have e1:(b.extract 0 1++a.extract 0 na).toList=b.toList.take 1++a.toList.take na:=by rw [Rc,dH,dH]
 refine h.res _ ?_ ?_
 ·rw [e1]; exact Ss
 ·rw [e1]
  refine bO ?_ ((jx ua).sublist (UW _ _)) λp hp q hq=>?_
  ·exact vK (by simp; lia)
  ·obtain ⟨j,h1,e2⟩:=i6 hp
   obtain ⟨j2,h2,e3⟩:=i6 hq
   have:j=0:=by lia
   subst this
   exact hf j2 q p e3 e2
theorem nv {xs:Array Keyed} (hi:1<=i) (h:xs[i - 1]?=some p):xs.toList.drop (i - 1)=p::xs.toList.drop i:=by
 rw [<- QO] at h
 obtain ⟨h1,h2⟩:=Qa.mp h
 rw [VC h1,h2,show i - 1+1=i by lia]
theorem WH.gn {out:Array Keyed} {na nb:Nat} {p:Keyed} (h:WH rk a b out na nb) (ua:Up rk a) (hn:1<=na) (e:a[na - 1]?=some p) (hl:∀ (j:Nat) (q:Keyed),j<nb->b[j]?=some q->rk q<=rk p):WH rk a b (out.push p) (na - 1) nb where
 pa:=by have:=h.pa; lia
 pb:=h.pb
 pm:=by
  rw [QF,nv hn e]
  refine (h.pm.append_right _).trans ?_
  rw [Rz]
  exact Ss
 sr:=by
  rw [QF,VW]
  exact bO (Tf _ _) h.sr λr hr q hq=>by
   have hr':r=p:=by simpa using hr
   rw [hr']
   exact h.ha q (by simpa using hq) (na - 1) p (by lia) e
 ha:=λq hq j r hj er=>by
  rw [QF] at hq
  rcases Qq.mp hq with z | z
  ·exact h.ha q z j r (by lia) er
  ·rw [Qg.mp z]; exact ua j (na - 1) r p (by lia) er e
 hb:=λq hq j r hj er=>by
  rw [QF] at hq
  rcases Qq.mp hq with z | z
  ·exact h.hb q z j r hj er
  ·rw [Qg.mp z]; exact hl j r hj er
theorem WH.gm {out:Array Keyed} {na nb:Nat} {p:Keyed} (h:WH rk a b out na nb) (ub:Up rk b) (hn:1<=nb) (e:b[nb - 1]?=some p) (hl:∀ (j:Nat) (q:Keyed),j<na->a[j]?=some q->rk q<=rk p):WH rk a b (out.push p) na (nb - 1) where
 pa:=h.pa
 pb:=by have:=h.pb; lia
 pm:=by
  rw [QF,nv hn e]
  refine (h.pm.append_right _).trans ?_
  rw [Qn]
  exact Tg _ Ss
 sr:=by
  rw [QF,VW]
  exact bO (Tf _ _) h.sr λr hr q hq=>by
   have hr':r=p:=by simpa using hr
   rw [hr']
   exact h.hb q (by simpa using hq) (nb - 1) p (by lia) e
 hb:=λq hq j r hj er=>by
  rw [QF] at hq
  rcases Qq.mp hq with z | z
  ·exact h.hb q z j r (by lia) er
  ·rw [Qg.mp z]; exact ub j (nb - 1) r p (by lia) er e
 ha:=λq hq j r hj er=>by
  rw [QF] at hq
  rcases Qq.mp hq with z | z
  ·exact h.ha q z j r hj er
  ·rw [Qg.mp z]; exact hl j r hj er
theorem vP {xs:Array Keyed} (h:m<n) (e:xs[m]?=some p):(xs.extract m n).reverse=(xs.extract (m+1) n).reverse.push p:=by
 apply Sk
 rw [QF,Ti,Ti,dY,dY]
 rw [<- QO] at e
 obtain ⟨h1,h2⟩:=Qa.mp e
 have h3:m<(xs.toList.take n).length:=by rw [Q5]; lia
 rw [VC h3,List.reverse_cons,List.getElem_take,h2]
theorem qS (xs ys:Array Keyed) (p):xs++ys.push p=(xs++ys).push p:=by
 apply Sk; simp
theorem WH.qM (h:WH rk a b out na nb) (ua:Up rk a):∀ (k m:Nat),m+k=na->(∀ (i j:Nat) (p q:Keyed),m<=i->i<na->j<nb->a[i]?=some p->b[j]?=some q->rk q<=rk p)->WH rk a b (out++(a.extract m na).reverse) m nb
 | 0,m,hm,_=>by
  have e:m=na:=by lia
  subst e
  have:out++(a.extract m m).reverse=out:=by
   apply Sk
   rw [Rc,Ti,iZ,List.reverse_nil,QX]
  rw [this]; exact h
 | k+1,m,hm,hl=>by
  have hp:=h.pa
  have ih:=h.qM ua k (m+1) (by lia) λi j p q h1 h2=>hl i j p q (by lia) h2
  have e:a[m+1 - 1]?=some (a[m]'(by lia)):=Qt (show m<a.size by lia)
  have z:=ih.gn ua (by lia) e λj q hj eq=>hl m j _ q (PU _) (by lia) hj (Qt (show m<a.size by lia)) eq
  rw [vP (show m<na by lia) (Qt (show m<a.size by lia)),qS]
  exact z
theorem WH.qN (h:WH rk a b out na nb) (ub:Up rk b):∀ (k m:Nat),m+k=nb->(∀ (i j:Nat) (p q:Keyed),m<=i->i<nb->j<na->b[i]?=some p->a[j]?=some q->rk q<=rk p)->WH rk a b (out++(b.extract m nb).reverse) na m
 | 0,m,hm,_=>by
  have e:m=nb:=by lia
  subst e
  have:out++(b.extract m m).reverse=out:=by
   apply Sk
   rw [Rc,Ti,iZ,List.reverse_nil,QX]
  rw [this]; exact h
 | k+1,m,hm,hl=>by
  have hp:=h.pb
  have ih:=h.qN ub k (m+1) (by lia) λi j p q h1 h2=>hl i j p q (by lia) h2
  have e:b[m+1 - 1]?=some (b[m]'(by lia)):=Qt (show m<b.size by lia)
  have z:=ih.gm ub (by lia) e λj q hj eq=>hl m j _ q (PU _) (by lia) hj (Qt (show m<b.size by lia)) eq
  rw [vP (show m<nb by lia) (Qt (show m<b.size by lia)),qS]
  exact z
structure ig (rk:Keyed->Int) (a b out:Array Keyed) (na nb:Nat):Prop where
 w:WH rk a b out na nb
 la:1<=na
 lb:2<=nb
end
noncomputable abbrev Bl:=Option (Array Keyed)×Nat×Nat×Array Keyed×Nat×Nat×Nat
noncomputable def GZ (a b out:Array Keyed) (na nb:Nat):Array Keyed:=a.extract 0 na++b.extract 0 nb++out.reverse
noncomputable def EW (a b out:Array Keyed) (na nb:Nat):Array Keyed:=b.extract 0 nb++a.extract 0 na++out.reverse
noncomputable def vQ (a b:Array Keyed) (mg ac bc na nb:Nat) (out:Array Keyed):StateT SortSt Sem (ForInStep Bl):=do
 let p <- elem' a (na - 1)
 if (na - 1 == 0)=true then pure (.done (some (GZ a b (out.push p) (na - 1) nb),na - 1,nb,out.push p,mg,ac,bc))
 else if (decide (ac<7) && decide (bc<7))=true then pure (.done (none,na - 1,nb,out.push p,mg,ac,bc))
 else pure (.yield (none,na - 1,nb,out.push p,mg,ac,bc))
noncomputable def vR (a b:Array Keyed) (mg ac bc na nb:Nat) (out:Array Keyed):StateT SortSt Sem (ForInStep Bl):=do
 let q <- elem' b (nb - 1)
 if (nb - 1 == 1)=true then pure (.done (some (EW a b (out.push q) na (nb - 1)),na,nb - 1,out.push q,mg,ac,bc))
 else do
  let p <- elem' a (na - 1)
  let x <- cW true p b 0 (nb - 1) (nb - 1 - 1)
  match x with
  | some k=>(if nb - 1 - k>0 then
   (if (k == 1)=true then pure (.done (some (EW a b (out.push q++(b.extract k (nb - 1)).reverse) na k),na,k,out.push q++(b.extract k (nb - 1)).reverse,mg,ac,nb - 1 - k))
    else if (k == 0)=true then pure (.done (some (GZ a b (out.push q++(b.extract k (nb - 1)).reverse) na k),na,k,out.push q++(b.extract k (nb - 1)).reverse,mg,ac,nb - 1 - k))
    else vQ a b mg ac (nb - 1 - k) na k (out.push q++(b.extract k (nb - 1)).reverse))
   else vQ a b mg ac (nb - 1 - k) na (nb - 1) (out.push q))
  | _=>pure (.done (some (GZ a b (out.push q) na (nb - 1)),na,nb - 1,out.push q,mg,ac,bc))
noncomputable def vS (a b:Array Keyed) (mg ac bc na nb:Nat) (out:Array Keyed):StateT SortSt Sem (ForInStep Bl):=do
 cH mg
 let q <- elem' b (nb - 1)
 let x <- cW false q a 0 na (na - 1)
 match x with
 | some k=>(if na - k>0 then
  (if (k == 0)=true then pure (.done (some (GZ a b (out++(a.extract k na).reverse) k nb),k,nb,out++(a.extract k na).reverse,mg,na - k,bc))
   else vR a b mg (na - k) bc k nb (out++(a.extract k na).reverse))
  else vR a b mg (na - k) bc na nb out)
 | _=>pure (.done (some (GZ a b out na nb),na,nb,out,mg,ac,bc))
noncomputable def Bm (a b:Array Keyed) (c:Bl):StateT SortSt Sem (ForInStep Bl) :=
 if c.2.2.2.2.1>1 then vS a b (c.2.2.2.2.1 - 1) c.2.2.2.2.2.1 c.2.2.2.2.2.2 c.2.1 c.2.2.1 c.2.2.2.1 else vS a b c.2.2.2.2.1 c.2.2.2.2.2.1 c.2.2.2.2.2.2 c.2.1 c.2.2.1 c.2.2.2.1
noncomputable abbrev JC:=Option (Array Keyed)×Nat×Nat×Array Keyed×Nat×Nat
noncomputable def Bo (a b:Array Keyed) (mg:Nat) (c:JC):StateT SortSt Sem (ForInStep JC):=do
 let q <- elem' b (c.2.2.1 - 1)
 let p <- elem' a (c.2.1 - 1)
 let x <- lt' q p
 match x with
 | some y=>(if y=true then (do
  let p <- elem' a (c.2.1 - 1)
  if (c.2.1 - 1 == 0)=true then pure (.done (some (GZ a b (c.2.2.2.1.push p) (c.2.1 - 1) c.2.2.1),c.2.1 - 1,c.2.2.1,c.2.2.2.1.push p,c.2.2.2.2.1+1,0))
  else if c.2.2.2.2.1+1>=mg then pure (.done (none,c.2.1 - 1,c.2.2.1,c.2.2.2.1.push p,c.2.2.2.2.1+1,0))
  else pure (.yield (none,c.2.1 - 1,c.2.2.1,c.2.2.2.1.push p,c.2.2.2.2.1+1,0)))
  else (do
   let q <- elem' b (c.2.2.1 - 1)
   if (c.2.2.1 - 1 == 1)=true then pure (.done (some (EW a b (c.2.2.2.1.push q) c.2.1 (c.2.2.1 - 1)),c.2.1,c.2.2.1 - 1,c.2.2.2.1.push q,0,c.2.2.2.2.2+1))
   else if c.2.2.2.2.2+1>=mg then pure (.done (none,c.2.1,c.2.2.1 - 1,c.2.2.2.1.push q,0,c.2.2.2.2.2+1))
   else pure (.yield (none,c.2.1,c.2.2.1 - 1,c.2.2.2.1.push q,0,c.2.2.2.2.2+1))))
 | _=>pure (.done (some (GZ a b c.2.2.2.1 c.2.1 c.2.2.1),c.2.1,c.2.2.1,c.2.2.2.1,c.2.2.2.2.1,c.2.2.2.2.2))
noncomputable abbrev DJ:=Option (Array Keyed)×Nat×Nat×Array Keyed×Nat
noncomputable def jA (a b:Array Keyed) (c:DJ):StateT SortSt Sem (ForInStep DJ):=do
 let s <- forIn [:a.size+b.size] ((none,c.2.1,c.2.2.1,c.2.2.2.1,0,0):JC) λ_ s=>Bo a b c.2.2.2.2 s
 match s.1 with
 | some r=>pure (.done (some r,s.2.1,s.2.2.1,s.2.2.2.1,c.2.2.2.2))
 | none=>do
  liftM (rule "list.sort.gallop")
  let t <- forIn [:a.size+b.size] ((none,s.2.1,s.2.2.1,s.2.2.2.1,c.2.2.2.2+1,s.2.2.2.2.1,s.2.2.2.2.2):Bl) λ_ t=>Bm a b t
  match t.1 with
  | some r=>pure (.done (some r,t.2.1,t.2.2.1,t.2.2.2.1,t.2.2.2.2.1))
  | none=>do
   cH (t.2.2.2.2.1+1)
   pure (.yield (none,t.2.1,t.2.2.1,t.2.2.2.1,t.2.2.2.2.1+1))
theorem qT (a b):lG a b=(do
 liftM (rule "list.sort.merge-hi")
 let p <- elem' a (a.size - 1)
 if (a.size - 1 == 0)=true then pure (GZ a b #[p] (a.size - 1) b.size)
 else if (b.size == 1)=true then pure (EW a b #[p] (a.size - 1) b.size)
 else do
  let st <- get
  let s <- forIn [:a.size+b.size] ((none,a.size - 1,b.size,#[p],gallopOf st):DJ) λ_ c=>jA a b c
  match s.1 with
  | some r=>pure r
  | none=>liftM (unsupported (α:=Array Keyed) "internal:list.sort.merge-bound")):=by
 unfold lG
 walk_at "dl mergeHi"
 dsimp only
 refine congrArg _ (funext λ_=>?_)
 refine congrArg _ (funext λp=>?_)
 refine congrArg _ (congrArg _ ?_)
 refine congrArg _ (funext λst=>?_)
 have h1:∀ (c:DJ),jA a b c=jA a b c:=λ_=>rfl
 have e:∀ (f g:Nat->DJ->StateT SortSt Sem (ForInStep DJ)) (c:DJ) (k:DJ->StateT SortSt Sem (Array Keyed)),f=g->(forIn [:a.size+b.size] c f >>= k)=(forIn [:a.size+b.size] c g >>= k):=λ_ _ _ _ h=>by rw [h]
 refine (e _ _ _ _ (funext λ_=>funext λc=>?_)).trans (congrArg _ (funext λs=>?_))
 ·obtain ⟨o,na,nb,out,mg⟩:=c
  unfold jA
  dsimp only
  have e2:∀ (f g:Nat->JC->StateT SortSt Sem (ForInStep JC)) (c:JC) (k l:JC->StateT SortSt Sem (ForInStep DJ)),f=g->k=l->(forIn [:a.size+b.size] c f >>= k)=(forIn [:a.size+b.size] c g >>= l):=λ_ _ _ _ _ h h2=>by rw [h,h2]
  refine e2 _ _ _ _ _ (funext λ_=>funext λc=>?_) (funext λs=>?_)
  ·rfl
  ·obtain ⟨o,na,nb,out,ac,bc⟩:=s
   cases o with
   | some r=>rfl
   | none =>
    dsimp only
    refine congrArg _ (funext λ_=>?_)
    have e3:∀ (f g:Nat->Bl->StateT SortSt Sem (ForInStep Bl)) (c:Bl) (k l:Bl->StateT SortSt Sem (ForInStep DJ)),f=g->k=l->(forIn [:a.size+b.size] c f >>= k)=(forIn [:a.size+b.size] c g >>= l):=λ_ _ _ _ _ h h2=>by rw [h,h2]
    refine e3 _ _ _ _ _ (funext λ_=>funext λc=>?_) (funext λs=>?_)
    ·rfl
    ·obtain ⟨o,s⟩:=s
     cases o <;> rfl
 ·obtain ⟨o,s⟩:=s
  cases o <;> rfl
def EX (rk:Keyed->Int) (a b:Array Keyed) (n:Nat) (o:Option (Array Keyed)) (na nb:Nat) (out:Array Keyed):Prop:=(∃ r,o=some r/\Res rk a b r)\/(o=none/\ig rk a b out na nb/\na+nb<=n)
noncomputable def EY (rk:Keyed->Int) (a b:Array Keyed) (n:Nat):ForInStep Bl->Prop
 | .done c=>EX rk a b n c.1 c.2.1 c.2.2.1 c.2.2.2.1
 | .yield c=>c.1=none/\ig rk a b c.2.2.2.1 c.2.1 c.2.2.1/\c.2.1+c.2.2.1<=n
theorem ny {st:SortSt} (W:WH rk a b out na nb) (ua:Up rk a) (ub:Up rk b) (la:1<=na) (lb:2<=nb) (ep:a[na - 1]?=some p)
 (hl:∀ (j:Nat) (r:Keyed),j<nb->b[j]?=some r->rk r<=rk p) (hn:na - 1+nb<=n) (hQ:∀ x,EY rk a b n x->Q x st):wpS (model prog w) A E s (vQ a b mg ac bc na nb out) Q st:=by
 unfold vQ
 have W4:=W.gn ua la ep hl
 refine PV (aU ep ?_)
 by_cases e9:na - 1=0
 ·rw [if_pos (by simpa using e9)]
  exact PX (hQ _ (.inl ⟨_,rfl,W4.jz ub e9⟩))
 rw [if_neg (by simpa using e9)]
 have hL:ig rk a b (out.push p) (na - 1) nb:=⟨W4,VM.mpr e9,lb⟩
 split
 ·exact PX (hQ _ (.inr ⟨rfl,hL,hn⟩))
 ·exact PX (hQ _ ⟨rfl,hL,hn⟩)
theorem nC {st:SortSt} (hC:iK prog w A s κ rk L) (hk:kindOf st=κ) (ma:∀ (i:Nat) (p:Keyed),a[i]?=some p->p∈L) (mb:∀ (i:Nat) (p:Keyed),b[i]?=some p->p∈L)
 (fB:∀ {out:Array Keyed} {na nb:Nat},WH rk a b out na nb->nb=1->Res rk a b (EW a b out na nb)) (W:WH rk a b out na nb) (ua:Up rk a) (ub:Up rk b) (la:1<=na) (lb:2<=nb) (eq:b[nb - 1]?=some q)
 (hl:∀ (j:Nat) (r:Keyed),j<na->a[j]?=some r->rk r<=rk q) (hn:na+nb<=n+2) (hQ:∀ x,EY rk a b n x->Q x st):wpS (model prog w) A E s (vR a b mg ac bc na nb out) Q st:=by
 unfold vR
 have W2:=W.gm ub (Nat.le_of_succ_le lb) eq hl
 have hpa:=W.pa
 have hpb:=W.pb
 refine PV (aU eq ?_)
 by_cases e5:nb - 1=1
 ·rw [if_pos (by simpa using e5)]
  exact PX (hQ _ (.inl ⟨_,rfl,fB W2 e5⟩))
 rw [if_neg (by simpa using e5)]
 have lb1:2<=nb - 1:=by lia
 obtain ⟨p,ep⟩:=some_at (xs:=a) (i:=na - 1) (by lia)
 refine PV (aU ep ?_)
 refine PV (qP hC hk (ma _ _ ep) mb ub _ (by lia) (by lia) λk hj1 hj2 hj3=>?_)
 dsimp only
 have dn2:∀ (i:Nat) (r:Keyed),i<k->b[i]?=some r->rk r<rk p:=λi r z1 e6=>hj2 i r z1 (by rw [Se]; exact e6)
 by_cases hj0:nb - 1 - k>0
 ·rw [if_pos hj0]
  have W3:=W2.qN ub (nb - 1 - k) k (VV hj1) λi j r p' z1 z2 z3 e6 e7=>QA (ua j (na - 1) p' p (UN z3) e7 ep) (hj3 i r z1 (Nat.add_lt_add_left z2 0) (by rw [Se]; exact e6))
  by_cases e8:k=1
  ·rw [if_pos (by simpa using e8)]
   exact PX (hQ _ (.inl ⟨_,rfl,fB W3 e8⟩))
  rw [if_neg (by simpa using e8)]
  by_cases e10:k=0
  ·rw [if_pos (by simpa using e10)]
   exact PX (hQ _ (.inl ⟨_,rfl,W3.jy ua e10⟩))
  rw [if_neg (by simpa using e10)]
  exact ny W3 ua ub la (by lia) ep (λj r hj e6=>R1 (dn2 j r hj e6)) (by lia) hQ
 ·rw [if_neg hj0]
  exact ny W2 ua ub la lb1 ep (λj r hj e6=>R1 (dn2 j r (by lia) e6)) (by lia) hQ
theorem nD {st:SortSt} (hC:iK prog w A s κ rk L) (hk:kindOf st=κ) (ma:∀ (i:Nat) (p:Keyed),a[i]?=some p->p∈L) (mb:∀ (i:Nat) (p:Keyed),b[i]?=some p->p∈L)
 (fB:∀ {out:Array Keyed} {na nb:Nat},WH rk a b out na nb->nb=1->Res rk a b (EW a b out na nb)) (ua:Up rk a) (ub:Up rk b) (hL:ig rk a b out na nb) (hn:na+nb<=n) (hQ:∀ x st',cY st st'->EY rk a b n x->Q x st') :
 wpS (model prog w) A E s (vS a b mg ac bc na nb out) Q st:=by
 unfold vS
 have W:=hL.w
 have la:=hL.la
 have lb:=hL.lb
 have hpa:=W.pa
 have hpb:=W.pb
 obtain ⟨q,eq⟩:=some_at (xs:=b) (i:=nb - 1) (by lia)
 refine PV (fP ?_)
 have HH:=λx=>hQ x _ ((cY.refl st).min mg)
 refine PV (aU eq ?_)
 refine PV (qO hC (by exact hk) (mb _ _ eq) ma ua _ (by lia) (by lia) λk hk1 hk2 hk3=>?_)
 dsimp only
 have dn1:∀ (i:Nat) (p:Keyed),i<k->a[i]?=some p->rk p<=rk q:=λi p z1 e3=>hk2 i p z1 (by rw [Se]; exact e3)
 by_cases hk0:na - k>0
 ·rw [if_pos hk0]
  have Wk:=W.qM ua (na - k) k (VV hk1) λi j p r z1 z2 z3 e3 e4=>QA (ub j (nb - 1) r q (UN z3) e4 eq) (R1 (hk3 i p z1 (Nat.add_lt_add_left z2 0) (by rw [Se]; exact e3)))
  by_cases e4:k=0
  ·rw [if_pos (by simpa using e4)]
   exact PX (HH _ (.inl ⟨_,rfl,Wk.jz ub e4⟩))
  rw [if_neg (by simpa using e4)]
  exact nC hC (by exact hk) ma mb fB Wk ua ub (VM.mpr e4) lb eq dn1 (by lia) HH
 ·rw [if_neg hk0]
  exact nC hC (by exact hk) ma mb fB W ua ub la lb eq (λj r hj e3=>dn1 j r (by lia) e3) (by lia) HH
theorem ye {st:SortSt} (hC:iK prog w A s κ rk L) (hk:kindOf st=κ) (ma:∀ (i:Nat) (p:Keyed),a[i]?=some p->p∈L) (mb:∀ (i:Nat) (p:Keyed),b[i]?=some p->p∈L)
 (fB:∀ {out:Array Keyed} {na nb:Nat},WH rk a b out na nb->nb=1->Res rk a b (EW a b out na nb)) (ua:Up rk a) (ub:Up rk b) (hL:ig rk a b c.2.2.2.1 c.2.1 c.2.2.1) (hn:c.2.1+c.2.2.1<=n+1)
 (hQ:∀ o na nb out z y,EX rk a b n o na nb out->Q (.done (o,na,nb,out,z)) st/\(o=none->Q (.yield (none,na,nb,out,y)) st)):wpS (model prog w) A E s (Bo a b mg c) Q st:=by
 obtain ⟨_,na,nb,out,ac,bc⟩:=c
 unfold Bo
 dsimp only at hL hn |-
 have W:=hL.w
 have la:=hL.la
 have lb:=hL.lb
 have hpa:=W.pa
 have hpb:=W.pb
 obtain ⟨q,eq⟩:=some_at (xs:=b) (i:=nb - 1) (by lia)
 obtain ⟨p,ep⟩:=some_at (xs:=a) (i:=na - 1) (by lia)
 refine PV (aU eq (PV (aU ep (PV (lB hC hk (mb _ _ eq) (ma _ _ ep) ?_)))))
 dsimp only
 by_cases hw:rk q<rk p
 ·rw [decide_eq_true hw,if_pos rfl]
  have W1:=W.gn ua la ep λj r hj e=>QA (ub j (nb - 1) r q (UN hj) e eq) (R1 hw)
  refine PV (aU ep ?_)
  by_cases e3:na - 1=0
  ·rw [if_pos (by simpa using e3)]
   exact PX (hQ _ _ _ _ _ (0,0) (.inl ⟨_,rfl,W1.jz ub e3⟩)).1
  rw [if_neg (by simpa using e3)]
  have z:=hQ none (na - 1) nb (out.push p) (ac+1,0) (ac+1,0) (.inr ⟨rfl,⟨W1,VM.mpr e3,lb⟩,by lia⟩)
  split
  ·exact PX z.1
  ·exact PX (z.2 rfl)
 ·rw [decide_eq_false hw,if_neg P5]
  have W1:=W.gm ub (Nat.le_of_succ_le lb) eq λj r hj e=>QA (ua j (na - 1) r p (UN hj) e ep) (Int.not_lt.mp hw)
  refine PV (aU eq ?_)
  by_cases e3:nb - 1=1
  ·rw [if_pos (by simpa using e3)]
   exact PX (hQ _ _ _ _ _ (0,0) (.inl ⟨_,rfl,fB W1 e3⟩)).1
  rw [if_neg (by simpa using e3)]
  have z:=hQ none na (nb - 1) (out.push q) (0,bc+1) (0,bc+1) (.inr ⟨rfl,⟨W1,la,by lia⟩,by lia⟩)
  split
  ·exact PX z.1
  ·exact PX (z.2 rfl)
theorem tR {st:SortSt} (hC:iK prog w A s κ rk L) (hk:kindOf st=κ) (ma:∀ (i:Nat) (p:Keyed),a[i]?=some p->p∈L) (mb:∀ (i:Nat) (p:Keyed),b[i]?=some p->p∈L)
 (fB:∀ {out:Array Keyed} {na nb:Nat},WH rk a b out na nb->nb=1->Res rk a b (EW a b out na nb)) (ua:Up rk a) (ub:Up rk b) (hL:ig rk a b c.2.2.2.1 c.2.1 c.2.2.1) (hn:c.2.1+c.2.2.1<=n+1) (hm:n+1<=a.size+b.size)
 (h1:∀ r z st',cY st st'->Res rk a b r->Q (.done (some r,z)) st') (h2:∀ na nb out g st',cY st st'->ig rk a b out na nb->na+nb<=n->Q (.yield (none,na,nb,out,g)) st'):wpS (model prog w) A E s (jA a b c) Q st:=by
 unfold jA
 refine PV (QD (Q7 (I:=λy c st'=>st'=st/\c.1=none/\ig rk a b c.2.2.2.1 c.2.1 c.2.2.1/\y+c.2.1+c.2.2.1<=n+1) (Q:=λc st'=>st'=st/\EX rk a b n c.1 c.2.1 c.2.2.1 c.2.2.2.1) ?step ?fin ⟨rfl,rfl,hL,by dsimp only; lia⟩) ?post)
 case fin =>
  rintro c st' ⟨rfl,hc,hL',hx⟩
  exact ⟨rfl,.inr ⟨hc,hL',by lia⟩⟩
 case step =>
  rintro y c st' _ hy ⟨rfl,_,hL',hx⟩
  refine ye (n:=n - y) hC hk ma mb fB ua ub hL' (by have:=hL'.la; have:=hL'.lb; lia) λo na nb out z y hR=>⟨?_,?_⟩
  ·refine ⟨rfl,?_⟩
   rcases hR with hR | ⟨q1,q2,q3⟩
   ·exact .inl hR
   ·exact .inr ⟨q1,q2,by dsimp only; lia⟩
  ·rintro rfl
   rcases hR with ⟨_,q,_⟩ | ⟨q1,q2,q3⟩
   ·cases q
   ·exact ⟨rfl,rfl,q2,by have:=q2.la; have:=q2.lb; dsimp only; lia⟩
 case post =>
  rintro ⟨o,na,nb,out,ac,bc⟩ st' ⟨rfl,hR⟩
  dsimp only at hR |-
  rcases hR with ⟨r,rfl,hr⟩ | ⟨rfl,hL2,hn2⟩
  ·exact PX (h1 r _ _ (.refl _) hr)
  refine PV (Sm (Q8 ⟨rfl,?_⟩))
  refine PV (QD (Q7 (I:=λy c st''=>cY st' st''/\c.1=none/\ig rk a b c.2.2.2.1 c.2.1 c.2.2.1/\c.2.1+c.2.2.1<=n) (Q:=λc st''=>cY st' st''/\EX rk a b n c.1 c.2.1 c.2.2.1 c.2.2.2.1) ?gstep ?gfin ⟨.refl _,rfl,hL2,hn2⟩) ?gpost)
  case gfin=>exact λc st'' ⟨q1,q2,q3,q4⟩=>⟨q1,.inr ⟨q2,q3,q4⟩⟩
  case gstep =>
   rintro y c st'' _ _ ⟨q1,q2,q3,q4⟩
   have key:wpS (model prog w) A E s (Bm a b c) (λx st3=>cY st'' st3/\EY rk a b n x) st'':=by
    unfold Bm
    split
    ·exact nD hC (q1.k.trans hk) ma mb fB ua ub q3 q4 λx st3 k h=>⟨k,h⟩
    ·exact nD hC (q1.k.trans hk) ma mb fB ua ub q3 q4 λx st3 k h=>⟨k,h⟩
   refine QD key λx st3 ⟨k,h⟩=>?_
   cases x with
   | done c=>exact ⟨q1.trans k,h⟩
   | yield c=>exact ⟨q1.trans k,h⟩
  case gpost =>
   rintro ⟨o,na,nb,out,g,ac,bc⟩ st'' ⟨q1,hR⟩
   dsimp only at hR |-
   rcases hR with ⟨r,rfl,hr⟩ | ⟨rfl,hL3,hn3⟩
   ·exact PX (h1 r _ _ q1 hr)
   ·exact PV (fP (PX (h2 _ _ _ _ _ (q1.min _) hL3 hn3)))
theorem qU {st:SortSt} (hC:iK prog w A s κ rk L) (hk:kindOf st=κ) (ma:∀ (i:Nat) (p:Keyed),a[i]?=some p->p∈L) (mb:∀ (i:Nat) (p:Keyed),b[i]?=some p->p∈L) (ua:Up rk a) (ub:Up rk b) (na1:1<=a.size) (nb1:1<=b.size)
 (h0:∀ p q,a[0]?=some p->b[0]?=some q->rk q<=rk p) (hl:∀ (j:Nat) (p q:Keyed),a[a.size - 1]?=some p->b[j]?=some q->rk q<=rk p) (h:∀ r st',Res rk a b r->cY st st'->Q r st'):wpS (model prog w) A E s (lG a b) Q st:=by
 obtain ⟨p0,ep0⟩:=some_at (xs:=a) (i:=0) na1
 have firstB:∀ {out:Array Keyed} {na nb:Nat},WH rk a b out na nb->nb=1->Res rk a b (EW a b out na nb):=λhw e=>hw.first ua e λj p q e1 e2=>QA (h0 p0 q ep0 e2) (ua 0 j p0 p (Qv _) ep0 e1)
 obtain ⟨pl,epl⟩:=some_at (xs:=a) (i:=a.size - 1) (by lia)
 have W0:WH rk a b #[pl] (a.size - 1) b.size:=by
  have z:WH rk a b #[] a.size b.size:=⟨PU _,PU _,by simp,TZ,by simp,by simp⟩
  exact z.gn ua na1 epl λj q _ e=>hl j pl q epl e
 rw [qT]
 refine PV (Sm (Q8 ⟨rfl,?_⟩))
 refine PV (aU epl ?_)
 by_cases e1:a.size - 1=0
 ·rw [if_pos (by simpa using e1)]
  exact PX (h _ _ (W0.jz ub e1) (.refl _))
 rw [if_neg (by simpa using e1)]
 by_cases e2:b.size=1
 ·rw [if_pos (by simpa using e2)]
  exact PX (h _ _ (firstB W0 e2) (.refl _))
 rw [if_neg (by simpa using e2)]
 refine PV (Rv ?_)
 refine PV (QD (Q7 (I:=λx c st'=>cY st st'/\c.1=none/\ig rk a b c.2.2.2.1 c.2.1 c.2.2.1/\x+c.2.1+c.2.2.1<a.size+b.size) (Q:=λc st'=>cY st st'/\∃ r,c.1=some r/\Res rk a b r) ?step ?fin ⟨.refl _,rfl,⟨W0,by dsimp only; lia,by dsimp only; lia⟩,by dsimp only; lia⟩) ?post)
 case fin =>
  rintro c st' ⟨hK,hc,hL,hx⟩
  have h1:=hL.la
  lia
 case post =>
  rintro c st' ⟨hK,r,hc,hr⟩
  rw [hc]
  exact PX (h r st' hr hK)
 case step =>
  rintro x c st1 _ hx ⟨hK,_,hL,hn⟩
  have l1:=hL.la
  have l2:=hL.lb
  exact tR (n:=a.size+b.size - x - 2) hC (hK.k.trans hk) ma mb firstB ua ub hL (by lia) (by lia) (λr z st' k hr=>⟨hK.trans k,r,rfl,hr⟩) λna nb out g st' k q1 q2=>⟨hK.trans k,rfl,q1,by have:=q1.la; dsimp only; lia⟩
def Seg (rk:Keyed->Int) (xs:Array Keyed) (lo hi:Nat):Prop:=∀ i j,lo<=i->i<=j->j<hi->R rk xs i<=R rk xs j
def G0 (rk:Keyed->Int) (xs:Array Keyed) (lo hi:Nat):Prop:=∀ i j,lo<=i->i<=j->j<hi->R rk xs j<=R rk xs i
structure Bs (κ:SortKind) (L:List Keyed) (st:SortSt):Prop where
 perm:(arrOf st).toList.Perm L
 kind:kindOf st=κ
 failed:failedOf st=none
structure Mv (st st':SortSt) (lo hi:Nat):Prop where
 out:∀ i,i<lo\/hi<=i->(arrOf st')[i]?=(arrOf st)[i]?
 pend:pendingOf st'=pendingOf st
section
variable {st st' st'':SortSt} {lo hi:Nat}
theorem Bs.size (h:Bs κ L st):(arrOf st).size=L.length:=by simpa using h.perm.length_eq
theorem Bs.at (h:Bs κ L st) (hi:i<L.length):∃ p,(arrOf st)[i]?=some p/\p∈L:=by
 have hs:=h.size
 refine ⟨(arrOf st)[i]'(by lia),Qt _,h.perm.mem_iff.mp ?_⟩
 rw [VT]; exact We _
theorem Bs.arr (h:Bs κ L st) (hp:xs.toList.Perm (arrOf st).toList):Bs κ L (setArr st xs):=⟨hp.trans h.perm,h.kind,h.failed⟩
theorem Mv.refl:Mv st st lo hi:=⟨λ_ _=>rfl,rfl⟩
theorem Mv.trans (a:Mv st st' lo hi) (b:Mv st' st'' lo hi):Mv st st'' lo hi:=⟨λi h=>(b.out i h).trans (a.out i h),b.pend.trans a.pend⟩
theorem Bp (hj:j<=xs.size) (k):R rk (mirror xs i j ((j - i) / 2)) k=if i<=k/\k<j then R rk xs (i+j - 1 - k) else R rk xs k:=by
 have e:=getElem?_mirror_all (i:=i) hj k
 by_cases h:i<=k/\k<j
 ·rw [if_pos h] at e |-; exact cy e
 ·rw [if_neg h] at e |-; exact cy e
theorem lH (hj:j<=(arrOf st).size) (h1:lo<=i) (h2:j<=hi):Mv st (setArr st (mirror (arrOf st) i j ((j - i) / 2))) lo hi :=
 ⟨λk hk=>by
   have e:=getElem?_mirror_all (i:=i) hj k
   rw [if_neg (by lia)] at e; exact e,rfl⟩
theorem EZ (i) (xs):Seg rk xs i (i+1):=λa b h1 h2 h3=>by
 have:a=b:=by lia
 subst this; exact Rm _
theorem Bq (h:Seg rk xs lo (lo+n)) (hn:1<=n) (hl:¬ R rk xs (lo+n)<R rk xs (lo+n - 1)):Seg rk xs lo (lo+(n+1)):=λa b h1 h2 h3=>by
 by_cases hb:b<lo+n
 ·exact h a b h1 h2 hb
 ·have e:b=lo+n:=by lia
  subst e
  by_cases ha:a=lo+n
  ·subst ha; exact Rm _
  ·exact QA (h a (lo+n - 1) h1 (by lia) (by lia)) (Int.not_lt.mp hl)
theorem gp (h:G0 rk xs lo (lo+n)) (hn:1<=n) (hl:R rk xs (lo+n)<=R rk xs (lo+n - 1)):G0 rk xs lo (lo+(n+1)):=λa b h1 h2 h3=>by
 by_cases hb:b<lo+n
 ·exact h a b h1 h2 hb
 ·have e:b=lo+n:=by lia
  subst e
  by_cases ha:a=lo+n
  ·subst ha; exact Rm _
  ·exact QA hl (h a (lo+n - 1) h1 (by lia) (by lia))
end
section
variable {st:SortSt} {lo nrem:Nat}
theorem lI (hC:iK prog w A s κ rk L) (hB:Bs κ L st) (hi:i<L.length) (hj:j<L.length) (h:Q (some (decide (R rk (arrOf st) i<R rk (arrOf st) j))) st):wpS (model prog w) A E s (ltAt' i j) Q st:=by
 obtain ⟨p,ep,hp⟩:=hB.at hi
 obtain ⟨q,eq,hq⟩:=hB.at hj
 exact yc hC hB.kind ep eq hp hq h
theorem eY (h:Q () (setArr st (mirror (arrOf st) i j ((j - i) / 2)))):wpS (model prog w) A E s (reverseSlice' i j) Q st :=
 RJ (f:=λs=>setArr s (mirror (arrOf s) i j ((j - i) / 2))) h
noncomputable abbrev Mx:=Option (Option Nat)×Nat
noncomputable def asc (lo a nrem:Nat):StateT SortSt Sem Mx :=
 forIn [a:nrem] ((none,a):Mx) λ_ c=>ltAt' (lo+c.2) (lo+c.2 - 1) >>= λx=>match x with
  | some smaller=>if smaller=true then pure (Rr (none,c.2)) else pure (QY (none,c.2+1))
  | _=>pure (Rr (some none,c.2))
theorem vU (hC:iK prog w A s κ rk L) (hB:Bs κ L st) (hn:lo+nrem<=L.length) (h1:1<=a) (h2:a<=nrem) (hs:Seg rk (arrOf st) lo (lo+a))
 (h:∀ n,a<=n->n<=nrem->Seg rk (arrOf st) lo (lo+n)->(n=nrem\/R rk (arrOf st) (lo+n)<R rk (arrOf st) (lo+n - 1))->Q (none,n) st):wpS (model prog w) A E s (asc lo a nrem) Q st:=by
 unfold asc
 refine Q7 (I:=λx c st'=>st'=st/\c=(none,x)/\Seg rk (arrOf st) lo (lo+x)) ?step ?fin ⟨rfl,rfl,hs⟩
 case fin =>
  rintro c st' ⟨rfl,rfl,hs'⟩
  rw [show max a nrem=nrem by lia] at hs' |-
  exact h nrem h2 (PU _) hs' (.inl rfl)
 case step =>
  rintro x c st' hax hxn ⟨rfl,rfl,hs'⟩
  refine PV (lI hC hB (by dsimp only; lia) (by dsimp only; lia) ?_)
  dsimp only
  by_cases hl:R rk (arrOf st') (lo+x)<R rk (arrOf st') (lo+x - 1)
  ·rw [decide_eq_true hl,if_pos rfl]
   exact PX (h x hax (by lia) hs' (.inr hl))
  ·rw [decide_eq_false hl,if_neg P5]
   exact PX ⟨rfl,rfl,Bq hs' (by lia) hl⟩
noncomputable abbrev Mz:=Option (Option Nat)×Nat×Nat
noncomputable def MA (lo n nrem:Nat):StateT SortSt Sem Mz :=
 forIn [n:nrem] ((none,n,0):Mz) λ_ c=>ltAt' (lo+c.2.1) (lo+c.2.1 - 1) >>= λx=>match x with
  | some smaller=>if smaller=true then
   (if c.2.2>0 then reverseSlice' (lo+c.2.1 - (c.2.2+1)) (lo+c.2.1) >>= λ_=>pure (QY (none,c.2.1+1,0)) else pure (QY (none,c.2.1+1,0)))
   else ltAt' (lo+c.2.1 - 1) (lo+c.2.1) >>= λy=>match y with
    | some larger=>if larger=true then pure (Rr (none,c.2.1,c.2.2)) else pure (QY (none,c.2.1+1,c.2.2+1))
    | _=>pure (Rr (some none,c.2.1,c.2.2))
  | _=>pure (Rr (some none,c.2.1,c.2.2))
theorem i7 (hj:j<=xs.size) (he:∀ k,i<=k->k<j->R rk xs k=R rk xs (j - 1)) (k):R rk (mirror xs i j ((j - i) / 2)) k=R rk xs k:=by
 rw [Bp hj]
 split
 ·rw [he _ (by lia) (by lia),he k (by lia) (by lia)]
 ·rfl
theorem E0 (hC:iK prog w A s κ rk L) (hB:Bs κ L st) (hn:lo+nrem<=L.length) (h1:1<=n) (h2:n<=nrem) (hs:G0 rk (arrOf st) lo (lo+n))
 (h:∀ m neq st',Bs κ L st'->Mv st st' lo (lo+nrem)->n<=m->m<=nrem->G0 rk (arrOf st') lo (lo+m)->neq+1<=m->(∀ i,lo+m - (neq+1)<=i->i<lo+m->R rk (arrOf st') i=R rk (arrOf st') (lo+m - 1))->Q (none,m,neq) st') :
 wpS (model prog w) A E s (MA lo n nrem) Q st:=by
 unfold MA
 refine Q7 (I:=λx c st'=>∃ neq,c=(none,x,neq)/\Bs κ L st'/\Mv st st' lo (lo+nrem)/\G0 rk (arrOf st') lo (lo+x)/\neq+1<=x/\(∀ i,lo+x - (neq+1)<=i->i<lo+x->R rk (arrOf st') i=R rk (arrOf st') (lo+x - 1))) ?step ?fin
  ⟨0,rfl,hB,.refl,hs,h1,λi a1 a2=>by congr 1; lia⟩
 case fin =>
  rintro c st' ⟨neq,rfl,jK,hM',hs',hq,he⟩
  rw [show max n nrem=nrem by lia] at hs' hq he |-
  exact h nrem neq st' jK hM' h2 (PU _) hs' hq he
 case step =>
  rintro x c st' hax hxn ⟨neq,rfl,jK,hM',hs',hq,he⟩
  have hsz:=jK.size
  refine PV (lI hC jK (by dsimp only; lia) (by dsimp only; lia) ?_)
  dsimp only
  by_cases hl:R rk (arrOf st') (lo+x)<R rk (arrOf st') (lo+x - 1)
  ·rw [decide_eq_true hl,if_pos rfl]
   by_cases hq0:neq>0
   ·rw [if_pos hq0]
    have key:=i7 (rk:=rk) (xs:=arrOf st') (i:=lo+x - (neq+1)) (j:=lo+x) (by lia) he
    refine PV (eY (PX ⟨0,rfl,jK.arr (Td.mp (Uj _ _ _ _)),hM'.trans (lH (by lia) (by lia) (by lia)),?_,by lia,λi a1 a2=>by congr 1; lia⟩))
    refine gp (λa b z1 z2 z3=>?_) (by lia) ?_
    ·show R rk (mirror _ _ _ _) b<=R rk (mirror _ _ _ _) a
     rw [key,key]; exact hs' a b z1 z2 z3
    ·show R rk (mirror _ _ _ _) _<=R rk (mirror _ _ _ _) _
     rw [key,key]; lia
   ·rw [if_neg hq0]
    exact PX ⟨0,rfl,jK,hM',gp hs' (by lia) (by lia),by lia,λi a1 a2=>by congr 1; lia⟩
  ·rw [decide_eq_false hl,if_neg P5]
   refine PV (lI hC jK (by lia) (by lia) ?_)
   dsimp only
   by_cases hg:R rk (arrOf st') (lo+x - 1)<R rk (arrOf st') (lo+x)
   ·rw [decide_eq_true hg,if_pos rfl]
    exact PX (h x neq st' jK hM' hax (by lia) hs' hq he)
   ·rw [decide_eq_false hg,if_neg P5]
    have heq:R rk (arrOf st') (lo+x)=R rk (arrOf st') (lo+x - 1):=by lia
    refine PX ⟨neq+1,rfl,jK,hM',gp hs' (by lia) (by lia),by lia,λi a1 a2=>?_⟩
    rw [show lo+(x+1) - 1=lo+x by lia]
    by_cases hi:i=lo+x
    ·rw [hi]
    ·rw [heq]; exact he i (by lia) (by lia)
noncomputable def countRun':Nat->Nat->StateT SortSt Sem (Option Nat):=sortPriv% PySem.Builtin.countRun
theorem i8 {Q:Option Nat->SortSt->Prop} (hC:iK prog w A s κ rk L) (hB:Bs κ L st) (hn:lo+nrem<=L.length) (h1:1<=n) (h2:n<=nrem) (hs:G0 rk (arrOf st) lo (lo+n))
 (h:∀ m st',Bs κ L st'->Mv st st' lo (lo+nrem)->1<=m->m<=nrem->Seg rk (arrOf st') lo (lo+m)->Q (some m) st') :
 wpS (model prog w) A E s (asc lo n nrem) (λc st'=>c.1=none/\Q (some c.2) st') (setArr st (mirror (arrOf st) lo (lo+n) ((lo+n - lo) / 2))):=by
 have hsz:=hB.size
 have jK:=hB.arr (Td.mp (Uj (arrOf st) lo (lo+n) ((lo+n - lo) / 2)))
 refine vU hC jK hn h1 h2 (λa b z1 z2 z3=>?_) λm m1 m2 ms _=>⟨rfl,h m _ jK (lH (by lia) (PU _) (by lia)) (by lia) m2 ms⟩
 show R rk (mirror _ _ _ _) a<=R rk (mirror _ _ _ _) b
 rw [Bp (by lia),Bp (by lia),if_pos (by lia),if_pos (by lia)]
 exact hs _ _ (by lia) (by lia) (by lia)
local macro_rules | `(tactic| walk_at "dl countRun")=>do
 let i:=SM (Sq `PySem.Builtin.List.W1All `PySem.Builtin.countRun)
 `(tactic| delta $i)
theorem wpS_countRun (hC:iK prog w A s κ rk L) (hB:Bs κ L st) (hn:lo+nrem<=L.length) (h1:1<=nrem)
 (h:∀ m st',Bs κ L st'->Mv st st' lo (lo+nrem)->1<=m->m<=nrem->Seg rk (arrOf st') lo (lo+m)->Q (some m) st'):wpS (model prog w) A E s (countRun' lo nrem) Q st:=by
 unfold countRun'
 walk_at "dl countRun"
 dsimp only
 have hsz:=hB.size
 refine PV (show wpS _ _ _ _ (asc lo 1 nrem) _ _ from vU hC hB hn (PU _) h1 (EZ lo _) λn n1 n2 ns nor=>?_)
 dsimp only
 by_cases hnn:n=nrem
 ·rw [if_pos (by simpa using hnn)]
  exact PX (h n st hB .refl n1 n2 ns)
 rw [if_neg (by simpa using hnn)]
 have hlt:=nor.resolve_left hnn
 have rest:∀ (st1:SortSt),Bs κ L st1->Mv st st1 lo (lo+nrem)->G0 rk (arrOf st1) lo (lo+(n+1))->wpS (model prog w) A E s (MA lo (n+1) nrem) (λc st2=>Bs κ L st2/\Mv st st2 lo (lo+nrem)/\c.1=none/\n+1<=c.2.1/\c.2.1<=nrem/\G0 rk (arrOf st2) lo (lo+c.2.1)/\c.2.2+1<=c.2.1/\(∀ i,lo+c.2.1 - (c.2.2+1)<=i->i<lo+c.2.1->R rk (arrOf st2) i=R rk (arrOf st2) (lo+c.2.1 - 1))) st1 :=
  λst1 hB1 hM1 hs1=>E0 hC hB1 hn (by lia) (by lia) hs1 λm neq st2 a1 a2 a3 a4 a5 a6 a7=>⟨a1,hM1.trans a2,rfl,a3,a4,a5,a6,a7⟩
 by_cases hgt:n>1
 ·rw [if_pos hgt]
  refine PV (lI hC hB (by lia) (by lia) ?_)
  dsimp only
  by_cases hrose:R rk (arrOf st) lo<R rk (arrOf st) (lo+n - 1)
  ·rw [decide_eq_true hrose,if_pos rfl]
   exact PX (h n st hB .refl n1 n2 ns)
  ·rw [decide_eq_false hrose,if_neg P5]
   have hall:∀ k,lo<=k->k<lo+n->R rk (arrOf st) k=R rk (arrOf st) (lo+n - 1):=λk z1 z2=>by
    have a1:=ns lo k (PU _) z1 z2
    have a2:=ns k (lo+n - 1) z1 (by lia) (by lia)
    lia
   have key:=i7 (rk:=rk) (xs:=arrOf st) (i:=lo) (j:=lo+n) (by lia) hall
   refine PV (eY ?_)
   refine PV (Sm (Q8 ⟨rfl,?_⟩))
   refine PV (QD (show wpS _ _ _ _ (MA lo (n+1) nrem) _ _ from rest _ (hB.arr (Td.mp (Uj _ _ _ _))) (lH (by lia) (PU _) (by lia)) (gp (λa b z1 z2 z3=>?_) (by lia) ?_)) λc st2 hc=>?_)
   ·show R rk (mirror _ _ _ _) b<=R rk (mirror _ _ _ _) a
    rw [key,key,hall b (by lia) z3,hall a z1 (by lia)]; exact Rm _
   ·show R rk (mirror _ _ _ _) _<=R rk (mirror _ _ _ _) _
    rw [key,key]; lia
   ·obtain ⟨r,m,neq⟩:=c
    obtain ⟨b1,b2,b3,b4,b5,b6,b7,b8⟩:=hc
    dsimp only at b3 b4 b5 b6 b7 b8 |-
    rw [b3]
    dsimp only
    by_cases hq0:neq>0
    ·rw [if_pos hq0]
     have hsz2:=b1.size
     have key2:=i7 (rk:=rk) (xs:=arrOf st2) (i:=lo+m - (neq+1)) (j:=lo+m) (by lia) b8
     refine PV (eY (PV (eY (PV (QD (show wpS _ _ _ _ (asc lo m nrem) _ _ from i8 (Q:=Q) hC (b1.arr (Td.mp (Uj _ _ _ _))) hn (by lia) b5 (λa b z1 z2 z3=>?_) λk st3 c1 c2 c3 c4 c5=>h k st3 c1 ((b2.trans (lH (by lia) (by lia) (by lia))).trans c2) c3 c4 c5) λc st4 hc=>?_)))))
     ·show R rk (mirror _ _ _ _) b<=R rk (mirror _ _ _ _) a
      rw [key2,key2]; exact b6 a b z1 z2 z3
     ·obtain ⟨r,k⟩:=c
      obtain ⟨e,hQ⟩:=hc
      dsimp only at e hQ |-
      rw [e]
      exact PX hQ
    ·rw [if_neg hq0]
     refine PV (eY (PV (QD (show wpS _ _ _ _ (asc lo m nrem) _ _ from i8 (Q:=Q) hC b1 hn (by lia) b5 b6 λk st3 c1 c2 c3 c4 c5=>h k st3 c1 (b2.trans c2) c3 c4 c5) λc st4 hc=>?_)))
     obtain ⟨r,k⟩:=c
     obtain ⟨e,hQ⟩:=hc
     dsimp only at e hQ |-
     rw [e]
     exact PX hQ
 ·rw [if_neg hgt]
  have e1:n=1:=by lia
  subst e1
  refine PV (Sm (Q8 ⟨rfl,?_⟩))
  refine PV (QD (show wpS _ _ _ _ (MA lo (1+1) nrem) _ _ from rest st hB .refl (gp (λa b z1 z2 z3=>?_) (PU _) (R1 hlt))) λc st2 hc=>?_)
  ·have:a=b:=by lia
   subst this; exact Rm _
  ·obtain ⟨r,m,neq⟩:=c
   obtain ⟨b1,b2,b3,b4,b5,b6,b7,b8⟩:=hc
   dsimp only at b3 b4 b5 b6 b7 b8 |-
   rw [b3]
   dsimp only
   by_cases hq0:neq>0
   ·rw [if_pos hq0]
    have hsz2:=b1.size
    have key2:=i7 (rk:=rk) (xs:=arrOf st2) (i:=lo+m - (neq+1)) (j:=lo+m) (by lia) b8
    refine PV (eY (PV (eY (PV (QD (show wpS _ _ _ _ (asc lo m nrem) _ _ from i8 (Q:=Q) hC (b1.arr (Td.mp (Uj _ _ _ _))) hn (by lia) b5 (λa b z1 z2 z3=>?_) λk st3 c1 c2 c3 c4 c5=>h k st3 c1 ((b2.trans (lH (by lia) (by lia) (by lia))).trans c2) c3 c4 c5) λc st4 hc=>?_)))))
    ·show R rk (mirror _ _ _ _) b<=R rk (mirror _ _ _ _) a
     rw [key2,key2]; exact b6 a b z1 z2 z3
    ·obtain ⟨r,k⟩:=c
     obtain ⟨e,hQ⟩:=hc
     dsimp only at e hQ |-
     rw [e]
     exact PX hQ
   ·rw [if_neg hq0]
    refine PV (eY (PV (QD (show wpS _ _ _ _ (asc lo m nrem) _ _ from i8 (Q:=Q) hC b1 hn (by lia) b5 b6 λk st3 c1 c2 c3 c4 c5=>h k st3 c1 (b2.trans c2) c3 c4 c5) λc st4 hc=>?_)))
    obtain ⟨r,k⟩:=c
    obtain ⟨e,hQ⟩:=hc
    dsimp only at e hQ |-
    rw [e]
    exact PX hQ
end
section
variable {st:SortSt} {lo:Nat}
theorem G1 (hs:src<xs.size) (hd:d<=src) (k):R rk (bubble xs src d) k=if k=src - d then R rk xs src else if src - d<k/\k<=src then R rk xs (k - 1) else R rk xs k:=by
 have e:=getElem?_bubble hs d hd k
 by_cases h1:k=src - d
 ·rw [if_pos h1] at e |-; exact cy e
 ·rw [if_neg h1] at e |-
  by_cases h2:src - d<k/\k<=src
  ·rw [if_pos h2] at e |-; exact cy e
  ·rw [if_neg h2] at e |-; exact cy e
theorem Br (h:Q () (setArr st (bubble (arrOf st) i (i - j)))):wpS (model prog w) A E s (moveDown' i j) Q st :=
 RJ (f:=λs=>setArr s (bubble (arrOf s) i (i - j))) h
noncomputable def binarySort':Nat->Nat->Nat->StateT SortSt Sem Bool:=sortPriv% PySem.Builtin.binarySort
local macro_rules | `(tactic| walk_at "dl binarySort")=>do
 let i:=SM (Sq `PySem.Builtin.List.W1All `PySem.Builtin.binarySort)
 `(tactic| delta $i)
theorem wpS_binarySort (hC:iK prog w A s κ rk L) (hB:Bs κ L st) (hn:lo+n<=L.length) (hok:ok<=n) (hs:Seg rk (arrOf st) lo (lo+ok))
 (h:∀ st',Bs κ L st'->Mv st st' lo (lo+n)->Seg rk (arrOf st') lo (lo+n)->Q true st'):wpS (model prog w) A E s (binarySort' lo n ok) Q st:=by
 unfold binarySort'
 walk_at "dl binarySort"
 dsimp only
 refine PV (QD (Q7 (I:=λk c st'=>c.1=none/\Bs κ L st'/\Mv st st' lo (lo+n)/\Seg rk (arrOf st') lo (lo+min k n)) (Q:=λc st'=>c.1=none/\Bs κ L st'/\Mv st st' lo (lo+n)/\Seg rk (arrOf st') lo (lo+n)) ?step ?fin ?init) ?post)
 case post =>
  rintro ⟨c,u⟩ st' ⟨hc,jK,hM',hs'⟩
  dsimp only at hc |-
  rw [hc]
  exact PX (h st' jK hM' hs')
 case init =>
  refine ⟨rfl,hB,.refl,λa b z1 z2 z3=>?_⟩
  by_cases h1:ok=0
  ·have:a=b:=by lia
   subst this; exact Rm _
  ·exact hs a b z1 z2 (by lia)
 case fin =>
  rintro c st' ⟨hc,jK,hM',hs'⟩
  rw [show min (max (max ok 1) n) n=n by lia] at hs'
  exact ⟨hc,jK,hM',hs'⟩
 case step =>
  rintro k ⟨c,u⟩ st' hak hkn ⟨rfl,jK,hM',hs'⟩
  rw [show min k n=k by lia] at hs'
  have hsz:=jK.size
  refine PV (QD (Q7 (I:=λx c st2=>st2=st'/\∃ l r,c=(none,l,r)/\l<=r/\r<=k/\r - l<=k - x/\(∀ i,i<l->R rk (arrOf st') (lo+i)<=R rk (arrOf st') (lo+k))/\(∀ i,r<=i->i<k->R rk (arrOf st') (lo+k)<R rk (arrOf st') (lo+i)))
   (Q:=λc st2=>st2=st'/\∃ l r,c=(none,l,r)/\l<=k/\(∀ i,i<l->R rk (arrOf st') (lo+i)<=R rk (arrOf st') (lo+k))/\(∀ i,l<=i->i<k->R rk (arrOf st') (lo+k)<R rk (arrOf st') (lo+i))) ?istep ?ifin ⟨rfl,0,k,rfl,by lia,by lia,by lia,λi hi=>by lia,λi h1 h2=>by lia⟩) ?ipost)
  case ifin =>
   rintro c st2 ⟨rfl,l,r,rfl,a1,a2,a3,a4,a5⟩
   have:l=r:=by lia
   subst this
   exact ⟨rfl,l,l,rfl,a2,a4,a5⟩
  case istep =>
   rintro x c st2 _ hx ⟨rfl,l,r,rfl,a1,a2,a3,a4,a5⟩
   dsimp only
   by_cases hge:l>=r
   ·rw [if_pos hge]
    have:l=r:=by lia
    subst this
    exact PX ⟨rfl,l,l,rfl,a2,a4,a5⟩
   ·rw [if_neg hge]
    refine PV (lI hC jK (by lia) (by lia) ?_)
    dsimp only
    by_cases hl:R rk (arrOf st2) (lo+k)<R rk (arrOf st2) (lo+(l+r) / 2)
    ·rw [decide_eq_true hl,if_pos rfl]
     refine PX ⟨rfl,l,(l+r) / 2,rfl,by lia,by lia,by lia,a4,λi h1 h2=>?_⟩
     exact Int.lt_of_lt_of_le hl (hs' _ _ (by lia) (by lia) (by lia))
    ·rw [decide_eq_false hl,if_neg P5]
     refine PX ⟨rfl,(l+r) / 2+1,r,rfl,by lia,by lia,by lia,λi h1=>?_,a5⟩
     exact QA (hs' (lo+i) (lo+(l+r) / 2) (by lia) (by lia) (by lia)) (Int.not_lt.mp hl)
  case ipost =>
   rintro c st2 ⟨rfl,l,r,rfl,hlk,a4,a5⟩
   dsimp only
   have e1:lo+k - (lo+l)=k - l:=by lia
   refine PV (Br (PX ⟨rfl,jK.arr (Td.mp (bubble_perm _ _ _)),?_,?_⟩))
   ·refine hM'.trans ⟨λi hi=>?_,rfl⟩
    have e:=getElem?_bubble (xs:=arrOf st2) (src:=lo+k) (by lia) (lo+k - (lo+l)) (by lia) i
    rw [if_neg (by lia),if_neg (by lia)] at e
    exact e
   ·rw [show min (k+1) n=k+1 by lia]
    intro i j hi hij hj
    show R rk (bubble (arrOf st2) (lo+k) (lo+k - (lo+l))) i<=R rk (bubble (arrOf st2) (lo+k) (lo+k - (lo+l))) j
    rw [G1 (by lia) (by lia),G1 (by lia) (by lia),e1]
    have sub:∀ i,lo<=i->lo+(i - lo)=i:=λi hi=>by lia
    have f4:∀ i,lo<=i->i<lo+l->R rk (arrOf st2) i<=R rk (arrOf st2) (lo+k):=λi h1 h2=>by have:=a4 (i - lo) (by lia); rwa [sub i h1] at this
    have f5:∀ i,lo+l<=i->i<lo+k->R rk (arrOf st2) (lo+k)<R rk (arrOf st2) i:=λi h1 h2=>by have:=a5 (i - lo) (by lia) (by lia); rwa [sub i (by lia)] at this
    repeat' split
    all_goals first
     | (exfalso; lia)
     | exact Rm _
     | exact f4 _ (by lia) (by lia)
     | exact R1 (f5 _ (by lia) (by lia))
     | exact hs' _ _ (by lia) (by lia) (by lia)
theorem nE:∀ (l:List Keyed) (k sa:Nat) (A:Array Keyed),sa+k+l.length<=A.size->((l.zipIdx k).foldl (λa (x:Keyed×Nat)=>a.setIfInBounds (sa+x.2) x.1) A).size=A.size /\
 ∀ i:Nat,((l.zipIdx k).foldl (λa (x:Keyed×Nat)=>a.setIfInBounds (sa+x.2) x.1) A)[i]?=if sa+k<=i/\i<sa+k+l.length then l[i - (sa+k)]? else A[i]?
 | [],k,sa,A,h=>⟨rfl,λi=>by rw [if_neg (by simp only [RH]; lia)]; rfl⟩
 | x::l,k,sa,A,h=>by
  rw [Qz] at h
  obtain ⟨h1,h2⟩:=nE l (k+1) sa (A.setIfInBounds (sa+k) x) (by rw [Array.size_setIfInBounds]; lia)
  rw [Wg,Rp]
  refine ⟨by rw [h1,Array.size_setIfInBounds],λi=>?_⟩
  rw [h2 i,Qz]
  by_cases c1:sa+(k+1)<=i/\i<sa+(k+1)+l.length
  ·rw [if_pos c1,if_pos (by lia),show i - (sa+k)=i - (sa+(k+1))+1 by lia,List.getElem?_cons_succ]
  ·rw [if_neg c1]
   by_cases c2:i=sa+k
   ·subst c2
    rw [if_pos (by lia),Nat.sub_self,List.getElem?_cons_zero,Array.getElem?_setIfInBounds_self_of_lt (by lia)]
   ·rw [if_neg (by lia),Array.getElem?_setIfInBounds_ne (by lia)]
end
noncomputable def iw:Nat->StateT SortSt Sem Bool:=sortPriv% PySem.Builtin.mergeAt
local macro_rules | `(tactic| walk_at "dl mergeAt")=>do
 let i:=SM (Sq `PySem.Builtin.List.W1All `PySem.Builtin.mergeAt)
 `(tactic| delta $i)
section
variable {st:SortSt}
theorem E1 (h:Q ⟨⟩ st1):wpS M A E s (set st1:StateT SortSt Sem PUnit) Q st:=by
 unfold wpS; rw [StateT.run_set]; exact PR ⟨rfl,h⟩
theorem yf (hC:iK prog w A s κ rk L) (hk:kindOf st=κ) (hkey:key∈L) (mx:∀ (i:Nat) (p:Keyed),xs[i]?=some p->p∈L) (hn:base+n<=xs.size) (us:Seg rk xs base (base+n)) (hh:hint<n)
 (h:∀ k,k<=n->(∀ i,base<=i->i<base+k->R rk xs i<=rk key)->(∀ i,base+k<=i->i<base+n->rk key<R rk xs i)->Q (some k) st):wpS (model prog w) A E s (cW false key xs base n hint) Q st:=by
 obtain ⟨k,h1,h2⟩:=lE (λi=>R rk xs (base+i)) (rk key) n λi j hij hj=>us _ _ (by lia) (by lia) (by lia)
 refine fO hC hk hkey (λi hi=>⟨xs[base+i]'(by lia),Qt _,mx _ _ (Qt _)⟩) (λi hi=>by simp only [QU,if_false]; exact h2 i hi) h1 hh (h k h1 (λi hi hk=>?_) λi hi hk=>?_)
 ·have:=(h2 (i - base) (by lia)).mpr (by lia)
  rwa [show base+(i - base)=i by lia] at this
 ·have:=mt (h2 (i - base) (by lia)).mp (by lia)
  rw [show base+(i - base)=i by lia] at this
  lia
theorem yg (hC:iK prog w A s κ rk L) (hk:kindOf st=κ) (hkey:key∈L) (mx:∀ (i:Nat) (p:Keyed),xs[i]?=some p->p∈L) (hn:base+n<=xs.size) (us:Seg rk xs base (base+n)) (hh:hint<n)
 (h:∀ k,k<=n->(∀ i,base<=i->i<base+k->R rk xs i<rk key)->(∀ i,base+k<=i->i<base+n->rk key<=R rk xs i)->Q (some k) st):wpS (model prog w) A E s (cW true key xs base n hint) Q st:=by
 obtain ⟨k,h1,h2⟩:=lF (λi=>R rk xs (base+i)) (rk key) n λi j hij hj=>us _ _ (by lia) (by lia) (by lia)
 refine fO hC hk hkey (λi hi=>⟨xs[base+i]'(by lia),Qt _,mx _ _ (Qt _)⟩) (λi hi=>by simp only [if_true]; exact h2 i hi) h1 hh (h k h1 (λi hi hk=>?_) λi hi hk=>?_)
 ·have:=(h2 (i - base) (by lia)).mpr (by lia)
  rwa [show base+(i - base)=i by lia] at this
 ·have:=mt (h2 (i - base) (by lia)).mp (by lia)
  rw [show base+(i - base)=i by lia] at this
  lia
theorem eZ {xs:Array Keyed} (h:(xs.extract i j)[m]?=some p):xs[i+m]?=some p/\i+m<j:=by
 rw [UJ] at h
 split at h
 ·exact ⟨h,by lia⟩
 ·cases h
theorem vV {lo hi i j:Nat} (h:Seg rk xs lo hi) (h1:lo<=i) (h2:j<=hi):Up rk (xs.extract i j):=λa b p q hab e1 e2=>by
 obtain ⟨f1,g1⟩:=eZ e1
 obtain ⟨f2,g2⟩:=eZ e2
 have:=h (i+a) (i+b) (by lia) (by lia) (by lia)
 rwa [dU f1,dU f2] at this
theorem qV (hC:iK prog w A s κ rk L) (hB:Bs κ L st) (p1:(pendingOf st)[i]?=some (sa,na,pw)) (p2:(pendingOf st)[i+1]?=some (sa+na,nb,pw2)) (h1:1<=na) (h2:1<=nb) (hz:sa+na+nb<=L.length)
 (s1:Seg rk (arrOf st) sa (sa+na)) (s2:Seg rk (arrOf st) (sa+na) (sa+na+nb))
 (h:∀ st',Bs κ L st'->(∀ j,j<sa\/sa+na+nb<=j->(arrOf st')[j]?=(arrOf st)[j]?)->pendingOf st'=((pendingOf st).setIfInBounds i (sa,na+nb,pw)).eraseIdxIfInBounds (i+1)->Seg rk (arrOf st') sa (sa+na+nb)->Q true st') :
 wpS (model prog w) A E s (iw i) Q st:=by
 unfold iw
 walk_at "dl mergeAt"
 dsimp only
 refine PV (Rv ?_)
 rw [p1,p2]
 dsimp only
 have hsz:=hB.size
 have mL:∀ (i:Nat) (p:Keyed),(arrOf st)[i]?=some p->p∈L:=λi p e=>hB.perm.mem_iff.mp (by
  obtain ⟨h1,h2⟩:=Te.mp e
  rw [<- h2,VT]; exact We _)
 refine PV (E1 ?_)
 obtain ⟨key,ek,hkL⟩:=hB.at (i:=sa+na) (by lia)
 refine PV (aU ek ?_)
 have rkey:R rk (arrOf st) (sa+na)=rk key:=dU ek
 refine PV (yf hC hB.kind hkL mL (by show _<=(arrOf st).size; lia) s1 (by lia) λk k1 k2 k3=>?_)
 dsimp only
 by_cases e0:na - k=0
 ·rw [if_pos (by simpa using e0)]
  refine PX (h _ ⟨hB.perm,hB.kind,hB.failed⟩ (λ_ _=>rfl) rfl λa b z1 z2 z3=>?_)
  by_cases hb:b<sa+na
  ·exact s1 a b z1 z2 hb
  ·by_cases ha:sa+na<=a
   ·exact s2 a b ha z2 z3
   ·refine QA (k2 a z1 (by lia)) ?_
    rw [<- rkey]; exact s2 (sa+na) b (PU _) (by lia) z3
 rw [if_neg (by simpa using e0)]
 obtain ⟨key2,ek2,hk2L⟩:=hB.at (i:=sa+k+(na - k) - 1) (by lia)
 have rkey2:R rk (arrOf st) (sa+na - 1)=rk key2:=by rw [<- dU (rk:=rk) ek2]; congr 1; lia
 refine PV (aU ek2 ?_)
 refine PV (yg hC (by exact hB.kind) hk2L mL (by show _<=(arrOf st).size; lia) s2 (by lia) λm m1 m2 m3=>?_)
 dsimp only
 by_cases e1:m=0
 ·exfalso
  have a1:=m3 (sa+na) (by lia) (by lia)
  have a2:=k3 (sa+na - 1) (by lia) (by lia)
  rw [rkey2] at a2; rw [rkey] at a1; lia
 rw [if_neg (by simpa using e1)]
 have mx:∀ (i:Nat) (p:Keyed),((arrOf st).extract (sa+k) (sa+na))[i]?=some p->p∈L:=λi p e=>mL _ p (eZ e).1
 have my:∀ (i:Nat) (p:Keyed),((arrOf st).extract (sa+na) (sa+na+m))[i]?=some p->p∈L:=λi p e=>mL _ p (eZ e).1
 have ux:Up rk ((arrOf st).extract (sa+k) (sa+na)):=vV s1 (by lia) (PU _)
 have uy:Up rk ((arrOf st).extract (sa+na) (sa+na+m)):=vV s2 (PU _) (by lia)
 have zx:((arrOf st).extract (sa+k) (sa+na)).size=na - k:=by rw [Array.size_extract]; lia
 have zy:((arrOf st).extract (sa+na) (sa+na+m)).size=m:=by rw [Array.size_extract]; lia
 have h0:∀ p q,((arrOf st).extract (sa+k) (sa+na))[0]?=some p->((arrOf st).extract (sa+na) (sa+na+m))[0]?=some q->rk q<=rk p:=λp q e2 e3=>by
  obtain ⟨f1,g1⟩:=eZ e2
  obtain ⟨f2,g2⟩:=eZ e3
  have a1:=k3 (sa+k+0) (by lia) (by lia)
  rw [dU f1] at a1
  have a2:rk q=rk key:=by rw [<- rkey,<- dU (rk:=rk) f2]; rfl
  lia
 have hl:∀ (j:Nat) (p q:Keyed),((arrOf st).extract (sa+k) (sa+na))[((arrOf st).extract (sa+k) (sa+na)).size - 1]?=some p->((arrOf st).extract (sa+na) (sa+na+m))[j]?=some q->rk q<=rk p:=λj p q e2 e3=>by
  rw [zx] at e2
  obtain ⟨f1,g1⟩:=eZ e2
  obtain ⟨f2,g2⟩:=eZ e3
  have a1:=m2 (sa+na+j) (by lia) (by lia)
  rw [dU f2] at a1
  have a2:rk p=rk key2:=by rw [<- rkey2,<- dU (rk:=rk) f1]; congr 1; lia
  lia
 have fin:∀ (r:Array Keyed) (st2:SortSt),Res rk ((arrOf st).extract (sa+k) (sa+na)) ((arrOf st).extract (sa+na) (sa+na+m)) r->kindOf st2=kindOf st->arrOf st2=arrOf st->pendingOf st2=((pendingOf st).setIfInBounds i (sa,na+nb,pw)).eraseIdxIfInBounds (i+1)->failedOf st2=failedOf st ->
  Q true (setArr st2 (TL (λa (x:Keyed×Nat)=>a.setIfInBounds (sa+k+x.2) x.1) (arrOf st2) r.toList.zipIdx)):=λr st2 hr e2 e3 e4 e5=>by
  have hlen:r.toList.length=na - k+m:=by
   have:=hr.1.length_eq
   simp only [QE,QS,zx,zy] at this |-
   exact this
  obtain ⟨w1,w2⟩:=nE r.toList 0 (sa+k) (arrOf st) (by lia)
  generalize hW:TL (λa (x:Keyed×Nat)=>a.setIfInBounds (sa+k+x.2) x.1) (arrOf st) r.toList.zipIdx=W at w1 w2
  rw [e3,hW]
  have rW:∀ i,sa+k<=i->i<sa+na+m->R rk W i=R rk r (i - (sa+k)):=λi z1 z2=>by
   refine cy ?_
   rw [w2,if_pos (by lia),QO]; rfl
  have rO:∀ i,(i<sa+k\/sa+na+m<=i)->R rk W i=R rk (arrOf st) i:=λi z=>by
   refine cy ?_
   rw [w2,if_neg (by lia)]
  have elt:∀ i,sa+k<=i->i<sa+na+m->∃ t,sa+k<=t/\t<sa+na+m/\R rk W i=R rk (arrOf st) t:=λi z1 z2=>by
   have hi:i - (sa+k)<r.size:=by rw [<- QS]; lia
   have e6:r[i - (sa+k)]?=some r[i - (sa+k)]:=Qt hi
   have hm:r[i - (sa+k)]∈r.toList:=by rw [VT]; exact We _
   rw [rW i z1 z2,dU e6]
   rcases Qq.mp (hr.1.mem_iff.mp hm) with z | z
   ·obtain ⟨t,t1,t2,t3⟩:=vL z
    exact ⟨t,t1,by lia,(dU t3).symm⟩
   ·obtain ⟨t,t1,t2,t3⟩:=vL z
    exact ⟨t,by lia,by lia,(dU t3).symm⟩
  have ur:=JA hr.2
  refine h _ ⟨?_,e2.trans hB.kind,e5.trans hB.failed⟩ (λj hj=>?_) e4 λa b z1 z2 z3=>?_
  ·
   refine List.Perm.trans ?_ hB.perm
   have eW:W.toList=(arrOf st).toList.take (sa+k)++r.toList++(arrOf st).toList.drop (sa+na+m):=by
    apply UZ
    intro j
    rw [QO,w2,Qn,TR,TR,Q5,Tp,T6 (by rw [QS]; lia)]
    by_cases c1:j<sa+k
    ·rw [if_neg (by lia),if_pos c1,UC c1,QO]
    ·rw [if_neg c1]
     by_cases c2:j - (sa+k)<r.toList.length
     ·rw [if_pos (by lia),if_pos c2]; rfl
     ·rw [if_neg (by lia),if_neg c2,QO]; congr 1; lia
   have eA:(arrOf st).toList=(arrOf st).toList.take (sa+k)++(((arrOf st).extract (sa+k) (sa+na)).toList++((arrOf st).extract (sa+na) (sa+na+m)).toList)++(arrOf st).toList.drop (sa+na+m):=by
    apply UZ
    intro j
    rw [Qn,Qn,TR,TR,TR,Q5,QS,QS,QS,zx,zy,Tp,T6 (by lia)]
    by_cases c1:j<sa+k
    ·rw [if_pos c1,UC c1]
    ·rw [if_neg c1]
     by_cases c2:j - (sa+k)<na - k
     ·rw [if_pos c2,QO,QO,UJ,if_pos (by lia)]; congr 1; lia
     ·rw [if_neg c2]
      by_cases c3:j - (sa+k) - (na - k)<m
      ·rw [if_pos c3,QO,QO,UJ,if_pos (by lia)]; congr 1; lia
      ·rw [if_neg c3]; congr 1; lia
   show W.toList.Perm _
   rw [eW]
   conv=>rhs; rw [eA]
   exact (Tg _ hr.1).append_right _
  ·show W[j]?=_
   rw [w2,if_neg (by lia)]
  ·show R rk W a<=R rk W b
   have kk:∀ t,sa+na<=t->t<sa+na+nb->rk key<=R rk (arrOf st) t:=λt t1 t2=>by rw [<- rkey]; exact s2 _ t (PU _) t1 t2
   have kk2:∀ t,sa<=t->t<sa+na->R rk (arrOf st) t<=rk key2:=λt t1 t2=>by rw [<- rkey2]; exact s1 t _ t1 (by lia) (by lia)
   by_cases c1:a<sa+k
   ·rw [rO a (.inl c1)]
    have la:=k2 a z1 c1
    by_cases d1:b<sa+k
    ·rw [rO b (.inl d1)]; exact s1 a b z1 z2 (by lia)
    ·by_cases d2:b<sa+na+m
     ·obtain ⟨t,t1,t2,t3⟩:=elt b (by lia) d2
      rw [t3]
      by_cases d3:t<sa+na
      ·exact s1 a t z1 (by lia) d3
      ·exact QA la (kk t (by lia) (by lia))
     ·rw [rO b (.inr (by lia))]
      exact QA la (kk b (by lia) z3)
   ·by_cases c2:a<sa+na+m
    ·by_cases d2:b<sa+na+m
     ·rw [rW a (by lia) c2,rW b (by lia) d2]
      have f1:r[a - (sa+k)]?=some (r[a - (sa+k)]'(by rw [<- QS]; lia)):=Qt _
      have f2:r[b - (sa+k)]?=some (r[b - (sa+k)]'(by rw [<- QS]; lia)):=Qt _
      rw [dU f1,dU f2]
      exact ur _ _ _ _ (by lia) f1 f2
     ·obtain ⟨t,t1,t2,t3⟩:=elt a (by lia) c2
      rw [t3,rO b (.inr (by lia))]
      by_cases d3:t<sa+na
      ·exact QA (kk2 t (by lia) d3) (m3 b (by lia) z3)
      ·exact s2 t b (by lia) (by lia) z3
    ·rw [rO a (.inr (by lia)),rO b (.inr (by lia))]
     exact s2 a b (by lia) z2 z3
 have post:∀ (r:Array Keyed) (st2:SortSt),failedOf st2=failedOf st->(failedOf st2).isNone=true:=λr st2 e=>by rw [e,hB.failed]; rfl
 by_cases hle:na - k<=m
 ·rw [if_pos hle]
  refine PV (qR hC (by exact hB.kind) mx my ux uy (by show 1<=((arrOf st).extract (sa+k) (sa+na)).size; lia) (by show 1<=((arrOf st).extract (sa+na) (sa+na+m)).size; lia) h0 hl λr st2 hr hK=>?_)
  refine PV (RJ (PV (Rv ?_)))
  have e9:failedOf st2=none:=hK.f.trans hB.failed
  have z:=fin r st2 hr hK.k hK.a hK.p hK.f
  refine PX ?_
  show Q (failedOf st2).isNone _
  rw [e9]; exact z
 ·rw [if_neg hle]
  refine PV (qU hC (by exact hB.kind) mx my ux uy (by show 1<=((arrOf st).extract (sa+k) (sa+na)).size; lia) (by show 1<=((arrOf st).extract (sa+na) (sa+na+m)).size; lia) h0 hl λr st2 hr hK=>?_)
  refine PV (RJ (PV (Rv ?_)))
  have e9:failedOf st2=none:=hK.f.trans hB.failed
  have z:=fin r st2 hr hK.k hK.a hK.p hK.f
  refine PX ?_
  show Q (failedOf st2).isNone _
  rw [e9]; exact z
end
noncomputable abbrev MB:Nat->Nat->Nat->Nat:=sortPriv% PySem.Builtin.minRun
noncomputable def qW:StateT SortSt Sem Unit:=sortPriv% PySem.Builtin.sortRuns
local macro_rules | `(tactic| walk_at "dl sortRuns")=>do
 let i:=SM (Sq `PySem.Builtin.List.W1All `PySem.Builtin.sortRuns)
 `(tactic| delta $i)
noncomputable def fF (rk:Keyed->Int) (xs:Array Keyed):Nat->List (Nat×Nat×Nat)->Nat->Prop
 | a,[],b=>a=b
 | a,p::r,b=>p.1=a/\1<=p.2.1/\Seg rk xs a (a+p.2.1)/\fF rk xs (a+p.2.1) r b
theorem fF.le:∀ {ps:List (Nat×Nat×Nat)} {a b:Nat},fF rk xs a ps b->a+ps.length<=b
 | [],a,b,h=>by have:a=b:=h; simp; lia
 | p::r,a,b,h=>by
  obtain ⟨_,h1,_,h2⟩:=h
  have:=h2.le
  rw [Qz]; lia
theorem fF.app:∀ {ps qs:List (Nat×Nat×Nat)} {a b:Nat},fF rk xs a (ps++qs) b↔∃ m,fF rk xs a ps m/\fF rk xs m qs b
 | [],qs,a,b=>⟨λh=>⟨a,rfl,h⟩,λ⟨m,h1,h2⟩=>by have:a=m:=h1; subst this; exact h2⟩
 | p::r,qs,a,b=>by
  constructor
  ·rintro ⟨h1,h2,h3,h4⟩
   obtain ⟨m,h5,h6⟩:=fF.app.mp h4
   exact ⟨m,⟨h1,h2,h3,h5⟩,h6⟩
  ·rintro ⟨m,⟨h1,h2,h3,h5⟩,h6⟩
   exact ⟨h1,h2,h3,fF.app.mpr ⟨m,h5,h6⟩⟩
theorem fF.congr:∀ {ps:List (Nat×Nat×Nat)} {a b:Nat},fF rk xs a ps b->(∀ i,a<=i->i<b->R rk ys i=R rk xs i)->fF rk ys a ps b
 | [],a,b,h,_=>h
 | p::r,a,b,h,e=>by
  obtain ⟨h1,h2,h3,h4⟩:=h
  have hl:=h4.le
  refine ⟨h1,h2,λi j z1 z2 z3=>?_,h4.congr λi z1 z2=>e i (by lia) z2⟩
  rw [e i z1 (by lia),e j (by lia) (by lia)]
  exact h3 i j z1 z2 z3
theorem fF.mod (f) (hf:∀ p,(f p).1=p.1/\(f p).2.1=p.2.1):∀ {ps:List (Nat×Nat×Nat)} {a b:Nat} (i:Nat),fF rk xs a ps b->fF rk xs a (ps.modify i f) b
 | [],a,b,i,h=>by simpa using h
 | p::r,a,b,0,h=>by
  obtain ⟨h1,h2,h3,h4⟩:=h
  rw [List.modify_zero_cons]
  refine ⟨(hf p).1.trans h1,by rw [(hf p).2]; exact h2,by rw [(hf p).2]; exact h3,by rw [(hf p).2]; exact h4⟩
 | p::r,a,b,i+1,h=>by
  obtain ⟨h1,h2,h3,h4⟩:=h
  rw [List.modify_succ_cons]
  exact ⟨h1,h2,h3,h4.mod f hf i⟩
theorem fF.two:∀ {ps:List (Nat×Nat×Nat)} {a b:Nat} (i:Nat),fF rk xs a ps b->i+1<ps.length->∃ s n pw m pw2,ps[i]?=some (s,n,pw)/\ps[i+1]?=some (s+n,m,pw2)/\1<=n/\1<=m/\a<=s/\s+n+m<=b/\Seg rk xs s (s+n)/\Seg rk xs (s+n) (s+n+m) /\
 ∀ ys:Array Keyed,(∀ j,j<s\/s+n+m<=j->R rk ys j=R rk xs j)->Seg rk ys s (s+n+m)->fF rk ys a ((ps.set i (s,n+m,pw)).eraseIdx (i+1)) b
 | [],a,b,i,h,hi=>by simp at hi
 | [p],a,b,i,h,hi=>by simp at hi
 | p::q::r,a,b,0,h,hi=>by
  obtain ⟨h1,h2,h3,h4,h5,h6,h7⟩:=h
  obtain ⟨s,n,pw⟩:=p
  obtain ⟨s',m,pw2⟩:=q
  dsimp only at h1 h2 h3 h4 h5 h6 h7
  subst h1; subst h4
  have hl:=h7.le
  refine ⟨s,n,pw,m,pw2,rfl,rfl,h2,h5,PU _,by lia,h3,h6,λys e hs=>?_⟩
  refine ⟨rfl,by dsimp only; lia,by dsimp only; rw [<- Nat.add_assoc]; exact hs,?_⟩
  dsimp only
  rw [<- Nat.add_assoc]
  exact h7.congr λi z1 z2=>e i (.inr z1)
 | p::q::r,a,b,i+1,h,hi=>by
  obtain ⟨h1,h2,h3,h4⟩:=h
  obtain ⟨s,n,pw,m,pw2,e1,e2,a1,a2,a3,a4,a5,a6,a7⟩:=h4.two i (by simpa using hi)
  refine ⟨s,n,pw,m,pw2,by simpa using e1,by simpa using e2,a1,a2,by lia,a4,a5,a6,λys e hs=>?_⟩
  rw [List.set_cons_succ,List.eraseIdx_cons_succ]
  refine ⟨h1,h2,λj j' z1 z2 z3=>?_,a7 ys e hs⟩
  rw [e j (.inl (by lia)),e j' (.inl (by lia))]
  exact h3 j j' z1 z2 z3
section
variable {st:SortSt}
theorem iy (hC:iK prog w A s κ rk L) (hB:Bs κ L st) (hc:fF rk (arrOf st) 0 (pendingOf st).toList b) (hb:b<=L.length) (hi:i+1<(pendingOf st).size)
 (h:∀ st',Bs κ L st'->fF rk (arrOf st') 0 (pendingOf st').toList b->(∀ j,b<=j->(arrOf st')[j]?=(arrOf st)[j]?)->(pendingOf st').size+1=(pendingOf st).size->Q true st'):wpS (model prog w) A E s (iw i) Q st:=by
 obtain ⟨sa,n,pw,m,pw2,e1,e2,a1,a2,a3,a4,a5,a6,a7⟩:=hc.two i (by rw [QS]; exact hi)
 rw [QO] at e1 e2
 refine qV hC hB e1 e2 a1 a2 (by lia) a5 a6 λst' b1 b2 b3 b4=>h st' b1 ?_ (λj hj=>b2 j (.inr (by lia))) ?_
 ·rw [b3,Wv,Array.toList_setIfInBounds]
  exact a7 _ (λj hj=>cy (b2 j hj)) b4
 ·rw [b3,<- QS,Wv,Array.toList_setIfInBounds,List.length_eraseIdx,List.length_set,QS,if_pos hi]; lia
theorem wpS_sortRuns (hC:iK prog w A s κ rk L) (hB:Bs κ L st) (hp:pendingOf st= #[]) (h:∀ st',Bs κ L st'->Seg rk (arrOf st') 0 L.length->Q () st'):wpS (model prog w) A E s qW Q st:=by
 unfold qW
 walk_at "dl sortRuns"
 dsimp only
 refine PV (Rv ?_)
 have hsz:=hB.size
 rw [hsz]
 obtain ⟨mr,hmr⟩:∃ mr,MB L.length L.length 0=mr:=⟨_,rfl⟩
 delta MB at hmr
 rw [hmr]
 refine PV (QD (Q7 (I:=λx c st'=>c.1=none/\Bs κ L st'/\fF rk (arrOf st') 0 (pendingOf st').toList c.2/\c.2<=L.length/\(x<=c.2\/L.length<=c.2)) (Q:=λc st'=>c.1=none/\Bs κ L st'/\fF rk (arrOf st') 0 (pendingOf st').toList L.length) ?step ?fin ?init) ?post)
 case init=>exact ⟨rfl,hB,by rw [hp]; rfl,Qv _,.inl (PU _)⟩
 case fin =>
  rintro ⟨c,lo⟩ st' ⟨rfl,jK,hC',h1,h2⟩
  dsimp only at hC' h1 h2 |-
  have e:lo=L.length:=by
   rcases h2 with z | z
   ·lia
   ·lia
  subst e
  exact ⟨rfl,jK,hC'⟩
 case step =>
  rintro x ⟨c,lo⟩ st' _ hx ⟨rfl,jK,hC',h1,h2⟩
  dsimp only at hC' h1 h2 |-
  by_cases hge:lo>=L.length
  ·rw [if_pos hge]
   have e:lo=L.length:=by lia
   subst e
   exact PX ⟨rfl,jK,hC'⟩
  rw [if_neg hge]
  refine PV (show wpS _ _ _ _ (countRun' lo (L.length - lo)) _ _ from wpS_countRun hC jK (by lia) (by lia) λm st1 hB1 hM1 m1 m2 ms=>?_)
  have hC1:fF rk (arrOf st1) 0 (pendingOf st1).toList lo:=by
   rw [hM1.pend]; exact hC'.congr λi _ z=>cy (hM1.out i (.inl z))
  dsimp only
  by_cases hmin:m<mr
  ·rw [if_pos (show m<_ from hmin)]
   refine PV (Sm (Q8 ⟨rfl,?_⟩))
   have hf1:m<=min (L.length - lo) mr:=by lia
   have hf2:lo+min (L.length - lo) mr<=L.length:=by lia
   refine PV (show wpS _ _ _ _ (binarySort' lo (min (L.length - lo) mr) m) _ _ from wpS_binarySort hC hB1 hf2 hf1 ms λst2 hB2 hM2 hS2=>?_)
   have hC2:fF rk (arrOf st2) 0 (pendingOf st2).toList lo:=by
    rw [hM2.pend]; exact hC1.congr λi _ z=>cy (hM2.out i (.inl z))
   simp only [Ud,QU,if_false]
   generalize hF:min (L.length - lo) mr=F at hf1 hf2 hS2
   have hF':=hF
   clear hM2 hM1
   refine PV (Rv ?_)
   rcases hbk:(pendingOf st2).back? with _ | ⟨q1,q2,q3⟩
   ·dsimp only
    refine PV (RJ (PX ⟨rfl,⟨hB2.perm,hB2.kind,hB2.failed⟩,?_,by dsimp only; lia,by dsimp only; lia⟩))
    show fF rk (arrOf st2) 0 ((pendingOf st2).push (lo,F,0)).toList (lo+(F))
    rw [QF]
    exact fF.app.mpr ⟨lo,hC2,rfl,by dsimp only; lia,hS2,rfl⟩
   ·dsimp only
    refine PV (QD (Q7 (I:=λy c st'=>c.1=none/\Bs κ L st'/\fF rk (arrOf st') 0 (pendingOf st').toList lo/\Seg rk (arrOf st') lo (lo+(F))) (Q:=λc st'=>c.1=none/\Bs κ L st'/\fF rk (arrOf st') 0 (pendingOf st').toList lo/\Seg rk (arrOf st') lo (lo+(F))) ?_ (λ_ _ z=>z) ⟨rfl,hB2,hC2,hS2⟩) ?_)
    ·rintro y ⟨c,u⟩ st3 _ hy ⟨rfl,uL,zw,DG⟩
     refine PV (Rv ?_)
     by_cases hs1:(pendingOf st3).size>1
     ·rw [if_pos hs1]
      obtain ⟨⟨r1,r2,r3⟩,er⟩:∃ t,(pendingOf st3)[(pendingOf st3).size - 2]?=some t:=⟨_,Qt (show (pendingOf st3).size - 2<(pendingOf st3).size by lia)⟩
      rw [er]
      dsimp only
      split
      ·exact PX ⟨rfl,uL,zw,DG⟩
      ·refine PV (show wpS _ _ _ _ (iw ((pendingOf st3).size - 2)) _ _ from iy hC uL zw (by lia) (by lia) λst4 hB4 hC4 ho4 hz4=>?_)
       simp only [Ud,QU,if_false]
       exact PX ⟨rfl,hB4,hC4,λa b z1 z2 z3=>by rw [cy (ho4 a z1),cy (ho4 b (by lia))]; exact DG a b z1 z2 z3⟩
     ·rw [if_neg hs1]
      exact PX ⟨rfl,uL,zw,DG⟩
    ·rintro ⟨c,u⟩ st3 ⟨hc,uL,zw,DG⟩
     dsimp only at hc |-
     rw [hc]
     dsimp only
     refine PV (RJ (PV (RJ (PX ⟨rfl,⟨uL.perm,uL.kind,uL.failed⟩,?_,by dsimp only; lia,by dsimp only; lia⟩))))
     show fF rk (arrOf st3) 0 (((pendingOf st3).modify ((pendingOf st3).size - 1) _).push (lo,F,0)).toList (lo+(F))
     rw [QF,Array.toList_modify]
     refine fF.app.mpr ⟨lo,?_,rfl,by dsimp only; lia,DG,rfl⟩
     refine fF.mod _ (λp=>?_) _ zw
     exact ⟨rfl,rfl⟩
  ·rw [if_neg (show ¬ m<_ from hmin)]
   refine PV (Rv ?_)
   rcases hbk:(pendingOf st1).back? with _ | ⟨q1,q2,q3⟩
   ·dsimp only
    refine PV (RJ (PX ⟨rfl,⟨hB1.perm,hB1.kind,hB1.failed⟩,?_,by dsimp only; lia,by dsimp only; lia⟩))
    show fF rk (arrOf st1) 0 ((pendingOf st1).push (lo,m,0)).toList (lo+(m))
    rw [QF]
    exact fF.app.mpr ⟨lo,hC1,rfl,by dsimp only; lia,ms,rfl⟩
   ·dsimp only
    refine PV (QD (Q7 (I:=λy c st'=>c.1=none/\Bs κ L st'/\fF rk (arrOf st') 0 (pendingOf st').toList lo/\Seg rk (arrOf st') lo (lo+(m))) (Q:=λc st'=>c.1=none/\Bs κ L st'/\fF rk (arrOf st') 0 (pendingOf st').toList lo/\Seg rk (arrOf st') lo (lo+(m))) ?_ (λ_ _ z=>z) ⟨rfl,hB1,hC1,ms⟩) ?_)
    ·rintro y ⟨c,u⟩ st3 _ hy ⟨rfl,uL,zw,DG⟩
     refine PV (Rv ?_)
     by_cases hs1:(pendingOf st3).size>1
     ·rw [if_pos hs1]
      obtain ⟨⟨r1,r2,r3⟩,er⟩:∃ t,(pendingOf st3)[(pendingOf st3).size - 2]?=some t:=⟨_,Qt (show (pendingOf st3).size - 2<(pendingOf st3).size by lia)⟩
      rw [er]
      dsimp only
      split
      ·exact PX ⟨rfl,uL,zw,DG⟩
      ·refine PV (show wpS _ _ _ _ (iw ((pendingOf st3).size - 2)) _ _ from iy hC uL zw (by lia) (by lia) λst4 hB4 hC4 ho4 hz4=>?_)
       simp only [Ud,QU,if_false]
       exact PX ⟨rfl,hB4,hC4,λa b z1 z2 z3=>by rw [cy (ho4 a z1),cy (ho4 b (by lia))]; exact DG a b z1 z2 z3⟩
     ·rw [if_neg hs1]
      exact PX ⟨rfl,uL,zw,DG⟩
    ·rintro ⟨c,u⟩ st3 ⟨hc,uL,zw,DG⟩
     dsimp only at hc |-
     rw [hc]
     dsimp only
     refine PV (RJ (PV (RJ (PX ⟨rfl,⟨uL.perm,uL.kind,uL.failed⟩,?_,by dsimp only; lia,by dsimp only; lia⟩))))
     show fF rk (arrOf st3) 0 (((pendingOf st3).modify ((pendingOf st3).size - 1) _).push (lo,m,0)).toList (lo+(m))
     rw [QF,Array.toList_modify]
     refine fF.app.mpr ⟨lo,?_,rfl,by dsimp only; lia,DG,rfl⟩
     refine fF.mod _ (λp=>?_) _ zw
     exact ⟨rfl,rfl⟩
 case post =>
  rintro ⟨c,lo⟩ st' ⟨hc,jK,hC'⟩
  dsimp only at hc |-
  rw [hc]
  dsimp only
  have hl0:=hC'.le
  rw [QS] at hl0
  refine PV (QD (Q7 (I:=λx c st2=>c.1=none/\Bs κ L st2/\fF rk (arrOf st2) 0 (pendingOf st2).toList L.length/\((pendingOf st2).size<=1\/(pendingOf st2).size+x<=L.length)) (Q:=λc st2=>c.1=none/\Bs κ L st2/\fF rk (arrOf st2) 0 (pendingOf st2).toList L.length/\(pendingOf st2).size<=1) ?mstep ?mfin ⟨rfl,jK,hC',.inr (by lia)⟩) ?mpost)
  case mfin =>
   rintro c2 st2 ⟨a1,a2,a3,a4⟩
   exact ⟨a1,a2,a3,by lia⟩
  case mpost =>
   rintro ⟨c2,u⟩ st2 ⟨a1,a2,a3,a4⟩
   dsimp only at a1 |-
   rw [a1]
   refine PX (h st2 a2 ?_)
   rw [<- QS] at a4
   match e:(pendingOf st2).toList,a4 with
   | [],_ =>
    rw [e] at a3
    have z:0=L.length:=a3
    intro i j _ _ hj; lia
   | [p],_ =>
    rw [e] at a3
    obtain ⟨b1,b2,b3,b4⟩:=a3
    have z:0+p.2.1=L.length:=b4
    rw [<- z]; exact b3
  case mstep =>
   rintro x ⟨c2,u⟩ st2 _ hx ⟨a1,a2,a3,a4⟩
   refine PV (Rv ?_)
   by_cases hs1:(pendingOf st2).size<=1
   ·rw [if_pos hs1]
    exact PX ⟨rfl,a2,a3,hs1⟩
   ·rw [if_neg hs1]
    have key:∀ i,i+1<(pendingOf st2).size->wpS (model prog w) A E s (iw i) (λr st3=>r=true/\Bs κ L st3/\fF rk (arrOf st3) 0 (pendingOf st3).toList L.length/\(pendingOf st3).size+1=(pendingOf st2).size) st2:=λi hi =>
     iy hC a2 a3 (PU _) hi λst3 b1 b2 _ b3=>⟨rfl,b1,b2,b3⟩
    refine PV (QD (show wpS _ _ _ _ (iw _) _ _ from key _ ?_) λr st3 hr=>?_)
    ·unfold pendingOf at hs1 |-
     repeat' split
     all_goals lia
    ·obtain ⟨rfl,b1,b2,b3⟩:=hr
     simp only [Ud,QU,if_false]
     exact PX ⟨rfl,b1,b2,.inr (by lia)⟩
end
end SR
namespace SR
open PySem PyProof.Rows
noncomputable def dup (vs:List Value):List Keyed:=vs.map λv=>(v,v)
theorem vW (vs):(vs.toArray.zip vs.toArray).toList=dup vs:=by
 unfold dup
 rw [Array.toList_zip]
 induction vs with
 | nil=>rfl
 | cons v vs ih=>simpa using ih
def Ord (rk:Keyed->Int) (b:Bool) (out:List Value):Prop:=out.Pairwise λx y=>if b then rk (y,y)<=rk (x,x) else rk (x,x)<=rk (y,y)
theorem qX {xs:Array Keyed} (h:xs.toList.Perm (dup vs)):(xs.toList.map (·.2)).Perm vs/\∀ p∈xs.toList,p=(p.2,p.2):=by
 refine ⟨?_,λp hp=>?_⟩
 ·have q:=h.map (·.2)
  have e:(dup vs).map (·.2)=vs:=by
   unfold dup
   rw [Qi]
   exact List.map_id' vs
  rwa [e] at q
 ·have:=h.mem_iff.mp hp
  simp only [dup,Qe] at this
  obtain ⟨v,_,rfl⟩:=this
  rfl
theorem E2 {st:SortSt} (hp:(arrOf st).toList.Perm (dup vs)) (hs:Seg rk (arrOf st) 0 (dup vs).length) (b) :
 ((if b=true then ((arrOf st).map (·.2)).reverse else (arrOf st).map (·.2)).toList).Perm vs/\Ord rk b (if b=true then ((arrOf st).map (·.2)).reverse else (arrOf st).map (·.2)).toList:=by
 obtain ⟨h1,h2⟩:=qX hp
 have up:((arrOf st).toList.map (·.2)).Pairwise λx y=>rk (x,x)<=rk (y,y):=by
  rw [RV]
  refine VB.mpr λi j hi hj hij=>?_
  have l:=hp.length_eq
  simp only [QS] at hi hj l
  have z:=hs i j (Qv _) (Sg hij) (by lia)
  have ei:(arrOf st)[i]?=some ((arrOf st).toList[i]'(by simpa using hi)):=by simp [hi]
  have ej:(arrOf st)[j]?=some ((arrOf st).toList[j]'(by simpa using hj)):=by simp [hj]
  rw [dU ei,dU ej] at z
  have e1:=h2 _ (Qy (show i<(arrOf st).toList.length by simpa using hi))
  have e2:=h2 _ (Qy (show j<(arrOf st).toList.length by simpa using hj))
  rw [e1,e2] at z
  exact z
 cases b with
 | false=>simp only [QU,if_false,Wo]; exact ⟨h1,up.imp λh=>by simpa using h⟩
 | true =>
  simp only [if_true,Ti,Wo]
  refine ⟨(UY _).trans h1,?_⟩
  unfold Ord
  rw [List.pairwise_reverse]
  exact up.imp λh=>by simpa using h
def OP (prog:Program) (w:World) (A:Around) (s:Shared) (a:Addr) (vs:List Value) (κ:SortKind) (rk:Keyed->Int):Prop :=
 ∀ h':Heap,(∀ c o,c≠a->s.heap.get? c=some o->h'.get? c=some o) ->
  (∀ (Q:SortKind->Shared->Prop) (E:Value->Shared->Prop),2<=vs.length->Q κ { s with heap:=h' }->wpAny (model prog w) A (keyKind' vs.toArray) Q E { s with heap:=h' })/\iK prog w A { s with heap:=h' } κ rk (dup vs)
theorem nF (ho:s.heap.get? a=some (seqObj "list" vs.toArray n)) (hk:OP prog w A s a vs κ rk) (hz:vs.length<=sizeLine)
 (h:∀ out:Array Value,out.toList.Perm vs->Ord rk b out.toList->P (.done (.ret .none)) { s with heap:=sortedHeap s.heap a vs out }) :
 wpAny (model prog w) A (Builtin.«list.sort» ⟨[.ref a],[(PM "reverse",.bool b)]⟩) P E s:=by
 rw [list_sort_rev]
 have lta:a<s.heap.objs.size:=P1 ho
 refine PK (Ue ho rfl (PK (Ru ho rfl ?_ (by simpa using hz))))
 obtain ⟨e1,ho1⟩:∃ e1,(s.heap.update a (QB λ_=> #[])).get? a=some (seqObj "list" #[] e1):=⟨_,U5 ho (λ_=> #[])⟩
 have oth:∀ c o,c≠a->s.heap.get? c=some o->(s.heap.update a (QB λ_=> #[])).get? c=some o:=λc o hc q=>by rw [R9 _ _ _ _ hc]; exact q
 have sz1:(s.heap.update a (QB λ_=> #[])).objs.size=s.heap.objs.size:=Wm ..
 refine PK (TF ho1 rfl (PK (Va ?_ (by simpa using hz))))
 refine PK (Ua (Rb ?_))
 show wpAny (model prog w) A _ P E { s with heap:=((s.heap.update a (QB λ_=> #[])).push (seqObj "tuple" vs.toArray 0)).push (seqObj "list" #[] 0) }
 have ho6:(((s.heap.update a (QB λ_=> #[])).push (seqObj "tuple" vs.toArray 0)).push (seqObj "list" #[] 0)).get? a=some (seqObj "list" #[] e1):=PY _ (PY _ ho1)
 obtain ⟨hkk,hC⟩:=hk (((s.heap.update a (QB λ_=> #[])).push (seqObj "tuple" vs.toArray 0)).push (seqObj "list" #[] 0)) λc o hc q=>PY _ (PY _ (oth c o hc q))
 have fin:∀ st':SortSt,(arrOf st').toList.Perm (dup vs)->Seg rk (arrOf st') 0 (dup vs).length ->
  P (.done (.ret .none)) { s with heap:=sortedHeap s.heap a vs (if b then ((arrOf st').map (·.2)).reverse else (arrOf st').map (·.2)) }:=λst' hp hs =>
  let ⟨q1,q2⟩:=E2 hp hs b; h _ q1 q2
 have hstart:(if b=true then (vs.toArray.zip vs.toArray).reverse else vs.toArray.zip vs.toArray).toList.Perm (dup vs):=by
  cases b with
  | false=>rw [if_neg P5,vW]
  | true=>rw [if_pos rfl,Ti,vW]; exact UY _
 dsimp only
 have told:∀ t:Sem Fin,wpAny (model prog w) A t P E { s with heap:=((s.heap.update a (QB λ_=> #[])).push (seqObj "tuple" vs.toArray 0)).push (seqObj "list" #[] 0) } ->
  wpAny (model prog w) A (if b=true then (do let _ <- rule "list.sort.reverse"; t) else t) P E { s with heap:=((s.heap.update a (QB λ_=> #[])).push (seqObj "tuple" vs.toArray 0)).push (seqObj "list" #[] 0) }:=λt ht=>by
  split
  ·exact PK (Q8 ht)
  ·exact ht
 refine told _ ?_
 have hlen:∀ {xs:Array Keyed},xs.toList.Perm (dup vs)->(if b=true then (Array.map (λx=>x.snd) xs).reverse else Array.map (λx=>x.snd) xs).size<=sizeLine+1:=λ{xs} hp=>by
  have l:=hp.length_eq
  simp only [QS,dup,P0] at l
  split
  ·rw [Array.size_reverse,Array.size_map]; lia
  ·rw [Array.size_map]; lia
 by_cases h2:vs.toArray.size<2
 ·rw [if_pos h2,if_pos h2]
  refine PK (PR ?_)
  rw [StateT.run_pure]
  refine PK (PR ?_)
  dsimp only
  refine PK (TF ho6 rfl (PK (Ru ho6 rfl ?_ (hsz2:=hlen hstart))))
  simp only [bne_self_eq_false,QU,if_false]
  refine PR (fin (Sj general' (if b=true then (vs.toArray.zip vs.toArray).reverse else vs.toArray.zip vs.toArray) #[] 7 none) hstart ?_)
  intro i j _ hij hj
  have hl:(dup vs).length<2:=by simpa [dup] using h2
  have:i=j:=by lia
  subst this; exact Rm _
 ·rw [if_neg h2,if_neg h2]
  refine PK (hkk _ _ (by simpa using h2) ?_)
  refine PK (QL (wpS_sortRuns (κ:=κ) (rk:=rk) (L:=dup vs) (st:=Sj κ (if b=true then (vs.toArray.zip vs.toArray).reverse else vs.toArray.zip vs.toArray) #[] 7 none)
   (Q:=λ_ st'=>(arrOf st').toList.Perm (dup vs)/\failedOf st'=none/\Seg rk (arrOf st') 0 (dup vs).length) hC ⟨hstart,rfl,rfl⟩ rfl λst' a1 a2=>⟨a1.perm,a1.failed,a2⟩) ?_ λ_ _ e=>e)
  rintro ⟨⟨⟩,st'⟩ s' ⟨rfl,hp,hf,hs⟩
  dsimp only
  refine PK (TF ho6 rfl (PK (Ru ho6 rfl ?_ (hsz2:=hlen hp))))
  rw [hf]
  simp only [bne_self_eq_false,QU,if_false]
  exact PR (fin st' hp hs)
section
variable {α:Type} {lt:α->α->Bool} {L:List α}
theorem filter_le:∀ {l:List α},(∀ z∈l,p z=true->q z=true)->(l.filter p).length<=(l.filter q).length
 | [],_=>PU _
 | x::l,h=>by
  have ih:=filter_le (l:=l) λz hz=>h z (P9 _ hz)
  have hx:=h x P4
  cases e:p x with
  | false =>
   rw [TN (by simp [e])]
   by_cases e2:q x=true
   ·rw [So e2]; exact Nat.le_succ_of_le ih
   ·rw [TN e2]; exact ih
  | true =>
   rw [So e,So (hx e)]
   exact U0 ih
theorem filter_lt:∀ {l:List α},(∀ z∈l,p z=true->q z=true)->(∃ z∈l,q z=true/\p z=false)->(l.filter p).length<(l.filter q).length
 | [],_,h=>by obtain ⟨z,h,_⟩:=h; cases h
 | x::l,h,g=>by
  have h':∀ z∈l,p z=true->q z=true:=λz hz=>h z (P9 _ hz)
  have hx:=h x P4
  by_cases e:p x=true
  ·rw [So e,So (hx e)]
   obtain ⟨z,hz,z1,z2⟩:=g
   rcases P8.mp hz with rfl | hz
   ·rw [e] at z2; cases z2
   ·exact Nat.succ_lt_succ (filter_lt h' ⟨z,hz,z1,z2⟩)
  ·rw [TN e]
   by_cases e2:q x=true
   ·rw [So e2]; exact Nat.lt_succ_of_le (filter_le h')
   ·rw [TN e2]
    obtain ⟨z,hz,z1,z2⟩:=g
    rcases P8.mp hz with rfl | hz
    ·exact absurd z1 e2
    ·exact filter_lt h' ⟨z,hz,z1,z2⟩
structure G2 (lt:α->α->Bool) (L:List α):Prop where
 irr:∀ x∈L,lt x x=false
 tr:∀ x∈L,∀ y∈L,∀ z∈L,lt x y=true->lt y z=true->lt x z=true
 tot:∀ x∈L,∀ y∈L,x≠y->lt x y=true\/lt y x=true
noncomputable def rank (lt:α->α->Bool) (L:List α) (x:α):Int:=((L.filter λz=>lt z x).length:Int)
theorem kj (h:G2 lt L) (hx:x∈L) (hy:y∈L) (e:lt x y=true):rank lt L x<rank lt L y:=by
 have q:=filter_lt (l:=L) (p:=λz=>lt z x) (q:=λz=>lt z y) (λz hz hzx=>h.tr z hz x hx y hy hzx e) ⟨x,hx,e,h.irr x hx⟩
 unfold rank; lia
theorem E3 (h:G2 lt L) (hx:x∈L) (hy:y∈L):decide (rank lt L x<rank lt L y)=lt x y:=by
 classical
 cases e:lt x y with
 | true=>exact decide_eq_true (kj h hx hy e)
 | false =>
  refine decide_eq_false λz=>?_
  by_cases w:x=y
  ·subst w; exact absurd z (Int.lt_irrefl _)
  ·rcases h.tot x hx y hy w with q | q
   ·rw [e] at q; cases q
   ·have:=kj h hy hx q; lia
theorem gq (hp:n.Perm m):∀ {l:List α},Paired S l m->∃ l',l'.Perm l/\Paired S l' n:=by
 induction hp with
 | nil=>intro l h; exact ⟨l,.refl _,h⟩
 | cons x _ ih =>
  intro l h
  cases h with
  | cons r t=>obtain ⟨l',h1,h2⟩:=ih t; exact ⟨_::l',h1.cons _,.cons r h2⟩
 | swap x y l' =>
  intro l h
  cases h with
  | cons r t=>cases t with | cons r2 t2=>exact ⟨_,.swap _ _ _,.cons r2 (.cons r t2)⟩
 | trans _ _ ih1 ih2 =>
  intro l h
  obtain ⟨l1,h1,h2⟩:=ih2 h
  obtain ⟨l2,h3,h4⟩:=ih1 h2
  exact ⟨l2,h3.trans h1,h4⟩
theorem iz (h:Paired S l m):∀ u∈m,∃ x∈l,S x u:=by
 induction h with
 | nil=>intro u hu; cases hu
 | cons r t ih =>
  intro u hu
  rcases P8.mp hu with rfl | hu
  ·exact ⟨_,P4,r⟩
  ·obtain ⟨x,h1,h2⟩:=ih u hu; exact ⟨x,P9 _ h1,h2⟩
open Classical in
noncomputable def yh {β:Type} (S:α->Value->Prop) (lt:α->α->Bool) (L:List α) (p:Value×β):Int:=if h:∃ x,x∈L/\S x p.1 then rank lt L h.choose else 0
theorem ko (inj:∀ x y u,S x u->S y u->x=y) (hx:x∈L) (h:S x p.1):yh S lt L p=rank lt L x:=by
 have e:∃ x,x∈L/\S x p.1:=⟨x,hx,h⟩
 unfold yh
 rw [dif_pos e,inj _ _ _ e.choose_spec.2 h]
theorem qY (inj:∀ x y u,S x u->S y u->x=y) (h:G2 lt L) (nd:L.Nodup) (hL:Paired S L us) (hp:out.Perm us) (ho:Ord (yh S lt L) b out) :
 ∃ L',L'.Perm L/\L'.Pairwise (λx y=>if b then lt y x=true else lt x y=true)/\Paired S L' out:=by
 obtain ⟨L',h1,h2⟩:=gq hp hL
 refine ⟨L',h1,?_,h2⟩
 have hm:∀ x∈L',x∈L:=λx hx=>h1.mem_iff.mp hx
 have nd':L'.Nodup:=h1.nodup_iff.mpr nd
 clear h1 hp hL nd
 unfold Ord at ho
 induction h2 with
 | nil=>exact .nil
 | @cons x u xs us r t ih =>
  obtain ⟨q1,q2⟩:=To.mp ho
  obtain ⟨n1,n2⟩:=Rf.mp nd'
  refine .cons (λy hy=>?_) (ih q2 (λz hz=>hm z (P9 _ hz)) n2)
  have hx:=hm x P4
  have hyL:=hm y (P9 _ hy)
  obtain ⟨v,hv,sv⟩:∃ v∈us,S y v:=by
   clear ih ho q1 q2 n1 n2 hm nd'
   induction t with
   | nil=>cases hy
   | cons r t ih2 =>
    rcases P8.mp hy with rfl | hy
    ·exact ⟨_,P4,r⟩
    ·obtain ⟨v,h1,h2⟩:=ih2 hy; exact ⟨v,P9 _ h1,h2⟩
  have q:=q1 v hv
  rw [ko inj hx (p:=(u,u)) r,ko inj hyL (p:=(v,v)) sv] at q
  have ne:x≠y:=λz=>n1 (z ▸ hy)
  cases b with
  | true =>
   simp only [if_true] at q |-
   rcases h.tot x hx y hyL ne with w | w
   ·have:=kj h hx hyL w; lia
   ·exact w
  | false =>
   simp only [QU,if_false] at q |-
   rcases h.tot x hx y hyL ne with w | w
   ·exact w
   ·have:=kj h hyL hx w; lia
end
theorem Bt (inj:∀ x y u,S x u->S y u->x=y) (h:G2 lt L) (hL:Paired S L us)
 (hk:∀ x∈L,∀ y∈L,∀ u v,S x u->S y v->∀ (E:Value->Shared->Prop) (Q:Bool->Shared->Prop),Q (lt x y) s->wpAny (model prog w) A (keyLt' κ u v) Q E s):iK prog w A s κ (yh S lt L) (dup us):=by
 intro p hp q hq E Q hQ
 simp only [dup,Qe] at hp hq
 obtain ⟨u,hu,rfl⟩:=hp
 obtain ⟨v,hv,rfl⟩:=hq
 obtain ⟨x,hx,sx⟩:=iz hL u hu
 obtain ⟨y,hy,sy⟩:=iz hL v hv
 refine hk x hx y hy u v sx sy E Q ?_
 rw [ko inj hx (p:=(u,u)) sx,ko inj hy (p:=(v,v)) sy,E3 h hx hy] at hQ
 exact hQ
end SR
namespace SR
open PySem PySem.Calls PyProof.Rows L2 EV
theorem mD (a):Builtin.«list.sort» ⟨[.ref a],[(PM "key",.builtin "len")]⟩=(do
 let items <- TQ (.ref a)
 R5 (.ref a) λ_=> #[]
 let before <- seqEpoch a
 let held <- newTuple items.toList
 let keyStore <- newList []
 holding [held,keyStore] do
  rule "list.sort.key"
  for x in items do
   match <- (call (.builtin "len") [x]).attempt with
   | .ok k=>R5 keyStore (·.push k)
   | .error e =>
    rule "list.sort.key-raised"
    let made <- TQ keyStore
    R5 keyStore λ_=> #[]
    letGo made.toList.reverse [e]
    R5 (.ref a) λ_=>items; throw e
  let keys <- TQ keyStore
  let kind <- if items.size<2 then pure general' else keyKind' keys
  let ((),s) <- (if items.size<2 then pure () else sortRuns').run (Sj kind (keys.zip items) #[] 7 none)
  R5 keyStore λ_=> #[]
  letGo ((arrOf s).map (·.1)).toList (failedOf s).toList
  let touched:=(<- seqEpoch a) != before
  R5 (.ref a) λ_=>(arrOf s).map (·.2)
  if let some e:=failedOf s then rule "list.sort.comparison-raised"; throw e
  if touched then rule "list.sort.modified"; raiseError "ValueError" "list modified during sort"
  ret .none):=by
 rfl
theorem iA (a v):argsOk "list.sort" ⟨[a],[(PM "key",v)]⟩:=by unfold argsOk; kernel_rfl
theorem jY (a v):argsOk "sorted" ⟨[a],[(PM "key",v)]⟩:=by unfold argsOk; kernel_rfl
noncomputable def intOf (p:Keyed):Int:=match p.1 with | .int m _=>m | _=>0
theorem vX:∀ {ks vs:List Value},ks.length=vs.length->(ks.zip vs).map (·.2)=vs
 | [],[],_=>rfl
 | k::ks,v::vs,h=>by rw [UR,PZ,vX (by simpa using h)]
 | [],_::_,h=>by simp at h
 | _::_,[],h=>by simp at h
theorem vY {ks vs:List Value} {ms:List Int} (h:IntsAre ks ms) {p:Keyed} (hp:p∈ks.zip vs):∃ m t,p.1=.int m t:=by
 obtain ⟨k,v⟩:=p
 exact h.all k (U7 hp).1
theorem Bu (ho:s.heap.get? a=some (seqObj "list" vs.toArray n)) (hz:vs.length<=sizeLine)
 (hv:∀ v∈vs,∃ (l:Addr) (items:Array Value),v=.ref l/\l≠a/\s.heap.IsList l items/\items.size<=sizeLine)
 (h:∀ (out:Array Value) (h':Heap) (tk e:Nat),out.toList.Perm vs->h'.get? a=some (seqObj "list" out e)->(∀ c o,c≠a->s.heap.get? c=some o->h'.get? c=some o)->P (.done (.ret .none)) { s with heap:=h',toks:=tk }) :
 wpAny (model prog w) A (Builtin.«list.sort» ⟨[.ref a],[(PM "key",.builtin "len")]⟩) P E s:=by
 rw [mD]
 have lta:a<s.heap.objs.size:=P1 ho
 refine PK (Ue ho rfl (PK (Ru ho rfl ?_ (by simpa using hz))))
 obtain ⟨e1,ho1⟩:∃ e1,(s.heap.update a (QB λ_=> #[])).get? a=some (seqObj "list" #[] e1):=⟨_,U5 ho (λ_=> #[])⟩
 have oth:∀ c o,c≠a->s.heap.get? c=some o->(s.heap.update a (QB λ_=> #[])).get? c=some o:=λc o hc q=>by rw [R9 _ _ _ _ hc]; exact q
 refine PK (TF ho1 rfl (PK (Va ?_ (by simpa using hz))))
 refine PK (Ua (Rb ?_))
 generalize hkS:((s.heap.update a (QB λ_=> #[])).push (seqObj "tuple" vs.toArray 0)).objs.size=kS
 have hks:(((s.heap.update a (QB λ_=> #[])).push (seqObj "tuple" vs.toArray 0)).push (seqObj "list" #[] 0)).get? kS=some (seqObj "list" #[] 0):=by rw [<- hkS]; exact Qd _ rfl
 have kne:∀ c,c<s.heap.objs.size->c≠kS:=λc hc e=>by
  rw [<- hkS,size_push',Wm] at e; lia
 have k1:∀ c o,c≠a->s.heap.get? c=some o->(((s.heap.update a (QB λ_=> #[])).push (seqObj "tuple" vs.toArray 0)).push (seqObj "list" #[] 0)).get? c=some o:=λc o hc q=>PY _ (PY _ (oth c o hc q))
 have ho6:(((s.heap.update a (QB λ_=> #[])).push (seqObj "tuple" vs.toArray 0)).push (seqObj "list" #[] 0)).get? a=some (seqObj "list" #[] e1):=PY _ (PY _ ho1)
 dsimp only
 generalize (((s.heap.update a (QB λ_=> #[])).push (seqObj "tuple" vs.toArray 0)).push (seqObj "list" #[] 0))=h1 at hks k1 ho6 |-
 have hak:a≠kS:=kne a lta
 refine PK (Q8 ?_)
 refine PK (QL (wpAny_forIn_array' _ (λrest _ s'=>∃ (dn:List Value) (ks:List Value) (ms:List Int) (hh:Heap) (tk e:Nat),vs=dn++rest/\s'={ s with heap:=hh,toks:=tk }/\IntsAre ks ms/\ks.length=dn.length/\hh.get? kS=some (seqObj "list" ks.toArray e)/\∀ c o,c≠kS->h1.get? c=some o->hh.get? c=some o)
  (λ_ s'=>∃ (ks:List Value) (ms:List Int) (hh:Heap) (tk e:Nat),s'={ s with heap:=hh,toks:=tk }/\IntsAre ks ms/\ks.length=vs.length/\hh.get? kS=some (seqObj "list" ks.toArray e)/\∀ c o,c≠kS->h1.get? c=some o->hh.get? c=some o) ?turn ?fin _ _ ?beg) ?rest λ_ _ e=>e)
 case beg=>exact ⟨[],[],[],h1,_,0,rfl,rfl,.nil,rfl,hks,λ_ _ _ q=>q⟩
 case fin =>
  rintro _ s' ⟨dn,ks,ms,hh,tk,e,e1,e2,e3,e4,e5,e6⟩
  rw [QX] at e1
  exact ⟨ks,ms,hh,tk,e,e2,e3,by rw [e4,e1],e5,e6⟩
 case turn =>
  rintro v rest _ s' ⟨dn,ks,ms,hh,tk,e,ev,rfl,e3,e4,e5,e6⟩
  obtain ⟨l,items,rfl,hla,hli,hsz⟩:=hv v (by rw [ev]; simp)
  obtain ⟨o,q1,q2,q3⟩:=hli
  have hl':hh.IsList l items:=⟨o,e6 l o (kne l (P1 q1)) (k1 l o hla q1),q2,q3⟩
  refine PK (RQ (call_len_list hl' (by have:=nY; lia) ?_))
  dsimp only
  have hkl:ks.length<=sizeLine:=by rw [e4]; have:=congrArg Si ev; simp at this; lia
  refine PK (Ru e5 rfl ?_ (by simpa using hkl) (by simp; lia))
  refine PR ⟨dn++[.ref l],ks++[.int items.size (tk+1)],ms++[(items.size:Int)],_,_,e+1,by rw [ev]; simp,rfl,e3.append (.cons _ _ .nil),by simp [e4],?_,λc o hc q=>?_⟩
  ·have:=U5 e5 (λa=>a.push (.int items.size (tk+1)))
   simpa using this
  ·rw [R9 _ _ _ _ hc]; exact e6 c o hc q
 case rest =>
  rintro _ s' ⟨ks,ms,hh,tk,e,rfl,e3,e4,e5,e6⟩
  refine PK (Ue e5 rfl ?_)
  have zl:(ks.toArray.zip vs.toArray).toList=ks.zip vs:=by rw [Array.toList_zip]
  have hoa:=e6 a _ hak ho6
  have pl:∀ {st':SortSt},(arrOf st').toList.Perm (ks.zip vs)->((arrOf st').map (·.2)).toList.Perm vs:=λ{st'} hp=>by
   rw [Wo]
   have:=hp.map (·.2)
   rwa [vX e4] at this
  have ho7:(hh.update kS (QB λ_=>(#[]:Array Value))).get? a=some (seqObj "list" #[] e1):=by rw [R9 _ _ _ _ hak]; exact hoa
  have fin:∀ (out:Array Value),out.toList.Perm vs->P (.done (.ret .none)) { s with heap:=(hh.update kS (QB λ_=>(#[]:Array Value))).update a (QB λ_=>out),toks:=tk }:=λout hp =>
   h out _ _ _ hp (U5 ho7 (λ_=>out)) λc o hc q=>by
    have lc:=P1 q
    rw [R9 _ _ _ _ hc,R9 _ _ _ _ (kne c lc)]
    exact e6 c o (kne c lc) (k1 c o hc q)
  have hkz:(ks.toArray:Array Value).size<=sizeLine:=by rw [Qm,e4]; exact hz
  have oz:∀ {out:Array Value},out.toList.Perm vs->out.size<=sizeLine+1:=λ{out} hp=>by
   have l:=hp.length_eq
   rw [QS] at l; lia
  by_cases h2:vs.toArray.size<2
  ·rw [if_pos h2,if_pos h2]
   refine PK (PR ?_)
   rw [StateT.run_pure]
   refine PK (PR ?_)
   dsimp only
   have p0:=pl (st':=Sj general' (ks.toArray.zip vs.toArray) #[] 7 none) (by show (ks.toArray.zip vs.toArray).toList.Perm _; rw [zl])
   refine PK (Ru e5 rfl ?_ hkz)
   refine PK (SO ?_)
   refine PK (TF ho7 rfl (PK (Ru ho7 rfl ?_ (hsz2:=oz p0))))
   simp only [bne_self_eq_false,QU,if_false]
   exact PR (fin _ p0)
  ·rw [if_neg h2,if_neg h2]
   rw [ksk_kind (kz:=ms) e3 (by rw [Qm,e4]; simpa using h2)]
   refine PK (PR ?_)
   have hC:iK prog w A { s with heap:=hh,toks:=tk } oneType' intOf (ks.zip vs):=λx hx y hy E Q hQ=>by
    obtain ⟨m,t,ex⟩:=vY e3 hx
    obtain ⟨m',t',ey⟩:=vY e3 hy
    unfold intOf at hQ
    rw [ex,ey] at hQ |-
    rw [keyLt'_oneType]
    exact oneLt_int hQ
   refine PK (QL (wpS_sortRuns (κ:=oneType') (rk:=intOf) (L:=ks.zip vs) (st:=Sj oneType' (ks.toArray.zip vs.toArray) #[] 7 none)
    (Q:=λ_ st'=>(arrOf st').toList.Perm (ks.zip vs)/\failedOf st'=none) hC ⟨(by show (ks.toArray.zip vs.toArray).toList.Perm _; rw [zl]),rfl,rfl⟩ rfl λst' a1 a2=>⟨a1.perm,a1.failed⟩) ?_ λ_ _ e=>e)
   rintro ⟨⟨⟩,st'⟩ s' ⟨rfl,hp,hf⟩
   dsimp only
   refine PK (Ru e5 rfl ?_ hkz)
   refine PK (SO ?_)
   refine PK (TF ho7 rfl (PK (Ru ho7 rfl ?_ (hsz2:=oz (pl hp)))))
   rw [hf]
   simp only [bne_self_eq_false,QU,if_false]
   exact PR (fin _ (pl hp))
end SR
namespace EV
open PySem PySem.Spec PySem.Calls PyProof.Rows L2
theorem kq:∀ l:List Int,HT.lexLt l l=false
 | []=>rfl
 | x::l=>by rw [HT.cM,if_pos rfl]; exact kq l
theorem tS:∀ {a b c:List Int},HT.lexLt a b=true->HT.lexLt b c=true->HT.lexLt a c=true
 | [],[],_,h,_=>by cases h
 | [],_::_,[],_,h=>by cases h
 | [],_::_,_::_,_,_=>rfl
 | _::_,[],_,h,_=>by cases h
 | _::_,_::_,[],_,h=>by cases h
 | x::a,y::b,z::c,h,g=>by
  rw [HT.cM] at h g |-
  by_cases e:x=y
  ·subst e
   rw [if_pos rfl] at h
   by_cases f:x=z
   ·subst f; rw [if_pos rfl] at g |-; exact tS h g
   ·rw [if_neg f] at g |-; exact g
  ·rw [if_neg e] at h
   have h:=of_decide_eq_true h
   by_cases f:y=z
   ·subst f; rw [if_neg e]; exact decide_eq_true h
   ·rw [if_neg f] at g
    have g:=of_decide_eq_true g
    rw [if_neg (by lia)]; exact decide_eq_true (by lia)
theorem kr:∀ {a b:List Int},a≠b->HT.lexLt a b=true\/HT.lexLt b a=true
 | [],[],h=>absurd rfl h
 | [],_::_,_=>.inl rfl
 | _::_,[],_=>.inr rfl
 | x::a,y::b,h=>by
  rw [HT.cM,HT.cM]
  by_cases e:x=y
  ·subst e
   rw [if_pos rfl,if_pos rfl]
   exact kr λz=>h (by rw [z])
  ·rw [if_neg e,if_neg (Qp e)]
   rcases Int.lt_or_gt_of_ne e with z | z
   ·exact .inl (decide_eq_true z)
   ·exact .inr (decide_eq_true z)
noncomputable abbrev aN:=List Int×Int
noncomputable def cZ (x y:aN):Bool:=if x.1=y.1 then decide (x.2<y.2) else HT.lexLt x.1 y.1
theorem oO (L:List aN):SR.G2 cZ L where
 irr:=λx _=>by unfold cZ; rw [if_pos rfl]; exact decide_eq_false (Int.lt_irrefl _)
 tr:=λx _ y _ z _ h g=>by
  unfold cZ at *
  by_cases e:x.1=y.1
  ·rw [if_pos e] at h
   by_cases f:y.1=z.1
   ·rw [if_pos f] at g; rw [if_pos (e.trans f)]
    exact decide_eq_true (Int.lt_trans (of_decide_eq_true h) (of_decide_eq_true g))
   ·rw [if_neg f] at g; rw [if_neg (λw=>f (e.symm.trans w)),e]; exact g
  ·rw [if_neg e] at h
   by_cases f:y.1=z.1
   ·rw [if_neg (λw=>e (w.trans f.symm)),<- f]; exact h
   ·rw [if_neg f] at g
    have q:=tS h g
    rw [if_neg λw=>by rw [w,kq] at q; cases q]; exact q
 tot:=λx _ y _ h=>by
  unfold cZ
  by_cases e:x.1=y.1
  ·rw [if_pos e,if_pos e.symm]
   have:x.2≠y.2:=λz=>h (Prod.ext e z)
   rcases Int.lt_or_gt_of_ne this with z | z
   ·exact .inl (decide_eq_true z)
   ·exact .inr (decide_eq_true z)
  ·rw [if_neg e,if_neg (Qp e)]
   exact kr e
noncomputable abbrev aO (t:aN):D:=.tup [.tup (t.1.map .int),.int t.2]
section
variable {X:Cx}
def jZ (K:PN) (Hf:Hp) (d:D) (u:Value):Prop:=∃ v,RelV v u/\Rep K Hf d v
theorem Bv (l m:List Int):j8 1 (.tup (l.map .int)) (.tup (m.map .int)):=.tup λi d e h1 h2=>by
 simp only [P6,Qc] at h1 h2
 obtain ⟨x,_,rfl⟩:=h1
 obtain ⟨y,_,rfl⟩:=h2
 exact .sc rfl
theorem i9:∀ {l:List Int} {ys:List V},aq X.K Hf (l.map D.int) ys->ys=l.map V.int
 | [],ys,h=>aC.mp h
 | n::l,ys,h=>by
  obtain ⟨y,r,rfl,z1,z2⟩:=aF.mp h
  rw [aA] at z1; subst z1
  rw [i9 z2]; rfl
theorem iB:∀ (l:List α) (r:List β) {Q:List β->Shared->Prop},Paired (λa b=>∀ (Q:β->Shared->Prop),Q b s->wpAny M A (f a) Q E s) l r->Q r s->wpAny M A (l.mapM f) Q E s
 | _,_,Q,.nil,h=>by rw [List.mapM_nil]; exact PR h
 | _,_,Q,.cons q t,h=>by
  rw [List.mapM_cons]
  exact PK (q _ (PK (iB _ _ t (PR h))))
end
noncomputable abbrev E4 (X:Cx) (A:Around):Cx:={ X with A:=A }
theorem MC (ok:X.Ok) (h1:X.calm=true->A.handled=none) (h2:A.frames=some X.stack):(E4 X A).Ok :=
 ⟨ok.mod,ok.kind,ok.glob,ok.blt,ok.above,ok.inj,ok.has,ok.cab,h1,h2,ok.stk,ok.exf,ok.bs,ok.bsz,ok.noex,ok.exfs,ok.jo,ok.frf⟩
theorem jB (I:Inv X aa σ H s) (h1:X.calm=true->A.handled=none) (h2:A.frames=some X.stack):Inv (E4 X A) aa σ H s :=
 ⟨MC I.ok h1 h2,I.os,I.bare,I.base,I.loc,I.cell,I.free,I.freeC,I.pin,I.hok,I.len⟩
theorem gr (ok:X.Ok) (I:Inv (E4 X A) aa σ H s):Inv X aa σ H s :=
 ⟨ok,I.os,I.bare,I.base,I.loc,I.cell,I.free,I.freeC,I.pin,I.hok,I.len⟩
theorem E5 {fp:List Addr} (h:∀ b∈fp,eO X aa H b) (n:∀ b∈fp,H' b=none):∀ b∈fp,eO X aa H' b:=λb hb=>⟨n b hb,(h b hb).2⟩
theorem Bw (hc:X.calm=true) (Tn:Turn X.prog X.w X.K (.Name nm np) J fp it tn) (io:iT X.K J ds DO)
 (hS0:Hb S=none) (hSf:S∉fp) (hn:ds.length<=sizeLine) (okX:X.Ok) (h1:X.A.in1.handled=none) (h2:X.A.in1.frames=some X.stack)
 (fin:∀ (s':Shared) (H' aj:Hp) (xs:List V),Inv X aa σ H' s'->H' S=some (.lst xs)->aj S=none->aq X.K aj ds xs->aY Hb DO H' aj->R (.ok (.ret res)) s') :
 ∀ (k i:Nat) (s:Shared) (H Hf:Hp) (xs:List V),ds.length - i=k->i<=ds.length->Inv X aa σ H s->tn i s.heap->(∀ b∈fp,eO X aa H b)->H S=some (.lst xs)->Hf S=none->aq X.K Hf (ds.take i) xs->aY Hb DO H Hf ->
  codeAny (model X.prog X.w) X.A (.builtin "list.extend.loop" ⟨[.ref S,.ref it,res],[]⟩) R s:=by
 intro k
 induction k with
 | zero =>
  intro i s H Hf xs hk hi I t hf hS hfS hr g
  have e:i=ds.length:=by omega
  subst e
  rw [QW] at hr
  refine T5 PySem.F.entry_extend_loop ?_
  rw [UO Uz _]
  show wpAny _ X.A.in1 (pyNext (.ref it) >>= _) _ _ s
  refine PK (QL (Tn.done (E4 X X.A.in1) rfl rfl rfl hc _ aa s σ H _ (jB I (λ_=>h1) h2) hf t (io.stop _ H Hf g.f g.b (PU _))) (λr s' ⟨e,I'⟩=>?_) λ_ _ x=>x)
  subst e
  exact PR (fin s' H Hf xs (gr okX I') hS hfS hr g)
 | succ k ih =>
  intro i s H Hf xs hk hi I t hf hS hfS hr g
  have lt:i<ds.length:=by omega
  have ed:ds[i]?=some ds[i]:=Qo lt
  obtain ⟨hgo,hy⟩:=io.go i ds[i] H Hf g.f g.b ed
  refine T5 PySem.F.entry_extend_loop ?_
  rw [UO Uz _]
  show wpAny _ X.A.in1 (pyNext (.ref it) >>= _) _ _ s
  refine PK (QL (Tn.item (E4 X X.A.in1) rfl rfl rfl hc i aa s σ H _ (jB I (λ_=>h1) h2) hf t hgo) (λr s1 ⟨u,e,hu⟩=>?_) λ_ _ x=>x)
  subst e
  show wpAny _ X.A.in1 (letOwnedTupleGo (.Name nm np) (.ref it) u >>= λ_=>(R5 (.ref S) (·.push u) >>= λ_=>again (.builtin "list.extend.loop" ⟨[.ref S,.ref it,res],[]⟩))) _ _ s1
  refine PK (QL hu (λ_ s2 ⟨x,H',I2,rx,y,t2,n2⟩=>?_) λ_ _ x=>x)
  have I2:=gr okX I2
  obtain ⟨aj,g',rd⟩:=hy x H' y
  have hS':H' S=some (.lst xs):=g'.s _ _ hS
  have hfS':aj S=none:=g'.n S hfS (by rw [hS]; simp) (by intro ys; rw [hS]; simp)
  obtain ⟨z,its,n,rv,el,eo⟩:=I2.qb hS'
  have hx:xs.length=i:=by rw [<- hr.length,Q5]; omega
  have hz:(xs++[x]).length<=sizeLine:=by simp only [QE,Qz,RH]; omega
  refine PK (Ru eo rfl ?_ (by simp; omega) (by simp; omega))
  have ef:(λa:Array Value=>a.push u) its.toArray=(its++[u]).toArray:=by simp
  have I3:=I2.sW (f:=λa=>a.push u) (t':=s2.toks) hS' eo ef (rv.append (.cons rx .nil)) hz
  refine PR ⟨plainId_quiet Uz _,ih (i+1) _ (upd H' S (.lst (xs++[x]))) aj (xs++[x]) (by omega) lt I3 (Tn.keep _ _ _ t2 λb hb o e=>?_) (E5 hf λb hb=>?_) ai hfS' ?_ (kg (g.trans g') hS0 hfS')⟩
  ·exact (UI _ _ (λw:S=b=>hSf (w ▸ hb))).trans e
  ·rw [ak (λw:b=S=>hSf (w ▸ hb))]; exact n2 b hb
  ·rw [UX,ed]
   exact (hr.mono g'.f).append (aq.one rd)
theorem yi (hT:s.TypeIs (.ref v) "dict_items") (hQ:Q false s):wpAny (model prog w) A (S9 (.ref v)) Q E s:=by
 unfold S9
 refine PK (wpAny_specialOf hT PySem.F.slot_dict_items_len.lookup ?_)
 have e:splitId "dict_items.__len__"=some ("dict_items","__len__"):=by decide +kernel
 dsimp only
 rw [e]
 dsimp only
 refine PK (T4 (b:=true) hT (by rw [isSubtype_type]; kernel_rfl) ?_)
 rw [if_neg (by decide)]
 exact PK (Sb hT (PR hQ))
theorem E6 (I:Inv X aa σ H s) (hv:s.heap.IsItemsView v d) (hH:H d=some (.frz o u)) (hd:HO.dct u) :
 wpAny (model X.prog X.w) A (pyIter (.ref v)) (λitv s2=>∃ (it:Addr) (es:Array DictEntry) (ep:Nat),itv=.ref it/\s.heap.objs.size<=it/\Inv X aa σ H s2/\Turn X.prog X.w X.K tg (OO d o u) [it] it (λi h=>Bb h it d i es.size ep)/\Bb s2.heap it d 0 es.size ep/\(∀ b∈[it],eO X aa H b) /\
  (∀ b o,s.heap.get? b=some o->s2.heap.get? b=some o)) E s:=by
 obtain ⟨ho,ok⟩:=(show bq X.prog X.w H s.heap d (.frz o u) from I.hok d _ hH)
 obtain ⟨hx,es,ep,hod,hp,hs,hz⟩:=cP ok hd ho
 refine x9 hv ho hod ?_
 have hsz:es.size=(bN u).length:=by rw [Rl hp]; simp
 refine ⟨_,es,ep,rfl,PU _,I.kept (t':=s.toks) λb o e=>PY _ e,tM (o:=o) (u:=u) (es:=es) (ep:=ep) hd hod (λz=>?_) hsz,⟨.none,false,.none,.none,Qd _ rfl,.inl rfl⟩,λb hb=>?_,λb o e=>PY _ e⟩
 ·have lt:=P1 ho
  rw [<- z] at lt
  exact absurd lt (RD _)
 ·have e:b=s.heap.objs.size:=by simpa using hb
  subst e
  exact I.kG (PU _) (I.hok.fresh (PU _))
theorem nG (hc:X.calm=true) (h1:X.A.in1.handled=none) (h2:X.A.in1.frames=some X.stack) (I1:Inv X aa σ (upd H S (.lst [])) s) (sb:aL Hf H) (HS:H S=none) (hvS:S≠src) (hltS:S<s.heap.objs.size) (hn:ds.length<=sizeLine)
 (hT:(false || Rg T == Rg "list" || Rg T == Rg "tuple")=false) (ty:∀ s':Shared,(∀ b o,s.heap.get? b=some o->s'.heap.get? b=some o)->s'.TypeIs (.ref src) T)
 (hint:∀ (A:Around) (s':Shared) (Q:Bool->Shared->Prop) (E:Value->Shared->Prop),s'.TypeIs (.ref src) T->Q false s'->wpAny (model X.prog X.w) A (S9 (.ref src)) Q E s')
 (iter:wpAny (model X.prog X.w) X.A.in1 (pyIter (.ref src)) (λitv s2=>∃ (it:Addr) (tn:Nat->Heap->Prop) (J:It),itv=.ref it /\
   s.heap.objs.size<=it/\Inv X aa σ (upd H S (.lst [])) s2/\Turn X.prog X.w X.K (.Name "x" ⟨0,0,0,0⟩) J [it] it tn/\tn 0 s2.heap/\(∀ b∈[it],eO X aa (upd H S (.lst [])) b)/\(∀ b o,s.heap.get? b=some o->s2.heap.get? b=some o)/\iT X.K J ds Hf) E s)
 (hR:∀ (s':Shared) (H' aj:Hp) (xs:List V),Inv X aa σ H' s'->H' S=some (.lst xs)->aj S=none->aq X.K aj ds xs->aY H Hf H' aj->R (.ok (.ret res)) s') :
 wpAny (model X.prog X.w) X.A.in1 (Ux (.ref S) (.ref src) res) (λfin s'=>match fin with | .done f=>R (.ok f) s' | .again c=>c.quiet=true/\codeAny (model X.prog X.w) X.A c R s') E s:=by
 unfold Ux
 have ne:Builtin.List.listSameRef (.ref S) (.ref src)=false:=by simp [Builtin.List.listSameRef,hvS]
 refine PK (Sb (ty s λ_ _ e=>e) ?_)
 rw [if_neg (by rw [ne,hT]; decide)]
 refine PK (QL iter (λitv s2 hh=>z3 hh λit tn J hh=>w8 hh λe hit I2 Tn t0 hf k2 io=>?_) λ_ _ x=>x)
 subst e
 refine PK (Rb (hint _ s2 _ _ (ty s2 k2) ?_))
 have hSne:it≠S:=Sf (QJ hltS hit)
 have g0:aY H Hf (upd H S (.lst [])) Hf:=aY.gj sb HS
 have fin:∀ s3:Shared,Inv X aa σ (upd H S (.lst [])) s3->tn 0 s3.heap->wpAny (model X.prog X.w) X.A.in1 (again (.builtin "list.extend.loop" ⟨[.ref S,.ref it,res],[]⟩)) (λfin s'=>match fin with | .done f=>R (.ok f) s' | .again c=>c.quiet=true/\codeAny (model X.prog X.w) X.A c R s') E s3:=λs3 I3 t3 =>
  PR ⟨plainId_quiet Uz _,Bw (X:=X) (Hb:=H) (DO:=Hf) hc Tn io HS (λm=>hSne (Qg.mp m).symm) hn I1.ok h1 h2 hR ds.length 0 s3 _ Hf [] (by simp) (Qv _) I3 t3 hf ai (sb.free HS) (aC.mpr rfl) g0⟩
 obtain ⟨_,its,n,rv,el,eo⟩:=I2.qb (l:=S) (xs:=[]) ai
 cases rv
 split
 ·refine PK (Q8 ?_)
  unfold Builtin.List.listTouch
  refine PK (PK (Ru eo rfl ?_))
  have I3:=I2.sW (f:=λa=>a.push .none) (its':=[.none]) (ys:=[.non]) (t':=s2.toks) ai eo (by simp) (.cons rfl .nil) (by show 1<=sizeLine; decide)
  obtain ⟨_,its3,n3,rv3,el3,eo3⟩:=I3.qb (l:=S) (xs:=[.non]) ai
  cases rv3 with
  | cons r3 t3 =>
   cases t3
   cases r3
   refine Ru eo3 rfl ?_
   have I4:=I3.sW (f:=λa=>a.pop) (its':=[]) (ys:=[]) (t':=s2.toks) ai eo3 (by simp) .nil (Qv _)
   rw [nV,nV] at I4
   refine fin _ I4 (Tn.keep 0 _ _ t0 λb hb o e=>?_)
   have hbS:S≠b:=λw=>hSne (by rw [Qg.mp hb] at w; exact w.symm)
   exact (UI _ _ hbS).trans ((UI _ _ hbS).trans e)
 ·exact fin s2 I2 t0
theorem lJ (hc:X.calm=true) (h1:X.A.in1.handled=none) (h2:X.A.in1.frames=some X.stack) (I:Inv X aa σ H s) (sb:aL Hf H) (hlt:src<s.heap.objs.size) (hn:ds.length<=sizeLine) (hT:(false || Rg T == Rg "list" || Rg T == Rg "tuple")=false)
 (ty:∀ s':Shared,(∀ b o,s.heap.get? b=some o->s'.heap.get? b=some o)->s'.TypeIs (.ref src) T)
 (hint:∀ (A:Around) (s':Shared) (Q:Bool->Shared->Prop) (E:Value->Shared->Prop),s'.TypeIs (.ref src) T->Q false s'->wpAny (model X.prog X.w) A (S9 (.ref src)) Q E s')
 (iter:∀ (A:Around) (s1:Shared) (H1:Hp) (E:Value->Shared->Prop),Inv X aa σ H1 s1->aL Hf H1->(∀ b o,s.heap.get? b=some o->s1.heap.get? b=some o)->wpAny (model X.prog X.w) A (pyIter (.ref src)) (λitv s2=>∃ (it:Addr) (tn:Nat->Heap->Prop) (J:It),itv=.ref it /\
   s1.heap.objs.size<=it/\Inv X aa σ H1 s2/\Turn X.prog X.w X.K (.Name "x" ⟨0,0,0,0⟩) J [it] it tn/\tn 0 s2.heap/\(∀ b∈[it],eO X aa H1 b)/\(∀ b o,s1.heap.get? b=some o->s2.heap.get? b=some o)/\iT X.K J ds Hf) E s1)
 (hQ:∀ (us:List Value) (s':Shared) (H' aj:Hp) (xs:List V),Inv X aa σ H' s'->Vals xs us->aq X.K aj ds xs->aY H Hf H' aj->ds.length<=sizeLine->Q us s'):wpAny (model X.prog X.w) X.A (collect (.ref src)) Q E s:=by
 unfold collect
 refine PK (wpAny_runValue (T5 PySem.F.entry_proto_collect ?_))
 rw [UO PySem.F.plain_proto_collect _]
 show wpAny _ X.A.in1 (newList [] >>= λl=>again (.builtin "list.__iadd__" ⟨[l,.ref src],[]⟩)) _ _ s
 have HS:H s.heap.objs.size=none:=I.hok.fresh (PU _)
 have hvS:s.heap.objs.size≠src:=Sf hlt
 refine PK (QZ (PR ⟨plainId_quiet PySem.F.plain_list_iadd _,T5 PySem.F.entry_list_iadd ?_⟩))
 rw [UO PySem.F.plain_list_iadd _]
 generalize hS:s.heap.objs.size=S at *
 have I1:Inv X aa σ (upd H S (.lst [])) { s with heap:=s.heap.push { cls:=.type "list",data:=.seq ([]:List Value).toArray },toks:=s.toks }:=by
  have:=I.Ed (t':=s.toks) (ys:=[]) (its:=[]) .nil (Qv _)
  rw [hS] at this
  exact this
 show wpAny _ X.A.in1 (Ux (.ref S) (.ref src) (.ref S)) _ _ { s with heap:=s.heap.push { cls:=.type "list",data:=.seq ([]:List Value).toArray } }
 have k1:∀ b o,s.heap.get? b=some o->(s.heap.push { cls:=.type "list",data:=.seq ([]:List Value).toArray }).get? b=some o:=λb o e=>PY _ e
 generalize hs1:({ s with heap:=s.heap.push { cls:=.type "list",data:=.seq ([]:List Value).toArray } }:Shared)=s1
 replace I1:Inv X aa σ (upd H S (.lst [])) s1:=by rw [<- hs1]; exact I1
 replace k1:∀ b o,s.heap.get? b=some o->s1.heap.get? b=some o:=by rw [<- hs1]; exact k1
 have hltS:S<s1.heap.objs.size:=by rw [<- hs1,<- hS]; show _<(Heap.push _ _).objs.size; rw [RC]; exact SA _
 refine nG (R:=λr s'=>match r with
  | .ok (.ret v)=>wpAny (model X.prog X.w) X.A (do
   let .ref a:=v | unsupported "internal:collect"
   let o <- load a
   match o.data with
   | .seq xs _=>pure xs.toList
   | _=>unsupported "internal:collect") Q E s'
  | .ok _=>False
  | .error e=>E e s') hc h1 h2 I1 sb HS hvS hltS hn hT (λs' k=>ty s' λb o e=>k b o (k1 b o e)) hint (iter _ s1 _ _ I1 (aY.gj sb HS (o:=.lst [])).b k1) λs' H' aj xs I' hS' _ hr g=>?_
 obtain ⟨_,its,n,rv,el,eo⟩:=I'.qb hS'
 exact PK (wpAny_load eo (PR (hQ its s' H' aj xs I' rv hr g hn)))
noncomputable def JD (te:TE):TE:=λσ H Q=>te σ H λx H1=>∃ d o u,x=.ref d/\H1 d=some (.frz o u)/\HO.dct u/\∀ v,H1 v=none->Q (.ref v) (upd H1 v (.ext λh=>h.IsItemsView v d))
theorem Bx (he:PE X e te) (hbase:attributeBase e "items" X.env (eval e X.env)=eval e X.env) (hline:(ap.endLine == cp.line)=true):PE X (.Call (.Attribute e "items" ap) [] [] cp) (JD te):=by
 intro aa s σ H Q I h
 refine wpAny_Call_method (T:="dict") (id:="dict.items") hbase rfl hline F.plainAttrs_dict F.slot_dict_items F.type_dict_items (bz (he aa s σ H _ I h) λv s1 ⟨x,H1,I1,r1,d,o,u,ex,hH,hd,q⟩=>?_)
 subst ex
 cases r1
 obtain ⟨ho,ok⟩:=(show bq X.prog X.w H1 s1.heap d (.frz o u) from I1.hok d _ hH)
 obtain ⟨hx,es,ep,hod,hp,hs,hz⟩:=cP ok hd ho
 have hT:s1.TypeIs (.ref d) "dict":=⟨o,ho,hx.1⟩
 refine ⟨hT,λb z=>by cases z; exact ⟨o,ho,hx.2.1⟩,?_⟩
 show wpAny _ _ (callWith cp (.builtin "dict.items") [.ref d] [] []) _ _ s1
 refine method_meetsIn F.slot_dict_items F.entry_dict_items rfl (PySem.evalArgs_none ⟨rfl,hT,F.args_dict_items_1 _,_,qJ d hs,hT,?_⟩)
 have Hv:H1 s1.heap.objs.size=none:=I1.hok.fresh (PU _)
 have hve:(s1.heap.push { cls:=.type "dict_items",data:=.fields #[.ref d] }).IsItemsView s1.heap.objs.size d:=⟨_,Qd _ rfl,rfl,rfl⟩
 have I2:Inv X aa σ (upd H1 s1.heap.objs.size (.ext λh=>h.IsItemsView s1.heap.objs.size d)) { s1 with heap:=s1.heap.push { cls:=.type "dict_items",data:=.fields #[.ref d] },toks:=s1.toks } :=
  I1.laid (a:=s1.heap.objs.size) (λ_ _ q=>PY _ q) (PU _) ⟨hve,⟨_,Qd _ rfl⟩,λh1 h2 ⟨o,e,r⟩ k=>⟨o,k o e,r⟩⟩
 exact ⟨.ref s1.heap.objs.size,_,I2,rfl,q _ Hv⟩
section
variable {X:Cx} {aa:List (Addr×Obj)} {σ:L2.St} {H Hf:Hp} {s:Shared} {E:Value->Shared->Prop} {α:Type} {enc:α->D} {lt:α->α->Bool} {κ:SortKind}
theorem lK {K:PN}:∀ {L:List α} {xs:List V} {us:List Value},aq K Hf (L.map enc) xs->Vals xs us->Paired (λx u=>jZ K Hf (enc x) u) L us
 | [],xs,us,h,v=>by rw [RT,aC] at h; subst h; cases v; exact .nil
 | t::L,xs,us,h,v=>by
  rw [PZ] at h
  obtain ⟨x,r,rfl,h1,h2⟩:=aF.mp h
  cases v with
  | cons r1 r2=>exact .cons ⟨x,r1,h1⟩ (lK h2 r2)
theorem lM {K:PN}:∀ {L:List α} {us:List Value},Paired (λx u=>jZ K Hf (enc x) u) L us->∃ xs,aq K Hf (L.map enc) xs/\Vals xs us
 | _,_,.nil=>⟨[],aC.mpr rfl,.nil⟩
 | _,_,.cons ⟨x,r1,h1⟩ t=>by
  obtain ⟨xs,h2,h3⟩:=lM t
  exact ⟨x::xs,.cons h1 h2,.cons r1 h3⟩
structure MD (X:Cx) (enc:α->D) (lt:α->α->Bool) (κ:SortKind):Prop where
 lin:∀ L:List α,SR.G2 lt L
 inj:∀ (aa:List (Addr×Obj)) (σ:L2.St) (H Hf:Hp) (s:Shared),Inv X aa σ H s->aL Hf H->∀ x y u,jZ X.K Hf (enc x) u->jZ X.K Hf (enc y) u->x=y
 kind:∀ (aa:List (Addr×Obj)) (σ:L2.St) (H Hf:Hp) (s:Shared) (A:Around) (E:Value->Shared->Prop),Inv X aa σ H s->aL Hf H->∀ (L:List α) (us:List Value),Paired (λx u=>jZ X.K Hf (enc x) u) L us->2<=us.length->∀ Q:SortKind->Shared->Prop,Q κ s->wpAny (model X.prog X.w) A (keyKind' us.toArray) Q E s
 cmp:∀ (aa:List (Addr×Obj)) (σ:L2.St) (H Hf:Hp) (s:Shared) (A:Around) (E:Value->Shared->Prop),Inv X aa σ H s->aL Hf H->A.units+10<cLine->∀ (x y:α) (u v:Value),jZ X.K Hf (enc x) u->jZ X.K Hf (enc y) v->∀ Q:Bool->Shared->Prop,Q (lt x y) s->wpAny (model X.prog X.w) A (keyLt' κ u v) Q E s
def fQ (lt:α->α->Bool) (b:Bool) (L:List α):Prop:=L.Pairwise λx y=>if b then lt y x=true else lt x y=true
abbrev ja (b:Bool) (L:List aN):Prop:=fQ cZ b L
theorem By {Q:Value->Shared->Prop} (hs:MD X enc lt κ) (I:Inv X aa σ H s) (sb:aL Hf H) (hA:A.units+20<cLine) (hr:aq X.K Hf (L.map enc) xs) (hv:Vals xs us) (hz:us.length<=sizeLine) (nd:L.Nodup)
 (hQ:∀ (L':List α) (xs':List V) (s':Shared),L'.Perm L->fQ lt b L'->aq X.K Hf (L'.map enc) xs'->xs'.length<=sizeLine->Inv X aa σ (upd H s.heap.objs.size (.lst xs')) s'->Q (.ref s.heap.objs.size) s') :
 wpAny (model X.prog X.w) A (newList us >>= λl=>(holding [l] (call (.builtin "list.sort") [l] [(PM "reverse",.bool b)]) >>= λ_=>ret l)) (λfin s'=>∃ v,fin=.done (.ret v)/\Q v s') E s:=by
 refine PK (Ua ?_ hz)
 have ha:(s.heap.push (seqObj "list" us.toArray 0)).get? s.heap.objs.size=some (seqObj "list" us.toArray 0):=Qd _ rfl
 have I1:Inv X aa σ H { s with heap:=s.heap.push (seqObj "list" us.toArray 0),toks:=s.toks }:=I.kept λb o e=>PY _ e
 have Ha:H s.heap.objs.size=none:=I.hok.fresh (PU _)
 obtain ⟨f0,f1,f2,f3,f4,f5⟩:=I.kG (H':=H) (PU _) Ha
 have pL:=lK hr hv
 refine PK (Rb (VU slot_list_sort ⟨_,ha,rfl⟩ entry_list_sort (SR.nF (κ:=κ) (rk:=SR.yh (λx u=>jZ X.K Hf (enc x) u) lt L) (b:=b) ha ?_ hz λout hp ho=>⟨_,rfl,?_⟩) (args_list_sort_rev _ _)))
 ·intro h' k
  have I2:=I1.turned (h':=h') (t':=s.toks) (it:=s.heap.objs.size) (λb o hb e=>k b o hb e) f0 f1 f3 f4 f5
  refine ⟨λQ E h2 hQ=>hs.kind _ _ _ _ _ _ _ I2 sb _ _ pL h2 _ hQ,SR.Bt (λx y u h1 h2=>hs.inj _ _ _ _ _ I2 sb x y u h1 h2) (hs.lin L) pL λx _ y _ u v hx hy E Q hQ=>hs.cmp _ _ _ _ _ _ _ I2 sb ?_ _ _ _ _ hx hy _ hQ⟩
  show A.units+1+10<cLine
  lia
 ·obtain ⟨L',p1,p2,p3⟩:=SR.qY (S:=λx u=>jZ X.K Hf (enc x) u) (λx y u h1 h2=>hs.inj _ _ _ _ _ I sb x y u h1 h2) (hs.lin L) nd pL hp ho
  obtain ⟨xs',r',v'⟩:=lM p3
  obtain ⟨e,he⟩:=sortedHeap_at (vs:=us) (out:=out) ha
  have hl:out.toList.length=us.length:=hp.length_eq
  refine PR ⟨_,rfl,hQ L' xs' _ p1 p2 r' ?_ ?_⟩
  ·have:=v'.length; lia
  ·refine I.laid (t':=s.toks) (λb o q=>?_) (PU _) ⟨by have:=v'.length; lia,out.toList,e,v',by simpa using he⟩
   have lt:=P1 q
   rw [sortedHeap_old (Qu lt) (by rw [size_push']; exact UU lt)]
   exact PY _ q
end
section
variable {K:PN}
end
section
variable {K:PN}
end
end EV
namespace EV
open PySem PySem.Spec PyProof.Rows L2
noncomputable def trim (l:List Int):List Int:=(l.reverse.dropWhile λx=>x == 0).reverse
theorem gR (l):trim (l++[0])=trim l:=by simp [trim]
theorem nH (l) (h:x≠0):trim (l++[x])=l++[x]:=by simp [trim,List.dropWhile_cons,h]
theorem jC {l:List Int} (h:m<l.length):l.take (m+1)=l.take m++[l.getD m 0]:=by
 rw [Q4 h]; simp [Q9,h]
theorem nI (h:m<l.length) (z:l.getD m 0=0) (e:trim (l.take (m+1))=trim l):trim (l.take m)=trim l:=by
 rw [jC h,z,gR] at e; exact e
theorem jD (h:m<l.length) (z:l.getD m 0≠0) (e:trim (l.take (m+1))=trim l):l.take (m+1)=trim l:=by
 rw [<- e,jC h,nH _ z]
theorem gu (l):(trim l).length<=l.length:=by
 unfold trim
 rw [VX]
 exact P7 (List.dropWhile_sublist _).length_le (by simp)
theorem cB (l):trim (trim l)=trim l:=by
 unfold trim
 rw [List.reverse_reverse]
 congr 1
 generalize l.reverse=r
 induction r with
 | nil=>rfl
 | cons x r ih=>by_cases h:x == 0 <;> simp [List.dropWhile_cons,h,ih]
theorem BA (l:List α) (h:m<=l.length):EV.cutD l none (some (m:Int))=l.take m:=by
 unfold EV.cutD HT.cg
 have e:¬ (m:Int)<0:=by lia
 simp only [e,if_false,QV]
 simp [T6 h]
section
variable {K:PN}
end
noncomputable def encA (A:List aN):List (List Key×D):=A.map λt=>(t.1.map Ql,.int t.2)
theorem oQ:∀ {l m:List Int},(l.map (Ql:Int->Key))=m.map Ql->l=m
 | [],[],_=>rfl
 | x::l,y::m,h=>by
  simp only [PZ,List.cons.injEq,Ql.injEq] at h
  rw [h.1,oQ h.2]
 | [],_::_,h=>by simp at h
 | _::_,[],h=>by simp at h
theorem oR (A) (l):bD (encA A) (l.map Ql)=(bD A l).map D.int:=by
 induction A with
 | nil=>rfl
 | cons t A ih =>
  by_cases e:t.1=l
  ·rw [br e]
   show bD ((t.1.map Ql,D.int t.2)::encA A) _=_
   rw [br (by rw [e])]; rfl
  ·rw [aV e,<- ih]
   show bD ((t.1.map Ql,D.int t.2)::encA A) _=_
   rw [aV λz=>e (oQ z)]
theorem E7 (A) (l) (n):putD (encA A) (l.map Ql) (.int n)=encA (putD A l n):=by
 unfold putD
 rw [oR]
 by_cases h:(bD A l).isSome=true
 ·rw [if_pos h,if_pos (by rw [Sy]; exact h)]
  unfold encA
  rw [Qi,Qi]
  refine RL λt _=>?_
  simp only [Vk]
  by_cases e:t.1=l
  ·rw [if_pos e,if_pos (by rw [e])]
  ·rw [if_neg e,if_neg λz=>e (oQ z)]
 ·rw [if_neg h,if_neg (by rw [Sy]; exact h)]
  unfold encA
  simp
theorem fG:∀ l:List Int,D.keys (l.map D.int)=some (l.map Ql)
 | []=>rfl
 | x::l=>by
  simp only [PZ]
  unfold D.keys
  rw [fG l]; rfl
theorem E8 (A:List aN) (l:List Int) (n:Int):(putD A l n).length<=A.length+1:=by
 unfold putD; split <;> simp
theorem E9 (A):(encA A).length=A.length:=by simp [encA]
theorem qZ (l:List Int) (n:Int) (h:(A.map (·.1)).Nodup):((putD A l n).map (·.1)).Nodup:=by
 unfold putD
 split
 ·rw [Qi]
  have e:(A.map ((·.1)∘λkv:aN=>if kv.1=l then (kv.1,n) else kv))=A.map (·.1):=RL λt _=>by
   simp only [Vk]; split <;> rfl
  rw [e]; exact h
 ·rename_i q
  rw [Qs,Tr]
  refine ⟨h,by simp,?_⟩
  intro a ha b hb
  simp at hb
  subst hb
  intro z
  subst z
  apply q
  obtain ⟨t,ht,e⟩:=Qe.mp ha
  unfold bD
  rw [Sy,List.find?_isSome]
  exact ⟨t,ht,decide_eq_true e⟩
theorem keys_nodup {A:List aN} (h:(A.map (·.1)).Nodup):A.Nodup:=by
 unfold Um at *
 rw [RV] at h
 exact h.imp λq z=>q (by rw [z])
noncomputable def fH (A:List aN) (t:aN):List aN:=putD A (trim t.1) ((bD A (trim t.1)).getD 0+t.2)
noncomputable def aP (ts:List aN):List aN:=ts.foldl fH []
theorem q8 (ts) (t):aP (ts++[t])=fH (aP ts) t:=by simp [aP]
theorem oS (ts:List aN) (A):(ts.foldl fH A).length<=A.length+ts.length:=by
 induction ts generalizing A with
 | nil=>simp
 | cons t ts ih =>
  have h1:=ih (fH A t)
  have h2:=E8 A (trim t.1) ((bD A (trim t.1)).getD 0+t.2)
  simp only [Rp,Qz]
  unfold fH at *
  lia
theorem gS (ts):(aP ts).length<=ts.length:=by
 have:=oS ts []
 simpa [aP] using this
theorem dZ (ts):((aP ts).map (·.1)).Nodup:=by
 unfold aP
 have:∀ A:List aN,(A.map (·.1)).Nodup->((ts.foldl fH A).map (·.1)).Nodup:=by
  induction ts with
  | nil=>exact λA h=>h
  | cons t ts ih=>exact λA h=>ih _ (qZ _ _ h)
 exact this [] (by simp)
theorem Fb (x):cZ x x=false:=(oO [x]).irr x (by simp)
theorem BB (h:cZ x y=true) (g:cZ y z=true):cZ x z=true:=(oO [x,y,z]).tr x (by simp) y (by simp) z (by simp) h g
theorem lN:∀ {L M:List aN},L.Perm M->ja true L->ja true M->L=M
 | [],M,h,_,_=>by rw [List.nil_perm] at h; exact h.symm
 | x::L,[],h,_,_=>by simp at h
 | x::L,y::M,h,h1,h2=>by
  unfold ja fQ at h1 h2
  rw [To] at h1 h2
  by_cases e:x=y
  ·subst e
   rw [lN ((List.perm_cons _).mp h) h1.2 h2.2]
  ·exfalso
   have hx:x∈M:=by
    have:=h.subset (P4)
    rcases P8.mp this with z | z
    ·exact absurd z e
    ·exact z
   have hy:y∈L:=by
    have:=h.symm.subset (P4)
    rcases P8.mp this with z | z
    ·exact absurd z.symm e
    ·exact z
   have a:=h1.1 y hy
   have b:=h2.1 x hx
   simp only [if_true] at a b
   have:=BB a b
   rw [Fb] at this; cases this
noncomputable def yj (t:aN):List aN->List aN
 | []=>[t]
 | x::r=>if cZ x t=true then t::x::r else x::yj t r
noncomputable def fJ (L:List aN):List aN:=L.foldr yj []
theorem lO (t):∀ L:List aN,(yj t L).Perm (t::L)
 | []=>.refl _
 | x::r=>by
  unfold yj
  split
  ·exact .refl _
  ·exact ((lO t r).cons x).trans (.swap _ _ _)
theorem bB:∀ L:List aN,(fJ L).Perm L
 | []=>.refl _
 | t::L=>(lO t (fJ L)).trans ((bB L).cons t)
theorem Fc (h:x≠y):cZ x y=true\/cZ y x=true:=(oO [x,y]).tot x (by simp) y (by simp) h
theorem vZ (t):∀ L:List aN,t∉L->ja true L->ja true (yj t L)
 | [],_,_=>Tf _ _
 | x::r,hn,h=>by
  have h':=h
  unfold ja fQ at h'
  rw [To] at h'
  unfold yj
  by_cases e:cZ x t=true
  ·rw [if_pos e]
   unfold ja fQ
   rw [To]
   refine ⟨λy hy=>?_,h⟩
   simp only [if_true]
   rcases P8.mp hy with rfl | z
   ·exact e
   ·have:=h'.1 y z
    simp only [if_true] at this
    exact BB this e
  ·rw [if_neg e]
   unfold ja fQ
   rw [To]
   refine ⟨λy hy=>?_,vZ t r (λz=>hn (P9 _ z)) h'.2⟩
   rcases P8.mp ((lO t r).subset hy) with rfl | z
   ·simp only [if_true]
    rcases Fc (x:=x) (y:=y) (λz=>hn (by rw [z]; exact P4)) with q | q
    ·exact absurd q e
    ·exact q
   ·exact h'.1 y z
theorem gT:∀ {L:List aN},L.Nodup->ja true (fJ L)
 | [],_=>TZ
 | t::L,h=>by
  rw [Rf] at h
  exact vZ t _ (λz=>h.1 ((bB L).subset z)) (gT h.2)
theorem BC (hn:L.Nodup) (hp:L'.Perm L) (hs:ja true L'):L'=fJ L:=lN (hp.trans (bB L).symm) hs (gT hn)
noncomputable def nz (L:List aN):List aN:=L.filter λt=>t.2 != 0
theorem BD (hn:L.Nodup):nz (fJ L)=fJ (nz L) :=
 BC (Vy.filter _ hn) ((bB L).filter _) ((gT hn).filter _)
theorem encK (A):(Sl.oT (encA A)).qH=some (.fdT (A.map λt=>t.1.map Ql) (A.map λt=>.int t.2)):=by
 show some _=some _
 unfold encA
 rw [Qi,Qi]; rfl
theorem BE (h:r.xX=some (encA A)) (l):GW r (.tup (l.map .int)) ((bD A l).map D.int):=by
 rw [<- oR]; exact .t h (fG l)
theorem BF (hz:A.length<sizeLine):EF (.oT (encA A)) (.tup (l.map .int)) (.int n) (.oT (encA (putD A l n))):=by
 rw [<- E7]
 exact .t (r:=.oT (encA A)) rfl (fG l) (by rw [E9]; exact hz)
theorem q9 (o:Option Int):(o.map D.int).getD (.int 0)=.int (o.getD 0):=by cases o <;> rfl
end EV
namespace EV
open PySem PySem.Spec PySem.Calls PyProof.Rows L2
theorem gU {L:List Addr} (I:Inv X aa σ H s) (k:∀ b o,b∉L->s.heap.get? b=some o->h'.get? b=some o) (hf:∀ b∈L,eO X aa H b):Inv X aa σ H { s with heap:=h',toks:=t' }:=by
 have nit:∀ b u,H b=some u->b∉L:=λb u e z=>by rw [(hf b z).1] at e; cases e
 refine I.step (g':=s.gens) (d':=s.drawn) (ch:=L) (λb hb=>?_) (λb o _ _ hc e _=>k b o hc e) (λb o _ _ hc e _=>⟨o.slots,k b o hc e⟩) (λ_ _ _ _ n=>n)
  (λb o hc e=>⟨o,k b o hc e⟩) (λ_ _ e=>e) (λ_ _ _ e=>e) (λb ps e=>⟨#[],by rw [e]; simp⟩) (λm hm=>?_) (λb u e=>?_) I.bare
 ·obtain ⟨_,f1,_,f3,f4,f5⟩:=hf b hb
  exact ⟨f3,f1,f4,f5⟩
 ·obtain ⟨o,es,ep,ho,r⟩:=hm
  exact ⟨o,es,ep,k _ o (λz=>(hf _ z).2.1 rfl) ho,r⟩
 ·refine (I.hok b u e).stay (λc v hc q=>k c v ?_ q) (λ_ q=>q) λ_ _ q=>q
  rcases hc with z | z
  ·rw [z]; exact nit b u e
  ·exact nit c _ z
noncomputable def yk (ds es:List D):List D:=Tz (λx y=>D.tup [x,y]) ds es
theorem boot_zip:bootBuiltins "zip"=some (.type "zip"):=by decide +kernel
section
variable {K:PN}
end
end EV
namespace EV
open PySem PySem.Spec PyProof.Rows L2
theorem oU {A:List aN} {l:List Int} {n:Int} {t:aN} (h:t∈putD A l n):t.1=l\/t∈A:=by
 unfold putD at h
 split at h
 ·obtain ⟨u,hu,e⟩:=Qe.mp h
  split at e
  ·rename_i q; subst e; exact .inl q
  ·subst e; exact .inr hu
 ·rcases Qq.mp h with q | q
  ·exact .inr q
  ·simp at q; subst q; exact .inl rfl
theorem oV (hl:∀ t∈ts,t.1.length<=n):∀ t∈aP ts,trim t.1=t.1/\t.1.length<=n:=by
 unfold aP
 suffices H:∀ A:List aN,(∀ t∈A,trim t.1=t.1/\t.1.length<=n)->∀ t∈ts.foldl fH A,trim t.1=t.1/\t.1.length<=n from H [] (by simp)
 induction ts with
 | nil=>exact λA h=>h
 | cons u ts ih =>
  refine λA h=>ih (λt ht=>hl t (P9 _ ht)) _ λt ht=>?_
  rcases oU ht with e | e
  ·rw [e,cB]
   exact ⟨rfl,P7 (gu _) (hl u P4)⟩
  ·exact h t e
noncomputable def aZ (ts:List aN):List aN:=fJ (nz (aP ts))
theorem v5 (h:(A.map (·.1)).Nodup):((nz A).map (·.1)).Nodup:=Um.sublist (List.filter_sublist.map _) h
theorem nJ (ts):(aZ ts).Perm (nz (aP ts)):=bB _
theorem rg (h:t∈aZ ts):t∈aP ts/\t.2≠0:=by
 have:=(nJ ts).subset h
 unfold nz at this
 rw [T7] at this
 exact ⟨this.1,by simpa using this.2⟩
theorem lP (ts):(aZ ts).length<=ts.length:=by
 rw [(nJ ts).length_eq]
 exact P7 (List.length_filter_le _ _) (gS ts)
end EV
namespace EV
open PySem PySem.Spec PySem.Calls PyProof.Rows L2
theorem Fd {K:PN} {f:Int->Int->Int}:Ax K (λxs H Q=>∃ i j,xs=[.int i,.int j]/\Q (.int (f i j)) H) (λds R=>∃ i j:Int,ds=[.int i,.int j]/\R (.int (f i j))):=by
 rintro ds vs H Hf Q R s rs ⟨i,j,rfl,hR⟩ q
 obtain ⟨v,r,rfl,r1,r2⟩:=aF.mp rs
 obtain ⟨v',r',rfl,r1',r2'⟩:=aF.mp r2
 rw [aC] at r2'
 subst r2'
 rw [aA] at r1 r1'
 subst r1 r1'
 exact ⟨i,j,rfl,q _ _ H Hf hR (aA.mpr rfl) (.refl s)⟩
section
variable {K:PN} {c:Ctx P w K mg base k N sc bk}
theorem boot_max:bootBuiltins "max"=some (.builtin "max"):=by decide +kernel
theorem BG (hm:mg "max"=none) (h:aJ c a ρ λx=>aJ c b ρ λy=>I2 (λi j=>R (.int (if j>i then j else i))) x y) (hg:sc.names.lookup (PM "max")=some .globalImplicit:=by walk_at "u")
 (he:∀ env,starEach [a,b] env=(false,eval a env)::starEach [b] env:=by intro _; walk_at "u") (he2:∀ env,starEach [b] env=(false,eval b env)::starEach [] env:=by intro _; walk_at "u")
 (hpl:∀ env,(backTo pos (starEach [b] env)).any (·.1)=false:=by intro _; walk_at "u"):aJ c (.Call (.Name "max" p) [a,b] [] pos) ρ R :=
 ve (xE c.calm) (Fd (f:=λi j=>if j>i then j else i)) hm boot_max (cV (h.imp λx h1=>cV (h1.imp λy ⟨i,j,e1,e2,hR⟩=>kR ⟨i,j,by rw [e1,e2],hR⟩) he2) he) hg (by decide) (by decide) he hpl
theorem G3 (h:aJ c a ρ λx=>aJ c b ρ λy=>I2 (λi j=>Sd (sO i j) (R (.int (i * 2 ^ j.toNat)))) x y):aJ c (.BinOp a .LShift b pos) ρ R :=
 iQ (oj Im m7 (h.imp λx hx=>hx.imp λy ⟨i,j,e1,e2,⟨hc,r⟩⟩=>⟨i,j,e1,e2,hc,_,rfl,r⟩))
theorem G4 (h:aJ c a ρ λx=>aJ c b ρ λy=>I2 (λi j=>Sd (0<=j) (R (.int (i / 2 ^ j.toNat)))) x y):aJ c (.BinOp a .RShift b pos) ρ R :=
 iQ (oj Io m7 (h.imp λx hx=>hx.imp λy ⟨i,j,e1,e2,⟨hc,r⟩⟩=>⟨i,j,e1,e2,hc,_,rfl,r⟩))
theorem BH (h:aJ c a ρ λx=>aJ c b ρ λy=>I2 (λi j=>R (.int (Builtin.bitAnd i j))) x y):aJ c (.BinOp a .BitAnd b pos) ρ R :=
 iQ (oj Ip Al (h.imp λx hx=>hx.imp λy ⟨i,j,e1,e2,r⟩=>⟨i,j,e1,e2,_,rfl,r⟩))
end
noncomputable abbrev NH:=List (Key×D)->List D->(List (Key×D)->Prop)->Prop
noncomputable def JE (K:PN) (F:NH):Sp:=λvs H Q _=>∃ Hf p kvs xs us ds B,vs=.ref p::us/\aL Hf H/\H p=some (.dK xs)/\Hf p=none/\l0 K Hf kvs xs/\aq K Hf ds us/\F kvs ds B /\
 ∀ kvs' H' aj xs',B kvs'->aY (del H p) Hf H' aj->H' p=some (.dK xs')->aj p=none->l0 K aj kvs' xs'->Q .non H'
structure Fe (P:Program) (w:World) (K:PN) (mg:Str->Option Value) (base:Heap) (k:Nat) (x:Str) (F:NH):Prop where
 ex:∃ f fd ps,mg x=some (.ref f)/\RI K (.ref f)=true/\Binds K fd ps []/\bu P w K mg base (di P w) k f fd ps (JE K F)
noncomputable def startM (q:Addr) (kvs:List (Key×D)) (N:List Str) (ds:List D):List Sl:=.aK q kvs::(ds.map .va++Qf (N.length - (ds.length+1)) .un)
theorem yl {K:PN} (r:aq K Hf ds us) (sb:aL Hf H) (h1:H q=some (.dK xs)) (h2:Hf q=none) (h3:l0 K Hf kvs xs) :
 dB K (del H q) Hf (L2.start N (.ref q::us)) H Hf (startM q kvs N ds):=by
 have hl:=r.length
 have rest:∀ (i:Nat) (r':Sl),(startM q kvs N ds)[i+1]?=some r'->r'≠.un->∃ d,ds[i]?=some d/\r'=.va d:=λi r' h hu=>by
  have h':(ds.map Sl.va++Qf (N.length - (ds.length+1)) Sl.un)[i]?=some r':=by simpa [startM] using h
  by_cases w:i<ds.length
  ·rw [R4 (by simpa using w),P6,Qo w] at h'
   cases h'
   exact ⟨_,by simp,rfl⟩
  ·rw [Tc (by simp; lia)] at h'
   exact absurd (UD (QI h')) hu
 refine ⟨⟨λb o e=>(iV e).2,.refl _,sb,λ_ h _ _=>h⟩,by simp [L2.start,startM,hl],λi r' h hu=>?_,λi j r1 r2 p hne e1 e2 o1 o2=>?_⟩
 ·cases i with
  | zero =>
   have:r'=.aK q kvs:=by simpa [startM] using h.symm
   subst this
   exact ⟨.ref q,by simp [L2.start],q,xs,rfl,⟨iU,rfl⟩,h1,h2,h3⟩
  | succ i =>
   obtain ⟨d,hd,rfl⟩:=rest i r' h hu
   obtain ⟨x,e2,rx⟩:=r.get hd
   refine ⟨x,?_,rx⟩
   have hi:i<us.length:=(Qa.mp e2).1
   unfold L2.start
   rw [R4 (by simp; lia)]
   simp [e2]
 ·exfalso
  have own:∀ {i:Nat} {r:Sl},(startM q kvs N ds)[i]?=some r->r.owned=true->i=0:=λ{i r} h ho=>by
   cases i with
   | zero=>rfl
   | succ i =>
    obtain ⟨d,_,rfl⟩:=rest i r h (by rintro rfl; cases ho)
    cases ho
  exact hne ((own e1 o1).trans (own e2 o2).symm)
section
variable {K:PN} {c:Ctx P w K mg base k N sc bk}
theorem ME {st:Stmt} (Fu:eS K x qual st f fd) (SV:FS N ps st) (ar:∀ kvs ds B,F kvs ds B->ds.length+1=ps.length)
 (body:∀ (c:Ctx P w K mg base k N (aQ st) false),c.X.xe=(λ_ _=>False)->∀ q kvs ds B,F kvs ds B->aI c (ay st) (startM q kvs N ds) (λρ=>∃ kvs' r,B kvs'/\ρ=.aK q kvs'::r) { rt:=λ_=>False }) :
 bu P w K mg base (di P w) (k+1) f fd ps (JE K F):=by
 obtain ⟨Sc,Vi⟩:=Aw SV
 obtain ⟨oc,od,kV,doc,pm,an,cdv,ct,osl,rfl,lk,hcd⟩:=Fu.ex
 refine zR lk hcd Sc (λvs H Q E hh=>z4 hh λHf q kvs xs hh=>z3 hh λus ds B hh=>w8 hh λe _ _ _ _ rs hF _=>by rw [e,Qz,<- rs.length]; exact ar _ _ _ hF) λA outer s H vs Q E hr hh=>z4 hh λHf q kvs xs hh=>z3 hh λus ds B hh=>w8 hh λe sb h1 h2 h3 rs hF hq=>?_
 subst e
 let X:Cx:=(p7 (di P w) P w K mg base N qual (aQ st) f cdv A outer s H E).GD
 let c:Ctx P w K mg base k N (aQ st) false :=
  { X:=X,eP:=rfl,ew:=rfl,eK:=rfl,emg:=rfl,eb:=rfl,eN:=rfl,esc:=rfl,calm:=rfl,top:=λ_=>⟨rfl,rfl,rfl⟩,cb:=λ_ _ _ _ _ I x c h=>I.ok.cab x c rfl h,fn:=λ_ _=>.inl rfl,B:=del H q,room:=hr,nd:=Sc.nd,vis:=Vi,Hf:=Hf,RX:=λ_ _=>False,
    exc:=λ_ _ _ _ _ _ _ _ _ _ _ _ h _ _=>h.elim,RM:=λ_ _=>False,mde:=λ_ _ _ _ _ _ _ _ _ _ _ _ h _=>h.elim }
 refine ⟨_,sH.GD (t:=IP X (ay st)) (qm (X:=X)),?_⟩
 refine body c rfl q kvs ds B hF (L2.start N (.ref q::us)) H Hf _ (yl rs sb h1 h2 h3) ⟨λσ H' aj ρ S ⟨kvs',r,hB,e⟩=>?_,λr v H' aj g rv e=>e.elim,λ_ _ _ _ _ h=>h.elim,λ_ _ _ _ _ h=>h.elim⟩
 subst e
 obtain ⟨v,_,q',xs',_,⟨_,rfl⟩,a1,a2,a3⟩:=S.at_ 0 _ rfl (by simp)
 exact hq kvs' H' aj xs' hB S.bas a1 a2 a3
theorem v7 (h:Fe P w K mg base j x F) (hj:j<=k) (hN:At N i y) (hi:At ρ i r) (hr:r.tD=some kvs)
 (ha:qo c es ρ λds=>∃ B,F kvs ds B/\∀ kvs',B kvs'->Nx ρ i nx (r.qz kvs'))
 (hg:sc.names.lookup x=some .globalImplicit:=by walk_at "u") (hdb:(x == ("__debug__":Str))=false:=by decide) (hd:(y == ("__debug__":Str))=false:=by decide) (hcd:(y == ("__classdict__":Str))=false:=by decide)
 (he:∀ env,starEach (.Name y py::es) env=(false,eval (.Name y py) env)::starEach es env:=by intro _; walk_at "u")
 (hpl:∀ env,(backTo cp (starEach es env)).any (·.1)=false:=by intro _; walk_at "u")
 (hs:∀ env,swapsWith (.Call (.Name x px) (.Name y py::es) [] cp) none pos.line env=pure false:=by intro _; walk_at "u"):eU c (.Expr (.Call (.Name x px) (.Name y py::es) [] cp) pos) ρ nx p:=λσ H Hf D S o=>by
 obtain ⟨q,eq,rq⟩:=S.own hi.get (kW hr)
 obtain ⟨xs,h1,h2,h3⟩:=xY hr rq
 refine dQ (iL cQ (hs _)) (show bE c.X _ σ H (λ_ H'=>D.nx σ H') from λaa s I=>?_)
 obtain ⟨f,fd,ps,hm,hk,hb,hF⟩:=h.ex
 refine Ry (gJ I (by unfold Gl Qx; rw [c.esc]; exact hg) (by rw [c.emg]; exact hm) ?_ hdb)
 have hA:bA c.X (.Name y py::es) σ H (λvs H1=>∃ us aM ds B,vs=.ref q::us/\F kvs ds B/\(∀ kvs',B kvs'->Nx ρ i nx (r.qz kvs'))/\aq c.X.K aM ds us/\aY H Hf H1 aM) :=
  kQ (bF (c.jW hN hd hcd) En (he _)) ⟨_,eq,ha σ H Hf _ S λds vs H1 aM ⟨B,hF,hn⟩ rs g=>⟨vs,aM,ds,B,rfl,hF,hn,rs,g⟩⟩
 refine TV (h₀:=c.X.base) I.ok.mod.kin (by rw [c.eK]; exact hk) (bz (hA cp aa s I) λus s1 hh=>z2 hh λvs H1 hh=>w3 hh λI1 rv hh=>z4 hh λus' aM ds B hh=>w5 hh λev hF' hn rs g=>⟨I1.l8,?_⟩) (he _) (hpl _)
 subst ev
 have S1:=S.cA g
 have rq1:=rq.cA g
 obtain ⟨xs1,a1,a2,a3⟩:=xY hr rq1
 have hF2:bu c.X.prog c.X.w c.X.K c.X.mg c.X.base (di c.X.prog c.X.w) k f fd ps (JE c.X.K F):=by rw [c.eP,c.ew,c.eK,c.emg,c.eb]; exact hF.mono hj
 have mQ:JE c.X.K F (.ref q::us') H1 (λ_ H'=>D.nx σ H') (λ_ _ _=>False):=by
  refine ⟨aM,q,kvs,xs1,us',ds,B,rfl,g.b,a1,a2,a3,rs,hF',λkvs' H' aj xs' hB g2 b1 b2 b3=>?_⟩
  obtain ⟨ρ',hs',hn⟩:=hn kvs' hB
  refine o.nx σ H' aj ρ' ?_ hn
  rw [hs'.eq]
  exact S1.upd hi.get (kW hr) eq g2 (qA hr rq1 b1 b2 b3) (kX hr)
 have hl:us.length=ps.length:=by rw [<- rv.length]; exact hF2.len _ _ _ _ mQ
 have hb':Binds c.X.K fd ps []:=by rw [c.eK]; exact hb
 have hb2:=hb' s1 us I1.l8 (by simpa using hl)
 rw [QX] at hb2
 refine SW (SK (hF2.run c.X.A c.X.stack s1 H1 ⟨us,[]⟩ us _ _ _ c.room I1.zQ hb2 rv mQ) λr' s' hq=>?_)
 cases r' with
 | error e =>
  obtain ⟨a,C,H',rfl,hE,h⟩:=hq
  exact h.elim
 | ok fl =>
  cases fl with
  | ret u=>exact I1.after hq
  | next=>exact QM hq
  | brk=>exact QM hq
  | cont=>exact QM hq
end
theorem aq.many {K:PN} (h:aq K H ds xs):∀ k:Nat,aq K H (Qf k ds).flatten (Qf k xs).flatten
 | 0=>aC.mpr rfl
 | k+1=>by
  rw [RK,RK,Sz,Sz]
  exact h.append (aq.many h k)
theorem aq.set {K:PN}:∀ {ds:List D} {xs:List V} (i:Nat) {d:D} {v:V},aq K H ds xs->Rep K H d v->aq K H (ds.set i d) (xs.set i v)
 | [],_,i,_,_,h,_=>by rw [aC] at h; subst h; exact aC.mpr rfl
 | e::ds,_,i,d,v,h,q=>by
  obtain ⟨x,r,rfl,h1,h2⟩:=aF.mp h
  cases i with
  | zero=>exact .cons q h2
  | succ i=>exact .cons h1 (aq.set i h2 q)
theorem BI {n k:Nat} {i:Int} (hi:i=k) (e:s.heap.get? l=some { cls:=.type "list",data:=.seq items n }) (hk:k<items.size) (hf:items.size<2 ^ 63)
 (hQ:Q () { s with heap:=s.heap.update l (QB λxs=>xs.setIfInBounds k v) }):wpAny (model prog w) A (setItem (.ref l) (.int i t) v) Q E s:=by
 have ht:s.TypeIs (.ref l) "list":=⟨_,e,rfl⟩
 have hx:items[k]?=some items[k]:=Qt hk
 unfold setItem
 refine Rb (PK (V4 ht (by decide) ?_))
 refine PK (Rx (name:=PM "__setitem__") ht PySem.slot_list_setitem (Ra PySem.slot_list_setitem ht PySem.entry_list_setitem ?_ (PySem.args_list_setitem _ _ _)))
 show wpAny _ _ (Builtin.List.listSubscript? (.int i t) >>= _) _ _ s
 refine PK (wpAny_listSubscript_int (fitsIndex_of (show 0<=i by lia) (show i<2 ^ 63 by lia)) ?_)
 clear hf
 subst hi
 show wpAny _ _ ((seqItemAt l k >>= λr=>pure (r.map λx=>(k,x))) >>= _) _ _ s
 refine PK (PK (wpAny_seqItemAt e rfl (PR ?_)))
 rw [hx]
 show wpAny _ _ (setSeqItemAt l k v >>= _) _ _ s
 refine PK (wpAny_setSeqItemAt e rfl ?_)
 first
  | exact PK (PR (PR ⟨QG,rfl,PR hQ⟩))
  | exact PR ⟨QG,rfl,PR hQ⟩
noncomputable def MF:HX:=λo i v H Q=>∃ l xs k,o=.ref l/\i=.int (k:Nat)/\H l=some (.lst xs)/\k<xs.length/\Q (upd H l (.lst (xs.set k v)))
theorem BJ:Lz X MF:=by
 intro aa s σ H o i v ov iv u Q I r1 r2 r3 h
 obtain ⟨l,xs,k,rfl,rfl,hH,hk,q⟩:=h
 cases r1
 obtain ⟨t,rfl⟩:=r2
 obtain ⟨z,its,n,r,hl,e⟩:=I.qb hH
 have hbig:xs.length<2 ^ 63:=RN z (by decide)
 refine BI rfl e (by rw [Qm,<- hl]; exact hk) (by rw [Qm,<- hl]; exact hbig) ⟨_,I.sW (its':=its.set k u) (t':=s.toks) hH e ?_ (Vals.set r3 k r) (by rw [List.length_set]; exact z),q⟩
 show its.toArray.setIfInBounds k u=(its.set k u).toArray
 simp
theorem Ff:Oq X "int.bit_length" (λx vs H Q=>∃ i,x=.int i/\vs=[]/\Q (.int (Rj i:Nat)) H):=by
 intro aa s σ H x xs v us Q I r1 r2 h
 obtain ⟨i,rfl,rfl,q⟩:=h
 obtain ⟨t,rfl⟩:=r1
 cases r2
 exact PyProof.Rows.call_int_bit_length ⟨.int (Rj i:Nat),H,I.tok _,⟨_,rfl⟩,q⟩
section
variable {K:PN} {c:Ctx P w K mg base k N sc bk}
theorem JF (h:aJ c e ρ (I1 λi=>R (.int (Rj i:Nat)))) (hbase:∀ env,attributeBase e "bit_length" env (eval e env)=eval e env:=by intro _; walk_at "u") (hline:(ap.endLine == cp.line)=true:=by walk_at "u") :
 aJ c (.Call (.Attribute e "bit_length" ap) [] [] cp) ρ R:=λσ H Hf Q S q =>
 bJ (IB PySem.F.plainAttrs_int PySem.F.slot_int_bit_length PySem.F.type_int_bit_length Ff cQ (hbase _) hline) (h σ H Hf _ S λd v H' aj ⟨i,e,hR⟩ r g=>by
  subst e
  rw [aA] at r; subst r
  exact ⟨rfl,i,rfl,rfl,q _ _ H' aj hR (aA.mpr rfl) g⟩)
theorem MG {R:Sl->Prop} (h:cN c a ρ λr=>∃ ds,r=.ow ds/\aJ c b ρ (I1 λn=>Sd ((0<=n/\n<2 ^ 63)/\ds.length * n.toNat<=sizeLine) (R (.ow (Qf n.toNat ds).flatten)))):cN c (.BinOp a .Mult b pos) ρ R:=λσ H Hf Q S q =>
 bJ (zM IC cQ cQ) (h σ H Hf _ S λr v H1 aM ⟨ds,er,h1⟩ rr g1=>h1 σ H1 aM _ (S.cA g1) λdn u H2 cD ⟨n,en,⟨⟨n0,n1⟩,hz⟩,hR⟩ rn g2=>by
  subst er en
  rw [aA] at rn; subst rn
  obtain ⟨l,xs,rfl,fl,k1,k2,k3⟩:=rr
  have k1':=g2.s _ _ k1
  refine ⟨l,n,xs,rfl,rfl,k1',by lia,n1,by rw [<- k3.length]; exact hz,λp hp=>?_⟩
  have g3:=aY.gj (o:=.lst (Qf n.toNat xs).flatten) g2.b hp
  exact q _ _ _ _ hR ⟨p,_,rfl,(g1.trans g2).s.free hp,ai,g2.b.free hp,(k3.mono g2.f).many _⟩ ((g1.trans g2).trans g3))
theorem JG (hN:At N i x) (hi:At ρ i r) (hr:r.getL=some ds) (h:aJ c e ρ λdv=>aJ c b ρ λdk=>∃ m:Nat,dk=.int m/\Sd (m<ds.length) (Nx ρ i nx (r.putL (ds.set m dv))))
 (hs:∀ env,swapsWithSole [.Subscript (.Name x px) b tp] e pos.line env=pure false:=by intro _; walk_at "u") (hw:∀ env,swappedStores [.Subscript (.Name x px) b tp] e env=pure none:=by intro _; walk_at "u")
 (h1:∀ env,(assignEach [.Subscript (.Name x px) b tp] env).map (·.2)=[assign (.Subscript (.Name x px) b tp) env]:=by intro _; walk_at "u")
 (ha:∀ env v,assign (.Subscript (.Name x px) b tp) env v=(do
   let ov <- holding [v] (eval (.Name x px) env)
   let iv <- holding [v,ov] (eval b env)
   standAt tp
   holding [v,ov,iv] (setItem ov iv v)
   release [v,ov,iv] []):=by intro _ _; walk_at "u")
 (hd:(x == ("__debug__":Str))=false:=by decide) (hcd:(x == ("__classdict__":Str))=false:=by decide):eU c (.Assign [.Subscript (.Name x px) b tp] e pos) ρ nx p:=λσ H Hf D S o=>by
 obtain ⟨q,eq,rq⟩:=S.own hi.get (dD hr)
 refine dQ (Ia cQ (HZ (c.jW hN hd hcd) cQ BJ (ha _)) (hs _) (hw _) (h1 _)) (h σ H Hf _ S λdv v H1 aM h2 rv g1=>⟨_,eq,h2 σ H1 aM _ (S.cA g1) λdk y H2 cD ⟨m,em,hm,ρ',hs',hn⟩ ry g2=>?_⟩)
 subst em
 rw [aA] at ry; subst ry
 have g:=g1.trans g2
 obtain ⟨xs,k1,k2,k3⟩:=Jg hr (rq.cA g)
 refine ⟨q,xs,m,rfl,rfl,k1,by rw [<- k3.length]; exact hm,o.nx _ _ cD ρ' ?_ hn⟩
 rw [hs'.eq]
 exact (S.cA g).upd hi.get (dD hr) eq (gM g.b k2) (kU hr (rq.cA g) ai k2 (k3.set m (Rep.mono g2.f _ rv))) (iu hr)
end
theorem fR {K:PN}:∀ {ns:List Int} {xs:List V},aq K H (ns.map D.int) xs->xs=ns.map V.int
 | [],xs,h=>by rw [RT,aC] at h; subst h; rfl
 | b::bs,xs,h=>by
  rw [PZ,aF] at h
  obtain ⟨x,r,rfl,h1,h2⟩:=h
  rw [aA] at h1
  rw [h1,fR h2]; rfl
theorem gv {ns:List Int} {us:List Value} (h:Vals (ns.map V.int) us) (i:Nat) (v:Value) (e:us.toArray[i]?=some v):∃ t,v=.int (ns.getD i 0) t:=by
 have e':us[i]?=some v:=by simpa using e
 have hi:i<ns.length:=by
  have:=(Qa.mp e').1
  have l:=h.length
  rw [P0] at l
  omega
 obtain ⟨u,hu,r⟩:=h.get (i:=i) (x:=.int (ns.getD i 0)) (by simp [Q9,hi])
 rw [e'] at hu; cases hu
 exact r
theorem lQ (I:Inv X aa σ H s) (hq:f7 X.K H p xs) :
 ∃ its:List Value,Vals xs its/\s.heap.IsList p its.toArray/\p<s.heap.objs.size:=by
 obtain ⟨its,rv,pl,hz⟩:=I.list hq
 exact ⟨its,rv,pl.isList,by obtain ⟨o,e,_⟩:=pl.isList; exact P1 e⟩
theorem nK (I:Inv X aa σ H s) (hk:∀ b o,b∉[s.heap.objs.size]->(s.heap.push ob).get? b=some o->h'.get? b=some o):Inv X aa σ H { s with heap:=h',toks:=tk } :=
 I.kept (h':=h') (t':=tk) λb u e=>hk b u (by simpa using Qu (P1 e)) (PY _ e)
theorem ym (hc:X.calm=true):gc X (.builtin "max") (λxs H Q=>∃ (p:Addr) (ns:List Int),xs=[.ref p]/\ns≠[]/\f7 X.K H p (ns.map V.int)/\∀ m∈ns,(∀ n∈ns,n<=m)->Q (.int m) H):=by
 intro aa s σ H xs us Q I r h
 obtain ⟨p,ns,rfl,hne,hq,q⟩:=h
 obtain ⟨u,rfl,rx⟩:=vals1 r
 cases rx
 obtain ⟨its,rv,pl,hlt⟩:=lQ I hq
 have hn:its.toArray.size=ns.length:=by have l:=rv.length; rw [P0] at l; simp [l]
 have hpos:0<ns.length:=List.length_pos_iff.mpr hne
 refine call_max_walk (V6 pl ?_)
 have hh:X.A.in1.handled=none:=I.ok.hd hc
 refine ⟨_,_,_,_,_,_,_,rfl,Walks.list hh s.heap.objs.size p (Qu hlt) its.toArray,⟨⟨_,Qd _ rfl,rfl,rfl⟩,pl.at λo e=>PY _ e⟩,?_,by rw [hn]; exact hpos,CmpOf.ints_gt (λi=>ns.getD i 0) (gv rv),?_⟩
 ·intro b hb
  show b<(s.heap.push _).objs.size
  rw [RC]
  simp only [P8,Q0,or_false] at hb
  rcases hb with rfl | rfl
  ·exact SA _
  ·exact UU hlt
 ·intro v h' tk hP hk
  obtain ⟨t,rfl⟩:=gv rv _ _ hP
  obtain ⟨b1,b2⟩:=argBest_gt (λi=>ns.getD i 0) (its.toArray.size - 1)
  rw [hn] at b1 b2 |-
  have J:=nK (s:=s) (tk:=tk) I hk
  refine ⟨.int _,H,J,⟨_,rfl⟩,q _ ?_ λn hm=>?_⟩
  ·rw [Q9,Qo (by omega)]
   exact Qy _
  ·obtain ⟨j,hj,rfl⟩:=List.getElem_of_mem hm
   have:=b2 j (by omega)
   rw [show ns.getD j 0=ns[j] by simp [Q9,hj]] at this
   exact this
theorem v8 (ns:List Int):∀ j,j<=ns.length->preSum (λi=>ns.getD i 0) j=(ns.take j).sum
 | 0,_=>rfl
 | j+1,h=>by
  show preSum (λi=>ns.getD i 0) j+ns.getD j 0=_
  rw [v8 ns j (by omega),Q4 (by omega),SH]
  simp [Q9,show j<ns.length by omega]
theorem yo (hc:X.calm=true):gc X (.builtin "sum") (λxs H Q=>∃ (p:Addr) (ns:List Int),xs=[.ref p]/\f7 X.K H p (ns.map V.int)/\Q (.int ns.sum) H):=by
 intro aa s σ H xs us Q I r h
 obtain ⟨p,ns,rfl,hq,q⟩:=h
 obtain ⟨u,rfl,rx⟩:=vals1 r
 cases rx
 obtain ⟨its,rv,pl,hlt⟩:=lQ I hq
 have hn:its.toArray.size=ns.length:=by have l:=rv.length; rw [P0] at l; simp [l]
 refine call_sum_walkG (V6 pl ?_)
 have hh:X.A.in1.handled=none:=I.ok.hd hc
 refine ⟨_,_,_,_,_,_,λi=>ns.getD i 0,rfl,Walks.list hh s.heap.objs.size p (Qu hlt) its.toArray,⟨⟨_,Qd _ rfl,rfl,rfl⟩,pl.at λo e=>PY _ e⟩,?_,gv rv,?_⟩
 ·intro b hb
  show b<(s.heap.push _).objs.size
  rw [RC]
  simp only [P8,Q0,or_false] at hb
  rcases hb with rfl | rfl
  ·exact SA _
  ·exact UU hlt
 ·intro h' tk t' hk
  rw [hn,v8 ns _ (PU _),QW]
  have J:=nK (s:=s) (tk:=tk) I hk
  exact ⟨.int ns.sum,H,J,⟨_,rfl⟩,q⟩
section
variable {K:PN} {c:Ctx P w K mg base k N sc bk}
theorem boot_sum:bootBuiltins "sum"=some (.builtin "sum"):=by decide +kernel
theorem yp {Z:List Int->Int->Prop} (hr:∀ (p:Addr) (ns:List Int) H Q,f7 K H p (ns.map V.int)->(∀ m,Z ns m->Q (.int m) H)->ns≠[]->r [.ref p] H Q) :
 Ax K r (λds R=>∃ ns:List Int,ns≠[]/\ds=[.lst (ns.map D.int)]/\∀ m,Z ns m->R (.int m)):=by
 rintro ds vs H Hf Q R s rs ⟨ns,hne,rfl,hR⟩ q
 obtain ⟨v,rfl,rv⟩:=qp rs
 rw [aX] at rv
 obtain ⟨a,xs,rfl,h1,h2⟩:=rv
 rw [fR h2] at h1
 exact hr a ns H Q (s.seq h1) (λm hm=>q _ _ H Hf (hR m hm) (aA.mpr rfl) (.refl s)) hne
theorem JH (hm:mg "max"=none) (h:aJ c e ρ λx=>∃ ns:List Int,ns≠[]/\x=.lst (ns.map D.int)/\∀ m,(m∈ns/\∀ n∈ns,n<=m)->R (.int m)) (hg:sc.names.lookup (PM "max")=some .globalImplicit:=by walk_at "u")
 (he:∀ env,starEach [e] env=(false,eval e env)::starEach [] env:=by intro _; walk_at "u"):aJ c (.Call (.Name "max" p) [e] [] pos) ρ R :=
 ve (ym c.calm) (yp (Z:=λns m=>m∈ns/\∀ n∈ns,n<=m) λp ns H Q h q hne=>⟨p,ns,rfl,hne,h,λm h1 h2=>q m ⟨h1,h2⟩⟩) hm boot_max
  (cV (h.imp λd ⟨ns,hne,e,hR⟩=>kR ⟨ns,hne,by rw [e],hR⟩) he) hg (by decide) (by decide) he (by intro _; walk_at "u")
theorem JI (hm:mg "sum"=none) (h:aJ c e ρ λx=>∃ ns:List Int,x=.lst (ns.map D.int)/\R (.int ns.sum)) (hg:sc.names.lookup (PM "sum")=some .globalImplicit:=by walk_at "u")
 (he:∀ env,starEach [e] env=(false,eval e env)::starEach [] env:=by intro _; walk_at "u"):aJ c (.Call (.Name "sum" p) [e] [] pos) ρ R :=
 ve (yo c.calm) (q:=λds R=>∃ ns:List Int,ds=[.lst (ns.map D.int)]/\R (.int ns.sum)) (by
  rintro ds vs H Hf Q R s rs ⟨ns,rfl,hR⟩ q
  obtain ⟨v,rfl,rv⟩:=qp rs
  rw [aX] at rv
  obtain ⟨a,xs,rfl,h1,h2⟩:=rv
  rw [fR h2] at h1
  exact ⟨a,ns,rfl,s.seq h1,q _ _ H Hf hR (aA.mpr rfl) (.refl s)⟩) hm boot_sum (cV (h.imp λd ⟨ns,e,hR⟩=>kR ⟨ns,by rw [e],hR⟩) he) hg (by decide) (by decide) he (by intro _; walk_at "u")
end
section
variable {prog:Program} {w:World} {A:Around} {E:Value->Shared->Prop} {s:Shared}
variable {jt tp:Addr} {i:Nat} {items:Array Value}
theorem nextT (hh:A.handled=none) (h1:s.heap.IsTupleIter jt tp i) (h2:s.heap.IsTuple tp items)
 (hv:∀ v,items[i]?=some v->∀ h',h'.IsTupleIter jt tp (i+1)->Rk jt s.heap h'->Q v { s with heap:=h' })
 (hn:items[i]?=none->∀ h' e,R3 jt s.heap h'->(∃ o,h'.get? e=some o/\o.cls=.type "StopIteration")->E (.ref e) { s with heap:=h' }) :
 wpAny (model prog w) A (Rw (.ref jt)) Q E s:=by
 obtain ⟨ob,hob,hcb,hdb⟩:=id h1
 obtain ⟨ot,hot,_,m,hdt⟩:=id h2
 unfold Rw
 refine PK (Rx (name:=PM "__next__") h1.typeIs F.slot_tuple_iterator_next (Ra F.slot_tuple_iterator_next h1.typeIs F.entry_tuple_iterator_next ?_ (F.args_tuple_iterator_next_1 _)))
 show wpAny _ _ (field (.ref jt) 0 >>= _) _ _ s
 refine PK (QK hob hdb (x:=.ref tp) rfl ?_)
 show wpAny _ _ (if (Qk tp == QG)=true then _ else _) _ _ s
 rw [if_neg (show ¬ ((Qk tp == QG)=true) from P5)]
 show wpAny _ _ (field (.ref jt) 1 >>= _) _ _ s
 refine PK (QK hob hdb (x:=.int i 0) rfl ?_)
 show wpAny _ _ (seqItems? (.ref tp) >>= _) _ _ s
 refine PK (RP hot hdt ?_)
 rw [QV]
 dsimp only
 cases hx:items[i]? with
 | some v =>
  have q:=hv v hx (s.heap.update jt (Obj.mapFields λvs=>vs.setIfInBounds 1 (rawInt ((i:Int)+1)))) ⟨_,VR _ hob (VQ (Tj hdb _)),(Wa ..).trans hcb,by rw [Tj hdb]; simp [rawInt]⟩ (Sx ..)
  dsimp only
  exact PK (SI hob hdb (by simp) (PR ⟨v,rfl,PR q⟩))
 | none =>
  dsimp only
  refine PK (Q8 (PK (SI hob hdb (by simp) (show wpAny _ _ (newExc (.type "StopIteration") [] >>= _) _ _ _ from PK ?_))))
  simp only [newExc,newTuple]
  refine PK (QZ (PK (m:=firstArgMember _ _) (Vr (a:=QG) (by first | rfl | (simp only [firstArgMember]; rfl)) (QZ ?_ (by size_fits)))) (by size_fits))
  simp only [raiseNew]
  refine PK (Vh ?_)
  rw [show A.in1.handled=none from hh]
  exact PK (PR (Vq (hn hx _ _ (((Sx ..).extBut.push _).push _) ⟨_,Qd _ rfl,rfl⟩)))
theorem JJ (hh:A.handled=none) (jt tp:Addr) (hne:tp≠jt) (items:Array Value) :
 Draws prog w A jt [jt,tp] items.size (λi v=>items[i]?=some v) (λi h=>h.IsTupleIter jt tp i/\h.IsTuple tp items) where
 live:=λ_ _ ⟨⟨o,ho,_⟩,_⟩=>⟨o,ho⟩
 frame:=λ_ _ _ ⟨⟨o,e,r⟩,⟨o',e',r'⟩⟩ hk=>⟨⟨o,hk jt (by simp) o e,r⟩,o',hk tp (by simp) o' e',r'⟩
 item:=λi s Q E hi ⟨s1,s2⟩ q=>nextT hh s1 s2 (λv hv h' a b=>q v h' s.toks hv ⟨a,s2.extBut b.extBut hne⟩ b) λhx=>by
  rw [Qt hi] at hx; cases hx
 done:=λs Q E ⟨s1,s2⟩ q=>nextT hh s1 s2 (λv hv=>by simp at hv) λ_=>q
end
set_option maxHeartbeats 1000000 in
theorem ri (tp) (items) (n) (dc) (sl) :
 Meets (Builtin.«enumerate.__new__» ⟨[.type "enumerate",.ref tp],[]⟩) (λ_ R s=>s.heap.get? tp=some { cls:=.type "tuple",dict:=dc,data:=.seq items n,slots:=sl } /\
  R (.ok (.ret (.ref (s.heap.push { cls:=.type "tuple_iterator",data:=.fields #[.ref tp,.int 0 0] }).objs.size)))
   { s with heap:=(s.heap.push { cls:=.type "tuple_iterator",data:=.fields #[.ref tp,.int 0 0] }).push { cls:=.type "enumerate",data:=.fields #[.none,.bool false,.ref s.heap.objs.size,rawInt 0,.none,.none] } }) :=
 .of_wp λprog w A R ⟨hp,g,d,tk,os⟩ ⟨hl,h⟩=>by
  have hz:=sub_enumerate
  have hT:Heap.IsTuple (Shared.heap ⟨hp,g,d,tk,os⟩) tp items:=⟨_,hl,rfl,n,rfl⟩
  wp_walk using UG hl
  refine wpAny_stack_any λst=>PR ?_
  split
  ·rename_i k _ _ _ _ _
   cases (k == Rg "enumerate") <;> (wp_walk using UG hl,VY hT; exact ⟨_,rfl,h⟩)
  ·wp_walk using UG hl,VY hT; exact ⟨_,rfl,h⟩
theorem tT (hT:s.heap.IsTuple tp items)
 (h:∀ h',IsEnum h' (s.heap.objs.size+1) s.heap.objs.size 0 .none->h'.IsTupleIter s.heap.objs.size tp 0->(∀ b o,s.heap.get? b=some o->h'.get? b=some o)->Q (.ref (s.heap.objs.size+1)) { s with heap:=h' }) :
 wpAny (model prog w) A (call (.type "enumerate") [.ref tp]) Q E s:=by
 obtain ⟨⟨c,dc,dt,sl⟩,hl,hc,n,hd⟩:=hT
 obtain rfl:c=.type "tuple":=hc
 obtain rfl:dt=.seq items n:=hd
 refine callType_new F.called_enumerate (by decide) (F.typeCall_enumerate_1 _) (F.newCall_enumerate_1 _) (λob=>F.args_object_init_2 ob _) F.entry_enumerate_new (ri tp items n dc sl) ⟨hl,?_⟩
 generalize e1:s.heap.push { cls:=.type "tuple_iterator",data:=.fields #[.ref tp,.int 0 0] }=g1
 have hz:g1.objs.size=s.heap.objs.size+1:=by rw [<- e1]; exact RC ..
 have hi:g1.get? s.heap.objs.size=some { cls:=.type "tuple_iterator",data:=.fields #[.ref tp,.int 0 0] }:=by rw [<- e1]; exact Qd _ rfl
 have hb:∀ b o,s.heap.get? b=some o->g1.get? b=some o:=λb o q=>by rw [<- e1]; exact PY _ q
 have he:IsEnum (g1.push { cls:=.type "enumerate",data:=.fields #[.none,.bool false,.ref s.heap.objs.size,rawInt 0,.none,.none] }) g1.objs.size s.heap.objs.size 0 .none:=Qd _ rfl
 rw [hz] at he
 show _/\_
 rw [hz]
 exact ⟨⟨_,he,rfl⟩,h _ he ⟨_,PY _ hi,rfl,rfl⟩ λb o q=>PY _ (hb b o q)⟩
noncomputable def lR (ds:List D):List D:=ds.zipIdx.map λx=>D.tup [.int x.2,x.1]
noncomputable def OQ (K:PN) (t:Addr):It :=
 ⟨λi H=>∃ xs x,cU K H t xs/\xs[i]?=some x,
  λi H v H'=>∃ p x,v=.ref p/\H p=none/\H'=upd H p (.tup [.int (i:Nat),x])/\∀ xs,cU K H t xs->xs[i]?=some x,
  λi H=>∃ xs,cU K H t xs/\xs.length<=i⟩
theorem Fg (I:Inv X aa σ H s) (h1:cU X.K H a xs) (h2:cU X.K H a ys):xs=ys:=I.gK h1 h2
theorem BK {prog:Program} {w:World} {A:Around} (hh:A.handled=none) (j t:Addr) (items:Array Value) (i:Nat) (hx:items[i]?=none) :
 Draws prog w A j [j,t] i (λ_ _=>False) (λk h=>k=i/\h.IsTupleIter j t i/\h.IsTuple t items) where
 live:=λ_ _ ⟨_,⟨o,ho,_⟩,_⟩=>⟨o,ho⟩
 frame:=λ_ _ _ ⟨ek,⟨o,e,r⟩,⟨o',e',r'⟩⟩ hk=>⟨ek,⟨o,hk j (by simp) o e,r⟩,o',hk t (by simp) o' e',r'⟩
 item:=λk s Q E hi ⟨ek,_⟩ _=>absurd ek (Qu hi)
 done:=λs Q E ⟨_,s1,s2⟩ q=>nextT hh s1 s2 (λv hv=>by rw [hx] at hv; cases hv) λ_=>q
theorem yq {P:Program} {w:World} {K:PN} {elts:List Expr} {k:Nat} {pos:Pos} {e j t:Addr} (hne:e≠j) :
 Turn P w K (.Tuple elts k pos) (OQ K t) [e,j] e (λi h=>(∃ old,IsEnum h e j i old)/\h.IsTupleIter j t i) where
 mem:=by simp
 obj:=λi h ⟨⟨old,he⟩,⟨o1,e1,_,d1⟩⟩ b hb=>by
  simp only [P8,Q0,or_false] at hb
  rcases hb with rfl | rfl
  ·exact ⟨_,he,λv q=>by have q':Ul _=SY v:=q; cases q'⟩
  ·exact ⟨_,e1,λv q=>by rw [d1] at q; cases q⟩
 keep:=λi h h' ⟨⟨old,he⟩,⟨o1,e1,r1⟩⟩ hk=>⟨⟨old,hk e (by simp) _ he⟩,⟨o1,hk j (by simp) _ e1,r1⟩⟩
 item:=by
  intro X hP hw hK hc i aa s σ H E I hf st hg
  subst hP hw hK
  obtain ⟨⟨old,he⟩,hj⟩:=st
  obtain ⟨xs,x,q1,hx⟩:=hg
  obtain ⟨its,rv,p1,z1⟩:=I.tuple q1
  obtain ⟨u,hu,ru⟩:=rv.get hx
  have pT:s.heap.IsTuple t its.toArray:=by obtain ⟨o,ho,hc',n,hd⟩:=p1; exact ⟨o,ho,hc',n,hd⟩
  have hjt:t≠j:=by
   obtain ⟨o,ho,hc',n,hd⟩:=pT
   obtain ⟨o',ho',hc'',_⟩:=hj
   rintro rfl
   rw [ho] at ho'; cases ho'
   rw [hc'] at hc''; exact absurd hc'' (by simp)
  have het:e≠t:=by
   obtain ⟨o,ho,hc',n,hd⟩:=pT
   rintro rfl
   rw [he] at ho; cases ho
   exact absurd hc' (by simp)
  have hi:i<its.toArray.size:=by
   have:i<its.length:=(Qa.mp hu).1
   simpa using this
  have hh:X.A.in1.handled=none:=I.ok.hd hc
  refine wpAny_pyNext_enum_itemD (JJ hh j t hjt its.toArray) he ⟨hj,pT⟩ hi hne (by simp; exact ⟨hne,het⟩) λx' h' tk hPx a1 a2 a3 a4 hk=>?_
  have ex:x'=u:=by
   have:its[i]?=some x':=by simpa using hPx
   rw [hu] at this; cases this; rfl
  subst ex
  have Hp:H s.heap.objs.size=none:=I.hok.fresh (PU _)
  have IA:Inv X aa σ (upd H s.heap.objs.size (.tup [.int (i:Nat),x])) { s with heap:=s.heap.push { cls:=.type "tuple",data:=.seq #[.int (i:Nat) tk,x'] },toks:=tk+1 } :=
   I.laid (a:=s.heap.objs.size) (o:=.tup [.int (i:Nat),x]) (λ_ _ q=>PY _ q) (PU _) ⟨by show 2<=sizeLine; decide,[.int (i:Nat) tk,x'],.cons ⟨tk,rfl⟩ (.cons ru .nil),_,Qd _ rfl,rfl,0,rfl⟩
  have lt:∀ b∈[e,j],b<s.heap.objs.size:=λb hb=>by
   obtain ⟨o1,e1,_⟩:=hj
   simp only [P8,Q0,or_false] at hb
   rcases hb with rfl | rfl
   ·exact P1 he
   ·exact P1 e1
  have gf:∀ b∈[e,j],eO X aa (upd H s.heap.objs.size (.tup [.int (i:Nat),x])) b:=λb hb=>⟨by rw [ak (Qu (lt b hb))]; exact (hf b hb).1,(hf b hb).2⟩
  have I1:Inv X aa σ (upd H s.heap.objs.size (.tup [.int (i:Nat),x])) { s with heap:=h',toks:=tk+1 } :=
   gU (s:={ s with heap:=s.heap.push { cls:=.type "tuple",data:=.seq #[.int (i:Nat) tk,x'] },toks:=tk+1 }) (t':=tk+1) (h':=h') (L:=[e,j]) IA (λb o hb q=>by
    simp only [P8,Q0,or_false,not_or] at hb
    by_cases z:b=s.heap.objs.size
    ·subst z
     rw [Qd _ rfl] at q; cases q; exact a3
    ·refine hk b o hb.1 hb.2 ?_
     rw [Wd _ _ _ z] at q; exact q) gf
  refine ⟨_,rfl,wpAny_letOwnedTupleGo_enum (s:={ s with heap:=h',toks:=tk+1 }) a1 λh2' hz' hs'=>?_⟩
  refine ⟨.ref s.heap.objs.size,_,gU (s:={ s with heap:=h',toks:=tk+1 }) (t':=tk+1) (h':=h2') (L:=[e,j]) I1 (λb o hb q=>hs'.extBut b o (λz=>hb (by simp [z])) q) gf,rfl,
   ⟨_,x,rfl,Hp,rfl,λxs' h=>by rw [Fg I h q1]; exact hx⟩,⟨⟨x',?_⟩,a2.1.extBut hs'.extBut (Qp hne)⟩,λb hb=>(gf b hb).1⟩
  have hz2:=hz'
  rw [show ((i:Int)+1)=((i+1:Nat):Int) by lia] at hz2
  exact hz2
 done:=by
  intro X hP hw hK hc i aa s σ H E I hf st hg
  subst hP hw hK
  obtain ⟨⟨old,he⟩,hj⟩:=st
  obtain ⟨xs,q1,hend⟩:=hg
  obtain ⟨its,rv,p1,z1⟩:=I.tuple q1
  have pT:s.heap.IsTuple t its.toArray:=by obtain ⟨o,ho,hc',n,hd⟩:=p1; exact ⟨o,ho,hc',n,hd⟩
  have hl:=rv.length
  have hx:its.toArray[i]?=none:=by simp; lia
  have hh:X.A.in1.handled=none:=I.ok.hd hc
  exact wpAny_pyNext_enum_endD (BK hh j t its.toArray i hx) he ⟨rfl,hj,pT⟩ λh' hk=>⟨rfl,gU (t':=s.toks) (L:=[e,j]) I (λb o hb q=>hk b o (λz=>hb (by simp [z])) q) hf⟩
 self:=λA i s Q E ⟨⟨old,he⟩,_⟩ h=>wpAny_pyIter_enum he h
theorem yr {K:PN} {Hf:Hp} {ds:List D} {xs:List V} {t:Addr} (h1:cU K Hf t xs) (r1:aq K Hf ds xs):iT K (OQ K t) (lR ds) Hf where
 go:=λi d H aM s1 s2 e=>by
  unfold lR at e
  rw [P6,Qc] at e
  obtain ⟨⟨x,m⟩,ex,rfl⟩:=e
  rw [List.getElem?_zipIdx,Qc] at ex
  obtain ⟨x',ex,ee⟩:=ex
  cases ee
  obtain ⟨v1,f1,g1⟩:=r1.get ex
  have q1:=av (s1.trans s2) h1
  refine ⟨⟨xs,v1,q1,f1⟩,λv H' ⟨p,y,e1,e2,e3,e4⟩=>?_⟩
  have z1:=e4 xs q1
  rw [f1] at z1; cases z1
  subst e1 e3
  have g:=aY.new s2 e2 (o:=.tup [.int (i:Nat),v1])
  rw [Se]
  exact ⟨upd aM p (.tup [.int (i:Nat),v1]),g,aH.mpr ⟨p,_,rfl,.inl (.inl ai),.cons (aA.mpr rfl) (.cons (Rep.mono (s1.trans g.f) _ g1) (aC.mpr rfl))⟩⟩
 stop:=λi H aM s1 s2 e=>⟨xs,av (s1.trans s2) h1,by
  rw [<- r1.length]
  simpa [lR] using e⟩
theorem yt:bootBuiltins "enumerate"=some (.type "enumerate"):=by decide +kernel
noncomputable def MH (K:PN) (ta:TA):TI:=λσ H R=>ta σ H λvs H1=>∃ t xs,vs=[.ref t]/\cU K H1 t xs/\R (OQ K t) H1
theorem Fi (hg:Gl X "enumerate") (hm:X.mg "enumerate"=none) (ha:PA X [a] ta) (hs:starEach [a] X.env=[(false,eval a X.env)]) :
 PI X (.Tuple elts kt tpos) (.Call (.Name "enumerate" p) [a] [] pos) (MH X.K ta):=by
 intro aa s σ H R I h
 refine Call_ (dz I hg hm yt (S6 (bz (ha pos aa s σ H _ I h) λus s1 ⟨vs,H1,I1,r1,q1⟩=>?_) hs (by rfl)))
 obtain ⟨t,xs,e,q1,q⟩:=q1
 subst e
 obtain ⟨u,rfl,rx⟩:=vals1 r1
 cases rx
 obtain ⟨its,rv,p1,z1⟩:=I1.tuple q1
 have pT:s1.heap.IsTuple t its.toArray:=by obtain ⟨o,ho,hc',n,hd⟩:=p1; exact ⟨o,ho,hc',n,hd⟩
 refine tT pT λh' a1 a2 hk=>wpAny_pyIter_enum a1 ?_
 refine ⟨s1.heap.objs.size+1,[s1.heap.objs.size+1,s1.heap.objs.size],_,_,H1,rfl,I1.kept (t':=s1.toks) hk,yq (Sf (SA _)),⟨⟨.none,a1⟩,a2⟩,λb hb=>?_,q⟩
 have hb':s1.heap.objs.size<=b:=by
  simp only [P8,Q0,or_false] at hb
  rcases hb with rfl | rfl
  ·exact RO _ _
  ·exact PU _
 exact I1.kG hb' (I1.hok.fresh hb')
section
variable {K:PN} {c:Ctx P w K mg base k N sc bk}
theorem JK (hm:mg "enumerate"=none) (h:aJ c a ρ λx=>∃ ds,x=.tup ds/\R (lR ds)) (hg:sc.names.lookup (PM "enumerate")=some .globalImplicit:=by walk_at "u")
 (hs:∀ env,starEach [a] env=(false,eval a env)::starEach [] env:=by intro _; walk_at "u"):xU c (.Tuple elts kt tpos) (.Call (.Name "enumerate" p) [a] [] pos) ρ R:=λσ H Hf Q S q aa s I =>
 Fi (by unfold Gl Qx; rw [c.esc]; exact hg) (by rw [c.emg]; exact hm) (bF cQ cL (hs _)) (by rw [hs]; rfl) aa s σ H Q I
  (h σ H Hf _ S λx v1 H1 aM ⟨ds,e1,hR⟩ r1 g1=>by
    subst e1
    rw [aH] at r1
    obtain ⟨t,xs,rfl,s1,t1⟩:=r1
    exact ⟨t,xs,rfl,av g1.b s1,q _ _ H1 aM hR g1 (yr s1 t1)⟩)
end
noncomputable def JL (lo:Int) (n:Nat):It:=⟨λi _=>i<n,λi H x H'=>H'=H/\x=.int (lo - i),λi _=>n<=i⟩
noncomputable def BL (lo:Int) (n:Nat):List D:=(QC n).map λ(i:Nat)=>D.int (lo - (i:Int))
theorem yu {P:Program} {w:World} {K:PN} {tg:Expr} (j:Addr) (lo:Int) (n:Nat):Turn P w K tg (JL lo n) [j] j (λi h=>IsRangeIter h j (lo+(i:Nat) * -1) ((n:Int) - (i:Nat)) (-1)) where
 mem:=Qg.mpr rfl
 obj:=λi h st b hb=>by
  obtain rfl:b=j:=Qg.mp hb
  exact ⟨_,st,λv z=>by have q:Ul _=SY v:=z; cases q⟩
 keep:=λi h h' st k=>k j (Qg.mpr rfl) _ st
 item:=by
  intro X hP hw hK hc i aa s σ H E I hf st hg
  subst hP hw hK
  obtain ⟨f0,f1,f2,f3,f4,f5⟩:=hf j (Qg.mpr rfl)
  have W:=Walks.range (prog:=X.prog) (w:=X.w) (I.ok.hd hc) j lo (-1) n
  refine W.item i s _ _ hg st λv h' tk hv st' kk=>?_
  obtain ⟨t,rfl⟩:=hv
  have I1:Inv X aa σ H { s with heap:=h',toks:=tk }:=I.turned (λb o hb e=>kk b o (by simpa using hb) e) f0 f1 f3 f4 f5
  have e:lo+(i:Int) * -1=lo - i:=by lia
  exact ⟨_,rfl,mR (s:={ s with heap:=h',toks:=tk }) (n:="range_iterator") st' rfl rfl (by decide) ⟨.int (lo - i),H,I1,⟨t,by rw [e]⟩,⟨rfl,rfl⟩,st',λb hb=>(hf b hb).1⟩⟩
 done:=by
  intro X hP hw hK hc i aa s σ H E I hf st hg
  subst hP hw hK
  obtain ⟨f0,f1,f2,f3,f4,f5⟩:=hf j (Qg.mpr rfl)
  exact wpAny_pyNext_range_end (I.ok.hd hc) st (by have:n<=i:=hg; lia) λh' eb=>⟨rfl,I.turned (t':=s.toks) (λb o hb e=>eb b o hb e) f0 f1 f3 f4 f5⟩
 self:=λ_ _ _ _ _ st h=>wpAny_pyIter_rangeiter st h
theorem lT {lo hi:Int}:UH lo hi (-1)=((lo - hi).toNat:Int):=by
 unfold UH
 rw [if_neg (by decide)]
 split
 ·rw [show - (-1:Int)=1 by decide,Int.ediv_one]; lia
 ·lia
theorem small_down (ha: -(2 ^ 62)<=a) (ha':a<2 ^ 62) (hb: -(2 ^ 62)<=b) (hb':b<2 ^ 62):Builtin.Range.small a b (-1)=true:=by
 unfold Builtin.Range.small
 rw [lT]
 simp only [Builtin.Range.rangeFitsLong,SD,Bool.or_eq_true,decide_eq_true_eq,beq_iff_eq,show ¬ (-1:Int)>0 by decide,if_false]
 lia
noncomputable def MI (ta:TA):TI:=λσ H R=>ta σ H λvs H1=>∃ i j:Int,vs=[.int i,.int j,.int (-1)]/\(-(2 ^ 62)<=i/\i<2 ^ 62/\ -(2 ^ 62)<=j/\j<2 ^ 62)/\R (JL i (i - j).toNat) H1
theorem Fj (hg:Gl X "range") (hm:X.mg "range"=none) (ha:PA X [a,b,c] ta) (hs:starEach [a,b,c] X.env=[(false,eval a X.env),(false,eval b X.env),(false,eval c X.env)])
 (hs2:starEach [b,c] X.env=[(false,eval b X.env),(false,eval c X.env)]):PI X tg (.Call (.Name "range" p) [a,b,c] [] pos) (MI ta):=by
 intro aa s σ H R I h
 refine Call_ (dz I hg hm boot_range (S6 (bz (ha pos aa s σ H _ I h) λus s1 ⟨vs,H1,I1,r1,q1⟩=>?_) (by rw [hs,hs2]) (by rw [hs2]; rfl)))
 obtain ⟨i,j,e,⟨q1,q2,q3,q4⟩,q⟩:=q1
 subst e
 cases r1 with
 | cons r rr=>cases rr with
  | cons r' rr=>cases rr with
   | cons r'' rr =>
    cases rr
    obtain ⟨t,rfl⟩:=r
    obtain ⟨t',rfl⟩:=r'
    obtain ⟨t'',rfl⟩:=r''
    refine call_range_3 (by decide) ?_ (.inl (PyProof.noPylong_of_log2 (by decide +kernel)))
    refine wpAny_pyIter_range (IsRange.new ..) (small_down q1 q2 q3 q4) ?_
    have I2:Inv X aa σ H1 { s1 with heap:=s1.heap.push { cls:=.type "range",data:=.fields #[.int i t,.int j t',.int (-1) t''] },toks:=s1.toks }:=I1.kept λb o e=>PY _ e
    generalize s1.heap.push { cls:=.type "range",data:=.fields #[.int i t,.int j t',.int (-1) t''] }=g at I2 |-
    refine ⟨g.objs.size,[g.objs.size],_,_,H1,rfl,I2.kept (t':=s1.toks) λb o e=>PY _ e,yu _ i (i - j).toNat,?_,λb hb=>?_,q⟩
    ·show IsRangeIter _ _ (i+((0:Nat):Int) * -1) ((((i - j).toNat:Nat):Int) - ((0:Nat):Int)) (-1)
     rw [show i+((0:Nat):Int) * -1=i by simp,show (((i - j).toNat:Nat):Int) - ((0:Nat):Int)=UH i j (-1) by rw [lT]; lia]
     exact Qd _ rfl
    ·obtain rfl:b=g.objs.size:=Qg.mp hb
     exact I2.kG (PU _) (I2.hok.fresh (PU _))
theorem BN {K:PN} {lo:Int} {n:Nat} {dR:Hp}:iT K (JL lo n) (BL lo n) dR where
 go:=λi d H Hf s1 s2 e=>by
  unfold BL at e
  rw [P6] at e
  obtain ⟨j,e1,e2⟩:=Qc.mp e
  have hi:i<n:=by simpa using (Qa.mp e1).1
  have:j=i:=by rw [Sw hi] at e1; cases e1; rfl
  subst this
  refine ⟨hi,λx H' ⟨e3,e4⟩=>?_⟩
  subst e3 e4 e2
  exact ⟨Hf,.refl s2,aA.mpr rfl⟩
 stop:=λi H Hf s1 s2 e=>show n<=i by simpa [BL] using e
section
variable {K:PN} {c:Ctx P w K mg base k N sc bk}
theorem JM (hm:mg "range"=none) (h:aJ c a ρ λx=>aJ c b ρ λy=>aJ c e ρ λz=>∃ i j:Int,x=.int i/\y=.int j/\z=.int (-1)/\Sd (AR i) (Sd (AR j) (R (BL i (i - j).toNat))))
 (hg:sc.names.lookup (PM "range")=some .globalImplicit:=by walk_at "u")
 (hs:∀ env,starEach [a,b,e] env=(false,eval a env)::starEach [b,e] env:=by intro _; walk_at "u") (hs2:∀ env,starEach [b,e] env=(false,eval b env)::starEach [e] env:=by intro _; walk_at "u")
 (hs3:∀ env,starEach [e] env=(false,eval e env)::starEach [] env:=by intro _; walk_at "u"):xU c tg (.Call (.Name "range" p) [a,b,e] [] pos) ρ R:=λσ H Hf Q S q aa s I =>
 Fj (by unfold Gl Qx; rw [c.esc]; exact hg) (by rw [c.emg]; exact hm) (bF cQ (bF cQ (bF cQ cL (hs3 _)) (hs2 _)) (hs _)) (by rw [hs,hs2,hs3]; rfl) (by rw [hs2,hs3]; rfl) aa s σ H Q I
  (h σ H Hf _ S λx v1 H1 aM h1 r1 g1=>h1 σ H1 aM _ (S.cA g1) λy v2 H2 cD h2 r2 g2=>h2 σ H2 cD _ (S.cA (g1.trans g2)) λz v3 H3 Hf3 ⟨i,j,e1,e2,e3,⟨hi,⟨hj,hR⟩⟩⟩ r3 g3=>by
    subst e1 e2 e3; rw [aA] at r1 r2 r3; subst r1 r2 r3
    exact ⟨i,j,rfl,⟨hi.1,hi.2,hj.1,hj.2⟩,q _ _ H3 Hf3 hR ((g1.trans g2).trans g3) BN⟩)
end
noncomputable abbrev ltI (x y:Int):Bool:=decide (x<y)
noncomputable def Pa (d:Addr) (o:Obj) (ys:List (Key×V)):It :=
 ⟨λi H=>H d=some (.frz o (.dK ys))/\i<ys.length,λi H x H'=>H'=H/\∃ y,ys[i]?=some y/\x=kV y.1,λi H=>H d=some (.frz o (.dK ys))/\ys.length<=i⟩
theorem oW (I:Inv X aa σ H s) (hH:H d=some (.frz o (.dK ys))):∃ (vs:List (Key×Value)) (es:Array DictEntry) (ep:Nat),o.data=.dict es ep/\KV ys vs/\s.heap.DictAt (b9 X.prog X.w) d vs ep/\(d == sysModules)=false/\ys.length<=sizeLine:=by
 obtain ⟨ho,ok⟩:=(show bq X.prog X.w H s.heap d (.frz o (.dK ys)) from I.hok d _ hH)
 obtain ⟨z,y,vs,kv,o',es,ep,h1,h2,h3,h4,h5,h6⟩:=ok
 rw [ho] at h1; cases h1
 exact ⟨vs,es,ep,h3,kv,⟨o,es,ho,h2,h3,h4,h5,h6⟩,y,z⟩
theorem yv {P:Program} {w:World} {K:PN} {tg:Expr} {d j:Addr} {o:Obj} {ys:List (Key×V)} {es:Array DictEntry} {ep:Nat} (hod:o.data=.dict es ep):Turn P w K tg (Pa d o ys) [j] j (λi h=>h.IsKeyIter j d i ys.length ep) where
 mem:=Qg.mpr rfl
 obj:=λi h ⟨q,e,_,hd⟩ b hb=>by
  obtain rfl:b=j:=Qg.mp hb
  exact ⟨_,e,λv z=>by rw [hd] at z; cases z⟩
 keep:=λi h h' ⟨q,e,r⟩ k=>⟨q,k j (Qg.mpr rfl) _ e,r⟩
 item:=by
  intro X hP hw hK hc i aa s σ H E I hf st hg
  subst hP hw hK
  obtain ⟨f0,f1,f2,f3,f4,f5⟩:=hf j (Qg.mpr rfl)
  obtain ⟨hH,hi⟩:=hg
  obtain ⟨vs,es',ep',e1,kv,da,_⟩:=oW I hH
  rw [hod] at e1; cases e1
  have hl:ys.length=vs.length:=Rl kv
  obtain ⟨⟨ky,v⟩,hv,r1,r2⟩:=dF kv (Qo hi)
  rw [hl] at st
  refine wpAny_pyNext_dict_item st da hv λkey h' hkey hit' hs'=>?_
  have I1:Inv X aa σ H { s with heap:=h',toks:=s.toks }:=I.turned (λb o hb e=>hs'.extBut b o hb e) f0 f1 f3 f4 f5
  obtain ⟨q,e,qc,qd⟩:=id hit'
  rw [<- hl] at hit'
  exact ⟨_,rfl,mR (s:={ s with heap:=h',toks:=s.toks }) (n:="dict_keyiterator") e qc qd (by decide) ⟨kV ky,H,I1,vH hkey,⟨rfl,_,Qo hi,by rw [r1]⟩,hit',λb hb=>(hf b hb).1⟩⟩
 done:=by
  intro X hP hw hK hc i aa s σ H E I hf st hg
  subst hP hw hK
  obtain ⟨f0,f1,f2,f3,f4,f5⟩:=hf j (Qg.mpr rfl)
  obtain ⟨hH,hi⟩:=hg
  obtain ⟨vs,es',ep',e1,kv,da,_⟩:=oW I hH
  rw [hod] at e1; cases e1
  have hl:ys.length=vs.length:=Rl kv
  rw [hl] at st
  exact wpAny_pyNext_dict_end (I.ok.hd hc) st da (RG (by lia)) λh' eb=>⟨rfl,I.turned (t':=s.toks) (λb o hb e=>eb b o hb e) f0 f1 f3 f4 f5⟩
 self:=λ_ _ _ _ _ st h=>wpAny_pyIter_keyiter st h
theorem yw {K:PN} {Hf:Hp} {d:Addr} {o:Obj} {ys:List (Key×V)} {ns:List Int} (hH:Hf d=some (.frz o (.dK ys))) (hk:ys.map (·.1)=ns.map Ql):iT K (Pa d o ys) (ns.map D.int) Hf where
 go:=λi x H aM s1 s2 e=>by
  rw [P6,Qc] at e
  obtain ⟨n,hn,rfl⟩:=e
  have hq:=congrArg (λl=>l[i]?) hk
  simp only [P6,hn,Option.map_some] at hq
  obtain ⟨y,hy,ey⟩:=Qc.mp hq
  refine ⟨⟨s2 _ _ (s1 _ _ hH),(Qa.mp hy).1⟩,λv H' ⟨e1,y',e2,e3⟩=>?_⟩
  rw [hy] at e2; cases e2
  subst e1 e3
  exact ⟨aM,.refl s2,by rw [ey]; exact aA.mpr rfl⟩
 stop:=λi H aM s1 s2 e=>⟨s2 _ _ (s1 _ _ hH),by
  have:=congrArg Si hk
  simp only [P0] at this e
  lia⟩
theorem nL (hT:s.TypeIs (.ref v) "dict") (hQ:Q false s):wpAny (model prog w) A (S9 (.ref v)) Q E s:=by
 unfold S9
 refine PK (wpAny_specialOf hT PySem.F.slot_dict_len.lookup ?_)
 have e:splitId "dict.__len__"=some ("dict","__len__"):=by decide +kernel
 dsimp only
 rw [e]
 dsimp only
 refine PK (T4 (b:=true) hT (by rw [isSubtype_type]; kernel_rfl) ?_)
 rw [if_neg (by decide)]
 exact PK (Sb hT (PR hQ))
section
variable {X:Cx} {aa:List (Addr×Obj)} {σ:L2.St} {H Hf:Hp} {s:Shared} {E:Value->Shared->Prop}
theorem rm {K:PN}:∀ {L:List Int} {us:List Value},Paired (λx u=>jZ K Hf (D.int x) u) L us->IntsAre us L
 | _,_,.nil=>.nil
 | _,_,.cons ⟨x,r1,h1⟩ t=>by
  rw [aA] at h1; subst h1
  obtain ⟨tk,rfl⟩:=r1
  exact .cons _ _ (rm t)
theorem Fl:MD X D.int ltI oneType' where
 lin:=λL=>⟨λx _=>by simp,λx _ y _ z _ h g=>by simp only [decide_eq_true_eq] at *; lia,λx _ y _ h=>by simp only [decide_eq_true_eq]; lia⟩
 inj:=λ_ _ _ _ _ _ _ x y u ⟨v,r1,h1⟩ ⟨v',r2,h2⟩=>by
  rw [aA] at h1 h2; subst h1 h2
  obtain ⟨t,rfl⟩:=r1
  obtain ⟨t',e⟩:=r2
  cases e; rfl
 kind:=λ_ _ _ _ _ _ _ _ _ L us p h2 Q hQ=>by
  rw [ksk_kind (kz:=L) (rm p) (by simpa using h2)]
  exact PR hQ
 cmp:=λ_ _ _ _ _ _ _ _ _ _ x y u v ⟨a,r1,h1⟩ ⟨b,r2,h2⟩ Q hQ=>by
  rw [aA] at h1 h2; subst h1 h2
  obtain ⟨t,rfl⟩:=r1
  obtain ⟨t',rfl⟩:=r2
  rw [keyLt'_oneType]
  exact oneLt_int hQ
theorem rA (hc:X.calm=true) (I:Inv X aa σ H s) (sb:aL Hf H) (hA:X.A.units+60<cLine) (hH:Hf d=some (.frz o (.dK ys))) (hk:ys.map (·.1)=ns.map Ql) (nd:ns.Nodup)
 (hQ:∀ (L':List Int) (xs':List V) (s':Shared) (H' aj:Hp) (a:Addr),L'.Perm ns->fQ ltI b L'->aq X.K aj (L'.map D.int) xs'->aY H Hf H' aj->H' a=none->Inv X aa σ (upd H' a (.lst xs')) s'->Q (.ref a) s') :
 wpAny (model X.prog X.w) X.A (call (.builtin "sorted") [.ref d] [(PM "reverse",.bool b)]) Q E s:=by
 refine call_function_entry_kw kind_sorted plain_sorted entry_sorted (args_sorted_rev _ _) ?_
 unfold Builtin.«sorted»
 refine PK (m:=checkCount "sorted" 1 1 _) (PR ?_)
 have h1:X.A.in1.handled=none:=I.ok.hd hc
 have h2:X.A.in1.frames=some X.stack:=I.ok.frames
 obtain ⟨vs,es,ep,e1,kv,da,hs,hz⟩:=oW I (sb _ _ hH)
 have hl:ys.length=vs.length:=Rl kv
 have hn:(ns.map D.int).length=ys.length:=by have:=congrArg Si hk; simp only [P0] at this |-; lia
 refine PK (lJ (X:=E4 X X.A.in1) (H:=H) (Hf:=Hf) (ds:=ns.map D.int) (T:="dict") hc h1 h2 (jB I (λ_=>h1) h2) sb da.lt_size (by lia) (by decide) (λs' k=>(da.keep k).dictOf.typeIs) (λA s' Q E q h=>nL q h) (λA s1 H1 E I1 sb1 k1=>?_) λus s' H' aj xs I' rv rr g hz'=>?_)
 ·refine wpAny_pyIter_dict hs (da.keep k1) ?_
  refine ⟨_,_,_,rfl,PU _,I1.kept (t':=s1.toks) λb o e=>PY _ e,yv e1,⟨_,Qd _ rfl,rfl,?_⟩,λb hb=>?_,λb o e=>PY _ e,yw hH hk⟩
  ·rw [hl]; rfl
  ·obtain rfl:b=s1.heap.objs.size:=Qg.mp hb
   exact I1.kG (PU _) (I1.hok.fresh (PU _))
 ·have I2:=gr I.ok I'
  have el:=rr.length
  have el2:=rv.length
  refine By (b:=b) Fl I2 g.b ?_ rr rv (by lia) nd λL' xs' s2 p1 p2 p3 p4 I3=>hQ L' xs' s2 H' aj _ p1 p2 p3 g (I2.hok.fresh (PU _)) I3
  show X.A.units+1+20<cLine
  lia
end
section
variable {K:PN} {c:Ctx P w K mg base k N sc bk}
theorem tU (hm:mg "sorted"=none) (h:aJ c e ρ λd=>∃ (ns:List Int) (ds:List D),d=.fdK (ns.map Ql) ds/\Sd ns.Nodup (∀ L':List Int,L'.Perm ns->fQ ltI true L'->R (.ow (L'.map D.int))))
 (hg:sc.names.lookup (PM "sorted")=some .globalImplicit:=by walk_at "u")
 (he:∀ env,starEach [e] env=(false,eval e env)::starEach [] env:=by intro _; walk_at "u")
 (hpl:∀ env,(backTo pos (starEach [e] env)).any (·.1)=false:=by intro _; walk_at "u") :
 cN c (.Call (.Name "sorted" np) [e] [⟨some "reverse",.Constant (.bool true) j kp1,kp⟩] pos) ρ R:=λσ H Hf Q S q aa s I=>by
 have hgl:Gl c.X "sorted":=by unfold Gl Qx; rw [c.esc]; exact hg
 refine Ry (dz I hgl (by rw [c.emg]; exact hm) (show bootBuiltins "sorted"=some (.builtin "sorted") by decide +kernel) ?_ (by decide) (by decide))
 refine callWith_kw ?_ (by rw [he]; rfl) (hpl _)
 have hpa:=bF (X:=c.X) (e:=e) (es:=[]) cQ cL (he _)
 refine bz (hpa pos aa s σ H (λvs H1=>∃ x,vs=[x]/\∃ (ns:List Int) (ds:List D) (aM:Hp),Rep c.X.K aM (.fdK (ns.map Ql) ds) x/\ns.Nodup/\aY H Hf H1 aM/\∀ L':List Int,L'.Perm ns->fQ ltI true L'->R (.ow (L'.map D.int))) I ?_) λus s1 hh=>z2 hh λvs H1 hh=>w3 hh λI1 r1 hh=>hh.elim λx hh=>w2 hh λex hh=>z3 hh λns ds aM hh=>w4 hh λe1 e7 e8 e9=>?_
 ·exact h σ H Hf _ S λd v H1 aM ⟨ns,ds,hp,⟨hn,hR⟩⟩ rv g=>⟨_,rfl,ns,ds,aM,by rw [<- hp]; exact rv,hn,g,hR⟩
 ·subst ex
  obtain ⟨a0,ys,o,rfl,hs,hk,hr⟩:=iO.mp e1
  have eu:us=[.ref a0]:=by
   cases r1 with
   | cons q1 q2=>cases q2; cases q1; rfl
  subst eu
  refine kws_cons (bz (GC (X:=c.X) (b:=true) (j:=j) (pos:=kp1) aa s1 σ _ (λx H2=>x=.bl true/\H2=H1) I1 ⟨rfl,rfl⟩) λkv s2 ⟨x,H2,I2,rx,e10,e11⟩=>kws_nil ?_)
  subst e10 e11
  have ek:kv=.bool true:=rx
  subst ek
  refine rA (b:=true) c.calm I2 e8.b ?_ hs hk e7 λL' xs' s' H' aj a p1 p2 p3 g na I3=>?_
  ·have:=c.room.un
   lia
  ·have gg:=e8.trans g
   exact ⟨.ref a,_,I3,rfl,q (.ow (L'.map D.int)) _ _ aj (e9 L' p1 p2) ⟨a,xs',rfl,gg.s.free na,ai,g.b.free na,p3⟩ (gg.trans (aY.gj g.b na))⟩
end
theorem Fo {Q:Value->Shared->Prop} (ho:s.heap.get? l=some o) (hc:o.cls=.type "tuple") (hd:o.data=.seq its.toArray n) (hk:0<=k) (hk2:k<2 ^ 63) (hz:its.length * k.toNat<=sizeLine) (hne:its≠[])
 (h1:k=1->Q (.ref l) s) (h2:k≠1->Q (.ref s.heap.objs.size) { s with heap:=s.heap.push { cls:=.type "tuple",data:=.seq (Qf k.toNat its).flatten.toArray } }) :
 wpAny (model prog w) A (Builtin.«tuple.__mul__» ⟨[.ref l,.int k u],[]⟩) (λfin s'=>∃ v,fin=.done (.ret v)/\Q v s') E s:=by
 unfold Builtin.«tuple.__mul__»
 show wpAny _ _ (asIndex (.int k u) >>= _) _ _ s
 have ea:asIndex (.int k u)=pure k:=rfl
 rw [ea]
 refine PK (PR ?_)
 have b1:(decide (k< -2 ^ 63) || decide (k>=2 ^ 63))=false:=by simp only [Bool.or_eq_false_iff,decide_eq_false_iff_not]; lia
 rw [if_neg (by rw [b1]; exact P5)]
 dsimp only
 refine PK (show wpAny _ _ (seqItems? (.ref l) >>= _) _ _ s from PK (RP ho hd (PR ?_)))
 have hne':its.toArray.isEmpty=false:=by cases its with | nil=>exact absurd rfl hne | cons a r=>rfl
 rw [hne',Bool.false_or]
 by_cases e:k=1
 ·rw [if_pos (by simp [e])]
  refine PK (PK (Sb ⟨o,ho,hc⟩ (PR ?_)))
  rw [if_pos (by decide)]
  exact PK (Q8 (PR ⟨_,rfl,h1 e⟩))
 ·rw [if_neg (by simpa using e)]
  have h2':=h2 e
  by_cases e0:k=0
  ·subst e0
   rw [if_pos (by decide)]
   exact PK (QZ (PR ⟨_,rfl,h2'⟩))
  ·have hpos:0<k:=by lia
   rw [if_neg (by simp; lia)]
   have hm:(its.toArray.size:Int) * k=((its.length * k.toNat:Nat):Int):=by
    rw [Int.natCast_mul,Int.toNat_of_nonneg hk,Qm]
   have hs:(sizeLine:Nat)<=(2 ^ 63 - 1) / 8:=by decide
   rw [hm,if_neg (by lia),if_neg (by unfold Builtin.Tuple.tupleTooMany; simp only [decide_eq_true_eq]; lia)]
   have ef:=foldl_rep its k.toNat []
   rw [RW] at ef
   show wpAny _ _ (newObj (.type "tuple") (.seq (TL (λx1 x2=>x1++x2) ([]:List Value).toArray (Qf k.toNat its.toArray))) >>= _) _ _ _
   rw [ef]
   exact PK (QZ (PR ⟨_,rfl,h2'⟩) (hd:=by
    show (Qf k.toNat its).flatten.toArray.size<=sizeLine
    rw [Qm,len_rep,Uh]; exact hz))
theorem tV:fillsNumberSlot (.type "tuple") "mul"=pure false:=PySem.fillsNumberSlot_seq (id:="tuple.__mul__") (r:=some (.builtin "tuple.__rmul__")) Wn.lookup (by decide +kernel) F.slot_tuple_rmul.lookup (by decide +kernel)
theorem tW:seqRepeat? (.type "tuple")=pure (some (.builtin "tuple.__mul__")):=by
 unfold seqRepeat?
 rw [PySem.seqSlot_of (T:="tuple") (name:="__mul__") (id:="tuple.__mul__") Wn.lookup (by decide +kernel),PySem.seqSlot_of (T:="tuple") (name:="__rmul__") (id:="tuple.__rmul__") F.slot_tuple_rmul.lookup (by decide +kernel)]
 rfl
theorem BO (a) (t:Tok) (l) (o) (items) (n) :
 Meets (Builtin.«int.__rmul__» ⟨[.int a t,.ref l],[]⟩) (λ_ R s=>s.heap.get? l=some o/\o.cls=.type "tuple"/\o.data=.seq items n/\R (.ok (.ret Value.notImplemented)) s) :=
 .of_wp λprog w A R ⟨hp,g,d,tk,os⟩ ⟨hl,hc,hd,h⟩=>by
  obtain ⟨c,dc,dt,sl⟩:=o
  obtain rfl:c=.type "tuple":=hc
  obtain rfl:dt=.seq items n:=hd
  wp_walk
  exact ⟨_,rfl,h⟩
noncomputable def MJ (K:PN):R2:=λx y H Q=>∃ l k xs,x=.ref l/\y=.int k/\cU K H l xs/\xs≠[]/\0<=k/\k<2 ^ 63/\xs.length * k.toNat<=sizeLine/\(k=1->Q (.ref l) H)/\(k≠1->∀ p,H p=none->Q (.ref p) (upd H p (.tup (Qf k.toNat xs).flatten)))
theorem Fq:fj X (binaryOp .Mult) (MJ X.K):=by
 intro aa s σ H x y v u Q I rx ry h
 obtain ⟨l,k,xs,rfl,rfl,hq,hne,h0,h1,hz,q1,q2⟩:=h
 cases rx
 obtain ⟨t,rfl⟩:=ry
 obtain ⟨its,r,pl,hz0⟩:=I.tuple hq
 obtain ⟨o,ho,hc,n,hd⟩:=pl
 have hl:=r.length
 refine wpAny_binaryOp_repeat_ref (T:="tuple") (U:="int") (by decide) ⟨o,ho,hc⟩ (λs'=>TH s' k t) tV F.fills_int_mul U9 tW F.slot_int_index.lookup
  (TJ U9 (TH s k t) F.entry_int_rmul (F.args_int_rmul_2 _ _) (BO k t l o _ _) ⟨ho,hc,hd,rfl,⟨o,ho,hc⟩,Ra Wn ⟨o,ho,hc⟩ F.entry_tuple_mul (Fo (its:=its) ho hc hd h0 h1 (by rw [<- hl]; exact hz) (by rintro rfl; cases r; exact hne rfl) (λe=>?_) λe=>?_) (F.args_tuple_mul_2 _ _)⟩)
 ·exact ⟨.ref l,H,I,rfl,q1 e⟩
 ·have Hp:H s.heap.objs.size=none:=I.hok.fresh (PU _)
  have hz2:(Qf k.toNat xs).flatten.length<=sizeLine:=by rw [len_rep,Uh]; exact hz
  have IA:Inv X aa σ (upd H s.heap.objs.size (.tup (Qf k.toNat xs).flatten)) { s with heap:=s.heap.push { cls:=.type "tuple",data:=.seq (Qf k.toNat its).flatten.toArray },toks:=s.toks } :=
   I.laid (a:=s.heap.objs.size) (o:=.tup (Qf k.toNat xs).flatten) (λ_ _ q=>PY _ q) (PU _) ⟨hz2,_,r.rep k.toNat,_,Qd _ rfl,rfl,0,rfl⟩
  exact ⟨.ref s.heap.objs.size,_,IA,rfl,q2 e _ Hp⟩
section
variable {K:PN}
theorem JN (h:aJ c a ρ λx=>aJ c b ρ λy=>∃ ds n,x=.tup ds/\y=.int n/\Sd (ds≠[]/\0<=n/\n<2 ^ 63/\ds.length * n.toNat<=sizeLine) (R (.tup (Qf n.toNat ds).flatten))):aJ c (.BinOp a .Mult b pos) ρ R:=λσ H Hf Q S q =>
 bJ (zM Fq cQ cQ) (h σ H Hf _ S λx v H1 aM h1 r1 g1=>h1 σ H1 aM _ (S.cA g1) λy u H2 cD ⟨ds,n,e1,e2,⟨hne,n0,n1,hz⟩,hR⟩ r2 g2=>by
  subst e1 e2
  have r1':=Rep.mono g2.f _ r1
  obtain ⟨l,xs,rfl,k1,k2⟩:=aH.mp r1'
  rw [aA] at r2; subst r2
  have hl:=k2.length
  have g:=g1.trans g2
  refine ⟨l,n,xs,rfl,rfl,av g2.b k1,by rintro rfl; exact hne (List.eq_nil_of_length_eq_zero hl),n0,n1,by rw [<- hl]; exact hz,λe=>?_,λ_ p hp=>?_⟩
  ·subst e
   refine q _ _ H2 cD hR ?_ g
   rw [show (Qf (1:Int).toNat ds).flatten=ds by simp]
   exact r1'
  ·have g3:=aY.new (o:=.tup (Qf n.toNat xs).flatten) g2.b hp
   exact q _ _ _ _ hR (aH.mpr ⟨p,_,rfl,.inl (.inl ai),(k2.mono g3.f).many _⟩) (g.trans g3))
end
section
variable {K:PN}
end
end EV
namespace EV
open PySem PySem.Spec PyProof.Rows L2
noncomputable def dig (b:Int):Nat->(Nat->Int)->Int
 | 0,_=>0
 | m+1,f=>f 0 * b ^ m+dig b m (λi=>f (i+1))
noncomputable abbrev bZ (p:List Int) (i:Nat):Int:=p.getD i 0
noncomputable def pk (b:Int) (p:List Int):Int:=dig b 6 (bZ p)
theorem jb:∀ {m:Nat} {f g:Nat->Int},(∀ i,i<m->f i=g i)->dig b m f=dig b m g
 | 0,_,_,_=>rfl
 | m+1,f,g,h=>by
  unfold dig
  rw [h 0 (by lia),jb (m:=m) λi hi=>h (i+1) (by lia)]
theorem v9:∀ (m:Nat) (f g:Nat->Int),dig b m (λi=>f i+g i)=dig b m f+dig b m g
 | 0,_,_=>rfl
 | m+1,f,g=>by
  unfold dig
  rw [v9 m (λi=>f (i+1)) (λi=>g (i+1)),SS]
  lia
theorem jc:∀ (m:Nat),dig b m (λ_=>0)=0
 | 0=>rfl
 | m+1=>by unfold dig; rw [jc m,SN]; rfl
theorem iC (hb:0<b):∀ (m:Nat) (f:Nat->Int),(∀ i,i<m->0<=f i/\f i<b)->0<=dig b m f/\dig b m f<b ^ m
 | 0,_,_=>⟨Rm _,by show (0:Int)<b ^ 0; rw [Int.pow_zero]; decide⟩
 | m+1,f,h=>by
  have h0:=h 0 (by lia)
  have ih:=iC hb m (λi=>f (i+1)) λi hi=>h (i+1) (by lia)
  have hp:0<b ^ m:=SQ hb
  unfold dig
  rw [Int.pow_succ]
  have a1:0<=f 0 * b ^ m:=Int.mul_nonneg h0.1 (by lia)
  have a2:(f 0+1) * b ^ m<=b * b ^ m:=Ww (by lia) (by lia)
  rw [SS,Vw] at a2
  rw [Int.mul_comm (b ^ m) b]
  lia
theorem wc (hb:0<b):∀ (m:Nat) (f:Nat->Int),(∀ i,i<m->0<=f i/\f i<b)->∀ i,i<m->dig b m f / b ^ (m - 1 - i) % b=f i
 | 0,_,_,_,hi=>absurd hi (Nat.not_lt_zero _)
 | m+1,f,h,i,hi=>by
  have ih:=wc hb m (λi=>f (i+1)) λi hi=>h (i+1) (by lia)
  have bd:=iC hb m (λi=>f (i+1)) λi hi=>h (i+1) (by lia)
  have hp:0<b ^ m:=SQ hb
  unfold dig
  cases i with
  | zero =>
   rw [show m+1 - 1 - 0=m by lia,Vp,Int.add_mul_ediv_right _ _ (by lia),Int.ediv_eq_zero_of_lt bd.1 bd.2,Ui]
   exact Int.emod_eq_of_lt (h 0 (by lia)).1 (h 0 (by lia)).2
  | succ i =>
   have e:b ^ m=b ^ (i+1) * b ^ (m - 1 - i):=by rw [<- Int.pow_add]; congr 1; lia
   have hq:0<b ^ (m - 1 - i):=SQ hb
   rw [show m+1 - 1 - (i+1)=m - 1 - i by lia,e,<- Uc,Vp,Int.add_mul_ediv_right _ _ (by lia),Int.pow_succ,<- Uc,Int.add_mul_emod_self_right]
   exact ih i (by lia)
theorem jE (h:trim (x::p)=x::p):trim p=p:=by
 rcases List.eq_nil_or_concat p with rfl | ⟨r,z,rfl⟩
 ·rfl
 ·rw [List.concat_eq_append] at h |-
  by_cases e:z=0
  ·subst e
   rw [<- Rz,gR] at h
   have:=congrArg Si h
   have l:=gu (x::r)
   simp only [Qz,QE,RH] at this l
   lia
  ·exact nH r e
theorem rB:∀ {p:List Int},trim p=p->p≠[]->(∀ x∈p,0<=x)->∃ i,i<p.length/\0<bZ p i
 | [],_,h,_=>absurd rfl h
 | [x],h,_,h0=>by
  refine ⟨0,by simp,?_⟩
  have:x≠0:=by rintro rfl; simp [trim] at h
  have:=h0 x (by simp)
  show 0<x
  lia
 | x::y::p,h,_,h0=>by
  obtain ⟨i,hi,hq⟩:=rB (jE h) (by simp) λz hz=>h0 z (P9 _ hz)
  exact ⟨i+1,by simp only [Qz] at *; lia,by simpa [bZ] using hq⟩
theorem we (hb:0<b):∀ (m:Nat) (f:Nat->Int),(∀ i,i<m->0<=f i/\f i<b)->(∃ i,i<m/\0<f i)->0<dig b m f
 | 0,_,_,h=>by obtain ⟨i,hi,_⟩:=h; lia
 | m+1,f,h,⟨i,hi,hq⟩=>by
  have bd:=iC hb m (λi=>f (i+1)) λi hi=>h (i+1) (by lia)
  have hp:0<b ^ m:=SQ hb
  unfold dig
  cases i with
  | zero =>
   have:=Int.mul_pos hq hp
   lia
  | succ i =>
   have:=we hb m (λi=>f (i+1)) (λi hi=>h (i+1) (by lia)) ⟨i,by lia,hq⟩
   have:=Int.mul_nonneg (h 0 (by lia)).1 (show 0<=b ^ m by lia)
   lia
theorem BP (hb:0<b):∀ (m:Nat) (p q:List Int),trim p=p->trim q=q->p.length<=m->q.length<=m->(∀ x∈p,0<=x/\x<b)->(∀ x∈q,0<=x/\x<b)->HT.lexLt p q=true->dig b m (bZ p)<dig b m (bZ q)
 | m,[],[],_,_,_,_,_,_,h=>by cases h
 | m,[],y::q,_,tq,_,lq,_,hq,_=>by
  have e:dig b m (bZ [])=0:=by
   rw [show bZ ([]:List Int)=λ_=>0 from funext λi=>by simp [bZ]]; exact jc m
  rw [e]
  obtain ⟨i,hi,h0⟩:=rB tq (by simp) λx hx=>(hq x hx).1
  refine we hb m _ (λj hj=>?_) ⟨i,by lia,h0⟩
  by_cases z:j<(y::q).length
  ·have:bZ (y::q) j=(y::q)[j]:=by unfold bZ; rw [Q9,Qo z]; rfl
   rw [this]; exact hq _ (Qy _)
  ·have:bZ (y::q) j=0:=by simp only [bZ,Q9,RG (by lia:(y::q).length<=j)]; rfl
   rw [this]; lia
 | m,x::p,[],_,_,_,_,_,_,h=>by cases h
 | 0,x::p,y::q,_,_,lp,_,_,_,_=>by simp at lp
 | m+1,x::p,y::q,tp,tq,lp,lq,hp,hq,h=>by
  simp only [Qz] at lp lq
  rw [HT.cM] at h
  have rd:∀ (r:List Int),(∀ z∈r,0<=z/\z<b)->∀ j,0<=bZ r j/\bZ r j<b:=λr hr j=>by
   by_cases z:j<r.length
   ·have:bZ r j=r[j]:=by unfold bZ; rw [Q9,Qo z]; rfl
    rw [this]; exact hr _ (Qy _)
   ·have:bZ r j=0:=by simp only [bZ,Q9,RG (by lia:r.length<=j)]; rfl
    rw [this]; lia
  have hp':∀ z∈p,0<=z/\z<b:=λz hz=>hp z (P9 _ hz)
  have hq':∀ z∈q,0<=z/\z<b:=λz hz=>hq z (P9 _ hz)
  unfold dig
  show x * b ^ m+dig b m (bZ p)<y * b ^ m+dig b m (bZ q)
  by_cases e:x=y
  ·rw [if_pos e] at h
   subst e
   have:=BP hb m p q (jE tp) (jE tq) (by lia) (by lia) hp' hq' h
   lia
  ·rw [if_neg e] at h
   have hxy:x<y:=of_decide_eq_true h
   have b1:=iC hb m (bZ p) λi _=>rd p hp' i
   have b2:=iC hb m (bZ q) λi _=>rd q hq' i
   have a2:(x+1) * b ^ m<=y * b ^ m:=Ww (by lia) (by have hh:0<b ^ m:=SQ hb; lia)
   rw [SS,Vw] at a2
   lia
def Bd (b:Int) (p:List Int):Prop:=p.length<=6/\∀ x∈p,0<=x/\x<b
theorem dN (z:j<p.length):bZ p j=p[j]:=by unfold bZ; rw [Q9,Qo z]; rfl
theorem c6 (z:p.length<=j):bZ p j=0:=by unfold bZ; rw [Q9,RG z]; rfl
theorem G5 (hb:0<b) (h:Bd b p) (i):0<=bZ p i/\bZ p i<b:=by
 by_cases z:i<p.length
 ·rw [dN z]; exact h.2 _ (Qy _)
 ·rw [c6 (by lia)]; lia
theorem rC (p):∃ m,p=trim p++Qf m 0:=by
 suffices H:∀ r:List Int,∃ m,r=Qf m 0++r.dropWhile λx=>x == 0 by
  obtain ⟨m,h⟩:=H p.reverse
  refine ⟨m,?_⟩
  have:=congrArg List.reverse h
  rw [List.reverse_reverse,VW,List.reverse_replicate] at this
  exact this
 intro r
 induction r with
 | nil=>exact ⟨0,rfl⟩
 | cons x r ih =>
  by_cases e:x=0
  ·subst e
   obtain ⟨m,h⟩:=ih
   refine ⟨m+1,?_⟩
   rw [RK,List.dropWhile_cons_of_pos (by simp),Rz,<- h]
  ·exact ⟨0,by rw [List.dropWhile_cons_of_neg (by simpa using e)]; rfl⟩
theorem d7 (p) (i):bZ (trim p) i=bZ p i:=by
 obtain ⟨m,h⟩:=rC p
 by_cases z:i<(trim p).length
 ·have e:bZ p i=bZ (trim p++Qf m 0) i:=by rw [<- h]
  rw [e]
  unfold bZ
  simp only [Q9]
  rw [R4 z]
 ·rw [c6 (by lia)]
  have e:bZ p i=bZ (trim p++Qf m 0) i:=by rw [<- h]
  rw [e]
  unfold bZ
  simp only [Q9]
  rw [Tc (by lia),VI]
  split <;> rfl
theorem Ft (b) (p):pk b (trim p)=pk b p:=jb λi _=>d7 p i
theorem rD (h:x∈trim p):x∈p:=by
 obtain ⟨m,e⟩:=rC p
 rw [e]; exact R8 _ h
theorem oX (h:Bd b p):Bd b (trim p):=⟨P7 (gu p) h.1,λx hx=>h.2 x (rD hx)⟩
theorem BQ (hb:0<b) (hp:Bd b p) (hq:Bd b q) (tp:trim p=p) (tq:trim q=q) (h:HT.lexLt p q=true):pk b p<pk b q:=BP hb 6 p q tp tq hp.1 hq.1 hp.2 hq.2 h
theorem tX (hb:0<b) (hp:Bd b p) (hq:Bd b q) (tp:trim p=p) (tq:trim q=q) (h:pk b p=pk b q):p=q:=by
 by_cases e:p=q
 ·exact e
 ·exfalso
  rcases kr e with z | z
  ·have:=BQ hb hp hq tp tq z; lia
  ·have:=BQ hb hq hp tq tp z; lia
noncomputable def NI (b:Int) (key:Int):List Int:=trim ((QC 6).map λ(i:Nat)=>key / b ^ (5 - i) % b)
theorem JO (hb:0<b) (h:Bd b p):NI b (pk b p)=trim p:=by
 have e:((QC 6).map λ(i:Nat)=>pk b p / b ^ (5 - i) % b)=p++Qf (6 - p.length) 0:=by
  refine U4 (by simp; have:=h.1; lia) λi h1 h2=>?_
  have hi:i<6:=by simpa using h1
  rw [Wj,V2]
  have:=wc hb 6 (bZ p) (λj _=>G5 hb h j) i hi
  rw [show 6 - 1 - i=5 - i by lia] at this
  rw [show pk b p=dig b 6 (bZ p) from rfl,this]
  by_cases z:i<p.length
  ·rw [dN z,List.getElem_append_left z]
  ·rw [c6 (by lia),List.getElem_append_right (by lia),List.getElem_replicate]
 unfold NI
 rw [e]
 generalize 6 - p.length=m
 induction m with
 | zero=>simp
 | succ m ih=>rw [List.replicate_succ',<- Qn,gR]; exact ih
noncomputable def cR (B:List (Int×Int)):List (Key×D):=B.map λx=>(.inl x.1,.int x.2)
theorem jd (B) (k):bD (cR B) (.inl k)=(bD B k).map D.int:=by
 induction B with
 | nil=>rfl
 | cons t B ih =>
  by_cases e:t.1=k
  ·rw [br e]
   show bD ((Ql t.1,D.int t.2)::cR B) _=_
   rw [br (by rw [e])]; rfl
  ·rw [aV e,<- ih]
   show bD ((Ql t.1,D.int t.2)::cR B) _=_
   rw [aV λz=>e (Ql.inj z)]
theorem rE (B) (k n):putD (cR B) (.inl k) (.int n)=cR (putD B k n):=by
 unfold putD
 rw [jd]
 by_cases h:(bD B k).isSome=true
 ·rw [if_pos h,if_pos (by rw [Sy]; exact h)]
  unfold cR
  rw [Qi,Qi]
  refine RL λt _=>?_
  simp only [Vk]
  by_cases e:t.1=k
  ·rw [if_pos e,if_pos (by rw [e])]
  ·rw [if_neg e,if_neg λz=>e (Ql.inj z)]
 ·rw [if_neg h,if_neg (by rw [Sy]; exact h)]
  unfold cR
  simp
noncomputable def gw (b:Int) (t:aN):Int×Int:=(pk b t.1,t.2)
def Gd (b:Int) (A:List aN):Prop:=∀ t∈A,Bd b t.1/\trim t.1=t.1
theorem tY (hb:0<b) (h:Gd b A) (hp:Bd b p) (tp:trim p=p):bD (A.map (gw b)) (pk b p)=bD A p:=by
 induction A with
 | nil=>rfl
 | cons t A ih =>
  have ih:=ih λx hx=>h x (P9 _ hx)
  have ht:=h t P4
  by_cases e:t.1=p
  ·rw [br e,PZ,br (show (gw b t).1=pk b p by unfold gw; rw [e])]; rfl
  ·rw [aV e,PZ,aV λz=>e (tX hb ht.1 hp ht.2 tp z),ih]
theorem JP (hb:0<b) (h:Gd b A) (hp:Bd b p) (tp:trim p=p):putD (A.map (gw b)) (pk b p) n=(putD A p n).map (gw b):=by
 unfold putD
 rw [tY hb h hp tp]
 split
 ·rw [Qi,Qi]
  refine RL λt ht=>?_
  simp only [Vk]
  by_cases e:t.1=p
  ·rw [if_pos e,if_pos (show (gw b t).1=pk b p by unfold gw; rw [e])]; rfl
  ·rw [if_neg e,if_neg (show ¬ (gw b t).1=pk b p from λz=>e (tX hb (h t ht).1 hp (h t ht).2 tp z))]
 ·simp [gw]
theorem JQ (h:Gd b A) (hp:Bd b p) (tp:trim p=p):Gd b (putD A p n):=λt ht=>by
 rcases oU ht with e | e
 ·rw [e]; exact ⟨hp,tp⟩
 ·exact h t e
theorem oY (h:∀ t∈ts,Bd b t.1):Gd b (aP ts):=by
 unfold aP
 suffices H:∀ A,Gd b A->Gd b (ts.foldl fH A) from H [] (λ_ h=>by cases h)
 induction ts with
 | nil=>exact λA h=>h
 | cons u ts ih=>exact λA hA=>ih (λt ht=>h t (P9 _ ht)) _ (JQ hA (oX (h u P4)) (cB _))
theorem JR (hb:0<b) (h:∀ t∈ts,Bd b t.1) (ht:Bd b t.1) :
 putD ((aP ts).map (gw b)) (pk b t.1) ((bD ((aP ts).map (gw b)) (pk b t.1)).getD 0+t.2)=(aP (ts++[t])).map (gw b):=by
 rw [q8]
 unfold fH
 rw [<- Ft b t.1,tY hb (oY h) (oX ht) (cB _),JP hb (oY h) (oX ht) (cB _)]
theorem rF:∀ {L M:List Int},L.Perm M->L.Pairwise (λx y=>y<x)->M.Pairwise (λx y=>y<x)->L=M
 | [],M,h,_,_=>by rw [List.nil_perm] at h; exact h.symm
 | x::L,[],h,_,_=>by simp at h
 | x::L,y::M,h,h1,h2=>by
  rw [To] at h1 h2
  by_cases e:x=y
  ·subst e
   rw [rF ((List.perm_cons _).mp h) h1.2 h2.2]
  ·exfalso
   have hx:x∈M:=(P8.mp (h.subset P4)).resolve_left e
   have hy:y∈L:=(P8.mp (h.symm.subset P4)).resolve_left (Qp e)
   have a:=h1.1 y hy
   have b:=h2.1 x hx
   lia
theorem oZ {A:List aN} (hk:(A.map (·.1)).Nodup) {t:aN} (h:t∈A):bD A t.1=some t.2:=by
 induction A with
 | nil=>cases h
 | cons u A ih =>
  rw [PZ,Rf] at hk
  rcases P8.mp h with rfl | h
  ·exact br rfl
  ·rw [aV λe=>hk.1 (by rw [e]; exact List.mem_map_of_mem h)]
   exact ih hk.2 h
theorem BR (hb:0<b) (h:∀ t∈ts,Bd b t.1) (hp:L'.Perm (((aP ts).map (gw b)).map (·.1))) (hs:L'.Pairwise λx y=>y<x):L'=(fJ (aP ts)).map λt=>pk b t.1:=by
 have hg:=oY h
 have hk:=dZ ts
 generalize aP ts=A at *
 refine rF (hp.trans ?_) hs ?_
 ·rw [Qi]
  exact ((bB A).map _).symm
 ·rw [RV]
  have hs2:=gT (keys_nodup hk)
  have hm:∀ t∈fJ A,t∈A:=λt ht=>(bB A).subset ht
  have hk2:(fJ A).Pairwise λx y=>x.1≠y.1:=by
   have:=((bB A).map (·.1)).nodup_iff.mpr hk
   unfold Um at this
   rwa [RV] at this
  unfold ja fQ at hs2
  refine Vy.imp_of_mem (R:=λx y=>(if true then cZ y x=true else cZ x y=true)/\x.1≠y.1) (λ{x y} hx hy q=>?_) (hs2.and hk2)
  obtain ⟨q1,q2⟩:=q
  rw [if_pos rfl] at q1
  unfold cZ at q1
  rw [if_neg (Qp q2)] at q1
  exact BQ hb (hg _ (hm _ hy)).1 (hg _ (hm _ hx)).1 (hg _ (hm _ hy)).2 (hg _ (hm _ hx)).2 q1
noncomputable def Fv (b:Int) (p:List Int):Int:=p.foldl (λa x=>a * b+x) 0
theorem BS (b) (p) (x):Fv b (p++[x])=Fv b p * b+x:=by unfold Fv; rw [Wb]; rfl
theorem rG (b):∀ (p:List Int) (a:Int),p.foldl (λa x=>a * b+x) a=a * b ^ p.length+dig b p.length (bZ p)
 | [],a=>by simp [dig]
 | x::p,a=>by
  rw [Rp,rG b p]
  show (a * b+x) * b ^ p.length+_=a * b ^ (p.length+1)+(x * b ^ p.length+dig b p.length (bZ p))
  rw [SS,Int.pow_succ,Uc,Int.mul_comm b (b ^ p.length)]
  lia
theorem wg (b) (p):Fv b p=dig b p.length (bZ p):=by unfold Fv; rw [rG]; lia
theorem rH (k):∀ (m:Nat) (f:Nat->Int),(∀ i,m<=i->f i=0)->dig b (m+k) f=dig b m f * b ^ k
 | 0,f,h=>by
  rw [Se,jb (g:=λ_=>0) λi _=>h i (Qv _),jc]
  show 0=0 * b ^ k
  rw [SN]
 | m+1,f,h=>by
  rw [show m+1+k=(m+k)+1 by lia]
  unfold dig
  rw [rH k m (λi=>f (i+1)) λi hi=>h (i+1) (by lia),SS,Int.pow_add,Uc]
theorem JS (h:p.length<=6):Fv b p * b ^ (6 - p.length)=pk b p:=by
 rw [wg,<- rH (6 - p.length) p.length (bZ p) λi hi=>c6 hi]
 rw [show p.length+(6 - p.length)=6 by lia]
 rfl
theorem BU (hb:0<b) (h:∀ x∈p,0<=x/\x<b):0<=Fv b p/\Fv b p<b ^ p.length:=by
 rw [wg]
 exact iC hb _ _ λi hi=>by rw [dN hi]; exact h _ (Qy _)
theorem MK (hb:0<b) (h:Bd b p):0<=pk b p/\pk b p<b ^ 6:=iC hb _ _ λi _=>G5 hb h i
theorem two_pos (W):(0:Int)<2 ^ W:=SQ (by decide)
theorem gW (W):((2:Int) ^ W)=((2 ^ W:Nat):Int):=by rw [Int.natCast_pow]; rfl
theorem BV (hW:W<=10) (hn:n<=6):((2:Int) ^ W) ^ n<=2 ^ 60:=by
 rw [<- Int.pow_mul,gW,gW]
 exact Int.ofNat_le.mpr (Th (by decide) (P7 (SJ hW hn) (by decide)))
theorem wj (hW:W<=10) (hn:n<=6) (h0:0<=x) (h:x<((2:Int) ^ W) ^ n):x.natAbs<2 ^ 64:=by
 have:=BV hW hn
 have h60:(2:Int) ^ 60<2 ^ 64:=by decide
 have:x<((2 ^ 64:Nat):Int):=by rw [<- gW]; lia
 lia
theorem yx (W) (h:0<=x):Builtin.bitAnd x (1 * 2 ^ W - 1)=x % 2 ^ W:=by
 have hp:=two_pos W
 have e0:(1:Int) * 2 ^ W - 1=((2 ^ W - 1:Nat):Int):=by
  have:0<2 ^ W:=Nat.pow_pos (by decide)
  rw [Vw,gW]; lia
 rw [e0]
 show (match decide (0<=x),decide (0<=((2 ^ W - 1:Nat):Int)) with
  | true,true=>(((x.toNat &&& (((2 ^ W - 1:Nat):Int)).toNat:Nat)):Int)
  | true,false=>_ | false,true=>_ | false,false=>_)=_
 rw [decide_eq_true h,decide_eq_true (Int.natCast_nonneg _)]
 show ((x.toNat &&& (2 ^ W - 1):Nat):Int)=_
 rw [Nat.and_two_pow_sub_one_eq_mod,gW,Int.natCast_emod,Int.toNat_of_nonneg h]
noncomputable def cF (p q:List Int):List Int:=(QC (max p.length q.length)).map λk=>bZ p k+bZ q k
noncomputable def dO (l r:aN):aN:=(cF l.1 r.1,l.2 * r.2)
noncomputable def aR (A B:List aN):List aN:=A.flatMap λl=>B.map (dO l)
theorem je (p q):(cF p q).length=max p.length q.length:=by simp [cF]
theorem ck (p q) (i):bZ (cF p q) i=bZ p i+bZ q i:=by
 by_cases z:i<max p.length q.length
 ·rw [dN (by rw [je]; exact z)]; simp [cF]
 ·rw [c6 (by rw [je]; lia),c6 (by lia),c6 (by lia)]; rfl
theorem Fw (b) (p q):pk b (cF p q)=pk b p+pk b q:=by
 unfold pk
 rw [<- v9]
 exact jb λi _=>ck p q i
theorem gx (h:t∈aR A B):∃ l∈A,∃ r∈B,t=dO l r:=by
 unfold aR at h
 obtain ⟨l,hl,h⟩:=U1.mp h
 obtain ⟨r,hr,rfl⟩:=Qe.mp h
 exact ⟨l,hl,r,hr,rfl⟩
theorem nM (A B) (l):aR (A++[l]) B=aR A B++B.map (dO l):=by
 unfold aR
 rw [List.flatMap_append,TY,U3,QX]
theorem c7 (A B):(aR A B).length=A.length * B.length:=by
 induction A with
 | nil=>simp [aR]
 | cons a A ih =>
  unfold aR at *
  rw [TY,QE,ih,P0,Qz,Ug]
  lia
end EV
namespace EV
open PySem PySem.Spec PySem.Calls PyProof.Rows L2
theorem BW {K:PN}:∀ {kvs:List (Key×D)} {ys:List (Key×V)},ys.map (·.1)=kvs.map (·.1)->aq K H (kvs.map (·.2)) (ys.map (·.2))->l0 K H kvs ys
 | [],[],_,_=>.nil
 | [],y::ys,h,_=>by simp at h
 | x::kvs,[],h,_=>by simp at h
 | x::kvs,y::ys,h,r=>by
  rw [PZ,PZ] at h r
  obtain ⟨v,t,e,r1,r2⟩:=aF.mp r
  injection e with e1 e2
  injection h with h1 h2
  subst e1 e2
  exact .cons ⟨h1.symm,r1⟩ (BW h2 r2)
section
variable {K:PN}
theorem JT (h:aJ c a ρ λx=>aJ c b ρ λy=>∃ (kvs:List (Key×D)) (kk:Key) (d:D),x=.fdK (kvs.map (·.1)) (kvs.map (·.2))/\y.xW=some kk/\bD kvs kk=some d/\R d) (hs:Eh b:=by with_unfolding_all exact λ_ _=>rfl):aJ c (.Subscript a b pos) ρ R:=λσ H Hf Q S q =>
 bJ (uY c.hu cQ cQ hs) (h σ H Hf _ S λx v H1 aM h1 r1 g1=>h1 σ H1 aM _ (S.cA g1) λy u H2 cD ⟨kvs,kk,d,e1,e2,e3,hR⟩ r2 g2=>by
  subst e1
  obtain ⟨p,ys,o,rfl,k1,k2,k3⟩:=iO.mp r1
  have kv:=(BW k2 k3).mono g2.f
  have rel:=kv.val kk
  rw [e3] at rel
  rw [iW e2 r2]
  cases z:kL ys kk with
  | none=>rw [z] at rel; exact rel.elim
  | some v =>
   rw [z] at rel
   exact ⟨p,v,rfl,.inl ⟨ys,kk,.inr ⟨o,g2.b _ _ (g2.f _ _ k1)⟩,rfl,z.symm⟩,q d v H2 cD hR rel (g1.trans g2)⟩)
end
end EV
namespace EV
open PySem PySem.Spec PyProof.Rows L2
theorem rJ {A:List aN} {l:List Int} {n:Int} {t:aN} (h:t∈putD A l n):t=(l,n)\/t∈A:=by
 unfold putD at h
 split at h
 ·obtain ⟨u,hu,e⟩:=Qe.mp h
  split at e
  ·rename_i q; subst e; exact .inl (by rw [q])
  ·subst e; exact .inr hu
 ·rcases Qq.mp h with q | q
  ·exact .inr q
  ·simp at q; exact .inl q
theorem JU {A:List aN} (h:∀ t∈A,t.2.natAbs<=c) (l):((bD A l).getD 0).natAbs<=c:=by
 unfold bD
 cases e:A.find? (λkv=>decide (kv.1=l)) with
 | none=>exact Qv _
 | some u=>exact h u (List.mem_of_find?_eq_some e)
theorem wm:∀ (ts A:List aN) (c:Nat),(∀ t∈A,t.2.natAbs<=c)->(∀ t∈ts,t.2.natAbs<=m)->∀ t∈ts.foldl fH A,t.2.natAbs<=c+ts.length * m
 | [],A,c,h,_,t,ht=>by simpa using h t ht
 | u::ts,A,c,h,g,t,ht=>by
  have:=wm (m:=m) ts (fH A u) (c+m) (λt' ht'=>by
   rcases rJ ht' with rfl | q
   ·have a:=JU h (trim u.1)
    have b:=g u P4
    show ((bD A (trim u.1)).getD 0+u.2).natAbs<=c+m
    omega
   ·have:=h t' q; omega) (λt h=>g t (P9 _ h)) t ht
  rw [Qz,Ug]
  omega
theorem JV (h:∀ t∈ts,t.2.natAbs<=m):∀ t∈aP ts,t.2.natAbs<=ts.length * m:=λt ht=>by
 have:=wm ts [] 0 (by simp) h t ht
 omega
theorem yy (l m:List Int):j8 (n+1) (.tup (l.map D.int)) (.tup (m.map D.int)):=.tup λi d e h1 h2=>by
 simp only [P6,Qc] at h1 h2
 obtain ⟨a,_,rfl⟩:=h1
 obtain ⟨b,_,rfl⟩:=h2
 exact .sc rfl
theorem rK (x y):j8 (n+2) (aO x) (aO y):=.tup λi d e h1 h2=>by
 rcases i with _ | _ | i
 ·simp at h1 h2; subst h1 h2; exact yy _ _
 ·simp at h1 h2; subst h1 h2; exact .sc rfl
 ·simp at h1
theorem gy (L M:List aN):j8 (n+3) (.lst (L.map aO)) (.lst (M.map aO)):=.lst λi d e h1 h2=>by
 simp only [P6,Qc] at h1 h2
 obtain ⟨a,_,rfl⟩:=h1
 obtain ⟨b,_,rfl⟩:=h2
 exact rK a b
theorem rL (es):jV [] es:=λi d e h _=>by simp at h
theorem cC (h:j8 40 d e) (t:jV ds es):jV (d::ds) (e::es):=λi a b h1 h2=>by
 cases i with
 | zero=>simp at h1 h2; subst h1 h2; exact h
 | succ i=>exact t i a b (by simpa using h1) (by simpa using h2)
theorem yz (L M:List aN):jV (L.map aO) (M.map aO):=λi d e h1 h2=>by
 simp only [P6,Qc] at h1 h2
 obtain ⟨a,_,rfl⟩:=h1
 obtain ⟨b,_,rfl⟩:=h2
 exact rK a b
theorem lU (h:jV ds ds) (t:T true):Am (.lst ds) (.lst ds) T:=Es ⟨h,by rw [decide_eq_true rfl]; exact t⟩
section
variable {K:PN}
theorem int_mk (KX:K.In h) (G:h.Ns mainGlobals mg) (a:Q3 K mainGlobals x=some (some (.int i tk))):∃ tk:Tok,mg x=some (.int i tk):=⟨tk,PySem.W.mg_of KX G a⟩
theorem wo (P) (w) (base) {st:Stmt} (D:aD K mg x st) (ok:∀ {f:Addr} {fd:FuncData},eS K x x st f fd->bu P w K mg base (di P w) k f fd ps (JE K F))
 (hb:∀ (kV doc pm:Value) (an:Option Addr) (cdv ct:Value) (us:List Value),us.length=ps.length->bindArgs (RS x x (eV st) (ay st) (aQ st) .none kV doc pm an cdv ct) ⟨us,[]⟩=pure (ps.zip us):=by intro _ _ _ _ _ _ us hl; first | (obtain ⟨a,rfl⟩:=Jt us hl; rfl) | (obtain ⟨a,b,rfl⟩:=Ju us hl; rfl) | (obtain ⟨a,b,c,rfl⟩:=Jv us hl; rfl) | (obtain ⟨a,b,c,d,rfl⟩:=len4 us hl; rfl) | (obtain ⟨a,b,c,d,e,rfl⟩:=Jw us hl; rfl) | (obtain ⟨a,b,c,d,e,f,rfl⟩:=Jx us hl; rfl) | (obtain rfl:=len0 us hl; rfl)):Fe P w K mg base k x F :=
 let ⟨f,fd,m,Fu⟩:=D; ⟨f,fd,ps,m,Fu.kp,Fu.binds hb,ok Fu⟩
end
theorem iD (h:n<=100000):n<sizeLine:=RN h (by decide)
theorem pS (h:n<=100000):n<=sizeLine:=Sg (iD h)
structure gz (P:Program) (w:World) (K:PN) (mg:Str->Option Value) (base:Heap) (k:Nat) (f:Addr) (F:Fn):Prop where
 ex:∃ fd ps,RI K (.ref f)=true/\Binds K fd ps []/\bu P w K mg base (di P w) k f fd ps (eX K F)
section
variable {K:PN} {c:Ctx P w K mg base k N sc bk}
theorem eG.at_ (h:eG P w K mg base j x F):∃ f,mg x=some (.ref f)/\gz P w K mg base j f F:=by
 obtain ⟨f,fd,ps,a,b,c,d⟩:=h.ex
 exact ⟨f,a,fd,ps,b,c,d⟩
theorem BX (hm:mg x=some (.ref f)) (hR:R (.adr f)) (hg:sc.names.lookup x=some .globalImplicit:=by walk_at "u") (hd:(x == ("__debug__":Str))=false:=by decide) :
 aJ c (.Name x pos) ρ R:=λσ H Hf Q S q =>
 bJ (uP (X:=c.X) (v:=.ref f) (u:=.ref f) (by unfold Gl Qx; rw [c.esc]; exact hg) (by rw [c.emg]; exact hm) rfl hd) (q _ _ H Hf hR (fm.mpr rfl) (.refl S.sb))
theorem BY (h:gz P w K mg base j f F) (hj:j<=k):RI K (.ref f)=true /\
 ∀ (aa:List (Addr×Obj)) (σ:L2.St) (H Hf:Hp) (s:Shared) (us:List Value) (vs:List V) (ds:List D) (r:Res) (Q:VK),Inv c.X aa σ H s->bw c σ H Hf ρ->Vals vs us->aq c.X.K Hf ds vs->F ds r ->
  (∀ sl v H' aj,r=.ok sl->aW c.X.K (λp=>H p=none) H' aj sl v->aY H Hf H' aj->Q v H')->(∀ C,r=.ex C->c.RX C ρ)->wpAny (model c.X.prog c.X.w) c.X.A (call (.ref f) us) (EP c.X aa σ Q) c.X.xe s:=by
 obtain ⟨fd,ps,hk,hb,hF⟩:=h.ex
 refine ⟨hk,λaa σ H Hf s us vs ds r Q I S rv rs hr q hx=>?_⟩
 have hF':bu c.X.prog c.X.w c.X.K c.X.mg c.X.base (di c.X.prog c.X.w) k f fd ps (eX c.X.K F):=by rw [c.eP,c.ew,c.eK,c.emg,c.eb]; exact hF.mono hj
 have mQ:eX c.X.K F vs H Q (λcv ao H'=>∃ C,r=.ex C/\cv=.ref C/\aL H H'):=by
  refine ⟨Hf,ds,r,S.bas.b,rs,hr,?_⟩
  cases r with
  | ok sl=>exact λv H' aj g rs2=>q sl v H' aj rfl rs2 g
  | ex C=>exact λa H' s2=>⟨C,rfl,rfl,s2⟩
 have hl:us.length=ps.length:=by rw [<- rv.length]; exact hF'.len _ _ _ _ mQ
 have hb':Binds c.X.K fd ps []:=by rw [c.eK]; exact hb
 have hb2:=hb' s us I.l8 (by simpa using hl)
 rw [QX] at hb2
 refine SW (SK (hF'.run c.X.A c.X.stack s H ⟨us,[]⟩ us vs Q _ c.room I.zQ hb2 rv mQ) λr' s' hq=>?_)
 cases r' with
 | error e =>
  obtain ⟨a,C,H',rfl,hE,C',e1,e2,sm⟩:=hq
  cases e2
  exact c.exc C a aa σ H Hf ρ s H' s' I S (hx C e1) hE sm
 | ok fl =>
  cases fl with
  | ret u=>exact I.after hq
  | next=>exact QM hq
  | brk=>exact QM hq
  | cont=>exact QM hq
theorem jf {R:Sl->Prop} (h:gz P w K mg base j f F) (hj:j<=k) (hN:At N i x) (hi:At ρ i (.va (.adr f)))
 (ha:qo c (e::es) ρ λds=>∃ r,F ds r/\IX c ρ R r)
 (hdb:(x == ("__debug__":Str))=false:=by decide) (hcd:(x == ("__classdict__":Str))=false:=by decide) (he:∀ env,starEach (e::es) env=(false,eval e env)::starEach es env:=by intro _; walk_at "u")
 (hpl:∀ env,(backTo pos (starEach es env)).any (·.1)=false:=by intro _; walk_at "u"):cN c (.Call (.Name x p) (e::es) [] pos) ρ R:=λσ H Hf Q S q aa s I=>by
 obtain ⟨hk,run⟩:=BY (c:=c) (ρ:=ρ) h hj
 obtain ⟨v0,e0,r0⟩:=S.va hi.get
 rw [fm] at r0
 subst r0
 refine Ry (bz (c.jW hN hdb hcd aa s σ H (λv H1=>v=.ref f/\H1=H) I ⟨_,e0,rfl,rfl⟩) λfv s1 ⟨v,H1,I1,rv,e1,e2⟩=>?_)
 subst e1 e2
 have ef:fv=.ref f:=rv
 subst ef
 refine TV (h₀:=c.X.base) I1.ok.mod.kin (by rw [c.eK]; exact hk) (bz (ha σ _ Hf (λvs H1=>∃ aM ds,(∃ r,F ds r/\IX c ρ R r)/\aq c.X.K aM ds vs/\aY _ Hf H1 aM) S (λds vs H1 aM hr rs g=>⟨aM,ds,hr,rs,g⟩) pos aa s1 I1) λus s2 ⟨vs,H2,I2,rv,aM,ds,⟨r,hF,hR⟩,rs,g⟩=>⟨I2.l8,?_⟩) (he _) (hpl _)
 refine run aa σ H2 aM s2 us vs ds r Q I2 (S.cA g) rv rs hF (λsl v H' aj e1 rs2 g2=>?_) λC e1=>?_
 ·subst e1
  exact q sl v H' aj hR (rs2.weak λp hp=>g.s.free hp) (g.trans g2)
 ·subst e1
  exact hR
end
end EV
namespace EV
open PySem PySem.Spec PySem.Calls PyProof.Rows L2
theorem yC (hc:X.calm=true) (I:Inv X aa σ H s) (sb:aL Hf H) (hv:s.heap.IsItemsView v d) (hH:Hf d=some (.frz o u)) (hd:HO.dct u) (hp:Paired (nh X.K Hf) ds (bN u))
 (hQ:∀ (a:Addr) (s':Shared) (H' aj:Hp) (xs:List V),Inv X aa σ H' s'->H' a=some (.lst xs)->H a=none->aj a=none->aq X.K aj ds xs->aY H Hf H' aj->Q (.ref a) s'):wpAny (model X.prog X.w) X.A (call (.type "list") [.ref v]) Q E s:=by
 obtain ⟨ho,ok⟩:=(show bq X.prog X.w H s.heap d (.frz o u) from I.hok d _ (sb _ _ hH))
 obtain ⟨_,_,_,_,_,_,hz⟩:=cP ok hd ho
 have h1:X.A.in1.handled=none:=I.ok.hd hc
 have h2:X.A.in1.frames=some X.stack:=I.ok.frames
 refine callType_codes (Q₁:=λobj s₁=>obj=.ref s.heap.objs.size/\s₁={ s with heap:=s.heap.push { cls:=.type "list",data:=.seq #[] } }) F.called_list (F.typeCall_list_1 _) F.entry_list_init
  (code_list_new _ ⟨rfl,rfl⟩) λobj s₁ h₁=>?_
 obtain ⟨rfl,rfl⟩:=h₁
 have hS:(s.heap.push { cls:=.type "list",data:=.seq #[] }).get? s.heap.objs.size=some { cls:=.type "list",data:=.seq #[] }:=Qd _ rfl
 refine ⟨⟨_,hS,rfl⟩,F.args_list_init_2 _ _,?_⟩
 show wpAny _ X.A.in1.in1 (do let old <- TQ (.ref s.heap.objs.size); R5 (.ref s.heap.objs.size) (λ_=> #[]); letGo old.toList.reverse; Ux (.ref s.heap.objs.size) (.ref v) .none) _ _ _
 refine PK (Ue hS rfl ?_)
 have HS:H s.heap.objs.size=none:=I.hok.fresh (PU _)
 have I1:Inv X aa σ (upd H s.heap.objs.size (.lst [])) { s with heap:=s.heap.push { cls:=.type "list",data:=.seq ([]:List Value).toArray },toks:=s.toks }:=I.Ed (t':=s.toks) (ys:=[]) (its:=[]) .nil (Qv _)
 refine PK (Ru hS rfl ?_)
 have I2:=I1.sW (f:=λ_=>(#[]:Array Value)) (its':=[]) (ys:=[]) (t':=s.toks) ai (n:=0) hS (by simp) .nil (Qv _)
 rw [nV] at I2
 refine PK (SO ?_)
 have k1:∀ b o,s.heap.get? b=some o->((s.heap.push { cls:=.type "list",data:=.seq ([]:List Value).toArray }).update s.heap.objs.size (QB λ_=>(#[]:Array Value))).get? b=some o:=λb o e=>by
  rw [R9 _ _ _ _ (Qu (P1 e))]
  exact PY _ e
 have up:∀ s':Shared,(∀ b o,s.heap.get? b=some o->s'.heap.get? b=some o)->s'.heap.IsItemsView v d:=λs' k=>by obtain ⟨q,q1,q2⟩:=hv; exact ⟨q,k _ _ q1,q2⟩
 have hne:s.heap.objs.size≠v:=Sf (by obtain ⟨_,q,_⟩:=hv; exact P1 q)
 have g0:aY H Hf (upd H s.heap.objs.size (.lst [])) Hf:=aY.gj sb HS
 refine nG (X:=E4 X X.A.in1) (T:="dict_items") (ds:=ds) (H:=H) (Hf:=Hf) (R:=wants (λr s₂=>r=.none/\Q (.ref s.heap.objs.size) s₂) E) hc h1 h2 (jB I2 (λ_=>h1) h2) sb HS hne ?_ (by rw [Rl hp]; exact hz) (by decide) (λs' k=>(up s' λb o e=>k b o (k1 b o e)).typeIs) (λA s' Q E q h=>yi q h) ?_ λs' H' aj xs I' hS' hfS hr g=>⟨rfl,hQ _ s' H' aj xs (gr I.ok I') hS' HS hfS hr g⟩
 ·show _<(Heap.update _ _ _).objs.size
  rw [Wm]
  show _<(Heap.push _ _).objs.size
  rw [RC]; exact SA _
 ·refine QL (E6 (X:=E4 X X.A.in1) (tg:=.Name "x" ⟨0,0,0,0⟩) (jB I2 (λ_=>h1) h2) (up _ k1) (g0.b _ _ hH) hd) (λitv s2 hh=>z3 hh λit es ep hh=>w7 hh λe hit I3 Tn t0 hf k2=>?_) λ_ _ x=>x
  exact ⟨it,_,_,e,hit,I3,Tn,t0,hf,k2,tN hH hp⟩
section
variable {K:PN} {c:Ctx P w K mg base k N sc bk}
theorem rM (hm:mg "list"=none) (h:aJ c e ρ λd=>∃ ds,d.pairs=some ds/\R (.ow ds)) (hg:sc.names.lookup (PM "list")=some .globalImplicit:=by walk_at "u")
 (hb:∀ env,attributeBase e "items" env (eval e env)=eval e env:=by intro _; walk_at "u") (hl:(ap.endLine == cp.line)=true:=by walk_at "u") :
 cN c (.Call (.Name "list" np) [.Call (.Attribute e "items" ap) [] [] cp] [] pos) ρ R:=λσ H Hf Q S q aa s I=>by
 have hgl:Gl c.X "list":=by unfold Gl Qx; rw [c.esc]; exact hg
 refine Ry (dz I hgl (by rw [c.emg]; exact hm) (show bootBuiltins "list"=some (.type "list") by decide +kernel) ?_ (by decide) (by decide))
 have hpa:=bF (X:=c.X) (e:=.Call (.Attribute e "items" ap) [] [] cp) (es:=[]) (Bx cQ (hb _) hl) cL (by rfl)
 refine S6 (bz (hpa pos aa s σ H (λvs H1=>∃ x,vs=[x]/\∃ (v d:Addr) (o:Obj) (u:HO) (ds:List D) (H0 DO:Hp),x=.ref v/\H1=upd H0 v (.ext λh=>h.IsItemsView v d)/\H0 v=none/\DO d=some (.frz o u)/\HO.dct u/\Paired (nh c.X.K DO) ds (bN u)/\aY H Hf H0 DO/\R (.ow ds)) I ?_) λus s1 hh=>z2 hh λvs H1 hh=>w3 hh λI1 r1 hh=>hh.elim λx hh=>w2 hh λex hh=>z4 hh λv d o u hh=>z3 hh λds H0 DO hh=>w8 hh λe1 e2 e3 e4 e5 e6 e8 e9=>?_) (by rfl) (by rfl)
 ·exact h σ H Hf _ S λd v H1 aM ⟨ds,hp,hR⟩ rv g=>by
   obtain ⟨a,o,u,e1,e2,e3,e4⟩:=yb hp rv
   exact ⟨a,o,u,e1,g.b _ _ e2,e3,λvw hv=>⟨_,rfl,vw,a,o,u,ds,H1,aM,rfl,rfl,hv,e2,e3,e4,g,hR⟩⟩
 ·subst ex e1 e2
  have eu:us=[.ref v]:=by
   cases r1 with
   | cons q1 q2=>cases q2; cases q1; rfl
  subst eu
  have g1:aY H0 DO (upd H0 v (.ext λh=>h.IsItemsView v d)) DO:=aY.gj e8.b e3
  obtain ⟨hvw,_⟩:=(show bq c.X.prog c.X.w _ s1.heap v (.ext λh=>h.IsItemsView v d) from I1.hok v _ ai)
  refine yC c.calm I1 g1.b hvw e4 e5 e6 λa s' H' aj xs I' hS' na zA hr g=>?_
  have gg:=(e8.trans g1).trans g
  exact ⟨.ref a,H',I',rfl,q (.ow ds) _ _ aj e9 ⟨a,xs,rfl,e8.s.free (g1.s.free na),hS',zA,hr⟩ gg⟩
end
theorem BZ {K:PN}:∀ {ds:List D} {xs:List V} {us:List Value},aq K Hf ds xs->Vals xs us->Paired (λd u=>jZ K Hf d u) ds us
 | [],xs,us,h,v=>by rw [aC] at h; subst h; cases v; exact .nil
 | t::L,xs,us,h,v=>by
  obtain ⟨x,r,rfl,h1,h2⟩:=aF.mp h
  cases v with
  | cons r1 r2=>exact .cons ⟨x,r1,h1⟩ (BZ h2 r2)
theorem B0 {K:PN}:∀ {ds:List D} {us:List Value},Paired (λd u=>jZ K Hf d u) ds us->∃ xs,aq K Hf ds xs/\Vals xs us
 | _,_,.nil=>⟨[],aC.mpr rfl,.nil⟩
 | _,_,.cons ⟨x,r1,h1⟩ t=>by
  obtain ⟨xs,h2,h3⟩:=B0 t
  exact ⟨x::xs,.cons h1 h2,.cons r1 h3⟩
theorem tZ (hc:X.calm=true) (I:Inv X aa σ H s) (sb:aL Hf H) (hl:f7 X.K Hf l ys) (hr:aq X.K Hf ds ys) (hd:∀ d∈ds,∃ es,d=.lst es)
 (hQ:∀ (ds':List D) (xs':List V) (s':Shared) (a:Addr),ds'.Perm ds->aq X.K Hf ds' xs'->H a=none->Inv X aa σ (upd H a (.lst xs')) s'->Q (.ref a) s') :
 wpAny (model X.prog X.w) X.A (call (.builtin "sorted") [.ref l] [(PM "key",.builtin "len")]) Q E s:=by
 refine call_function_entry_kw kind_sorted plain_sorted entry_sorted (SR.jY _ _) ?_
 unfold Builtin.«sorted»
 refine PK (m:=checkCount "sorted" 1 1 _) (PR ?_)
 obtain ⟨its,rv,p,hz⟩:=I.list (sb.seq hl)
 have el:=rv.length
 refine PK (collect_list p.isList ?_ (by lia))
 have I2:Inv X aa σ H { s with heap:=(s.heap.push (seqObj "list" #[] 0)).update s.heap.objs.size (QB (· ++its.toArray)),toks:=s.toks }:=I.kept λc o e=>by
  rw [R9 _ _ _ _ (Qu (P1 e))]
  exact PY _ e
 generalize (s.heap.push (seqObj "list" #[] 0)).update s.heap.objs.size (QB (· ++its.toArray))=h0 at I2 |-
 refine PK (Ua ?_ (by lia))
 have ha:(h0.push (seqObj "list" its.toArray 0)).get? h0.objs.size=some (seqObj "list" its.toArray 0):=Qd _ rfl
 have Ha:H h0.objs.size=none:=I2.hok.fresh (PU _)
 have k2:∀ b o,h0.get? b=some o->(h0.push (seqObj "list" its.toArray 0)).get? b=some o:=λb o e=>PY _ e
 have I3:Inv X aa σ H { s with heap:=h0.push (seqObj "list" its.toArray 0),toks:=s.toks }:=I2.kept (t':=s.toks) k2
 have pL:=BZ hr rv
 refine PK (Rb (VU slot_list_sort ⟨_,ha,rfl⟩ entry_list_sort (SR.Bu ha (by lia) (λv hv=>?_) λout h' tk e hp he hk=>⟨_,rfl,?_⟩) (SR.iA _ _)))
 ·obtain ⟨d,hd',x,r1,h1⟩:=SR.iz pL v hv
  obtain ⟨es,rfl⟩:=hd d hd'
  obtain ⟨b,zs,rfl,q1,q2⟩:=aX.mp h1
  cases r1
  obtain ⟨its',rv',p',hz'⟩:=I3.list (sb.seq q1)
  have e':=rv'.length
  refine ⟨b,its'.toArray,rfl,?_,p'.isList,by simp only [Qm]; lia⟩
  rintro rfl
  obtain ⟨_,_,p2,_⟩:=I2.list (sb.seq q1)
  obtain ⟨o,q,_⟩:=p2.isList
  exact RD _ (P1 q)
 ·obtain ⟨ds',p1,p2⟩:=SR.gq hp pL
  obtain ⟨xs',r',v'⟩:=B0 p2
  have hlen:out.toList.length=its.length:=hp.length_eq
  refine PR ⟨_,rfl,hQ ds' xs' _ _ p1 r' Ha ?_⟩
  refine I2.laid (t':=tk) (a:=h0.objs.size) (λb o q=>hk b o (Qu (P1 q)) (k2 b o q)) (PU _) ⟨by have:=v'.length; lia,out.toList,e,v',by simpa using he⟩
section
variable {K:PN} {c:Ctx P w K mg base k N sc bk}
theorem yD (hm:mg "sorted"=none) (hml:mg "len"=none) (h:aJ c e ρ λd=>∃ ds,d=.lst ds/\Sd (∀ x∈ds,∃ es,x=.lst es) (∀ ds':List D,ds'.Perm ds->R (.ow ds')))
 (hg:sc.names.lookup (PM "sorted")=some .globalImplicit:=by walk_at "u") (hgl:sc.names.lookup (PM "len")=some .globalImplicit:=by walk_at "u")
 (he:∀ env,starEach [e] env=(false,eval e env)::starEach [] env:=by intro _; walk_at "u")
 (hpl:∀ env,(backTo pos (starEach [e] env)).any (·.1)=false:=by intro _; walk_at "u") :
 cN c (.Call (.Name "sorted" np) [e] [⟨some "key",.Name "len" kp1,kp⟩] pos) ρ R:=λσ H Hf Q S q aa s I=>by
 have hgs:Gl c.X "sorted":=by unfold Gl Qx; rw [c.esc]; exact hg
 have hgl':Gl c.X "len":=by unfold Gl Qx; rw [c.esc]; exact hgl
 refine Ry (dz I hgs (by rw [c.emg]; exact hm) (show bootBuiltins "sorted"=some (.builtin "sorted") by decide +kernel) ?_ (by decide) (by decide))
 refine callWith_kw ?_ (by rw [he]; rfl) (hpl _)
 have hpa:=bF (X:=c.X) (e:=e) (es:=[]) cQ cL (he _)
 refine bz (hpa pos aa s σ H (λvs H1=>∃ x,vs=[x]/\∃ (ds:List D) (aM:Hp),Rep c.X.K aM (.lst ds) x/\(∀ x∈ds,∃ es,x=.lst es)/\aY H Hf H1 aM/\∀ ds':List D,ds'.Perm ds->R (.ow ds')) I ?_) λus s1 hh=>z2 hh λvs H1 hh=>w3 hh λI1 r1 hh=>hh.elim λx hh=>w2 hh λex hh=>z2 hh λds aM hh=>w4 hh λe1 e7 e8 e9=>?_
 ·exact h σ H Hf _ S λd v H1 aM ⟨ds,hp,⟨hn,hR⟩⟩ rv g=>⟨_,rfl,ds,aM,by rw [<- hp]; exact rv,hn,g,hR⟩
 ·subst ex
  obtain ⟨a0,ys,rfl,hs,hr⟩:=aX.mp e1
  have eu:us=[.ref a0]:=by
   cases r1 with
   | cons q1 q2=>cases q2; cases q1; rfl
  subst eu
  refine kws_cons (dz I1 hgl' (by rw [c.emg]; exact hml) (show bootBuiltins "len"=some (.builtin "len") by decide +kernel) ?_ (by decide) (by decide))
  refine kws_nil ?_
  exact tZ c.calm I1 e8.b hs hr e7 λds' xs' s' a p1 p3 na I3=>⟨.ref a,_,I3,rfl,q (.ow ds') _ _ aM (e9 ds' p1) ⟨a,xs',rfl,e8.s.free na,ai,e8.b.free na,p3⟩ (e8.trans (aY.gj e8.b na))⟩
end
mutual
def Sh.d:Sh->D
 | .v d=>d
 | .l ds=>.lst ds
 | .la _ ds=>.lst ds
 | .t ss=>.tup (Sh.ds ss)
 | .ls ss=>.lst (Sh.ds ss)
def Sh.ds:List Sh->List D
 | []=>[]
 | s::ss=>s.d::Sh.ds ss
end
section
variable {K:PN} {H Hf H' aj:Hp}
mutual
theorem aG.rep (sf:aL Hf aj):∀ (s:Sh) {v:V} {fp:Fp},(∀ a∈fp,aj a.1=some (.lst a.2))->aG K H Hf s v fp->Rep K aj s.d v
 | .v d,_,_,_,h=>by simp only [aG] at h; exact h.1.mono sf d
 | .l ds,_,_,hk,h=>by
  simp only [aG] at h
  obtain ⟨p,xs,e,h1,h2,h3,rfl⟩:=h
  exact aX.mpr ⟨p,xs,e,.inl (.inl (hk _ P4)),h3.mono sf ds⟩
 | .la p ds,_,_,hk,h=>by
  simp only [aG] at h
  obtain ⟨xs,e,h1,h2,h3,rfl⟩:=h
  exact aX.mpr ⟨p,xs,e,.inl (.inl (hk _ P4)),h3.mono sf ds⟩
 | .t ss,_,_,hk,h=>by
  simp only [aG] at h
  obtain ⟨a,xs,e,h1,h2⟩:=h
  exact aH.mpr ⟨a,xs,e,av sf h1,ah.rep sf ss hk h2⟩
 | .ls ss,_,_,hk,h=>by
  simp only [aG] at h
  obtain ⟨p,xs,fq,e,h1,h2,h3,rfl⟩:=h
  exact aX.mpr ⟨p,xs,e,.inl (.inl (hk _ P4)),ah.rep sf ss (λa ha=>hk a (P9 _ ha)) h3⟩
theorem ah.rep (sf:aL Hf aj):∀ (ss:List Sh) {xs:List V} {fp:Fp},(∀ a∈fp,aj a.1=some (.lst a.2))->ah K H Hf ss xs fp->aq K aj (Sh.ds ss) xs
 | [],_,_,_,h=>by simp only [ah] at h; exact aC.mpr h.1
 | s::ss,_,_,hk,h=>by
  simp only [ah] at h
  obtain ⟨x,r,f1,f2,e,h1,h2,rfl⟩:=h
  exact aF.mpr ⟨x,r,e,aG.rep sf s (λa ha=>hk a (R8 _ ha)) h1,ah.rep sf ss (λa ha=>hk a (QH _ ha)) h2⟩
end
noncomputable def fS (H:Hp) (fp:Fp):Hp:=λa=>if a∈fp.map (·.1) then none else H a
noncomputable def c8 (g:Addr->List V->HO):Fp->Hp->Hp
 | [],H=>H
 | p::fp,H=>upd (c8 g fp H) p.1 (g p.1 p.2)
noncomputable def l5:Addr->List V->HO:=λ_ xs=>.lst xs
theorem bX (h:a∉fp.map (·.1)):fS H fp a=H a:=if_neg h
theorem jg (h:a∈fp.map (·.1)):fS H fp a=none:=if_pos h
theorem aS:∀ {fp:Fp},a∉fp.map (·.1)->c8 g fp H a=H a
 | [],_=>rfl
 | p::fp,h=>by
  rw [PZ,P8,not_or] at h
  show upd _ _ _ a=_
  rw [ak h.1,aS h.2]
theorem bU:∀ {fp:Fp},(fp.map (·.1)).Nodup->∀ a∈fp,c8 g fp H a.1=some (g a.1 a.2)
 | p::fp,nd,a,ha=>by
  rw [PZ,Rf] at nd
  show upd _ _ _ a.1=_
  rcases P8.mp ha with rfl | ha
  ·exact ai
  ·rw [ak λe=>nd.1 (by rw [<- e]; exact Qe.mpr ⟨a,ha,rfl⟩)]
   exact bU nd.2 a ha
theorem bM {fp:Fp} (h:a∈fp.map (·.1)):∃ p∈fp,p.1=a:=Qe.mp h
theorem nN (hp:∀ a∈fp,∃ xs,Hf a.1=some (.lst xs)) (h:cU K Hf a xs):cU K (fS Hf fp) a xs:=by
 have no:∀ {o:HO},Hf a=some o->(∀ ys,o≠.lst ys)->fS Hf fp a=some o:=λe k=>by
  rw [bX λm=>by obtain ⟨p,hm,rfl⟩:=bM m; obtain ⟨ys,e2⟩:=hp p hm; rw [e] at e2; cases e2; exact k _ rfl]; exact e
 rcases h with (h | ⟨o',h⟩) | h
 ·exact .inl (.inl (no h (by intro _ z; cases z)))
 ·exact .inl (.inr ⟨o',no h (by intro _ z; cases z)⟩)
 ·exact .inr h
mutual
theorem wu {fp:Fp} (hp:∀ a∈fp,∃ xs,Hf a.1=some (.lst xs)):∀ (d:D) {v:V},d.nl->Rep K Hf d v->Rep K (fS Hf fp) d v
 | .non,_,_,h=>by simpa [Rep] using h
 | .bl _,_,_,h=>by simpa [Rep] using h
 | .int _,_,_,h=>by simpa [Rep] using h
 | .str _,_,_,h=>by simpa [Rep] using h
 | .adr _,_,_,h=>by simpa [Rep] using h
 | .tup ds,v,f,h=>by
  simp only [Rep] at h |-
  obtain ⟨a,xs,e,h1,h2⟩:=h
  exact ⟨a,xs,e,nN hp h1,lV hp ds (by simpa [D.nl] using f) h2⟩
 | .lst _,_,f,_=>by simp [D.nl] at f
 | .fdK _ _,_,f,_=>by simp [D.nl] at f
 | .fdT _ _,_,f,_=>by simp [D.nl] at f
 | .exc C,_,_,h=>by
  simp only [Rep] at h |-
  obtain ⟨a,e,h⟩:=h
  refine ⟨a,e,?_⟩
  rw [bX λm=>by obtain ⟨p,hm,rfl⟩:=bM m; obtain ⟨ys,e2⟩:=hp p hm; rw [h] at e2; cases e2]; exact h
theorem lV {fp:Fp} (hp:∀ a∈fp,∃ xs,Hf a.1=some (.lst xs)):∀ (ds:List D) {xs:List V},D.kh ds->aq K Hf ds xs->aq K (fS Hf fp) ds xs
 | [],_,_,h=>by simpa [aq] using h
 | d::ds,xs,f,h=>by
  simp only [aq] at h |-
  simp only [D.kh] at f
  obtain ⟨x,r,e,h1,h2⟩:=h
  exact ⟨x,r,e,wu hp d f.1 h1,lV hp ds f.2 h2⟩
end
theorem lW (nd:(fp.map (·.1)).Nodup) (hz:∀ a∈fp,H a.1=some (pl a.1 a.2)/\Hf a.1=none) (g:aY (c8 l5 fp H) (c8 l5 fp Hf) H' aj):aY H Hf (c8 pl fp H') (fS aj fp):=by
 refine ⟨λb o e=>?_,λb o e=>?_,λb o e=>?_,λb h1 h2 h3=>?_⟩
 ·by_cases m:b∈fp.map (·.1)
  ·obtain ⟨p,hp,rfl⟩:=bM m
   rw [bU nd p hp,<- (hz p hp).1]; exact e
  ·rw [aS m]; exact g.s b o (by rw [aS m]; exact e)
 ·have m:b∉fp.map (·.1):=λm=>by obtain ⟨p,hp,rfl⟩:=bM m; rw [(hz p hp).2] at e; cases e
  rw [bX m]; exact g.f b o (by rw [aS m]; exact e)
 ·by_cases m:b∈fp.map (·.1)
  ·rw [jg m] at e; cases e
  ·rw [bX m] at e; rw [aS m]; exact g.b b o e
 ·by_cases m:b∈fp.map (·.1)
  ·exact jg m
  ·rw [bX m]; exact g.n b (by rw [aS m]; exact h1) (by rw [aS m]; exact h2) λxs=>by rw [aS m]; exact h3 xs
end
theorem G6:bq P w H h p (pl p xs)↔bq P w H h p (.lst xs):=by
 constructor
 ·exact λq=>q.1
 ·rintro ⟨z,its,n,r,e⟩
  exact ⟨⟨z,its,n,r,e⟩,⟨_,e⟩,λh1 h2 ⟨z,its,n,r,e⟩ k=>⟨z,its,n,r,k _ e⟩⟩
theorem o6 (I:Inv X aa σ H s) (h:H a=some (.lst xs)):Inv X aa σ (upd H a (pl a xs)) s :=
 oG I h (by intro _ z; cases z) (by intro _ z; cases z) (by intro _ z; cases z) (λo z e=>by have q:=I.base.frzs a o z e; rw [h] at q; cases q) (G6.mpr (I.hok a _ h))
theorem B3 (I:Inv X aa σ H s) (h:H a=some (pl a xs)):Inv X aa σ (upd H a (.lst xs)) s :=
 oG I h (by intro _ z; cases z) (by intro _ z; cases z) (by intro _ z; cases z) (λo z e=>by have q:=I.base.frzs a o z e; rw [h] at q; cases q) (G6.mp (I.hok a _ h))
theorem fK (I:Inv X aa σ H s):∀ {fp:Fp},(fp.map (·.1)).Nodup->(∀ a∈fp,H a.1=some (pl a.1 a.2))->Inv X aa σ (c8 l5 fp H) s
 | [],_,_=>I
 | p::fp,nd,h=>by
  rw [PZ,Rf] at nd
  exact B3 (fK I nd.2 λa ha=>h a (P9 _ ha)) (by rw [aS nd.1]; exact h p P4)
theorem gB (I:Inv X aa σ H s):∀ {fp:Fp},(fp.map (·.1)).Nodup->(∀ a∈fp,H a.1=some (.lst a.2))->Inv X aa σ (c8 pl fp H) s
 | [],_,_=>I
 | p::fp,nd,h=>by
  rw [PZ,Rf] at nd
  exact o6 (gB I nd.2 λa ha=>h a (P9 _ ha)) (by rw [aS nd.1]; exact h p P4)
inductive Lj:List Sl->Prop where
 | nil:Lj []
 | cons {r:Sl} {l:List Sl} (h:r.sY=false):Lj l->Lj (r::l)
inductive rN:List Sl->Nat->Sh->Prop where
 | z {s:Sh} {l:List Sl}:Lj l->rN (.fo s::l) 0 s
 | s {r:Sl} {l:List Sl} {i:Nat} {s:Sh} (h:r.sY=false):rN l i s->rN (r::l) (i+1) s
theorem Lj.get (h:Lj l):∀ {j:Nat} {r:Sl},l[j]?=some r->r.sY=false:=by
 induction h with
 | nil=>intro j r e; simp at e
 | cons h _ ih =>
  intro j r e
  cases j with
  | zero=>simp at e; subst e; exact h
  | succ j=>exact ih (by simpa using e)
theorem rN.at_ {l:List Sl} {i:Nat} {s:Sh} (h:rN l i s):l[i]?=some (.fo s)/\∀ {j:Nat} {r:Sl},j≠i->l[j]?=some r->r.sY=false:=by
 induction h with
 | z h =>
  refine ⟨rfl,λ{j r} hj e=>?_⟩
  cases j with
  | zero=>exact absurd rfl hj
  | succ j=>exact h.get (by simpa using e)
 | s h _ ih =>
  refine ⟨by simpa using ih.1,λ{j r} hj e=>?_⟩
  cases j with
  | zero=>simp at e; subst e; exact h
  | succ j=>exact ih.2 (λz=>hj (congrArg (· +1) z)) (by simpa using e)
section
variable {K:PN}
theorem JW {R:Sl->Prop} (h:cN c e ρ λr=>∃ ds,r=.ow ds/\R (.fo (.l ds))):cN c e ρ R:=λσ H Hf Q S q aa s I=>by
 refine bz (h σ H Hf (λv H'=>∃ ds aj,aW c.X.K (λp=>H p=none) H' aj (.ow ds) v/\aY H Hf H' aj/\R (.fo (.l ds))) S (λr v H' aj ⟨ds,e,hR⟩ rs g=>⟨ds,aj,by rw [<- e]; exact rs,g,hR⟩) aa s I) λu s1 hh=>z2 hh λv H1 hh=>w3 hh λI1 rv hh=>z2 hh λds aM hh=>w3 hh λhh g hR=>z2 hh λa xs hh=>w5 hh λev fa h1 h2 h3=>?_
 subst ev
 exact ⟨_,_,o6 I1 h1,rv,q (.fo (.l ds)) _ _ aM hR ⟨[(a,xs)],by simp only [aG]; exact ⟨a,xs,rfl,ai,h2,h3,rfl⟩,by simp,λb hb=>by obtain rfl:=Qg.mp hb; exact fa⟩ (kg g fa h2)⟩
def Fx (c:Ctx P w K mg base k N sc bk) (es:List Expr) (ρ:List Sl) (R:List Sh->Prop):Prop :=
 ∀ (σ:L2.St) (H Hf:Hp) (Q:List V->Hp->Prop),bw c σ H Hf ρ->(∀ ss vs fp H' aj,R ss->ah c.X.K H' aj ss vs fp->(fp.map (·.1)).Nodup->(∀ a∈fp,H a.1=none)->aY H Hf H' aj->Q vs H')->bA c.X es σ H Q
theorem B4 {R:List Sh->Prop} (h:R []):Fx c [] ρ R:=λσ H Hf Q S q=>kQ cL (q [] [] [] H Hf h (by simp [ah]) List.nodup_nil (by intro a ha; cases ha) (.refl S.sb))
theorem JX {R:List Sh->Prop} (h:cN c e ρ λr=>∃ s,r.sh=some s/\Fx c es ρ λss=>R (s::ss)) (hs:∀ env,starEach (e::es) env=(false,eval e env)::starEach es env:=by intro _; walk_at "u"):Fx c (e::es) ρ R:=λσ H Hf Q S q =>
 kQ (bF cQ En (hs _)) (h σ H Hf _ S λr v H1 aM ⟨s,es,h1⟩ rs g1=>by
  obtain ⟨f1,r1,n1,fr1⟩:=A4 es rs
  have z1:=aG.fz s r1
  refine h1 σ H1 aM _ (S.cA g1) λss vs fp H2 cD h2 r2 n2 fr2 g2=>q (s::ss) (v::vs) (f1++fp) H2 cD h2 ?_ ?_ ?_ (g1.trans g2)
  ·simp only [ah]
   refine ⟨v,vs,f1,fp,rfl,aG.mv g2.f s (λa _ e1 e2=>⟨g2.s _ _ e1,g2.n a.1 e2 (by rw [e1]; simp) (by intro ys z; rw [e1] at z; cases z)⟩) r1,r2,rfl⟩
  ·rw [Qs,Tr]
   refine ⟨n1,n2,λa ha b hb e=>?_⟩
   subst e
   obtain ⟨p,hp,rfl⟩:=bM ha
   obtain ⟨p',hp',e'⟩:=bM hb
   have:=(z1 p hp).1
   rw [<- e',fr2 p' hp'] at this; cases this
  ·intro a ha
   rcases Qq.mp ha with ha | ha
   ·exact fr1 a ha
   ·exact g1.s.free (fr2 a ha))
theorem ah.len:∀ {ss:List Sh} {xs:List V} {fp:Fp},ah K H Hf ss xs fp->ss.length=xs.length
 | [],_,_,h=>by simp only [ah] at h; rw [h.1]; rfl
 | s::ss,_,_,h=>by
  simp only [ah] at h
  obtain ⟨x,r,f1,f2,rfl,_,h2,_⟩:=h
  rw [Qz,Qz,ah.len h2]
theorem t6 {R:Sl->Prop} (h:Fx c es ρ λss=>Sd (ss.length<=sizeLine) (R (.fo (.t ss)))):cN c (.Tuple es j pos) ρ R:=λσ H Hf Q S q =>
 bJ (zP En) (h σ H Hf _ S λss vs fp H' aj ⟨hl,hR⟩ r nd fr g=>⟨by rw [<- ah.len r]; exact hl,λp hp=>by
  have g2:=aY.new g.b hp (o:=.tup vs)
  have hz:=ah.fz ss r
  refine q _ _ _ _ hR ⟨fp,?_,nd,fr⟩ (g.trans g2)
  simp only [aG]
  exact ⟨p,vs,rfl,.inl (.inl ai),ah.mv g2.f ss (λa _ e1 e2=>⟨g2.s _ _ e1,g2.n a.1 e2 (by rw [e1]; simp) (by intro ys z; rw [e1] at z; cases z)⟩) r⟩⟩)
end
noncomputable def G7 (K:PN) (ok:Sh->Prop):Sp:=λvs H Q _=>∃ Hf s v fp,vs=[v]/\aL Hf H/\aG K H Hf s v fp/\(fp.map (·.1)).Nodup/\ok s/\∀ H' aj,aY (fS H fp) Hf H' aj->Q .non H'
structure Fy (P:Program) (w:World) (K:PN) (mg:Str->Option Value) (base:Heap) (k:Nat) (x:Str) (ok:Sh->Prop):Prop where
 ex:∃ f fd ps,mg x=some (.ref f)/\RI K (.ref f)=true/\Binds K fd ps []/\bu P w K mg base (di P w) k f fd ps (G7 K ok)
theorem o7:aL (fS H fp) H:=λb o e=>by
 by_cases m:b∈fp.map (·.1)
 ·rw [jg m] at e; cases e
 ·rw [bX m] at e; exact e
theorem B5 (sb:aL Hf H):aY (fS H fp) Hf H Hf:=⟨o7,.refl _,sb,λ_ h _ _=>h⟩
theorem yE {K:PN} (r:aG K H Hf s v fp) (nd:(fp.map (·.1)).Nodup) (sb:aL Hf H) (hN:1<=N.length) :
 dB K (fS H fp) Hf (L2.start N [v]) H Hf (.fo s::Qf (N.length - 1) .un):=by
 have rest:∀ (i:Nat) (r':Sl),(Sl.fo s::Qf (N.length - 1) Sl.un)[i]?=some r'->r'≠.un->i=0/\r'=.fo s:=λi r' h hu=>by
  cases i with
  | zero=>exact ⟨rfl,by simpa using h.symm⟩
  | succ i=>exact absurd (UD (QI (by simpa using h))) hu
 refine ⟨B5 sb,by simp [L2.start],λi r' h hu=>?_,λi j r1 r2 p hne e1 e2 o1 o2=>?_⟩
 ·obtain ⟨rfl,rfl⟩:=rest i r' h hu
  exact ⟨v,by simp [L2.start],fp,r,nd,λa ha=>jg (Qe.mpr ⟨a,ha,rfl⟩)⟩
 ·obtain ⟨_,rfl⟩:=rest i r1 e1 (by rintro rfl; cases o1)
  cases o1
section
variable {K:PN} {c:Ctx P w K mg base k N sc bk}
theorem OR {st:Stmt} (Fu:eS K x qual st f fd) (SV:FS N ps st) (h1:ps.length=1) (hN:1<=N.length)
 (body:∀ (c:Ctx P w K mg base k N (aQ st) false),c.X.xe=(λ_ _=>False)->∀ s,ok s->aI c (ay st) (.fo s::Qf (N.length - 1) .un) (λ_=>True) { rt:=λ_=>False }) :
 bu P w K mg base (di P w) (k+1) f fd ps (G7 K ok):=by
 obtain ⟨Sc,Vi⟩:=Aw SV
 obtain ⟨oc,od,kV,doc,pm,an,cdv,ct,osl,rfl,lk,hcd⟩:=Fu.ex
 refine zR lk hcd Sc (λvs H Q E ⟨Hf,s,v,fp,e,_⟩=>by rw [e,h1]; rfl) λA outer st' H vs Q E hr hh=>z4 hh λHf s v fp hh=>w6 hh λe sb rf nd hok hq=>?_
 subst e
 let X:Cx:=(p7 (di P w) P w K mg base N qual (aQ st) f cdv A outer st' H E).GD
 let c:Ctx P w K mg base k N (aQ st) false :=
  { X:=X,eP:=rfl,ew:=rfl,eK:=rfl,emg:=rfl,eb:=rfl,eN:=rfl,esc:=rfl,calm:=rfl,top:=λ_=>⟨rfl,rfl,rfl⟩,cb:=λ_ _ _ _ _ I x c h=>I.ok.cab x c rfl h,fn:=λ_ _=>.inl rfl,B:=fS H fp,room:=hr,nd:=Sc.nd,vis:=Vi,Hf:=Hf,RX:=λ_ _=>False,
    exc:=λ_ _ _ _ _ _ _ _ _ _ _ _ h _ _=>h.elim,RM:=λ_ _=>False,mde:=λ_ _ _ _ _ _ _ _ _ _ _ _ h _=>h.elim }
 refine ⟨_,sH.GD (t:=IP X (ay st)) (qm (X:=X)),?_⟩
 exact body c rfl s hok (L2.start N [v]) H Hf _ (yE rf nd sb hN) ⟨λσ H' aj ρ S _=>hq H' aj S.bas,λr v H' aj g rv e=>e.elim,λ_ _ _ _ _ h=>h.elim,λ_ _ _ _ _ h=>h.elim⟩
theorem bC {α:Type} {l:List α} {a b:α} (h:(l.set i a)[j]?=some b):(j=i/\b=a)\/(j≠i/\l[j]?=some b):=by
 by_cases e:j=i
 ·subst e
  have hl:j<l.length:=by have:=(Qa.mp h).1; simpa using this
  rw [Rh hl] at h
  exact .inl ⟨rfl,(RA h).symm⟩
 ·rw [Ri (Qp e)] at h
  exact .inr ⟨e,h⟩
noncomputable def Sh.raw:Sh->Option D | .v d=>some d | .la a _=>some (.adr a) | _=>none
noncomputable def yF:List Sh->Option (List D)
 | []=>some []
 | s::ss=>match s.raw,yF ss with | some d,some ds=>some (d::ds) | _,_=>none
theorem aG.raw (e:s.raw=some d) (h:aG K H Hf s v fp):Rep K Hf d v:=by
 cases s with
 | v d'=>cases e; simp only [aG] at h; exact h.1
 | la a ds=>cases e; simp only [aG] at h; obtain ⟨xs,e,_⟩:=h; exact fm.mpr e
 | _=>cases e
theorem ah.raw:∀ {ss:List Sh} {vs:List V} {fp:Fp} {ds:List D},yF ss=some ds->ah K H Hf ss vs fp->aq K Hf ds vs
 | [],_,_,_,e,h=>by cases e; simp only [ah] at h; exact aC.mpr h.1
 | s::ss,_,_,_,e,h=>by
  simp only [ah] at h
  obtain ⟨x,r,f1,f2,rfl,h1,h2,_⟩:=h
  unfold yF at e
  split at e
  ·rename_i d ds q1 q2
   cases e
   exact .cons (h1.raw q1) (ah.raw q2 h2)
  ·cases e
theorem JY (hN:At N i y) (hi:At ρ i (.fo (.t ss))) (hr:yF ss=some ds) (hR:R (.tup ds)) (hd:(y == ("__debug__":Str))=false:=by decide) (hcd:(y == ("__classdict__":Str))=false:=by decide):aJ c (.Name y py) ρ R:=λσ H Hf Q S q=>by
 obtain ⟨v,ev,fp,rf,nd,hfr⟩:=S.at_ i _ hi.get (by intro z; cases z)
 refine bJ (c.jW hN hd hcd) ⟨v,ev,q (.tup ds) v H Hf hR ?_ (.refl S.sb)⟩
 simp only [aG] at rf
 obtain ⟨a,xs,e,h1,h2⟩:=rf
 exact aH.mpr ⟨a,xs,e,h1,ah.raw hr h2⟩
end
section
variable {K:PN}
noncomputable def cK (L:List (Addr×List D)):List Sh:=L.map λx=>.la x.1 x.2
theorem wz (q1:H q=some (pl q xs)) (q2:Hf q=none) (q3:aq K Hf ds xs):aG K H Hf (.la q ds) (.ref q) [(q,xs)]:=by
 simp only [aG]
 exact ⟨xs,trivial,q1,q2,q3,rfl⟩
theorem ah.tag:∀ {dss:List (List D)} {vs:List V} {fp:Fp},ah K H Hf (dss.map .l) vs fp->∃ L:List (Addr×List D),L.map (·.2)=dss/\ah K H Hf (cK L) vs fp
 | [],_,_,h=>⟨[],rfl,h⟩
 | ds::dss,_,_,h=>by
  simp only [PZ,ah] at h
  obtain ⟨x,r,f1,f2,rfl,h1,h2,rfl⟩:=h
  obtain ⟨L,e,h3⟩:=ah.tag h2
  simp only [aG] at h1
  obtain ⟨p,xs,rfl,q1,q2,q3,rfl⟩:=h1
  refine ⟨(p,ds)::L,by rw [PZ,e],?_⟩
  show ah K H Hf (.la p ds::cK L) _ _
  simp only [ah]
  exact ⟨_,r,_,f2,rfl,wz q1 q2 q3,h3,rfl⟩
theorem dB.OS (S:dB K H₀ dR σ H Hf ρ) (h:ρ[i]?=some (.fo (.t (dss.map .l)))):∃ L:List (Addr×List D),L.map (·.2)=dss/\dB K H₀ dR σ H Hf (ρ.set i (.fo (.t (cK L)))):=by
 obtain ⟨v,ev,fp,rf,nd,hfr⟩:=S.at_ i _ h (by intro z; cases z)
 simp only [aG] at rf
 obtain ⟨a,xs,e,h1,h2⟩:=rf
 obtain ⟨L,eL,h3⟩:=ah.tag h2
 refine ⟨L,eL,S.bas,by simp [S.len],λj r hj hu=>?_,λj j' r r' q hne h1 h2 o1 o2=>?_⟩
 ·rcases bC hj with ⟨rfl,rfl⟩ | ⟨_,hj⟩
  ·exact ⟨v,ev,fp,by simp only [aG]; exact ⟨a,xs,e,h1,h3⟩,nd,hfr⟩
  ·exact S.at_ j r hj hu
 ·have out:∀ {j:Nat} {r:Sl},(ρ.set i (.fo (.t (cK L))))[j]?=some r->r.owned=true->ρ[j]?=some r:=λ{j r} hj ho=>by
   rcases bC hj with ⟨_,rfl⟩ | ⟨_,hj⟩
   ·cases ho
   ·exact hj
  exact S.sep j j' r r' q hne (out h1 o1) (out h2 o2) o1 o2
theorem ah.G8:∀ {pre post:List Sh} {vs:List V} {fp:Fp},ah K H Hf (pre++.la q ds::post) vs fp ->
 ∃ (xs:List V) (f1 f2:Fp),fp=f1++(q,xs)::f2/\H q=some (pl q xs)/\Hf q=none/\aq K Hf ds xs/\ah K H Hf (pre++.v (.adr q)::post) vs (f1++f2)
 | [],post,_,_,h=>by
  simp only [RW,ah] at h
  obtain ⟨x,r,f1,f2,rfl,h1,h2,rfl⟩:=h
  simp only [aG] at h1
  obtain ⟨xs,rfl,q1,q2,q3,rfl⟩:=h1
  refine ⟨xs,[],f2,rfl,q1,q2,q3,?_⟩
  simp only [RW,ah]
  exact ⟨_,r,[],f2,rfl,by simp only [aG]; exact ⟨fm.mpr rfl,trivial⟩,h2,rfl⟩
 | s::pre,post,_,_,h=>by
  simp only [Rz,ah] at h
  obtain ⟨x,r,f1,f2,rfl,h1,h2,rfl⟩:=h
  obtain ⟨xs,g1,g2,rfl,q1,q2,q3,q4⟩:=ah.G8 h2
  refine ⟨xs,f1++g1,g2,by rw [Qn],q1,q2,q3,?_⟩
  simp only [Rz,ah]
  exact ⟨x,r,f1,g1++g2,rfl,h1,q4,by rw [Qn]⟩
theorem ah.G9 (q1:H q=some (pl q xs)) (q2:Hf q=none) (q3:aq K Hf ds xs):∀ {pre post:List Sh} {vs:List V} {fp:Fp},ah K H Hf (pre++.v (.adr q)::post) vs fp ->
 ∃ (f1 f2:Fp),fp=f1++f2/\ah K H Hf (pre++.la q ds::post) vs (f1++(q,xs)::f2)
 | [],post,_,_,h=>by
  simp only [RW,ah] at h
  obtain ⟨x,r,f1,f2,rfl,h1,h2,rfl⟩:=h
  simp only [aG] at h1
  obtain ⟨h1,rfl⟩:=h1
  rw [fm] at h1
  subst h1
  refine ⟨[],f2,rfl,?_⟩
  simp only [RW,ah]
  exact ⟨_,r,[(q,xs)],f2,rfl,wz q1 q2 q3,h2,rfl⟩
 | s::pre,post,_,_,h=>by
  simp only [Rz,ah] at h
  obtain ⟨x,r,f1,f2,rfl,h1,h2,rfl⟩:=h
  obtain ⟨g1,g2,rfl,q4⟩:=ah.G9 q1 q2 q3 h2
  refine ⟨f1++g1,g2,by rw [Qn],?_⟩
  simp only [Rz,ah]
  exact ⟨x,r,f1,g1++(q,xs)::g2,rfl,h1,q4,by rw [Qn]⟩
theorem dB.Hg (S:dB K H₀ dR σ H Hf ρ) (h1:rN ρ i s) (hk:k<ρ.length) (hik:k≠i) (fq:H₀ q=none) (sI:Hf q=none) (hq:∀ (j:Nat) (r:Sl),j≠i->j≠k->ρ[j]?=some r->r.owned=true->σ[j]?≠some (some (.ref q)))
 (v1:r1≠.un->∃ v,σ[i]?=some (some v)/\aW K (λp=>H₀ p=none) (L2.upd H q o) Hf r1 v) (v2:r2≠.un->∃ v,σ[k]?=some (some v)/\aW K (λp=>H₀ p=none) (L2.upd H q o) Hf r2 v) (n1:r1.owned=false) (n2:r2.owned=true->σ[k]?=some (some (.ref q))) :
 dB K H₀ dR σ (L2.upd H q o) Hf ((ρ.set i r1).set k r2):=by
 obtain ⟨hi,ho⟩:=h1.at_
 have get:∀ {j:Nat} {r:Sl},((ρ.set i r1).set k r2)[j]?=some r->(j=k/\r=r2)\/(j≠k/\j=i/\r=r1)\/(j≠k/\j≠i/\ρ[j]?=some r):=λ{j r} h=>by
  rcases bC h with ⟨a,b⟩ | ⟨a,h⟩
  ·exact .inl ⟨a,b⟩
  ·rcases bC h with ⟨b,c⟩ | ⟨b,h⟩
   ·exact .inr (.inl ⟨a,b,c⟩)
   ·exact .inr (.inr ⟨a,b,h⟩)
 refine ⟨⟨λb u e=>by rw [L2.ak (aE e fq)]; exact S.bas.s b u e,S.bas.f,λb u e=>by rw [L2.ak (aE e sI)]; exact S.bas.b b u e,S.bas.n⟩,by simp [S.len],λj r hj hu=>?_,λj j' r r' p hne e1 e2 o1 o2=>?_⟩
 ·rcases get hj with ⟨rfl,rfl⟩ | ⟨_,rfl,rfl⟩ | ⟨a,b,hj⟩
  ·exact v2 hu
  ·exact v1 hu
  ·obtain ⟨v,e1,e2⟩:=S.at_ j r hj hu
   exact ⟨v,e1,aW.mv (B:=λz=>z=q) (.refl _) (λz u hz e1 _ e3=>⟨by rw [L2.ak hz]; exact e1,e3⟩) (λhf=>by rw [ho b hj] at hf; cases hf) (λow z ez e=>by subst e; subst ez; exact hq j r b a hj ow e1) e2⟩
 ·rcases get e1 with ⟨rfl,rfl⟩ | ⟨_,rfl,rfl⟩ | ⟨a,b,f1⟩
  ·intro s1 s2
   rw [n2 o1] at s1; cases s1
   rcases get e2 with ⟨rfl,rfl⟩ | ⟨_,rfl,rfl⟩ | ⟨a2,b2,f2⟩
   ·exact hne rfl
   ·rw [n1] at o2; cases o2
   ·exact hq j' r' b2 a2 f2 o2 s2
  ·rw [n1] at o1; cases o1
  ·rcases get e2 with ⟨rfl,rfl⟩ | ⟨_,rfl,rfl⟩ | ⟨a2,b2,f2⟩
   ·intro s1 s2
    rw [n2 o2] at s2; cases s2
    exact hq j r b a f1 o1 s1
   ·rw [n1] at o2; cases o2
   ·exact S.sep j j' r r' p hne f1 f2 o1 o2
end
section
variable {K:PN} {st:Stmt}
theorem JZ (i) (hi:At ρ i (.fo (.t (dss.map .l)))) (h:∀ L:List (Addr×List D),L.map (·.2)=dss->eU c st (ρ.set i (.fo (.t (cK L)))) nx p):eU c st ρ nx p:=λσ H Hf D S o=>by
 obtain ⟨L,e,S1⟩:=S.OS hi.get
 exact h L e σ H Hf D S1 o
theorem B6 (i j) (h1:rN ρ i (.t (pre++.la q ds::post))) (hj:At ρ j (.va (.adr q))) (h:aI c sts ((ρ.set i (.fo (.t (pre++.v (.adr q)::post)))).set j (.aw q ds)) nx p) (hij:j≠i):aI c sts ρ nx p:=λσ H Hf D S o aa s I=>by
 obtain ⟨v,ev,fp,rf,nd,hfr⟩:=S.at_ i _ h1.at_.1 (by intro z; cases z)
 obtain ⟨vj,evj,rj⟩:=S.va hj.get
 rw [fm] at rj
 subst rj
 simp only [aG] at rf
 obtain ⟨a,vs,e,t1,t2⟩:=rf
 obtain ⟨xs,f1,f2,rfl,q1,q2,q3,q4⟩:=ah.G8 t2
 have fq:c.B q=none:=hfr (q,xs) (by simp)
 have nq:q∉(f1++f2).map (·.1):=λm=>by
  rw [Qs,PZ,Tr,Rf] at nd
  rw [Qs,Qq] at m
  rcases m with m | m
  ·exact nd.2.2 q m q P4 rfl
  ·exact nd.2.1.1 m
 have I1:=B3 I q1
 refine h σ _ Hf D (S.Hg h1 (Qa.mp hj.get).1 hij fq q2 (λj' r a b hj' ow e=>?_) (λ_=>⟨v,ev,f1++f2,?_,?_,?_⟩) (λ_=>⟨_,evj,q,xs,rfl,⟨fq,rfl⟩,ai,q2,q3⟩) rfl λ_=>evj) o aa s I1
 ·obtain ⟨v',e',r'⟩:=S.at_ j' r hj' (by rintro rfl; cases ow)
  rw [e] at e'; cases e'
  obtain ⟨_,_,e2,_,_,_,nf⟩:=r'.vp ow
  cases e2
  exact nf ⟨xs,q1⟩
 ·simp only [aG]
  exact ⟨a,vs,e,t1,ah.mv (.refl _) _ (λz hz e1 e2=>⟨by rw [ak λe=>nq (by rw [<- e]; exact Qe.mpr ⟨z,hz,rfl⟩)]; exact e1,e2⟩) q4⟩
 ·rw [Qs] at nd |-
  exact nd.sublist (List.Sublist.append (List.Sublist.refl _) (by rw [PZ]; exact List.sublist_cons_self _ _))
 ·intro z hz
  exact hfr z (by rcases Qq.mp hz with h | h; exact R8 _ h; exact QH _ (P9 _ h))
theorem B7 (i j) (h1:rN ρ i (.t (pre++.v (.adr q)::post))) (hj:At ρ j (.aw q ds)) (h:aI c sts ((ρ.set i (.fo (.t (pre++.la q ds::post)))).set j .un) nx p) (hij:j≠i):aI c sts ρ nx p:=λσ H Hf D S o aa s I=>by
 obtain ⟨v,ev,fp,rf,nd,hfr⟩:=S.at_ i _ h1.at_.1 (by intro z; cases z)
 obtain ⟨vj,evj,rj⟩:=S.at_ j _ hj.get (by intro z; cases z)
 obtain ⟨q',xs,rfl,⟨fq,rfl⟩,q1,q2,q3⟩:=rj
 have hz:=aG.fz _ rf
 simp only [aG] at rf
 obtain ⟨a,vs,e,t1,t2⟩:=rf
 have nq:q'∉fp.map (·.1):=λm=>by
  obtain ⟨z,hm,rfl⟩:=bM m
  have:=(hz z hm).1
  rw [q1] at this; cases this
 have t3:=ah.mv (H':=upd H q' (pl q' xs)) (.refl _) _ (λz hz e1 e2=>⟨by rw [ak λe=>nq (by rw [<- e]; exact Qe.mpr ⟨z,hz,rfl⟩)]; exact e1,e2⟩) t2
 obtain ⟨f1,f2,rfl,t4⟩:=ah.G9 ai q2 q3 t3
 have I1:=o6 I q1
 refine h σ _ Hf D (S.Hg h1 (Qa.mp hj.get).1 hij fq q2 (λj' r a b hj' ow e=>?_) (λ_=>⟨v,ev,f1++(q',xs)::f2,?_,?_,?_⟩) (λz=>absurd rfl z) rfl λz=>by cases z) o aa s I1
 ·exact S.sep j' j r _ q' b hj' hj.get ow rfl e evj
 ·simp only [aG]
  exact ⟨a,vs,e,t1,t4⟩
 ·rw [Qs,PZ]
  rw [Qs] at nd nq
  rw [Tr] at nd |-
  rw [Qq,not_or] at nq
  refine ⟨nd.1,Rf.mpr ⟨nq.2,nd.2.1⟩,λa ha b hb e=>?_⟩
  rcases P8.mp hb with rfl | hb
  ·subst e; exact nq.1 ha
  ·exact nd.2.2 a ha b hb e
 ·intro z hz
  rcases Qq.mp hz with h | h
  ·exact hfr z (R8 _ h)
  ·rcases P8.mp h with rfl | h
   ·exact fq
   ·exact hfr z (QH _ h)
end
end EV
namespace EV
open PySem PySem.Spec PyProof.Rows L2
noncomputable def yG (t:aN):aN:=(t.1,-t.2)
theorem Fz (h:trim m=m) (hn:m≠[]):bZ m (m.length - 1)≠0:=by
 rcases List.eq_nil_or_concat m with rfl | ⟨l,x,rfl⟩
 ·exact absurd rfl hn
 ·rw [List.concat_eq_append] at h |-
  intro z
  have e:bZ (l++[x]) ((l++[x]).length - 1)=x:=by
   rw [dN (by simp)]; simp
  rw [e] at z; subst z
  rw [gR] at h
  have:=gu l
  rw [h,QE,UL] at this
  lia
theorem yH (hl:trim l=l) (hm:trim m=m) (h:∀ i,bZ l i=bZ m i):l=m:=by
 have key:∀ {l m:List Int},trim m=m->(∀ i,bZ l i=bZ m i)->m.length<=l.length:=λ{l m} hm h=>by
  rcases Nat.lt_or_ge l.length m.length with z | z
  ·have hn:m≠[]:=by rintro rfl; simp at z
   have:=Fz hm hn
   rw [<- h,c6 (by lia)] at this
   exact absurd rfl this
  ·exact z
 have e:l.length=m.length:=Nat.le_antisymm (key hl λi=>(h i).symm) (key hm h)
 refine U4 e λi h1 h2=>?_
 have:=h i
 rwa [dN h1,dN h2] at this
theorem gC (h:∀ i,bZ p i=bZ q i):trim p=trim q:=yH (cB p) (cB q) λi=>by rw [d7,d7,h]
theorem yI (a b):trim (cF (trim a) (trim b))=trim (cF a b):=gC λi=>by rw [ck,ck,d7,d7]
theorem t8 (a b):trim (cF (trim a) b)=trim (cF a b):=gC λi=>by rw [ck,ck,d7]
theorem uc (a b):trim (cF a (trim b))=trim (cF a b):=gC λi=>by rw [ck,ck,d7]
theorem yJ (a b):cF a b=cF b a:=by
 unfold cF; rw [Nat.max_comm]; exact RL λk _=>Vp _ _
theorem lX (a):trim (cF [] a)=trim a:=gC λi=>by rw [ck,c6 (Qv _),Ui]
theorem ud (a b c):trim (cF (cF a b) c)=trim (cF a (cF b c)):=gC λi=>by
 rw [ck,ck,ck,ck,Int.add_assoc]
noncomputable def ev (g:List Int->Int):List aN->Int
 | []=>0
 | t::A=>t.2 * g (trim t.1)+ev g A
theorem bg (g) (t) (A):ev g (t::A)=t.2 * g (trim t.1)+ev g A:=rfl
theorem cu (g) (B):∀ A,ev g (A++B)=ev g A+ev g B
 | []=>by simp [ev]
 | t::A=>by rw [Rz,bg,bg,cu g B A]; lia
theorem jF (g):∀ A:List aN,ev g (A.map yG)= - ev g A
 | []=>rfl
 | t::A=>by
  rw [PZ,bg,bg,jF g A]
  show -t.2 * g (trim t.1)+_=_
  rw [Int.neg_mul]; lia
theorem B8 (g) (l):∀ B:List aN,ev g (B.map (dO l))=l.2 * ev (λq=>g (trim (cF (trim l.1) q))) B
 | []=>by simp [ev]
 | r::B=>by
  rw [PZ,bg,bg,B8 g l B]
  show l.2 * r.2 * g (trim (cF l.1 r.1))+_=_
  rw [Int.mul_add,yI,Uc]
theorem bV (g) (B):∀ A:List aN,ev g (aR A B)=ev (λp=>ev (λq=>g (trim (cF p q))) B) A
 | []=>rfl
 | l::A=>by
  show ev g (B.map (dO l)++aR A B)=_
  rw [cu,B8,bV g B A]; rfl
theorem gD (e:∀ p,trim p=p->g p=h p):∀ A,ev g A=ev h A
 | []=>rfl
 | t::A=>by rw [bg,bg,e _ (cB _),gD e A]
theorem B9 (g h):∀ A,ev (λp=>g p+h p) A=ev g A+ev h A
 | []=>rfl
 | t::A=>by rw [bg,bg,bg,B9 g h A,Int.mul_add]; lia
theorem Hh (c) (g):∀ A,ev (λp=>c * g p) A=c * ev g A
 | []=>by simp [ev]
 | t::A=>by rw [bg,bg,Hh c g A,Int.mul_add,Int.mul_left_comm]
theorem wA:∀ A,ev (λ_=>0) A=0
 | []=>rfl
 | t::A=>by rw [bg,wA A]; simp
theorem wB (f:List Int->List Int->Int) (B):∀ A,ev (λp=>ev (λq=>f p q) B) A=ev (λq=>ev (λp=>f p q) A) B
 | []=>by show 0=ev (λ_=>0) B; rw [wA]
 | t::A=>by
  show t.2 * ev (λq=>f (trim t.1) q) B+ev _ A=ev (λq=>t.2 * f (trim t.1) q+ev (λp=>f p q) A) B
  rw [B9,Hh,wB f B A]
def eqv (A B:List aN):Prop:=∀ g,ev g A=ev g B
theorem eqv.rf (A):eqv A A:=λ_=>rfl
theorem eqv.app (h:eqv A A') (k:eqv B B'):eqv (A++B) (A'++B'):=λg=>by rw [cu,cu,h g,k g]
theorem eqv.neg (h:eqv A B):eqv (A.map yG) (B.map yG):=λg=>by rw [jF,jF,h g]
theorem eqv.prod (h:eqv A A') (k:eqv B B'):eqv (aR A B) (aR A' B'):=λg=>by
 rw [bV,bV,h]; exact gD (λp _=>k _) _
instance trmSetoid:Setoid (List aN):=⟨eqv,⟨eqv.rf,λh g=>(h g).symm,λh k g=>(h g).trans (k g)⟩⟩
noncomputable def MP:Type:=Quotient trmSetoid
noncomputable def mp (A:List aN):MP:=Quotient.mk trmSetoid A
theorem d9:mp A=mp B↔eqv A B:=⟨λh=>Quotient.exact h,λh=>Vd h⟩
noncomputable def cT (n:Int):List aN:=[([],n)]
theorem j0 (g) (n):ev g (cT n)=n * g []:=by show n * g (trim [])+0=_; rw [Vo]; rfl
noncomputable instance:Add MP:=⟨Quotient.lift₂ (λA B=>mp (A++B)) λ_ _ _ _ h k=>Vd (eqv.app h k)⟩
noncomputable instance:Mul MP:=⟨Quotient.lift₂ (λA B=>mp (aR A B)) λ_ _ _ _ h k=>Vd (eqv.prod h k)⟩
noncomputable instance:Neg MP:=⟨Quotient.lift (λA=>mp (A.map yG)) λ_ _ h=>Vd (eqv.neg h)⟩
noncomputable instance:Sub MP:=⟨λa b=>a+ -b⟩
noncomputable instance:NatCast MP:=⟨λn=>mp (cT n)⟩
noncomputable instance:IntCast MP:=⟨λn=>mp (cT n)⟩
noncomputable instance (n:Nat):OfNat MP n:=⟨mp (cT n)⟩
noncomputable instance:SMul Nat MP:=⟨λn a=>(n:MP) * a⟩
noncomputable instance:SMul Int MP:=⟨λn a=>(n:MP) * a⟩
noncomputable def MP.pow (a:MP):Nat->MP
 | 0=>1
 | n+1=>MP.pow a n * a
noncomputable instance:HPow MP Nat MP:=⟨MP.pow⟩
theorem o8 (A B):mp (A++B)=mp A+mp B:=rfl
theorem ue (A B):mp (aR A B)=mp A * mp B:=rfl
theorem o9 (n):mp (cT n)=(n:MP):=rfl
theorem pU {P:MP->Prop} (h:∀ A,P (mp A)) (a:MP):P a:=Quotient.inductionOn a h
theorem J0 (g) (A):ev g (aR (cT 1) A)=ev g A:=by
 rw [bV,j0,Vw]
 exact gD (λp hp=>by rw [lX,hp]) _
theorem mulC:∀ a b:MP,a * b=b * a:=pU λA=>pU λB=>d9.mpr λg=>by
 rw [bV,bV,wB]
 exact gD (λq _=>gD (λp _=>by rw [yJ]) _) _
theorem ML:∀ a:MP,1 * a=a:=pU λA=>d9.mpr λg=>J0 g A
theorem OT:∀ a b:MP,a+b=b+a:=pU λA=>pU λB=>d9.mpr λg=>by rw [cu,cu,Vp]
theorem Hi:∀ a b c:MP,(a+b) * c=a * c+b * c:=pU λA=>pU λB=>pU λC=>d9.mpr λg=>by rw [bV,cu,cu,bV,bV]
theorem Hj:∀ a:MP,0 * a=0:=pU λA=>d9.mpr λg=>by
 rw [bV,j0,j0]; show 0 * _=0 * _; rw [SN,SN]
noncomputable instance:Lean.Grind.CommRing MP where
 add_zero:=pU λA=>d9.mpr λg=>by rw [cu,j0]; show _+0 * _=_; rw [SN,Vo]
 add_comm:=OT
 add_assoc:=pU λA=>pU λB=>pU λC=>d9.mpr λg=>by rw [cu,cu,cu,cu,Int.add_assoc]
 mul_assoc:=pU λA=>pU λB=>pU λC=>d9.mpr λg=>by
  rw [bV,bV,bV]
  refine gD (λp _=>?_) _
  rw [bV]
  refine gD (λq _=>gD (λr _=>?_) _) _
  rw [t8,uc,ud]
 mul_one:=λa=>by rw [mulC,ML]
 one_mul:=ML
 left_distrib:=λa b c=>by rw [mulC,Hi,mulC b,mulC c]
 right_distrib:=Hi
 zero_mul:=Hj
 mul_zero:=λa=>by rw [mulC,Hj]
 pow_zero:=λ_=>rfl
 pow_succ:=λ_ _=>rfl
 ofNat_succ:=λn=>d9.mpr λg=>by
  show ev g (cT ((n+1:Nat):Int))=ev g (cT (n:Int)++cT ((1:Nat):Int))
  rw [cu,j0,j0,j0,Int.natCast_add,SS]
 ofNat_eq_natCast:=λ_=>rfl
 nsmul_eq_natCast_mul:=λ_ _=>rfl
 neg_add_cancel:=pU λA=>d9.mpr λg=>by
  rw [cu,jF,j0]; show _=0 * _; rw [SN]; lia
 sub_eq_add_neg:=λ_ _=>rfl
 neg_zsmul:=λi=>pU λA=>d9.mpr λg=>by
  show ev g (aR (cT (-i)) A)=ev g ((aR (cT i) A).map yG)
  rw [jF,bV,bV,j0,j0,Int.neg_mul]
 zsmul_natCast_eq_nsmul:=λ_ _=>rfl
 intCast_ofNat:=λ_=>rfl
 intCast_neg:=λi=>d9.mpr λg=>by
  show ev g (cT (-i))=ev g ((cT i).map yG)
  rw [jF,j0,j0,Int.neg_mul]
 mul_comm:=mulC
theorem Ca {A:List aN} {p q:List Int} {n:Int}:(bD (putD A p n) q).getD 0=if q=p then n else (bD A q).getD 0:=by
 unfold putD
 split
 ·rename_i h
  induction A with
  | nil=>simp [bD] at h
  | cons t A ih =>
   rw [PZ]
   by_cases e:t.1=p
   ·rw [if_pos e]
    by_cases z:q=p
    ·rw [if_pos z,br (by rw [e,z])]; rfl
    ·rw [if_neg z,aV (by rw [e]; exact λw=>z w.symm),aV (by rw [e]; exact λw=>z w.symm)]
     clear ih h
     induction A with
     | nil=>rfl
     | cons u A ih =>
      rw [PZ]
      by_cases w:u.1=q
      ·rw [if_neg (by rw [w]; exact z),br w,br w]
      ·rw [aV w,<- ih,aV (by split <;> exact w)]
   ·rw [if_neg e]
    have h':(bD A p).isSome=true:=by rw [aV e] at h; exact h
    by_cases z:t.1=q
    ·rw [br z,br z,if_neg (by rw [<- z]; exact e)]
    ·rw [aV z,aV z,ih h']
 ·rename_i h
  induction A with
  | nil =>
   rw [RW]
   by_cases z:q=p
   ·rw [if_pos z,br z.symm]; rfl
   ·rw [if_neg z,aV λw=>z w.symm]
  | cons t A ih =>
   have h0:¬ t.1=p:=λe=>h (by rw [br e]; rfl)
   rw [Rz]
   by_cases z:t.1=q
   ·rw [br z,br z,if_neg (by rw [<- z]; exact h0)]
   ·rw [aV z,aV z,ih (by rw [aV h0] at h; exact h)]
noncomputable def cf (p:List Int) (A:List aN):Int:=ev (λq=>if q=p then 1 else 0) A
theorem Cb (p):∀ ts:List aN,(bD (aP ts) p).getD 0=cf p ts:=by
 intro ts
 suffices H:∀ (ts A:List aN),(bD (ts.foldl fH A) p).getD 0=(bD A p).getD 0+cf p ts by
  have:=H ts []
  rw [show (bD ([]:List aN) p).getD 0=0 from rfl,Ui] at this
  exact this
 intro ts
 induction ts with
 | nil=>intro A; show _=_+0; rw [Vo]; rfl
 | cons t ts ih =>
  intro A
  rw [Rp,ih]
  unfold fH
  rw [Ca]
  show _=_+(t.2 * (if trim t.1=p then 1 else 0)+cf p ts)
  by_cases z:p=trim t.1
  ·rw [if_pos z,if_pos z.symm,z]; lia
  ·rw [if_neg z,if_neg λw=>z w.symm]; lia
theorem Cc:t∈nz (aP ts)↔trim t.1=t.1/\t.2≠0/\t.2=cf t.1 ts:=by
 have hk:=dZ ts
 constructor
 ·intro h
  unfold nz at h
  rw [T7] at h
  refine ⟨?_,by simpa using h.2,?_⟩
  ·have bd:∃ n,∀ t∈ts,t.1.length<=n:=by
    clear h hk
    induction ts with
    | nil=>exact ⟨0,λt h=>by cases h⟩
    | cons u ts ih =>
     obtain ⟨n,hn⟩:=ih
     refine ⟨max n u.1.length,λt ht=>?_⟩
     rcases P8.mp ht with rfl | ht
     ·lia
     ·have:=hn t ht; lia
   obtain ⟨n,hn⟩:=bd
   exact (oV hn t h.1).1
  ·rw [<- Cb,oZ hk h.1]; rfl
 ·rintro ⟨h1,h2,h3⟩
  unfold nz
  rw [T7]
  refine ⟨?_,by simpa using h2⟩
  rw [<- Cb] at h3
  cases e:bD (aP ts) t.1 with
  | none=>rw [e] at h3; exact absurd h3 h2
  | some n =>
   rw [e] at h3
   have h3':t.2=n:=h3
   unfold bD at e
   obtain ⟨u,hu,e2⟩:=Qc.mp e
   have m:=List.mem_of_find?_eq_some hu
   have z:u.1=t.1:=by simpa using List.find?_some hu
   have:u=t:=Prod.ext z (by rw [e2,h3'])
   rw [<- this]; exact m
theorem rP {L M:List aN} (h1:L.Nodup) (h2:M.Nodup) (h:∀ t,t∈L↔t∈M):L.Perm M:=(List.perm_ext_iff_of_nodup h1 h2).mpr h
theorem Cd (h:eqv A B):aZ A=aZ B:=by
 have nA:=keys_nodup (v5 (dZ A))
 have nB:=keys_nodup (v5 (dZ B))
 have hp:(nz (aP A)).Perm (nz (aP B)):=rP nA nB λt=>by rw [Cc,Cc]; unfold cf; rw [h]
 exact BC nB ((bB _).trans hp) (gT nA)
theorem eB (h:mp A=mp B):aZ A=aZ B:=Cd (d9.mp h)
theorem J1 (g) (hp:trim p=p) (n) (hk:(A.map (·.1)).Nodup) (ht:∀ t∈A,trim t.1=t.1):ev g (putD A p n)=ev g A+(n - (bD A p).getD 0) * g p:=by
 unfold putD
 split
 ·rename_i h
  induction A with
  | nil=>simp [bD] at h
  | cons t A ih =>
   rw [PZ]
   rw [PZ,Rf] at hk
   by_cases e:t.1=p
   ·rw [if_pos e]
    have same:A.map (λkv:aN=>if kv.1=p then (kv.1,n) else kv)=A:=by
     refine (RL λu hu=>?_).trans (Vv A)
     rw [if_neg λz=>hk.1 (by rw [e,<- z]; exact Qe.mpr ⟨u,hu,rfl⟩)]; rfl
    rw [same,br e]
    rw [bg,bg]
    show n * g (trim t.1)+_=_+(n - t.2) * _
    rw [ht t P4,e,Int.sub_mul]; lia
   ·rw [if_neg e]
    rw [bg,bg,ih hk.2 (λu hu=>ht u (P9 _ hu)) (by rw [aV e] at h; exact h),aV e]; lia
 ·rename_i h
  have e:bD A p=none:=by
   cases e:bD A p with
   | none=>rfl
   | some n=>rw [e] at h; exact absurd rfl h
  rw [cu,e]
  show _+(n * g (trim p)+0)=_+(n - 0) * _
  rw [hp,Int.sub_zero,Vo]
theorem wC (ts):eqv (aP ts) ts:=by
 suffices H:∀ (ts A:List aN),(A.map (·.1)).Nodup->(∀ t∈A,trim t.1=t.1)->eqv (ts.foldl fH A) (A++ts) from H ts [] (by simp) (by simp)
 intro ts
 induction ts with
 | nil=>intro A _ _ g; simp
 | cons t ts ih =>
  intro A hk ht g
  have ih':ev g (ts.foldl fH (fH A t))=ev g (fH A t++ts):=ih _ (qZ _ _ hk) (λu hu=>by
   rcases oU hu with e | e
   ·rw [e,cB]
   ·exact ht u e) g
  rw [Rp,ih',cu,cu]
  unfold fH
  rw [J1 g (cB _) _ hk ht]
  show _=_+(t.2 * g (trim t.1)+ev g ts)
  rw [Int.sub_mul,SS]; lia
theorem FA (g) (h:A.Perm B):ev g A=ev g B:=by
 induction h with
 | nil=>rfl
 | cons x _ ih=>rw [bg,bg,ih]
 | swap x y l=>rw [bg,bg,bg,bg]; lia
 | trans _ _ a b=>rw [a,b]
theorem Ce (g):∀ A:List aN,ev g (nz A)=ev g A
 | []=>rfl
 | t::A=>by
  unfold nz
  by_cases h:t.2=0
  ·rw [TN (by simp [h])]
   show ev g (nz A)=t.2 * _+_
   rw [Ce g A,h,SN,Ui]
  ·rw [So (by simp [h])]
   show _+ev g (nz A)=_
   rw [Ce g A]; rfl
theorem Cf (ts):eqv (aZ ts) ts:=λg=>by
 show ev g (fJ (nz (aP ts)))=_
 rw [FA g (bB _),Ce,wC ts g]
theorem wD (A):mp (aZ A)=mp A:=d9.mpr (Cf A)
theorem J3 (A):mp (aP A)=mp A:=d9.mpr (wC A)
noncomputable def stp {α:Type} (xs:List α) (lo hi st:Option Int):List α:=(sliceRange (sliceBounds lo hi st xs.length).1 (sliceBounds lo hi st xs.length).2.1 (sliceBounds lo hi st xs.length).2.2).filterMap (xs[·]?)
theorem yK (h:Vals xs its):∀ ns:List Nat,Vals (ns.filterMap (xs[·]?)) (ns.filterMap (its[·]?)):=by
 intro ns
 induction ns with
 | nil=>exact .nil
 | cons n ns ih =>
  rw [Rn,Rn]
  by_cases z:n<xs.length
  ·obtain ⟨u,e,hu⟩:=h.get (Qo z)
   rw [Qo z,e]
   exact .cons hu ih
  ·rw [RG (by lia),RG (by rw [<- h.length]; lia)]
   exact ih
theorem yL {K:PN} (h:aq K H ds xs):∀ ns:List Nat,aq K H (ns.filterMap (ds[·]?)) (ns.filterMap (xs[·]?)):=by
 intro ns
 induction ns with
 | nil=>exact aC.mpr rfl
 | cons n ns ih =>
  rw [Rn,Rn]
  by_cases z:n<ds.length
  ·obtain ⟨u,e,hu⟩:=h.get (Qo z)
   rw [Qo z,e]
   exact aF.mpr ⟨_,_,rfl,hu,ih⟩
  ·rw [RG (by lia),RG (by rw [<- h.length]; lia)]
   exact ih
section
variable {K:PN}
end
end EV
namespace EV
open PySem PySem.Spec PySem.Calls PyProof.Rows L2
structure NJ (prog:Program) (w:World) (L:List Addr) (i:Addr) (N N':Heap->Prop) (x:Value):Prop where
 keep:∀ {b:Addr} {h h':Heap},b∈L->R3 b h h'->N h->N h'
 keep':∀ {b:Addr} {h h':Heap},b∈L->R3 b h h'->N' h->N' h'
 run:∀ {A:Around} {E Q:Value->Shared->Prop} {s:Shared},N s.heap->(∀ h',N' h'->Rk i s.heap h'->Q x { s with heap:=h' })->wpAny (model prog w) A (Rw (.ref i)) Q E s
structure OU (prog:Program) (w:World) (L:List Addr) (i:Addr) (N:Heap->Prop):Prop where
 keep:∀ {b:Addr} {h h':Heap},b∈L->R3 b h h'->N h->N h'
 run:∀ {A:Around} {E Q:Value->Shared->Prop} {s:Shared},A.handled=none->N s.heap->(∀ h' e,R3 i s.heap h'->(∃ o,h'.get? e=some o/\o.cls=.type "StopIteration")->E (.ref e) { s with heap:=h' })->wpAny (model prog w) A (Rw (.ref i)) Q E s
structure MM (z TI TO i1 i2:Addr):Prop where
 a:TI≠z
 b:TO≠z
 c:i1≠z
 d:i2≠z
 e:TI≠TO
 f:TI≠i1
 g:TI≠i2
 h:TO≠i1
 i:TO≠i2
 j:i1≠i2
section
variable {z TI TO i1 i2:Addr}
theorem Cg {Q:Value->Shared->Prop} (D:MM z TI TO i1 i2) (hz:IsZip s.heap z TI TO .none) (hTI:IsPair s.heap TI (.ref i1) (.ref i2)) (hTO:IsPair s.heap TO a b)
 (d1:NJ prog w [z,TO,i2] i1 N1 N1' x) (d2:NJ prog w [z,TO,i1] i2 N2 N2' y) (h1:N1 s.heap) (h2:N2 s.heap)
 (up1:∀ {h h':Heap},(∀ c o,c≠z->h.get? c=some o->h'.get? c=some o)->N1' h->N1' h') (up2:∀ {h h':Heap},(∀ c o,c≠z->h.get? c=some o->h'.get? c=some o)->N2' h->N2' h')
 (q:∀ h',IsZip h' z TI TO (rawInt s.heap.objs.size)->IsPair h' TO x y->N1' h'->N2' h'->IsPair h' s.heap.objs.size x y ->
   (∀ c o,c≠z->c≠TO->c≠i1->c≠i2->s.heap.get? c=some o->h'.get? c=some o)->Q (.ref s.heap.objs.size) { s with heap:=h' }) :
 wpAny (model prog w) A (Builtin.«zip.__next__» ⟨[.ref z],[]⟩) (λfin s'=>∃ v,fin=.done (.ret v)/\Q v s') E s:=by
 refine PK (m:=field (.ref z) 2) (QK hz rfl (x:=.bool false) rfl ?_)
 refine PK (m:=field (.ref z) 3) (QK hz rfl (x:=.ref TI) rfl (PK (RP hTI rfl ?_)))
 refine PK (m:=Ut (.ref z)) ?_
 unfold Ut
 refine PK (QK hz rfl (x:=.none) rfl (PR ?_))
 simp only [if_true]
 refine PK (Q8 (PK (QK hz rfl (x:=.ref TO) rfl (PK (Ro hz (by simp) λg1 (k1:IsZip g1 z TI TO .ellipsis) b1=>?_)))))
 have c1:=b1.extBut
 refine PK ?_
 simp only [Wg,List.zipIdx_nil,Tu,List.forIn_nil]
 refine PK (PK (Vg ?_))
 refine PK (m:=Rw (.ref i1)) (d1.run (d1.keep (by simp) c1 h1) λg2 m1 b2=>PR ?_)
 have c2:=b2.extBut
 have o2:IsPair g2 TO a b:=c2 _ _ D.h (c1 _ _ D.b hTO)
 refine PK (RP o2 rfl (PK (VS o2 λg3 (o3:IsPair g3 TO x b) b3=>PK (SO (PR ?_)))))
 have c3:=b3.extBut
 refine PK (PK (Vg ?_))
 refine PK (m:=Rw (.ref i2)) (d2.run (d2.keep (by simp) c3 (d2.keep (by simp) c2 (d2.keep (by simp) c1 h2))) λg4 m2 b4=>PR ?_)
 have c4:=b4.extBut
 have o4:IsPair g4 TO x b:=c4 _ _ D.i o3
 refine PK (RP o4 rfl (PK (VS o4 λg5 (o5:IsPair g5 TO x y) b5=>PK (SO (PR (PR ?_))))))
 have c5:=b5.extBut
 refine PK (RP o5 rfl (PK (Va ?_)))
 have sz:g5.objs.size=s.heap.objs.size:=by rw [b5.1,b4.1,b3.1,b2.1,b1.1]
 have k5:IsZip g5 z TI TO .ellipsis:=c5 _ _ D.b.symm (c4 _ _ D.d.symm (c3 _ _ D.b.symm (c2 _ _ D.c.symm k1)))
 have all:∀ c o,c≠z->c≠TO->c≠i1->c≠i2->s.heap.get? c=some o->g5.get? c=some o:=λc o n1 n2 n3 n4 e=>c5 _ _ n2 (c4 _ _ n4 (c3 _ _ n2 (c2 _ _ n3 (c1 _ _ n1 e))))
 have m1':N1' g5:=d1.keep' (by simp) c5 (d1.keep' (by simp) c4 (d1.keep' (by simp) c3 m1))
 have m2':N2' g5:=d2.keep' (by simp) c5 m2
 refine PK (m:=Wr (.ref z) (.ref g5.objs.size)) ?_
 unfold Wr
 have k6:IsZip (g5.push { cls:=.type "tuple",data:=.seq #[x,y] }) z TI TO .ellipsis:=PY _ k5
 refine PK (Ro k6 (by simp) λg7 (k7:IsZip g7 z TI TO (rawInt g5.objs.size)) b7=>Ro k7 (by simp) λg8 (k8:IsZip g8 z TI TO (rawInt g5.objs.size)) b8=>?_)
 have up:∀ c o,c≠z->g5.get? c=some o->g8.get? c=some o:=λc o n e=>b8.extBut _ _ n (b7.extBut _ _ n (PY _ e))
 have nz:g5.objs.size≠z:=Sf (P1 k5)
 have p8:IsPair g8 g5.objs.size x y:=b8.extBut _ _ nz (b7.extBut _ _ nz (Qd _ rfl))
 refine PR ⟨_,rfl,?_⟩
 show Q (.ref g5.objs.size) _
 rw [sz] at k8 p8 |-
 exact q g8 k8 (up _ _ D.b o5) (up1 up m1') (up2 up m2') p8 λc o n1 n2 n3 n4 e=>up c o n1 (all c o n1 n2 n3 n4 e)
theorem FD (hh:A.handled=none) (D:MM z TI TO i1 i2) (hz:IsZip s.heap z TI TO .none) (hTI:IsPair s.heap TI (.ref i1) (.ref i2)) (hTO:IsPair s.heap TO a b)
 (d:OU prog w [z] i1 N1\/∃ x N1',NJ prog w [z] i1 N1 N1' x/\OU prog w [z,TO,i1] i2 N2) (h1:N1 s.heap) (h2:N2 s.heap)
 (q:∀ h' e,(∀ c o,c≠z->c≠TO->c≠i1->c≠i2->s.heap.get? c=some o->h'.get? c=some o)->(∃ o,h'.get? e=some o/\o.cls=.type "StopIteration")->E (.ref e) { s with heap:=h' }) :
 wpAny (model prog w) A (Builtin.«zip.__next__» ⟨[.ref z],[]⟩) Q E s:=by
 refine PK (m:=field (.ref z) 2) (QK hz rfl (x:=.bool false) rfl ?_)
 refine PK (m:=field (.ref z) 3) (QK hz rfl (x:=.ref TI) rfl (PK (RP hTI rfl ?_)))
 refine PK (m:=Ut (.ref z)) ?_
 unfold Ut
 refine PK (QK hz rfl (x:=.none) rfl (PR ?_))
 simp only [if_true]
 refine PK (Q8 (PK (QK hz rfl (x:=.ref TO) rfl (PK (Ro hz (by simp) λg1 (k1:IsZip g1 z TI TO .ellipsis) b1=>?_)))))
 have c1:=b1.extBut
 refine PK ?_
 simp only [Wg,List.zipIdx_nil,Tu,List.forIn_nil]
 refine PK (PK (Vg ?_))
 refine PK (m:=Rw (.ref i1)) ?_
 rcases d with d | ⟨x,N1',d1,d2⟩
 ·refine d.run hh (d.keep (by simp) c1 h1) λg2 e b2 ⟨oe,e1,e2⟩=>?_
  have k2:IsZip g2 z TI TO .ellipsis:=b2 _ _ D.c.symm k1
  have ne:e≠z:=λu=>by subst u; rw [k2] at e1; cases e1; simp at e2
  exact Ro k2 (by simp) λg3 _ b3=>q g3 e (λc o n1 _ n3 _ u=>b3.extBut _ _ n1 (b2 _ _ n3 (c1 _ _ n1 u))) ⟨oe,b3.extBut _ _ ne e1,e2⟩
 ·refine d1.run (d1.keep (by simp) c1 h1) λg2 m1 b2=>PR ?_
  have c2:=b2.extBut
  have o2:IsPair g2 TO a b:=c2 _ _ D.h (c1 _ _ D.b hTO)
  refine PK (RP o2 rfl (PK (VS o2 λg3 (o3:IsPair g3 TO x b) b3=>PK (SO (PR ?_)))))
  have c3:=b3.extBut
  refine PK (PK (Vg ?_))
  refine PK (m:=Rw (.ref i2)) (d2.run hh (d2.keep (by simp) c3 (d2.keep (by simp) c2 (d2.keep (by simp) c1 h2))) λg4 e b4 ⟨oe,e1,e2⟩=>?_)
  have k4:IsZip g4 z TI TO .ellipsis:=b4 _ _ D.d.symm (c3 _ _ D.b.symm (c2 _ _ D.c.symm k1))
  have ne:e≠z:=λu=>by subst u; rw [k4] at e1; cases e1; simp at e2
  exact Ro k4 (by simp) λg5 _ b5=>q g5 e (λc o n1 n2 n3 n4 u=>b5.extBut _ _ n1 (b4 _ _ n4 (c3 _ _ n2 (c2 _ _ n3 (c1 _ _ n1 u))))) ⟨oe,b5.extBut _ _ ne e1,e2⟩
end
end EV
namespace EV
open PySem PySem.Spec PyProof.Rows L2
theorem FE (nd:(fp.map (·.1)).Nodup) (hn:∀ a∈fp,aM a.1=none) (fr:∀ a∈fp,H a.1=none) (g:aY H Hf H1 aM):aY H Hf (c8 l5 fp H1) (c8 l5 fp aM):=by
 have o1:∀ {b:Addr} {o:HO},H b=some o->b∉fp.map (·.1):=λe m=>by obtain ⟨p,hp,rfl⟩:=bM m; rw [fr p hp] at e; cases e
 refine ⟨λb o e=>?_,λb o e=>?_,λb o e=>?_,λb h1 h2 h3=>?_⟩
 ·rw [aS (o1 e)]; exact g.s b o e
 ·have e1:=g.f b o e
  rw [aS λm=>by obtain ⟨p,hp,rfl⟩:=bM m; rw [hn p hp] at e1; cases e1]; exact e1
 ·by_cases m:b∈fp.map (·.1)
  ·obtain ⟨p,hp,rfl⟩:=bM m
   rw [bU nd p hp] at e |-; exact e
  ·rw [aS m] at e |-; exact g.b b o e
 ·rw [aS λm=>by obtain ⟨p,hp,rfl⟩:=bM m; exact h2 (fr p hp)]; exact g.n b h1 h2 h3
section
variable {K:PN}
theorem Ci (h:cN c e ρ λr=>∃ s,r=.fo s/\R s.d):aJ c e ρ R:=λσ H Hf Q S q aa s I=>by
 refine bz (h σ H Hf (λv H'=>∃ (sh:Sh) (fp:Fp) (aj:Hp),aG c.X.K H' aj sh v fp/\(fp.map (·.1)).Nodup/\(∀ a∈fp,H a.1=none)/\aY H Hf H' aj/\R sh.d) S (λr v H' aj ⟨sh,e,hR⟩ rs g=>by subst e; obtain ⟨fp,r1,r2,r3⟩:=rs; exact ⟨sh,fp,aj,r1,r2,r3,g,hR⟩) aa s I) λu s1 hh=>z2 hh λv H1 hh=>w3 hh λI1 rv hh=>z3 hh λsh fp aM hh=>w5 hh λrf nd fr g hR=>?_
 have hz:=aG.fz sh rf
 exact ⟨v,_,fK I1 nd λa ha=>(hz a ha).1,rv,q sh.d v _ (c8 l5 fp aM) hR (aG.rep (λb o e=>by rw [aS λm=>by obtain ⟨p,hp,rfl⟩:=bM m; rw [(hz p hp).2] at e; cases e]; exact e) sh (λa ha=>bU nd a ha) rf) (FE nd (λa ha=>(hz a ha).2) fr g)⟩
end
end EV
namespace EV
open PySem PySem.Spec PySem.Calls PyProof.Rows L2
set_option genInjectivity false in
structure ZS (K:PN) where
 sq:Hp->Addr->List V->Prop
 it:Heap->Addr->Addr->Nat->Prop
 us:Heap->Addr->Array Value->Prop
 dm:List D->D
 cl:String
 rep:∀ {H:Hp} {ds:List D} {v:V},Rep K H (dm ds) v↔∃ a xs,v=.ref a/\sq H a xs/\aq K H ds xs
 same:∀ {H H':Hp} {a:Addr} {xs:List V},aL H H'->sq H a xs->sq H' a xs
 ini:∀ {h:Heap} {i l:Addr},h.get? i=some { cls:=.type cl,data:=.fields #[.ref l,.int 0 0] }->it h i l 0
 get:∀ {X:Cx} {aa:List (Addr×Obj)} {σ:L2.St} {H:Hp} {s:Shared} {l:Addr} {xs:List V},X.K=K->Inv X aa σ H s->sq H l xs->∃ its,Vals xs its/\us s.heap l its.toArray
 inj:∀ {X:Cx} {aa:List (Addr×Obj)} {σ:L2.St} {H:Hp} {s:Shared} {l:Addr} {xs ys:List V},X.K=K->Inv X aa σ H s->sq H l xs->sq H l ys->xs=ys
 ito:∀ {h:Heap} {i l:Addr} {k:Nat},it h i l k->∃ o,h.get? i=some o/\∀ v,o.data≠.cell v
 itk:∀ {h h':Heap} {i l:Addr} {k:Nat},(∀ o,h.get? i=some o->h'.get? i=some o)->it h i l k->it h' i l k
 usk:∀ {h h':Heap} {l:Addr} {a:Array Value},(∀ o,h.get? l=some o->h'.get? l=some o)->us h l a->us h' l a
 uso:∀ {h:Heap} {l:Addr} {a:Array Value},us h l a->∃ o,h.get? l=some o
 run:∀ {prog:Program} {w:World} {i l:Addr} {a:Array Value} {k:Nat} {x:Value} {A:Around} {E Q:Value->Shared->Prop} {s:Shared},l≠i->a[k]?=some x->it s.heap i l k->us s.heap l a->(∀ h',it h' i l (k+1)->Rk i s.heap h'->Q x { s with heap:=h' })->wpAny (model prog w) A (Rw (.ref i)) Q E s
 dry:∀ {prog:Program} {w:World} {i l:Addr} {a:Array Value} {k:Nat} {A:Around} {E Q:Value->Shared->Prop} {s:Shared},A.handled=none->a[k]?=none->it s.heap i l k->us s.heap l a->(∀ h' e,R3 i s.heap h'->(∃ o,h'.get? e=some o/\o.cls=.type "StopIteration")->E (.ref e) { s with heap:=h' })->wpAny (model prog w) A (Rw (.ref i)) Q E s
noncomputable def Pb (K:PN):ZS K where
 sq:=cU K
 it:=IsTupIter
 us:=IsTup
 dm:=.tup
 cl:="tuple_iterator"
 rep:=aH
 same:=av
 ini:=λe=>⟨_,e,rfl,rfl⟩
 get:=λh I q=>by subst h; obtain ⟨its,rv,p,_⟩:=I.tuple q; exact ⟨its,rv,p⟩
 inj:=λh I q q'=>by subst h; exact I.gK q q'
 ito:=λ⟨o,e,_,d⟩=>⟨o,e,λv q=>by rw [d] at q; cases q⟩
 itk:=λk ⟨o,e,r⟩=>⟨o,k o e,r⟩
 usk:=λk ⟨o,e,r⟩=>⟨o,k o e,r⟩
 uso:=λ⟨o,e,_⟩=>⟨o,e⟩
 run:=λ{prog w i l a k x A E Q s} hil hx t u q=>by
  obtain ⟨o,ho,hc,hd⟩:=id t
  obtain ⟨ol,hol,_,nl,hdl⟩:=id u
  unfold Rw
  refine PK (Rx (name:=PM "__next__") t.typeIs UP (Ra UP t.typeIs entry_tupleiter_next ?_ (args_tupleiter_next _)))
  refine PK (m:=field (.ref i) 0) (QK ho hd (x:=.ref l) rfl ?_)
  show wpAny _ _ (if (Qk l == QG)=true then _ else _) _ _ s
  rw [if_neg (show ¬ ((Qk l == QG)=true) from P5)]
  refine PK (m:=field (.ref i) 1) (QK ho hd (x:=.int k 0) rfl ?_)
  refine PK (m:=seqItems? (.ref l)) (RP hol hdl ?_)
  simp only [QV,hx]
  refine PK (SI ho hd (by simp) (PR ⟨x,rfl,PR (q _ ?_ (Sx ..))⟩))
  exact ⟨_,VR _ ho (VQ (Tj hd _)),(Wa ..).trans hc,by rw [Tj hd]; simp [rawInt]⟩
 dry:=λ{prog w i l a k A E Q s} hh hx t u q=>by
  obtain ⟨o,ho,hc,hd⟩:=id t
  obtain ⟨ol,hol,_,nl,hdl⟩:=id u
  unfold Rw
  refine PK (Rx (name:=PM "__next__") t.typeIs UP (Ra UP t.typeIs entry_tupleiter_next ?_ (args_tupleiter_next _)))
  refine PK (m:=field (.ref i) 0) (QK ho hd (x:=.ref l) rfl ?_)
  show wpAny _ _ (if (Qk l == QG)=true then _ else _) _ _ s
  rw [if_neg (show ¬ ((Qk l == QG)=true) from P5)]
  refine PK (m:=field (.ref i) 1) (QK ho hd (x:=.int k 0) rfl ?_)
  refine PK (m:=seqItems? (.ref l)) (RP hol hdl ?_)
  simp only [QV,hx]
  refine PK (Q8 (PK (SI ho hd (by simp) ?_)))
  refine PK (m:=newExc (.type "StopIteration") []) ?_
  simp only [newExc,newTuple]
  refine PK (QZ ?_ (by size_fits))
  refine PK (m:=firstArgMember _ _) (Vr (a:=QG) (by first | rfl | (simp only [firstArgMember]; rfl)) ?_)
  refine QZ ?_ (by size_fits)
  simp only [raiseNew]
  refine PK (Vh ?_)
  first | rw [show A.in1.handled=none from hh] | rw [hh]
  refine PK (PR (Vq ?_))
  exact q _ _ (((Sx ..).extBut.push _).push _) ⟨_,Qd _ rfl,rfl⟩
section
variable {prog:Program} {w:World} {E:Value->Shared->Prop} {s:Shared} {K:PN} {i l:Addr} {us:Array Value} {k:Nat} {L:List Addr}
def ZS.At (A:ZS K) (i l:Addr) (us:Array Value) (k:Nat) (h:Heap):Prop:=A.it h i l k/\A.us h l us
theorem ZS.At.keep {A:ZS K} (t:A.At i l us k h) (e:R3 b h h') (n1:i≠b) (n2:l≠b):A.At i l us k h':=⟨A.itk (λo=>e _ o n1) t.1,A.usk (λo=>e _ o n2) t.2⟩
theorem Cj {A:ZS K} {x:Value} (hL:∀ b∈L,i≠b/\l≠b) (hil:l≠i) (hx:us[k]?=some x):NJ prog w L i (A.At i l us k) (A.At i l us (k+1)) x where
 keep:=λhb e t=>t.keep e (hL _ hb).1 (hL _ hb).2
 keep':=λhb e t=>t.keep e (hL _ hb).1 (hL _ hb).2
 run:=λt q=>A.run hil hx t.1 t.2 λh' a b=>q h' ⟨a,A.usk (λo=>b.extBut _ o hil) t.2⟩ b
theorem Hl {A:ZS K} (hL:∀ b∈L,i≠b/\l≠b) (hx:us[k]?=none):OU prog w L i (A.At i l us k) where
 keep:=λhb e t=>t.keep e (hL _ hb).1 (hL _ hb).2
 run:=λhh t q=>A.dry hh hx t.1 t.2 q
theorem PF {z TI TO i1 i2 l1 l2:Addr} (D:ZipApart z TI TO i1 i2 l1 l2):∀ b∈[z,TO,i2],i1≠b/\l1≠b:=by
 intro b hb
 simp only [P8,Q0,or_false] at hb
 rcases hb with rfl | rfl | rfl
 ·exact ⟨D.i1z,D.l1z⟩
 ·exact ⟨D.TOi1.symm,D.l1TO⟩
 ·exact ⟨D.i12,D.l1i2⟩
theorem Pc {z TI TO i1 i2 l1 l2:Addr} (D:ZipApart z TI TO i1 i2 l1 l2):∀ b∈[z,TO,i1],i2≠b/\l2≠b:=by
 intro b hb
 simp only [P8,Q0,or_false] at hb
 rcases hb with rfl | rfl | rfl
 ·exact ⟨D.i2z,D.l2z⟩
 ·exact ⟨D.TOi2.symm,D.l2TO⟩
 ·exact ⟨D.i12.symm,D.l2i1⟩
theorem Pd {z TI TO i1 i2 l1 l2:Addr} (D:ZipApart z TI TO i1 i2 l1 l2):∀ b∈[z],i1≠b/\l1≠b:=by
 intro b hb
 cases Qg.mp hb
 exact ⟨D.i1z,D.l1z⟩
variable {B C:ZS K}
theorem yM {z TI TO i1 i2 l1 l2:Addr} (D:ZipApart z TI TO i1 i2 l1 l2)
 (hz:IsZip s.heap z TI TO .none) (hTI:IsPair s.heap TI (.ref i1) (.ref i2)) (hTO:IsPair s.heap TO a b) (h1:B.At i1 l1 xs k s.heap) (h2:C.At i2 l2 ys k s.heap) (hx:xs[k]?=some x) (hy:ys[k]?=some y)
 (q:∀ h',IsZip h' z TI TO (rawInt s.heap.objs.size)->IsPair h' TO x y->B.At i1 l1 xs (k+1) h'->C.At i2 l2 ys (k+1) h'->IsPair h' s.heap.objs.size x y ->
   (∀ c o,c≠z->c≠TO->c≠i1->c≠i2->s.heap.get? c=some o->h'.get? c=some o)->Q (some (.ref s.heap.objs.size)) { s with heap:=h' }):wpAny (model prog w) A (pyNext (.ref z)) Q E s:=by
 have hT:s.TypeIs (.ref z) "zip":=⟨_,hz,rfl⟩
 have up:∀ {B:ZS K} {i l:Addr} {us:Array Value} {k:Nat},i≠z->l≠z->∀ {h h':Heap},(∀ c o,c≠z->h.get? c=some o->h'.get? c=some o)->B.At i l us k h->B.At i l us k h':=λ{B} {_} {_} {_} {_} n1 n2 h h' e t=>⟨B.itk (λo=>e _ o n1) t.1,B.usk (λo=>e _ o n2) t.2⟩
 unfold pyNext
 exact PK (RQ (Rx (name:=PM "__next__") hT U8
  (Ra U8 hT F.entry_zip_next
    (Cg ⟨D.TIz,D.TOz,D.i1z,D.i2z,D.TITO,D.TIi1,D.TIi2,D.TOi1,D.TOi2,D.i12⟩ hz hTI hTO
      (Cj (PF D) D.l1i1 hx) (Cj (Pc D) D.l2i2 hy) h1 h2
      (up D.i1z D.l1z) (up D.i2z D.l2z) λh' a1 a2 a3 a4 a5 a6=>PR (q h' a1 a2 a3 a4 a5 a6)) (F.args_zip_next_1 _))))
theorem yN {z TI TO i1 i2 l1 l2:Addr} (hh:A.handled=none) (D:ZipApart z TI TO i1 i2 l1 l2)
 (hz:IsZip s.heap z TI TO .none) (hTI:IsPair s.heap TI (.ref i1) (.ref i2)) (hTO:IsPair s.heap TO a b) (h1:B.At i1 l1 xs k s.heap) (h2:C.At i2 l2 ys k s.heap) (hend:xs.size<=k\/ys.size<=k)
 (q:∀ h',(∀ c o,c≠z->c≠TO->c≠i1->c≠i2->s.heap.get? c=some o->h'.get? c=some o)->Q none { s with heap:=h' }):wpAny (model prog w) A (pyNext (.ref z)) Q E s:=by
 have hT:s.TypeIs (.ref z) "zip":=⟨_,hz,rfl⟩
 unfold pyNext
 refine PK (RQ (Rx (name:=PM "__next__") hT U8
  (Ra U8 hT F.entry_zip_next (FD (N1:=B.At i1 l1 xs k) (N2:=C.At i2 l2 ys k) hh ⟨D.TIz,D.TOz,D.i1z,D.i2z,D.TITO,D.TIi1,D.TIi2,D.TOi1,D.TOi2,D.i12⟩ hz hTI hTO ?_ h1 h2 λh' e hk he=>?_) (F.args_zip_next_1 _))))
 ·by_cases z:k<xs.size
  ·exact .inr ⟨_,_,Cj (Pd D) D.l1i1 (Qt z),Hl (Pc D) (UK (by lia))⟩
  ·exact .inl (Hl (Pd D) (UK (by lia)))
 ·obtain ⟨o,ho,hc⟩:=he
  refine PK (T4 (T:="StopIteration") (b:=true) ⟨o,ho,hc⟩ isSubtype_stop ?_)
  exact PR (q _ hk)
end
noncomputable def J4 {K:PN} (B C:ZS K) (l1 l2:Addr):It :=
 ⟨λi H=>∃ xs ys x y,B.sq H l1 xs/\C.sq H l2 ys/\xs[i]?=some x/\ys[i]?=some y,
  λi H v H'=>∃ p x y,v=.ref p/\H p=none/\H'=upd H p (.tup [x,y])/\(∀ xs,B.sq H l1 xs->xs[i]?=some x)/\∀ ys,C.sq H l2 ys->ys[i]?=some y,
  λi H=>∃ xs ys,B.sq H l1 xs/\C.sq H l2 ys/\(xs.length<=i\/ys.length<=i)⟩
theorem yO {P:Program} {w:World} {K:PN} {B C:ZS K} {elts:List Expr} {k:Nat} {pos:Pos} {z TI TO i1 i2 l1 l2:Addr} (D:ZipApart z TI TO i1 i2 l1 l2) :
 Turn P w K (.Tuple elts k pos) (J4 B C l1 l2) [z,TI,TO,i1,i2] z (λi h=>IsZip h z TI TO .none/\IsPair h TI (.ref i1) (.ref i2)/\(∃ a b,IsPair h TO a b)/\B.it h i1 l1 i/\C.it h i2 l2 i) where
 mem:=by simp
 obj:=λi h ⟨hz,hTI,⟨a,b,hTO⟩,h1,h2⟩ b hb=>by
  simp only [P8,Q0,or_false] at hb
  rcases hb with rfl | rfl | rfl | rfl | rfl
  ·exact ⟨_,hz,λv q=>by have q':Ul _=SY v:=q; cases q'⟩
  ·exact ⟨_,hTI,λv q=>by have q':Data.seq _ _=SY v:=q; cases q'⟩
  ·exact ⟨_,hTO,λv q=>by have q':Data.seq _ _=SY v:=q; cases q'⟩
  ·exact B.ito h1
  ·exact C.ito h2
 keep:=λi h h' ⟨hz,hTI,⟨a,b,hTO⟩,h1,h2⟩ hk=>⟨hk z (by simp) _ hz,hk TI (by simp) _ hTI,⟨a,b,hk TO (by simp) _ hTO⟩,B.itk (hk i1 (by simp)) h1,C.itk (hk i2 (by simp)) h2⟩
 item:=by
  intro X hP hw hK hc i aa s σ H E I hf st hg
  obtain ⟨hz,hTI,⟨a,b,hTO⟩,h1,h2⟩:=st
  obtain ⟨xs,ys,x,y,q1,q2,hx,hy⟩:=hg
  obtain ⟨Ny,NV,p1⟩:=B.get hK I q1
  obtain ⟨its2,NW,p2⟩:=C.get hK I q2
  subst hP hw
  obtain ⟨u1,hu1,ru1⟩:=NV.get hx
  obtain ⟨u2,hu2,ru2⟩:=NW.get hy
  refine yM D hz hTI hTO ⟨h1,p1⟩ ⟨h2,p2⟩ (x:=u1) (y:=u2) (by simpa using hu1) (by simpa using hu2) λh' a1 a2 a3 a4 a5 hk=>?_
  have Hp:H s.heap.objs.size=none:=I.hok.fresh (PU _)
  have IA:Inv X aa σ (upd H s.heap.objs.size (.tup [x,y])) { s with heap:=s.heap.push { cls:=.type "tuple",data:=.seq #[u1,u2] },toks:=s.toks } :=
   I.laid (a:=s.heap.objs.size) (o:=.tup [x,y]) (λ_ _ q=>PY _ q) (PU _) ⟨by show 2<=sizeLine; decide,[u1,u2],.cons ru1 (.cons ru2 .nil),_,Qd _ rfl,rfl,0,rfl⟩
  have lt:∀ b∈[z,TI,TO,i1,i2],b<s.heap.objs.size:=λb hb=>by
   obtain ⟨o1,e1,_⟩:=B.ito h1
   obtain ⟨o2,e2,_⟩:=C.ito h2
   simp only [P8,Q0,or_false] at hb
   rcases hb with rfl | rfl | rfl | rfl | rfl
   ·exact P1 hz
   ·exact P1 hTI
   ·exact P1 hTO
   ·exact P1 e1
   ·exact P1 e2
  have gf:∀ b∈[z,TI,TO,i1,i2],eO X aa (upd H s.heap.objs.size (.tup [x,y])) b:=λb hb=>⟨by rw [ak (Qu (lt b hb))]; exact (hf b hb).1,(hf b hb).2⟩
  have I1:Inv X aa σ (upd H s.heap.objs.size (.tup [x,y])) { s with heap:=h',toks:=s.toks }:=gU (s:={ s with heap:=s.heap.push { cls:=.type "tuple",data:=.seq #[u1,u2] },toks:=s.toks }) (t':=s.toks) (h':=h') (L:=[z,TI,TO,i1,i2]) IA (λb o hb q=>by
   simp only [P8,Q0,or_false,not_or] at hb
   by_cases e:b=s.heap.objs.size
   ·subst e
    rw [Qd _ rfl] at q; cases q; exact a5
   ·refine hk b o hb.1 hb.2.2.1 hb.2.2.2.1 hb.2.2.2.2 ?_
    rw [Wd _ _ _ e] at q; exact q) gf
  have b1:IsPair h' TI (.ref i1) (.ref i2):=hk _ _ D.TIz D.TITO D.TIi1 D.TIi2 hTI
  refine ⟨_,rfl,wpAny_letOwnedTupleGo_zip (s:={ s with heap:=h' }) a1 λh2' hz' hs'=>?_⟩
  refine ⟨.ref s.heap.objs.size,_,gU (s:={ s with heap:=h',toks:=s.toks }) (t':=s.toks) (h':=h2') (L:=[z,TI,TO,i1,i2]) I1 (λb o hb q=>hs'.extBut b o (λe=>hb (by simp [e])) q) gf,rfl,
   ⟨_,x,y,rfl,Hp,rfl,λxs' h=>by rw [B.inj hK I h q1]; exact hx,λys' h=>by rw [C.inj hK I h q2]; exact hy⟩,
   ⟨hz',hs'.extBut _ _ D.TIz b1,⟨_,_,hs'.extBut _ _ D.TOz a2⟩,B.itk (λo=>hs'.extBut _ o D.i1z) a3.1,C.itk (λo=>hs'.extBut _ o D.i2z) a4.1⟩,λb hb=>(gf b hb).1⟩
 done:=by
  intro X hP hw hK hc i aa s σ H E I hf st hg
  obtain ⟨hz,hTI,⟨a,b,hTO⟩,h1,h2⟩:=st
  obtain ⟨xs,ys,q1,q2,hend⟩:=hg
  obtain ⟨Ny,NV,p1⟩:=B.get hK I q1
  obtain ⟨its2,NW,p2⟩:=C.get hK I q2
  subst hP hw
  have l1:=NV.length
  have l2:=NW.length
  refine yN (I.ok.hd hc) D hz hTI hTO ⟨h1,p1⟩ ⟨h2,p2⟩ (by simp; lia) λh' hk=>⟨rfl,gU (t':=s.toks) (L:=[z,TI,TO,i1,i2]) I (λb o hb q=>?_) hf⟩
  simp only [P8,Q0,or_false,not_or] at hb
  exact hk b o hb.1 hb.2.2.1 hb.2.2.2.1 hb.2.2.2.2 q
 self:=λA i s Q E st h=>wpAny_pyIter_zip st.1 h
theorem yP {K:PN} {B C:ZS K} {Hf:Hp} {ds es:List D} {xs ys:List V} {l1 l2:Addr} (h1:B.sq Hf l1 xs) (r1:aq K Hf ds xs) (h2:C.sq Hf l2 ys) (r2:aq K Hf es ys):iT K (J4 B C l1 l2) (yk ds es) Hf where
 go:=λi d H aM s1 s2 e=>by
  unfold yk at e
  rw [Uw] at e
  obtain ⟨x,y,ex,ey,rfl⟩:=e
  obtain ⟨v1,f1,g1⟩:=r1.get ex
  obtain ⟨v2,f2,g2⟩:=r2.get ey
  have q1:=B.same (s1.trans s2) h1
  have q2:=C.same (s1.trans s2) h2
  refine ⟨⟨xs,ys,v1,v2,q1,q2,f1,f2⟩,λv H' ⟨p,x',y',e1,e2,e3,e4,e5⟩=>?_⟩
  have z1:=e4 xs q1
  have z2:=e5 ys q2
  rw [f1] at z1; cases z1
  rw [f2] at z2; cases z2
  subst e1 e3
  have g:=aY.new s2 e2 (o:=.tup [v1,v2])
  exact ⟨upd aM p (.tup [v1,v2]),g,aH.mpr ⟨p,_,rfl,.inl (.inl ai),.cons (Rep.mono (s1.trans g.f) _ g1) (.cons (Rep.mono (s1.trans g.f) _ g2) (aC.mpr rfl))⟩⟩
 stop:=λi H aM s1 s2 e=>⟨xs,ys,B.same (s1.trans s2) h1,C.same (s1.trans s2) h2,by
  rw [<- r1.length,<- r2.length]
  unfold yk at e
  rw [List.length_zipWith] at e
  lia⟩
noncomputable abbrev Pe (c:String) (h:Heap) (l:Addr):Heap:=h.push { cls:=.type c,data:=.fields #[.ref l,.int 0 0] }
noncomputable abbrev Pf (h:Heap) (a b:Value):Heap:=h.push { cls:=.type "tuple",data:=.seq #[a,b] }
section
variable (c d:String)
noncomputable abbrev NK (h:Heap) (l1 _l2:Addr):Heap:=Pe c h l1
noncomputable abbrev MN (h:Heap) (l1 l2:Addr):Heap:=Pe d (NK c h l1 l2) l2
noncomputable abbrev NL (h:Heap) (l1 l2:Addr):Heap:=Pf (MN c d h l1 l2) (.ref h.objs.size) (.ref (NK c h l1 l2).objs.size)
noncomputable abbrev NN (h:Heap) (l1 l2:Addr):Heap:=Pf (NL c d h l1 l2) .none .none
noncomputable abbrev Ho (h:Heap) (l1 l2:Addr):Heap:=(NN c d h l1 l2).push { cls:=.type "zip",data:=.fields #[.none,.bool false,.bool false,.ref (MN c d h l1 l2).objs.size,.ref (NL c d h l1 l2).objs.size] }
end
abbrev FF {K:PN} (B C:ZS K):Prop:=∀ (l1 l2:Addr) (xs ys:Array Value),Meets (Builtin.«zip.__new__» ⟨[.type "zip",.ref l1,.ref l2],[]⟩) (λ_ R s=>B.us s.heap l1 xs/\C.us s.heap l2 ys/\R (.ok (.ret (.ref (NN B.cl C.cl s.heap l1 l2).objs.size))) { s with heap:=Ho B.cl C.cl s.heap l1 l2 })
theorem Ck (K):FF (Pb K) (Pb K):=λl1 l2 xs ys =>
 .of_wp λprog w A R s h=>by
  obtain ⟨hp,g,d,tk,os⟩:=s
  obtain ⟨e1,e2,h⟩:=h
  have hsub:=PySem.sub_zip
  have t1:IsTup (Shared.heap ⟨hp,g,d,tk,os⟩) l1 xs:=e1
  have t2:IsTup (Shared.heap ⟨hp.push { cls:=.type "tuple_iterator",data:=.fields #[.ref l1,.int 0 0] },g,d,tk,os⟩) l2 ys:=IsTup.push e2 _
  wp_walk using iter_tuple t1,iter_tuple t2
  exact ⟨_,rfl,h⟩
section
variable {K:PN}
theorem yQ (M:FF B C) (e1:B.us s.heap l1 xs) (e2:C.us s.heap l2 ys)
 (h:∀ h',IsZip h' (s.heap.objs.size+4) (s.heap.objs.size+2) (s.heap.objs.size+3) .none->IsPair h' (s.heap.objs.size+2) (.ref s.heap.objs.size) (.ref (s.heap.objs.size+1)) ->
   IsPair h' (s.heap.objs.size+3) .none .none->B.it h' s.heap.objs.size l1 0->C.it h' (s.heap.objs.size+1) l2 0 ->
   (∀ c o,s.heap.get? c=some o->h'.get? c=some o)->Q (.ref (s.heap.objs.size+4)) { s with heap:=h' }):wpAny (model prog w) A (call (.type "zip") [.ref l1,.ref l2]) Q E s:=by
 refine callType_new F.called_zip (by decide) (F.typeCall_zip_2 _ _) (F.newCall_zip_2 _ _) (λobj=>F.args_object_init_3 obj _ _) F.entry_zip_new (M l1 l2 xs ys) ⟨e1,e2,?_⟩
 have z1:(NK B.cl s.heap l1 l2).objs.size=s.heap.objs.size+1:=RC ..
 have z2:(MN B.cl C.cl s.heap l1 l2).objs.size=s.heap.objs.size+2:=by rw [RC,z1]
 have z3:(NL B.cl C.cl s.heap l1 l2).objs.size=s.heap.objs.size+3:=by rw [RC,z2]
 have z4:(NN B.cl C.cl s.heap l1 l2).objs.size=s.heap.objs.size+4:=by rw [RC,z3]
 have g5:(Ho B.cl C.cl s.heap l1 l2).get? (NN B.cl C.cl s.heap l1 l2).objs.size=some _:=Qd _ rfl
 have g4:(Ho B.cl C.cl s.heap l1 l2).get? (NL B.cl C.cl s.heap l1 l2).objs.size=some _:=PY _ (Qd _ rfl)
 have g3:(Ho B.cl C.cl s.heap l1 l2).get? (MN B.cl C.cl s.heap l1 l2).objs.size=some _:=PY _ (PY _ (Qd _ rfl))
 have g2:(Ho B.cl C.cl s.heap l1 l2).get? (NK B.cl s.heap l1 l2).objs.size=some _:=PY _ (PY _ (PY _ (Qd _ rfl)))
 have g1:(Ho B.cl C.cl s.heap l1 l2).get? s.heap.objs.size=some _:=PY _ (PY _ (PY _ (PY _ (Qd _ rfl))))
 have q:=h (Ho B.cl C.cl s.heap l1 l2)
 rw [<- z2,<- z3,<- z4] at q
 have pr:IsPair (Ho B.cl C.cl s.heap l1 l2) (MN B.cl C.cl s.heap l1 l2).objs.size (.ref s.heap.objs.size) (.ref (s.heap.objs.size+1)):=by rw [<- z1]; exact g3
 refine ⟨⟨_,g5,rfl⟩,q g5 pr g4 (B.ini g1) (C.ini (by rw [<- z1]; exact g2)) λc o x=>PY _ (PY _ (PY _ (PY _ (PY _ x))))⟩
end
theorem apart_new {n l1 l2:Nat} (h1:l1<n) (h2:l2<n):ZipApart (n+4) (n+2) (n+3) n (n+1) l1 l2:=by
 constructor <;> first | exact Qu (by lia) | exact Sf (by lia)
noncomputable def MO {K:PN} (B C:ZS K) (ta:TA):TI:=λσ H R=>ta σ H λvs H1=>∃ l1 l2 xs ys,vs=[.ref l1,.ref l2]/\B.sq H1 l1 xs/\C.sq H1 l2 ys/\R (J4 B C l1 l2) H1
theorem FG {B C:ZS X.K} (M:FF B C) (hg:Gl X "zip") (hm:X.mg "zip"=none) (ha:PA X [a,b] ta) (hs:starEach [a,b] X.env=[(false,eval a X.env),(false,eval b X.env)]) (hs2:starEach [b] X.env=[(false,eval b X.env)]) :
 PI X (.Tuple elts kt tpos) (.Call (.Name "zip" p) [a,b] [] pos) (MO B C ta):=by
 intro aa s σ H R I h
 refine Call_ (dz I hg hm EV.boot_zip (S6 (bz (ha pos aa s σ H _ I h) λus s1 ⟨vs,H1,I1,r1,q1⟩=>?_) (by rw [hs,hs2]) (by rw [hs2]; rfl)))
 obtain ⟨l1,l2,xs,ys,e,q1,q2,q⟩:=q1
 subst e
 cases r1 with
 | cons r rr =>
  cases rr with
  | cons r' rr =>
   cases rr
   cases r
   cases r'
   obtain ⟨Ny,NV,p1⟩:=B.get rfl I1 q1
   obtain ⟨its2,NW,p2⟩:=C.get rfl I1 q2
   have b1:l1<s1.heap.objs.size:=by obtain ⟨_,e⟩:=B.uso p1; exact P1 e
   have b2:l2<s1.heap.objs.size:=by obtain ⟨_,e⟩:=C.uso p2; exact P1 e
   refine yQ M p1 p2 λh' a1 a2 a3 a4 a5 hk=>wpAny_pyIter_zip a1 ?_
   refine ⟨s1.heap.objs.size+4,[s1.heap.objs.size+4,s1.heap.objs.size+2,s1.heap.objs.size+3,s1.heap.objs.size,s1.heap.objs.size+1],_,_,H1,rfl,I1.kept (t':=s1.toks) hk,yO (apart_new b1 b2),⟨a1,a2,⟨_,_,a3⟩,a4,a5⟩,λb hb=>?_,q⟩
   have hb':s1.heap.objs.size<=b:=by
    simp only [P8,Q0,or_false] at hb
    rcases hb with rfl | rfl | rfl | rfl | rfl
    ·exact RO _ _
    ·exact RO _ _
    ·exact RO _ _
    ·exact PU _
    ·exact RO _ _
   exact I1.kG hb' (I1.hok.fresh hb')
section
variable {K:PN} {c:Ctx P w K mg base k N sc bk}
theorem J5 {B C:ZS c.X.K} (M:FF B C) (hm:mg "zip"=none) (h:aJ c a ρ λx=>aJ c b ρ λy=>∃ ds es,x=B.dm ds/\y=C.dm es/\R (yk ds es)) (hg:sc.names.lookup (PM "zip")=some .globalImplicit:=by walk_at "u")
 (hs:∀ env,starEach [a,b] env=(false,eval a env)::starEach [b] env:=by intro _; walk_at "u") (hs2:∀ env,starEach [b] env=(false,eval b env)::starEach [] env:=by intro _; walk_at "u"):xU c (.Tuple elts kt tpos) (.Call (.Name "zip" p) [a,b] [] pos) ρ R:=λσ H Hf Q S q aa s I =>
 FG M (by unfold Gl Qx; rw [c.esc]; exact hg) (by rw [c.emg]; exact hm) (bF cQ (bF cQ cL (hs2 _)) (hs _)) (by rw [hs,hs2]; rfl) (by rw [hs2]; rfl) aa s σ H Q I
  (h σ H Hf _ S λx v1 H1 aM h1 r1 g1=>h1 σ H1 aM _ (S.cA g1) λy v2 H2 cD ⟨ds,es,e1,e2,hR⟩ r2 g2=>by
    subst e1 e2
    rw [B.rep] at r1
    rw [C.rep] at r2
    obtain ⟨l1,xs,rfl,s1,t1⟩:=r1
    obtain ⟨l2,ys,rfl,s2,t2⟩:=r2
    have s1':=B.same g2.f s1
    exact ⟨l1,l2,xs,ys,rfl,B.same g2.b s1',C.same g2.b s2,q _ _ H2 cD hR (g1.trans g2) (yP s1' (t1.mono g2.f) s2 t2)⟩)
theorem Cm (hm:mg "zip"=none) (h:aJ c a ρ λx=>aJ c b ρ λy=>∃ ds es,x=.tup ds/\y=.tup es/\R (yk ds es)) (hg:sc.names.lookup (PM "zip")=some .globalImplicit:=by walk_at "u")
 (hs:∀ env,starEach [a,b] env=(false,eval a env)::starEach [b] env:=by intro _; walk_at "u") (hs2:∀ env,starEach [b] env=(false,eval b env)::starEach [] env:=by intro _; walk_at "u"):xU c (.Tuple elts kt tpos) (.Call (.Name "zip" p) [a,b] [] pos) ρ R:=J5 (Ck _) hm h hg hs hs2
end
end EV
namespace EV
open PySem PySem.Spec PyProof.Rows L2
theorem FH (P) (w) (base) {K:PN} {st:Stmt} (D:aD K mg x st) (h:∀ {f:Addr} {fd:FuncData},eS K x x st f fd->bu P w K mg base (di P w) k f fd ps (G7 K ok))
 (hb:∀ (kV doc pm:Value) (an:Option Addr) (cdv ct:Value) (us:List Value),us.length=ps.length->bindArgs (RS x x (eV st) (ay st) (aQ st) .none kV doc pm an cdv ct) ⟨us,[]⟩=pure (ps.zip us):=by intro _ _ _ _ _ _ us hl; first | (obtain ⟨a,rfl⟩:=Jt us hl; rfl) | (obtain ⟨a,b,rfl⟩:=Ju us hl; rfl) | (obtain ⟨a,b,c,rfl⟩:=Jv us hl; rfl) | (obtain ⟨a,b,c,d,rfl⟩:=len4 us hl; rfl) | (obtain ⟨a,b,c,d,e,rfl⟩:=Jw us hl; rfl) | (obtain ⟨a,b,c,d,e,f,rfl⟩:=Jx us hl; rfl) | (obtain rfl:=len0 us hl; rfl)):Fy P w K mg base k x ok :=
 let ⟨f,fd,m,Fu⟩:=D; ⟨f,fd,ps,m,Fu.kp,Fu.binds hb,h Fu⟩
end EV
namespace EV
open PySem PySem.Spec PySem.Calls PyProof.Rows L2
noncomputable abbrev gE (l:List Int):D:=.tup (l.map .int)
section
variable {X:Cx}
theorem ku (I:Inv X aa σ H s) (sb:aL Hf H) (h:jZ X.K Hf (gE l) u):∃ b its,u=.ref b/\IsTup s.heap b its/\IntsAre its.toList l:=by
 obtain ⟨v,rv,q⟩:=h
 obtain ⟨b,ys,rfl,h3,h4⟩:=aH.mp q
 cases rv
 obtain ⟨its2,rel2,tu2,_⟩:=I.tuple (av sb h3)
 have e:=i9 h4
 subst e
 exact ⟨b,its2.toArray,rfl,tu2,intsAre_of rel2⟩
theorem Cn (h:gE x=gE y):x=y:=by
 simp only [gE,D.tup.injEq] at h
 exact (List.map_inj_right (f:=D.int) (λa b e=>by injection e)).mp h
theorem Co (I:Inv X aa σ H s) (sb:aL Hf H) (h1:jZ X.K Hf (gE x) u) (h2:jZ X.K Hf (gE y) u):x=y:=by
 obtain ⟨v,r1,q1⟩:=h1
 obtain ⟨v',r2,q2⟩:=h2
 have:=r1.inj r2
 subst this
 exact Cn (oq I sb 1 _ _ _ (Bv x y) q1 q2)
theorem FI (L):SR.G2 HT.lexLt L:=⟨λ_ _=>kq _,λ_ _ _ _ _ _ h g=>tS h g,λ_ _ _ _ h=>kr h⟩
noncomputable def Cp (L:List (List Int)):SortKind:=open Classical in if ∀ l∈L,l≠[] then tuples' true else if L.head?=some [] then oneType' else general'
theorem FJ (b) (h:Q (decide (m<n)) s):wpAny (model X.prog X.w) A (oneLt' b (.int m t) (.int n u)) Q E s:=by
 cases b with
 | true=>exact oneLt_int h
 | false =>
  rw [oneLt'_eq,if_neg P5]
  exact PK (lt_int (PR h))
theorem wF:∀ {vs ws:List Value} {x y:List Int} (i:Nat),IntsAre vs x->IntsAre ws y->x.length+n=y.length+m->Q (HT.lexLt x y) s->PySem.W.KatLex X.prog X.w A b (decide (m<n)) Q (vs.zip ws) i s
 | _,_,_,_,i,.nil,.nil,e,h=>PySem.W.kat_nil (by rw [HT.g6] at h; rw [decide_eq_false (by simp at e; lia)]; exact h)
 | _,_,_,_,i,.nil,.cons c u hw,e,h=>PySem.W.kat_nil (by rw [HT.gh] at h; rw [decide_eq_true (by simp at e; lia)]; exact h)
 | _,_,_,_,i,.cons a t hv,.nil,e,h=>PySem.W.kat_nil (by rw [HT.gi] at h; rw [decide_eq_false (by simp at e; lia)]; exact h)
 | _,_,_,_,i,.cons a t hv,.cons c u hw,e,h=>by
  rw [UR]
  refine PySem.W.kat_cons (wpAny_eqBool_int ?_)
  rw [HT.cM] at h
  by_cases z:a=c
  ·rw [if_pos z] at h
   rw [show (a == c)=true by simpa using z]
   exact PySem.W.kat_yes (wF (i+1) hv hw (by simp at e; lia) h)
  ·rw [if_neg z] at h
   rw [show (a == c)=false by simpa using z]
   exact PySem.W.kat_no (FJ _ h)
theorem jR:∀ {l:List α} {m:List β} {i:Nat} {b:β},Paired F l m->m[i]?=some b->∃ a,l[i]?=some a/\F a b
 | _,_,_,_,.nil,e=>by simp at e
 | _,_,0,_,.cons r _,e=>by simp at e; subst e; exact ⟨_,rfl,r⟩
 | _,_,i+1,a,.cons _ t,e=>by
  obtain ⟨b,h1,h2⟩:=jR (i:=i) t (by simpa using e)
  exact ⟨b,by simpa using h1,h2⟩
theorem Cq (I:Inv X aa σ H s) (sb:aL Hf H) (h:Paired (λx u=>jZ X.K Hf (gE x) u) L us) (h2:2<=us.length) (hQ:Q (Cp L) s):wpAny (model X.prog X.w) A (keyKind' us.toArray) Q E s:=by
 have key:∃ fs:List (Option Value),Paired (λ(l:List Int) o=>(l=[]/\o=none)\/∃ n r t,l=n::r/\o=some (Ur n t)) L fs/\Paired (λu o=>∀ (Q:Option Value->Shared->Prop),Q o s->wpAny (model X.prog X.w) A (firstOfTuple' u) Q E s) us fs:=by
  clear h2 hQ
  induction h with
  | nil=>exact ⟨[],.nil,.nil⟩
  | @cons x u L us r t ih =>
   obtain ⟨fs,e1,e2⟩:=ih
   obtain ⟨a,its,rfl,⟨o,ho,hc,n,hd⟩,ia⟩:=ku I sb r
   refine ⟨its[0]?::fs,.cons ?_ e1,.cons (λQ hQ=>?_) e2⟩
   ·rw [<- QO]
    generalize its.toList=il at ia
    cases ia with
    | nil=>exact .inl ⟨rfl,rfl⟩
    | cons n t' _=>exact .inr ⟨n,_,t',rfl,rfl⟩
   ·show wpAny _ _ (do
     if (<- typeOf (.ref a)) != .type "tuple" then return none
     return (<- TQ (.ref a))[0]?) _ _ _
    refine PK (Sb (T:="tuple") ⟨o,ho,hc⟩ ?_)
    rw [if_neg (by simp)]
    exact PK (Ue ho hd (PR hQ))
 obtain ⟨fs,e1,e2⟩:=key
 rw [keyKind'_eq,List.mapM_toArray]
 simp only [bind_map_left]
 refine PK (iB _ _ e2 ?_)
 have typs:∀ {T:String} (vs:List Value) (Q:List Value->Shared->Prop),(∀ v∈vs,s.TypeIs v T)->Q (vs.map λ_=>.type T) s->wpAny (model X.prog X.w) A (vs.mapM typeOf) Q E s:=λ{T} vs Q ht hQ=>by
  refine iB _ _ ?_ hQ
  clear hQ
  induction vs with
  | nil=>exact .nil
  | cons f fs ih=>exact .cons (λQ hQ=>Sb (ht f P4) hQ) (ih λg hg=>ht g (P9 _ hg))
 have el:L.length=us.length:=Rl h
 have ef:L.length=fs.length:=Rl e1
 have oneT:∀ {T:String} (vs:List Value) (Q:Option Value->Shared->Prop),vs≠[]->(∀ v∈vs,s.TypeIs v T)->Q (some (.type T)) s->wpAny (model X.prog X.w) A (oneTypeOnly' vs.toArray) Q E s:=λ{T} vs Q hne ht hQ=>by
  rw [oneTypeOnly'_eq,List.mapM_toArray]
  simp only [bind_map_left]
  refine PK (typs (T:=T) vs _ ht ?_)
  obtain ⟨f,r,rfl⟩:=List.exists_cons_of_ne_nil hne
  have h0:(List.map (λ_=>Rg T) (f::r)).toArray[0]?=some (Rg T):=by simp
  rw [h0]
  dsimp only
  rw [if_pos (by simp)]
  exact PR hQ
 unfold Cp at hQ
 by_cases hall:∀ l∈L,l≠[]
 ·rw [if_pos hall] at hQ
  have e3:∃ gs:List Value,fs=gs.map some/\∀ g∈gs,s.TypeIs g "int":=by
   clear h h2 hQ e2 el ef oneT typs
   induction e1 with
   | nil=>exact ⟨[],rfl,by simp⟩
   | @cons x o L fs r t ih =>
    obtain ⟨gs,q1,q2⟩:=ih λl hl=>hall l (P9 _ hl)
    rcases r with ⟨z,_⟩ | ⟨n,r',t',_,rfl⟩
    ·exact absurd z (hall x P4)
    ·exact ⟨.int n t'::gs,by rw [q1]; rfl,λg hg=>by
      rcases P8.mp hg with rfl | hg
      ·exact TH s n t'
      ·exact q2 g hg⟩
  obtain ⟨gs,rfl,q2⟩:=e3
  rw [if_pos (by simp)]
  refine PK (Q8 ?_)
  have e4:(gs.map some).toArray.filterMap id=gs.toArray:=by simp
  rw [e4]
  refine PK (oneT (T:="int") gs _ (λz=>by subst z; rw [el,RT,RH] at ef; lia) q2 (PR ?_))
  have e6:(some (Rg "int")).any (λx=>x != Rg "tuple")=true:=by decide
  rw [e6]
  exact hQ
 ·rw [if_neg hall] at hQ
  have hno:¬ (fs.toArray.all λx=>x.isSome)=true:=λz=>hall λl hl hl0=>by
   obtain ⟨i,hi,ei⟩:=List.mem_iff_getElem.mp hl
   obtain ⟨o,ho,r⟩:=dF e1 (Qo hi)
   rw [ei] at r
   have zo:o.isSome=true:=by
    rw [List.all_toArray,Wl] at z
    exact z o (QI ho)
   rcases r with ⟨_,rfl⟩ | ⟨n,r',t',e,_⟩
   ·cases zo
   ·rw [hl0] at e; cases e
  rw [if_neg hno]
  cases e1 with
  | nil=>rw [RH] at el; lia
  | @cons x o L fs r t =>
   have e0:((o::fs).toArray[0]?.bind id)=o:=by simp
   rw [e0]
   rcases r with ⟨rfl,rfl⟩ | ⟨n,r',t',rfl,rfl⟩
   ·rw [if_pos (by simp)] at hQ
    rw [if_neg (by simp)]
    refine PK (oneT (T:="tuple") us _ (λz=>by subst z; simp at h2) (λv hv=>?_) (PR hQ))
    obtain ⟨i,hi,ei⟩:=List.mem_iff_getElem.mp hv
    obtain ⟨l,_,r⟩:=jR h (Qo hi)
    rw [ei] at r
    obtain ⟨a,its,rfl,⟨o,ho,hc,n,hd⟩,ia⟩:=ku I sb r
    exact ⟨o,ho,hc⟩
   ·rw [if_neg (by simp)] at hQ
    rw [if_pos (by simp)]
    exact PR hQ
theorem J6 (I:Inv X aa σ H s) (sb:aL Hf H) (hA:A.units+10<cLine) (hx:jZ X.K Hf (gE x) u) (hy:jZ X.K Hf (gE y) v) (hQ:Q (HT.lexLt x y) s):wpAny (model X.prog X.w) A (keyLt' (Cp L) u v) Q E s:=by
 obtain ⟨a,its,rfl,ta,ia⟩:=ku I sb hx
 obtain ⟨b,its2,rfl,tb,ib⟩:=ku I sb hy
 have hu:A.units<cLine:=by lia
 have gen:wpAny (model X.prog X.w) A (oneLt' false (.ref a) (.ref b)) Q E s:=PySem.W.kat_one _ _ (HT.sR ta tb ia ib hu hQ)
 obtain ⟨⟨cls,dd,data,sl⟩,ho,hc,n,hd⟩:=id ta
 obtain ⟨⟨cls2,dd2,data2,sl2⟩,ho2,hc2,n2,hd2⟩:=id tb
 simp only at hc hd hc2 hd2
 subst hc hd hc2 hd2
 unfold Cp
 split
 ·exact PySem.W.kat_lt ho rfl ho2 rfl (wF (m:=its.size) (n:=its2.size) 0 ia ib (by have:=ia.length; have:=ib.length; simp only [QS] at *; lia) hQ)
 ·split
  ·rw [keyLt'_oneType,oneLt'_eq]
   simp only [if_true]
   refine PK (wpAny_cRoomFor hu ?_)
   refine PK (wpAny_callSpecialIfBound?_slot ⟨_,ho,rfl⟩ VO (TJ VO ⟨_,ho,rfl⟩ PySem.F.entry_tuple_lt (PySem.F.args_tuple_lt_2 _ _) (HT.ic a b its its2 n n2 dd dd2 sl sl2 x y ia ib) ⟨ho,ho2,?_⟩))
   exact TX hQ
  ·exact gen
end
section
open PySem in
theorem Cr (hd:(d == sysModules)=false) (ho:s.heap.get? d=some o) (hx:o.ExactDict) (hdat:o.data=.dict es ep)
 (hQ:Q (.ref s.heap.objs.size) { s with heap:=s.heap.push { cls:=.type "dict_keyiterator",data:=.fields #[.ref d,.int 0 0,.int es.size 0,.int ep 0] } }) :
 wpAny (model prog w) A (pyIter (.ref d)) Q E s:=by
 have hT:s.TypeIs (.ref d) "dict":=⟨o,ho,hx.1⟩
 refine V5 hT F.slot_dict_iter (Ra F.slot_dict_iter hT F.entry_dict_iter ?_ (F.args_dict_iter_1 _))
 unfold Builtin.«dict.__iter__»
 refine PK ?_
 unfold Builtin.Dict.dictSlotNone
 refine PK (wpAny_notOrdered_dict hT ?_)
 show wpAny _ _ (pure (Qk d)) _ _ s
 refine PR ?_
 show wpAny _ _ (UM d >>= _) _ _ s
 unfold UM
 rw [if_neg (by rw [hd]; exact P5)]
 refine PK (PR ?_)
 refine PK (Tq ho hdat ?_)
 refine PK (Tt ho hdat ?_)
 refine PK (QZ (PR ⟨_,rfl,"dict_keyiterator",_,⟨_,Qd _ rfl,rfl⟩,TM.lookup,?_⟩))
 simpa [rawInt] using hQ
theorem Cs (hit:s.heap.IsKeyIter it d i es.size ep)
 (hod:s.heap.get? d=some od) (hdd:od.data=.dict es ep) (hx:es[i]?=some e)
 (hQ:∀ h',h'.IsKeyIter it d (i+1) es.size ep->Rk it s.heap h'->Q (some e.key) { s with heap:=h' }) :
 wpAny (model prog w) A (pyNext (.ref it)) Q E s:=by
 obtain ⟨o,ho,hc,hd⟩:=id hit
 unfold pyNext
 refine PK (RQ (Rx (name:=PM "__next__") hit.typeIs TM
  (Ra TM hit.typeIs WB ?_ (Wy _))))
 refine PK (PR ?_)
 refine PK ?_
 refine PK ?_
 first | refine PK (Uv hit.typeIs (PR ?_)) | refine PK (UB hit.typeIs (PR ?_))
 refine PK (Vb ho hd ?_)
 have hown:VA "dict_keyiterator"=false:=by decide
 simp only [hown,QU,if_false]
 show wpAny _ _ (if (Qk d == QG)=true then _ else _) _ _ s
 rw [if_neg (show ¬ ((Qk d == QG)=true) from P5)]
 refine PK (PR ?_)
 refine PK (Tq hod hdd ?_)
 rw [if_neg (by simp)]
 refine PK (PR ?_)
 refine PK (Tt hod hdd ?_)
 rw [if_neg (by simp)]
 refine PR ?_
 simp only [show ¬ ((i:Int)<0) from by omega,if_false,QV,hx]
 refine PK ?_
 first | refine PK (Uv hit.typeIs (PR ?_)) | refine PK (UB hit.typeIs (PR ?_))
 refine PK (wpAny_isOneOf_keyiter hit.typeIs ?_)
 show wpAny _ _ (setField (.ref it) 1 (rawInt ((i:Int)+1)) >>= _) _ _ s
 refine PK (SI ho hd (by simp) ?_)
 have hit':(s.heap.update it (Obj.mapFields (·.setIfInBounds 1 (rawInt ((i:Int)+1))))).IsKeyIter it d (i+1) es.size ep :=
  ⟨_,VR _ ho (VQ (Tj hd _)),(Wa ..).trans hc,by rw [Tj hd]; simp [rawInt]⟩
 refine PK (Rb ?_)
 refine PK (wpAny_isOneOf_keyiter (s:={ s with heap:=s.heap.update it (Obj.mapFields (·.setIfInBounds 1 (rawInt ((i:Int)+1)))) }) hit'.typeIs ?_)
 show wpAny _ _ (pure e.key) _ _ _
 exact PR (PR ⟨_,rfl,PR (hQ _ hit' (Sx ..))⟩)
theorem FL (hh:A.handled=none) (hit:s.heap.IsKeyIter it d i es.size ep)
 (hod:s.heap.get? d=some od) (hdd:od.data=.dict es ep) (hge:es.size<=i)
 (hQ:∀ h',R3 it s.heap h'->Q none { s with heap:=h' }):wpAny (model prog w) A (pyNext (.ref it)) Q E s:=by
 obtain ⟨o,ho,hc,hd⟩:=id hit
 unfold pyNext
 refine PK (RQ (Rx (name:=PM "__next__") hit.typeIs TM
  (Ra TM hit.typeIs WB ?_ (Wy _))))
 refine PK (PR ?_)
 refine PK ?_
 refine PK ?_
 first | refine PK (Uv hit.typeIs (PR ?_)) | refine PK (UB hit.typeIs (PR ?_))
 refine PK (Vb ho hd ?_)
 have hown:VA "dict_keyiterator"=false:=by decide
 simp only [hown,QU,if_false]
 show wpAny _ _ (if (Qk d == QG)=true then _ else _) _ _ s
 rw [if_neg (show ¬ ((Qk d == QG)=true) from P5)]
 refine PK (PR ?_)
 refine PK (Tq hod hdd ?_)
 rw [if_neg (by simp)]
 refine PK (PR ?_)
 refine PK (Tt hod hdd ?_)
 rw [if_neg (by simp)]
 refine PR ?_
 simp only [show ¬ ((i:Int)<0) from by omega,if_false,QV,UK hge]
 refine PK ?_
 first | refine PK (Uv hit.typeIs (PR ?_)) | refine PK (UB hit.typeIs (PR ?_))
 show wpAny _ _ (setField (.ref it) 0 .none >>= _) _ _ s
 refine PK (SI ho hd (by simp) ?_)
 show wpAny _ _ (newExc (.type "StopIteration") [] >>= _) _ _ _
 refine PK ?_
 simp only [newExc,newTuple]
 refine PK (QZ ?_ (by size_fits))
 refine PK (m:=firstArgMember _ _) (Vr (a:=QG) (by first | rfl | (simp only [firstArgMember]; rfl)) ?_)
 refine QZ ?_ (by size_fits)
 simp only [raiseNew]
 refine PK (Vh ?_)
 rw [show A.in1.handled=none from hh]
 refine PK (PR (Vq ?_))
 refine PK (T4 (T:="StopIteration") (b:=true) ⟨_,Qd _ rfl,rfl⟩ isSubtype_stop ?_)
 exact PR (hQ _ (((Sx ..).extBut.push _).push _))
end
section
variable {X:Cx} {aa:List (Addr×Obj)} {σ:L2.St} {H Hf:Hp} {s:Shared} {E:Value->Shared->Prop} {α:Type} {enc:α->D} {lt:α->α->Bool} {κ:SortKind}
structure MQ (X:Cx) (enc:α->D) (lt:α->α->Bool) (κ:SortKind) (L:List α):Prop where
 lin:SR.G2 lt L
 inj:∀ (aa:List (Addr×Obj)) (σ:L2.St) (H Hf:Hp) (s:Shared),Inv X aa σ H s->aL Hf H->∀ x y u,jZ X.K Hf (enc x) u->jZ X.K Hf (enc y) u->x=y
 kind:∀ (aa:List (Addr×Obj)) (σ:L2.St) (H Hf:Hp) (s:Shared) (A:Around) (E:Value->Shared->Prop),Inv X aa σ H s->aL Hf H->∀ us:List Value,Paired (λx u=>jZ X.K Hf (enc x) u) L us->2<=us.length->∀ Q:SortKind->Shared->Prop,Q κ s->wpAny (model X.prog X.w) A (keyKind' us.toArray) Q E s
 cmp:∀ (aa:List (Addr×Obj)) (σ:L2.St) (H Hf:Hp) (s:Shared) (A:Around) (E:Value->Shared->Prop),Inv X aa σ H s->aL Hf H->A.units+10<cLine->∀ (x y:α) (u v:Value),jZ X.K Hf (enc x) u->jZ X.K Hf (enc y) v->∀ Q:Bool->Shared->Prop,Q (lt x y) s->wpAny (model X.prog X.w) A (keyLt' κ u v) Q E s
theorem FN (L):MQ X gE HT.lexLt (Cp L) L :=
 ⟨FI L,λ_ _ _ _ _ I sb _ _ _ h1 h2=>Co I sb h1 h2,λ_ _ _ _ _ _ _ I sb _ p h2 _ hQ=>Cq I sb p h2 hQ,λ_ _ _ _ _ _ _ I sb hA _ _ _ _ hx hy _ hQ=>J6 I sb hA hx hy hQ⟩
theorem yR {Q:Value->Shared->Prop} (hs:MQ X enc lt κ L) (I:Inv X aa σ H s) (sb:aL Hf H) (hA:A.units+20<cLine) (hr:aq X.K Hf (L.map enc) xs) (hv:Vals xs us) (hz:us.length<=sizeLine) (nd:L.Nodup)
 (hkw:∀ l,Builtin.«list.sort» ⟨[.ref l],kw⟩=Builtin.«list.sort» ⟨[.ref l],[(PM "reverse",.bool b)]⟩) (hka:∀ l,argsOk "list.sort" ⟨[.ref l],kw⟩)
 (hQ:∀ (L':List α) (xs':List V) (s':Shared),L'.Perm L->fQ lt b L'->aq X.K Hf (L'.map enc) xs'->xs'.length<=sizeLine->Inv X aa σ (upd H s.heap.objs.size (.lst xs')) s'->Q (.ref s.heap.objs.size) s') :
 wpAny (model X.prog X.w) A (newList us >>= λl=>(holding [l] (call (.builtin "list.sort") [l] kw) >>= λ_=>ret l)) (λfin s'=>∃ v,fin=.done (.ret v)/\Q v s') E s:=by
 refine PK (Ua ?_ hz)
 have ha:(s.heap.push (seqObj "list" us.toArray 0)).get? s.heap.objs.size=some (seqObj "list" us.toArray 0):=Qd _ rfl
 have I1:Inv X aa σ H { s with heap:=s.heap.push (seqObj "list" us.toArray 0),toks:=s.toks }:=I.kept λb o e=>PY _ e
 have Ha:H s.heap.objs.size=none:=I.hok.fresh (PU _)
 obtain ⟨f0,f1,f2,f3,f4,f5⟩:=I.kG (H':=H) (PU _) Ha
 have pL:=lK hr hv
 refine PK (Rb (VU slot_list_sort ⟨_,ha,rfl⟩ entry_list_sort (by
  rw [hkw]
  refine SR.nF (κ:=κ) (rk:=SR.yh (λx u=>jZ X.K Hf (enc x) u) lt L) (b:=b) ha ?_ hz λout hp ho=>⟨_,rfl,?_⟩
  ·intro h' k
   have I2:=I1.turned (h':=h') (t':=s.toks) (it:=s.heap.objs.size) (λb o hb e=>k b o hb e) f0 f1 f3 f4 f5
   refine ⟨λQ E h2 hQ=>hs.kind _ _ _ _ _ _ _ I2 sb _ pL h2 _ hQ,SR.Bt (λx y u h1 h2=>hs.inj _ _ _ _ _ I2 sb x y u h1 h2) hs.lin pL λx _ y _ u v hx hy E Q hQ=>hs.cmp _ _ _ _ _ _ _ I2 sb ?_ _ _ _ _ hx hy _ hQ⟩
   show A.units+1+10<cLine
   lia
  ·obtain ⟨L',p1,p2,p3⟩:=SR.qY (S:=λx u=>jZ X.K Hf (enc x) u) (λx y u h1 h2=>hs.inj _ _ _ _ _ I sb x y u h1 h2) hs.lin nd pL hp ho
   obtain ⟨xs',r',v'⟩:=lM p3
   obtain ⟨e,he⟩:=sortedHeap_at (vs:=us) (out:=out) ha
   have hl:out.toList.length=us.length:=hp.length_eq
   refine PR ⟨_,rfl,hQ L' xs' _ p1 p2 r' ?_ ?_⟩
   ·have:=v'.length; lia
   ·refine I.laid (t':=s.toks) (λb o q=>?_) (PU _) ⟨by have:=v'.length; lia,out.toList,e,v',by simpa using he⟩
    have lt:=P1 q
    rw [sortedHeap_old (Qu lt) (by rw [size_push']; exact UU lt)]
    exact PY _ q) (hka _)))
end
theorem mE:argsOk "sorted" ⟨[a],[]⟩:=by unfold argsOk; kernel_rfl
theorem args_list_sort_1:argsOk "list.sort" ⟨[a],[]⟩:=by unfold argsOk; kernel_rfl
noncomputable def MR (d:Addr) (o:Obj) (u:HO):It :=
 ⟨λi H=>H d=some (.frz o u)/\i<(bN u).length,λi H x H'=>H'=H/\∃ y,(bN u)[i]?=some y/\x=y.1,λi H=>H d=some (.frz o u)/\(bN u).length<=i⟩
theorem uf {P:Program} {w:World} {K:PN} {tg:Expr} {d j:Addr} {o:Obj} {u:HO} {es:Array DictEntry} {ep:Nat} (hd:HO.dct u) (hod:o.data=.dict es ep) (hes:es.size=(bN u).length):Turn P w K tg (MR d o u) [j] j (λi h=>h.IsKeyIter j d i es.size ep) where
 mem:=Qg.mpr rfl
 obj:=λi h ⟨q,e,_,hd⟩ b hb=>by
  obtain rfl:b=j:=Qg.mp hb
  exact ⟨_,e,λv z=>by rw [hd] at z; cases z⟩
 keep:=λi h h' ⟨q,e,r⟩ k=>⟨q,k j (Qg.mpr rfl) _ e,r⟩
 item:=by
  intro X hP hw hK hc i aa s σ H E I hf st hg
  subst hP hw hK
  obtain ⟨f0,f1,f2,f3,f4,f5⟩:=hf j (Qg.mpr rfl)
  obtain ⟨hH,hi⟩:=hg
  obtain ⟨ho,ok⟩:=(show bq X.prog X.w H s.heap d (.frz o u) from I.hok d _ hH)
  obtain ⟨_,es',ep',e1,e2,_⟩:=cP ok hd ho
  rw [hod] at e1; cases e1
  obtain ⟨e,he,re⟩:=dF e2 (Qo hi)
  have he':es[i]?=some e:=by simpa using he
  refine Cs st ho hod he' λh' hit' hs'=>?_
  have I1:Inv X aa σ H { s with heap:=h',toks:=s.toks }:=I.turned (λb o hb e=>hs'.extBut b o hb e) f0 f1 f3 f4 f5
  obtain ⟨q,eq,qc,qd⟩:=id hit'
  exact ⟨_,rfl,mR (s:={ s with heap:=h',toks:=s.toks }) (n:="dict_keyiterator") eq qc qd (by decide) ⟨_,H,I1,re.1,⟨rfl,_,Qo hi,rfl⟩,hit',λb hb=>(hf b hb).1⟩⟩
 done:=by
  intro X hP hw hK hc i aa s σ H E I hf st hg
  subst hP hw hK
  obtain ⟨f0,f1,f2,f3,f4,f5⟩:=hf j (Qg.mpr rfl)
  obtain ⟨hH,hi⟩:=hg
  obtain ⟨ho,ok⟩:=(show bq X.prog X.w H s.heap d (.frz o u) from I.hok d _ hH)
  exact FL (I.ok.hd hc) st ho hod (by rw [hes]; exact hi) λh' eb=>⟨rfl,I.turned (t':=s.toks) (λb o hb e=>eb b o hb e) f0 f1 f3 f4 f5⟩
 self:=λ_ _ _ _ _ st h=>wpAny_pyIter_keyiter st h
theorem ug {K:PN} {Hf:Hp} {d:Addr} {o:Obj} {ys:List (List Key×Addr×V)} {ks:List (List Int)} (hH:Hf d=some (.frz o (.dT ys))) (hk:ys.map (·.1)=ks.map (·.map Ql)) (hs:∀ y∈ys,cU K Hf y.2.1 (y.1.map kV)):iT K (MR d o (.dT ys)) (ks.map gE) Hf where
 go:=λi x H aM s1 s2 e=>by
  rw [P6,Qc] at e
  obtain ⟨n,hn,rfl⟩:=e
  have hq:=congrArg (λl=>l[i]?) hk
  simp only [P6,hn,Option.map_some] at hq
  obtain ⟨y,hy,ey⟩:=Qc.mp hq
  have hp:(bN (.dT ys))[i]?=some (.ref y.2.1,y.2.2):=by
   show (ys.map _)[i]?=_
   rw [P6,hy]; rfl
  refine ⟨⟨s2 _ _ (s1 _ _ hH),(Qa.mp hp).1⟩,λv H' ⟨e1,y',e2,e3⟩=>?_⟩
  rw [hp] at e2; cases e2
  subst e1 e3
  refine ⟨aM,.refl s2,aH.mpr ⟨y.2.1,y.1.map kV,rfl,av s1 (hs y (QI hy)),?_⟩⟩
  rw [ey,Qi]
  exact jw n
 stop:=λi H aM s1 s2 e=>⟨s2 _ _ (s1 _ _ hH),by
  have:=congrArg Si hk
  show (ys.map _).length<=i
  simp only [P0] at this e |-
  lia⟩
theorem pe (hc:X.calm=true) (I:Inv X aa σ H s) (sb:aL Hf H) (hA:X.A.units+60<cLine) (hH:Hf d=some (.frz o (.dT ys))) (hk:ys.map (·.1)=ks.map (·.map Ql)) (hq:∀ y∈ys,cU X.K Hf y.2.1 (y.1.map kV)) (nd:ks.Nodup)
 (hQ:∀ (L':List (List Int)) (xs':List V) (s':Shared) (H' aj:Hp) (a:Addr),L'.Perm ks->fQ HT.lexLt false L'->aq X.K aj (L'.map gE) xs'->aY H Hf H' aj->H' a=none->Inv X aa σ (upd H' a (.lst xs')) s'->Q (.ref a) s') :
 wpAny (model X.prog X.w) X.A (call (.builtin "sorted") [.ref d]) Q E s:=by
 refine call_function_entry kind_sorted plain_sorted entry_sorted mE ?_
 unfold Builtin.«sorted»
 refine PK (m:=checkCount "sorted" 1 1 _) (PR ?_)
 have h1:X.A.in1.handled=none:=I.ok.hd hc
 have h2:X.A.in1.frames=some X.stack:=I.ok.frames
 obtain ⟨ho,ok⟩:=(show bq X.prog X.w H s.heap d (.frz o (.dT ys)) from I.hok d _ (sb _ _ hH))
 obtain ⟨hx,es,ep,e1,e2,hs,hz⟩:=cP ok trivial ho
 have hsz:es.size=(bN (.dT ys)).length:=by rw [Rl e2]; simp
 have hn:(ks.map gE).length=(bN (.dT ys)).length:=by have:=congrArg Si hk; show _=(ys.map _).length; simp only [P0] at this |-; lia
 have ty:∀ s':Shared,(∀ b o,s.heap.get? b=some o->s'.heap.get? b=some o)->s'.TypeIs (.ref d) "dict":=λs' k=>⟨o,k _ _ ho,hx.1⟩
 refine PK (lJ (X:=E4 X X.A.in1) (H:=H) (Hf:=Hf) (ds:=ks.map gE) (T:="dict") hc h1 h2 (jB I (λ_=>h1) h2) sb (P1 ho) (by lia) (by decide) (λs' k=>ty s' k) (λA s' Q E q h=>nL q h) (λA s1 H1 E I1 sb1 k1=>?_) λus s' H' aj xs I' rv rr g hz'=>?_)
 ·refine Cr hs (k1 _ _ ho) hx e1 ?_
  refine ⟨_,_,_,rfl,PU _,I1.kept (t':=s1.toks) λb o e=>PY _ e,uf (u:=.dT ys) trivial e1 hsz,⟨_,Qd _ rfl,rfl,rfl⟩,λb hb=>?_,λb o e=>PY _ e,ug hH hk hq⟩
  obtain rfl:b=s1.heap.objs.size:=Qg.mp hb
  exact I1.kG (PU _) (I1.hok.fresh (PU _))
 ·have I2:=gr I.ok I'
  have el:=rr.length
  have el2:=rv.length
  refine yR (b:=false) (FN ks) I2 g.b ?_ rr rv (by lia) nd (λ_=>rfl) (λ_=>args_list_sort_1) λL' xs' s2 p1 p2 p3 p4 I3=>hQ L' xs' s2 H' aj _ p1 p2 p3 g (I2.hok.fresh (PU _)) I3
  show X.A.units+1+20<cLine
  lia
section
variable {K:PN} {c:Ctx P w K mg base k N sc bk}
theorem Ct (hm:mg "sorted"=none) (h:aJ c e ρ λd=>∃ (ks:List (List Int)) (ds:List D),d=.fdT (ks.map (·.map Ql)) ds/\Sd ks.Nodup (∀ L':List (List Int),L'.Perm ks->fQ HT.lexLt false L'->R (.ow (L'.map gE))))
 (hg:sc.names.lookup (PM "sorted")=some .globalImplicit:=by walk_at "u")
 (he:∀ env,starEach [e] env=(false,eval e env)::starEach [] env:=by intro _; walk_at "u")
 (hpl:∀ env,(backTo pos (starEach [] env)).any (·.1)=false:=by intro _; walk_at "u") :
 cN c (.Call (.Name "sorted" np) [e] [] pos) ρ R:=λσ H Hf Q S q aa s I=>by
 have hgl:Gl c.X "sorted":=by unfold Gl Qx; rw [c.esc]; exact hg
 refine Ry (dz I hgl (by rw [c.emg]; exact hm) (show bootBuiltins "sorted"=some (.builtin "sorted") by decide +kernel) ?_ (by decide) (by decide))
 have hpa:=bF (X:=c.X) (e:=e) (es:=[]) cQ cL (he _)
 refine Vz (bz (hpa pos aa s σ H (λvs H1=>∃ x,vs=[x]/\∃ (ks:List (List Int)) (ds:List D) (aM:Hp),Rep c.X.K aM (.fdT (ks.map (·.map Ql)) ds) x/\ks.Nodup/\aY H Hf H1 aM/\∀ L':List (List Int),L'.Perm ks->fQ HT.lexLt false L'->R (.ow (L'.map gE))) I ?_) λus s1 hh=>z2 hh λvs H1 hh=>w3 hh λI1 r1 hh=>hh.elim λx hh=>w2 hh λex hh=>z3 hh λks ds aM hh=>w4 hh λe1 e7 e8 e9=>?_) (he _) (hpl _)
 ·exact h σ H Hf _ S λd v H1 aM ⟨ks,ds,hp,⟨hn,hR⟩⟩ rv g=>⟨_,rfl,ks,ds,aM,by rw [<- hp]; exact rv,hn,g,hR⟩
 ·subst ex
  obtain ⟨a0,ys,o,rfl,hs,hk,hq,hr⟩:=iP.mp e1
  have eu:us=[.ref a0]:=by
   cases r1 with
   | cons q1 q2=>cases q2; cases q1; rfl
  subst eu
  refine pe c.calm I1 e8.b ?_ hs hk hq e7 λL' xs' s' H' aj a p1 p2 p3 g na I3=>?_
  ·have:=c.room.un
   lia
  ·have gg:=e8.trans g
   exact ⟨.ref a,_,I3,rfl,q (.ow (L'.map gE)) _ _ aj (e9 L' p1 p2) ⟨a,xs',rfl,gg.s.free na,ai,g.b.free na,p3⟩ (gg.trans (aY.gj g.b na))⟩
end
noncomputable def MS:V->List V->Hp->VK->Prop:=λx vs H Q=>∃ l xs y,x=.ref l/\vs=[.int 0,y]/\H l=some (.lst xs)/\xs.length<sizeLine/\Q .non (upd H l (.lst (y::xs)))
theorem FO:O7 X "list.insert" MS:=by
 intro aa s σ H x vs v us Q I rx rv h
 obtain ⟨l,xs,y,rfl,rfl,hH,hz,q⟩:=h
 cases rx
 cases rv with
 | cons r0 rv =>
  obtain ⟨t,rfl⟩:=r0
  obtain ⟨u,rfl,ru⟩:=Vals.one rv
  obtain ⟨z,its,n,r,hl,e⟩:=I.qb hH
  refine TJ F.slot_list_insert ⟨_,e,rfl⟩ F.entry_list_insert (F.args_list_insert_3 _ _ _) (PySem.AutoSeq1.list_insert_list_int_val_1 l its.toArray n 0 t u (by decide) (by rw [Qm]; lia)) ⟨e,?_⟩
  refine ⟨.non,_,I.sW (its':=u::its) hH e (by simp) (.cons ru r) ?_,rfl,q⟩
  rw [Qz]
  lia
section
variable {K:PN} {c:Ctx P w K mg base k N sc bk}
theorem J7 (hN:At N i x) (hi:At ρ i r) (hr:r.getL=some ds) (h:aJ c e ρ λd=>Sd (ds.length<sizeLine) (Nx ρ i nx (r.putL (d::ds))))
 (hs:∀ env,swapsWith (.Call (.Attribute (.Name x px) "insert" ap) [.Constant (.int 0) j p0,e] [] cp) none pos.line env=pure false:=by intro _; walk_at "u") (hd:(x == ("__debug__":Str))=false:=by decide) (hcd:(x == ("__classdict__":Str))=false:=by decide)
 (hbase:∀ env,attributeBase (.Name x px) "insert" env (eval (.Name x px) env)=eval (.Name x px) env:=by intro _; walk_at "u")
 (hfew:∀ env,((backTo cp (starEach [.Constant (.int 0) j p0,e] env)).all (λx=> !x.1) && (backToKw cp (keywordEach [] env)).all (λx=>x.1.isSome)
   && decide (([.Constant (.int 0) j p0,e]:List Expr).length+([]:List Keyword).length+(if ([]:List Keyword).isEmpty then 0 else 1)<30))=true:=by intro _; walk_at "u")
 (hline:(ap.endLine == cp.line)=true:=by walk_at "u") (he0:∀ env,starEach [.Constant (.int 0) j p0,e] env=(false,eval (.Constant (.int 0) j p0) env)::starEach [e] env:=by intro _; walk_at "u") (he:∀ env,starEach [e] env=(false,eval e env)::starEach [] env:=by intro _; walk_at "u") (hpl:∀ env,(backTo cp (starEach [e] env)).any (·.1)=false:=by intro _; walk_at "u") :
 eU c (.Expr (.Call (.Attribute (.Name x px) "insert" ap) [.Constant (.int 0) j p0,e] [] cp) pos) ρ nx p:=λσ H Hf D S o=>by
 obtain ⟨q,eq,rq⟩:=S.own hi.get (dD hr)
 obtain ⟨xs,h1,h2,h3⟩:=Jg hr rq
 refine dQ (iL (GI PySem.F.plainAttrs_list PySem.F.slot_list_insert PySem.F.type_list_insert FO (c.jW hN hd hcd) (bF zE (bF cQ cL (he _)) (he0 _)) (hbase _) (hfew _) hline (he0 _) (hpl _)) (hs _)) ⟨_,eq,.inl ⟨rfl,xs,.inl (.inl h1)⟩,?_⟩
 refine h σ H Hf _ S λd v H' aj ⟨hz,ρ',hs',hn⟩ rd g=>?_
 have S':=S.cA g
 have e1:H' q=some (.lst xs):=g.s _ _ h1
 have e2:aj q=none:=g.n q h2 (by rw [h1]; simp) (by intro ys; rw [h1]; simp)
 refine ⟨q,xs,v,rfl,rfl,e1,by rw [<- h3.length]; exact hz,?_⟩
 refine o.nx _ _ aj ρ' ?_ hn
 rw [hs'.eq]
 have rq':=rq.cA g
 exact S'.upd hi.get (dD hr) eq (gM g.b e2) (kU hr rq' ai e2 (.cons rd (h3.mono g.f))) (iu hr)
end
end EV
namespace EV
open PySem PySem.Spec PyProof.Rows L2
theorem wG {α:Type}:∀ ys:List α,(QC ys.length).filterMap (ys[·]?)=ys
 | []=>rfl
 | y::ys=>by
  rw [Qz,List.range_succ_eq_map,Rn]
  show y::_=_
  rw [US]
  exact congrArg (y:: ·) (wG ys)
theorem rQ {α β:Type} {f g:α->Option β}:∀ {l:List α},(∀ x∈l,f x=g x)->l.filterMap f=l.filterMap g
 | [],_=>rfl
 | x::l,h=>by rw [Rn,Rn,h x P4,rQ λy hy=>h y (P9 _ hy)]
theorem Cu {α:Type} (xs:List α):List.filterMap ((xs[·]?)∘λi=>xs.length - 1 - i) (QC xs.length)=xs.reverse:=by
 have h:=wG xs.reverse
 rw [VX] at h
 refine Eq.trans (rQ λk hk=>?_) h
 exact (List.getElem?_reverse (Vf.mp hk)).symm
theorem wH (xs:List α):stp xs none none (some (-1))=xs.reverse:=by
 unfold stp sliceBounds
 simp only [Option.getD_some,show ¬ ((-1:Int)>0) by decide,if_false]
 have e:sliceRange ((xs.length:Int) - 1) (-1) (-1)=(QC xs.length).map λi=>xs.length - 1 - i:=by
  unfold sliceRange
  simp only [show ¬ ((-1:Int)>0) by decide,if_false]
  have c:(if (xs.length:Int) - 1> -1 then ((xs.length:Int) - 1 - -1 - -1 - 1) / (- -1) else 0)=(xs.length:Int):=by
   split
   ·rw [show (- -1:Int)=1 by decide,Int.ediv_one]; omega
   ·omega
  rw [c,QV]
  refine RL λk hk=>?_
  have:=Vf.mp hk
  omega
 rw [e,US]
 exact Cu xs
noncomputable def OV (X:Cx) (te:TE) (tl th ts:TO):TE:=λσ H Q=>te σ H λx H1=>tl σ H1 λl H2=>th σ H2 λu H3=>ts σ H3 λt H4=>∃ a xs k,x=.ref a/\f7 X.K H4 a xs/\l=none/\u=none/\t=some k/\k= -1/\∀ p,H4 p=none->Q (.ref p) (upd H4 p (.lst (stp xs l u (some k))))
section
variable {lo hi:Option Expr} {st:Expr}
theorem J8 (he:PE X e te) (hl:PO X lo tl) (hu:PO X hi th) (ht:PO X (some st) ts):PE X (.Subscript e (.Slice lo hi (some st) p2) pos) (OV X te tl th ts):=by
 intro aa s σ H Q I h
 refine Subscript_ (bz (he aa s σ H _ I h) λv s1 ⟨x,H1,I1,r1,q1⟩=>?_)
 refine wpAny_Slice (bz (hl aa s1 σ H1 _ I1 q1) λvl s2 ⟨l,H2,I2,pl,q2⟩=>bz (hu aa s2 σ H2 _ I2 q2) λvu s3 ⟨u,H3,I3,pu,q3⟩=>bz (ht aa s3 σ H3 _ I3 q3) λvt s4 ⟨t,H4,I4,pt,q4⟩=>?_)
 obtain ⟨a,xs,k,rfl,hx,rfl,rfl,rfl,rfl,q⟩:=q4
 have I5:Inv X aa σ H4 { s4 with heap:=s4.heap.push { cls:=.type "slice",data:=.fields #[vl,vu,vt] } }:=I4.kept (t':=s4.toks) λb ob q=>PY _ q
 cases r1
 obtain ⟨its,r,hi,hz⟩:=I5.list hx
 have hlen:=r.length
 show wpAny (model X.prog X.w) X.A (subscriptTail e (.Slice lo _ (some st) p2) (.ref a) (.ref s4.heap.objs.size)) (EP X aa σ Q) X.xe { s4 with heap:=s4.heap.push { cls:=.type "slice",data:=.fields #[vl,vu,vt] } }
 refine tail_any (ops:=[.ref a,.ref s4.heap.objs.size]) hi.isList.typeIs V7.lookup ?_ (by walk_at "u")
 refine wpAny_getItem_list_slice hi.isList (Heap.IsSliceOf.new ..) pl pu pt (by decide) ?_ (by rw [Qm] <;> lia)
 have I6:=I5
 generalize hS:({ s4 with heap:=s4.heap.push { cls:=.type "slice",data:=.fields #[vl,vu,vt] } }:Shared)=S at I6 |-
 have ep:slicePick its.toArray none none (some (-1))=(stp its none none (some (-1))).toArray:=by
  unfold slicePick stp
  simp only [Qm,List.getElem?_toArray]
 rw [ep]
 refine ⟨.ref S.heap.objs.size,_,I6.laid (t':=S.toks) (o:=.lst (stp xs none none (some (-1)))) (λb ob q=>PY _ q) (PU _) ?_,rfl,q _ (I6.hok.fresh (PU _))⟩
 exact ⟨by rw [wH,VX]; exact hz,_,0,by unfold stp; rw [hlen]; exact yK r _,Qd _ rfl⟩
end
section
variable {K:PN}
theorem MT {lo hi:Option Expr} {st:Expr} (h:aJ c e ρ λx=>AJ c lo ρ λl=>AJ c hi ρ λu=>AJ c (some st) ρ λt=>l=none/\u=none/\t=some (-1)/\∃ ds,x=.lst ds/\R (.ow ds.reverse)):cN c (.Subscript e (.Slice lo hi (some st) p2) pos) ρ R:=λσ H Hf Q S q =>
 bJ (J8 cQ Ja Ja Ja) (h σ H Hf _ S λx v H1 aM h1 r1 g1=>h1 σ H1 aM _ (S.cA g1) λl H2 cD h2 g2=>h2 σ H2 cD _ (S.cA (g1.trans g2)) λu H3 Hf3 h3 g3=>h3 σ H3 Hf3 _ (S.cA ((g1.trans g2).trans g3)) λt H4 Hf4 h4 g4=>by
  obtain ⟨rfl,rfl,rfl,ds,rfl,hR⟩:=h4
  have r3:=Rep.mono g4.f _ (Rep.mono g3.f _ (Rep.mono g2.f _ r1))
  have g:=((g1.trans g2).trans g3).trans g4
  rw [aX] at r3
  obtain ⟨a,xs,rfl,k1,k2⟩:=r3
  refine ⟨a,xs,-1,rfl,g4.b.seq k1,rfl,rfl,rfl,rfl,λp hp=>?_⟩
  exact q _ _ _ _ hR ⟨p,_,rfl,g.s.free hp,ai,g4.b.free hp,by rw [<- wH]; unfold stp; rw [k2.length]; exact yL k2 _⟩ (g.trans (aY.gj g4.b hp)))
end
end EV
namespace EV
open PySem PySem.Spec PySem.Calls PyProof.Rows L2
theorem Cv {K:PN}:∀ {kvs:List (List Key×D)} {ys:List (List Key×Addr×V)},ys.map (·.1)=kvs.map (·.1)->(∀ y∈ys,cU K H y.2.1 (y.1.map kV))->aq K H (kvs.map (·.2)) (ys.map (·.2.2))->kP K H kvs ys
 | [],[],_,_,_=>.nil
 | [],y::ys,h,_,_=>by simp at h
 | x::kvs,[],h,_,_=>by simp at h
 | x::kvs,y::ys,h,hq,r=>by
  rw [PZ,PZ] at h r
  obtain ⟨v,t,e,r1,r2⟩:=aF.mp r
  injection e with e1 e2
  injection h with h1 h2
  subst e1 e2
  exact .cons ⟨h1.symm,by rw [<- h1]; exact hq y P4,r1⟩ (Cv h2 (λz hz=>hq z (P9 _ hz)) r2)
section
variable {K:PN}
theorem J9 (h:aJ c a ρ λx=>aJ c b ρ λy=>∃ (kvs:List (List Key×D)) (ds:List D) (kk:List Key) (d:D),x=.fdT (kvs.map (·.1)) (kvs.map (·.2))/\y=.tup ds/\D.keys ds=some kk/\bD kvs kk=some d/\R d) (hs:Eh b:=by with_unfolding_all exact λ_ _=>rfl):aJ c (.Subscript a b pos) ρ R:=λσ H Hf Q S q =>
 bJ (uY c.hu cQ cQ hs) (h σ H Hf _ S λx v H1 aM h1 r1 g1=>h1 σ H1 aM _ (S.cA g1) λy u H2 cD ⟨kvs,ds,kk,d,e1,e0,e2,e3,hR⟩ r2 g2=>by
  subst e1 e0
  obtain ⟨p,ys,o,rfl,k1,k2,k4,k3⟩:=iP.mp r1
  have kv:=(Cv k2 k4 k3).mono g2.f
  have rel:=kv.val kk
  rw [e3] at rel
  obtain ⟨pb,xb,rfl,kb,rb⟩:=aH.mp r2
  rw [gO e2 rb] at kb
  cases z:atT ys kk with
  | none=>rw [z] at rel; exact rel.elim
  | some v =>
   rw [z] at rel
   exact ⟨p,v,rfl,.inr ⟨ys,kk,pb,.inr ⟨o,g2.b _ _ (g2.f _ _ k1)⟩,λx hx=>av g2.b (av g2.f (k4 x hx)),rfl,av g2.b kb,z.symm⟩,q d v H2 cD hR rel (g1.trans g2)⟩)
end
structure j3 (ρ:List Sl) (i:Nat) (s:Sh):Prop where
 hi:ρ[i]?=some (.fo s)
 ho:∀ {j:Nat} {r:Sl},j≠i->ρ[j]?=some r->r.sY=false\/∃ L0 L:List (Addr×List D),s=.t (cK L0)/\r=.fo (.t (cK L))/\∀ x∈L,∀ y∈L0,x.1≠y.1
section
variable {K:PN}
theorem ah.addrs:∀ {L:List (Addr×List D)} {vs:List V} {fp:Fp},ah K H Hf (cK L) vs fp->fp.map (·.1)=L.map (·.1)
 | [],_,_,h=>by simp only [cK,RT,ah] at h; rw [h.2]; rfl
 | x::L,_,_,h=>by
  have h':ah K H Hf (.la x.1 x.2::cK L) _ _:=h
  simp only [ah] at h'
  obtain ⟨y,r,f1,f2,rfl,h1,h2,rfl⟩:=h'
  simp only [aG] at h1
  obtain ⟨xs,rfl,q1,q2,q3,rfl⟩:=h1
  rw [Qs,ah.addrs h2]; rfl
theorem aG.addrs (h:aG K H Hf (.t (cK L)) v fp):fp.map (·.1)=L.map (·.1):=by
 simp only [aG] at h
 obtain ⟨a,xs,e,h1,h2⟩:=h
 exact ah.addrs h2
theorem ah.nO:∀ {L:List (Addr×List D)} {vs:List V} {fp:Fp},ah K H Hf (cK L) vs fp->ah K H Hf ((L.map (·.2)).map .l) vs fp
 | [],_,_,h=>h
 | x::L,_,_,h=>by
  have h':ah K H Hf (.la x.1 x.2::cK L) _ _:=h
  show ah K H Hf (.l x.2::(L.map (·.2)).map .l) _ _
  simp only [ah] at h' |-
  obtain ⟨y,r,f1,f2,e1,h1,h2,e2⟩:=h'
  refine ⟨y,r,f1,f2,e1,?_,ah.nO h2,e2⟩
  simp only [aG] at h1 |-
  obtain ⟨xs,e,q1,q2,q3,q4⟩:=h1
  exact ⟨_,xs,e,q1,q2,q3,q4⟩
theorem aG.nO (h:aG K H Hf (.t (cK L)) v fp):aG K H Hf (.t ((L.map (·.2)).map .l)) v fp:=by
 simp only [aG] at h |-
 obtain ⟨a,xs,e,h1,h2⟩:=h
 exact ⟨a,xs,e,h1,ah.nO h2⟩
theorem Cw:∀ L:List (Addr×List D),Sh.ds (cK L)=(L.map (·.2)).map D.lst
 | []=>rfl
 | x::L=>congrArg (D.lst x.2:: ·) (Cw L)
theorem MU (L):(Sh.t (cK L)).d=.tup ((L.map (·.2)).map D.lst):=congrArg D.tup (Cw L)
theorem rR (hr:r.sY=false\/∃ L0 L:List (Addr×List D),s=.t (cK L0)/\r=.fo (.t (cK L))/\∀ x∈L,∀ y∈L0,x.1≠y.1)
 (rf:aG K H Hf s v0 fp) (sf:aL Hf aj) (hk:∀ a o,¬ a∈fp.map (·.1)->H a=some o->Hf a=none->H' a=some o/\aj a=none) (e2:aW K fr H Hf r v):aW K fr H' aj r v:=by
 have hz:=aG.fz s rf
 rcases hr with hr | ⟨L0,L,rfl,rfl,hd⟩
 ·refine aW.mv (B:=λa=>a∈fp.map (·.1)) sf (λa o hm e1 _ e3=>hk a o hm e1 e3) (λhf=>by rw [hr] at hf; cases hf) (λow a e m=>?_) e2
  subst e
  obtain ⟨_,_,e,_,_,_,nf⟩:=e2.vp ow
  cases e
  obtain ⟨p,hp,rfl⟩:=bM m
  exact nf ⟨p.2,(hz p hp).1⟩
 ·obtain ⟨fp2,r2,nd,f2⟩:=e2
  refine ⟨fp2,aG.mv sf _ (λq hq e1 e3=>hk q.1 _ (λm=>?_) e1 e3) r2,nd,f2⟩
  rw [rf.addrs] at m
  have m2:q.1∈L.map (·.1):=by rw [<- r2.addrs]; exact Qe.mpr ⟨q,hq,rfl⟩
  obtain ⟨y,hy,ey⟩:=Qe.mp m
  obtain ⟨x,hx,ex⟩:=Qe.mp m2
  exact hd x hx y hy (ex.trans ey.symm)
theorem dB.Cy (S:dB K H₀ dR σ H Hf ρ) (h:j3 ρ i s) :
 ∃ fp:Fp,(fp.map (·.1)).Nodup/\(∀ a∈fp,H a.1=some (pl a.1 a.2)/\Hf a.1=none)/\dB K H₀ dR σ (c8 l5 fp H) (c8 l5 fp Hf) (ρ.set i (.va s.d)):=by
 obtain ⟨hi,ho⟩:=h
 obtain ⟨v,ev,fp,rf,nd,hfr⟩:=S.at_ i _ hi (by intro z; cases z)
 have hz:=aG.fz s rf
 have none_in:∀ {b:Addr} {o:HO},Hf b=some o->b∉fp.map (·.1):=λe m=>by obtain ⟨p,hp,rfl⟩:=bM m; rw [(hz p hp).2] at e; cases e
 have fr_in:∀ {b:Addr},b∈fp.map (·.1)->H₀ b=none:=λm=>by obtain ⟨p,hp,rfl⟩:=bM m; exact hfr p hp
 have sf:aL Hf (c8 l5 fp Hf):=λb o e=>by rw [aS (none_in e)]; exact e
 refine ⟨fp,nd,hz,⟨⟨λb o e=>?_,S.bas.f.trans sf,λb o e=>?_,λb h1 h2 h3=>?_⟩,by simp [S.len],λj r hj hu=>?_,λj j' r r' q hne h1 h2 o1 o2=>?_⟩⟩
 ·rw [aS λm=>by rw [fr_in m] at e; cases e]; exact S.bas.s b o e
 ·by_cases m:b∈fp.map (·.1)
  ·obtain ⟨p,hp,rfl⟩:=bM m
   rw [bU nd p hp] at e |-; exact e
  ·rw [aS m] at e |-; exact S.sb b o e
 ·rw [aS λm=>h2 (fr_in m)]; exact S.bas.n b h1 h2 h3
 ·rcases bC hj with ⟨rfl,rfl⟩ | ⟨q,hj⟩
  ·exact ⟨v,ev,aG.rep sf s (λa ha=>bU nd a ha) rf⟩
  ·obtain ⟨v,e1,e2⟩:=S.at_ j r hj hu
   exact ⟨v,e1,rR (ho q hj) rf sf (λa o hm e1 e3=>⟨by rw [aS hm]; exact e1,by rw [aS hm]; exact e3⟩) e2⟩
 ·have out:∀ {j:Nat} {r:Sl},(ρ.set i (.va s.d))[j]?=some r->r.owned=true->ρ[j]?=some r:=λ{j r} hj ho=>by
   rcases bC hj with ⟨_,rfl⟩ | ⟨_,hj⟩
   ·cases ho
   ·exact hj
  exact S.sep j j' r r' q hne (out h1 o1) (out h2 o2) o1 o2
theorem dB.Hq (S:dB K H₀ dR σ H Hf ρ) (h:j3 ρ i s) (rf:aG K H Hf s v fp) (fr:∀ a∈fp,H₀ a.1=none) (g:aY (fS H fp) Hf H1 aM):dB K H₀ dR σ H1 aM (ρ.set i .un):=by
 obtain ⟨hi,ho⟩:=h
 have fr_in:∀ {b:Addr},b∈fp.map (·.1)->H₀ b=none:=λm=>by obtain ⟨p,hp,rfl⟩:=bM m; exact fr p hp
 have s0:aL H₀ (fS H fp):=λb o e=>by rw [bX λm=>by rw [fr_in m] at e; cases e]; exact S.bas.s b o e
 refine ⟨⟨s0.trans g.s,S.bas.f.trans g.f,g.b,λb h1 h2 h3=>?_⟩,by simp [S.len],λj r hj hu=>?_,λj j' r r' q hne h1 h2 o1 o2=>?_⟩
 ·cases z:H₀ b with
  | none=>exact absurd z h2
  | some o1 =>
   have e1:=s0 b o1 z
   exact g.n b (S.bas.n b h1 h2 h3) (by rw [e1]; simp) λxs=>by rw [e1,<- z]; exact h3 xs
 ·rcases bC hj with ⟨_,rfl⟩ | ⟨q,hj⟩
  ·exact absurd rfl hu
  ·obtain ⟨v,e1,e2⟩:=S.at_ j r hj hu
   have e3:aW K (λp=>H₀ p=none) (fS H fp) Hf r v:=rR (ho q hj) rf (.refl _) (λa o hm e1 e3=>⟨by rw [bX hm]; exact e1,e3⟩) e2
   exact ⟨v,e1,e3.cA g⟩
 ·have out:∀ {j:Nat} {r:Sl},(ρ.set i .un)[j]?=some r->r.owned=true->ρ[j]?=some r:=λ{j r} hj ho=>by
   rcases bC hj with ⟨_,rfl⟩ | ⟨_,hj⟩
   ·cases ho
   ·exact hj
  exact S.sep j j' r r' q hne (out h1 o1) (out h2 o2) o1 o2
end
section
variable {K:PN} {c:Ctx P w K mg base k N sc bk}
theorem Ka (i) (h1:j3 ρ i s) (hs:SSet ρ i (.va s.d) ρ') (h:aJ c e ρ' λd=>Sd d.nl (R d)):aJ c e ρ R:=λσ H Hf Q S q aa s' I=>by
 obtain ⟨fp,nd,hz,S1⟩:=S.Cy h1
 rw [<- hs.eq] at S1
 refine bz (h σ _ _ (λv H'=>∃ aj d,d.nl/\R d/\Rep c.X.K aj d v/\aY (c8 l5 fp H) (c8 l5 fp Hf) H' aj) S1 (λd v H' aj ⟨fl,rd⟩ rv g=>⟨aj,d,fl,rd,rv,g⟩) aa s' (fK I nd λa ha=>(hz a ha).1)) λu s1 ⟨v,H1,I1,rv,aM,d,fl,rd,rp,g⟩=>?_
 have hL:∀ a∈fp,H1 a.1=some (.lst a.2):=λa ha=>g.s _ _ (bU nd a ha)
 exact ⟨v,_,gB I1 nd hL,rv,q d v _ (fS aM fp) rd (wu (λa ha=>⟨a.2,g.f _ _ (bU nd a ha)⟩) d fl rp) (lW nd hz g)⟩
theorem pq (i) (h1:j3 ρ i s) (hs:SSet ρ i (.va s.d) ρ') (h:iJ c e ρ' T):iJ c e ρ T:=λσ H Hf Q S q aa s' I=>by
 obtain ⟨fp,nd,hz,S1⟩:=S.Cy h1
 rw [<- hs.eq] at S1
 refine bz (h σ _ _ (λb H'=>∃ aj,T b/\aY (c8 l5 fp H) (c8 l5 fp Hf) H' aj) S1 (λb H' aj rd g=>⟨aj,rd,g⟩) aa s' (fK I nd λa ha=>(hz a ha).1)) λb s1 ⟨H1,I1,aM,rd,g⟩=>?_
 have hL:∀ a∈fp,H1 a.1=some (.lst a.2):=λa ha=>g.s _ _ (bU nd a ha)
 exact ⟨_,gB I1 nd hL,q b _ (fS aM fp) rd (lW nd hz g)⟩
theorem wI (h:Fy P w K mg base j x ok) (hj:j<=k) (hN:At N i y) (h1:j3 ρ i s) (hu:∀ {H Hf:Hp} {v:V} {fp:Fp},aG c.X.K H Hf s v fp->aG c.X.K H Hf sU v fp) (hok:ok sU) (hn:Nx ρ i nx .un)
 (hg:sc.names.lookup x=some .globalImplicit:=by walk_at "u") (hdb:(x == ("__debug__":Str))=false:=by decide) (hd:(y == ("__debug__":Str))=false:=by decide) (hcd:(y == ("__classdict__":Str))=false:=by decide)
 (he:∀ env,starEach [.Name y py] env=(false,eval (.Name y py) env)::starEach [] env:=by intro _; walk_at "u")
 (hpl:∀ env,(backTo cp (starEach [] env)).any (·.1)=false:=by intro _; walk_at "u")
 (hs:∀ env,swapsWith (.Call (.Name x px) [.Name y py] [] cp) none pos.line env=pure false:=by intro _; walk_at "u"):eU c (.Expr (.Call (.Name x px) [.Name y py] [] cp) pos) ρ nx p:=λσ H Hf D S o=>by
 obtain ⟨v,ev,fp,rf,nd,hfr⟩:=S.at_ i _ h1.hi (by intro z; cases z)
 obtain ⟨ρ',hs',hn⟩:=hn
 refine dQ (iL cQ (hs _)) (show bE c.X _ σ H (λ_ H'=>D.nx σ H') from λaa s' I=>?_)
 obtain ⟨f,fd,ps,hm,hk,hb,hF⟩:=h.ex
 refine Ry (gJ I (by unfold Gl Qx; rw [c.esc]; exact hg) (by rw [c.emg]; exact hm) ?_ hdb)
 have hA:bA c.X [.Name y py] σ H (λvs H1=>vs=[v]/\H1=H):=kQ (bF (c.jW hN hd hcd) cL (he _)) ⟨_,ev,rfl,rfl⟩
 refine TV (h₀:=c.X.base) I.ok.mod.kin (by rw [c.eK]; exact hk) (bz (hA cp aa s' I) λus s1 ⟨vs,H1,I1,rv,e1,e2⟩=>⟨I1.l8,?_⟩) (he _) (hpl _)
 subst e1 e2
 have hF2:bu c.X.prog c.X.w c.X.K c.X.mg c.X.base (di c.X.prog c.X.w) k f fd ps (G7 c.X.K ok):=by rw [c.eP,c.ew,c.eK,c.emg,c.eb]; exact hF.mono hj
 have mQ:G7 c.X.K ok [v] H1 (λ_ H'=>D.nx σ H') (λ_ _ _=>False):=by
  refine ⟨Hf,sU,v,fp,rfl,S.sb,hu rf,nd,hok,λH' aj g=>?_⟩
  refine o.nx σ H' aj ρ' ?_ hn
  rw [hs'.eq]
  exact S.Hq h1 rf hfr g
 have hl:us.length=ps.length:=by rw [<- rv.length]; exact hF2.len _ _ _ _ mQ
 have hb':Binds c.X.K fd ps []:=by rw [c.eK]; exact hb
 have hb2:=hb' s1 us I1.l8 (by simpa using hl)
 rw [QX] at hb2
 refine SW (SK (hF2.run c.X.A c.X.stack s1 H1 ⟨us,[]⟩ us _ _ _ c.room I1.zQ hb2 rv mQ) λr' s' hq=>?_)
 cases r' with
 | error e =>
  obtain ⟨a,C,H',rfl,hE,h⟩:=hq
  exact h.elim
 | ok fl =>
  cases fl with
  | ret u=>exact I1.after hq
  | next=>exact QM hq
  | brk=>exact QM hq
  | cont=>exact QM hq
theorem pA (hN:At N i x) (h:cN c e ρ λr=>∃ dss:List (List D),r=.fo (.t (dss.map .l))/\∀ L:List (Addr×List D),L.map (·.2)=dss->(∀ (j:Nat) (L0:List (Addr×List D)),ρ[j]?=some (.fo (.t (cK L0)))->∀ x∈L,∀ y∈L0,x.1≠y.1)->Nx ρ i nx (.fo (.t (cK L))))
 (hs:∀ env,swapsWith e (some (.Name x pos2)) pos.line env=pure false:=by intro _; walk_at "u") (hf:bk=false\/sc.names.lookup x=some .local:=by first | exact .inl rfl | exact .inr (by walk_at "u")):eU c (.Assign [.Name x pos2] e pos) ρ nx p:=λσ H Hf D S o =>
 dQ (zJ (X:=c.X) (i:=i) (by rw [c.eN]; exact c.nd) (by rw [c.eN]; exact hN.get) (by rw [c.esc]; exact c.vis x hN.mem) cQ (hs _) (c.fn x hf)) (h σ H Hf _ S λr v H' aj ⟨dss,er,hx⟩ rs g=>by
  subst er
  obtain ⟨fp,rf,nd,fr⟩:=rs
  simp only [aG] at rf
  obtain ⟨a,xs,ea,h1,h2⟩:=rf
  obtain ⟨L,eL,h3⟩:=ah.tag h2
  have rf':aG c.X.K H' aj (.t (cK L)) v fp:=by simp only [aG]; exact ⟨a,xs,ea,h1,h3⟩
  obtain ⟨ρ',hs',hn⟩:=hx L eL λj L0 hj x hx y hy z=>by
   obtain ⟨v0,_,fp0,rf0,_,_⟩:=S.at_ j _ hj (by intro z; cases z)
   have hz:=aG.fz _ rf0
   have mx:x.1∈fp.map (·.1):=by rw [rf'.addrs]; exact Qe.mpr ⟨x,hx,rfl⟩
   have my:y.1∈fp0.map (·.1):=by rw [rf0.addrs]; exact Qe.mpr ⟨y,hy,rfl⟩
   obtain ⟨px,hpx,ex⟩:=Qe.mp mx
   obtain ⟨py,hpy,ey⟩:=Qe.mp my
   have q1:=fr px hpx
   have q2:=(hz py hpy).1
   rw [ex,z,<- ey,q2] at q1
   cases q1
  exact o.nx _ H' aj _ (hs'.eq ▸ S.set (r:=.fo (.t (cK L))) g ⟨fp,rf',nd,fr⟩) hn)
end
section
variable {K:PN}
end
section
variable {K:PN} {c:Ctx P w K mg base k N sc bk}
def Cz (c:Ctx P w K mg base k N sc bk) (tg:Expr) (elt:Expr) (ρ0:List Sl) (d:D) (s:Sh):Prop :=
 mj c tg d ρ0 λρ1=>A3 ρ0 ρ1/\cN c elt ρ1 λr=>r.sh=some s
theorem FP (h:Cz c tg elt ρ0 d s):vB c tg [] elt ρ0 d (some s):=λσ H Hf v Q S r q=>h σ H Hf v Q S r λσ' H' aj ρ' S' g hw=>q σ' H' aj ρ' S' g ⟨hw.1,λ_=>λσ2 H2 cD Q2 S2 q2=>hw.2 σ2 H2 cD Q2 S2 λr2 v2 H3 Hf3 ed rv g3=>q2 r2 v2 H3 Hf3 ⟨s,rfl,ed⟩ rv g3,λe=>by cases e⟩
theorem FQ {ρ0:(Str->Addr)->List Sl} {R:Sl->Prop} (hq:c.X.xe=f6) (hfr:∀ t,tG t scope.names N ρ N' (ρ0 t))
 (h:xU c tg iter ρ λds=>Sd (ds.length<=sizeLine) (∃ ss:List Sh,ss.length=ds.length /\
   (∀ c':Ctx P w K mg base k N' (bK scope sc) true,c'.X.xe=f6->∀ (t:Str->Addr) (i:Nat) (d:D) (o:Sh),ds[i]?=some d->ss[i]?=some o->Cz c' tg elt (ρ0 t) d o)/\R (.fo (.ls ss))))
 (hcp:Li scope sc N':=by decide +kernel)
 (hs:∀ env v,foldedSetIterable iter env v=pure v:=by intro _ _; walk_at "u")
 (S:bw c σ H Hf ρ) (I:Inv c.X aa σ H s)
  (kont:∀ (s':Shared) (H' aj:Hp) (a C:Addr) (ss:List Sh) (vs:List V) (fq:Fp),R (.fo (.ls ss))->(∃ m,s'.heap.Ns C m)->C∉c.X.fs->eO c.X aa H' C->H a=none->H' a=some (.lst vs)->aj a=none->ah c.X.K H' aj ss vs fq->(fq.map (·.1)).Nodup->(∀ b∈fq,H b.1=none)->aY H Hf H' aj->(∀ h5,Rk C s'.heap h5->Inv c.X aa σ H' { s' with heap:=h5 })->compPost (model c.X.prog c.X.w) c.X.A f6 use QQ (.ref a) C (.ok .next) s') :
  wpAny (model c.X.prog c.X.w) c.X.A (comprehension (.ListComp elt [⟨tg,iter,[],0⟩] scope pos) scope c.X.env (firstIterPos [⟨tg,iter,[],0⟩] pos) (newList []) (firstAsync [⟨tg,iter,[],0⟩]) (firstIter [⟨tg,iter,[],0⟩] c.X.env) use) QQ f6 s:=by
  refine vC (R:=λss=>R (.fo (.ls ss))) hq hfr (λσ' H' aj Q S' q=>h σ' H' aj Q S' λds J H1 aM hd=>q ds J H1 aM ⟨hd.1,hd.2.elim λss ho=>⟨ss.map some,by rw [P0]; exact ho.1,λc' hc t i d o e1 e2=>?_,?_⟩⟩) hcp hs S I kont
  ·rw [P6,Qc] at e2
   obtain ⟨o',e3,rfl⟩:=e2
   exact FP (ho.2.1 c' hc t i d o' e1 e3)
  ·rw [US]
   show R (.fo (.ls (ss.filterMap some)))
   rw [List.filterMap_some]
   exact ho.2.2
theorem wJ {ρ0:(Str->Addr)->List Sl} (hq:c.X.xe=f6) (hfr:∀ t,tG t scope.names N ρ N' (ρ0 t))
 (h:xU c tg iter ρ λds=>Sd (ds.length<=sizeLine) (∃ ss:List Sh,ss.length=ds.length /\
   (∀ c':Ctx P w K mg base k N' (bK scope sc) true,c'.X.xe=f6->∀ (t:Str->Addr) (i:Nat) (d:D) (o:Sh),ds[i]?=some d->ss[i]?=some o->Cz c' tg elt (ρ0 t) d o)/\R (.fo (.ls ss))))
 (hcp:Li scope sc N':=by decide +kernel)
 (hs:∀ env v,foldedSetIterable iter env v=pure v:=by intro _ _; walk_at "u"):cN c (.ListComp elt [⟨tg,iter,[],0⟩] scope pos) ρ R:=λσ H Hf Q S q aa s I=>by
 refine bz (show wpAny (model c.X.prog c.X.w) c.X.A (eval (.ListComp elt [⟨tg,iter,[],0⟩] scope pos) c.X.env) (λu s1=>∃ (v:V) (H1:Hp),Inv c.X aa σ H1 s1/\RelV v u/\∃ (aj:Hp) (a:Addr) (ss:List Sh) (vs:List V) (fq:Fp),v=.ref a/\R (.fo (.ls ss))/\H a=none/\H1 a=some (.lst vs)/\aj a=none/\ah c.X.K H1 aj ss vs fq/\(fq.map (·.1)).Nodup/\(∀ b∈fq,H b.1=none)/\aY H Hf H1 aj) c.X.xe s from ?_) λu s1 hh=>z2 hh λv H1 hh=>w3 hh λI1 rv hh=>z5 hh λaM a ss vs fq hh=>w8 hh λe1 hR ha h1 h2 r nd h9=>?_
 ·rw [hq]
  rw [show (eval (.ListComp elt [⟨tg,iter,[],0⟩] scope pos) c.X.env)=comprehension (.ListComp elt [⟨tg,iter,[],0⟩] scope pos) scope c.X.env (firstIterPos [⟨tg,iter,[],0⟩] pos) (newList []) (firstAsync [⟨tg,iter,[],0⟩]) (firstIter [⟨tg,iter,[],0⟩] c.X.env) from rfl]
  exact FQ hq hfr h hcp hs S I λs' H' aj a C ss vs fq hR ⟨m,hm⟩ _ _ ha h1 h2 r nd fr g hJ=>⟨m,hm,λh5 sF=>⟨.ref a,H',hJ h5 sF,rfl,aj,a,ss,vs,fq,rfl,hR,ha,h1,h2,r,nd,fr,g⟩⟩
 ·subst e1
  obtain ⟨fr,g⟩:=h9
  have hz:=ah.fz ss r
  have hne:∀ b∈fq,b.1≠a:=λb hb z=>by have:=(hz b hb).1; rw [z,h1] at this; cases this
  refine ⟨_,_,o6 I1 h1,rv,q (.fo (.ls ss)) _ _ aM hR ⟨(a,vs)::fq,?_,?_,λb hb=>?_⟩ (kg g ha h2)⟩
  ·simp only [aG]
   exact ⟨a,vs,fq,rfl,ai,h2,ah.mv (.refl _) ss (λb hb e1 e2=>⟨by rw [ak (hne b hb)]; exact e1,e2⟩) r,rfl⟩
  ·rw [PZ,Rf]
   exact ⟨λm=>by obtain ⟨b,hb,eb⟩:=Qe.mp m; exact hne b hb eb,nd⟩
  ·rcases P8.mp hb with rfl | hb
   ·exact ha
   ·exact fr b hb
end
section
variable {K:PN} {c:Ctx P w K mg base k N sc bk}
theorem CA (nd:(fp.map (·.1)).Nodup) (hz:∀ a∈fp,G a.1=some (pl a.1 a.2)) (hl:l∉fp.map (·.1)):c8 pl fp (upd (c8 l5 fp G) l o)=upd G l o:=by
 funext b
 by_cases m:b∈fp.map (·.1)
 ·obtain ⟨p,hp,rfl⟩:=bM m
  rw [bU nd p hp,ak λz=>hl (by rw [<- z]; exact m),hz p hp]
 ·rw [aS m]
  by_cases z:b=l
  ·subst z; rw [ai,ai]
  ·rw [ak z,ak z,aS m]
theorem rS (hm:mg "tuple"=none) (h:cN c e ρ λr=>∃ ss,r=.fo (.ls ss)/\R (.fo (.t ss))) (hg:sc.names.lookup (PM "tuple")=some .globalImplicit:=by walk_at "u")
 (he:∀ env,starEach [e] env=(false,eval e env)::starEach [] env:=by intro _; walk_at "u"):cN c (.Call (.Name "tuple" p) [e] [] pos) ρ R:=λσ H Hf Q S q aa s I=>by
 have hE:bE c.X e σ H (λv H1=>∃ (a:Addr) (xs:List V) (fq:Fp) (ss:List Sh) (G aj:Hp),v=.ref a/\H1=c8 l5 ((a,xs)::fq) G/\(((a,xs)::fq).map (·.1)).Nodup/\G a=some (pl a xs)/\ah c.X.K G aj ss xs fq/\R (.fo (.t ss))/\(∀ b∈(a,xs)::fq,H b.1=none)/\aY H Hf G aj):=λaa s I =>
  bz (h σ H Hf (λv H'=>∃ ss aj,aW c.X.K (λp=>H p=none) H' aj (.fo (.ls ss)) v/\aY H Hf H' aj/\R (.fo (.t ss))) S (λr v H' aj ⟨ss,e,hR⟩ rs g=>⟨ss,aj,by rw [<- e]; exact rs,g,hR⟩) aa s I) λu s1 ⟨v,H1,I1,rv,ss,aM,rs,g,hR⟩=>by
   obtain ⟨fp,rf,nd,fr⟩:=rs
   have hz:=aG.fz _ rf
   simp only [aG] at rf
   obtain ⟨a,xs,fq,rfl,h1,h2,h3,rfl⟩:=rf
   exact ⟨_,_,fK I1 nd λb hb=>(hz b hb).1,rv,a,xs,fq,ss,H1,aM,rfl,rfl,nd,h1,h3,hR,fr,g⟩
 refine bz (bJ (Q:=λv H2=>∃ (l a:Addr) (xs:List V) (fq:Fp) (ss:List Sh) (G aj:Hp),v=.ref l/\H2=upd (c8 l5 ((a,xs)::fq) G) l (.tup xs)/\c8 l5 ((a,xs)::fq) G l=none/\(((a,xs)::fq).map (·.1)).Nodup/\G a=some (pl a xs)/\ah c.X.K G aj ss xs fq/\R (.fo (.t ss))/\(∀ b∈(a,xs)::fq,H b.1=none)/\aY H Hf G aj)
  (ju ie (by unfold Gl Qx; rw [c.esc]; exact hg) (by rw [c.emg]; exact hm) PyProof.Rows.boot_tuple (bF cQ cL (he _)) (by decide) (by decide) (he _) (by walk_at "u"))
  (λaa s I=>bz (hE aa s I) λu s1 hh=>z2 hh λv H1 hh=>w3 hh λI1 rv hh=>v6 hh λa xs fq ss G aj hh=>w8 hh λe1 e2 nd h1 h3 hR fr g=>⟨v,H1,I1,rv,a,xs,by rw [e1],.inl ⟨.inl (.inl (by rw [e2]; exact bU nd (a,xs) P4)),λl hl=>⟨l,a,xs,fq,ss,G,aj,rfl,by rw [e2],by rw [<- e2]; exact hl,nd,h1,h3,hR,fr,g⟩⟩⟩) aa s I) λu s1 hh=>z2 hh λv H2 hh=>w3 hh λI2 rv hh=>hh.elim λl hh=>v6 hh λa xs fq ss G aj hh=>w2 hh λe1 hh=>w8 hh λe2 hl nd h1 h3 hR fr g=>?_
 subst e1 e2
 have hz0:=ah.fz ss h3
 have hz:∀ b∈(a,xs)::fq,G b.1=some (pl b.1 b.2):=λb hb=>by
  rcases P8.mp hb with rfl | hb
  ·exact h1
  ·exact (hz0 b hb).1
 have hlm:l∉((a,xs)::fq).map (·.1):=λm=>by
  obtain ⟨b,hb,eb⟩:=bM m
  rw [<- eb,bU nd b hb] at hl; cases hl
 have hGl:G l=none:=by rw [aS hlm] at hl; exact hl
 have I3:=gB I2 nd λb hb=>by
  rw [ak λz=>hlm (by rw [<- z]; exact Qe.mpr ⟨b,hb,rfl⟩)]; exact bU nd b hb
 rw [CA nd hz hlm] at I3
 have g2:=aY.new g.b hGl (o:=.tup xs)
 refine ⟨_,_,I3,rv,q (.fo (.t ss)) _ _ _ hR ⟨fq,?_,?_,λb hb=>fr b (P9 _ hb)⟩ (g.trans g2)⟩
 ·simp only [aG]
  exact ⟨l,xs,rfl,.inl (.inl ai),ah.mv g2.f ss (λa _ e1 e2=>⟨g2.s _ _ e1,g2.n a.1 e2 (by rw [e1]; simp) (by intro ys z; rw [e1] at z; cases z)⟩) h3⟩
 ·rw [PZ,Rf] at nd; exact nd.2
end
section
variable {K:PN}
theorem ah.MV (nd:(fp.map (·.1)).Nodup) (hp:∀ a∈fp,aM a.1=some (.lst a.2)):∀ {dss:List (List D)} {xs:List V} {fq:Fp},(∀ ds∈dss,D.kh ds)->(∀ a∈fq,a.1∉fp.map (·.1))->ah K H1 aM (dss.map .l) xs fq->ah K (c8 pl fp H1) (fS aM fp) (dss.map .l) xs fq
 | [],_,_,_,_,h=>h
 | ds::dss,_,_,hn,hq,h=>by
  have h':ah K H1 aM (.l ds::dss.map .l) _ _:=h
  show ah K _ _ (.l ds::dss.map .l) _ _
  simp only [ah] at h' |-
  obtain ⟨x,r,f1,f2,e1,h1,h2,rfl⟩:=h'
  refine ⟨x,r,f1,f2,e1,?_,ah.MV nd hp (λd hd=>hn d (P9 _ hd)) (λa ha=>hq a (QH _ ha)) h2,rfl⟩
  simp only [aG] at h1 |-
  obtain ⟨p,ys,e,q1,q2,q3,rfl⟩:=h1
  have hm:p∉fp.map (·.1):=hq (p,ys) (R8 _ P4)
  exact ⟨p,ys,e,by rw [aS hm]; exact q1,by rw [bX hm]; exact q2,lV (λa ha=>⟨a.2,hp a ha⟩) ds (hn ds P4) q3,rfl⟩
end
section
variable {K:PN}
theorem Kc (i) (h1:j3 ρ i s) (hs:SSet ρ i (.va s.d) ρ') (h:cN c e ρ' λr=>∃ dss:List (List D),r=.fo (.t (dss.map .l))/\(∀ ds∈dss,D.kh ds)/\R r):cN c e ρ R:=λσ H Hf Q S q aa s' I=>by
 obtain ⟨fp,nd,hz,S1⟩:=S.Cy h1
 rw [<- hs.eq] at S1
 refine bz (h σ _ _ (λv H'=>∃ (dss:List (List D)) (aj:Hp),(∀ ds∈dss,D.kh ds)/\R (.fo (.t (dss.map .l)))/\aW c.X.K (λp=>c8 l5 fp H p=none) H' aj (.fo (.t (dss.map .l))) v/\aY (c8 l5 fp H) (c8 l5 fp Hf) H' aj) S1 (λr v H' aj ⟨dss,e,hn,hR⟩ rs g=>⟨dss,aj,hn,e ▸ hR,e ▸ rs,g⟩) aa s' (fK I nd λa ha=>(hz a ha).1)) λu s1 ⟨v,H1,I1,rv,dss,aM,hn,hR,rs,g⟩=>?_
 have hL:∀ a∈fp,H1 a.1=some (.lst a.2):=λa ha=>g.s _ _ (bU nd a ha)
 have hLf:∀ a∈fp,aM a.1=some (.lst a.2):=λa ha=>g.f _ _ (bU nd a ha)
 obtain ⟨fq,rf,nd2,fr2⟩:=rs
 have hq:∀ a∈fq,a.1∉fp.map (·.1):=λa ha m=>by
  obtain ⟨p,hp,ep⟩:=bM m
  have e2:c8 l5 fp H a.1=none:=fr2 a ha
  rw [<- ep,bU nd p hp] at e2; cases e2
 refine ⟨v,_,gB I1 nd hL,rv,q _ v _ (fS aM fp) hR ⟨fq,?_,nd2,λa ha=>?_⟩ (lW nd hz g)⟩
 ·simp only [aG] at rf |-
  obtain ⟨a,xs,e,q1,q2⟩:=rf
  exact ⟨a,xs,e,nN (λb hb=>⟨b.2,hLf b hb⟩) q1,ah.MV nd hLf hn hq q2⟩
 ·have e2:c8 l5 fp H a.1=none:=fr2 a ha
  rw [aS (hq a ha)] at e2; exact e2
end
section
variable {K:PN}
theorem ah.Hr:∀ (n:Nat) {ss:List Sh} {xs:List V} {fp:Fp},ah K H Hf ss xs fp->∃ f1 f2:Fp,fp=f1++f2/\ah K H Hf (ss.drop n) (xs.drop n) f2
 | 0,_,_,_,h=>⟨[],_,rfl,h⟩
 | n+1,[],_,_,h=>by
  simp only [ah] at h
  obtain ⟨rfl,rfl⟩:=h
  exact ⟨[],[],rfl,by simp [ah]⟩
 | n+1,s::ss,_,_,h=>by
  simp only [ah] at h
  obtain ⟨x,r,f1,f2,rfl,_,h2,rfl⟩:=h
  obtain ⟨g1,g2,rfl,h3⟩:=ah.Hr n h2
  exact ⟨f1++g1,g2,(Qn _ _ _).symm,h3⟩
theorem CB {lo:Option Int} (hx:HT.cg xs.length 0 lo=n) (hy:HT.cg xs.length xs.length none=xs.length):kJ xs lo none=xs.drop n:=by
 unfold kJ
 rw [hx,hy]
 exact R6 (by rw [Wi]; exact PU _)
end
section
variable {K:PN} {c:Ctx P w K mg base k N sc bk}
theorem FT (h:Fy P w K mg base j x ok) (hj:j<=k) (hN:At N i y) (h1:j3 ρ i (.t ss)) (hx:HT.cg ss.length 0 (some n)=m) (hy:HT.cg ss.length ss.length none=ss.length) (h0:m≠0) (hu:∀ {H Hf:Hp} {v:V} {fp:Fp},aG c.X.K H Hf (.t (ss.drop m)) v fp->aG c.X.K H Hf sU v fp) (hok:ok sU) (hn:Nx ρ i nx .un)
 (hg:sc.names.lookup x=some .globalImplicit:=by walk_at "u") (hdb:(x == ("__debug__":Str))=false:=by decide) (hd:(y == ("__debug__":Str))=false:=by decide) (hcd:(y == ("__classdict__":Str))=false:=by decide)
 (he:∀ env,starEach [.Subscript (.Name y py) (.Slice (some (.Constant (.int n) kt p3)) none none p2) sp] env=(false,eval (.Subscript (.Name y py) (.Slice (some (.Constant (.int n) kt p3)) none none p2) sp) env)::starEach [] env:=by intro _; walk_at "u")
 (hpl:∀ env,(backTo cp (starEach [] env)).any (·.1)=false:=by intro _; walk_at "u")
 (hs:∀ env,swapsWith (.Call (.Name x px) [.Subscript (.Name y py) (.Slice (some (.Constant (.int n) kt p3)) none none p2) sp] [] cp) none pos.line env=pure false:=by intro _; walk_at "u"):eU c (.Expr (.Call (.Name x px) [.Subscript (.Name y py) (.Slice (some (.Constant (.int n) kt p3)) none none p2) sp] [] cp) pos) ρ nx p:=λσ H Hf D S o=>by
 obtain ⟨v,ev,_⟩:=S.at_ i _ h1.hi (by intro z; cases z)
 refine dQ (iL cQ (hs _)) (show bE c.X _ σ H (λ_ H'=>D.nx σ H') from λaa s' I=>?_)
 obtain ⟨f,fd,ps,hm,hk,hb,hF⟩:=h.ex
 refine Ry (gJ I (by unfold Gl Qx; rw [c.esc]; exact hg) (by rw [c.emg]; exact hm) ?_ hdb)
 have hE:bE c.X (.Subscript (.Name y py) (.Slice (some (.Constant (.int n) kt p3)) none none p2) sp) σ H (λv H1=>∃ (l:Addr) (G Gf:Hp) (xs:List V) (fp:Fp),[v]=[V.ref l]/\H1=upd G l (.tup (xs.drop m))/\G l=none/\aY H Hf G Gf/\ah c.X.K G Gf ss xs fp/\(fp.map (·.1)).Nodup/\(∀ b∈fp,c.B b.1=none)/\∃ a,aG c.X.K G Gf (.t ss) (.ref a) fp) :=
  bJ (qa zW (c.jW hN hd hcd) Ja Ja) ⟨_,ev,(AL (GL ⟨n,rfl,rfl⟩):AJ c (some _) ρ λo=>o=some n) σ H Hf _ S λo1 H1 aM ho g1=>AK (c:=c) (ρ:=ρ) (R:=λo=>o=none) rfl σ H1 aM _ (S.cA g1) λo2 H2 cD ho2 g2=>by
   subst ho ho2
   have S2:=S.cA (g1.trans g2)
   obtain ⟨v2,ev2,fp,rf,nd,hfr⟩:=S2.at_ i _ h1.hi (by intro z; cases z)
   rw [ev] at ev2; cases ev2
   have rf0:=rf
   simp only [aG] at rf
   obtain ⟨a,xs,rfl,q1,q2⟩:=rf
   have hl:=ah.len q2
   rw [hl] at hx hy
   refine ⟨a,xs,rfl,av S2.sb q1,λz=>h0 (by rw [<- hx]; exact z.1),λl hl0=>⟨l,H2,cD,xs,fp,rfl,?_,hl0,g1.trans g2,q2,nd,hfr,a,rf0⟩⟩
   rw [CB hx hy]⟩
 have hA:bA c.X [.Subscript (.Name y py) (.Slice (some (.Constant (.int n) kt p3)) none none p2) sp] σ H (λvs H1=>∃ (l:Addr) (G Gf:Hp) (xs:List V) (fp:Fp),vs=[V.ref l]/\H1=upd G l (.tup (xs.drop m))/\G l=none/\aY H Hf G Gf/\ah c.X.K G Gf ss xs fp/\(fp.map (·.1)).Nodup/\(∀ b∈fp,c.B b.1=none)/\∃ a,aG c.X.K G Gf (.t ss) (.ref a) fp):=kQ (bF cQ cL (he _)) hE
 refine TV (h₀:=c.X.base) I.ok.mod.kin (by rw [c.eK]; exact hk) (bz (hA cp aa s' I) λus s1 hh=>z2 hh λvs H1 hh=>w3 hh λI1 rv hh=>z5 hh λl G Gf xs fp hh=>w8 hh λe1 e2 hGl g rfs nd hfr hh=>hh.elim λa rf=>⟨I1.l8,?_⟩) (he _) (hpl _)
 subst e1 e2
 have hz:=ah.fz _ rfs
 have S2:=S.cA g
 have hF2:bu c.X.prog c.X.w c.X.K c.X.mg c.X.base (di c.X.prog c.X.w) k f fd ps (G7 c.X.K ok):=by rw [c.eP,c.ew,c.eK,c.emg,c.eb]; exact hF.mono hj
 have hne:∀ b∈fp,b.1≠l:=λb hb z=>by have:=(hz b hb).1; rw [z,hGl] at this; cases this
 have hGfl:Gf l=none:=S2.sb.free hGl
 have mQ:G7 c.X.K ok [.ref l] (upd G l (.tup (xs.drop m))) (λ_ H'=>D.nx σ H') (λ_ _ _=>False):=by
  obtain ⟨f1,f2,rfl,rd⟩:=ah.Hr m rfs
  have g2:=aY.new S2.sb hGl (o:=.tup (xs.drop m))
  refine ⟨upd Gf l (.tup (xs.drop m)),sU,.ref l,f2,rfl,g2.b,hu ?_,?_,hok,λH' aj g3=>?_⟩
  ·simp only [aG]
   exact ⟨l,_,rfl,.inl (.inl ai),ah.mv g2.f _ (λb hb e1 e2=>⟨by rw [ak (hne b (QH _ hb))]; exact e1,by rw [ak (hne b (QH _ hb))]; exact e2⟩) rd⟩
  ·rw [Qs,Tr] at nd; exact nd.2.1
  ·obtain ⟨ρ',hs',hn⟩:=hn
   refine o.nx σ H' aj ρ' ?_ hn
   rw [hs'.eq]
   refine S2.Hq h1 rf hfr (aY.trans ⟨λb u e=>?_,g2.f,λb u e=>?_,λb q1 q2 q3=>?_⟩ g3)
   ·have hb:b∉(f1++f2).map (·.1):=λm=>by rw [jg m] at e; cases e
    rw [bX hb] at e
    rw [bX λm=>hb (by rw [Qs]; exact QH _ m),ak (aE e hGl)]; exact e
   ·have hb:b∉f2.map (·.1):=λm=>by
     obtain ⟨q,hq,rfl⟩:=bM m
     rw [ak (hne q (QH _ hq)),(hz q (QH _ hq)).2] at e; cases e
    rw [bX hb]; exact g2.b b u e
   ·by_cases z:b=l
    ·subst z
     exact absurd (by rw [bX λm=>by obtain ⟨q,hq,eq⟩:=bM m; exact hne q hq eq]; exact hGl) q2
    ·rw [ak z]; exact q1
 have hl:us.length=ps.length:=by rw [<- rv.length]; exact hF2.len _ _ _ _ mQ
 have hb':Binds c.X.K fd ps []:=by rw [c.eK]; exact hb
 have hb2:=hb' s1 us I1.l8 (by simpa using hl)
 rw [QX] at hb2
 refine SW (SK (hF2.run c.X.A c.X.stack s1 _ ⟨us,[]⟩ us _ _ _ c.room I1.zQ hb2 rv mQ) λr' s' hq=>?_)
 cases r' with
 | error e =>
  obtain ⟨a,C,H',rfl,hE,h⟩:=hq
  exact h.elim
 | ok fl =>
  cases fl with
  | ret u=>exact I1.after hq
  | next=>exact QM hq
  | brk=>exact QM hq
  | cont=>exact QM hq
end
theorem yS (ns:List Int):(ns.map V.int).all iN=true:=by
 rw [Wl]
 intro x hx
 obtain ⟨n,_,rfl⟩:=Qe.mp hx
 rfl
theorem CC (i) (ns:List Int):ND (.int i) (ns.map V.int)=ns.any λn=>n == i:=by
 unfold ND
 rw [List.any_map]; rfl
theorem Kd {K:PN}:xM K (O6 K false) λx y R=>∃ (i:Int) (ns:List Int),x=.int i/\y=.lst (ns.map .int)/\R (ns.any λn=>n == i):=by
 rintro x y v u H Hf Q R s rx ry ⟨i,ns,rfl,rfl,hR⟩ q
 rw [aA] at rx
 subst rx
 obtain ⟨p,xs,rfl,hs,hr⟩:=aX.mp ry
 rw [fR hr] at hs
 refine ⟨p,_,rfl,.inl (s.seq hs),rfl,yS ns,q _ ?_⟩
 rw [if_neg (by decide),CC]
 exact hR
section
variable {K:PN}
theorem Hs (h:iJ c a ρ T') (q:∀ b,T' b->T b):iJ c a ρ T:=λσ H Hf Q S k=>h σ H Hf Q S λb H' aj hb g=>k b H' aj (q b hb) g
theorem MW (h:aJ c a ρ λx=>aJ c b ρ λy=>∃ (i:Int) (ns:List Int),x=.int i/\y=.lst (ns.map .int)/\T (ns.any λn=>n == i)) (hm:behindInMarks CmpOp.In b=false:=by walk_at "u"):iJ c (.Compare a [.In] [b] pos) ρ T:=m8 xG Kd h hm
end
inductive rT (L0:List (Addr×List D)):List Sl->Prop
 | n:rT L0 []
 | f {r:Sl} {ρ:List Sl}:r.sY=false->rT L0 ρ->rT L0 (r::ρ)
 | g {L:List (Addr×List D)} {ρ:List Sl}:(∀ x∈L,∀ y∈L0,x.1≠y.1)->rT L0 ρ->rT L0 (.fo (.t (cK L))::ρ)
inductive j4 (L0:List (Addr×List D)):List Sl->Nat->Prop
 | z {ρ:List Sl}:rT L0 ρ->j4 L0 (.fo (.t (cK L0))::ρ) 0
 | f {r:Sl} {ρ:List Sl} {i:Nat}:r.sY=false->j4 L0 ρ i->j4 L0 (r::ρ) (i+1)
 | g {L:List (Addr×List D)} {ρ:List Sl} {i:Nat}:(∀ x∈L,∀ y∈L0,x.1≠y.1)->j4 L0 ρ i->j4 L0 (.fo (.t (cK L))::ρ) (i+1)
def OW (L0:List (Addr×List D)) (r:Sl):Prop:=r.sY=false\/∃ L1 L:List (Addr×List D),Sh.t (cK L0)=.t (cK L1)/\r=.fo (.t (cK L))/\∀ x∈L,∀ y∈L1,x.1≠y.1
theorem rT.at_ (h:rT L0 ρ):∀ {j:Nat} {r:Sl},ρ[j]?=some r->OW L0 r:=by
 induction h with
 | n=>intro j r e; cases j <;> cases e
 | f hf _ ih=>intro j r e; cases j with
  | zero=>cases e; exact .inl hf
  | succ j=>exact ih e
 | g hg _ ih=>intro j r e; cases j with
  | zero=>cases e; exact .inr ⟨_,_,rfl,rfl,hg⟩
  | succ j=>exact ih e
theorem j4.one (h:j4 L0 ρ i):j3 ρ i (.t (cK L0)):=by
 induction h with
 | z hs=>exact ⟨rfl,λ{j r} hj e=>by cases j with
  | zero=>exact absurd rfl hj
  | succ j=>exact hs.at_ e⟩
 | f hf _ ih=>exact ⟨ih.hi,λ{j r} hj e=>by cases j with
  | zero=>cases e; exact .inl hf
  | succ j=>exact ih.ho (λz=>hj (congrArg (· +1) z)) e⟩
 | g hg _ ih=>exact ⟨ih.hi,λ{j r} hj e=>by cases j with
  | zero=>cases e; exact .inr ⟨_,_,rfl,rfl,hg⟩
  | succ j=>exact ih.ho (λz=>hj (congrArg (· +1) z)) e⟩
end EV
namespace My
open PySem PySem.Spec PyProof.Rows L2 EV
noncomputable abbrev top (i:Nat):Stmt:=PySem.Challenge.pw_everydraw_k24_curves_by_five.main.body.getD i (.Pass ⟨0,0,0,0⟩)
theorem uh:FS ["powers","end"] ["powers"] (top 2):=by decide +kernel
theorem iE:FS ["some","greatest","powers","number","k","power"] ["some"] (top 3):=by decide +kernel
theorem yT:FS ["powers","width","key","power"] ["powers","width"] (top 4):=by decide +kernel
theorem pB:FS ["key","width","mask"] ["key","width"] (top 5):=by decide +kernel
theorem yU:FS ["some","width"] ["some","width"] (top 6):=by decide +kernel
theorem rV:FS ["total","width"] ["total","width"] (top 7):=by decide +kernel
theorem j5:FS ["total","left","right","key","number","shift","part","whole"] ["total","left","right"] (top 8):=by decide +kernel
theorem rX:FS ["parts","most","part"] ["parts"] (top 10):=by decide +kernel
theorem rY:FS ["whole","part","width","factors","left","right","product"] ["whole","part","width"] (top 11):=by decide +kernel
theorem mF:FS ["parts","width","whole","part"] ["parts"] (top 12):=by decide +kernel
theorem um:FS ["total","one","other"] ["total","one","other"] (top 14):=by decide +kernel
theorem yV:FS ["total","one","other"] ["total","one","other"] (top 15):=by decide +kernel
theorem mG:FS ["total","o"] ["total","o"] (top 17):=by decide +kernel
theorem jG:FS ["total","l","m"] ["total","l","m"] (top 18):=by decide +kernel
theorem jH:FS ["total","lines","i"] ["total","lines","i"] (top 19):=by decide +kernel
theorem pD:FS ["total","i","j","k","l","m","first","second","first_worth","second_worth","first_pair","second_pair"] ["total","i","j","k","l","m"] (top 20):=by decide +kernel
theorem rZ:FS ["o"] ["o"] (top 21):=by decide +kernel
theorem mH:FS ["i","j","k","l","m"] ["i","j","k","l","m"] (top 22):=by decide +kernel
theorem pF:FS ["_law_script","_law_k"] ["_law_script","_law_k"] (top 24):=by decide +kernel
theorem r6:FS ["_law_script","_law_k","_law_cell","_law_number"] ["_law_script","_law_k"] (top 25):=by decide +kernel
theorem uo:FS ["_law_terms_here","_law_found","_law_powers","_law_number","_law_key"] ["_law_terms_here"] (top 26):=by decide +kernel
theorem pG:FS ["_law_factors","_law_found","_law_some_here","_law_terms_here","_law_powers","_law_number","_law_other","_law_count","_law_wide","_law_one","_law_two"] ["_law_factors"] (top 27):=by decide +kernel
theorem CD:FS ["_law_parts","_law_terms_here","_law_number","_law_factors"] ["_law_parts"] (top 28):=by decide +kernel
theorem yW:FS ["_law_number","_law_terms_here","_law_many","_law_k","_law_powers","_law_count"] ["_law_number"] (top 29):=by decide +kernel
theorem r8:FS ["_law_script","_law_at","_law_many"] ["_law_script","_law_at","_law_many"] (top 30):=by decide +kernel
theorem r9:FS ["_law_told"] ["_law_told"] (top 31):=by decide +kernel
theorem uq:FS ["_law_some_here","_law_term","_law_number"] ["_law_some_here"] (top 32):=by decide +kernel
theorem yX:FS ["_law_found","_law_due_here","_law_k"] ["_law_found","_law_due_here"] (top 33):=by decide +kernel
theorem uu:FS ["_law_found","_law_some_here"] ["_law_found"] (top 34):=by decide +kernel
theorem uv:FS ["_law_script","_law_k","_law_number","_law_some_here","_law_j","_law_terms_here"] ["_law_script","_law_k"] (top 35):=by decide +kernel
theorem pH:FS ["_law_i","_law_j","_law_first","_law_second"] ["_law_i","_law_j"] (top 36):=by decide +kernel
theorem uw:FS ["_law_l","_law_i"] ["_law_l","_law_i"] (top 37):=by decide +kernel
theorem yY:FS ["_law_l","_law_m","_law_place","_law_two","_law_parts"] ["_law_l","_law_m","_law_place"] (top 38):=by decide +kernel
theorem CF:FS ["_law_i","_law_j","_law_k","_law_l","_law_m","_law_one","_law_first","_law_second","_law_found","_law_place","_law_mine"] ["_law_i","_law_j","_law_k","_law_l","_law_m"] (top 39):=by decide +kernel
theorem Ke:FS ["_law_script","_law_some_here","_law_handed","_law_due_here","_law_found","_law_told","_law_o","_law_circle","_law_other","_law_again"] ["_law_script"] (top 40):=by decide +kernel
local macro_rules | `(tactic| walk_at "side")=> `(tactic| first | lia | assumption | exact kZ | exact dG (R7 rfl) | exact Au (by decide) (by decide +kernel) | (show sO _ _; exact ⟨by decide,by decide,by decide +kernel⟩))
local macro_rules | `(tactic| walk_at "at")=> `(tactic| with_reducible (repeat (first | exact At.z | apply At.s)))
local macro_rules | `(tactic| walk_at "sset")=> `(tactic| with_reducible (repeat (first | exact SSet.z | apply SSet.s)))
local macro_rules | `(tactic| walk_at "atI")=> `(tactic| first | assumption | rfl)
local macro_rules | `(tactic| walk_at "own")=> `(tactic| walk_at "u")
local macro_rules | `(tactic| walk_at "evSs")=> `(tactic| first
 | with_reducible refine au ?_
 | with_reducible refine tu ?_)
local macro_rules | `(tactic| walk_at "evS")=> `(tactic| first
 | ((with_reducible show eU _ (Vs [Qh _ _] _ _) _ _ _); with_reducible refine u9 (by walk_at "at") ?_)
 | ((with_reducible show eU _ (Stmt.If _ _ _ _) _ _ _); walk_at "evIf")
 | ((with_reducible show eU _ (Stmt.Expr _ _) _ _ _); walk_at "evXp")
 | ((with_reducible show eU _ (Uk (some (Qh _ _)) _) _ _ _); with_reducible refine Ar (by walk_at "at") (by walk_at "at") rfl ?_)
 | ((with_reducible show eU _ (Uk (some _) _) _ _ _); with_reducible refine dw ?_)
 | ((with_reducible show eU _ (Uk none _) _ _ _); with_reducible refine s_retN ?_)
 | ((with_reducible show eU _ (Vc (Qh _ _) Vn _ _) _ _ _); with_reducible refine s_addq (by walk_at "at") (by walk_at "at") ?_)
 | ((with_reducible show eU _ (Vc (Qh _ _) Operator.Sub _ _) _ _ _); with_reducible refine IW (by walk_at "at") (by walk_at "at") ?_)
 | ((with_reducible show eU _ (Vc (Rt (Qh _ _) _ _) Vn _ _) _ _ _); with_reducible refine vv (by walk_at "at") (by walk_at "at") ?_)
 | ((with_reducible show eU _ (Vs [Uo [Qh _ _,Qh _ _] _ _] (Uo [_,_] _ _) _) _ _ _); with_reducible refine s_par (by walk_at "at") (by walk_at "at") (by decide) ?_)
 | ((with_reducible show eU _ (Vs [Uo _ _ _] _ _) _ _ _); with_reducible refine s_asg ?_)
 | ((with_reducible show eU _ (Vs [Rt (Qh _ _) _ _] _ _) _ _ _); walk_at "evPut")
 | with_reducible refine s_break ?_
 | with_reducible refine s_continue ?_
 | with_reducible refine s_pass ?_)
local macro_rules | `(tactic| walk_at "evIf")=> `(tactic| with_reducible refine xN ?_)
local macro_rules | `(tactic| walk_at "evXp")=> `(tactic| with_reducible refine tw (by walk_at "at") (by walk_at "at") (by walk_at "own") ?_)
local macro_rules | `(tactic| walk_at "evPut")=> `(tactic| with_reducible refine Ji (by walk_at "at") (by walk_at "at") ?_ (ho:=by walk_at "own"))
local macro_rules | `(tactic| walk_at "evK")=> `(tactic| first
 | with_reducible refine GL ?_
 | with_reducible refine OD ?_
 | with_reducible refine e_non ?_
 | with_reducible refine e_str ?_)
local macro_rules | `(tactic| walk_at "evCm")=> `(tactic| first
 | with_reducible refine e_isN ?_
 | with_reducible refine e_notN ?_
 | with_reducible refine e_lt ?_
 | with_reducible refine OL ?_
 | with_reducible refine e_ne ?_)
local macro_rules | `(tactic| walk_at "evIx")=> `(tactic| first
 | ((with_reducible show aJ _ (Rt _ (Expr.Slice _ _ _ _) _) _ _); with_reducible refine AS ?_)
 | ((with_reducible show aJ _ (Rt (Qh _ _) _ _) _ _); with_reducible refine Mt (by walk_at "at") (by walk_at "at") (by walk_at "own") (by walk_at "sset") ?_ (by walk_at "at"))
 | ((with_reducible show aJ _ (Rt (Qh _ _) _ _) _ _); with_reducible refine e_dix (by walk_at "at") (by walk_at "at") ?_)
 | with_reducible refine qw ?_)
local macro_rules | `(tactic| walk_at "evBo")=> `(tactic| first
 | with_reducible refine Jd ?_
 | with_reducible refine LY ?_
 | with_reducible refine LZ ?_
 | with_reducible refine L6 ?_
 | with_reducible refine IT ?_
 | with_reducible refine L7 ?_)
local macro_rules | `(tactic| walk_at "evCa")=> `(tactic| first
 | ((with_reducible show aJ _ (QN (Expr.Attribute _ _ _) _ _ _) _ _); walk_at "evMt")
 | ((with_reducible show aJ _ (QN (Qh "isinstance" _) _ _ _) _ _); first
  | with_reducible refine om (Txt.isin (by assumption)) (Txt.Mu (by assumption)) ?_
  | with_reducible refine om (Txt.isin (by assumption)) (Txt.EL (by assumption)) ?_
  | with_reducible refine om (Txt.isin (by assumption)) (Txt.Jo (by assumption)) ?_
  | with_reducible refine om (Txt.isin (by assumption)) (Txt.Jm (by assumption)) ?_)
 | ((with_reducible show aJ _ (QN (Qh "len" _) _ _ _) _ _); first
  | ((with_reducible show aJ _ (QN _ [Qh _ _] _ _) _ _); with_reducible refine e_lenO (Txt.len (by assumption)) (by walk_at "at") (by walk_at "at") (by walk_at "own") (by walk_at "sset") ?_)
  | with_reducible refine e_len (Txt.len (by assumption)) ?_)
 | ((with_reducible show aJ _ (QN (Qh "tuple" _) _ _ _) _ _); first
  | ((with_reducible show aJ _ (QN _ [Qh _ _] _ _) _ _); with_reducible refine e_tupleO (Txt.tuple (by assumption)) (by walk_at "at") (by walk_at "at") (by walk_at "own") (by walk_at "sset") ?_)
  | with_reducible refine kc (Txt.tuple (by assumption)) ?_)
 | ((with_reducible show aJ _ (QN (Qh "abs" _) _ _ _) _ _); with_reducible refine e_abs (Txt.abs (by assumption)) ?_)
 | ((with_reducible show aJ _ (QN (Qh "int" _) _ _ _) _ _); with_reducible refine e_intB (Txt.int (by assumption)) ?_))
local macro_rules | `(tactic| walk_at "evMt")=> `(tactic| with_reducible refine Jh (by walk_at "at") (by walk_at "at") ?_ (ho:=by walk_at "own"))
local macro_rules | `(tactic| walk_at "evE")=> `(tactic| first
 | ((with_reducible show aJ _ (Qh _ _) _ _); with_reducible refine u0 (by walk_at "at") (by walk_at "at") ?_)
 | ((with_reducible show aJ _ (Expr.Constant _ _ _) _ _); walk_at "evK")
 | ((with_reducible show aJ _ (QN _ _ _ _) _ _); walk_at "evCa")
 | ((with_reducible show aJ _ (Rt _ _ _) _ _); walk_at "evIx")
 | ((with_reducible show aJ _ (Expr.BinOp _ _ _ _) _ _); walk_at "evBo")
 | ((with_reducible show aJ _ (Expr.Compare _ _ _ _) _ _); walk_at "evCm")
 | with_reducible refine GQ ?_
 | with_reducible refine Je ?_
 | with_reducible refine Ma ?_
 | with_reducible refine e_not ?_
 | with_reducible refine Mg ?_
 | with_reducible refine e_or ?_
 | with_reducible refine Mf ?_
 | with_reducible refine Ew ?_)
local macro_rules | `(tactic| walk_at "evX")=> `(tactic| first
 | ((with_reducible show cN _ (Expr.List _ _) _ _); with_reducible refine GR ?_)
 | ((with_reducible show cN _ (QN _ _ _ _) _ _); walk_at "evXC")
 | ((with_reducible show cN _ (Expr.BinOp _ Vn _ _) _ _); with_reducible refine AI ?_)
 | ((with_reducible show cN _ (Rt _ (Expr.Slice _ _ _ _) _) _ _); with_reducible refine vo ?_)
 | with_reducible refine GK ?_)
local macro_rules | `(tactic| walk_at "evXC")=> `(tactic| first
 | ((with_reducible show cN _ (QN (Qh "list" _) _ _ _) _ _); first
  | ((with_reducible show cN _ (QN _ [Qh _ _] _ _) _ _); with_reducible refine x_listO (Txt.list (by assumption)) (by walk_at "at") (by walk_at "at") (by walk_at "own") (by walk_at "sset") ?_)
  | with_reducible refine AF (Txt.list (by assumption)) ?_)
 | with_reducible refine GK ?_)
local macro_rules | `(tactic| walk_at "evT")=> `(tactic| first
 | ((with_reducible show iJ _ (Expr.Compare _ _ _ _) _ _); first
  | with_reducible refine t_isN ?_
  | with_reducible refine t_notN ?_
  | with_reducible refine OJ ?_
  | with_reducible refine OI ?_
  | with_reducible refine OE ?_
  | with_reducible refine t_le ?_
  | with_reducible refine OF ?_
  | with_reducible refine OG ?_
  | with_reducible refine GX (by walk_at "at") (by walk_at "at") ?_
  | with_reducible refine t_dnotin (by walk_at "at") (by walk_at "at") ?_)
 | with_reducible refine Me ?_
 | with_reducible refine O9 (w_and ?_)
 | with_reducible refine O9 (w_or ?_)
 | with_reducible refine Mh ?_)
local macro_rules | `(tactic| walk_at "evW")=> `(tactic| first
 | with_reducible refine w_and ?_
 | with_reducible refine w_or ?_
 | with_reducible refine IU ?_
 | with_reducible refine Mc ?_)
local macro_rules | `(tactic| walk_at "evG")=> `(tactic| first
 | ((with_reducible show mj _ (Qh _ _) _ _ _); with_reducible refine cE (by walk_at "at") ?_)
 | with_reducible refine vc rfl (by walk_at "u") ?_)
local macro_rules | `(tactic| walk_at "evGs")=> `(tactic| first
 | with_reducible refine IV ?_
 | ((with_reducible show xO _ (_::_) _ _ _); with_reducible refine Ey (by walk_at "at") ?_))
local macro_rules | `(tactic| walk_at "evL")=> `(tactic| first
 | ((with_reducible show Nx _ _ _ _); with_reducible refine jO (by walk_at "sset") ?_)
 | ((with_reducible show Sd _ _); first | with_reducible refine Sd.mk (by walk_at "side") ?_ | with_reducible refine Sd.mk ?_ ?_)
 | ((with_reducible show mq _ _ _); first
  | with_reducible refine GN ?_
  | with_reducible refine GO ?_
  | with_reducible refine Eo ?_
  | with_reducible refine u5 (λh=>?_) (λh=>?_)
  | with_reducible refine if2 (λh=>?_) (λh=>?_))
 | with_reducible refine i2 ?_
 | with_reducible refine i1 ?_
 | with_reducible refine b1 ?_
 | ((with_reducible show Am _ _ _); first
  | with_reducible refine Ep ?_
  | with_reducible refine eqp_bl ?_
  | with_reducible refine eqp_str ?_)
 | ((with_reducible show kT _ _ _); first
  | with_reducible refine AU ?_
  | with_reducible refine AV ?_
  | with_reducible refine AW ?_)
 | ((with_reducible show IQ _ _); first
  | with_reducible refine GU ?_
  | with_reducible refine bQ ?_)
 | ((with_reducible show IsN _ _); first
  | with_reducible refine isn_t ?_
  | with_reducible refine isn_f (by intro q; cases q) ?_)
 | ((with_reducible show Lh _ _ _); first
  | refine fu (by rfl) ?_
  | refine vm (by rfl) ?_)
 | ((with_reducible show Jb _ _ _ _); first
  | with_reducible refine EV.Jb.lst ?_
  | with_reducible refine EV.Jb.tup ?_)
 | ((with_reducible show ∃ ys,D.row _=some ys/\_); refine AX (by rfl) ?_)
 | ((with_reducible show ∃ t b,xQ _ _ t/\_); first
  | with_reducible refine Jf .int Jp ?_
  | with_reducible refine Jf .int (Txt.ib (by assumption)) ?_
  | with_reducible refine Jf .bl kit_bb ?_
  | with_reducible refine Jf .lst Jr ?_
  | with_reducible refine Jf .tup Jq ?_)
 | ((with_reducible show ∃ j d,D.int _=D.int j/\_); refine ⟨_,_,rfl,(by walk_at "atI"),?_⟩)
 | ((with_reducible show ∃ r,_/\IX _ _ _ r); walk_at "evR"))
local macro_rules | `(tactic| walk_at "ev1")=> `(tactic| first
 | ((with_reducible show aJ _ _ _ _); walk_at "evE")
 | ((with_reducible show cN _ _ _ _); walk_at "evX")
 | ((with_reducible show iJ _ _ _ _); walk_at "evT")
 | ((with_reducible show aI _ _ _ _ _); walk_at "evSs")
 | ((with_reducible show eU _ _ _ _ _); walk_at "evS")
 | ((with_reducible show qo _ _ _ _); first | with_reducible refine cV ?_ | with_reducible refine kR ?_)
 | ((with_reducible show GP _ _ _ _); walk_at "evW")
 | ((with_reducible show mj _ _ _ _ _); walk_at "evG")
 | ((with_reducible show xO _ _ _ _ _); walk_at "evGs")
 | ((with_reducible show AJ _ _ _ _); first | with_reducible refine AK ?_ | with_reducible refine AL ?_)
 | walk_at "evL")
local macro_rules | `(tactic| walk_at "ev")=> `(tactic| repeat' (walk_at "ev1"))
section
variable {K:PN}
noncomputable def wK:Fn:=λds r=>∃ l:List Int,l.length<=64/\ds=[.tup (l.map .int)]/\r=.ok (.va (.tup ((trim l).map .int)))
theorem Kf (h:l.length<=64):wK [.tup (l.map .int)] (.ok (.va (.tup ((trim l).map .int)))):=⟨l,h,rfl,rfl⟩
theorem CG {cl:List Int} {j:Int} (h0:0<=j) (h1:j<cl.length) (h:R (.int (cl.getD j.toNat 0))):Lh (.tup (cl.map D.int)) (.int j) R:=by
 refine fu ?_ h
 rw [gP h0 (by simpa using h1)]
 have hj:j.toNat<cl.length:=by lia
 simp [P6,hj]
theorem FU (Fu:eS K "trimmed" "trimmed" (top 2) f fd) (T:Txt K mg):bu P w K mg base (di P w) 1 f fd ["powers"] (eX K wK):=by
 refine cG Fu uh (by rintro ds r ⟨a,_,rfl,_⟩; rfl) (by rintro ds r ⟨a,_,_,rfl⟩; exact ⟨_,rfl⟩) λc hq ds sl hF=>?_
 obtain ⟨l,hl,rfl,e⟩:=hF
 injection e with e
 subst e
 show aI c _ [.va (.tup (l.map .int)),.un] _ _
 conv in (ay _)=>whnf
 walk_at "ev"
 with_reducible refine vd hq (λm ρ'=>m<=l.length/\trim (l.take m)=trim l/\ρ'=[.va (.tup (l.map .int)),.va (.int (m:Int))]) (m₀:=l.length) ?_ ?_
 ·refine ⟨PU _,by rw [QW],?_⟩
  rw [P0]
 ·rintro m ρ' ⟨hm,ht,rfl⟩
  walk_at "ev"
  ·refine CG (by lia) (by lia) ?_
   have hk:((m:Int) - 1).toNat=m - 1:=by lia
   rw [hk]
   have hm1:m - 1+1=m:=by lia
   walk_at "ev"
   ·exact ⟨m - 1,by lia,by lia,nI (by lia) (by assumption) (by rw [hm1]; exact ht),by rw [show ((m - 1:Nat):Int)=(m:Int) - 1 by lia]⟩
   ·show Sl.va _=Sl.va _
    rw [qF,BA _ hm]
    have:=jD (l:=l) (m:=m - 1) (by lia) (by assumption) (by rw [hm1]; exact ht)
    rw [hm1] at this
    rw [this]
  ·show Sl.va _=Sl.va _
   have:m=0:=by lia
   subst this
   rw [qF,BA _ hm,<- ht]
   rfl
theorem fT (x):(aO x).nl:=tH (by unfold D.kh; exact ⟨tH (EK _),cJ (f:=D.int) (l:=[x.2]) λ_ _=>kZ⟩)
noncomputable def FW (t:aN):Option D:=if t.2≠0 then some (aO t) else none
theorem kB:∀ L:List aN,(L.map FW).filterMap id=(nz L).map aO
 | []=>rfl
 | t::L=>by
  unfold nz
  by_cases h:t.2=0
  ·simp only [PZ,FW,h,ne_eq,not_true,if_false,Rn,id,List.filter_cons,bne_self_eq_false,QU]
   exact kB L
  ·have hb:(t.2 != 0)=true:=by simpa using h
   rw [List.filter_cons,if_pos hb,PZ,PZ,Rn]
   simp only [FW,ne_eq,h,not_false_eq_true,if_true,id]
   rw [kB L]; rfl
noncomputable def mJ:Fn:=λds r=>∃ ts:List aN,ts.length<=20000/\(∀ t∈ts,t.1.length<=64)/\ds=[.lst (ts.map aO)]/\r=.ok (.ow ((fJ (nz (aP ts))).map aO))
theorem pI (h:ts.length<=20000) (h2:∀ t∈ts,t.1.length<=64):mJ [.lst (ts.map aO)] (.ok (.ow ((fJ (nz (aP ts))).map aO))):=⟨ts,h,h2,rfl,rfl⟩
theorem CH (l m):cZ (l,0) (m,0)=HT.lexLt l m:=by
 unfold cZ
 by_cases e:l=m
 ·subst e; rw [if_pos rfl,EV.kq]; rfl
 ·rw [if_neg e]
theorem uz (hk:(A.map (·.1)).Nodup) (hp:L.Perm (A.map (·.1))) (hs:fQ HT.lexLt false L):L.reverse=(fJ A).map (·.1):=by
 have h:(L.reverse.map λl=>((l,0):aN))=((fJ A).map (·.1)).map λl=>((l,0):aN):=by
  refine lN (((UY L).trans (hp.trans ((bB A).map _).symm)).map _) ?_ ?_
  ·unfold ja fQ at *
   rw [RV,List.pairwise_reverse]
   exact hs.imp λh=>by simpa [CH] using h
  ·have ho:ja true (fJ A):=gT (keys_nodup hk)
   have hn:((fJ A).map (·.1)).Nodup:=((bB A).map _).nodup_iff.mpr hk
   unfold ja fQ Um at *
   rw [RV] at hn
   rw [RV,RV]
   refine ho.imp₂ (λx y h q=>?_) hn
   simp only [if_true] at h |-
   rw [CH]
   unfold cZ at h
   rw [if_neg λz=>q z.symm] at h
   exact h
 have:=congrArg (List.map (·.1)) h
 rw [Qi,Qi] at this
 exact ((Vv _).symm.trans this).trans (Vv _)
theorem CI {l:List Int} (h:m<l.length):jM ((l.take (m+1)).map D.int) (-1)=some (.int (l.getD m 0)):=by
 have hl:(l.take (m+1)).length=m+1:=by simp; lia
 rw [vG (by decide) (by simp only [P0,hl]; lia),P0,hl]
 have e:(-1+((m+1:Nat):Int)).toNat=m:=by lia
 rw [e,P6,List.getElem?_take]
 simp [Q9,h]
theorem Kg (xs:List α):EV.cutD xs none (some (-1))=xs.dropLast:=by
 unfold EV.cutD HT.cg
 rw [List.dropLast_eq_take]
 simp only [T9]
 congr 1
 split <;> lia
section
local macro_rules | `(tactic| walk_at "evIx")=> `(tactic| first | ((with_reducible show aJ _ (Rt _ (Qh _ _) _) _ _); with_reducible refine J9 ?_))
local macro_rules | `(tactic| walk_at "evX")=> `(tactic| first | ((with_reducible show cN _ (Expr.Dict _ _ _) _ _); with_reducible refine EG ?_))
theorem CJ (Fu:eS K "_law_plain" "_law_plain" (top 26) f fd) (T:Txt K mg):bu P w K mg base (di P w) 1 f fd ["_law_terms_here"] (eX K mJ):=by
 refine cG Fu uo (by rintro ds r ⟨n,_,_,rfl,_⟩; rfl) (by rintro ds r ⟨n,_,_,_,rfl⟩; exact ⟨_,rfl⟩) λc hq ds sl hF=>?_
 obtain ⟨ts,hl,hlen,rfl,e⟩:=hF
 injection e with e
 subst e
 show aI c _ [.va (.lst (ts.map aO)),.un,.un,.un,.un] _ _
 conv in (ay _)=>whnf
 walk_at "ev"
 with_reducible refine cO hq (cj ?_)
 walk_at "ev"
 refine ⟨λi ρ'=>∃ s2 s3 s4:Sl,ρ'=[.va (.lst (ts.map aO)),.oT (encA (aP (ts.take i))),s2,s3,s4],⟨_,_,_,rfl⟩,?_,?_⟩
 ·rintro c' l7 xr xu i d ρ' hd ⟨s2,s3,s4,rfl⟩
  simp only [P6,Qc] at hd
  obtain ⟨t,ht,rfl⟩:=hd
  obtain ⟨hi,rfl⟩:=Qa.mp ht
  have h6:=hlen _ (Qy hi)
  have hsz:(aP (ts.take i)).length<sizeLine:=iD (by have:=gS (ts.take i); rw [Q5] at this; lia)
  have e:aP (ts.take (i+1))=putD (aP (ts.take i)) (trim ts[i].1) ((bD (aP (ts.take i)) (trim ts[i].1)).getD 0+ts[i].2):=by
   rw [Q4 hi,q8]; rfl
  have hq':c'.X.xe=λ_ _=>False:=by rw [l7]; exact hq
  generalize aP (ts.take i)=A at hsz e |-
  generalize ts[i]=t at h6 e |-
  show mj c' _ (D.tup [.tup (t.1.map .int),.int t.2]) _ _
  walk_at "ev"
  with_reducible refine vd hq' (λm ρ'=>m<=t.1.length/\trim (t.1.take m)=trim t.1/\ρ'=[.va (.lst (ts.map aO)),.oT (encA A),.va (.tup (t.1.map .int)),.va (.int t.2),.va (.tup ((t.1.take m).map .int))]) (m₀:=t.1.length) ?_ ?_
  ·exact ⟨PU _,by rw [QW],by rw [QW]⟩
  ·rintro m ρ' ⟨hm,ht,rfl⟩
   have hL:((t.1.take m).map D.int).length=m:=by simp; lia
   walk_at "ev"
   ·rw [hL] at *
    obtain ⟨n,rfl⟩:∃ n,m=n+1:=⟨m - 1,by lia⟩
    refine fu (CI (by lia)) ?_
    walk_at "ev"
    ·refine ⟨n,by lia,by lia,nI (by lia) (by assumption) ht,?_⟩
     rw [Kg,jC (by lia),Qs,List.map_singleton,List.dropLast_concat]
    ·have eT:t.1.take (n+1)=trim t.1:=by first | exact jD (by lia) (by assumption) ht | exact (jD (by lia) (by assumption) ht).symm
     rw [eT]
     refine ⟨_,BE (A:=A) rfl _,?_⟩
     rw [q9]
     walk_at "ev"
     refine ⟨_,BF hsz,?_⟩
     walk_at "ev"
     show ∃ s2 s3 s4:Sl,_=[_,Sl.oT (encA (aP (ts.take (i+1)))),s2,s3,s4]
     rw [e]
     exact ⟨_,_,_,rfl⟩
   ·have:m=0:=by rw [hL] at *; lia
    subst this
    have eT:t.1.take 0=trim t.1:=ht
    rw [eT]
    refine ⟨_,BE (A:=A) rfl _,?_⟩
    rw [q9]
    walk_at "ev"
    refine ⟨_,BF hsz,?_⟩
    walk_at "ev"
    show ∃ s2 s3 s4:Sl,_=[_,Sl.oT (encA (aP (ts.take (i+1)))),s2,s3,s4]
    rw [e]
    exact ⟨_,_,_,rfl⟩
 ·rintro ρ' ⟨s2,s3,s4,rfl⟩
  rw [P0,QW]
  have hn:=keys_nodup (dZ ts)
  have hn':=dZ ts
  have hle:=gS ts
  with_reducible refine au ?_
  with_reducible refine dw ?_
  refine tL 1 (by walk_at "at") (encK _) (by walk_at "sset") (dJ hq (N':=["_law_key","_law_found"]) (ρ0:=λ_=>[.un,.va (D.fdT ((aP ts).map λt=>t.1.map Ql) ((aP ts).map λt=>D.int t.2))]) (λt=>.un (.fr (by walk_at "at") (by walk_at "at") (by decide) rfl .nil)) (cj (e_x (MT ?_))))
  refine e_x (Ct (Txt.sorted T) ?_)
  walk_at "ev"
  refine ⟨(aP ts).map (·.1),_,by rw [Qi]; rfl,hn',λL' hp hs=>?_⟩
  have eL:=uz hn' hp hs
  have hpl:=(bB (aP ts)).length_eq
  refine bQ ?_
  walk_at "ev"
  refine ⟨rfl,rfl,rfl,_,rfl,?_⟩
  rw [<- List.map_reverse,eL]
  refine bQ (AX rfl ⟨pS (by simp only [P0]; lia),(fJ (aP ts)).map FW,by simp,?_,?_⟩)
  ·intro c' hc t i d o hd ho
   simp only [P6,Qc] at hd ho
   obtain ⟨n,⟨x,hx,rfl⟩,rfl⟩:=hd
   obtain ⟨x',hx',rfl⟩:=ho
   rw [hx] at hx'; cases hx'
   have hm:x∈aP ts:=(bB (aP ts)).subset (QI hx)
   have hv:bD (encA (aP ts)) (x.1.map Ql)=some (.int x.2):=by
    rw [oR,oZ hn' hm]; rfl
   refine cE (by walk_at "at") (jO (by walk_at "sset") ⟨.un (.same .nil),?_⟩)
   simp only [jX]
   walk_at "ev"
   refine ⟨encA (aP ts),_,_,_,?_,rfl,fG x.1,hv,?_⟩
   ·show _=D.fdT (((aP ts).map _).map _) (((aP ts).map _).map _)
    rw [Qi,Qi]; rfl
   walk_at "ev"
   ·unfold FW; rw [if_neg λh=>h (by assumption)]
   refine ⟨encA (aP ts),_,_,_,?_,rfl,fG x.1,hv,?_⟩
   ·show _=D.fdT (((aP ts).map _).map _) (((aP ts).map _).map _)
    rw [Qi,Qi]; rfl
   walk_at "ev"
   unfold FW
   rw [if_pos (by assumption)]
  ·rw [kB,BD (keys_nodup hn')]
   exact ⟨cJ λx _=>fT x,rfl⟩
end
end
section
variable {K:PN}
noncomputable def FY (p:List Int) (g:Nat->Int) (k:Nat):Int:=if bZ p k>g k then bZ p k else g k
noncomputable def gk (L:List aN) (k:Nat):Int:=L.foldl (λa t=>if bZ t.1 k>a then bZ t.1 k else a) 0
noncomputable def eE (L:List aN):List Int:=(QC 6).map (gk L)
noncomputable def iF (p:List Int) (g:Nat->Int) (j k:Nat):Int:=if k<j then FY p g k else g k
theorem wL (L:List aN) (k):∀ a:Int,a<=L.foldl (λa t=>if bZ t.1 k>a then bZ t.1 k else a) a:=by
 induction L with
 | nil=>exact λa=>Rm _
 | cons t L ih =>
  intro a
  rw [Rp]
  refine QA ?_ (ih _)
  split <;> lia
theorem Ht (L) (k):0<=gk L k:=wL L k 0
theorem FZ (L) (t):gk (L++[t])=FY t.1 (gk L):=by
 funext k
 unfold gk FY
 rw [Wb]; rfl
theorem F0:iF p (gk L) p.length=FY p (gk L):=by
 funext k
 unfold iF
 split
 ·rfl
 ·unfold FY
  rw [c6 (by lia)]
  have:=Ht L k
  rw [if_neg (by lia)]
theorem CK (p) (g):iF p g 0=g:=by funext k; unfold iF; rw [if_neg (by lia)]
noncomputable def fU (g:Nat->Int):List D:=((QC 6).map g).map D.int
theorem CL (p) (g) (h:j<6) (q:FY p g j=bZ p j):(fU (iF p g j)).set j (.int (bZ p j))=fU (iF p g (j+1)):=by
 refine U4 (by simp [fU]) λi h1 h2=>?_
 have hi:i<6:=by simpa [fU] using h2
 rw [List.getElem_set]
 simp only [fU,Wj,V2]
 unfold iF
 by_cases e:j=i
 ·subst e
  rw [if_pos rfl,if_pos (by lia),q]
 ·rw [if_neg e]
  by_cases z:i<j
  ·rw [if_pos z,if_pos (by lia)]
  ·rw [if_neg z,if_neg (by lia)]
theorem yZ (p) (g) (q:FY p g j=g j):fU (iF p g j)=fU (iF p g (j+1)):=by
 unfold fU
 congr 1
 refine RL λi _=>?_
 unfold iF
 by_cases z:i<j
 ·rw [if_pos z,if_pos (by lia)]
 ·by_cases e:i=j
  ·subst e; rw [if_neg z,if_pos (by lia),q]
  ·rw [if_neg z,if_neg (by lia)]
theorem F1 (g) {j:Nat} (h:j<6):jM (fU g) (j:Int)=some (.int (g j)):=by
 rw [gP (by lia) (by simp [fU]; lia),QV]
 simp [fU,h]
noncomputable def pJ:Fn:=λds r=>∃ L:List aN,(∀ t∈L,t.1.length<=6)/\ds=[.lst (L.map aO)]/\r=.ok (.ow (fU (gk L)))
theorem F2 (h:∀ t∈L,t.1.length<=6):pJ [.lst (L.map aO)] (.ok (.ow (fU (gk L)))):=⟨L,h,rfl,rfl⟩
section
local macro_rules | `(tactic| walk_at "evPut")=> `(tactic| with_reducible refine JG (by walk_at "at") (by walk_at "at") (by walk_at "own") ?_)
local macro_rules | `(tactic| walk_at "evX")=> `(tactic| first | ((with_reducible show cN _ (Expr.BinOp _ Operator.Mult _ _) _ _); with_reducible refine MG ?_))
local macro_rules | `(tactic| walk_at "evE")=> `(tactic| first | ((with_reducible show aJ _ (Qh "PLACES" _) _ _); with_reducible refine sZ (by assumption) ?_))
theorem CM (Fu:eS K "greatest_powers" "greatest_powers" (top 3) f fd) (T:Txt K mg) (PL:∃ tk:Tok,mg "PLACES"=some (.int 6 tk)):bu P w K mg base (di P w) 1 f fd ["some"] (eX K pJ):=by
 obtain ⟨tk,hPL⟩:=PL
 refine cG Fu iE (by rintro ds r ⟨L,_,rfl,_⟩; rfl) (by rintro ds r ⟨L,_,_,rfl⟩; exact ⟨_,rfl⟩) λc hq ds sl hF=>?_
 obtain ⟨L,hl,rfl,e⟩:=hF
 injection e with e
 subst e
 show aI c _ [.va (.lst (L.map aO)),.un,.un,.un,.un,.un] _ _
 conv in (ay _)=>whnf
 walk_at "ev"
 refine ⟨_,rfl,?_⟩
 walk_at "ev"
 ·exact ⟨⟨by decide,by decide⟩,by decide⟩
 walk_at "ev"
 show eU c _ [.va (.lst (L.map aO)),.ow (fU (gk [])),.un,.un,.un,.un] _ _
 with_reducible refine cO hq (cj ?_)
 walk_at "ev"
 refine ⟨λi ρ'=>∃ s2 s3 s4 s5:Sl,ρ'=[.va (.lst (L.map aO)),.ow (fU (gk (L.take i))),s2,s3,s4,s5],⟨_,_,_,_,rfl⟩,?_,?_⟩
 ·rintro c' l7 xr xu i d ρ' hd ⟨s2,s3,s4,s5,rfl⟩
  simp only [P6,Qc] at hd
  obtain ⟨t,ht,rfl⟩:=hd
  obtain ⟨hi,rfl⟩:=Qa.mp ht
  have h6:=hl _ (Qy hi)
  have hq':c'.X.xe=λ_ _=>False:=by rw [l7]; exact hq
  show mj c' _ (D.tup [.tup (L[i].1.map .int),.int L[i].2]) _ _
  walk_at "ev"
  have eg:gk (L.take (i+1))=iF L[i].1 (gk (L.take i)) L[i].1.length:=by rw [Q4 hi,FZ,F0]
  generalize L[i]=t at h6 eg |-
  generalize gk (L.take i)=g at eg |-
  with_reducible refine cO hq' (JK (Txt.enum (by assumption)) ?_)
  walk_at "ev"
  refine ⟨_,rfl,?_⟩
  refine ⟨λj ρ'=>∃ s4 s5:Sl,ρ'=[.va (.lst (L.map aO)),.ow (fU (iF t.1 g j)),.va (.tup (t.1.map .int)),.va (.int t.2),s4,s5],⟨s4,s5,by rw [CK]⟩,?_,?_⟩
  ·rintro c2 hcX2 hcR2 hcM2 j d ρ' hd ⟨s4,s5,rfl⟩
   unfold lR at hd
   simp only [P6,Qc,List.getElem?_zipIdx] at hd
   obtain ⟨⟨x,m⟩,⟨y,⟨z,hz,rfl⟩,e⟩,rfl⟩:=hd
   obtain ⟨rfl,rfl⟩:D.int z=x/\0+j=m:=by simpa using e
   obtain ⟨hj,rfl⟩:=Qa.mp hz
   have hj6:j<6:=by lia
   have ha:jM (fU (iF t.1 g j)) (((0+j:Nat):Int))=some (.int (g j)):=by
    rw [Se,F1 _ hj6]; unfold iF; rw [if_neg (by lia)]
   have ep:bZ t.1 j=t.1[j]:=dN hj
   have hj0:0+j=j:=Se j
   rw [hj0] at ha |-
   show mj c2 _ (D.tup [.int (j:Nat),.int t.1[j]]) _ _
   walk_at "ev"
   ·refine ⟨j,rfl,⟨by simp [fU]; lia,?_⟩⟩
    walk_at "ev"
    refine ⟨.va (.int (j:Nat)),.va (.int t.1[j]),?_⟩
    show [_,Sl.ow ((fU (iF t.1 g j)).set j (.int t.1[j])),_,_,_,_]=_
    rw [<- ep,CL t.1 g hj6 (by unfold FY; rw [ep,if_pos (by assumption)])]
   ·refine ⟨.va (.int (j:Nat)),.va (.int t.1[j]),?_⟩
    rw [yZ t.1 g (by unfold FY; rw [ep,if_neg (by assumption)])]
  ·rintro ρ' ⟨s4,s5,rfl⟩
   rw [show (lR (t.1.map D.int)).length=t.1.length by simp [lR]]
   walk_at "ev"
   exact ⟨_,_,_,_,by rw [eg]⟩
 ·rintro ρ' ⟨s2,s3,s4,s5,rfl⟩
  rw [P0,QW]
  walk_at "ev"
  rfl
end
noncomputable def DK (ns:List Int):Int:=ns.foldr max 0
theorem CN:∀ {ns:List Int} {n:Int},n∈ns->n<=DK ns
 | x::ns,n,h=>by
  show n<=max x (DK ns)
  rcases P8.mp h with rfl | h
  ·lia
  ·have:=CN h; lia
theorem Hu:∀ (ns:List Int),0<=DK ns
 | []=>Rm _
 | x::ns=>by show 0<=max x (DK ns); have:=Hu ns; lia
theorem uA:∀ {ns:List Int} {m:Int},0<=m->(∀ n∈ns,n<=m)->DK ns<=m
 | [],_,h,_=>h
 | x::ns,m,h0,h=>by
  show max x (DK ns)<=m
  have:=uA h0 λn hn=>h n (P9 _ hn)
  have:=h x P4
  lia
theorem CO (h:m∈eE L) (h2:∀ n∈eE L,n<=m):m=DK (eE L):=by
 have h0:0<=m:=by
  unfold eE at h
  obtain ⟨k,_,rfl⟩:=Qe.mp h
  exact Ht L k
 exact Int.le_antisymm (CN h) (uA h0 h2)
end
section
variable {K:PN}
noncomputable def F3:Fn:=λds r=>∃ (p:List Int) (W:Nat),W<=10/\Bd (2 ^ W) p/\ds=[.tup (p.map .int),.int (W:Nat)]/\r=.ok (.va (.int (pk (2 ^ W) p)))
theorem MX (h:W<=10) (h2:Bd (2 ^ W) p):F3 [.tup (p.map .int),.int (W:Nat)] (.ok (.va (.int (pk (2 ^ W) p)))):=⟨p,W,h,h2,rfl,rfl⟩
section
local macro_rules | `(tactic| walk_at "evE")=> `(tactic| first | ((with_reducible show aJ _ (Qh "PLACES" _) _ _); with_reducible refine sZ (by assumption) ?_))
local macro_rules | `(tactic| walk_at "evBo")=> `(tactic| first | with_reducible refine G3 ?_ | with_reducible refine G4 ?_ | with_reducible refine BH ?_)
theorem Kh (Fu:eS K "key_of" "key_of" (top 4) f fd) (T:Txt K mg) (PL:∃ tk:Tok,mg "PLACES"=some (.int 6 tk)):bu P w K mg base (di P w) 1 f fd ["powers","width"] (eX K F3):=by
 obtain ⟨tk,hPL⟩:=PL
 refine cG Fu yT (by rintro ds r ⟨p,W,_,_,rfl,_⟩; rfl) (by rintro ds r ⟨p,W,_,_,_,rfl⟩; exact ⟨_,rfl⟩) λc hq ds sl hF=>?_
 obtain ⟨p,W,hW,hp,rfl,e⟩:=hF
 injection e with e
 subst e
 have h6:=hp.1
 show aI c _ [.va (.tup (p.map .int)),.va (.int (W:Nat)),.un,.un] _ _
 conv in (ay _)=>whnf
 walk_at "ev"
 with_reducible refine cO hq (cj ?_)
 walk_at "ev"
 refine ⟨λi ρ'=>∃ s3:Sl,ρ'=[.va (.tup (p.map .int)),.va (.int (W:Nat)),.va (.int (Fv (2 ^ W) (p.take i))),s3],⟨_,rfl⟩,?_,?_⟩
 ·rintro c' l7 xr xu i d ρ' hd ⟨s3,rfl⟩
  simp only [P6,Qc] at hd
  obtain ⟨x,hx,rfl⟩:=hd
  obtain ⟨hi,rfl⟩:=Qa.mp hx
  have bd:=BU (two_pos W) (p:=p.take i) λx hx=>hp.2 x (Su hx)
  have hl:(p.take i).length<=6:=by rw [Q5]; lia
  walk_at "ev"
  ·exact ⟨by lia,by lia,wj hW hl bd.1 bd.2⟩
  ·refine ⟨.va (.int p[i]),?_⟩
   rw [Q4 hi,BS,QV]
 ·rintro ρ' ⟨s3,rfl⟩
  rw [P0,QW]
  have bd:=BU (two_pos W) hp.2
  have ew:(W:Int) * (6 - ((p.map D.int).length:Nat))=((W * (6 - p.length):Nat):Int):=by
   rw [P0,Int.natCast_mul,Int.ofNat_sub h6]; rfl
  have ew2:W * (6 - p.length)<=60:=P7 (SJ hW (Nat.sub_le 6 _)) (by decide)
  walk_at "ev"
  ·exact lu (by lia)
  ·rw [ew]; exact ⟨by lia,by lia,wj hW h6 bd.1 bd.2⟩
  ·show Sl.va _=Sl.va _
   rw [ew,QV,Int.pow_mul,JS h6]
end
theorem cI {α:Type} (f:α->D):∀ L:List α,(L.map λt=>some (f t)).filterMap id=L.map f
 | []=>rfl
 | x::L=>by
  rw [PZ,PZ,Rn]
  exact congrArg (f x:: ·) (cI f L)
noncomputable def wM:Fn:=λds r=>∃ (x:Int) (W:Nat),W<=10/\0<=x/\ds=[.int x,.int (W:Nat)]/\r=.ok (.va (.tup ((NI (2 ^ W) x).map .int)))
theorem Kl (h:W<=10) (h2:0<=x):wM [.int x,.int (W:Nat)] (.ok (.va (.tup ((NI (2 ^ W) x).map .int)))):=⟨x,W,h,h2,rfl,rfl⟩
section
local macro_rules | `(tactic| walk_at "evE")=> `(tactic| first | ((with_reducible show aJ _ (Qh "PLACES" _) _ _); with_reducible refine sZ (by assumption) ?_))
local macro_rules | `(tactic| walk_at "evBo")=> `(tactic| first | with_reducible refine G3 ?_ | with_reducible refine G4 ?_ | with_reducible refine BH ?_)
local macro_rules | `(tactic| walk_at "evXC")=> `(tactic| first | with_reducible refine x_call (F:=wK) (by assumption) (by decide) ?_)
theorem F4 (Fu:eS K "powers_of" "powers_of" (top 5) f fd) (T:Txt K mg) (PL:∃ tk:Tok,mg "PLACES"=some (.int 6 tk)) (h1:eG P w K mg base 1 "trimmed" wK):bu P w K mg base (di P w) 2 f fd ["key","width"] (eX K wM):=by
 obtain ⟨tk,hPL⟩:=PL
 refine cG Fu pB (by rintro ds r ⟨x,W,_,_,rfl,_⟩; rfl) (by rintro ds r ⟨x,W,_,_,_,rfl⟩; exact ⟨_,rfl⟩) λc hq ds sl hF=>?_
 obtain ⟨x,W,hW,hx,rfl,e⟩:=hF
 injection e with e
 subst e
 show aI c _ [.va (.int x),.va (.int (W:Nat)),.un] _ _
 conv in (ay _)=>whnf
 walk_at "ev"
 ·exact ⟨by lia,by lia,by decide⟩
 walk_at "ev"
 rw [QV]
 refine e_x (dJ hq (N':=["k","key","mask","width"]) (ρ0:=λ_=>[.un,.va (.int x),.va (.int (1 * 2 ^ W - 1)),.va (.int (W:Nat))]) (λt=>.un (.fr (by walk_at "at") (by walk_at "at") (by decide) rfl (.fr (by walk_at "at") (by walk_at "at") (by decide) rfl (.fr (by walk_at "at") (by walk_at "at") (by decide) rfl .nil)))) (JM (Txt.range T) ?_))
 walk_at "ev"
 refine ⟨rfl,⟨⟨by decide,by decide⟩,⟨⟨by decide,by decide⟩,⟨by decide,?_⟩⟩⟩⟩
 refine ⟨(QC 6).map λ(i:Nat)=>some (.int (x / (2 ^ W) ^ (5 - i) % 2 ^ W)),rfl,?_,bQ ?_⟩
 ·intro c' hc t i d o hd ho
  unfold BL at hd
  simp only [P6,Qc] at hd ho
  obtain ⟨a,ha,rfl⟩:=hd
  obtain ⟨a',ha',rfl⟩:=ho
  have hi:i<6:=by simpa using (Qa.mp ha').1
  rw [Sw hi] at ha'; cases ha'
  rw [show (6 - 1 - -1:Int).toNat=6 by decide,Sw hi] at ha; cases ha
  refine cE (by walk_at "at") (jO (by walk_at "sset") ⟨.un (.same (.same (.same .nil))),?_⟩)
  simp only [jX]
  refine ⟨λ_=>?_,λh=>by cases h⟩
  have e5:((W:Int) * (6 - 1 - (i:Int))).toNat=W * (5 - i):=by
   rw [show ((6:Int) - 1 - (i:Int))=((5 - i:Nat):Int) by lia,<- Int.natCast_mul,QV]
  have e6:(0:Int)<=(W:Int) * (6 - 1 - (i:Int)):=Int.mul_nonneg (by lia) (by lia)
  have hp:(0:Int)<(2 ^ W) ^ (5 - i):=SQ (two_pos W)
  walk_at "ev"
  ·exact lu (by lia)
  ·show some _=some (D.int _)
   rw [e5,Int.pow_mul,yx W (Int.ediv_nonneg hx (by lia))]
 ·refine ⟨_,rfl,?_⟩
  rw [cI (λ(i:Nat)=>D.int (x / (2 ^ W) ^ (5 - i) % 2 ^ W)) (QC 6),show ((QC 6).map λ(i:Nat)=>D.int (x / (2 ^ W) ^ (5 - i) % 2 ^ W))=((QC 6).map λ(i:Nat)=>x / (2 ^ W) ^ (5 - i) % 2 ^ W).map D.int by rw [Qi]; rfl]
  walk_at "ev"
  exact az (Kf (by simp)) rfl
end
noncomputable def sd (b:Int) (t:aN):D:=.tup [.int (pk b t.1),.int t.2]
noncomputable def wN:Fn:=λds r=>∃ (L:List aN) (W:Nat),W<=10/\L.length<=20000/\(∀ t∈L,Bd (2 ^ W) t.1)/\ds=[.lst (L.map aO),.int (W:Nat)]/\r=.ok (.ow (L.map (sd (2 ^ W))))
theorem Km {L:List aN} (h:W<=10) (h1:L.length<=20000) (h2:∀ t∈L,Bd (2 ^ W) t.1):wN [.lst (L.map aO),.int (W:Nat)] (.ok (.ow (L.map (sd (2 ^ W))))):=⟨L,W,h,h1,h2,rfl,rfl⟩
section
local macro_rules | `(tactic| walk_at "evCa")=> `(tactic| first | with_reducible refine bL (F:=F3) (by assumption) (by decide) ?_)
theorem F5 (Fu:eS K "packed" "packed" (top 6) f fd) (T:Txt K mg) (h1:eG P w K mg base 1 "key_of" F3):bu P w K mg base (di P w) 2 f fd ["some","width"] (eX K wN):=by
 refine cG Fu yU (by rintro ds r ⟨L,W,_,_,_,rfl,_⟩; rfl) (by rintro ds r ⟨L,W,_,_,_,_,rfl⟩; exact ⟨_,rfl⟩) λc hq ds sl hF=>?_
 obtain ⟨L,W,hW,hL,hb,rfl,e⟩:=hF
 injection e with e
 subst e
 show aI c _ [.va (.lst (L.map aO)),.va (.int (W:Nat))] _ _
 conv in (ay _)=>whnf
 refine au (dw (dJ hq (N':=["powers","number","width"]) (ρ0:=λ_=>[.un,.un,.va (.int (W:Nat))]) (λt=>.un (.un (.fr (by walk_at "at") (by walk_at "at") (by decide) rfl .nil))) (cj ?_)))
 walk_at "ev"
 ·exact pS (by rw [P0]; lia)
 refine ⟨L.map λt=>some (sd (2 ^ W) t),by simp,?_,by show Sl.ow _=Sl.ow _; rw [cI]⟩
 intro c' hc t i d o hd ho
 simp only [P6,Qc] at hd ho
 obtain ⟨x,hx,rfl⟩:=hd
 obtain ⟨x',hx',rfl⟩:=ho
 rw [hx] at hx'; cases hx'
 have hbx:=hb x (QI hx)
 show mj c' _ (.tup [.tup (x.1.map .int),.int x.2]) _ _
 walk_at "ev"
 refine ⟨.un (.un (.same .nil)),?_⟩
 simp only [jX]
 refine ⟨λ_=>?_,λh=>by cases h⟩
 walk_at "ev"
 refine az (MX hW hbx) ?_
 walk_at "ev"
 rfl
end
end
section
variable {P:Program} {w:World} {K:PN} {mg:Str->Option Value} {base:Heap}
noncomputable def Kn:NH:=λkvs ds Z=>∃ (ts A B:List aN) (W:Nat),W<=10/\ts.length+A.length * B.length<=20000/\A.length<=20000/\B.length<=20000/\(∀ t∈ts,Bd (2 ^ W) t.1)/\(∀ l∈A,∀ r∈B,Bd (2 ^ W) (cF l.1 r.1)/\EV.MulOk l.2 r.2) /\
 kvs=cR ((aP ts).map (gw (2 ^ W)))/\ds=[.lst (A.map (sd (2 ^ W))),.lst (B.map (sd (2 ^ W)))]/\Z=λkvs'=>kvs'=cR ((aP (ts++aR A B)).map (gw (2 ^ W)))
section
local macro_rules | `(tactic| walk_at "evS")=> `(tactic| first | ((with_reducible show eU _ (Vc (Rt (Qh _ _) _ _) Vn _ _) _ _ _); with_reducible refine vv (by walk_at "at") (by walk_at "at") ?_ (ho:=by walk_at "own")))
theorem Ko (Fu:eS K "add_products" "add_products" (top 8) f fd) (T:Txt K mg):bu P w K mg base (di P w) 1 f fd ["total","left","right"] (JE K Kn):=by
 refine ME Fu j5 (by rintro kvs ds Z ⟨t0,A,B,W,_,_,_,_,_,_,_,rfl,_⟩; rfl) λc hq q kvs ds Z hF=>?_
 obtain ⟨t0,A,B,W,hW,hl,hA,hB,hb0,hp,rfl,rfl,rfl⟩:=hF
 have e00:t0=t0++aR (A.take 0) B:=by show t0=t0++[]; rw [QX]
 rw [show cR ((aP t0).map (gw (2 ^ W)))=cR ((aP (t0++aR (A.take 0) B)).map (gw (2 ^ W))) by rw [<- e00]]
 show aI c _ [.aK q (cR ((aP (t0++aR (A.take 0) B)).map (gw (2 ^ W)))),.va (.lst (A.map (sd (2 ^ W)))),.va (.lst (B.map (sd (2 ^ W)))),.un,.un,.un,.un,.un] _ _
 conv in (ay _)=>whnf
 walk_at "ev"
 with_reducible refine cO hq (cj ?_)
 walk_at "ev"
 refine ⟨λi ρ'=>∃ s3 s4 s5 s6 s7:Sl,ρ'=[.aK q (cR ((aP (t0++aR (A.take i) B)).map (gw (2 ^ W)))),.va (.lst (A.map (sd (2 ^ W)))),.va (.lst (B.map (sd (2 ^ W)))),s3,s4,s5,s6,s7],⟨_,_,_,_,_,rfl⟩,?_,?_⟩
 ·rintro c' l7 xr xu i d ρ' hd ⟨s3,s4,s5,s6,s7,rfl⟩
  simp only [P6,Qc] at hd
  obtain ⟨l,hlx,rfl⟩:=hd
  obtain ⟨hi,rfl⟩:=Qa.mp hlx
  have hq':c'.X.xe=λ_ _=>False:=by rw [l7]; exact hq
  show mj c' _ (.tup [.int (pk (2 ^ W) A[i].1),.int A[i].2]) _ _
  walk_at "ev"
  with_reducible refine cO hq' (cj ?_)
  walk_at "ev"
  have hpi:=hp A[i] (Qy hi)
  have e0:t0++aR (A.take (i+1)) B=(t0++aR (A.take i) B)++B.map (dO A[i]):=by
   rw [Q4 hi,nM,Qn]
  have hprev:∀ t∈t0++aR (A.take i) B,Bd (2 ^ W) t.1:=λt ht=>by
   rcases Qq.mp ht with z | z
   ·exact hb0 t z
   ·obtain ⟨l,hl,r,hr,rfl⟩:=gx z
    exact (hp l (Su hl) r hr).1
  have hlen:(t0++aR (A.take i) B).length+B.length<=20000:=by
   rw [QE,c7,Q5,T6 (by lia),Nat.add_assoc,<- Ug]
   exact P7 (Nat.add_le_add_left (Nat.mul_le_mul_right _ (by lia)) _) hl
  generalize A[i]=l at hpi e0 |-
  generalize t0++aR (A.take i) B=ts at e0 hprev hlen |-
  refine ⟨λj ρ'=>∃ s5 s6 s7:Sl,ρ'=[.aK q (cR ((aP (ts++(B.take j).map (dO l))).map (gw (2 ^ W)))),.va (.lst (A.map (sd (2 ^ W)))),.va (.lst (B.map (sd (2 ^ W)))),.va (.int (pk (2 ^ W) l.1)),.va (.int l.2),s5,s6,s7],⟨s5,s6,s7,by simp⟩,?_,?_⟩
  ·rintro c2 hcX2 hcR2 hcM2 j d ρ' hd ⟨s5,s6,s7,rfl⟩
   simp only [P6,Qc] at hd
   obtain ⟨r,hrx,rfl⟩:=hd
   obtain ⟨hj,rfl⟩:=Qa.mp hrx
   obtain ⟨hb,hm⟩:=hpi B[j] (Qy hj)
   have e1:ts++(B.take (j+1)).map (dO l)=(ts++(B.take j).map (dO l))++[dO l B[j]]:=by
    rw [Q4 hj,Qs,Qn]; rfl
   have hprev2:∀ t∈ts++(B.take j).map (dO l),Bd (2 ^ W) t.1:=λt ht=>by
    rcases Qq.mp ht with z | z
    ·exact hprev t z
    ·obtain ⟨r,hr,rfl⟩:=Qe.mp z
     exact (hpi r (Su hr)).1
   have hlen2:(ts++(B.take j).map (dO l)).length<20000:=by
    rw [QE,P0,Q5]; lia
   have key:=JR (two_pos W) hprev2 (t:=dO l B[j]) hb
   rw [<- e1] at key
   generalize ts++(B.take j).map (dO l)=us at key hlen2 |-
   generalize B[j]=r at key hb hm |-
   show mj c2 _ (.tup [.int (pk (2 ^ W) r.1),.int r.2]) _ _
   have ek:pk (2 ^ W) (dO l r).1=pk (2 ^ W) l.1+pk (2 ^ W) r.1:=Fw _ _ _
   rw [ek] at key
   have hC:(cR ((aP us).map (gw (2 ^ W)))).length<sizeLine:=iD (by
    have:=gS us
    simp only [cR,P0]; lia)
   generalize (aP us).map (gw (2 ^ W))=C at key hC |-
   walk_at "ev"
   refine GX (by walk_at "at") (by walk_at "at") ?_
   walk_at "ev"
   refine ⟨_,.k rfl rfl,?_⟩
   rw [jd]
   cases hv:bD C (pk (2 ^ W) l.1+pk (2 ^ W) r.1) with
   | some m =>
    rw [hv] at key
    show mq _ _ true
    walk_at "ev"
    refine ⟨m,by rw [<- show bD (cR C) (.inl (pk (2 ^ W) l.1+pk (2 ^ W) r.1))=some (D.int m) by rw [jd,hv]; rfl]; exact .k rfl rfl,?_⟩
    walk_at "ev"
    refine ⟨_,.k rfl rfl hC,?_⟩
    walk_at "ev"
    refine ⟨.va (.int (pk (2 ^ W) r.1)),.va (.int r.2),.va (.int (pk (2 ^ W) l.1+pk (2 ^ W) r.1)),?_⟩
    show [Sl.aK q (putD (cR C) (.inl (pk (2 ^ W) l.1+pk (2 ^ W) r.1)) (.int (m+l.2 * r.2))),_,_,_,_,_,_,_]=_
    rw [rE,show putD C (pk (2 ^ W) l.1+pk (2 ^ W) r.1) (m+l.2 * r.2)=_ from key]
   | none =>
    rw [hv] at key
    show mq _ _ false
    walk_at "ev"
    refine ⟨_,.k rfl rfl hC,?_⟩
    walk_at "ev"
    refine ⟨.va (.int (pk (2 ^ W) r.1)),.va (.int r.2),.va (.int (pk (2 ^ W) l.1+pk (2 ^ W) r.1)),?_⟩
    show [Sl.aK q (putD (cR C) (.inl (pk (2 ^ W) l.1+pk (2 ^ W) r.1)) (.int (l.2 * r.2))),_,_,_,_,_,_,_]=_
    rw [rE,<- Ui (l.2 * r.2),show putD C (pk (2 ^ W) l.1+pk (2 ^ W) r.1) (0+l.2 * r.2)=_ from key]
  ·rintro ρ' ⟨s5,s6,s7,rfl⟩
   rw [P0,QW,<- e0]
   walk_at "ev"
   exact ⟨_,_,_,_,_,rfl⟩
 ·rintro ρ' ⟨s3,s4,s5,s6,s7,rfl⟩
  rw [P0,QW]
  walk_at "ev"
  exact ⟨_,_,rfl,rfl⟩
end
noncomputable def Lk (C:List (Int×Int)):D:=.fdK ((cR C).map (·.1)) ((cR C).map (·.2))
theorem CP (C):(cR C).map (·.1)=(C.map (·.1)).map Ql:=by unfold cR; rw [Qi,Qi]; rfl
noncomputable def F6:Fn:=λds r=>∃ (ts:List aN) (W:Nat),W<=10/\ts.length<=20000/\(∀ t∈ts,Bd (2 ^ W) t.1)/\ds=[Lk ((aP ts).map (gw (2 ^ W))),.int (W:Nat)]/\r=.ok (.ow ((aZ ts).map aO))
theorem MY (h:W<=10) (h1:ts.length<=20000) (h2:∀ t∈ts,Bd (2 ^ W) t.1):F6 [Lk ((aP ts).map (gw (2 ^ W))),.int (W:Nat)] (.ok (.ow ((aZ ts).map aO))):=⟨ts,W,h,h1,h2,rfl,rfl⟩
theorem uB (h:fQ ltI true L):L.Pairwise λx y=>y<x:=by
 unfold fQ at h
 exact h.imp λ{x y} q=>by simpa using q
section
local macro_rules | `(tactic| walk_at "evIx")=> `(tactic| with_reducible refine JT ?_)
local macro_rules | `(tactic| walk_at "evCa")=> `(tactic| first | with_reducible refine bL (F:=wM) (by assumption) (by decide) ?_)
theorem Kp (Fu:eS K "unpacked" "unpacked" (top 7) f fd) (T:Txt K mg) (h1:eG P w K mg base 2 "powers_of" wM):bu P w K mg base (di P w) 3 f fd ["total","width"] (eX K F6):=by
 refine cG Fu rV (by rintro ds r ⟨ts,W,_,_,_,rfl,_⟩; rfl) (by rintro ds r ⟨ts,W,_,_,_,_,rfl⟩; exact ⟨_,rfl⟩) λc hq ds sl hF=>?_
 obtain ⟨ts,W,hW,hl,hb,rfl,e⟩:=hF
 injection e with e
 subst e
 show aI c _ [.va (Lk ((aP ts).map (gw (2 ^ W)))),.va (.int (W:Nat))] _ _
 conv in (ay _)=>whnf
 refine au (dw (dJ hq (N':=["key","total","width"]) (ρ0:=λ_=>[.un,.va (Lk ((aP ts).map (gw (2 ^ W)))),.va (.int (W:Nat))]) (λt=>.un (.fr (by walk_at "at") (by walk_at "at") (by decide) rfl (.fr (by walk_at "at") (by walk_at "at") (by decide) rfl .nil))) (cj (e_x (tU (Txt.sorted T) ?_)))))
 walk_at "ev"
 have hk:=dZ ts
 have hg:=oY hb
 have nd:(((aP ts).map (gw (2 ^ W))).map (·.1)).Nodup:=by
  rw [Qi]
  unfold Um at hk |-
  rw [RV] at hk |-
  exact Vy.imp_of_mem (λ{x y} hx hy q z=>q (tX (two_pos W) (hg x hx).1 (hg y hy).1 (hg x hx).2 (hg y hy).2 z)) hk
 refine ⟨((aP ts).map (gw (2 ^ W))).map (·.1),_,by rw [<- CP]; rfl,nd,λL' hp hs=>?_⟩
 have eL:=BR (two_pos W) hb hp (uB hs)
 subst eL
 have hle:=gS ts
 have hpl:=(bB (aP ts)).length_eq
 refine bQ (AX rfl ⟨pS (by simp only [P0]; lia),(fJ (aP ts)).map FW,by simp,?_,?_⟩)
 ·intro c' hc t i d o hd ho
  simp only [P6,Qc] at hd ho
  obtain ⟨n,⟨x,hx,rfl⟩,rfl⟩:=hd
  obtain ⟨x',hx',rfl⟩:=ho
  rw [hx] at hx'; cases hx'
  have hm:x∈aP ts:=(bB (aP ts)).subset (QI hx)
  have hv:bD (cR ((aP ts).map (gw (2 ^ W)))) (.inl (pk (2 ^ W) x.1))=some (.int x.2):=by
   rw [jd,tY (two_pos W) hg (hg x hm).1 (hg x hm).2,oZ hk hm]; rfl
  refine cE (by walk_at "at") (jO (by walk_at "sset") ⟨.un (.same (.same .nil)),?_⟩)
  simp only [jX]
  have h0:=(MK (two_pos W) (hg x hm).1).1
  walk_at "ev"
  refine ⟨_,_,_,rfl,rfl,hv,?_⟩
  walk_at "ev"
  ·unfold FW; rw [if_neg λh=>h (by assumption)]
  refine az (Kl hW h0) ?_
  rw [JO (two_pos W) (hg x hm).1,(hg x hm).2]
  walk_at "ev"
  refine ⟨_,_,_,rfl,rfl,hv,?_⟩
  walk_at "ev"
  unfold FW
  rw [if_pos (by assumption)]
 ·show Sl.ow _=Sl.ow _
  rw [kB,BD (keys_nodup hk)]
  rfl
end
structure Pg (A B:List aN):Prop where
 la:A.length<=20000
 lb:B.length<=20000
 lp:A.length * B.length<=20000
 pa:∀ t∈A,t.1.length<=6/\∀ x∈t.1,0<=x/\x<=500
 pb:∀ t∈B,t.1.length<=6/\∀ x∈t.1,0<=x/\x<=500
 mu:∀ l∈A,∀ r∈B,EV.MulOk l.2 r.2
theorem wO:∀ {L:List aN} (a:Int),a<=m->(∀ t∈L,bZ t.1 k<=m)->L.foldl (λa t=>if bZ t.1 k>a then bZ t.1 k else a) a<=m
 | [],_,h,_=>h
 | t::L,a,h,q=>by
  rw [Rp]
  have:=q t P4
  exact wO _ (by split <;> lia) λu hu=>q u (P9 _ hu)
theorem CQ (h0:0<=m) (h:∀ t∈L,∀ x∈t.1,x<=m):DK (eE L)<=m:=by
 refine uA h0 λn hn=>?_
 unfold eE at hn
 obtain ⟨k,_,rfl⟩:=Qe.mp hn
 refine wO 0 h0 λt ht=>?_
 by_cases z:k<t.1.length
 ·rw [dN z]; exact h t ht _ (Qy _)
 ·rw [c6 (by lia)]; exact h0
theorem CS (ht:t∈L) (hl:t.1.length<=6) (hx:x∈t.1):x<=DK (eE L):=by
 obtain ⟨k,hk,rfl⟩:=List.getElem_of_mem hx
 refine QA ?_ (CN (show gk L k∈eE L from Qe.mpr ⟨k,by simp; lia,rfl⟩))
 unfold gk
 rw [<- dN hk]
 suffices H:∀ a:Int,bZ t.1 k<=L.foldl (λa t=>if bZ t.1 k>a then bZ t.1 k else a) a from H 0
 induction L with
 | nil=>cases ht
 | cons u L ih =>
  intro a
  rw [Rp]
  rcases P8.mp ht with rfl | ht
  ·refine QA ?_ (wL L k _)
   split <;> lia
  ·exact ih ht _
theorem F7 (h:0<=x):x<2 ^ Rj x:=by
 unfold Rj
 by_cases z:x=0
 ·subst z; decide
 ·have e:(x == 0)=false:=by simpa using z
  rw [e,if_neg P5,gW]
  have:=Nat.lt_log2_self (n:=x.natAbs)
  lia
theorem bits_le (h:x.natAbs<1024):Rj x<=10:=by
 unfold Rj
 by_cases z:x=0
 ·subst z; decide
 ·have e:(x == 0)=false:=by simpa using z
  rw [e,if_neg P5]
  have:=(Nat.log2_lt (n:=x.natAbs) (k:=10) (by lia)).mpr h
  lia
end
section
variable {P:Program} {w:World} {K:PN} {mg:Str->Option Value} {base:Heap}
noncomputable abbrev Part:=Int×List (List aN)
noncomputable def af (A:List aN):D:=.lst (A.map aO)
noncomputable def gF (p:Part):D:=.tup (.int p.1::p.2.map af)
noncomputable def c9 (n:Int) (As:List (List aN)):List aN:=As.foldl aR (cT n)
noncomputable def fX (ps:List Part):List aN:=ps.flatMap λp=>c9 p.1 p.2
noncomputable def bx (As:List (List aN)):Nat:=(As.map λA=>max A.length 1).foldr (· * ·) 1
noncomputable def l6 (A:List aN):Int:=DK (eE A)
noncomputable def uC (As:List (List aN)):MP:=(As.map mp).foldr (· * ·) 1
theorem CT (As):∀ L:List aN,mp (As.foldl aR L)=mp L * uC As:=by
 induction As with
 | nil=>intro L; show mp L=mp L * 1; grind
 | cons A As ih =>
  intro L
  rw [Rp,ih,ue]
  show _=mp L * (mp A * uC As)
  grind
theorem fV (n) (As):mp (c9 n As)=(n:MP) * uC As:=by unfold c9; rw [CT,o9]
theorem CU (h:As.Perm Bs):uC As=uC Bs:=by
 induction h with
 | nil=>rfl
 | cons x _ ih=>exact congrArg (mp x * ·) ih
 | swap x y l=>show mp y * (mp x * uC l)=mp x * (mp y * uC l); grind
 | trans _ _ a b=>rw [a,b]
theorem CV (As) (A):uC (As++[A])=uC As * mp A:=by
 induction As with
 | nil=>show mp A * 1=1 * mp A; grind
 | cons B As ih=>show mp B * uC (As++[A])=mp B * uC As * mp A; rw [ih]; grind
theorem y9 (h:As.Perm Bs):bx As=bx Bs:=by
 unfold bx
 induction h with
 | nil=>rfl
 | cons x _ ih=>simp only [PZ,T8] at ih |-; rw [ih]
 | swap x y l=>simp only [PZ,T8]; rw [Nat.mul_left_comm]
 | trans _ _ a b=>rw [a,b]
theorem za (As) (A):bx (As++[A])=bx As * max A.length 1:=by
 unfold bx
 induction As with
 | nil=>simp
 | cons B As ih=>simp only [Rz,PZ,T8] at ih |-; rw [ih,Nat.mul_assoc]
theorem CW (As):1<=bx As:=by
 unfold bx
 induction As with
 | nil=>exact PU _
 | cons B As ih=>simp only [PZ,T8]; exact SJ (m₁:=1) (n₁:=1) (by lia) ih
theorem gX (As) (i):bx (As.take i)<=bx As:=by
 induction As generalizing i with
 | nil=>simp
 | cons B As ih =>
  cases i with
  | zero=>exact CW _
  | succ i =>
   have:=ih i
   unfold bx at *
   simp only [List.take_succ_cons,PZ,T8]
   exact Nat.mul_le_mul_left _ this
def Ex (m:Int) (L:List aN):Prop:=∀ t∈L,t.1.length<=6/\∀ x∈t.1,0<=x/\x<=m
def Bn (m:Nat) (L:List aN):Prop:=∀ t∈L,t.2.natAbs<2 ^ m
theorem Ex.bd (h:Ex m L) (hm:m<2 ^ W):∀ t∈L,Bd (2 ^ W) t.1:=λt ht=>⟨(h t ht).1,λx hx=>⟨((h t ht).2 x hx).1,UT ((h t ht).2 x hx).2 hm⟩⟩
theorem CY (h0:0<=m) (h:∀ x∈p,0<=x/\x<=m) (k):0<=bZ p k/\bZ p k<=m:=by
 by_cases z:k<p.length
 ·rw [dN z]; exact h _ (Qy _)
 ·rw [c6 (by lia)]; lia
theorem F8 (h0:0<=m) (g0:0<=n) (hp:p.length<=6/\∀ x∈p,0<=x/\x<=m) (hq:q.length<=6/\∀ x∈q,0<=x/\x<=n):(cF p q).length<=6/\∀ x∈cF p q,0<=x/\x<=m+n:=by
 refine ⟨by rw [je]; lia,λx hx=>?_⟩
 unfold cF at hx
 obtain ⟨k,_,rfl⟩:=Qe.mp hx
 have:=CY h0 hp.2 k
 have:=CY g0 hq.2 k
 lia
theorem Ex.prod (h0:0<=m) (g0:0<=n) (h:Ex m A) (g:Ex n B):Ex (m+n) (aR A B):=λt ht=>by
 obtain ⟨l,hl,r,hr,rfl⟩:=gx ht
 exact F8 h0 g0 (h l hl) (g r hr)
theorem Ex.sum (h:Ex m L):Ex m (aP L):=by
 unfold aP
 suffices H:∀ (ts A:List aN),Ex m A->Ex m ts->Ex m (ts.foldl fH A) from H L [] (λt ht=>by cases ht) h
 intro ts
 induction ts with
 | nil=>exact λA hA _=>hA
 | cons u ts ih =>
  refine λA hA hts=>ih _ (λt ht=>?_) λt ht=>hts t (P9 _ ht)
  rcases rJ ht with rfl | q
  ·have:=hts u P4
   exact ⟨P7 (gu _) this.1,λx hx=>this.2 x (rD hx)⟩
  ·exact hA t q
theorem Ex.mono (h:Ex m L) (hn:m<=n):Ex n L:=λt ht=>⟨(h t ht).1,λx hx=>⟨((h t ht).2 x hx).1,QA ((h t ht).2 x hx).2 hn⟩⟩
theorem Ex.app (h:Ex m A) (g:Ex m B):Ex m (A++B):=λt ht=>(Qq.mp ht).elim (h t) (g t)
theorem Bn.mono (h:Bn m L) (hn:m<=n):Bn n L:=λt ht=>QJ (h t ht) (Th (by decide) hn)
theorem Bn.prod (h:Bn m A) (g:Bn n B):Bn (m+n) (aR A B):=λt ht=>by
 obtain ⟨l,hl,r,hr,rfl⟩:=gx ht
 show (l.2 * r.2).natAbs<_
 rw [Int.natAbs_mul,Nat.pow_add]
 exact Nat.mul_lt_mul'' (h l hl) (g r hr)
theorem Bn.sum (h:Bn m L) (hl:L.length<2 ^ 16):Bn (m+16) (aP L):=λt ht=>by
 have:=JV (m:=2 ^ m) (λt ht=>Sg (h t ht)) t ht
 refine RN this ?_
 rw [Nat.pow_add,Uh]
 exact Nat.mul_lt_mul_of_pos_left hl (Nat.two_pow_pos m)
theorem wQ (h:a.natAbs<2 ^ m):Rj a<=m+1:=by
 unfold Rj
 by_cases z:a=0
 ·subst z; simp
 ·have e:(a == 0)=false:=by simpa using z
  rw [e,if_neg P5]
  have:=(Nat.log2_lt (n:=a.natAbs) (k:=m) (by lia)).mpr h
  lia
theorem pK (h:a.natAbs<2 ^ m) (g:b.natAbs<2 ^ n) (hm:m+n<=1000000):EV.MulOk a b:=by
 have h1:=wQ h
 have h2:=wQ g
 unfold EV.MulOk IntMulOk Builtin.Int.intTooBig bitsLine
 have e:decide (((Rj a+Rj b:Nat):Int)>((2 ^ 27:Nat):Int))=false:=by
  apply decide_eq_false
  rw [show (2:Nat) ^ 27=134217728 by decide]
  lia
 simp only [SD]
 rintro ⟨_,z⟩
 have z':=of_decide_eq_true z
 rw [show (2:Nat) ^ 27=134217728 by decide] at z'
 lia
structure bY (A:List aN):Prop where
 l:A.length<=20000
 e:Ex 120 A
 b:Bn 2000 A
structure dP (p:Part):Prop where
 n:p.1.natAbs<2 ^ 2000
 m:p.2.length<=8
 f:∀ A∈p.2,bY A
structure aB (ps:List Part):Prop where
 p:∀ p∈ps,dP p
 l:ps.length<=1000
 s:(ps.map λp=>bx p.2).sum<=20000
theorem CZ (A):0<=l6 A:=Hu _
theorem bY.mx (h:bY A):l6 A<=120:=CQ (by decide) λt ht x hx=>((h.e t ht).2 x hx).2
theorem bY.ex (h:bY A):Ex (l6 A) A:=λt ht=>⟨(h.e t ht).1,λx hx=>⟨((h.e t ht).2 x hx).1,CS ht (h.e t ht).1 hx⟩⟩
noncomputable def pV (p:Part):Int:=(p.2.map l6).sum
theorem wR (As:List (List aN)):0<=(As.map l6).sum:=by
 induction As with
 | nil=>exact Rm _
 | cons A As ih=>rw [PZ,R0]; have:=CZ A; lia
theorem dP.sz (h:dP p):pV p<=960:=by
 have:∀ As:List (List aN),(∀ A∈As,bY A)->(As.map l6).sum<=120 * As.length:=λAs=>by
  induction As with
  | nil=>exact λ_=>by simp
  | cons A As ih =>
   intro hA
   have:=ih λB hB=>hA B (P9 _ hB)
   have:=(hA A P4).mx
   rw [PZ,R0,Qz]; lia
 have h1:=this p.2 h.f
 have h2:=h.m
 unfold pV
 lia
noncomputable def gG (ps:List Part):Int:=ps.foldl (λm p=>if pV p>m then pV p else m) 0
theorem nP (ps:List Part):∀ m:Int,m<=ps.foldl (λm p=>if pV p>m then pV p else m) m:=by
 induction ps with
 | nil=>exact λm=>Rm _
 | cons p ps ih=>intro m; rw [Rp]; refine QA ?_ (ih _); split <;> lia
theorem F9 (h:p∈ps):pV p<=gG ps:=by
 unfold gG
 suffices H:∀ m:Int,pV p<=ps.foldl (λm p=>if pV p>m then pV p else m) m from H 0
 induction ps with
 | nil=>cases h
 | cons q ps ih =>
  intro m
  rw [Rp]
  rcases P8.mp h with rfl | h
  ·refine QA ?_ (nP ps _)
   split <;> lia
  ·exact ih h _
theorem Ga (h:∀ p∈ps,dP p):gG ps<=960:=by
 unfold gG
 suffices H:∀ m:Int,m<=960->ps.foldl (λm p=>if pV p>m then pV p else m) m<=960 from H 0 (by decide)
 induction ps with
 | nil=>exact λm hm=>hm
 | cons q ps ih =>
  intro m hm
  rw [Rp]
  refine ih (λp hp=>h p (P9 _ hp)) _ ?_
  have:=(h q P4).sz
  split <;> lia
noncomputable def C0 (ps:List Part):Nat:=Rj (gG ps)
theorem Gb (h:∀ p∈ps,dP p):C0 ps<=10/\∀ p∈ps,pV p<2 ^ C0 ps:=by
 have h0:0<=gG ps:=nP ps 0
 have h1:=Ga h
 exact ⟨bits_le (by lia),λp hp=>UT (F9 hp) (F7 h0)⟩
theorem jh (x:α) (xs):EV.cutD (x::xs) (some 1) none=xs:=by
 unfold EV.cutD HT.cg; simp
noncomputable def Ge:Fn:=λds r=>∃ ps:List Part,(∀ p∈ps,dP p)/\ds=[.lst (ps.map gF)]/\r=.ok (.va (.int (C0 ps:Nat)))
theorem MZ (h:∀ p∈ps,dP p):Ge [.lst (ps.map gF)] (.ok (.va (.int (C0 ps:Nat)))):=⟨ps,h,rfl,rfl⟩
section
local macro_rules | `(tactic| walk_at "evMt")=> `(tactic| with_reducible refine JF ?_)
local macro_rules | `(tactic| walk_at "evCa")=> `(tactic| first
 | ((with_reducible show aJ _ (QN (Qh "max" _) [_] _ _) _ _); with_reducible refine JH (Txt.max (by assumption)) ?_)
 | ((with_reducible show aJ _ (QN (Qh "max" _) [_,_] _ _) _ _); with_reducible refine BG (Txt.max (by assumption)) ?_)
 | ((with_reducible show aJ _ (QN (Qh "sum" _) _ _ _) _ _); with_reducible refine JI (Txt.sum (by assumption)) ?_)
 | with_reducible refine bL (F:=pJ) (by assumption) (by decide) ?_)
theorem Kq (Fu:eS K "width_of" "width_of" (top 10) f fd) (T:Txt K mg) (h1:eG P w K mg base 1 "greatest_powers" pJ):bu P w K mg base (di P w) 2 f fd ["parts"] (eX K Ge):=by
 refine cG Fu rX (by rintro ds r ⟨ps,_,rfl,_⟩; rfl) (by rintro ds r ⟨ps,_,_,rfl⟩; exact ⟨_,rfl⟩) λc hq ds sl hF=>?_
 obtain ⟨ps,hp,rfl,e⟩:=hF
 injection e with e
 subst e
 show aI c _ [.va (.lst (ps.map gF)),.un,.un] _ _
 conv in (ay _)=>whnf
 walk_at "ev"
 with_reducible refine cO hq (cj ?_)
 walk_at "ev"
 refine ⟨λi ρ'=>∃ s2:Sl,ρ'=[.va (.lst (ps.map gF)),.va (.int (gG (ps.take i))),s2],⟨_,rfl⟩,?_,?_⟩
 ·rintro c' l7 xr xu i d ρ' hd ⟨s2,rfl⟩
  simp only [P6,Qc] at hd
  obtain ⟨p,hpx,rfl⟩:=hd
  obtain ⟨hi,rfl⟩:=Qa.mp hpx
  have hpo:=hp ps[i] (Qy hi)
  have eg:gG (ps.take (i+1))=if pV ps[i]>gG (ps.take i) then pV ps[i] else gG (ps.take i):=by
   unfold gG; rw [Q4 hi,Wb]; rfl
  generalize ps[i]=p at hpo eg |-
  show mj c' _ (.tup (.int p.1::p.2.map af)) _ _
  walk_at "ev"
  refine e_x (dJ (show c'.X.xe=f6 by rw [l7]; exact hq) (N':=["some"]) (ρ0:=λ_=>[.un]) (λt=>.un .nil) (cj ?_))
  walk_at "ev"
  ·rw [jh,P0]; exact pS (by have:=hpo.m; lia)
  rw [jh]
  refine ⟨p.2.map λA=>some (.int (l6 A)),by simp,?_,bQ ?_⟩
  ·intro c2 hc2 t j d o hd ho
   simp only [P6,Qc] at hd ho
   obtain ⟨A,hA,rfl⟩:=hd
   obtain ⟨A',hA',rfl⟩:=ho
   rw [hA] at hA'; cases hA'
   have hf:=hpo.f A (QI hA)
   refine cE (by walk_at "at") (jO (by walk_at "sset") ⟨.un .nil,?_⟩)
   simp only [jX]
   refine ⟨λ_=>?_,λh=>by cases h⟩
   show aJ c2 _ [.va (.lst (A.map aO))] _
   walk_at "ev"
   refine az (F2 λt ht=>(hf.e t ht).1) (bQ ⟨eE A,by simp [eE],rfl,λm ⟨m1,m2⟩=>?_⟩)
   rw [CO m1 m2]; rfl
  ·rw [cI]
   refine ⟨p.2.map l6,by rw [Qi]; rfl,?_⟩
   walk_at "ev"
   refine ⟨.va (gF p),?_⟩
   rw [eg]; rfl
 ·rintro ρ' ⟨s2,rfl⟩
  rw [P0,QW]
  walk_at "ev"
  rfl
end
end
section
variable {P:Program} {w:World} {K:PN} {mg:Str->Option Value} {base:Heap}
theorem Gg (x:α) (xs):jM (x::xs) 0=some x:=by rw [gP (by decide) (by simp)]; rfl
theorem Kr (b):pk b []=0:=(jb (g:=λ_=>0) λi _=>c6 (Qv _)).trans (jc _)
theorem Hw (b n):(cT n).map (sd b)=[.tup [.int 0,.int n]]:=by show [D.tup [.int (pk b []),.int n]]=_; rw [Kr]
theorem C1 (xs:List α):EV.cutD xs none (some (-1))=xs.dropLast:=by
 unfold EV.cutD HT.cg
 rw [List.dropLast_eq_take]
 simp only [T9]
 congr 1
 split <;> lia
theorem Gh (xs) (x:α):jM (xs++[x]) (-1)=some x:=by
 rw [vG (by decide) (by simp; lia),show (-1+((xs++[x]).length:Int)).toNat=xs.length by simp; lia]
 simp
noncomputable def NO (b:Int) (A:List aN):D:=.lst (A.map (sd b))
theorem C9 {α β:Type} {f:α->β} {L:List α} {M:List β} (h:M.Perm (L.map f)):∃ L':List α,L'.Perm L/\M=L'.map f:=by
 have p:∀ L:List α,Paired (λa b=>b=f a) L (L.map f):=λL=>by
  induction L with
  | nil=>exact .nil
  | cons x L ih=>exact .cons rfl ih
 obtain ⟨L',h1,h2⟩:=SR.gq h (p L)
 refine ⟨L',h1,?_⟩
 clear h1 h p
 induction h2 with
 | nil=>rfl
 | cons r _ ih=>rw [r,ih]; rfl
theorem zb (C):(Lk C).pairs=some (C.map λc=>D.tup [.int c.1,.int c.2]):=by
 show some _=some _
 congr 1
 unfold cR
 rw [Qi,Qi,List.zipWith_map,List.zipWith_self]
 rfl
theorem zc (b) (L:List aN):(Lk (L.map (gw b))).pairs=some (L.map (sd b)):=by
 rw [zb,Qi]; rfl
theorem Ks (b) (L:List aN):D.kh (L.map (sd b)):=cJ λx _=>tH (by unfold D.kh; exact ⟨kZ,by unfold D.kh; exact ⟨kZ,by unfold D.kh; trivial⟩⟩)
structure Way (n:Int) (As:List (List aN)) (L:List aN):Prop where
 m:mp L=(n:MP) * uC As
 l:L.length<=bx As
 e:Ex (As.map l6).sum L
 b:Bn (2000+2016 * As.length) L
theorem wU {n:Int} (h:n.natAbs<2 ^ 2000):Way n [] (cT n) where
 m:=by rw [o9]; show _=_ * (1:MP); grind
 l:=PU _
 e:=λt ht=>by
  have:t=([],n):=by simpa [cT] using ht
  subst this
  exact ⟨Qv _,λx hx=>by cases hx⟩
 b:=λt ht=>by
  have:t=([],n):=by simpa [cT] using ht
  subst this
  exact h
theorem uD:bY (cT 1) where
 l:=by show (1:Nat)<=_; lia
 e:=λt ht=>by
  have:t=([],1):=by simpa [cT] using ht
  subst this
  exact ⟨Qv _,λx hx=>by cases hx⟩
 b:=λt ht=>by
  have:t=([],1):=by simpa [cT] using ht
  subst this
  exact Nat.one_lt_two_pow (by decide)
theorem zd (As) (A):((As++[A]).map l6).sum=(As.map l6).sum+l6 A:=by
 rw [Qs,SH]; simp
theorem gH (h:Way n As L) (f:bY A):mp (aR L A)=(n:MP) * uC (As++[A])/\(aR L A).length<=bx (As++[A])/\Ex ((As++[A]).map l6).sum (aR L A)/\Bn (2000+2016 * As.length+2000) (aR L A):=by
 refine ⟨?_,?_,?_,h.b.prod f.b⟩
 ·rw [ue,h.m,CV]; grind
 ·rw [c7,za]; exact SJ h.l (by lia)
 ·rw [zd]; exact Ex.prod (wR _) (CZ _) h.e f.ex
theorem Dc (h:Way n As L) (f:bY A) (hl:bx (As++[A])<=20000):Way n (As++[A]) (aP (aR L A)):=by
 obtain ⟨h1,h2,h3,h4⟩:=gH h f
 refine ⟨by rw [J3,h1],P7 (gS _) h2,h3.sum,(h4.sum (RN (P7 h2 hl) (by decide))).mono ?_⟩
 rw [QE,UL]; lia
theorem Dd {As Bs:List (List aN)} (h:As.Perm Bs):(As.map l6).sum=(Bs.map l6).sum:=by
 induction h with
 | nil=>rfl
 | cons x _ ih=>rw [PZ,R0,PZ,R0,ih]
 | swap x y l=>simp only [PZ,R0]; lia
 | trans _ _ a b=>rw [a,b]
theorem De (As:List (List aN)) (i):((As.take i).map l6).sum<=(As.map l6).sum:=by
 have e:(As.map l6).sum=((As.take i).map l6).sum+((As.drop i).map l6).sum:=by rw [<- SH,<- Qs,RE]
 have:=wR (As.drop i)
 lia
noncomputable def uE:NH:=λkvs ds Z=>∃ (ts:List aN) (p:Part) (W:Nat),W<=10/\dP p/\pV p<2 ^ W/\ts.length+bx p.2<=20000/\(∀ t∈ts,Bd (2 ^ W) t.1)/\kvs=cR ((aP ts).map (gw (2 ^ W)))/\ds=[gF p,.int (W:Nat)] /\
 Z=λkvs'=>∃ X,mp X=mp (c9 p.1 p.2)/\X.length<=bx p.2/\(∀ t∈X,Bd (2 ^ W) t.1)/\kvs'=cR ((aP (ts++X)).map (gw (2 ^ W)))
section
local macro_rules | `(tactic| walk_at "evX")=> `(tactic| first | ((with_reducible show cN _ (Expr.Dict _ _ _) _ _); with_reducible refine vq ?_))
local macro_rules | `(tactic| walk_at "evXC")=> `(tactic| first
 | ((with_reducible show cN _ (QN (Qh "sorted" _) _ _ _) _ _); with_reducible refine yD (Txt.sorted (by assumption)) (Txt.len (by assumption)) ?_)
 | ((with_reducible show cN _ (QN (Qh "list" _) [QN _ _ _ _] _ _) _ _); refine tL 6 (by walk_at "at") rfl (by walk_at "sset") (rM (Txt.list (by assumption)) ?_)))
local macro_rules | `(tactic| walk_at "evXp")=> `(tactic| with_reducible refine v7 (F:=Kn) (by assumption) (by decide) (by walk_at "at") (by walk_at "at") (by walk_at "own") ?_)
theorem Df (Fu:eS K "add_part" "add_part" (top 11) f fd) (T:Txt K mg) (h1:eG P w K mg base 2 "packed" wN) (h2:Fe P w K mg base 1 "add_products" Kn):bu P w K mg base (di P w) 3 f fd ["whole","part","width"] (JE K uE):=by
 refine ME Fu rY (by rintro kvs ds Z ⟨ts,p,W,_,_,_,_,_,_,rfl,_⟩; rfl) λc hq q kvs ds Z hF=>?_
 obtain ⟨ts,p,W,hW,hp,hsz,hl,hb,rfl,rfl,rfl⟩:=hF
 show aI c _ [.aK q (cR ((aP ts).map (gw (2 ^ W)))),.va (.tup (.int p.1::p.2.map af)),.va (.int (W:Nat)),.un,.un,.un,.un] _ _
 conv in (ay _)=>whnf
 walk_at "ev"
 refine e_x (dJ hq (N':=["some","width"]) (ρ0:=λ_=>[.un,.va (.int (W:Nat))]) (λt=>.un (.fr (by walk_at "at") (by walk_at "at") (by decide) rfl .nil)) (cj ?_))
 walk_at "ev"
 ·rw [jh,P0]; exact pS (by have:=hp.m; lia)
 rw [jh]
 refine ⟨p.2.map λA=>some (NO (2 ^ W) A),by simp,?_,bQ ?_⟩
 ·intro c2 hc2 t j d o hd ho
  simp only [P6,Qc] at hd ho
  obtain ⟨A,hA,rfl⟩:=hd
  obtain ⟨A',hA',rfl⟩:=ho
  rw [hA] at hA'; cases hA'
  have hm:=QI hA
  have hf:=hp.f A hm
  refine cE (by walk_at "at") (jO (by walk_at "sset") ⟨.un (.same .nil),?_⟩)
  simp only [jX]
  refine ⟨λ_=>?_,λh=>by cases h⟩
  show aJ c2 _ [.va (.lst (A.map aO)),_] _
  refine bL (F:=wN) h1 (by decide) ?_
  walk_at "ev"
  have hx:l6 A<2 ^ W:=by
   refine UT ?_ hsz
   obtain ⟨l,r,e⟩:=List.append_of_mem hm
   unfold pV
   rw [e,Qs,PZ,SH,R0]
   have:=wR l
   have:=wR r
   lia
  exact az (Km hW hf.l (hf.ex.bd hx)) (bQ rfl)
 rw [cI]
 refine ⟨_,rfl,λx hx=>by obtain ⟨A,_,rfl⟩:=Qe.mp hx; exact ⟨_,rfl⟩,λds' hp'=>?_⟩
 obtain ⟨As,hpm,rfl⟩:=C9 hp'
 have zA:∀ A∈As,bY A:=λA hA=>hp.f A (hpm.mem_iff.mp hA)
 have hpl:=y9 hpm
 have hps:=Dd hpm
 have hlen:=hpm.length_eq
 refine jO (by walk_at "sset") ?_
 with_reducible refine dM 3 (by walk_at "at") rfl (by walk_at "sset") ?_
 walk_at "ev"
 refine fu (Gg _ _) ?_
 walk_at "ev"
 with_reducible refine Mr 4 (by walk_at "at") rfl (by walk_at "sset") ?_
 rw [<- Hw (2 ^ W) p.1]
 with_reducible refine cO hq (cj ?_)
 walk_at "ev"
 rw [C1]
 have hcap:∀ i,bx (As.take i)<=20000:=λi=>P7 (gX As i) (by lia)
 have hm8:As.length<=8:=by rw [hlen]; exact hp.m
 have jn:∀ (i:Nat) (L A:List aN),As[i]?=some A->Way p.1 (As.take i) L->bY A/\As.take (i+1)=As.take i++[A]/\mp (aR L A)=(p.1:MP) * uC (As.take (i+1))/\(aR L A).length<=bx (As.take (i+1))/\(∀ l∈L,∀ r∈A,Bd (2 ^ W) (cF l.1 r.1)/\EV.MulOk l.2 r.2)/\L.length<=20000:=λi L A hA hw=>by
  obtain ⟨hi,rfl⟩:=Qa.mp hA
  have hf:=zA As[i] (Qy hi)
  have et:As.take (i+1)=As.take i++[As[i]]:=Q4 hi
  obtain ⟨q1,q2,q3,q4⟩:=gH hw hf
  rw [<- et] at q1 q2 q3
  refine ⟨hf,et,q1,q2,λl hl r hr=>⟨?_,?_⟩,P7 hw.l (hcap i)⟩
  ·have hm:dO l r∈aR L As[i]:=U1.mpr ⟨l,hl,Qe.mpr ⟨r,hr,rfl⟩⟩
   have hx:=De As (i+1)
   exact q3.bd (by unfold pV at hsz; lia) _ hm
  ·refine pK (hw.b l hl) (hf.b r hr) ?_
   rw [Q5]; lia
 refine ⟨λi ρ'=>∃ (L:List aN) (s5 s6:Sl),Way p.1 (As.take i) L/\ρ'=[.aK q (cR ((aP ts).map (gw (2 ^ W)))),.va (.tup (.int p.1::p.2.map af)),.va (.int (W:Nat)),.va (.lst (As.map (NO (2 ^ W)))),.va (.lst (L.map (sd (2 ^ W)))),s5,s6],⟨_,_,_,wU hp.n,rfl⟩,?_,?_⟩
 ·rintro c' l7 xr xu i d ρ' hd ⟨L,s5,s6,hw,rfl⟩
  rw [<- List.map_dropLast] at hd
  simp only [P6,Qc] at hd
  obtain ⟨A,hA,rfl⟩:=hd
  rw [List.getElem?_dropLast] at hA
  replace hA:As[i]?=some A:=by
   split at hA
   ·exact hA
   ·cases hA
  obtain ⟨hf,et,q1,q2,q3,q4⟩:=jn i L A hA hw
  have q5:=hcap (i+1)
  have q6:=Dc hw hf (by rw [<- et]; exact q5)
  rw [<- et] at q6
  show mj c' _ (.lst (A.map (sd (2 ^ W)))) _ _
  walk_at "ev"
  refine ⟨_,⟨[],L,A,W,hW,by rw [c7] at q2; show 0+_<=_; lia,q4,hf.l,(by intro t ht; cases ht),q3,rfl,rfl,rfl⟩,?_⟩
  rintro kvs' rfl
  walk_at "ev"
  refine ⟨_,zc _ _,Ks _ _,?_⟩
  repeat ((fail_if_success (with_reducible show aI _ [] _ _ _)); walk_at "ev1")
  with_reducible refine dM 4 (by walk_at "at") rfl (by walk_at "sset") ?_
  walk_at "ev"
  exact ⟨_,_,_,q6,rfl⟩
 ·rintro ρ' ⟨L,s5,s6,hw,rfl⟩
  rw [List.length_dropLast,P0] at hw
  walk_at "ev"
  ·have hne:As≠[]:=by rintro rfl; simp at *
   obtain ⟨i0,A,e0⟩:∃ i0 A,As=i0++[A]:=⟨As.dropLast,As.getLast hne,(List.dropLast_concat_getLast hne).symm⟩
   have ei:As.length - 1=i0.length:=by rw [e0]; simp
   have hA:As[As.length - 1]?=some A:=by rw [ei,e0]; simp
   have etl:As.take (As.length - 1+1)=As:=R6 (by lia)
   obtain ⟨hf,et,q1,q2,q3,q4⟩:=jn _ L A hA hw
   rw [etl] at q1 q2
   refine vm (show jM (As.map (NO (2 ^ W))) (-1)=some (NO (2 ^ W) A) by rw [e0,Qs]; exact Gh _ _) ?_
   walk_at "ev"
   refine ⟨_,⟨ts,L,A,W,hW,by rw [c7] at q2; lia,q4,hf.l,hb,q3,rfl,rfl,rfl⟩,?_⟩
   rintro kvs' rfl
   walk_at "ev"
   refine ⟨_,_,⟨aR L A,by rw [q1,fV,CU hpm],by rw [<- hpl]; exact q2,λt ht=>?_,rfl⟩,rfl⟩
   obtain ⟨l,hl,r,hr,rfl⟩:=gx ht
   exact (q3 l hl r hr).1
  ·have e0:As=[]:=by
    cases As with
    | nil=>rfl
    | cons A As=>simp at *
   have hw0:Way p.1 [] L:=by rw [e0] at hw; exact hw
   have p0:p.2=[]:=List.length_eq_zero_iff.mp (by rw [<- hlen,e0]; rfl)
   obtain ⟨q1,q2,q3,q4⟩:=gH hw0 uD
   have hL:L.length<=1:=hw0.l
   have q5:(aR L (cT 1)).length<=1:=q2
   have h0W:(0:Int)<2 ^ W:=two_pos W
   have hx:(([]++[cT 1]:List (List aN)).map l6).sum<2 ^ W:=h0W
   have hp1:bx p.2=1:=by rw [p0]; rfl
   rw [<- Hw (2 ^ W) 1]
   refine ⟨_,⟨ts,L,cT 1,W,hW,by rw [c7] at q5; lia,by lia,uD.l,hb,λl hl r hr=>⟨?_,?_⟩,rfl,rfl,rfl⟩,?_⟩
   ·exact q3.bd hx _ (U1.mpr ⟨l,hl,Qe.mpr ⟨r,hr,rfl⟩⟩)
   ·exact pK (hw0.b l hl) (uD.b r hr) (by show 2000+2016 * 0+2000<=_; lia)
   rintro kvs' rfl
   walk_at "ev"
   refine ⟨_,_,⟨aR L (cT 1),?_,by rw [hp1]; exact q5,q3.bd hx,rfl⟩,rfl⟩
   rw [q1,fV,p0]
   show _ * (mp (cT 1) * 1)=_ * (1:MP)
   rw [o9]
   show _ * ((1:MP) * 1)=_ * (1:MP)
   grind
end
end
section
variable {K:PN}
theorem se (ps) (p:Part):mp (fX (ps++[p]))=mp (fX ps)+mp (c9 p.1 p.2):=by
 unfold fX
 rw [List.flatMap_append,o8]
 congr 1
 rw [TY,U3,QX]
theorem sj (l:List Nat) (i):(l.take i).sum<=l.sum:=by
 rw [<- RE i l,SH,RE]; lia
noncomputable def fY:Fn:=λds r=>∃ ps:List Part,aB ps/\ds=[.lst (ps.map gF)]/\r=.ok (.ow ((aZ (fX ps)).map aO))
theorem dh (h:aB ps):fY [.lst (ps.map gF)] (.ok (.ow ((aZ (fX ps)).map aO))):=⟨ps,h,rfl,rfl⟩
section
local macro_rules | `(tactic| walk_at "evX")=> `(tactic| first | ((with_reducible show cN _ (Expr.Dict _ _ _) _ _); with_reducible refine vq ?_))
local macro_rules | `(tactic| walk_at "evCa")=> `(tactic| first | with_reducible refine bL (F:=Ge) (by assumption) (by decide) ?_)
local macro_rules | `(tactic| walk_at "evXp")=> `(tactic| with_reducible refine v7 (F:=uE) (by assumption) (by decide) (by walk_at "at") (by walk_at "at") (by walk_at "own") ?_)
local macro_rules | `(tactic| walk_at "evXC")=> `(tactic| first | ((with_reducible show cN _ (QN (Qh "unpacked" _) _ _ _) _ _); refine tL 2 (by walk_at "at") rfl (by walk_at "sset") (x_call (F:=F6) (by assumption) (by decide) ?_)))
theorem Ku (Fu:eS K "poly_total" "poly_total" (top 12) f fd) (T:Txt K mg) (h1:eG P w K mg base 2 "width_of" Ge) (h2:Fe P w K mg base 3 "add_part" uE) (h3:eG P w K mg base 3 "unpacked" F6):bu P w K mg base (di P w) 4 f fd ["parts"] (eX K fY):=by
 refine cG Fu mF (by rintro ds r ⟨ps,_,rfl,_⟩; rfl) (by rintro ds r ⟨ps,_,_,rfl⟩; exact ⟨_,rfl⟩) λc hq ds sl hF=>?_
 obtain ⟨ps,h,rfl,e⟩:=hF
 injection e with e
 subst e
 show aI c _ [.va (.lst (ps.map gF)),.un,.un,.un] _ _
 conv in (ay _)=>whnf
 obtain ⟨hW,hsz⟩:=Gb h.p
 walk_at "ev"
 refine az (MZ h.p) ?_
 walk_at "ev"
 generalize C0 ps=W at hW hsz |-
 with_reducible refine cO hq (cj ?_)
 walk_at "ev"
 refine ⟨λi ρ'=>∃ (ts:List aN) (s3:Sl),mp ts=mp (fX (ps.take i))/\ts.length<=((ps.take i).map λp=>bx p.2).sum/\(∀ t∈ts,Bd (2 ^ W) t.1)/\ρ'=[.va (.lst (ps.map gF)),.va (.int (W:Nat)),.oK (cR ((aP ts).map (gw (2 ^ W)))),s3],⟨[],_,rfl,PU _,(by intro t ht; cases ht),rfl⟩,?_,?_⟩
 ·rintro c' l7 xr xu i d ρ' hd ⟨ts,s3,hm,hl,hb,rfl⟩
  simp only [P6,Qc] at hd
  obtain ⟨p,hpx,rfl⟩:=hd
  obtain ⟨hi,rfl⟩:=Qa.mp hpx
  have et:ps.take (i+1)=ps.take i++[ps[i]]:=Q4 hi
  have hmem:ps[i]∈ps:=Qy hi
  have hcap:((ps.take (i+1)).map λp=>bx p.2).sum<=20000:=by rw [List.map_take]; exact P7 (sj _ _) h.s
  have ec:((ps.take (i+1)).map λp=>bx p.2).sum=((ps.take i).map λp=>bx p.2).sum+bx ps[i].2:=by rw [et,Qs,SH]; simp
  rw [ec] at hcap
  walk_at "ev"
  refine ⟨_,⟨ts,ps[i],W,hW,h.p _ hmem,hsz _ hmem,by lia,hb,rfl,rfl,rfl⟩,?_⟩
  rintro kvs' ⟨X,x1,x2,x3,rfl⟩
  walk_at "ev"
  refine ⟨ts++X,.va (gF ps[i]),?_,?_,λt ht=>(Qq.mp ht).elim (hb t) (x3 t),rfl⟩
  ·rw [o8,hm,x1,et,se]
  ·rw [ec,QE]; lia
 ·rintro ρ' ⟨ts,s3,hm,hl,hb,rfl⟩
  rw [P0,QW] at hm hl
  walk_at "ev"
  refine az (MY (ts:=ts) hW (by have:=h.s; lia) hb) ⟨cJ λx _=>fT x,?_⟩
  show Sl.ow _=Sl.ow _
  rw [eB hm]
end
end
section
variable {K:PN}
theorem Ex.iG (h:Ex m L):Ex m (aZ L):=λt ht=>Ex.sum h t (rg ht).1
theorem Bn.iG (h:Bn m L) (hl:L.length<2 ^ 16):Bn (m+16) (aZ L):=λt ht=>Bn.sum h hl t (rg ht).1
noncomputable def dI (As:List (List aN)):List aN:=As.foldl (λL A=>aZ (aR L A)) [([],1)]
theorem nQ (As) (A):dI (As++[A])=aZ (aR (dI As) A):=by simp [dI]
theorem Dg (h:Way n As L) (f:bY A) (hl:bx (As++[A])<=20000):Way n (As++[A]) (aZ (aR L A)):=by
 obtain ⟨h1,h2,h3,h4⟩:=gH h f
 refine ⟨by rw [wD,h1],P7 (lP _) h2,h3.iG,(h4.iG (RN (P7 h2 hl) (by decide))).mono ?_⟩
 rw [QE,UL]; lia
theorem fL (hf:∀ A∈As,bY A) (hl:bx As<=20000):∀ i,i<=As.length->Way 1 (As.take i) (dI (As.take i))
 | 0,_=>wU (by decide)
 | i+1,hi=>by
  rw [Q4 hi,nQ]
  refine Dg (fL hf hl i (by lia)) (hf _ (Qy hi)) ?_
  rw [<- Q4 hi]
  exact P7 (gX _ _) hl
noncomputable def Gi:Fn:=λds r=>∃ As:List (List aN),As.length<=8/\(∀ A∈As,bY A)/\bx As<=20000/\ds=[.lst (As.map af)]/\r=.ok (.ow ((dI As).map aO))
theorem M0 (h:As.length<=8) (hf:∀ A∈As,bY A) (hl:bx As<=20000):Gi [.lst (As.map af)] (.ok (.ow ((dI As).map aO))):=⟨As,h,hf,hl,rfl,rfl⟩
theorem ji (n):(qv 0 n).length=n:=by simp [qv]
theorem jI (L) (t):L.map aO++[aO t]=(L++[t]).map aO:=by rw [Qs]; rfl
theorem ze (n):(Qf n [D.int 0]).flatten=(Qf n (0:Int)).map D.int:=by
 induction n with
 | zero=>rfl
 | succ n ih=>rw [RK,Sz,ih,RK]; rfl
theorem Dh (h:k<n) (hp:p.length<=n):jM (p.map D.int++(Qf (n - p.length) [D.int 0]).flatten) (k:Int)=some (.int (bZ p k)):=by
 rw [ze,<- Qs,gP (by lia) (by simp; lia),QV,P6]
 by_cases z:k<p.length
 ·rw [R4 z,Qo z,dN z]; rfl
 ·rw [Tc (by lia),VI,if_pos (by lia),c6 (by lia)]; rfl
theorem wV {p:List Int} {n:Nat}:((n:Int) - ((p.map D.int).length:Int)).toNat=n - p.length:=by rw [P0]; lia
section
local macro_rules | `(tactic| walk_at "evBo")=> `(tactic| first | ((with_reducible show aJ _ (Expr.BinOp (Uo _ _ _) Operator.Mult _ _) _ _); with_reducible refine JN ?_))
local macro_rules | `(tactic| walk_at "evCa")=> `(tactic| first
 | ((with_reducible show aJ _ (QN (Qh "max" _) [_,_] _ _) _ _); with_reducible refine BG (Txt.max (by assumption)) ?_))
theorem Kv (Fu:eS K "_law_product" "_law_product" (top 27) f fd) (T:Txt K mg) (h1:eG P w K mg base 1 "_law_plain" mJ):bu P w K mg base (di P w) 2 f fd ["_law_factors"] (eX K Gi):=by
 refine cG Fu pG (by rintro ds r ⟨As,_,_,_,rfl,_⟩; rfl) (by rintro ds r ⟨As,_,_,_,_,rfl⟩; exact ⟨_,rfl⟩) λc hq ds sl hF=>?_
 obtain ⟨As,h8,hf,hl,rfl,e⟩:=hF
 injection e with e
 subst e
 show aI c _ [.va (.lst (As.map af)),.un,.un,.un,.un,.un,.un,.un,.un,.un,.un] _ _
 conv in (ay _)=>whnf
 walk_at "ev"
 show eU c _ [.va (.lst (As.map af)),.ow ((dI (As.take 0)).map aO),.un,.un,.un,.un,.un,.un,.un,.un,.un] _ _
 with_reducible refine cO hq (cj ?_)
 walk_at "ev"
 refine ⟨λi ρ'=>∃ s2 s3 s4 s5 s6 s7 s8 s9 s10:Sl,ρ'=[.va (.lst (As.map af)),.ow ((dI (As.take i)).map aO),s2,s3,s4,s5,s6,s7,s8,s9,s10],⟨_,_,_,_,_,_,_,_,_,rfl⟩,?_,?_⟩
 ·rintro c' l7 xr xu i d ρ' hd ⟨s2,s3,s4,s5,s6,s7,s8,s9,s10,rfl⟩
  simp only [P6,Qc] at hd
  obtain ⟨B,hBx,rfl⟩:=hd
  obtain ⟨hi,rfl⟩:=Qa.mp hBx
  have hq':c'.X.xe=λ_ _=>False:=by rw [l7]; exact hq
  have hfB:=hf _ (Qy hi)
  have hw:=fL hf hl i (by lia)
  have hp2:bx (As.take i++[As[i]])<=20000:=by
   rw [<- Q4 hi]; exact P7 (gX _ _) hl
  have hlp:(dI (As.take i)).length * As[i].length<=20000:=by
   have:=(gH hw hfB).2.1
   rw [c7] at this; lia
  have eN:dI (As.take (i+1))=aZ (aR (dI (As.take i)) As[i]):=by rw [Q4 hi,nQ]
  have hAl:(dI (As.take i)).length<=20000:=P7 hw.l (P7 (gX _ _) hl)
  have hA6:∀ t∈dI (As.take i),t.1.length<=6:=λt ht=>(hw.e t ht).1
  have hAb:Bn 20000 (dI (As.take i)):=hw.b.mono (by rw [Q5]; lia)
  generalize dI (As.take i)=A at hlp eN hAl hA6 hAb |-
  generalize As[i]=B at hfB hlp eN |-
  clear hw hp2 hBx
  refine cE (by walk_at "at") (jO (by walk_at "sset") ?_)
  refine dM 1 (by walk_at "at") rfl (by walk_at "sset") ?_
  walk_at "ev"
  show eU c' _ [_,_,_,.ow ((aR (A.take 0) B).map aO),_,_,_,_,_,_,_] _ _
  with_reducible refine cO hq' (cj ?_)
  walk_at "ev"
  refine ⟨λi ρ'=>∃ s4 s5 s6 s7 s8 s9 s10:Sl,ρ'=[.va (.lst (As.map af)),.va (.lst (A.map aO)),.va (af B),.ow ((aR (A.take i) B).map aO),s4,s5,s6,s7,s8,s9,s10],⟨_,_,_,_,_,_,_,rfl⟩,?_,?_⟩
  ·rintro c1 hcX1 hcR1 hcM1 i1 d ρ' hd ⟨s4,s5,s6,s7,s8,s9,s10,rfl⟩
   simp only [P6,Qc] at hd
   obtain ⟨l,hlx,rfl⟩:=hd
   obtain ⟨hi1,rfl⟩:=Qa.mp hlx
   have hq1:c1.X.xe=λ_ _=>False:=by rw [hcX1]; exact hq'
   have h6:=hA6 A[i1] (Qy hi1)
   have hlb:=hAb A[i1] (Qy hi1)
   have e0:aR (A.take (i1+1)) B=aR (A.take i1) B++B.map (dO A[i1]):=by
    rw [Q4 hi1,nM]
   have hlen:(aR (A.take i1) B).length+B.length<=20000:=by
    rw [c7,Q5,T6 (by lia),<- Ug]
    exact P7 (Nat.mul_le_mul_right _ (by lia)) hlp
   generalize A[i1]=l at h6 hlb e0 |-
   generalize aR (A.take i1) B=ts at e0 hlen |-
   show mj c1 _ (.tup [.tup (l.1.map .int),.int l.2]) _ _
   walk_at "ev"
   with_reducible refine cO hq1 (cj ?_)
   refine u0 (by walk_at "at") (by walk_at "at") ?_
   refine AX (ds:=B.map aO) rfl ?_
   refine ⟨λj ρ'=>∃ s6 s7 s8 s9 s10:Sl,ρ'=[.va (.lst (As.map af)),.va (.lst (A.map aO)),.va (af B),.ow ((ts++(B.take j).map (dO l)).map aO),.va (.tup (l.1.map .int)),.va (.int l.2),s6,s7,s8,s9,s10],⟨s6,s7,s8,s9,s10,by simp⟩,?_,?_⟩
   ·rintro c2 hcX2 hcR2 hcM2 j d ρ' hd ⟨s6,s7,s8,s9,s10,rfl⟩
    simp only [P6,Qc] at hd
    obtain ⟨r,hrx,rfl⟩:=hd
    obtain ⟨hj,rfl⟩:=Qa.mp hrx
    have h6r:=(hfB.e B[j] (Qy hj)).1
    have hrb:=hfB.b B[j] (Qy hj)
    have hq2:c2.X.xe=λ_ _=>False:=by rw [hcX2]; exact hq1
    have e1:ts++(B.take (j+1)).map (dO l)=(ts++(B.take j).map (dO l))++[dO l B[j]]:=by
     rw [Q4 hj,Qs,Qn]; rfl
    have hlen2:((ts++(B.take j).map (dO l)).map aO).length<sizeLine:=iD (by
     rw [P0,QE,P0,Q5]; lia)
    generalize ts++(B.take j).map (dO l)=us at e1 hlen2 |-
    generalize B[j]=r at h6r hrb e1 |-
    show mj c2 _ (.tup [.tup (r.1.map .int),.int r.2]) _ _
    generalize hG:(λρ'=>aI c2 _ ρ' _ _)=G
    walk_at "ev"
    subst hG
    refine au ?_
    generalize hG:(λρ'=>aI c2 _ ρ' _ _)=G
    walk_at "ev"
    have ew:(if ((r.1.map D.int).length:Int)>((l.1.map D.int).length:Int) then ((r.1.map D.int).length:Int) else ((l.1.map D.int).length:Int))=((max l.1.length r.1.length:Nat):Int):=by simp only [P0]; split <;> lia
    rw [ew]
    have hw6:max l.1.length r.1.length<=6:=by lia
    generalize hwd:max l.1.length r.1.length=wd at hw6 |-
    subst hG
    refine au ?_
    generalize hG:(λρ'=>aI c2 _ ρ' _ _)=G
    walk_at "ev"
    refine ⟨_,_,rfl,rfl,⟨⟨by simp,by rw [P0]; lia,by rw [P0]; lia,by rw [wV]; exact pS (by simp; lia)⟩,?_⟩⟩
    rw [wV]
    walk_at "ev"
    ·exact pS (by simp; lia)
    subst hG
    refine au ?_
    generalize hG:(λρ'=>aI c2 _ ρ' _ _)=G
    walk_at "ev"
    refine ⟨_,_,rfl,rfl,⟨⟨by simp,by rw [P0]; lia,by rw [P0]; lia,by rw [wV]; exact pS (by simp; lia)⟩,?_⟩⟩
    rw [wV]
    walk_at "ev"
    ·exact pS (by simp; lia)
    subst hG
    refine au ?_
    with_reducible refine tw (by walk_at "at") (by walk_at "at") (by walk_at "own") ?_
    refine GQ (cV (kc (Txt.tuple T) (e_x (dJ hq2 (N':=["_law_k","_law_one","_law_two"]) (ρ0:=λ_=>[.un,.va (.tup (l.1.map .int++(Qf (wd - l.1.length) [D.int 0]).flatten)),.va (.tup (r.1.map .int++(Qf (wd - r.1.length) [D.int 0]).flatten))]) (λt=>.un (.fr (by walk_at "at") (by walk_at "at") (by decide) rfl (.fr (by walk_at "at") (by walk_at "at") (by decide) rfl .nil))) (dX (Txt.range T) ?_)))) ?_)
    case refine_2=>intro _; walk_at "u"
    walk_at "ev"
    ·exact ⟨by lia,by lia⟩
    ·rw [ji]; exact pS (by lia)
    refine ⟨(QC wd).map λk=>some (.int (bZ l.1 k+bZ r.1 k)),by simp [ji],?_,?_⟩
    ·intro c3 hc3 t k d o hd ho
     rw [QV] at hd
     obtain ⟨hk,rfl⟩:=fN hd
     rw [P6,Sw hk] at ho
     cases ho
     refine cE (by walk_at "at") (jO (by walk_at "sset") ⟨.un (.same (.same .nil)),?_⟩)
     simp only [jX]
     refine ⟨λ_=>?_,λh=>by cases h⟩
     walk_at "ev"
     refine fu (Dh (p:=l.1) hk (by lia)) ?_
     walk_at "ev"
     refine fu (Dh (p:=r.1) hk (by lia)) ?_
     walk_at "ev"
     rfl
    ·rw [cI (λk=>D.int (bZ l.1 k+bZ r.1 k)),show (QC wd).map (λk=>D.int (bZ l.1 k+bZ r.1 k))=(cF l.1 r.1).map D.int by rw [<- hwd]; unfold cF; rw [Qi]; rfl]
     walk_at "ev"
     ·exact pK hlb hrb (by decide)
     show ∃ s6 s7 s8 s9 s10:Sl,_=[_,_,_,.ow ((ts++(B.take (j+1)).map (dO l)).map aO),_,_,s6,s7,s8,s9,s10]
     rw [e1,<- jI]
     exact ⟨_,_,_,_,_,rfl⟩
   ·rintro ρ' ⟨s6,s7,s8,s9,s10,rfl⟩
    rw [P0,QW,<- e0]
    walk_at "ev"
    exact ⟨_,_,_,_,_,_,_,rfl⟩
  ·rintro ρ' ⟨s4,s5,s6,s7,s8,s9,s10,rfl⟩
   rw [P0,QW]
   refine au (u9 (by walk_at "at") (qE 3 (by walk_at "at") rfl (by walk_at "sset") (x_call (F:=mJ) h1 (by decide) ?_)))
   walk_at "ev"
   refine az (pI (by rw [c7]; exact hlp) λt ht=>?_) ⟨cJ λx _=>fT x,?_⟩
   ·obtain ⟨l,hl,r,hr,rfl⟩:=gx ht
    show (cF l.1 r.1).length<=64
    have:=hA6 l hl
    have:=(hfB.e r hr).1
    rw [je]; lia
   walk_at "ev"
   show ∃ s2 s3 s4 s5 s6 s7 s8 s9 s10:Sl,_=[_,.ow ((dI (As.take (i+1))).map aO),s2,s3,s4,s5,s6,s7,s8,s9,s10]
   rw [eN]
   exact ⟨_,_,_,_,_,_,_,_,_,rfl⟩
 ·rintro ρ' ⟨s2,s3,s4,s5,s6,s7,s8,s9,s10,rfl⟩
  rw [P0,QW]
  walk_at "ev"
  rfl
end
end
section
variable {P:Program} {w:World} {K:PN} {mg:Str->Option Value} {base:Heap}
noncomputable def lY (n:Int) (t:aN):aN:=(t.1,n * t.2)
theorem lX (p):cF [] p=p:=by
 unfold cF
 refine U4 (by simp) λi h1 h2=>?_
 rw [Wj,V2]
 simp [bZ,Qo h2]
theorem Kw (n:Int) (A:List aN):mp (A.map (lY n))=(n:MP) * mp A:=by
 rw [<- o9,<- ue]
 refine congrArg mp ?_
 unfold aR cT
 rw [TY,U3,QX]
 refine RL λt _=>?_
 unfold lY dO
 rw [lX]
noncomputable def su (p:Part):D:=.tup [.int p.1,.lst (p.2.map af)]
noncomputable def fZ (ps:List Part):List aN:=ps.flatMap λp=>(dI p.2).map (lY p.1)
theorem zf (ps) (p:Part):fZ (ps++[p])=fZ ps++(dI p.2).map (lY p.1):=by simp [fZ]
theorem Gj (hf:∀ A∈As,bY A) (hl:bx As<=20000):mp (dI As)=uC As:=by
 have h:=(fL hf hl As.length (PU _)).m
 rw [QW] at h
 rw [h]; grind
theorem Gk {ps:List Part} (hp:p∈ps):bx p.2<=(ps.map λp=>bx p.2).sum:=by
 induction ps with
 | nil=>cases hp
 | cons q ps ih =>
  rw [PZ,R0]
  rcases P8.mp hp with rfl | h
  ·exact RO _ _
  ·exact P7 (ih h) (Nat.le_add_left _ _)
theorem Gm (h:∀ p∈ps,dP p/\bx p.2<=20000):mp (fZ ps)=mp (fX ps):=by
 induction ps with
 | nil=>rfl
 | cons p ps ih =>
  have hp:=h p P4
  have e1:fZ (p::ps)=(dI p.2).map (lY p.1)++fZ ps:=rfl
  have e2:fX (p::ps)=c9 p.1 p.2++fX ps:=rfl
  rw [e1,e2,o8,o8,ih λq hq=>h q (P9 _ hq),Kw,Gj hp.1.f hp.2,fV]
theorem sA (h:∀ p∈ps,dP p/\bx p.2<=20000):(fZ ps).length<=(ps.map λp=>bx p.2).sum:=by
 induction ps with
 | nil=>exact PU _
 | cons p ps ih =>
  have hp:=h p P4
  have e1:fZ (p::ps)=(dI p.2).map (lY p.1)++fZ ps:=rfl
  have hw:=(fL hp.1.f hp.2 p.2.length (PU _)).l
  rw [QW] at hw
  rw [e1,QE,P0,PZ,R0]
  exact Nat.add_le_add hw (ih λq hq=>h q (P9 _ hq))
theorem Kx (hf:∀ A∈As,bY A) (hl:bx As<=20000):∀ t∈dI As,t.1.length<=6:=λt ht=>by
 have h:=(fL hf hl As.length (PU _)).e
 rw [QW] at h
 exact (h t ht).1
theorem Ky (h8:As.length<=8) (hf:∀ A∈As,bY A) (hl:bx As<=20000):Bn 20000 (dI As):=by
 have h:=(fL hf hl As.length (PU _)).b
 rw [QW] at h
 exact h.mono (by lia)
theorem Kz (h:∀ p∈ps,dP p/\bx p.2<=20000):∀ t∈fZ ps,t.1.length<=6:=λt ht=>by
 obtain ⟨p,hp,ht⟩:=U1.mp ht
 obtain ⟨u,hu,rfl⟩:=Qe.mp ht
 exact Kx (h p hp).1.f (h p hp).2 u hu
noncomputable def mK:Fn:=λds r=>∃ ps:List Part,aB ps/\ds=[.lst (ps.map su)]/\r=.ok (.ow ((aZ (fX ps)).map aO))
theorem jj (h:aB ps):mK [.lst (ps.map su)] (.ok (.ow ((aZ (fX ps)).map aO))):=⟨ps,h,rfl,rfl⟩
theorem KA (Fu:eS K "_law_sum" "_law_sum" (top 28) f fd) (T:Txt K mg) (h1:eG P w K mg base 1 "_law_plain" mJ) (h2:eG P w K mg base 2 "_law_product" Gi):bu P w K mg base (di P w) 3 f fd ["_law_parts"] (eX K mK):=by
 refine cG Fu CD (by rintro ds r ⟨As,_,rfl,_⟩; rfl) (by rintro ds r ⟨As,_,_,rfl⟩; exact ⟨_,rfl⟩) λc hq ds sl hF=>?_
 obtain ⟨ps,h,rfl,e⟩:=hF
 injection e with e
 subst e
 have hh:∀ p∈ps,dP p/\bx p.2<=20000:=λp hp=>⟨h.p p hp,P7 (Gk hp) h.s⟩
 show aI c _ [.va (.lst (ps.map su)),.un,.un,.un] _ _
 conv in (ay _)=>whnf
 walk_at "ev"
 show eU c _ [.va (.lst (ps.map su)),.ow ((fZ (ps.take 0)).map aO),.un,.un] _ _
 with_reducible refine cO hq (cj ?_)
 walk_at "ev"
 refine ⟨λi ρ'=>∃ s2 s3:Sl,ρ'=[.va (.lst (ps.map su)),.ow ((fZ (ps.take i)).map aO),s2,s3],⟨_,_,rfl⟩,?_,?_⟩
 ·rintro c' l7 xr xu i d ρ' hd ⟨s2,s3,rfl⟩
  simp only [P6,Qc] at hd
  obtain ⟨p,hpx,rfl⟩:=hd
  obtain ⟨hi,rfl⟩:=Qa.mp hpx
  have hq':c'.X.xe=λ_ _=>False:=by rw [l7]; exact hq
  obtain ⟨hp,hpl⟩:=hh _ (Qy hi)
  have eN:fZ (ps.take (i+1))=fZ (ps.take i)++(dI ps[i].2).map (lY ps[i].1):=by rw [Q4 hi,zf]
  have hln:(fZ (ps.take i)).length+(dI ps[i].2).length<=20000:=by
   have h1:=sA (ps:=ps.take (i+1)) λq hq=>hh q (Su hq)
   rw [eN,QE,P0] at h1
   refine P7 h1 (P7 ?_ h.s)
   rw [<- RE (i+1) ps,Qs,SH,RE]
   exact RO _ _
  generalize fZ (ps.take i)=A at eN hln |-
  generalize ps[i]=p at hp hpl eN hln |-
  show mj c' _ (.tup [.int p.1,.lst (p.2.map af)]) _ _
  generalize hG:(λρ'=>aI c' _ ρ' _ _)=G
  walk_at "ev"
  subst hG
  refine au (u9 (by walk_at "at") (qE 1 (by walk_at "at") rfl (by walk_at "sset") (AI (u0 (by walk_at "at") (by walk_at "at") (e_x (dJ hq' (N':=["_law_powers","_law_count","_law_number"]) (ρ0:=λ_=>[.un,.un,.va (.int p.1)]) (λt=>.un (.un (.fr (by walk_at "at") (by walk_at "at") (by decide) rfl .nil))) (cj (e_x (x_call (F:=Gi) h2 (by decide) ?_)))))))))
  walk_at "ev"
  refine az (M0 hp.m hp.f hpl) (bQ ?_)
  have hb:=Ky hp.m hp.f hpl
  generalize dI p.2=L at eN hln hb |-
  refine AX rfl ⟨pS (by simp only [P0]; lia),L.map λx=>some (aO (lY p.1 x)),by simp,?_,?_⟩
  ·intro c2 hc t i d o hd ho
   simp only [P6,Qc] at hd ho
   obtain ⟨x,hx,rfl⟩:=hd
   obtain ⟨x',hx',rfl⟩:=ho
   rw [hx] at hx'; cases hx'
   have hxb:=hb x (QI hx)
   show mj c2 _ (.tup [.tup (x.1.map .int),.int x.2]) _ _
   walk_at "ev"
   refine ⟨.un (.un (.same .nil)),?_⟩
   simp only [jX]
   refine ⟨λ_=>?_,λh=>by cases h⟩
   walk_at "ev"
   ·exact pK hp.n hxb (by decide)
   rfl
  ·rw [cI (λx=>aO (lY p.1 x)),show L.map (λx=>aO (lY p.1 x))=(L.map (lY p.1)).map aO by rw [Qi]; rfl]
   walk_at "ev"
   ·exact pS (by simp only [P0]; lia)
   ·rw [<- Qs]; exact cJ λx _=>fT x
   show ∃ s2 s3:Sl,_=[_,.ow ((fZ (ps.take (i+1))).map aO),s2,s3]
   rw [eN,Qs]
   exact ⟨_,_,rfl⟩
 ·rintro ρ' ⟨s2,s3,rfl⟩
  rw [P0,QW]
  refine au (dw (qE 1 (by walk_at "at") rfl (by walk_at "sset") (x_call (F:=mJ) h1 (by decide) ?_)))
  walk_at "ev"
  refine az (pI (P7 (sA hh) h.s) λt ht=>P7 (Kz hh t ht) (by decide)) ⟨cJ λx _=>fT x,?_⟩
  show Sl.ow _=Sl.ow _
  rw [show fJ (nz (aP (fZ ps)))=aZ (fX ps) from eB (Gm hh)]
noncomputable def Gn:Fn:=λds r=>∃ (ns:List Int) (k:Nat),ds=[.lst (ns.map .int),.int (k:Int)]/\r=.ok (.va (.int (ns.getD k 0)))
theorem M3 (ns:List Int) (k:Nat):Gn [.lst (ns.map .int),.int (k:Int)] (.ok (.va (.int (ns.getD k 0)))):=⟨ns,k,rfl,rfl⟩
theorem KC {ns:List Int} (h:k<ns.length):jM (ns.map D.int) (k:Int)=some (D.int (ns.getD k 0)):=by
 rw [gP (by lia) (by simp; lia),QV,P6,Qo h,Q9,Qo h]
 rfl
theorem KD (Fu:eS K "_law_cell_at" "_law_cell_at" (top 24) f fd) (T:Txt K mg):bu P w K mg base (di P w) 1 f fd ["_law_script","_law_k"] (eX K Gn):=by
 refine cG Fu pF (by rintro ds r ⟨ns,k,rfl,_⟩; rfl) (by rintro ds r ⟨ns,k,_,rfl⟩; exact ⟨_,rfl⟩) λc hq ds sl hF=>?_
 obtain ⟨ns,k,rfl,e⟩:=hF
 injection e with e
 subst e
 show aI c _ [.va (.lst (ns.map .int)),.va (.int (k:Int))] _ _
 conv in (ay _)=>whnf
 walk_at "ev"
 ·have hk:k<ns.length:=by simp only [P0] at *; lia
  refine vm (KC hk) ?_
  walk_at "ev"
  rfl
 ·have hk:¬ k<ns.length:=by simp only [P0] at *; lia
  show Sl.va _=Sl.va _
  rw [Q9,RG (by lia)]; rfl
noncomputable def M4 (c:Int) (k:Nat):Int:=(c * 48271+(k:Int) * 69621+11) % 2147483629
noncomputable def KG (c:Int) (k:Nat):Int:=M4 c k * M4 c k % 2147483587
noncomputable def j6 (ns:List Int) (k:Nat):Int :=
 if ns.getD k 0>=10 ^ Us 18 then ns.getD k 0 - 10 ^ Us 18 else KG (ns.getD k 0) k * 2147483563+KG (ns.getD k 0) k * KG (ns.getD k 0) k % 2147483563
noncomputable def zg:Fn:=λds r=>∃ (ns:List Int) (k:Nat),ds=[.lst (ns.map .int),.int (k:Int)]/\r=.ok (.va (.int (j6 ns k)))
theorem Di (ns) (k:Nat):zg [.lst (ns.map .int),.int (k:Int)] (.ok (.va (.int (j6 ns k)))):=⟨ns,k,rfl,rfl⟩
theorem M5:sO 10 9:=⟨by decide,by decide,by decide +kernel⟩
theorem Dj:sO 10 18:=⟨by decide,by decide,by decide +kernel⟩
theorem uF (h:b.natAbs<2 ^ 63):EV.MulOk a b:=IntMulOk.of_right (qG h)
section
local macro_rules | `(tactic| walk_at "evR")=> `(tactic| with_reducible refine az (M3 _ _) ?_)
local macro_rules | `(tactic| walk_at "evCa")=> `(tactic| with_reducible refine bL (F:=Gn) (by assumption) (by decide) ?_)
theorem KH (Fu:eS K "_law_digits" "_law_digits" (top 25) f fd) (T:Txt K mg) (h1:eG P w K mg base 1 "_law_cell_at" Gn):bu P w K mg base (di P w) 2 f fd ["_law_script","_law_k"] (eX K zg):=by
 refine cG Fu r6 (by rintro ds r ⟨ns,k,rfl,_⟩; rfl) (by rintro ds r ⟨ns,k,_,rfl⟩; exact ⟨_,rfl⟩) λc hq ds sl hF=>?_
 obtain ⟨ns,k,rfl,e⟩:=hF
 injection e with e
 subst e
 show aI c _ [.va (.lst (ns.map .int)),.va (.int (k:Int)),.un,.un] _ _
 conv in (ay _)=>whnf
 walk_at "ev"
 ·exact Dj
 ·exact Dj
 ·show Sl.va _=Sl.va _
  unfold j6
  rw [if_pos (by assumption)]
 ·exact uF (by decide)
 ·exact uF (by decide)
 ·exact lu (by lia)
 ·exact uF (by decide)
 ·exact lu (by lia)
 ·show Sl.va _=Sl.va _
  unfold j6
  rw [if_neg (by assumption)]
  rfl
end
noncomputable def stN (r:Int):Int:=r / 513 / 16
noncomputable def DL (r:Int):aN:=([r % 3,r / 3 % 3,r / 9 % 3],if r / 513 % 16=15 then (r / 27 % 19 - 9) * (10 ^ Us 9+7) else r / 27 % 19 - 9)
noncomputable def mO:Nat->Int->List aN×Int
 | 0,r=>([],r)
 | i+1,r=>((mO i r).1++[DL (mO i r).2],stN (mO i r).2)
noncomputable def jS (n:Int):List aN:=aZ (mO (n % 4).toNat (n / 4)).1
theorem kC (i) (r):(mO i r).1.length=i:=by
 induction i with
 | zero=>rfl
 | succ i ih=>simp [mO,ih]
noncomputable def nR:Fn:=λds r=>∃ n:Int,ds=[.int n]/\r=.ok (.ow ((jS n).map aO))
theorem Dk (n):nR [.int n] (.ok (.ow ((jS n).map aO))):=⟨n,rfl,rfl⟩
theorem M6 (i) (r):∀ t∈(mO i r).1,t.1.length=3:=by
 induction i with
 | zero=>intro t ht; cases ht
 | succ i ih =>
  intro t ht
  rcases Qq.mp ht with h | h
  ·exact ih t h
  ·rw [Qg.mp h]; rfl
theorem Gp (Fu:eS K "_law_some" "_law_some" (top 29) f fd) (T:Txt K mg) (h1:eG P w K mg base 1 "_law_plain" mJ):bu P w K mg base (di P w) 2 f fd ["_law_number"] (eX K nR):=by
 refine cG Fu yW (by rintro ds r ⟨n,rfl,_⟩; rfl) (by rintro ds r ⟨n,_,rfl⟩; exact ⟨_,rfl⟩) λc hq ds sl hF=>?_
 obtain ⟨n,rfl,e⟩:=hF
 injection e with e
 subst e
 show aI c _ [.va (.int n),.un,.un,.un,.un,.un] _ _
 conv in (ay _)=>whnf
 walk_at "ev"
 show eU c _ [.va (.int (mO 0 (n / 4)).2),.ow ((mO 0 (n / 4)).1.map aO),.va (.int (n % 4)),.un,.un,.un] _ _
 with_reducible refine cO hq (dX (Txt.range (by assumption)) ?_)
 walk_at "ev"
 ·exact ⟨by lia,by lia⟩
 refine ⟨λi ρ'=>∃ s3 s4 s5:Sl,ρ'=[.va (.int (mO i (n / 4)).2),.ow ((mO i (n / 4)).1.map aO),.va (.int (n % 4)),s3,s4,s5],⟨_,_,_,rfl⟩,?_,?_⟩
 ·rintro c' l7 xr xu i d ρ' hd ⟨s3,s4,s5,rfl⟩
  obtain ⟨hi,rfl⟩:=fN hd
  have hl:=kC i (n / 4)
  have eN:mO (i+1) (n / 4)=((mO i (n / 4)).1++[DL (mO i (n / 4)).2],stN (mO i (n / 4)).2):=rfl
  generalize mO i (n / 4)=g at hl eN |-
  obtain ⟨L,r⟩:=g
  have hm:=Int.emod_lt_of_pos (r / 27) (b:=19) (by decide)
  have hm0:=Int.emod_nonneg (r / 27) (b:=19) (by decide)
  have hz:(L.map aO).length<sizeLine:=iD (by rw [P0]; have:L.length=i:=hl; lia)
  walk_at "ev"
  ·exact M5
  ·exact lu (by show ((r / 27 % 19 - 9:Int)).natAbs<_; lia)
  ·show ∃ s3 s4 s5:Sl,_=[.va (.int (mO (i+1) (n / 4)).2),.ow ((mO (i+1) (n / 4)).1.map aO),.va (.int (n % 4)),s3,s4,s5]
   rw [eN,<- jI,show aO (DL r)=.tup [.tup [.int (r % 3),.int (r / 3 % 3),.int (r / 9 % 3)],.int ((r / 27 % 19 - 9) * (10 ^ Us 9+7))] by unfold DL; rw [if_pos (by assumption)]; rfl]
   exact ⟨_,_,_,rfl⟩
  ·show ∃ s3 s4 s5:Sl,_=[.va (.int (mO (i+1) (n / 4)).2),.ow ((mO (i+1) (n / 4)).1.map aO),.va (.int (n % 4)),s3,s4,s5]
   rw [eN,<- jI,show aO (DL r)=.tup [.tup [.int (r % 3),.int (r / 3 % 3),.int (r / 9 % 3)],.int (r / 27 % 19 - 9)] by unfold DL; rw [if_neg (by assumption)]; rfl]
   exact ⟨_,_,_,rfl⟩
 ·rintro ρ' ⟨s3,s4,s5,rfl⟩
  rw [ji]
  refine au (dw (qE 1 (by walk_at "at") rfl (by walk_at "sset") (x_call (F:=mJ) h1 (by decide) ?_)))
  walk_at "ev"
  refine az (pI (by rw [kC]; lia) λt ht=>by rw [M6 _ _ t ht]; decide) ⟨cJ λx _=>fT x,?_⟩
  rfl
end
section
variable {K:PN}
noncomputable def Dl (ns:List Int) (a:Nat) (m:Nat):List (List aN):=(QC m).map λk=>jS (j6 ns (a+k))
noncomputable def Dm:Fn:=λds r=>∃ (ns:List Int) (a m:Nat),m<=100/\a<=1000/\ds=[.lst (ns.map .int),.int (a:Int),.int (m:Int)]/\r=.ok (.va (.tup ((Dl ns a m).map af)))
theorem M7 (ns) {a m:Nat} (h:m<=100) (ha:a<=1000):Dm [.lst (ns.map .int),.int (a:Int),.int (m:Int)] (.ok (.va (.tup ((Dl ns a m).map af)))):=⟨ns,a,m,h,ha,rfl,rfl⟩
theorem KI (Fu:eS K "_law_things" "_law_things" (top 30) f fd) (T:Txt K mg) (h1:eG P w K mg base 2 "_law_digits" zg) (h2:eG P w K mg base 2 "_law_some" nR):bu P w K mg base (di P w) 3 f fd ["_law_script","_law_at","_law_many"] (eX K Dm):=by
 refine cG Fu r8 (by rintro ds r ⟨ns,a,m,_,_,rfl,_⟩; rfl) (by rintro ds r ⟨ns,a,m,_,_,_,rfl⟩; exact ⟨_,rfl⟩) λc hq ds sl hF=>?_
 obtain ⟨ns,a,m,hm,ha,rfl,e⟩:=hF
 injection e with e
 subst e
 show aI c _ [.va (.lst (ns.map .int)),.va (.int (a:Int)),.va (.int (m:Int))] _ _
 conv in (ay _)=>whnf
 refine au (dw (GK (kc (Txt.tuple T) (e_x (dJ hq (N':=["_law_k","_law_script","_law_at"]) (ρ0:=λ_=>[.un,.va (.lst (ns.map .int)),.va (.int (a:Int))]) (λt=>.un (.fr (by walk_at "at") (by walk_at "at") (by decide) rfl (.fr (by walk_at "at") (by walk_at "at") (by decide) rfl .nil))) (dX (Txt.range T) ?_))))))
 walk_at "ev"
 ·exact ⟨by lia,by lia⟩
 ·rw [ji]; exact pS (by lia)
 rw [QV]
 refine ⟨(Dl ns a m).map λA=>some (af A),by simp [ji,Dl],?_,?_⟩
 ·intro c3 hc3 t k d o hd ho
  obtain ⟨hk,rfl⟩:=fN hd
  unfold Dl at ho
  rw [P6,P6,Sw hk] at ho
  cases ho
  refine cE (by walk_at "at") (jO (by walk_at "sset") ⟨.un (.same (.same .nil)),?_⟩)
  simp only [jX]
  refine ⟨λ_=>?_,λh=>by cases h⟩
  refine bL (F:=nR) h2 (by decide) (cV (bL (F:=zg) h1 (by decide) ?_))
  walk_at "ev"
  rw [show (a:Int)+(k:Int)=((a+k:Nat):Int) by lia]
  refine az (Di ns (a+k)) (GU ?_)
  walk_at "ev"
  refine az (Dk _) ?_
  walk_at "ev"
  rfl
 ·rw [cI af]
  walk_at "ev"
  rfl
noncomputable def zh:Fn:=λds r=>∃ As:List (List aN),As.length<=1000/\ds=[.tup (As.map af)]/\r=.ok (.va (.tup (As.map af)))
theorem Hx {As:List (List aN)} (h:As.length<=1000):zh [.tup (As.map af)] (.ok (.va (.tup (As.map af)))):=⟨As,h,rfl,rfl⟩
theorem KJ (Fu:eS K "_law_copied" "_law_copied" (top 31) f fd) (T:Txt K mg):bu P w K mg base (di P w) 1 f fd ["_law_told"] (eX K zh):=by
 refine cG Fu r9 (by rintro ds r ⟨A,_,rfl,_⟩; rfl) (by rintro ds r ⟨A,_,_,rfl⟩; exact ⟨_,rfl⟩) λc hq ds sl hF=>?_
 obtain ⟨As,hl,rfl,e⟩:=hF
 injection e with e
 subst e
 show aI c _ [.va (.tup (As.map af))] _ _
 conv in (ay _)=>whnf
 refine au (dw (GK (kc (Txt.tuple T) (e_x (dJ hq (N':=["_law_some_here"]) (ρ0:=λ_=>[.un]) (λt=>.un .nil) (cj ?_))))))
 walk_at "ev"
 ·exact pS (by rw [P0]; lia)
 refine ⟨As.map λt=>some (af t),by simp,?_,bQ ?_⟩
 ·intro c' hc t i d o hd ho
  simp only [P6,Qc] at hd ho
  obtain ⟨x,hx,rfl⟩:=hd
  obtain ⟨x',hx',rfl⟩:=ho
  rw [hx] at hx'; cases hx'
  refine cE (by walk_at "at") (jO (by walk_at "sset") ⟨.un .nil,?_⟩)
  simp only [jX]
  refine ⟨λ_=>?_,λh=>by cases h⟩
  refine e_x (AF (Txt.list T) ?_)
  walk_at "ev"
  rfl
 ·rw [cI af]
  walk_at "ev"
  rfl
noncomputable def Gq:Fn:=λds r=>∃ L:List aN,(∀ t∈L,t.1.length<=64)/\ds=[.lst (L.map aO)]/\r=.ok (.va (.bl true))
theorem M8 {L:List aN} (h2:∀ t∈L,t.1.length<=64):Gq [.lst (L.map aO)] (.ok (.va (.bl true))):=⟨L,h2,rfl,rfl⟩
theorem KL (Fu:eS K "_law_terms" "_law_terms" (top 32) f fd) (T:Txt K mg):bu P w K mg base (di P w) 1 f fd ["_law_some_here"] (eX K Gq):=by
 refine cG Fu uq (by rintro ds r ⟨n,_,rfl,_⟩; rfl) (by rintro ds r ⟨n,_,_,rfl⟩; exact ⟨_,rfl⟩) λc hq ds sl hF=>?_
 obtain ⟨L,hlen,rfl,e⟩:=hF
 injection e with e
 subst e
 show aI c _ [.va (.lst (L.map aO)),.un,.un] _ _
 conv in (ay _)=>whnf
 walk_at "ev"
 with_reducible refine cO hq (cj ?_)
 walk_at "ev"
 refine ⟨λi ρ'=>∃ s1 s2:Sl,ρ'=[.va (.lst (L.map aO)),s1,s2],⟨_,_,rfl⟩,?_,?_⟩
 ·rintro c' l7 xr xu i d ρ' hd ⟨s1,s2,rfl⟩
  simp only [P6,Qc] at hd
  obtain ⟨t,ht,rfl⟩:=hd
  have hlt:=hlen t (QI ht)
  have hq':c'.X.xe=λ_ _=>False:=by rw [l7]; exact hq
  show mj c' _ (.tup [.tup (t.1.map .int),.int t.2]) _ _
  walk_at "ev"
  case refine_2 h=>exact absurd rfl h
  with_reducible refine cO hq' (cj ?_)
  walk_at "ev"
  ·exact pS (by simp; lia)
  refine ⟨λi ρ'=>∃ s2:Sl,ρ'=[.va (.lst (L.map aO)),.va (aO t),s2],⟨_,rfl⟩,?_,?_⟩
  ·rintro c2 hcX2 hcR2 hcM2 j d ρ' hd ⟨s2,rfl⟩
   rw [show (t.1.map D.int++[D.int t.2])=(t.1++[t.2]).map D.int by simp,P6,Qc] at hd
   obtain ⟨n,_,rfl⟩:=hd
   walk_at "ev"
   exact ⟨_,rfl⟩
  ·rintro ρ' ⟨s2,rfl⟩
   walk_at "ev"
   exact ⟨_,_,rfl⟩
 ·rintro ρ' ⟨s1,s2,rfl⟩
  walk_at "ev"
  rfl
noncomputable def zj:Fn:=λds r=>∃ As:List (List aN),As.length<=1000/\(∀ A∈As,∀ t∈A,t.1.length<=64)/\ds=[.tup (As.map af),.tup (As.map af)]/\r=.ok (.va (.bl true))
theorem Hy {As:List (List aN)} (h:As.length<=1000) (h2:∀ A∈As,∀ t∈A,t.1.length<=64):zj [.tup (As.map af),.tup (As.map af)] (.ok (.va (.bl true))):=⟨As,h,h2,rfl,rfl⟩
section
local macro_rules | `(tactic| walk_at "evCa")=> `(tactic| first | with_reducible refine bL (F:=Gq) (by assumption) (by decide) ?_)
theorem KN (Fu:eS K "_law_same" "_law_same" (top 33) f fd) (T:Txt K mg) (h1:eG P w K mg base 1 "_law_terms" Gq):bu P w K mg base (di P w) 2 f fd ["_law_found","_law_due_here"] (eX K zj):=by
 refine cG Fu yX (by rintro ds r ⟨n,_,_,rfl,_⟩; rfl) (by rintro ds r ⟨n,_,_,_,rfl⟩; exact ⟨_,rfl⟩) λc hq ds sl hF=>?_
 obtain ⟨As,hl,hlen,rfl,e⟩:=hF
 injection e with e
 subst e
 show aI c _ [.va (.tup (As.map af)),.va (.tup (As.map af)),.un] _ _
 conv in (ay _)=>whnf
 walk_at "ev"
 case refine_2 h=>exact absurd rfl h
 with_reducible refine cO hq (dX (Txt.range (by assumption)) ?_)
 walk_at "ev"
 ·exact ⟨by lia,by simp only [P0]; lia⟩
 refine ⟨λi ρ'=>∃ s2:Sl,ρ'=[.va (.tup (As.map af)),.va (.tup (As.map af)),s2],⟨_,rfl⟩,?_,?_⟩
 ·rintro c' l7 xr xu i d ρ' hd ⟨s2,rfl⟩
  obtain ⟨hi,rfl⟩:=fN hd
  rw [P0,QV] at hi
  have hA:=hlen _ (Qy hi)
  have hat:jM (As.map af) (i:Int)=some (af As[i]):=by
   rw [gP (by lia) (by simp; lia),QV,P6,Qo hi]; rfl
  generalize As[i]=A at hA hat
  walk_at "ev"
  refine fu hat ?_
  walk_at "ev"
  refine az (M8 hA) ?_
  walk_at "ev"
  refine fu hat ?_
  walk_at "ev"
  refine fu hat ?_
  walk_at "ev"
  refine lU (yz A A) ?_
  walk_at "ev"
  exact ⟨_,rfl⟩
 ·rintro ρ' ⟨s2,rfl⟩
  walk_at "ev"
  rfl
end
noncomputable def NP:D:=.tup [.tup [.int 1],.int 5]
noncomputable def OX:D:=.tup [.tup [],.int 0]
noncomputable def Dn (x:Addr×List D):Addr×List D:=(x.1,OX::(x.2++[NP]))
noncomputable def M9 (i:Nat) (L:List (Addr×List D)):List (Addr×List D):=(L.take i).map Dn++L.drop i
theorem Dp:∀ L:List (Addr×List D),yF (cK L)=some (L.map λx=>D.adr x.1)
 | []=>rfl
 | x::L=>by
  have:=Dp L
  unfold cK at this |-
  simp only [PZ,yF,Sh.raw,this]
theorem uG (A B):cK (A++B)=cK A++cK B:=by unfold cK; rw [Qs]
theorem Dq (h:i<L.length):cK (M9 i L)=cK ((L.take i).map Dn)++.la L[i].1 L[i].2::cK (L.drop (i+1)):=by
 unfold M9
 rw [uG,VC h]
 rfl
theorem Dr (h:i<L.length):cK ((L.take i).map Dn)++.la L[i].1 (OX::(L[i].2++[NP]))::cK (L.drop (i+1))=cK (M9 (i+1) L):=by
 unfold M9
 rw [uG,Q4 h,Qs,uG,Qn]
 rfl
def wW (s:Sh):Prop:=∃ dss:List (List D),s=.t (dss.map .l)/\dss.length<=1000/\∀ ds∈dss,ds.length<=20000
theorem Ds (Fu:eS K "_law_spoil" "_law_spoil" (top 34) f fd):bu P w K mg base (di P w) 1 f fd ["_law_found"] (G7 K wW):=by
 refine OR Fu uu rfl (by decide) λc hq s hs=>?_
 obtain ⟨dss,rfl,hl,hd'⟩:=hs
 show aI c _ [.fo (.t (dss.map .l)),.un] _ _
 conv in (ay _)=>whnf
 refine au (JZ 0 (by walk_at "at") λL e=>?_)
 subst e
 show eU c _ [.fo (.t (cK L)),.un] _ _
 have hll:L.length<=1000:=by rw [<- P0 (f:=(·.2))]; exact hl
 with_reducible refine cO hq (cj (JY (by walk_at "at") (by walk_at "at") (Dp L) ?_))
 refine ⟨_,rfl,λi ρ'=>ρ'=[.fo (.t (cK (M9 i L))),.un],rfl,?_,?_⟩
 ·rintro c' l7 xr xu i d ρ' hd rfl
  simp only [P6,Qc] at hd
  obtain ⟨x,hx,rfl⟩:=hd
  obtain ⟨hi,rfl⟩:=Qa.mp hx
  have hli:L[i].2.length<=20000:=hd' _ (Qe.mpr ⟨_,Qy hi,rfl⟩)
  refine cE (by walk_at "at") (jO (by walk_at "sset") ?_)
  rw [Dq hi]
  refine B6 0 1 (.z (.cons rfl .nil)) (by walk_at "at") ?_ (by decide)
  show aI c' _ [.fo (.t (cK ((L.take i).map Dn)++.v (.adr L[i].1)::cK (L.drop (i+1)))),.aw L[i].1 L[i].2] _ _
  refine au ?_
  with_reducible refine tw (by walk_at "at") (by walk_at "at") (by walk_at "own") ?_
  generalize hG:(λρ''=>aI c' _ ρ'' _ _)=G
  walk_at "ev"
  ·exact iD (by lia)
  subst hG
  refine au ?_
  with_reducible refine J7 (ds:=L[i].2++[NP]) (by walk_at "at") (by walk_at "at") (by walk_at "own") ?_
  generalize hG:(λρ''=>aI c' _ ρ'' _ _)=G
  walk_at "ev"
  ·exact iD (by simp; lia)
  subst hG
  show aI c' _ [.fo (.t (cK ((L.take i).map Dn)++.v (.adr L[i].1)::cK (L.drop (i+1)))),.aw L[i].1 (OX::(L[i].2++[NP]))] _ _
  refine B7 0 1 (.z (.cons rfl .nil)) (by walk_at "at") ?_ (by decide)
  refine tu ?_
  show [Sl.fo (.t _),Sl.un]=_
  rw [Dr hi]
 ·rintro ρ' rfl
  exact tu trivial
end
section
variable {P:Program} {w:World} {K:PN} {mg:Str->Option Value} {base:Heap}
structure DM (A:List aN):Prop where
 l:A.length<=3
 e:Ex 2 A
 b:Bn 100 A
theorem DM.jn (h:DM A):bY A:=⟨P7 h.l (by decide),h.e.mono (by decide),h.b.mono (by decide)⟩
theorem KO (r):(DL r).1.length<=6/\(∀ x∈(DL r).1,0<=x/\x<=2)/\(DL r).2.natAbs<2 ^ 50:=by
 unfold DL
 refine ⟨by show (3:Nat)<=6; decide,λx hx=>?_,?_⟩
 ·simp only [P8,Q0,or_false] at hx
  rcases hx with rfl | rfl | rfl <;> lia
 ·have h1:=Int.emod_lt_of_pos (r / 27) (b:=19) (by decide)
  have h2:=Int.emod_nonneg (r / 27) (b:=19) (by decide)
  have e9:(10:Int) ^ Us 9=1000000000:=by decide +kernel
  rw [e9]
  dsimp only
  split <;> lia
theorem uH (i) (r):∀ t∈(mO i r).1,t.1.length<=6/\(∀ x∈t.1,0<=x/\x<=2)/\t.2.natAbs<2 ^ 50:=by
 induction i with
 | zero=>intro t ht; cases ht
 | succ i ih =>
  intro t ht
  rcases Qq.mp ht with h | h
  ·exact ih t h
  ·rw [Qg.mp h]; exact KO _
theorem pM (n:Int):DM (jS n) where
 l:=P7 (lP _) (by rw [kC]; lia)
 e:=Ex.iG λt ht=>⟨(uH _ _ t ht).1,(uH _ _ t ht).2.1⟩
 b:=(Bn.iG (m:=50) (λt ht=>(uH _ _ t ht).2.2) (by rw [kC]; lia)).mono (by decide)
theorem wX:∀ {As:List (List aN)},(∀ A∈As,DM A)->bx As<=3 ^ As.length
 | [],_=>PU _
 | A::As,h=>by
  have h1:=(h A P4).l
  have h2:=wX λB hB=>h B (P9 _ hB)
  show max A.length 1 * bx As<=_
  rw [Qz,Nat.pow_succ,Uh]
  exact SJ h2 (by lia)
theorem KP {ps:List Part} (h:∀ p∈ps,p.1.natAbs<1000/\p.2.length<=6/\∀ A∈p.2,DM A) (hl:ps.length<=27):aB ps where
 p:=λp hp=>⟨QJ (h p hp).1 (P7 (by decide:1000<=2 ^ 10) (Th (by decide) (by decide))),P7 (h p hp).2.1 (by decide),λA hA=>((h p hp).2.2 A hA).jn⟩
 l:=P7 hl (by decide)
 s:=by
  have:∀ qs:List Part,(∀ p∈qs,p∈ps)->(qs.map λp=>bx p.2).sum<=729 * qs.length:=λqs=>by
   induction qs with
   | nil=>exact λ_=>PU _
   | cons q qs ih =>
    intro hq
    have h1:=ih λp hp=>hq p (P9 _ hp)
    have h2:=h q (hq q P4)
    have h3:bx q.2<=3 ^ 6:=P7 (wX h2.2.2) (Th (by decide) h2.2.1)
    rw [PZ,R0,Qz]
    lia
  have:=this ps λ_ h=>h
  lia
local macro_rules | `(tactic| walk_at "ft")=> `(tactic| (refine JX (JW (jf (by assumption) (by decide) (by walk_at "at") (by walk_at "at") ?_)); walk_at "ev"))
noncomputable def iH (ps:List Part):List D:=(aZ (fX ps)).map aO
noncomputable def outF (X:List (List Part)):Res:=.ok (.fo (.t (X.map λps=>.l (iH ps))))
noncomputable def tt (ps:List Part):List aN:=aZ (fX ps)
noncomputable def three (a b c:List aN):D:=.tup [af a,af b,af c]
noncomputable def zB (a b c x y z:List aN):List (List Part):=[[(1,[b,z]),(-1,[c,y])],[(1,[c,x]),(-1,[a,z])],[(1,[a,y]),(-1,[b,x])]]
noncomputable def Na (P:Program) (w:World) (K:PN) (mg:Str->Option Value) (base:Heap):Fn:=λds r=>∃ (ad:Addr) (a b c x y z:List aN),gz P w K mg base 4 ad fY/\(∀ ps∈zB a b c x y z,aB ps)/\ds=[.adr ad,three a b c,three x y z]/\r=outF (zB a b c x y z)
theorem OY {ad:Addr} (hf:gz P w K mg base 4 ad fY) (hh:∀ ps∈zB a b c x y z,aB ps):Na P w K mg base [.adr ad,three a b c,three x y z] (outF (zB a b c x y z)):=⟨ad,a,b,c,x,y,z,hf,hh,rfl,rfl⟩
theorem Nb (Fu:eS K "crossed" "crossed" (top 14) ff fd):bu P w K mg base (di P w) 5 ff fd ["total","one","other"] (eX K (Na P w K mg base)):=by
 refine cG Fu um (by rintro ds r ⟨ad,a,b,c,x,y,z,_,_,rfl,_⟩; rfl) (by rintro ds r ⟨ad,a,b,c,x,y,z,_,_,_,rfl⟩; exact ⟨_,rfl⟩) λk hq ds sl hF=>?_
 obtain ⟨fg,a,b,c,x,y,z,hg,hh,rfl,ee⟩:=hF
 injection ee with ee
 subst ee
 have h1:aB [(1,[b,z]),(-1,[c,y])]:=hh _ (by simp [zB])
 have h2:aB [(1,[c,x]),(-1,[a,z])]:=hh _ (by simp [zB])
 have h3:aB [(1,[a,y]),(-1,[b,x])]:=hh _ (by simp [zB])
 show aI k _ [.va (.adr fg),.va (.tup [af a,af b,af c]),.va (.tup [af x,af y,af z])] _ _
 conv in (ay _)=>whnf
 walk_at "evSs"
 refine dw (t6 ?_)
 walk_at "ft"
 refine az (dh h1) ⟨_,rfl,_,rfl,?_⟩
 walk_at "ft"
 refine az (dh h2) ⟨_,rfl,_,rfl,?_⟩
 walk_at "ft"
 refine az (dh h3) ⟨_,rfl,_,rfl,?_⟩
 refine B4 ?_
 refine Sd.mk (dG (R7 rfl)) ?_
 exact rfl
noncomputable def sC (a b c x y z:List aN):List Part:=[(1,[a,x]),(1,[b,y]),(1,[c,z])]
noncomputable def Dt (P:Program) (w:World) (K:PN) (mg:Str->Option Value) (base:Heap):Fn:=λds r=>∃ (ad:Addr) (a b c x y z:List aN),gz P w K mg base 4 ad fY/\aB (sC a b c x y z)/\ds=[.adr ad,three a b c,three x y z]/\r=.ok (.ow (iH (sC a b c x y z)))
theorem Nc {ad:Addr} (hf:gz P w K mg base 4 ad fY) (hh:aB (sC a b c x y z)):Dt P w K mg base [.adr ad,three a b c,three x y z] (.ok (.ow (iH (sC a b c x y z)))):=⟨ad,a,b,c,x,y,z,hf,hh,rfl,rfl⟩
theorem KQ (Fu:eS K "dotted" "dotted" (top 15) ff fd) (T:Txt K mg):bu P w K mg base (di P w) 5 ff fd ["total","one","other"] (eX K (Dt P w K mg base)):=by
 refine cG Fu yV (by rintro ds r ⟨ad,a,b,c,x,y,z,_,_,rfl,_⟩; rfl) (by rintro ds r ⟨ad,a,b,c,x,y,z,_,_,_,rfl⟩; exact ⟨_,rfl⟩) λk hq ds sl hF=>?_
 obtain ⟨fg,a,b,c,x,y,z,hg,hh,rfl,ee⟩:=hF
 injection ee with ee
 subst ee
 show aI k _ [.va (.adr fg),.va (.tup [af a,af b,af c]),.va (.tup [af x,af y,af z])] _ _
 conv in (ay _)=>whnf
 walk_at "evSs"
 refine dw (jf hg (by decide) (by walk_at "at") (by walk_at "at") ?_)
 refine cV (e_x (dJ hq (N':=["first","second"]) (ρ0:=λ_=>[.un,.un]) (λt=>.un (.un .nil)) (Cm (Txt.zip T) ?_)))
 walk_at "ev"
 refine ⟨_,_,rfl,rfl,⟨dG (R7 rfl),[some (.tup [.int 1,af a,af x]),some (.tup [.int 1,af b,af y]),some (.tup [.int 1,af c,af z])],rfl,?_,?_⟩⟩
 ·intro k2 hc t i dd o hd ho
  obtain ⟨A,B,rfl,rfl⟩:∃ A B:List aN,dd=.tup [af A,af B]/\o=some (.tup [.int 1,af A,af B]):=by
   match i,hd,ho with
   | 0,hd,ho=>cases hd; cases ho; exact ⟨_,_,rfl,rfl⟩
   | 1,hd,ho=>cases hd; cases ho; exact ⟨_,_,rfl,rfl⟩
   | 2,hd,ho=>cases hd; cases ho; exact ⟨_,_,rfl,rfl⟩
  refine vc rfl (by walk_at "u") ?_
  walk_at "ev"
  refine ⟨.un (.un .nil),?_⟩
  simp only [jX]
  refine ⟨λ_=>?_,λh=>by cases h⟩
  walk_at "ev"
  rfl
 ·walk_at "ev"
  exact az (dh hh) rfl
noncomputable def zC (a b c x y z:List aN):List (List Part):=[[(1,[a,x])],[(1,[a,y]),(1,[b,x])],[(1,[b,y])],[(1,[a,z]),(1,[c,x])],[(1,[b,z]),(1,[c,y])],[(1,[c,z])]]
noncomputable def Ll (P:Program) (w:World) (K:PN) (mg:Str->Option Value) (base:Heap):Fn:=λds r=>∃ (ad:Addr) (a b c x y z:List aN),gz P w K mg base 4 ad fY/\(∀ ps∈zC a b c x y z,aB ps)/\ds=[.adr ad,three a b c,three x y z]/\r=outF (zC a b c x y z)
theorem OZ {ad:Addr} (hf:gz P w K mg base 4 ad fY) (hh:∀ ps∈zC a b c x y z,aB ps):Ll P w K mg base [.adr ad,three a b c,three x y z] (outF (zC a b c x y z)):=⟨ad,a,b,c,x,y,z,hf,hh,rfl,rfl⟩
theorem Nd (Fu:eS K "pair_of_lines" "pair_of_lines" (top 18) ff fd):bu P w K mg base (di P w) 5 ff fd ["total","l","m"] (eX K (Ll P w K mg base)):=by
 refine cG Fu jG (by rintro ds r ⟨ad,a,b,c,x,y,z,_,_,rfl,_⟩; rfl) (by rintro ds r ⟨ad,a,b,c,x,y,z,_,_,_,rfl⟩; exact ⟨_,rfl⟩) λk hq ds sl hF=>?_
 obtain ⟨fg,a,b,c,x,y,z,hg,hh,rfl,ee⟩:=hF
 injection ee with ee
 subst ee
 have h1:aB [(1,[a,x])]:=hh _ (by simp [zC])
 have h2:aB [(1,[a,y]),(1,[b,x])]:=hh _ (by simp [zC])
 have h3:aB [(1,[b,y])]:=hh _ (by simp [zC])
 have h4:aB [(1,[a,z]),(1,[c,x])]:=hh _ (by simp [zC])
 have h5:aB [(1,[b,z]),(1,[c,y])]:=hh _ (by simp [zC])
 have h6:aB [(1,[c,z])]:=hh _ (by simp [zC])
 show aI k _ [.va (.adr fg),.va (.tup [af a,af b,af c]),.va (.tup [af x,af y,af z])] _ _
 conv in (ay _)=>whnf
 walk_at "evSs"
 refine dw (t6 ?_)
 walk_at "ft"
 refine az (dh h1) ⟨_,rfl,_,rfl,?_⟩
 walk_at "ft"
 refine az (dh h2) ⟨_,rfl,_,rfl,?_⟩
 walk_at "ft"
 refine az (dh h3) ⟨_,rfl,_,rfl,?_⟩
 walk_at "ft"
 refine az (dh h4) ⟨_,rfl,_,rfl,?_⟩
 walk_at "ft"
 refine az (dh h5) ⟨_,rfl,_,rfl,?_⟩
 walk_at "ft"
 refine az (dh h6) ⟨_,rfl,_,rfl,?_⟩
 refine B4 ?_
 refine Sd.mk (dG (R7 rfl)) ?_
 exact rfl
noncomputable abbrev T3:=List aN×List aN×List aN
noncomputable def D3 (s:T3):D:=.tup [af s.1,af s.2.1,af s.2.2]
noncomputable def wY (s t:T3):List (List Part):=zB s.1 s.2.1 s.2.2 t.1 t.2.1 t.2.2
noncomputable def cS (s t:T3):T3:=(tt [(1,[s.2.1,t.2.2]),(-1,[s.2.2,t.2.1])],tt [(1,[s.2.2,t.1]),(-1,[s.1,t.2.2])],tt [(1,[s.1,t.2.1]),(-1,[s.2.1,t.1])])
noncomputable def NQ (X:List (List Part)):Sh:=.t (X.map λps=>.l (iH ps))
noncomputable def pW (s t:T3):List Part:=sC s.1 s.2.1 s.2.2 t.1 t.2.1 t.2.2
noncomputable def KR (s t:T3):List aN:=tt (pW s t)
noncomputable def zk (s t:T3):List (List Part):=zC s.1 s.2.1 s.2.2 t.1 t.2.1 t.2.2
noncomputable def DN (s t i:T3):List Part:=[(1,[KR s i,KR t i])]
noncomputable def Du (s t i:T3):List aN:=tt (DN s t i)
theorem wZ {ad:Addr} (hf:gz P w K mg base 4 ad fY) (hh:∀ ps∈wY s t,aB ps):Na P w K mg base [.adr ad,D3 s,D3 t] (.ok (.fo (NQ (wY s t)))):=OY hf hh
theorem Dv {ad:Addr} (hf:gz P w K mg base 4 ad fY) (hh:aB (pW s t)):Dt P w K mg base [.adr ad,D3 s,D3 t] (.ok (.ow (iH (pW s t)))):=Nc hf hh
theorem Hz {ad:Addr} (hf:gz P w K mg base 4 ad fY) (hh:∀ ps∈zk s t,aB ps):Ll P w K mg base [.adr ad,D3 s,D3 t] (.ok (.fo (NQ (zk s t)))):=OZ hf hh
theorem w9 (s t:T3):(NQ (wY s t)).d=D3 (cS s t):=rfl
theorem HA (X):(NQ X).d=.tup (X.map λps=>af (tt ps)):=by
 show D.tup (Sh.ds (X.map λps=>.l (iH ps)))=_
 congr 1
 induction X with
 | nil=>rfl
 | cons p X ih=>exact congrArg (af (tt p):: ·) ih
noncomputable def NR (P:Program) (w:World) (K:PN) (mg:Str->Option Value) (base:Heap):Fn:=λds r=>∃ (ad:Addr) (s t i:T3),gz P w K mg base 4 ad fY/\(aB (pW s i)/\aB (pW t i)/\aB (DN s t i))/\ds=[.adr ad,.tup [D3 s,D3 t],D3 i]/\r=.ok (.ow (iH (DN s t i)))
theorem Nf {ad:Addr} (hf:gz P w K mg base 4 ad fY) (hh:aB (pW s i)/\aB (pW t i)/\aB (DN s t i)):NR P w K mg base [.adr ad,.tup [D3 s,D3 t],D3 i] (.ok (.ow (iH (DN s t i)))):=⟨ad,s,t,i,hf,hh,rfl,rfl⟩
section
local macro_rules | `(tactic| walk_at "evCa")=> `(tactic| first | with_reducible refine bL (F:=Dt P w K mg base) (by assumption) (by decide) ?_)
theorem Ng (Fu:eS K "worth_of_both" "worth_of_both" (top 19) ff fd) (h5:eG P w K mg base 5 "dotted" (Dt P w K mg base)):bu P w K mg base (di P w) 6 ff fd ["total","lines","i"] (eX K (NR P w K mg base)):=by
 refine cG Fu jH (by rintro ds r ⟨ad,s,t,i,_,_,rfl,_⟩; rfl) (by rintro ds r ⟨ad,s,t,i,_,_,_,rfl⟩; exact ⟨_,rfl⟩) λk hq ds sl hF=>?_
 obtain ⟨fg,s,t,i,hg,⟨q1,q2,q3⟩,rfl,ee⟩:=hF
 injection ee with ee
 subst ee
 show aI k _ [.va (.adr fg),.va (.tup [D3 s,D3 t]),.va (D3 i)] _ _
 conv in (ay _)=>whnf
 walk_at "evSs"
 refine dw (jf hg (by decide) (by walk_at "at") (by walk_at "at") ?_)
 walk_at "ev"
 refine az (Dv hg q1) (bQ ?_)
 walk_at "ev"
 refine az (Dv hg q2) (bQ ?_)
 walk_at "ev"
 exact az (dh q3) rfl
end
noncomputable def pX (i j k l m:T3):List (List Part):=Tz (λp q=>[(1,[Du (cS i k) (cS j l) m,tt p]),(-1,[Du (cS i j) (cS k l) m,tt q])]) (zk (cS i j) (cS k l)) (zk (cS i k) (cS j l))
structure sD (i j k l m:T3):Prop where
 ij:∀ ps∈wY i j,aB ps
 kl:∀ ps∈wY k l,aB ps
 ik:∀ ps∈wY i k,aB ps
 jl:∀ ps∈wY j l,aB ps
 w1:aB (pW (cS i j) m)/\aB (pW (cS k l) m)/\aB (DN (cS i j) (cS k l) m)
 w2:aB (pW (cS i k) m)/\aB (pW (cS j l) m)/\aB (DN (cS i k) (cS j l) m)
 p1:∀ ps∈zk (cS i j) (cS k l),aB ps
 p2:∀ ps∈zk (cS i k) (cS j l),aB ps
 fv:∀ ps∈pX i j k l m,aB ps
noncomputable def O0 (P:Program) (w:World) (K:PN) (mg:Str->Option Value) (base:Heap):Fn:=λds r=>∃ (ad:Addr) (i j k l m:T3),gz P w K mg base 4 ad fY/\sD i j k l m/\ds=[.adr ad,D3 i,D3 j,D3 k,D3 l,D3 m]/\r=outF (pX i j k l m)
section
local macro_rules | `(tactic| walk_at "evCa")=> `(tactic| first
 | with_reducible refine Ci (x_call (x:=PM "crossed") (F:=Na P w K mg base) (by assumption) (by decide) ?_)
 | with_reducible refine Ci (x_call (x:=PM "pair_of_lines") (F:=Ll P w K mg base) (by assumption) (by decide) ?_))
local macro_rules | `(tactic| walk_at "evXC")=> `(tactic| first
 | with_reducible refine x_call (x:=PM "worth_of_both") (F:=NR P w K mg base) (by assumption) (by decide) ?_
 | with_reducible refine GK (Ci (x_call (x:=PM "pair_of_lines") (F:=Ll P w K mg base) (by assumption) (by decide) ?_)))
theorem Nh (Fu:eS K "five_rule" "five_rule" (top 20) ff fd) (T:Txt K mg) (h5:eG P w K mg base 5 "crossed" (Na P w K mg base)) (h6:eG P w K mg base 6 "worth_of_both" (NR P w K mg base)) (h7:eG P w K mg base 5 "pair_of_lines" (Ll P w K mg base)):bu P w K mg base (di P w) 7 ff fd ["total","i","j","k","l","m"] (eX K (O0 P w K mg base)):=by
 refine cG Fu pD (by rintro ds r ⟨ad,i,j,k,l,m,_,_,rfl,_⟩; rfl) (by rintro ds r ⟨ad,i,j,k,l,m,_,_,_,rfl⟩; exact ⟨_,rfl⟩) λc hq ds sl hF=>?_
 obtain ⟨fg,i,j,k,l,m,hg,hh,rfl,ee⟩:=hF
 injection ee with ee
 subst ee
 show aI c _ [.va (.adr fg),.va (D3 i),.va (D3 j),.va (D3 k),.va (D3 l),.va (D3 m),.un,.un,.un,.un,.un,.un] _ _
 conv in (ay _)=>whnf
 refine au ?_
 generalize hG:(λρ'=>aI c _ ρ' _ _)=G
 walk_at "ev"
 refine az (wZ hg hh.ij) ⟨_,rfl,?_⟩
 rw [w9]
 walk_at "ev"
 refine az (wZ hg hh.kl) ⟨_,rfl,?_⟩
 rw [w9]
 walk_at "ev"
 subst hG
 refine au ?_
 generalize hG:(λρ'=>aI c _ ρ' _ _)=G
 walk_at "ev"
 refine az (wZ hg hh.ik) ⟨_,rfl,?_⟩
 rw [w9]
 walk_at "ev"
 refine az (wZ hg hh.jl) ⟨_,rfl,?_⟩
 rw [w9]
 walk_at "ev"
 subst hG
 refine au ?_
 generalize hG:(λρ'=>aI c _ ρ' _ _)=G
 walk_at "ev"
 refine az (Nf hg hh.w1) ?_
 walk_at "ev"
 subst hG
 refine dM 8 (d0:=af (Du (cS i j) (cS k l) m)) (by walk_at "at") rfl (by walk_at "sset") ?_
 refine au ?_
 generalize hG:(λρ'=>aI c _ ρ' _ _)=G
 walk_at "ev"
 refine az (Nf hg hh.w2) ?_
 walk_at "ev"
 subst hG
 refine dM 9 (d0:=af (Du (cS i k) (cS j l) m)) (by walk_at "at") rfl (by walk_at "sset") ?_
 refine au ?_
 generalize hG:(λρ'=>aI c _ ρ' _ _)=G
 walk_at "ev"
 refine az (Hz hg hh.p1) ⟨_,rfl,?_⟩
 rw [HA]
 walk_at "ev"
 subst hG
 refine au ?_
 generalize hG:(λρ'=>aI c _ ρ' _ _)=G
 walk_at "ev"
 refine az (Hz hg hh.p2) ⟨_,rfl,?_⟩
 rw [HA]
 walk_at "ev"
 subst hG
 refine au (dw (rS (Txt.tuple T) (wJ hq (N':=["one","other","second_worth","first_worth","total"]) (ρ0:=λ_=>[.un,.un,.va (af (Du (cS i k) (cS j l) m)),.va (af (Du (cS i j) (cS k l) m)),.va (.adr fg)]) (λt=>.un (.un (.fr (by walk_at "at") (by walk_at "at") (by decide) rfl (.fr (by walk_at "at") (by walk_at "at") (by decide) rfl (.fr (by walk_at "at") (by walk_at "at") (by decide) rfl .nil))))) (Cm (Txt.zip T) ?_))))
 walk_at "ev"
 refine ⟨_,_,rfl,rfl,⟨dG (R7 rfl),(pX i j k l m).map λps=>.l (iH ps),rfl,?_,⟨_,rfl,rfl⟩⟩⟩
 intro k2 hc t n dd o hd ho
 unfold yk at hd
 rw [List.zipWith_map] at hd
 obtain ⟨p,q,e1,e2,rfl⟩:=Uw.mp hd
 rw [P6] at ho
 obtain ⟨ps,e3,rfl⟩:=Qc.mp ho
 have hps:aB ps:=hh.fv ps (QI e3)
 obtain ⟨p',q',e4,e5,rfl⟩:=Uw.mp e3
 rw [e1] at e4; cases e4
 rw [e2] at e5; cases e5
 refine vc rfl (by walk_at "u") ?_
 walk_at "ev"
 refine ⟨.un (.un (.same (.same (.same .nil)))),?_⟩
 refine JW (jf hg (by decide) (by walk_at "at") (by walk_at "at") ?_)
 walk_at "ev"
 exact az (dh hps) ⟨_,rfl,rfl⟩
end
noncomputable def mP (a b c d:List aN):List (List Part):=[[(1,[a])],[],[(1,[a])],[(1,[b])],[(1,[c])],[(1,[d])]]
noncomputable def Dw (As:List (List aN)):List (List Part):=As.map λA=>[(1,[A])]
noncomputable def iI:List (List aN)->List (List Part)
 | [a,b,c,d]=>mP a b c d
 | As=>Dw As
noncomputable def Gr (P:Program) (w:World) (K:PN) (mg:Str->Option Value) (base:Heap):Fn:=λds r=>∃ (ad:Addr) (As:List (List aN)),gz P w K mg base 4 ad fY/\(∀ ps∈iI As,aB ps)/\(As.length=6\/∃ a b c d,As=[a,b,c,d])/\ds=[.adr ad,.tup (As.map af)]/\r=outF (iI As)
theorem Ni {ad:Addr} (hf:gz P w K mg base 4 ad fY) (hh:∀ ps∈iI As,aB ps) (hl:As.length=6\/∃ a b c d,As=[a,b,c,d]):Gr P w K mg base [.adr ad,.tup (As.map af)] (outF (iI As)):=⟨ad,As,hf,hh,hl,rfl,rfl⟩
section
local macro_rules | `(tactic| walk_at "evS")=> `(tactic| first
 | ((with_reducible show eU _ (Uk (some (Uo _ _ _)) _) _ _ _); refine dw (t6 ?_))
 | ((with_reducible show eU _ (Uk (some (QN (Qh "tuple" _) _ _ _)) _) _ _ _); refine dw (rS (Txt.tuple (by assumption)) (wJ (by assumption) (N':=["amount","total"]) (ρ0:=λ_=>[.un,.va (.adr _)]) (λt=>.un (.fr (by walk_at "at") (by walk_at "at") (by decide) rfl .nil)) (cj ?_)))))
theorem KS (Fu:eS K "curve_rule" "curve_rule" (top 17) ff fd) (T:Txt K mg):bu P w K mg base (di P w) 5 ff fd ["total","o"] (eX K (Gr P w K mg base)):=by
 refine cG Fu mG (by rintro ds r ⟨ad,As,_,_,_,rfl,_⟩; rfl) (by rintro ds r ⟨ad,As,_,_,_,_,rfl⟩; exact ⟨_,rfl⟩) λk hq ds sl hF=>?_
 obtain ⟨fg,As,hg,hh,hl,rfl,ee⟩:=hF
 injection ee with ee
 subst ee
 rcases hl with hl | ⟨a,b,c,d,rfl⟩
 ·match As,hl with
  | [a,b,c,d,e,g],_ =>
  show aI k _ [.va (.adr fg),.va (.tup [af a,af b,af c,af d,af e,af g])] _ _
  conv in (ay _)=>whnf
  walk_at "ev"
  case refine_2 z=>exact absurd rfl z
  refine ⟨[a,b,c,d,e,g].map λA=>.l (iH [(1,[A])]),rfl,?_,⟨_,rfl,rfl⟩⟩
  intro k2 hc t i dd o hd ho
  have hd':([a,b,c,d,e,g].map af)[i]?=some dd:=hd
  simp only [P6,Qc] at hd' ho
  obtain ⟨A,hA,rfl⟩:=hd'
  obtain ⟨A',hA',rfl⟩:=ho
  rw [hA] at hA'; cases hA'
  have hps:aB [(1,[A])]:=hh _ (Qe.mpr ⟨A,QI hA,rfl⟩)
  refine cE (by walk_at "at") (jO (by walk_at "sset") ⟨.un (.same .nil),?_⟩)
  refine JW (jf hg (by decide) (by walk_at "at") (by walk_at "at") ?_)
  walk_at "ev"
  exact az (dh hps) ⟨_,rfl,rfl⟩
 ·have h1:aB [(1,[a])]:=hh _ (by simp [iI,mP])
  have h0:aB []:=hh _ (by simp [iI,mP])
  have h2:aB [(1,[b])]:=hh _ (by simp [iI,mP])
  have h3:aB [(1,[c])]:=hh _ (by simp [iI,mP])
  have h4:aB [(1,[d])]:=hh _ (by simp [iI,mP])
  show aI k _ [.va (.adr fg),.va (.tup [af a,af b,af c,af d])] _ _
  conv in (ay _)=>whnf
  walk_at "ev"
  case refine_1 z=>exact absurd z (show ¬ ((4:Nat):Int)=6 by decide)
  walk_at "ft"
  refine az (dh h1) ⟨_,rfl,_,rfl,?_⟩
  walk_at "ft"
  refine az (dh h0) ⟨_,rfl,_,rfl,?_⟩
  walk_at "ft"
  refine az (dh h1) ⟨_,rfl,_,rfl,?_⟩
  walk_at "ft"
  refine az (dh h2) ⟨_,rfl,_,rfl,?_⟩
  walk_at "ft"
  refine az (dh h3) ⟨_,rfl,_,rfl,?_⟩
  walk_at "ft"
  refine az (dh h4) ⟨_,rfl,_,rfl,?_⟩
  refine B4 ?_
  refine Sd.mk (dG (R7 rfl)) ?_
  exact rfl
end
noncomputable def uI:Fn:=λds r=>∃ As:List (List aN),(∀ ps∈iI As,aB ps)/\(As.length=6\/∃ a b c d,As=[a,b,c,d])/\ds=[.tup (As.map af)]/\r=outF (iI As)
theorem HB (hh:∀ ps∈iI As,aB ps) (hl:As.length=6\/∃ a b c d,As=[a,b,c,d]):uI [.tup (As.map af)] (outF (iI As)):=⟨As,hh,hl,rfl,rfl⟩
theorem KU (Fu:eS K "as_curve" "as_curve" (top 21) ff fd) (h1:eG P w K mg base 4 "poly_total" fY) (h2:eG P w K mg base 5 "curve_rule" (Gr P w K mg base)):bu P w K mg base (di P w) 6 ff fd ["o"] (eX K uI):=by
 refine cG Fu rZ (by rintro ds r ⟨As,_,_,rfl,_⟩; rfl) (by rintro ds r ⟨As,_,_,_,rfl⟩; exact ⟨_,rfl⟩) λk hq ds sl hF=>?_
 obtain ⟨As,hh,hl,rfl,ee⟩:=hF
 injection ee with ee
 subst ee
 obtain ⟨fg,hm,hg⟩:=h1.at_
 show aI k _ [.va (.tup (As.map af))] _ _
 conv in (ay _)=>whnf
 walk_at "evSs"
 refine dw (x_call (F:=Gr P w K mg base) h2 (by decide) ?_)
 refine cV (BX hm ?_)
 walk_at "ev"
 exact az (Ni hg hh hl) rfl
noncomputable def Ln:Fn:=λds r=>∃ (i j k l m:T3),sD i j k l m/\ds=[D3 i,D3 j,D3 k,D3 l,D3 m]/\r=outF (pX i j k l m)
theorem O1 (hh:sD i j k l m):Ln [D3 i,D3 j,D3 k,D3 l,D3 m] (outF (pX i j k l m)):=⟨i,j,k,l,m,hh,rfl,rfl⟩
theorem Nj (Fu:eS K "five_curve" "five_curve" (top 22) ff fd) (h1:eG P w K mg base 4 "poly_total" fY) (h2:eG P w K mg base 7 "five_rule" (O0 P w K mg base)):bu P w K mg base (di P w) 8 ff fd ["i","j","k","l","m"] (eX K Ln):=by
 refine cG Fu mH (by rintro ds r ⟨i,j,k,l,m,_,rfl,_⟩; rfl) (by rintro ds r ⟨i,j,k,l,m,_,_,rfl⟩; exact ⟨_,rfl⟩) λc hq ds sl hF=>?_
 obtain ⟨i,j,k,l,m,hh,rfl,ee⟩:=hF
 injection ee with ee
 subst ee
 obtain ⟨fg,hm,hg⟩:=h1.at_
 show aI c _ [.va (D3 i),.va (D3 j),.va (D3 k),.va (D3 l),.va (D3 m)] _ _
 conv in (ay _)=>whnf
 walk_at "evSs"
 refine dw (x_call (F:=O0 P w K mg base) h2 (by decide) ?_)
 refine cV (BX hm ?_)
 walk_at "ev"
 exact az ⟨fg,i,j,k,l,m,hg,hh,rfl,rfl⟩ rfl
end
section
variable {K:PN}
noncomputable def gI (ns:List Int) (k j:Nat):List aN:=(jS (j6 ns (3 * k+j+1) / 5)).take 2
noncomputable def bare (A:List aN):List aN:=A.map λt=>([],t.2)
abbrev cst (ns:List Int) (k:Nat):Prop:=1<j6 ns (3 * k+1) % 5\/k=1\/k=2\/k=3
noncomputable def zm (ns:List Int) (k j:Nat):List aN:=if cst ns k then aZ (bare (gI ns k j)) else gI ns k j
noncomputable def uJ (ns:List Int) (k:Nat):T3:=(zm ns k 0,zm ns k 1,zm ns k 2)
noncomputable def Gs:Fn:=λds r=>∃ (ns:List Int) (k:Nat),k<5/\ds=[.lst (ns.map .int),.int (k:Int)]/\r=.ok (.va (D3 (uJ ns k)))
theorem Nk (ns) {k:Nat} (h:k<5):Gs [.lst (ns.map .int),.int (k:Int)] (.ok (.va (D3 (uJ ns k)))):=⟨ns,k,h,rfl,rfl⟩
theorem KW (xs:List α):EV.cutD xs none (some 2)=xs.take 2:=by
 unfold EV.cutD HT.cg
 simp only [T9]
 by_cases h:2<=xs.length
 ·congr 1
  split <;> lia
 ·rw [R6 (by lia:xs.length<=2)]
  refine R6 ?_
  split <;> lia
theorem jk (ns) (k j):(gI ns k j).length<=2:=by unfold gI; rw [Q5]; exact Nat.min_le_left _ _
theorem Nl (k:Nat):([1,2,3]:List Int).any (λn=>n == (k:Int))=decide (k=1\/k=2\/k=3):=by
 rw [Tv]
 simp only [Tw,List.any_nil,Bool.or_false,Bool.or_eq_true,beq_iff_eq,decide_eq_true_eq]
 lia
section
local macro_rules | `(tactic| walk_at "evT")=> `(tactic| first | with_reducible refine MW ?_)
local macro_rules | `(tactic| walk_at "evCa")=> `(tactic| first
 | with_reducible refine bL (F:=zg) (by assumption) (by decide) ?_
 | with_reducible refine bL (F:=nR) (by assumption) (by decide) ?_)
theorem KY (Fu:eS K "_law_point" "_law_point" (top 35) ff fd) (T:Txt K mg) (h1:eG P w K mg base 2 "_law_digits" zg) (h2:eG P w K mg base 2 "_law_some" nR) (h3:eG P w K mg base 1 "_law_plain" mJ):bu P w K mg base (di P w) 3 ff fd ["_law_script","_law_k"] (eX K Gs):=by
 refine cG Fu uv (by rintro ds r ⟨ns,k,_,rfl,_⟩; rfl) (by rintro ds r ⟨ns,k,_,_,rfl⟩; exact ⟨_,rfl⟩) λc hq ds sl hF=>?_
 obtain ⟨ns,k,hk,rfl,ee⟩:=hF
 injection ee with ee
 subst ee
 show aI c _ [.va (.lst (ns.map .int)),.va (.int (k:Int)),.un,.un,.un,.un] _ _
 conv in (ay _)=>whnf
 refine au ?_
 generalize hG:(λρ'=>aI c _ ρ' _ _)=G
 walk_at "ev"
 ·exact lu (by decide)
 rw [show (3:Int) * (k:Int)+1=((3 * k+1:Nat):Int) by lia]
 refine az (Di ns (3 * k+1)) ?_
 walk_at "ev"
 subst hG
 refine au ?_
 generalize hG:(λρ'=>aI c _ ρ' _ _)=G
 walk_at "ev"
 subst hG
 refine au ?_
 with_reducible refine cO hq (dX (Txt.range (by assumption)) ?_)
 walk_at "ev"
 ·exact ⟨by decide,by decide⟩
 refine ⟨λi ρ'=>∃ s4 s5:Sl,s5.sY=false/\ρ'=[.va (.lst (ns.map .int)),.va (.int (k:Int)),.va (.int (j6 ns (3 * k+1))),.ow ((QC i).map λj=>af (zm ns k j)),s4,s5],⟨_,_,rfl,rfl⟩,?_,?_⟩
 ·rintro c' l7 xr xu i dd ρ' hd ⟨s4,s5,h5,rfl⟩
  have hq':c'.X.xe=λ_ _=>False:=by rw [l7]; exact hq
  obtain ⟨hi,rfl⟩:=fN hd
  refine cE (by walk_at "at") (jO (by walk_at "sset") ?_)
  refine au ?_
  generalize hG:(λρ'=>aI c' _ ρ' _ _)=G
  walk_at "ev"
  ·exact lu (by decide)
  rw [show (3:Int) * (k:Int)+(i:Int)+1=((3 * k+i+1:Nat):Int) by lia]
  refine az (Di ns (3 * k+i+1)) ?_
  walk_at "ev"
  refine az (Dk _) (bQ ?_)
  walk_at "ev"
  subst hG
  have e2:EV.cutD ((jS (j6 ns (3 * k+i+1) / 5)).map aO) none (some 2)=(gI ns k i).map aO:=by rw [KW]; unfold gI; rw [List.map_take]
  rw [e2]
  refine dM 5 (d0:=af (gI ns k i)) (by walk_at "at") rfl (by walk_at "sset") ?_
  refine au (xN (Hs (T':=λb=>b=decide (cst ns k)) ?_ ?_))
  ·walk_at "ev"
   ·rename_i h
    exact (decide_eq_true (Or.inl h:cst ns k)).symm
   ·rename_i h
    refine ⟨_,[1,2,3],rfl,rfl,?_⟩
    rw [Nl]
    refine decide_eq_decide.mpr ?_
    unfold cst
    simp only [h,false_or]
  ·rintro b rfl
   refine u5 (λh=>?_) (λh=>?_)
   ·have ep:zm ns k i=aZ (bare (gI ns k i)):=if_pos h
    refine au ?_
    generalize hG:(λρ'=>aI c' _ ρ' _ _)=G
    refine u9 (by walk_at "at") (x_call (F:=mJ) h3 (by decide) (cV (e_x (dJ hq' (N':=["_law_powers","_law_count"]) (ρ0:=λ_=>[.un,.un]) (λt=>.un (.un .nil)) (cj ?_)))))
    walk_at "ev"
    ·have:=jk ns k i
     exact pS (by rw [P0]; lia)
    refine ⟨(gI ns k i).map λt=>some (aO ([],t.2)),by simp,?_,bQ ?_⟩
    ·intro c3 hc t n d o hd ho
     simp only [P6,Qc] at hd ho
     obtain ⟨x,hx,rfl⟩:=hd
     obtain ⟨x',hx',rfl⟩:=ho
     rw [hx] at hx'; cases hx'
     show qC _ _ _ _ _ (.tup [.tup (x.1.map .int),.int x.2]) _
     refine vc rfl (by walk_at "u") ?_
     walk_at "ev"
     refine ⟨.un (.un .nil),?_⟩
     simp only [jX]
     refine ⟨λ_=>?_,λh=>by cases h⟩
     walk_at "ev"
     rfl
    ·have e3:((gI ns k i).map λt=>some (aO ([],t.2))).filterMap id=(bare (gI ns k i)).map aO:=by
      rw [cI λt:aN=>aO ([],t.2)]; unfold bare; rw [Qi]; rfl
     rw [e3]
     walk_at "ev"
     refine az (pI (by unfold bare; rw [P0]; have:=jk ns k i; lia) λt ht=>?_) ?_
     ·obtain ⟨x,_,rfl⟩:=Qe.mp ht
      exact Qv _
     walk_at "ev"
     subst hG
     refine dM 5 (d0:=af (aZ (bare (gI ns k i)))) (by walk_at "at") rfl (by walk_at "sset") ?_
     walk_at "ev"
     ·exact pS (by simp; lia)
     exact ⟨_,_,rfl,by rw [List.range_succ,Qs,List.map_singleton,ep]; rfl⟩
   ·have ep:zm ns k i=gI ns k i:=if_neg h
    walk_at "ev"
    ·exact pS (by simp; lia)
    exact ⟨_,_,rfl,by rw [List.range_succ,Qs,<- ep]; rfl⟩
 ·rintro ρ' ⟨s4,s5,h5,rfl⟩
  refine dM 3 (d0:=.lst [af (zm ns k 0),af (zm ns k 1),af (zm ns k 2)]) (by walk_at "at") rfl (by walk_at "sset") ?_
  walk_at "ev"
  rfl
end
end
section
variable {K:PN}
noncomputable def Gu:Fn:=λds r=>∃ s t:T3,(∀ ps∈wY s t,aB ps)/\ds=[D3 s,D3 t]/\r=.ok (.va (D3 (cS s t)))
theorem xg (h:∀ ps∈wY s t,aB ps):Gu [D3 s,D3 t] (.ok (.va (D3 (cS s t)))):=⟨s,t,h,rfl,rfl⟩
noncomputable def NS:Fn:=λds r=>∃ s t:T3,aB (pW s t)/\ds=[D3 s,D3 t]/\r=.ok (.ow (iH (pW s t)))
theorem Gv (h:aB (pW s t)):NS [D3 s,D3 t] (.ok (.ow (iH (pW s t)))):=⟨s,t,h,rfl,rfl⟩
section
local macro_rules | `(tactic| walk_at "evCa")=> `(tactic| first | with_reducible refine bL (F:=mK) (by assumption) (by decide) ?_)
local macro_rules | `(tactic| walk_at "evIx")=> `(tactic| first | ((with_reducible show aJ _ (Rt (Qh _ _) (Expr.Constant _ _ _) _) _ _); with_reducible refine qw ?_))
theorem KZ (Fu:eS K "_law_through" "_law_through" (top 36) ff fd) (h1:eG P w K mg base 3 "_law_sum" mK):bu P w K mg base (di P w) 4 ff fd ["_law_i","_law_j"] (eX K Gu):=by
 refine cG Fu pH (by rintro ds r ⟨s,t,_,rfl,_⟩; rfl) (by rintro ds r ⟨s,t,_,_,rfl⟩; exact ⟨_,rfl⟩) λk hq ds sl hF=>?_
 obtain ⟨⟨a,b,c⟩,⟨x,y,z⟩,hh,rfl,ee⟩:=hF
 injection ee with ee
 subst ee
 have q1:aB [(1,[b,z]),(-1,[c,y])]:=hh _ (by simp [wY,zB])
 have q2:aB [(1,[c,x]),(-1,[a,z])]:=hh _ (by simp [wY,zB])
 have q3:aB [(1,[a,y]),(-1,[b,x])]:=hh _ (by simp [wY,zB])
 show aI k _ [.va (.tup [af a,af b,af c]),.va (.tup [af x,af y,af z]),.un,.un] _ _
 conv in (ay _)=>whnf
 walk_at "ev"
 refine az (jj q1) (bQ ?_)
 walk_at "ev"
 refine az (jj q2) (bQ ?_)
 walk_at "ev"
 refine az (jj q3) (bQ ?_)
 walk_at "ev"
 rfl
local macro_rules | `(tactic| walk_at "evXC")=> `(tactic| first | with_reducible refine x_call (x:=PM "_law_sum") (F:=mK) (by assumption) (by decide) ?_)
theorem Nm (Fu:eS K "_law_worth" "_law_worth" (top 37) ff fd) (h1:eG P w K mg base 3 "_law_sum" mK):bu P w K mg base (di P w) 4 ff fd ["_law_l","_law_i"] (eX K NS):=by
 refine cG Fu uw (by rintro ds r ⟨s,t,_,rfl,_⟩; rfl) (by rintro ds r ⟨s,t,_,_,rfl⟩; exact ⟨_,rfl⟩) λk hq ds sl hF=>?_
 obtain ⟨⟨a,b,c⟩,⟨x,y,z⟩,hh,rfl,ee⟩:=hF
 injection ee with ee
 subst ee
 show aI k _ [.va (.tup [af a,af b,af c]),.va (.tup [af x,af y,af z])] _ _
 conv in (ay _)=>whnf
 walk_at "ev"
 exact az (jj (ps:=sC a b c x y z) hh) rfl
end
noncomputable def NT:Fn:=λds r=>∃ (s t:T3) (n:Nat) (ps:List Part),(zk s t)[n]?=some ps/\aB ps/\ds=[D3 s,D3 t,.int (n:Int)]/\r=.ok (.ow (iH ps))
theorem Nn {n:Nat} (e:(zk s t)[n]?=some ps) (h:aB ps):NT [D3 s,D3 t,.int (n:Int)] (.ok (.ow (iH ps))):=⟨s,t,n,ps,e,h,rfl,rfl⟩
noncomputable def c3 (s:T3) (p:Nat):List aN:=[s.1,s.2.1,s.2.2].getD p []
theorem NU {s:T3} {p:Nat} (h:p<3):jM [af s.1,af s.2.1,af s.2.2] (p:Int)=some (af (c3 s p)):=by
 match p,h with
 | 0,_=>rfl
 | 1,_=>rfl
 | 2,_=>rfl
noncomputable def ij (p q:Nat):D:=.tup [.int (p:Int),.int (q:Int)]
theorem K0 {s t:T3} {n:Nat} {ps:List Part} (e:(zk s t)[n]?=some ps):∃ p q:Nat,p<3/\q<3/\jM [ij 0 0,ij 0 1,ij 1 1,ij 0 2,ij 1 2,ij 2 2] (n:Int)=some (ij p q)/\ps=(1,[c3 s p,c3 t q])::if p=q then [] else [(1,[c3 s q,c3 t p])]:=by
 match n,e with
 | 0,e=>cases e; exact ⟨0,0,by decide,by decide,rfl,rfl⟩
 | 1,e=>cases e; exact ⟨0,1,by decide,by decide,rfl,rfl⟩
 | 2,e=>cases e; exact ⟨1,1,by decide,by decide,rfl,rfl⟩
 | 3,e=>cases e; exact ⟨0,2,by decide,by decide,rfl,rfl⟩
 | 4,e=>cases e; exact ⟨1,2,by decide,by decide,rfl,rfl⟩
 | 5,e=>cases e; exact ⟨2,2,by decide,by decide,rfl,rfl⟩
 | n+6,e=>cases e
section
local macro_rules | `(tactic| walk_at "evIx")=> `(tactic| first
 | ((with_reducible show aJ _ (Rt (Qh _ _) _ _) _ _); with_reducible refine qw ?_)
 | ((with_reducible show aJ _ (Rt (Expr.List _ _) _ _) _ _); with_reducible refine qw ?_))
local macro_rules | `(tactic| walk_at "evXC")=> `(tactic| first | with_reducible refine qE 4 (by walk_at "at") rfl (by walk_at "sset") (x_call (x:=PM "_law_sum") (F:=mK) (by assumption) (by decide) ?_))
theorem Np (Fu:eS K "_law_both" "_law_both" (top 38) ff fd) (h1:eG P w K mg base 3 "_law_sum" mK):bu P w K mg base (di P w) 4 ff fd ["_law_l","_law_m","_law_place"] (eX K NT):=by
 refine cG Fu yY (by rintro ds r ⟨s,t,n,ps,_,_,rfl,_⟩; rfl) (by rintro ds r ⟨s,t,n,ps,_,_,_,rfl⟩; exact ⟨_,rfl⟩) λk hk ds sl hF=>?_
 obtain ⟨s,t,n,ps,e,hh,rfl,ee⟩:=hF
 injection ee with ee
 subst ee
 obtain ⟨p,q,hp,hq,ei,rfl⟩:=K0 e
 show aI k _ [.va (.tup [af s.1,af s.2.1,af s.2.2]),.va (.tup [af t.1,af t.2.1,af t.2.2]),.va (.int (n:Int)),.un,.un] _ _
 conv in (ay _)=>whnf
 refine au ?_
 generalize hG:(λρ'=>aI k _ ρ' _ _)=G
 walk_at "ev"
 refine vm ei ?_
 walk_at "ev"
 subst hG
 show aI k _ [_,_,_,.va (.tup [.int (p:Int),.int (q:Int)]),_] _ _
 refine au ?_
 generalize hG:(λρ'=>aI k _ ρ' _ _)=G
 walk_at "ev"
 refine fu (NU hp) ?_
 walk_at "ev"
 refine fu (NU hq) ?_
 walk_at "ev"
 subst hG
 refine au (xN (Hs (T':=λb=>b= !decide (p=q)) ?_ ?_))
 ·walk_at "ev"
  rw [show decide ((p:Int)=(q:Int))=decide (p=q) from decide_eq_decide.mpr Int.ofNat_inj]
 ·rintro b rfl
  by_cases z:p=q
  ·rw [decide_eq_true z,if_pos z] at *
   refine GO ?_
   walk_at "ev"
   exact az (jj hh) ⟨cJ λx _=>fT x,rfl⟩
  ·rw [decide_eq_false z,if_neg z] at *
   refine GN ?_
   walk_at "ev"
   refine fu (NU hq) ?_
   walk_at "ev"
   refine fu (NU hp) ?_
   walk_at "ev"
   ·exact dG (R7 rfl)
   exact az (jj hh) ⟨cJ λx _=>fT x,rfl⟩
end
noncomputable def Nq:Fn:=λds r=>∃ (i j k l m:T3),sD i j k l m/\ds=[D3 i,D3 j,D3 k,D3 l,D3 m]/\r=.ok (.va (.tup ((pX i j k l m).map λps=>af (tt ps))))
theorem O2 (hh:sD i j k l m):Nq [D3 i,D3 j,D3 k,D3 l,D3 m] (.ok (.va (.tup ((pX i j k l m).map λps=>af (tt ps))))):=⟨i,j,k,l,m,hh,rfl,rfl⟩
theorem K1 (h:n<6):∃ p q,(zk (cS i j) (cS k l))[n]?=some p/\(zk (cS i k) (cS j l))[n]?=some q/\(pX i j k l m)[n]?=some [(1,[Du (cS i k) (cS j l) m,tt p]),(-1,[Du (cS i j) (cS k l) m,tt q])]:=by
 match n,h with
 | 0,_=>exact ⟨_,_,rfl,rfl,rfl⟩
 | 1,_=>exact ⟨_,_,rfl,rfl,rfl⟩
 | 2,_=>exact ⟨_,_,rfl,rfl,rfl⟩
 | 3,_=>exact ⟨_,_,rfl,rfl,rfl⟩
 | 4,_=>exact ⟨_,_,rfl,rfl,rfl⟩
 | 5,_=>exact ⟨_,_,rfl,rfl,rfl⟩
section
local macro_rules | `(tactic| walk_at "evCa")=> `(tactic| first
 | with_reducible refine bL (F:=mK) (by assumption) (by decide) ?_
 | with_reducible refine bL (F:=Gu) (by assumption) (by decide) ?_
 | with_reducible refine bL (F:=NS) (by assumption) (by decide) ?_
 | with_reducible refine bL (F:=NT) (by assumption) (by decide) ?_)
local macro_rules | `(tactic| walk_at "evIx")=> `(tactic| first | ((with_reducible show aJ _ (Rt (Qh _ _) (Expr.Constant _ _ _) _) _ _); with_reducible refine qw ?_))
theorem Nr (Fu:eS K "_law_due" "_law_due" (top 39) ff fd) (T:Txt K mg) (h1:eG P w K mg base 3 "_law_sum" mK) (h2:eG P w K mg base 4 "_law_through" Gu) (h3:eG P w K mg base 4 "_law_worth" NS) (h4:eG P w K mg base 4 "_law_both" NT):bu P w K mg base (di P w) 5 ff fd ["_law_i","_law_j","_law_k","_law_l","_law_m"] (eX K Nq):=by
 refine cG Fu CF (by rintro ds r ⟨i,j,k,l,m,_,rfl,_⟩; rfl) (by rintro ds r ⟨i,j,k,l,m,_,_,rfl⟩; exact ⟨_,rfl⟩) λc hq ds sl hF=>?_
 obtain ⟨i,j,k,l,m,hh,rfl,ee⟩:=hF
 injection ee with ee
 subst ee
 show aI c _ [.va (D3 i),.va (D3 j),.va (D3 k),.va (D3 l),.va (D3 m),.un,.un,.un,.un,.un,.un] _ _
 conv in (ay _)=>whnf
 refine au ?_
 generalize hG:(λρ'=>aI c _ ρ' _ _)=G
 walk_at "ev"
 refine az (xg hh.ij) ?_
 walk_at "ev"
 refine az (xg hh.kl) ?_
 walk_at "ev"
 refine az (xg hh.ik) ?_
 walk_at "ev"
 refine az (xg hh.jl) ?_
 walk_at "ev"
 subst hG
 refine dM 5 (d0:=.lst [D3 (cS i j),D3 (cS k l),D3 (cS i k),D3 (cS j l)]) (by walk_at "at") rfl (by walk_at "sset") ?_
 refine au ?_
 generalize hG:(λρ'=>aI c _ ρ' _ _)=G
 walk_at "ev"
 refine az (Gv hh.w2.1) (bQ ?_)
 walk_at "ev"
 refine az (Gv hh.w2.2.1) (bQ ?_)
 walk_at "ev"
 refine az (jj (ps:=DN (cS i k) (cS j l) m) hh.w2.2.2) (bQ ?_)
 walk_at "ev"
 subst hG
 refine au ?_
 generalize hG:(λρ'=>aI c _ ρ' _ _)=G
 walk_at "ev"
 refine az (Gv hh.w1.1) (bQ ?_)
 walk_at "ev"
 refine az (Gv hh.w1.2.1) (bQ ?_)
 walk_at "ev"
 refine az (jj (ps:=DN (cS i j) (cS k l) m) hh.w1.2.2) (bQ ?_)
 walk_at "ev"
 subst hG
 refine au ?_
 generalize hG:(λρ'=>aI c _ ρ' _ _)=G
 walk_at "ev"
 subst hG
 refine au ?_
 with_reducible refine cO hq (dX (Txt.range (by assumption)) ?_)
 walk_at "ev"
 ·exact ⟨by decide,by decide⟩
 refine ⟨λn ρ'=>∃ s9 s10:Sl,s9.sY=false/\ρ'=[.va (D3 i),.va (D3 j),.va (D3 k),.va (D3 l),.va (D3 m),.va (.lst [D3 (cS i j),D3 (cS k l),D3 (cS i k),D3 (cS j l)]),.va (af (Du (cS i k) (cS j l) m)),.va (af (Du (cS i j) (cS k l) m)),.ow (((pX i j k l m).take n).map λps=>af (tt ps)),s9,s10],⟨_,_,rfl,rfl⟩,?_,?_⟩
 ·rintro c' l7 xr xu n dd ρ' hd ⟨s9,s10,h9,rfl⟩
  obtain ⟨hi,rfl⟩:=fN hd
  obtain ⟨p,q,e1,e2,e3⟩:=K1 (i:=i) (j:=j) (k:=k) (l:=l) (m:=m) hi
  have t1:=hh.p1 p (QI e1)
  have t2:=hh.p2 q (QI e2)
  have t3:=hh.fv _ (QI e3)
  refine cE (by walk_at "at") (jO (by walk_at "sset") ?_)
  refine au ?_
  generalize hG:(λρ'=>aI c' _ ρ' _ _)=G
  walk_at "ev"
  refine az (Nn e1 t1) (bQ ?_)
  walk_at "ev"
  subst hG
  refine au ?_
  generalize hG:(λρ'=>aI c' _ ρ' _ _)=G
  walk_at "ev"
  refine az (Nn e2 t2) (bQ ?_)
  walk_at "ev"
  refine az (jj t3) (bQ ?_)
  walk_at "ev"
  ·have hl:(((pX i j k l m).take n).map λps=>af (tt ps)).length<=n:=by rw [P0,Q5]; exact Nat.min_le_left _ _
   exact RN hl (QJ hi (dG (R7 rfl)))
  subst hG
  walk_at "ev"
  refine ⟨.va (.int (n:Int)),.va (af (tt p)),rfl,?_⟩
  rw [UX,e3,Qs]
  rfl
 ·rintro ρ' ⟨s9,s10,h9,rfl⟩
  refine dM 8 (d0:=.lst ((pX i j k l m).map λps=>af (tt ps))) (by walk_at "at") rfl (by walk_at "sset") ?_
  walk_at "ev"
  rfl
end
end
section
variable {P:Program} {w:World} {K:PN} {mg:Str->Option Value} {base:Heap}
structure Lm (l:Nat) (e:Int) (b:Nat) (A:List aN):Prop where
 l:A.length<=l
 e:Ex e A
 b:Bn b A
theorem Lm.iG (h:Lm la ea ba A) (hl:la<2 ^ 16:=by decide):Lm la ea (ba+16) (aZ A):=⟨P7 (lP _) h.l,h.e.iG,h.b.iG (RN h.l hl)⟩
theorem Lm.mono (h:Lm la ea ba A) (h1:la<=lb:=by decide) (h2:ea<=eb:=by decide) (h3:ba<=bb:=by decide):Lm lb eb bb A:=⟨P7 h.l h1,h.e.mono h2,h.b.mono h3⟩
theorem Lm.app (h:Lm la ea ba A) (g:Lm lb ea ba B):Lm (la+lb) ea ba (A++B):=⟨by rw [QE]; exact Nat.add_le_add h.l g.l,h.e.app g.e,λt ht=>(Qq.mp ht).elim (h.b t) (g.b t)⟩
theorem Lm.prod (h:Lm la ea ba A) (g:Lm lb eb bb B) (h0:0<=ea:=by decide) (g0:0<=eb:=by decide):Lm (la * lb) (ea+eb) (ba+bb) (aR A B):=⟨by rw [c7]; exact SJ h.l g.l,h.e.prod h0 g0 g.e,h.b.prod g.b⟩
theorem Lm.jn (h:Lm la ea ba A) (h1:la<=20000:=by decide) (h2:ea<=120:=by decide) (h3:ba<=2000:=by decide):bY A:=⟨P7 h.l h1,h.e.mono h2,h.b.mono h3⟩
theorem Lm.nil:Lm la ea ba []:=⟨Qv _,(λt ht=>by cases ht),λt ht=>by cases ht⟩
theorem Lm.con (hn:n.natAbs<2 ^ ba):Lm 1 0 ba (cT n):=⟨PU _,(λt ht=>by cases Qg.mp ht; exact ⟨Qv _,λx hx=>by cases hx⟩),λt ht=>by cases Qg.mp ht; exact hn⟩
theorem Ph (h:A.length<=l) (h1:1<=l):bx [A]<=l:=by
 show max A.length 1 * 1<=l; lia
theorem Lo (h:A.length<=l) (h1:1<=l) (g:B.length<=m) (g1:1<=m):bx [A,B]<=l * m:=SJ (show max A.length 1<=l by lia) (Ph g g1)
theorem pN (h:∀ p∈ps,p.1.natAbs<1000/\p.2.length<=8/\∀ A∈p.2,bY A) (hl:ps.length<=1000) (hs:(ps.map λp=>bx p.2).sum<=20000):aB ps :=
 ⟨λp hp=>⟨QJ (h p hp).1 (P7 (by decide:1000<=2 ^ 10) (Th (by decide) (by decide))),(h p hp).2.1,(h p hp).2.2⟩,hl,hs⟩
noncomputable def jJ (X:List (List Part)):List (List aN):=X.map λps=>aZ (fX ps)
structure Vt (A:List aN):Prop where
 s:DM A
 c:aZ A=A
theorem nS (A):aZ (aZ A)=aZ A:=eB (wD A)
theorem kD (n):Vt (jS n):=⟨pM n,nS _⟩
theorem Dy (A):mp (fX [(1,[A])])=mp A:=by
 unfold fX
 rw [TY,U3,QX,fV]
 show ((1:Int):MP) * (mp A * 1)=mp A
 have:((1:Int):MP)=1:=by grind
 rw [this]; grind
theorem pO (h:Vt A):aZ (fX [(1,[A])])=A:=(eB (Dy A)).trans h.c
noncomputable def lS (Ls:List (List aN)):Sh:=.t ((Ls.map λA=>A.map aO).map .l)
theorem uK (X):outF X=.ok (.fo (lS (jJ X))):=by
 unfold outF lS jJ iH
 rw [Qi,Qi]; rfl
theorem Gw (ha:Vt a) (hb:Vt b) (hc:Vt c) (hd:Vt d):jJ (mP a b c d)=[a,[],a,b,c,d]:=by
 unfold jJ mP
 simp only [PZ,RT,pO ha,pO hb,pO hc,pO hd]
 rfl
structure QT (l:Nat) (e:Int) (b:Nat) (s:T3):Prop where
 p:Lm l e b s.1
 q:Lm l e b s.2.1
 r:Lm l e b s.2.2
theorem Dz {A B C D:List aN} (h0:0<=e) (hl:l<=2) (hA:Lm l e 120 A) (hB:Lm 1 0 120 B) (hC:Lm l e 120 C) (hD:Lm 1 0 120 D):Lm (2 * l) e 300 (tt [(1,[A,B]),(-1,[C,D])]):=by
 have p:∀ {n:Int} {A B:List aN},n.natAbs<2 ^ 20->Lm l e 120 A->Lm 1 0 120 B->Lm l e 280 (c9 n [A,B]):=λhn hA hB=>(((Lm.con (ba:=20) hn).prod hA (by decide) h0).prod hB (by lia) (by decide)).mono (by lia) (by lia) (by decide)
 exact (((p (n:=1) (by decide) hA hB).app ((p (n:= -1) (by decide) hC hD).app (Lm.nil (la:=0)))).iG (by lia)).mono (by lia) (by lia) (by decide)
theorem xh (h0:0<=e) (hl:l<=2) (h:QT l e 120 s) (g:QT 1 0 120 t):QT (2 * l) e 300 (cS s t):=⟨Dz h0 hl h.q g.r h.r g.q,Dz h0 hl h.r g.p h.p g.r,Dz h0 hl h.p g.q h.q g.p⟩
theorem DA {A B C D:List aN} (hn:n.natAbs<1000) (hm:m.natAbs<1000) (fA:bY A) (fB:bY B) (fC:bY C) (fD:bY D) (hA:A.length<=l) (hB:B.length<=k) (hC:C.length<=l) (hD:D.length<=k) (l1:1<=l) (k1:1<=k) (hs:l * k+l * k<=20000):aB [(n,[A,B]),(m,[C,D])]:=by
 refine pN (by simp [fA,fB,fC,fD,hn,hm]) (by simp) ?_
 have h1:=Lo hA l1 hB k1
 have h2:=Lo hC l1 hD k1
 show bx [_,_]+(bx [_,_]+0)<=20000
 lia
theorem HC (hn:n.natAbs<1000) (fA:bY A) (fB:bY B) (hA:A.length<=l) (hB:B.length<=k) (l1:1<=l) (k1:1<=k) (hs:l * k<=20000):aB [(n,[A,B])]:=by
 refine pN (by simp [fA,fB,hn]) (by simp) ?_
 have h1:=Lo hA l1 hB k1
 show bx [_,_]+0<=20000
 lia
theorem pP (h:QT 2 2 120 s) (g:QT 1 0 120 t):∀ ps∈wY s t,aB ps:=λps hp=>by
 have k:∀ {A B C D:List aN},Lm 2 2 120 A->Lm 1 0 120 B->Lm 2 2 120 C->Lm 1 0 120 D->aB [(1,[A,B]),(-1,[C,D])]:=λhA hB hC hD=>DA (by decide) (by decide) hA.jn hB.jn hC.jn hD.jn hA.l hB.l hC.l hD.l (by decide) (by decide) (by decide)
 simp only [wY,zB,P8,Q0,or_false] at hp
 rcases hp with rfl | rfl | rfl
 ·exact k h.q g.r h.r g.q
 ·exact k h.r g.p h.p g.r
 ·exact k h.p g.q h.q g.p
theorem QT.up (h:QT 1 0 120 s):QT 2 2 120 s:=⟨h.p.mono,h.q.mono,h.r.mono⟩
theorem xj (h0:0<=e) (hl:l<=4) (h:QT l e 300 s) (g:QT 2 2 120 t):Lm (6 * l) (e+2) 500 (KR s t):=by
 have p:∀ {A B:List aN},Lm l e 300 A->Lm 2 2 120 B->Lm (2 * l) (e+2) 440 (c9 1 [A,B]):=λhA hB=>(((Lm.con (n:=1) (ba:=20) (by decide)).prod hA (by decide) h0).prod hB (by lia) (by decide)).mono (by lia) (by lia) (by decide)
 exact (((p h.p g.p).app ((p h.q g.q).app ((p h.r g.r).app (Lm.nil (la:=0))))).iG (by lia)).mono (by lia) (by lia) (by decide)
theorem xm (h:QT 4 2 300 s) (g:QT 2 2 120 t):aB (pW s t):=by
 refine pN (by simp [pW,sC,h.p.jn,h.q.jn,h.r.jn,g.p.jn,g.q.jn,g.r.jn]) (by simp [pW,sC]) ?_
 have h1:=Lo h.p.l (by decide) g.p.l (by decide)
 have h2:=Lo h.q.l (by decide) g.q.l (by decide)
 have h3:=Lo h.r.l (by decide) g.r.l (by decide)
 show bx [_,_]+(bx [_,_]+(bx [_,_]+0))<=20000
 lia
theorem QT.Pj (h:QT 2 0 300 s):QT 4 2 300 s:=⟨h.p.mono,h.q.mono,h.r.mono⟩
theorem HD (h:QT 4 2 300 s) (g:QT 2 0 300 t) (f:QT 2 2 120 i):Lm 288 6 1040 (Du s t i):=by
 have h1:Lm 24 4 500 (KR s i):=xj (by decide) (by decide) h f
 have h2:Lm 12 2 500 (KR t i):=xj (by decide) (by decide) g f
 have a1:=((Lm.con (n:=1) (ba:=20) (by decide)).prod h1).prod h2
 exact ((a1.app (Lm.nil (la:=0))).iG).mono
theorem HE (h:QT 4 2 300 s) (g:QT 2 0 300 t) (f:QT 2 2 120 i):aB (DN s t i):=by
 have h1:Lm 24 4 500 (KR s i):=xj (by decide) (by decide) h f
 have h2:Lm 12 2 500 (KR t i):=xj (by decide) (by decide) g f
 exact HC (by decide) h1.jn h2.jn h1.l h2.l (by decide) (by decide) (by decide)
theorem xo (h:QT 4 2 300 s) (g:QT 2 0 300 t):∀ ps∈zk s t,aB ps/\Lm 16 2 660 (tt ps):=λps hp=>by
 have k1:∀ {A B:List aN},Lm 4 2 300 A->Lm 2 0 300 B->aB [(1,[A,B])]:=λhA hB=>HC (by decide) hA.jn hB.jn hA.l hB.l (by decide) (by decide) (by decide)
 have k2:∀ {A B C D:List aN},Lm 4 2 300 A->Lm 2 0 300 B->Lm 4 2 300 C->Lm 2 0 300 D->aB [(1,[A,B]),(1,[C,D])]:=λhA hB hC hD=>DA (by decide) (by decide) hA.jn hB.jn hC.jn hD.jn hA.l hB.l hC.l hD.l (by decide) (by decide) (by decide)
 have p:∀ {A B:List aN},Lm 4 2 300 A->Lm 2 0 300 B->Lm 8 2 640 (c9 1 [A,B]):=λhA hB=>(((Lm.con (n:=1) (ba:=20) (by decide)).prod hA).prod hB).mono
 have l1:∀ {A B:List aN},Lm 4 2 300 A->Lm 2 0 300 B->Lm 16 2 660 (tt [(1,[A,B])]):=λhA hB=>(((p hA hB).app (Lm.nil (la:=0))).iG).mono
 have l2:∀ {A B C D:List aN},Lm 4 2 300 A->Lm 2 0 300 B->Lm 4 2 300 C->Lm 2 0 300 D->Lm 16 2 660 (tt [(1,[A,B]),(1,[C,D])]):=λhA hB hC hD=>(((p hA hB).app ((p hC hD).app (Lm.nil (la:=0)))).iG).mono
 simp only [zk,zC,P8,Q0,or_false] at hp
 rcases hp with rfl | rfl | rfl | rfl | rfl | rfl
 ·exact ⟨k1 h.p g.p,l1 h.p g.p⟩
 ·exact ⟨k2 h.p g.q h.q g.p,l2 h.p g.q h.q g.p⟩
 ·exact ⟨k1 h.q g.q,l1 h.q g.q⟩
 ·exact ⟨k2 h.p g.r h.r g.p,l2 h.p g.r h.r g.p⟩
 ·exact ⟨k2 h.q g.r h.r g.q,l2 h.q g.r h.r g.q⟩
 ·exact ⟨k1 h.r g.r,l1 h.r g.r⟩
theorem K2 {A B C D:List aN} (hA:Lm 288 6 1040 A) (hB:Lm 16 2 660 B) (hC:Lm 288 6 1040 C) (hD:Lm 16 2 660 D):aB [(1,[A,B]),(-1,[C,D])]/\Lm 9216 8 1740 (tt [(1,[A,B]),(-1,[C,D])]):=by
 refine ⟨DA (by decide) (by decide) hA.jn hB.jn hC.jn hD.jn hA.l hB.l hC.l hD.l (by decide) (by decide) (by decide),?_⟩
 have a1:Lm 4608 8 1720 (c9 1 [A,B]):=(((Lm.con (n:=1) (ba:=20) (by decide)).prod hA).prod hB).mono
 have a2:Lm 4608 8 1720 (c9 (-1) [C,D]):=(((Lm.con (n:= -1) (ba:=20) (by decide)).prod hC).prod hD).mono
 exact ((a1.app (a2.app (Lm.nil (la:=0)))).iG).mono
theorem K3 (hi:QT 2 2 120 i) (hj:QT 1 0 120 j) (hk:QT 1 0 120 k) (hl:QT 1 0 120 l) (hm:QT 2 2 120 m):sD i j k l m/\∀ ps∈pX i j k l m,Lm 9216 8 1740 (tt ps):=by
 have ij:QT 4 2 300 (cS i j):=xh (by decide) (by decide) hi hj
 have ik:QT 4 2 300 (cS i k):=xh (by decide) (by decide) hi hk
 have kl:QT 2 0 300 (cS k l):=xh (by decide) (by decide) hk hl
 have jl:QT 2 0 300 (cS j l):=xh (by decide) (by decide) hj hl
 have w1:=HD ij kl hm
 have w2:=HD ik jl hm
 have key:∀ ps∈pX i j k l m,aB ps/\Lm 9216 8 1740 (tt ps):=λps hp=>by
  obtain ⟨n,hn⟩:=Sv hp
  obtain ⟨p,q,e1,e2,rfl⟩:=Uw.mp hn
  have hp:=(xo ij kl p (QI e1)).2
  have hq:=(xo ik jl q (QI e2)).2
  exact K2 w2 hp w1 hq
 exact ⟨⟨pP hi hj,pP hk.up hl,pP hi hk,pP hj.up hl,⟨xm ij hm,xm kl.Pj hm,HE ij kl hm⟩,⟨xm ik hm,xm jl.Pj hm,HE ik jl hm⟩,λps h=>(xo ij kl ps h).1,λps h=>(xo ik jl ps h).1,λps h=>(key ps h).1⟩,λps h=>(key ps h).2⟩
theorem DB (A):(aZ (bare A)).length<=1:=by
 have h1:(aZ (bare A)).length<=(aP (bare A)).length:=by
  unfold aZ
  rw [(bB _).length_eq]
  exact List.length_filter_le _ _
 have h2:∀ L:List aN,(∀ t∈L,t.1=[])->∀ S:List aN,S.length<=1->(∀ t∈S,t.1=[])->(L.foldl fH S).length<=1:=by
  intro L
  induction L with
  | nil=>exact λ_ S h _=>h
  | cons t L ih =>
   intro hL S hS hE
   have ht:t.1=[]:=hL t P4
   obtain ⟨ks,n⟩:=t
   cases ht
   refine ih (λx hx=>hL x (P9 _ hx)) _ ?_ ?_
   ·match S,hS,hE with
    | [],_,_=>exact PU 1
    | [(k0,m)],_,hE =>
     have:k0=[]:=hE _ P4
     subst this
     exact PU 1
   ·match S,hS,hE with
    | [],_,_=>intro t ht; cases Qg.mp ht; rfl
    | [(k0,m)],_,hE =>
     have:k0=[]:=hE _ P4
     subst this
     intro t ht; cases Qg.mp ht; rfl
 exact P7 h1 (h2 _ (λt ht=>by obtain ⟨x,_,rfl⟩:=Qe.mp ht; rfl) [] (Qv _) λt ht=>by cases ht)
theorem K4 (ns) (k j):Lm 2 2 120 (gI ns k j):=by
 have h:=pM (j6 ns (3 * k+j+1) / 5)
 exact ⟨jk ns k j,λt ht=>h.e t (Su ht),λt ht=>QJ (h.b t (Su ht)) (Th (by decide) (by decide))⟩
theorem xq (ns) (k j):Lm 1 0 120 (aZ (bare (gI ns k j))):=by
 have h:=pM (j6 ns (3 * k+j+1) / 5)
 have hb:Lm 2 0 100 (bare (gI ns k j)):=⟨by unfold bare; rw [P0]; exact jk ns k j,λt ht=>by
  obtain ⟨x,hx,rfl⟩:=Qe.mp ht
  exact ⟨Qv _,λy hy=>by cases hy⟩,λt ht=>by
  obtain ⟨x,hx,rfl⟩:=Qe.mp ht
  exact h.b x (Su hx)⟩
 have hp:Lm 2 0 120 (aZ (bare (gI ns k j))):=hb.iG.mono
 exact ⟨DB _,hp.e,hp.b⟩
theorem HF (ns) (k):QT 2 2 120 (uJ ns k):=by
 have h:∀ j,Lm 2 2 120 (zm ns k j):=λj=>by
  unfold zm
  split
  ·exact (xq ns k j).mono
  ·exact K4 ns k j
 exact ⟨h 0,h 1,h 2⟩
theorem DC (ns) (hk:k=1\/k=2\/k=3):QT 1 0 120 (uJ ns k):=by
 have h:∀ j,Lm 1 0 120 (zm ns k j):=λj=>by
  unfold zm
  rw [if_pos (show cst ns k from Or.inr hk)]
  exact xq ns k j
 exact ⟨h 0,h 1,h 2⟩
theorem K5 (ha:DM a) (hb:DM b) (hc:DM c) (hd:DM d):∀ ps∈mP a b c d,aB ps:=by
 intro L hL
 simp only [mP,P8,Q0,or_false] at hL
 rcases hL with rfl | rfl | rfl | rfl | rfl | rfl <;> exact KP (by simp [ha,hb,hc,hd]) (by simp)
theorem K6 (h:∀ A∈F,aZ A=A):jJ (Dw F)=F:=by
 unfold jJ Dw
 rw [Qi]
 refine (RL λA hA=>?_).trans (Vv F)
 exact (eB (Dy A)).trans (h A hA)
theorem sE (h:F.length=6):iI F=Dw F:=by
 match F,h with
 | [a,b,c,d,e,g],_=>rfl
theorem DE (X):∀ A∈jJ X,aZ A=A:=λA hA=>by
 obtain ⟨ps,_,rfl⟩:=Qe.mp hA
 exact nS _
structure Told (F:List (List aN)):Prop where
 n:F.length=6
 s:∀ A∈F,Lm 9216 8 1740 A
 c:∀ A∈F,aZ A=A
theorem Told.tot (h:Told F):∀ ps∈Dw F,aB ps:=λps hp=>by
 obtain ⟨A,hA,rfl⟩:=Qe.mp hp
 have:=h.s A hA
 refine pN (by simp [this.jn]) (by simp) ?_
 have h1:=Ph this.l (by decide)
 show bx [_]+0<=20000
 lia
theorem Told.out (h:Told F):∀ L∈F,L.length<=20000/\∀ t∈L,t.1.length<=64:=λL hL=>⟨P7 (h.s L hL).l (by decide),λt ht=>P7 ((h.s L hL).e t ht).1 (by decide)⟩
theorem Gx (h:∀ ps∈pX i j k l m,Lm 9216 8 1740 (tt ps)):Told (jJ (pX i j k l m)):=⟨by unfold jJ; rw [P0]; rfl,λA hA=>by
 obtain ⟨ps,hp,rfl⟩:=Qe.mp hA
 exact h ps hp,DE _⟩
theorem Nt (hh:sD i j k l m) (e:jJ (pX i j k l m)=F):Nq [D3 i,D3 j,D3 k,D3 l,D3 m] (.ok (.va (.tup (F.map af)))):=by
 subst e
 unfold jJ
 rw [Qi]
 exact O2 hh
theorem HG (hh:sD i j k l m) (e:jJ (pX i j k l m)=F):Ln [D3 i,D3 j,D3 k,D3 l,D3 m] (.ok (.fo (lS F))):=by
 subst e
 rw [<- uK]
 exact O1 hh
theorem Nu (h:Told F):uI [.tup (F.map af)] (.ok (.fo (lS F))):=by
 have e:outF (iI F)=.ok (.fo (lS F)):=by rw [uK,sE h.n,K6 h.c]
 rw [<- e]
 exact HB (by rw [sE h.n]; exact h.tot) (.inl h.n)
theorem Nv (ha:Vt a) (hb:Vt b) (hc:Vt c) (hd:Vt d):uI [.tup [af a,af b,af c,af d]] (.ok (.fo (lS [a,[],a,b,c,d]))):=by
 rw [<- Gw ha hb hc hd,<- uK]; exact HB (As:=[a,b,c,d]) (K5 ha.s hb.s hc.s hd.s) (.inr ⟨a,b,c,d,rfl⟩)
theorem DF (h:Told F) {L:List (Addr×List D)} (hL:L.map (·.2)=F.map λA=>A.map aO):wW (.t ((L.map (·.2)).map .l)):=by
 rw [hL]
 exact ⟨_,rfl,by rw [P0,h.n]; decide,λds hd=>by
  obtain ⟨A,hA,rfl⟩:=Qe.mp hd
  rw [P0]; exact (h.out A hA).1⟩
end
section
variable {P:Program} {w:World} {K:PN} {mg:Str->Option Value} {base:Heap}
noncomputable def th (ns:List Int) (k:Nat):List aN:=jS (j6 ns k)
theorem Gy (ns):Dm [.lst (ns.map .int),.int 20,.int 4] (.ok (.va (.tup [af (th ns 20),af (th ns 21),af (th ns 22),af (th ns 23)]))):=M7 ns (a:=20) (m:=4) (by decide) (by decide)
theorem K7 (s:T3):zh [D3 s] (.ok (.va (D3 s))):=Hx (As:=[s.1,s.2.1,s.2.2]) (by show (3:Nat)<=1000; decide)
theorem K8 (a b c d):zh [.tup [af a,af b,af c,af d]] (.ok (.va (.tup [af a,af b,af c,af d]))):=Hx (As:=[a,b,c,d]) (by show (4:Nat)<=1000; decide)
theorem zp (Ls Ms:List (List aN)):j8 (n+4) (.tup (Ls.map af)) (.tup (Ms.map af)):=.tup λi d e h1 h2=>by
 simp only [P6,Qc] at h1 h2
 obtain ⟨a,_,rfl⟩:=h1
 obtain ⟨b,_,rfl⟩:=h2
 exact gy a b
theorem lZ (s t:T3):j8 (n+4) (D3 s) (D3 t):=zp [s.1,s.2.1,s.2.2] [t.1,t.2.1,t.2.2]
theorem nT (p0 p1 p2 p3 p4:T3):jV [D3 p0,D3 p1,D3 p2,D3 p3,D3 p4] [D3 p0,D3 p1,D3 p2,D3 p3,D3 p4]:=cC (lZ _ _) (cC (lZ _ _) (cC (lZ _ _) (cC (lZ _ _) (cC (lZ _ _) (rL _)))))
theorem nU {F:List (List aN)} (hL:L.map (·.2)=F.map λA=>A.map aO):(Sh.t (cK L)).d=.tup (F.map af):=by
 rw [MU,hL,Qi]; rfl
theorem pQ (h:Told F):zj [.tup (F.map af),.tup (F.map af)] (.ok (.va (.bl true))):=Hy (by rw [h.n]; decide) λA hA=>(h.out A hA).2
theorem PJ (F:List (List aN)):∀ ds∈F.map (λA=>A.map aO),D.kh ds:=λds hd=>by
 obtain ⟨A,_,rfl⟩:=Qe.mp hd
 exact cJ λx _=>fT x
theorem Vt.pow (h:Vt A):∀ t∈A,t.1.length<=64:=λt ht=>P7 (h.s.e t ht).1 (by decide)
theorem K9 (ha:Vt a) (hb:Vt b) (hc:Vt c) (hd:Vt d):zj [.tup ([a,[],a,b,c,d].map af),.tup [af a,.lst [],af a,af b,af c,af d]] (.ok (.va (.bl true))):=Hy (As:=[a,[],a,b,c,d]) (by show (6:Nat)<=1000; decide) λA hA=>by
 simp only [P8,Q0,or_false] at hA
 rcases hA with rfl | rfl | rfl | rfl | rfl | rfl
 ·exact ha.pow
 ·intro t ht; cases ht
 ·exact ha.pow
 ·exact hb.pow
 ·exact hc.pow
 ·exact hd.pow
theorem Gz (n) (L):(cK L).drop n=cK (L.drop n):=by unfold cK; rw [List.map_drop]
theorem Vt.len (h:Vt A):(A.map aO).length<=20000:=by rw [P0]; exact P7 h.s.l (by decide)
theorem La {a b c d:List aN} (ha:Vt a) (hb:Vt b) (hc:Vt c) (hd:Vt d) {L:List (Addr×List D)} (hL:L.map (·.2)=[a,[],a,b,c,d].map λA=>A.map aO):wW (.t (((L.drop 3).map (·.2)).map .l)):=by
 rw [List.map_drop,hL]
 refine ⟨_,rfl,by show (3:Nat)<=1000; decide,λds hd'=>?_⟩
 simp only [PZ,RT,List.drop_succ_cons,T9,P8,Q0,or_false] at hd'
 rcases hd' with rfl | rfl | rfl
 ·exact hb.len
 ·exact hc.len
 ·exact hd.len
theorem zq (h:jV ds ds) (t:T true):Am (.tup ds) (.tup ds) T:=Er ⟨h,by rw [decide_eq_true rfl]; exact t⟩
theorem zu (a b c d):jV [af a,af b,af c,af d] [af a,af b,af c,af d]:=cC (gy a a) (cC (gy b b) (cC (gy c c) (cC (gy d d) (rL _))))
section
local macro_rules | `(tactic| walk_at "evCa")=> `(tactic| first
 | with_reducible refine bL (F:=Dm) (by assumption) (by decide) ?_
 | with_reducible refine bL (F:=zh) (by assumption) (by decide) ?_
 | with_reducible refine bL (F:=Gs) (by assumption) (by decide) ?_
 | with_reducible refine bL (F:=Nq) (by assumption) (by decide) ?_
 | with_reducible refine bL (F:=zj) (by assumption) (by decide) ?_)
theorem Lb (Fu:eS K "law" "law" (top 40) ff fd) (T:Txt K mg) (h1:eG P w K mg base 3 "_law_things" Dm) (h2:eG P w K mg base 1 "_law_copied" zh) (h3:eG P w K mg base 5 "_law_due" Nq) (h4:eG P w K mg base 3 "_law_point" Gs)
 (h5:eG P w K mg base 2 "_law_same" zj) (h6:Fy P w K mg base 1 "_law_spoil" wW) (h7:eG P w K mg base 8 "five_curve" Ln) (h8:eG P w K mg base 6 "as_curve" uI):bu P w K mg base (di P w) 9 ff fd ["_law_script"] (eX K A7):=by
 refine cG Fu Ke (by rintro ds r ⟨ns,_,rfl,_⟩; rfl) (by rintro ds r ⟨ns,_,_,rfl⟩; exact ⟨_,rfl⟩) λk hq ds sl hF=>?_
 obtain ⟨ns,hns,rfl,ee⟩:=hF
 injection ee with ee
 subst ee
 show aI k _ [.va (.lst (ns.map .int)),.un,.un,.un,.un,.un,.un,.un,.un,.un] _ _
 conv in (ay _)=>whnf
 refine au (A6 (by walk_at "at") hq (N':=["_law_k","_law_script"]) (ρ0:=λ_=>[.un,.va (.lst (ns.map .int))]) (λt=>.un (.fr (by walk_at "at") (by walk_at "at") (by decide) rfl .nil)) (dX (Txt.range T) ?_))
 generalize hG:(λρ'=>aI k _ ρ' _ _)=G
 walk_at "ev"
 ·exact ⟨by decide,by decide⟩
 refine ⟨(QC 5).map λj=>some (D3 (uJ ns j)),rfl,?_,?_⟩
 ·intro c3 hc3 t j d o hd ho
  obtain ⟨hj,rfl⟩:=fN hd
  rw [P6,Sw (show j<5 from hj)] at ho
  cases ho
  refine cE (by walk_at "at") (jO (by walk_at "sset") ⟨.un (.same .nil),?_⟩)
  simp only [jX]
  refine ⟨λ_=>?_,λh=>by cases h⟩
  walk_at "ev"
  refine az (Nk ns hj) ?_
  walk_at "ev"
  rfl
 refine jO (by walk_at "sset") ?_
 subst hG
 obtain ⟨hv,hl⟩:=K3 (HF ns 0) (DC ns (.inl rfl)) (DC ns (.inr (.inl rfl))) (DC ns (.inr (.inr rfl))) (HF ns 4)
 have hT:=Gx hl
 refine dM 1 (d0:=.lst [D3 (uJ ns 0),D3 (uJ ns 1),D3 (uJ ns 2),D3 (uJ ns 3),D3 (uJ ns 4)]) (by walk_at "at") rfl (by walk_at "sset") ?_
 generalize uJ ns 0=p0 at *
 generalize uJ ns 1=p1 at *
 generalize uJ ns 2=p2 at *
 generalize uJ ns 3=p3 at *
 generalize uJ ns 4=p4 at *
 generalize eF:jJ (pX p0 p1 p2 p3 p4)=F at *
 refine au (A6 (by walk_at "at") hq (N':=["_law_i"]) (ρ0:=λ_=>[.un]) (λt=>.un .nil) (cj ?_))
 generalize hG:(λρ'=>aI k _ ρ' _ _)=G
 walk_at "ev"
 refine ⟨[some (D3 p0),some (D3 p1),some (D3 p2),some (D3 p3),some (D3 p4)],rfl,?_,?_⟩
 ·intro c3 hc3 t j d o hd ho
  obtain ⟨s,rfl,rfl⟩:∃ s:T3,d=D3 s/\o=some (D3 s):=by
   match j,hd,ho with
   | 0,hd,ho=>cases hd; cases ho; exact ⟨_,rfl,rfl⟩
   | 1,hd,ho=>cases hd; cases ho; exact ⟨_,rfl,rfl⟩
   | 2,hd,ho=>cases hd; cases ho; exact ⟨_,rfl,rfl⟩
   | 3,hd,ho=>cases hd; cases ho; exact ⟨_,rfl,rfl⟩
   | 4,hd,ho=>cases hd; cases ho; exact ⟨_,rfl,rfl⟩
  refine cE (by walk_at "at") (jO (by walk_at "sset") ⟨.un .nil,?_⟩)
  simp only [jX]
  refine ⟨λ_=>?_,λh=>by cases h⟩
  walk_at "ev"
  refine az (K7 s) ?_
  walk_at "ev"
  rfl
 refine jO (by walk_at "sset") ?_
 subst hG
 refine dM 2 (d0:=.lst [D3 p0,D3 p1,D3 p2,D3 p3,D3 p4]) (by walk_at "at") rfl (by walk_at "sset") ?_
 refine au ?_
 generalize hG:(λρ'=>aI k _ ρ' _ _)=G
 walk_at "ev"
 refine az (Nt hv eF) ?_
 walk_at "ev"
 subst hG
 refine au (pA (by walk_at "at") (x_call (x:=PM "five_curve") (F:=Ln) h7 (by decide) ?_))
 generalize hG:(λρ'=>aI k _ ρ' _ _)=G
 walk_at "ev"
 refine az (HG hv eF) ⟨_,rfl,λL4 e4 _=>jO (by walk_at "sset") ?_⟩
 subst hG
 have g4:∀ {r:Sl},r.sY=false->j3 [.va (.lst (ns.map .int)),.va (.lst [D3 p0,D3 p1,D3 p2,D3 p3,D3 p4]),.va (.lst [D3 p0,D3 p1,D3 p2,D3 p3,D3 p4]),.va (.tup (F.map af)),.fo (.t (cK L4)),r,.un,.un,.un,.un] 4 (.t (cK L4)):=λhr=>j4.one (.f rfl (.f rfl (.f rfl (.f rfl (.z (.f hr (.f rfl (.f rfl (.f rfl (.f rfl .n))))))))))
 refine au (xN (pq 4 (g4 rfl) (by walk_at "sset") ?_))
 rw [nU e4]
 generalize hG:(λρ'=>aI k _ ρ' _ _)=G
 walk_at "ev"
 refine az (pQ hT) ?_
 walk_at "ev"
 refine lU (nT p0 p1 p2 p3 p4) ?_
 walk_at "ev"
 subst hG
 refine au (pA (by walk_at "at") (Kc 4 (g4 rfl) (by walk_at "sset") (x_call (x:=PM "as_curve") (F:=uI) h8 (by decide) ?_)))
 rw [nU e4]
 generalize hG:(λρ'=>aI k _ ρ' _ _)=G
 walk_at "ev"
 refine az (Nu hT) ⟨_,rfl,PJ F,_,rfl,λL5 e5 d5=>jO (by walk_at "sset") ?_⟩
 have d54:∀ x∈L5,∀ y∈L4,x.1≠y.1:=d5 4 L4 rfl
 subst hG
 refine au ?_
 generalize hG:(λρ'=>aI k _ ρ' _ _)=G
 walk_at "ev"
 refine az (Gy ns) ?_
 walk_at "ev"
 subst hG
 have v0:Vt (th ns 20):=kD _
 have v1:Vt (th ns 21):=kD _
 have v2:Vt (th ns 22):=kD _
 have v3:Vt (th ns 23):=kD _
 generalize th ns 20=a at *
 generalize th ns 21=b at *
 generalize th ns 22=c at *
 generalize th ns 23=d at *
 refine au ?_
 generalize hG:(λρ'=>aI k _ ρ' _ _)=G
 walk_at "ev"
 refine az (K8 a b c d) ?_
 walk_at "ev"
 subst hG
 refine au (pA (by walk_at "at") (x_call (x:=PM "as_curve") (F:=uI) h8 (by decide) ?_))
 generalize hG:(λρ'=>aI k _ ρ' _ _)=G
 walk_at "ev"
 refine az (Nv v0 v1 v2 v3) ⟨_,rfl,λL8 e8 d8=>jO (by walk_at "sset") ?_⟩
 have d84:∀ x∈L8,∀ y∈L4,x.1≠y.1:=d8 4 L4 rfl
 have d85:∀ x∈L8,∀ y∈L5,x.1≠y.1:=d8 5 L5 rfl
 have d45:∀ x∈L4,∀ y∈L5,x.1≠y.1:=λx hx y hy z=>d54 y hy x hx z.symm
 have d48:∀ x∈L4,∀ y∈L8,x.1≠y.1:=λx hx y hy z=>d84 y hy x hx z.symm
 subst hG
 have g5:j3 [.va (.lst (ns.map .int)),.va (.lst [D3 p0,D3 p1,D3 p2,D3 p3,D3 p4]),.va (.lst [D3 p0,D3 p1,D3 p2,D3 p3,D3 p4]),.va (.tup (F.map af)),.fo (.t (cK L4)),.fo (.t (cK L5)),.va (.tup [af a,af b,af c,af d]),.va (.tup [af a,af b,af c,af d]),.fo (.t (cK L8)),.un] 5 (.t (cK L5)):=j4.one (.f rfl (.f rfl (.f rfl (.f rfl (.g d45 (.z (.f rfl (.f rfl (.g d85 (.f rfl .n))))))))))
 have g8:∀ {r:Sl},r.sY=false->j3 [.va (.lst (ns.map .int)),.va (.lst [D3 p0,D3 p1,D3 p2,D3 p3,D3 p4]),.va (.lst [D3 p0,D3 p1,D3 p2,D3 p3,D3 p4]),.va (.tup (F.map af)),.fo (.t (cK L4)),r,.va (.tup [af a,af b,af c,af d]),.va (.tup [af a,af b,af c,af d]),.fo (.t (cK L8)),.un] 8 (.t (cK L8)):=λhr=>j4.one (.f rfl (.f rfl (.f rfl (.f rfl (.g d48 (.f hr (.f rfl (.f rfl (.z (.f rfl .n))))))))))
 refine au (xN (pq 5 g5 (by walk_at "sset") (pq 8 (g8 rfl) (by walk_at "sset") ?_)))
 rw [nU e5,nU e8]
 generalize hG:(λρ'=>aI k _ ρ' _ _)=G
 walk_at "ev"
 refine az (pQ hT) ?_
 walk_at "ev"
 refine az (K9 v0 v1 v2 v3) ?_
 walk_at "ev"
 subst hG
 refine au (wI h6 (by decide) (by walk_at "at") g5 aG.nO (DF hT e5) (jO (by walk_at "sset") ?_))
 have hl8:(cK L8).length=6:=by
  have:=congrArg Si e8
  unfold cK
  simpa using this
 refine au (FT h6 (by decide) (by walk_at "at") (m:=3) (g8 rfl) (by rw [hl8]; decide) (by rw [hl8]; decide) (by decide) (sU:=.t (((L8.drop 3).map (·.2)).map .l)) (λh=>aG.nO (L:=L8.drop 3) (by rw [Gz] at h; exact h)) (La v0 v1 v2 v3 e8) (jO (by walk_at "sset") ?_))
 have g4':∀ {r:Sl},r.sY=false->j3 [.va (.lst (ns.map .int)),.va (.lst [D3 p0,D3 p1,D3 p2,D3 p3,D3 p4]),.va (.lst [D3 p0,D3 p1,D3 p2,D3 p3,D3 p4]),.va (.tup (F.map af)),.fo (.t (cK L4)),.un,.va (.tup [af a,af b,af c,af d]),.va (.tup [af a,af b,af c,af d]),.un,r] 4 (.t (cK L4)):=λhr=>j4.one (.f rfl (.f rfl (.f rfl (.f rfl (.z (.f rfl (.f rfl (.f rfl (.f rfl (.f hr .n))))))))))
 refine au (xN (pq 4 (g4' rfl) (by walk_at "sset") ?_))
 rw [nU e4]
 generalize hG:(λρ'=>aI k _ ρ' _ _)=G
 walk_at "ev"
 refine az (pQ hT) ?_
 walk_at "ev"
 refine zq (zu a b c d) ?_
 walk_at "ev"
 subst hG
 refine au (wI h6 (by decide) (by walk_at "at") (g4' rfl) aG.nO (DF hT e4) (jO (by walk_at "sset") ?_))
 refine au (pA (by walk_at "at") (x_call (x:=PM "five_curve") (F:=Ln) h7 (by decide) ?_))
 generalize hG:(λρ'=>aI k _ ρ' _ _)=G
 walk_at "ev"
 refine az (HG hv eF) ⟨_,rfl,λL9 e9 _=>jO (by walk_at "sset") ?_⟩
 subst hG
 refine au (dw (GK (Ka 9 (j4.one (.f rfl (.f rfl (.f rfl (.f rfl (.f rfl (.f rfl (.f rfl (.f rfl (.f rfl (.z .n))))))))))) (by walk_at "sset") ?_)))
 rw [nU e9]
 walk_at "ev"
 refine az (pQ hT) ?_
 walk_at "ev"
 refine lU (nT p0 p1 p2 p3 p4) ?_
 walk_at "ev"
 ·simp [D.nl]
 rfl
end
end
section
variable {K:PN}
theorem GA (zA:mg "law"=some (.ref fa)) (T:Txt K mg) (xPLACES:∃ tk:Tok,mg "PLACES"=some (.int 6 tk))
 (D2:aD K mg "trimmed" (top 2))
 (D3:aD K mg "greatest_powers" (top 3))
 (D4:aD K mg "key_of" (top 4))
 (D5:aD K mg "powers_of" (top 5))
 (D6:aD K mg "packed" (top 6))
 (D7:aD K mg "unpacked" (top 7))
 (D8:aD K mg "add_products" (top 8))
 (D10:aD K mg "width_of" (top 10))
 (D11:aD K mg "add_part" (top 11))
 (D12:aD K mg "poly_total" (top 12))
 (D14:aD K mg "crossed" (top 14))
 (D15:aD K mg "dotted" (top 15))
 (D17:aD K mg "curve_rule" (top 17))
 (D18:aD K mg "pair_of_lines" (top 18))
 (D19:aD K mg "worth_of_both" (top 19))
 (D20:aD K mg "five_rule" (top 20))
 (D21:aD K mg "as_curve" (top 21))
 (D22:aD K mg "five_curve" (top 22))
 (D24:aD K mg "_law_cell_at" (top 24))
 (D25:aD K mg "_law_digits" (top 25))
 (D26:aD K mg "_law_plain" (top 26))
 (D27:aD K mg "_law_product" (top 27))
 (D28:aD K mg "_law_sum" (top 28))
 (D29:aD K mg "_law_some" (top 29))
 (D30:aD K mg "_law_things" (top 30))
 (D31:aD K mg "_law_copied" (top 31))
 (D32:aD K mg "_law_terms" (top 32))
 (D33:aD K mg "_law_same" (top 33))
 (D34:aD K mg "_law_spoil" (top 34))
 (D35:aD K mg "_law_point" (top 35))
 (D36:aD K mg "_law_through" (top 36))
 (D37:aD K mg "_law_worth" (top 37))
 (D38:aD K mg "_law_both" (top 38))
 (D39:aD K mg "_law_due" (top 39))
 (D40:aD K mg "law" (top 40))
 : ∃ fd:FuncData,(∀ (s:Shared) (u:Value),BindsTo s fd ⟨[u],[]⟩ [("_law_script",u)])/\∀ base:Heap,K.In base->base.Ns mainGlobals mg->bu P w K mg base (di P w) 20 fa fd ["_law_script"] (eX K A7):=by
 refine Classical.byContradiction λhG=>?_
 obtain ⟨f40,fd40,m40,Fu40⟩:=D40
 have e:=zA.symm.trans m40
 cases e
 refine hG ⟨fd40,?_,λbase _ _=>?_⟩
 ·obtain ⟨oc,od,kV,doc,pm,an,cdv,ct,osl,rfl,lk,hcd⟩:=Fu40.ex
  exact λs u=>.of_eq rfl
 have C2:=bf P w base D2 λu=>FU u T
 have C3:=bf P w base D3 λu=>CM u T xPLACES
 have C4:=bf P w base D4 λu=>Kh u T xPLACES
 have C5:=bf P w base D5 λu=>F4 u T xPLACES C2
 have C6:=bf P w base D6 λu=>F5 u T C4
 have C7:=bf P w base D7 λu=>Kp u T C5
 have C8:=wo P w base D8 λu=>Ko u T
 have C10:=bf P w base D10 λu=>Kq u T C3
 have C11:=wo P w base D11 λu=>Df u T C6 C8
 have C12:=bf P w base D12 λu=>Ku u T C10 C11 C7
 have C14:=bf P w base D14 λu=>Nb u
 have C15:=bf P w base D15 λu=>KQ u T
 have C17:=bf P w base D17 λu=>KS u T
 have C18:=bf P w base D18 λu=>Nd u
 have C19:=bf P w base D19 λu=>Ng u C15
 have C20:=bf P w base D20 λu=>Nh u T C14 C19 C18
 have C21:=bf P w base D21 λu=>KU u C12 C17
 have C22:=bf P w base D22 λu=>Nj u C12 C20
 have C24:=bf P w base D24 λu=>KD u T
 have C25:=bf P w base D25 λu=>KH u T C24
 have C26:=bf P w base D26 λu=>CJ u T
 have C27:=bf P w base D27 λu=>Kv u T C26
 have C28:=bf P w base D28 λu=>KA u T C26 C27
 have C29:=bf P w base D29 λu=>Gp u T C26
 have C30:=bf P w base D30 λu=>KI u T C25 C29
 have C31:=bf P w base D31 λu=>KJ u T
 have C32:=bf P w base D32 λu=>KL u T
 have C33:=bf P w base D33 λu=>KN u T C32
 have C34:=FH P w base D34 λu=>Ds u
 have C35:=bf P w base D35 λu=>KY u T C25 C29 C26
 have C36:=bf P w base D36 λu=>KZ u C28
 have C37:=bf P w base D37 λu=>Nm u C28
 have C38:=bf P w base D38 λu=>Np u C28
 have C39:=bf P w base D39 λu=>Nr u T C28 C36 C37 C38
 exact (Lb Fu40 T C30 C31 C39 C35 C33 C34 C22 C21).mono (by decide)
end
end My
open PySem PySem.W PyProof.Rows
local macro_rules | `(tactic| walk_at "dm")=> `(tactic| (dsimp only [L2.fW]; refine' EV.Jk (by assumption) (by assumption) ?a ?l ?c ?k; (case a=>k_is); (case l=>k_is); (case c=>k_is); (case k=>k_is)))
set_option maxRecDepth 100000 in
set_option maxHeartbeats 0 in
theorem PySem.Challenge.cw_everydraw_k24_curves_by_five_holds : PySem.Challenge.rw_everydraw_k24_curves_by_five.Holds := by
 w_on; o_law; k_head; (case hw=>w_witness2)
 k_fill
 refine EV.walk (k:=20) (l:=PySem.Challenge.rw_everydraw_k24_curves_by_five) (by decide) rfl rfl (λw h Y=>PySem.W.kIn_of Y) ?F
 case F =>
  intro w mg fa h KX G hmg
  have D2:EV.aD (L2.fW KX) mg (Str.ofString "trimmed") (My.top 2):=by walk_at "dm"
  have D3:EV.aD (L2.fW KX) mg (Str.ofString "greatest_powers") (My.top 3):=by walk_at "dm"
  have D4:EV.aD (L2.fW KX) mg (Str.ofString "key_of") (My.top 4):=by walk_at "dm"
  have D5:EV.aD (L2.fW KX) mg (Str.ofString "powers_of") (My.top 5):=by walk_at "dm"
  have D6:EV.aD (L2.fW KX) mg (Str.ofString "packed") (My.top 6):=by walk_at "dm"
  have D7:EV.aD (L2.fW KX) mg (Str.ofString "unpacked") (My.top 7):=by walk_at "dm"
  have D8:EV.aD (L2.fW KX) mg (Str.ofString "add_products") (My.top 8):=by walk_at "dm"
  have D10:EV.aD (L2.fW KX) mg (Str.ofString "width_of") (My.top 10):=by walk_at "dm"
  have D11:EV.aD (L2.fW KX) mg (Str.ofString "add_part") (My.top 11):=by walk_at "dm"
  have D12:EV.aD (L2.fW KX) mg (Str.ofString "poly_total") (My.top 12):=by walk_at "dm"
  have D14:EV.aD (L2.fW KX) mg (Str.ofString "crossed") (My.top 14):=by walk_at "dm"
  have D15:EV.aD (L2.fW KX) mg (Str.ofString "dotted") (My.top 15):=by walk_at "dm"
  have D17:EV.aD (L2.fW KX) mg (Str.ofString "curve_rule") (My.top 17):=by walk_at "dm"
  have D18:EV.aD (L2.fW KX) mg (Str.ofString "pair_of_lines") (My.top 18):=by walk_at "dm"
  have D19:EV.aD (L2.fW KX) mg (Str.ofString "worth_of_both") (My.top 19):=by walk_at "dm"
  have D20:EV.aD (L2.fW KX) mg (Str.ofString "five_rule") (My.top 20):=by walk_at "dm"
  have D21:EV.aD (L2.fW KX) mg (Str.ofString "as_curve") (My.top 21):=by walk_at "dm"
  have D22:EV.aD (L2.fW KX) mg (Str.ofString "five_curve") (My.top 22):=by walk_at "dm"
  have D24:EV.aD (L2.fW KX) mg (Str.ofString "_law_cell_at") (My.top 24):=by walk_at "dm"
  have D25:EV.aD (L2.fW KX) mg (Str.ofString "_law_digits") (My.top 25):=by walk_at "dm"
  have D26:EV.aD (L2.fW KX) mg (Str.ofString "_law_plain") (My.top 26):=by walk_at "dm"
  have D27:EV.aD (L2.fW KX) mg (Str.ofString "_law_product") (My.top 27):=by walk_at "dm"
  have D28:EV.aD (L2.fW KX) mg (Str.ofString "_law_sum") (My.top 28):=by walk_at "dm"
  have D29:EV.aD (L2.fW KX) mg (Str.ofString "_law_some") (My.top 29):=by walk_at "dm"
  have D30:EV.aD (L2.fW KX) mg (Str.ofString "_law_things") (My.top 30):=by walk_at "dm"
  have D31:EV.aD (L2.fW KX) mg (Str.ofString "_law_copied") (My.top 31):=by walk_at "dm"
  have D32:EV.aD (L2.fW KX) mg (Str.ofString "_law_terms") (My.top 32):=by walk_at "dm"
  have D33:EV.aD (L2.fW KX) mg (Str.ofString "_law_same") (My.top 33):=by walk_at "dm"
  have D34:EV.aD (L2.fW KX) mg (Str.ofString "_law_spoil") (My.top 34):=by walk_at "dm"
  have D35:EV.aD (L2.fW KX) mg (Str.ofString "_law_point") (My.top 35):=by walk_at "dm"
  have D36:EV.aD (L2.fW KX) mg (Str.ofString "_law_through") (My.top 36):=by walk_at "dm"
  have D37:EV.aD (L2.fW KX) mg (Str.ofString "_law_worth") (My.top 37):=by walk_at "dm"
  have D38:EV.aD (L2.fW KX) mg (Str.ofString "_law_both") (My.top 38):=by walk_at "dm"
  have D39:EV.aD (L2.fW KX) mg (Str.ofString "_law_due") (My.top 39):=by walk_at "dm"
  have D40:EV.aD (L2.fW KX) mg (Str.ofString "law") (My.top 40):=by walk_at "dm"
  have T:EV.Txt (L2.fW KX) mg:=by
   dsimp only [L2.fW]
   refine' EV.Js KX G ?z1 ?z2 ?z3 ?z4 ?z5 ?z6 ?z7 ?z8 ?z9 ?z10 ?z11 ?z12 ?z13 ?z14 ?z15 ?z16 ?z17 ?sib
   (case z1=>k_is)
   (case z2=>k_is)
   (case z3=>k_is)
   (case z4=>k_is)
   (case z5=>k_is)
   (case z6=>k_is)
   (case z7=>k_is)
   (case z8=>k_is)
   (case z9=>k_is)
   (case z10=>k_is)
   (case z11=>k_is)
   (case z12=>k_is)
   (case z13=>k_is)
   (case z14=>k_is)
   (case z15=>k_is)
   (case z16=>k_is)
   (case z17=>k_is)
   (case sib=>k_is)
  have xPLACES:∃ tk:Tok,mg (Str.ofString "PLACES")=some (.int 6 tk):=by
   refine' EV.int_mk KX G ?a
   (case a=>k_is)
  exact My.GA hmg T xPLACES D2 D3 D4 D5 D6 D7 D8 D10 D11 D12 D14 D15 D17 D18 D19 D20 D21 D22 D24 D25 D26 D27 D28 D29 D30 D31 D32 D33 D34 D35 D36 D37 D38 D39 D40
