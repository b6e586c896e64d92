import PyProof.Rows.All
import Wide.All
import OpenK.AllK
import Wide.FinOn
import PySem.Challenge.RW_everydraw_k14_raw_rules_by_points_and_li
namespace EV
theorem z2 {α β} {P:α->β->Prop} {G:Prop} (h:∃ a b,P a b) (k:∀ a b,P a b->G):G:=h.elim λa h=>h.elim (k a)
theorem z3 {α β γ} {P:α->β-> γ ->Prop} {G:Prop} (h:∃ a b c,P a b c) (k:∀ a b c,P a b c->G):G:=h.elim λa h=>z2 h (k a)
theorem z4 {α β γ δ} {P:α->β-> γ -> δ ->Prop} {G:Prop} (h:∃ a b c d,P a b c d) (k:∀ a b c d,P a b c d->G):G:=h.elim λa h=>z3 h (k a)
theorem z5 {α β γ δ ε} {P:α->β-> γ -> δ -> ε ->Prop} {G:Prop} (h:∃ a b c d e,P a b c d e) (k:∀ a b c d e,P a b c d e->G):G:=h.elim λa h=>z4 h (k a)
theorem w2 {a b G:Prop} (h:a/\b) (k:a->b->G):G:=k h.1 h.2
theorem w3 {a b c G:Prop} (h:a/\b/\c) (k:a->b->c->G):G:=w2 h.2 (k h.1)
theorem w4 {a b c d G:Prop} (h:a/\b/\c/\d) (k:a->b->c->d->G):G:=w3 h.2 (k h.1)
theorem w5 {a b c d e G:Prop} (h:a/\b/\c/\d/\e) (k:a->b->c->d->e->G):G:=w4 h.2 (k h.1)
theorem w6 {a b c d e f G:Prop} (h:a/\b/\c/\d/\e/\f) (k:a->b->c->d->e->f->G):G:=w5 h.2 (k h.1)
theorem w7 {a b c d e f g G:Prop} (h:a/\b/\c/\d/\e/\f/\g) (k:a->b->c->d->e->f->g->G):G:=w6 h.2 (k h.1)
theorem w8 {a b c d e f g i G:Prop} (h:a/\b/\c/\d/\e/\f/\g/\i) (k:a->b->c->d->e->f->g->i->G):G:=w7 h.2 (k h.1)
theorem v6 {α β γ δ ε ζ} {P:α->β-> γ -> δ -> ε -> ζ ->Prop} {G:Prop} (h:∃ a b c d e f,P a b c d e f) (k:∀ a b c d e f,P a b c d e f->G):G:=h.elim λa h=>z5 h (k a)
end EV
set_option genSizeOf false
set_option Elab.async false
set_option linter.all false
set_option maxRecDepth 100000
open PySem.Str renaming ofString->O5
open PySem renaming wpAny_bind->O6,wpAny_pure->O8,Spec->P5,wpAny_field->Qc,wpAny_mono->Qd,wpAny_rule->Qz,wpAny_newObj_type->QB,wpAny_holding->QL,wpAny_setField_rec->QN,wpAny_call_entry->QO,wpAny_Call_Name_kw->Q5,wpAny_callSpecial?_slot->Q9,wpAny_seqItems->Rh,Builtin->Rp,wpAny_pyIter_list->Rv,wpAny_attempt->RB,wpAny_typeOf->RC,wpAny_passesOwn->R0,wpAny_letGo->R8,wpAny_truthy_bool->Sx,codeAny_mono->SD,wpAny_call->SH,mem_of_lookup->SN,codeAny_builtin->SY,wpAny_setField->Td,typeIs_int->Tr,call_meets->Tt,wpAny_typeNameOfWhole_itemiter->Tz,wpAny_typeNameOf_itemiter->TH,tupleKind_room_in1->T6,wpAny_isInstance->Ug,wpAny_execs_nil->Uo,wpAny_newTuple->Uu,wpAny_onRaise->Uz,wpAny_newList->UA,concat_meets->UD,wpAny_isOneOf_itemiter->UU,wpAny_updateSeq_pair->U4,evalArgs_none->U7,wpAny_pyIter_tuple->Va,wpAny_sequenceKey->Vf,wpAny_dictEntries->Vg,wpAny_Call_method->Vh,slot_list_getitem->Vj,noFill_tuple_add->Vs
open PySem.W renaming Frag->O7,nsIn->Qq,mg_none_of->Qx,kitOne->QT,keepIn->Q7,fnOf->Ri,findIn->Ry,kia_one->R1,clsIn->Te,callWith_K->T7,codeIn->Ux,mroIn->UB,specialIn->Vk,methodObj->Vl
open PyProof.Rows renaming wpS_bind->O9,wpS_pure->Pb,wpS_mono->P7,wpS_forRange->Qy,listUpdate_at->QV,wpS_get->QX,wpS_modify->Q8,wpS_lift->RO,listItems_at->R5,slot_tuple_getitem->Sf,callWith_type1->Si,seqEpoch_at->SE,mirror_perm->To,slot_tupleiter_next->T5,get?_update_seq->Uq,call_function_entry_kw->UW,callWith_builtin1->VH
open Nat renaming le_refl->Pa,le_trans->Pw,ne_of_lt->PM,zero_le->PY,lt_of_lt_of_le->Qo,lt_irrefl->QW,le_of_ble_eq_true->Rk,lt_of_le_of_lt->Ro,le_add_right->Rw,mul_le_mul->Rz,zero_add->RD,ne_of_gt->RE,le_of_lt->RG,lt_succ_self->RZ,min_eq_left->S0,succ_mul->Tg,le_sub_one_of_lt->TZ,succ_le_succ->Ui,mul_comm->UH,one_le_iff_ne_zero->UY,add_sub_cancel'->U8,one_lt_two_pow->Vb,lt_succ_of_lt->Vm
open PySem.Heap renaming get?_push_of_some->Pc,lt_size->Pf,get?_push_size->Pp,SameBut->QZ,size_push->Q3,get?_update_ne->Rn,ExtBut->RI,get?_update_other->TX,get?_push_ne->Vq,size_update->Vx
open List renaming map_cons->Pd,length_map->Pe,mem_cons->Pg,getElem?_eq_some_iff->Ph,mem_cons_of_mem->Pj,getElem?_map->Pk,mem_cons_self->Po,mem_map->Pr,replicate->Pu,map_append->Px,append_assoc->Pz,mem_singleton->PB,mem_append->PD,size_toArray->PF,getElem?_eq_getElem->PU,map_map->PX,range->PZ,length_append->P0,mem_append_right->P9,getElem_mem->Qa,getElem?_set_ne->Qe,not_mem_nil->Qf,length_cons->Qg,length_take->Qk,getElem?_set_self->Qm,append_nil->Qp,nodup_cons->Qu,map_nil->Qv,getD_eq_getElem?_getD->QA,take_length->QC,take_succ_eq_append_getElem->QE,cons_append->QG,mem_of_getElem?->QI,foldl_cons->QK,mem_append_left->QM,find?_cons->Q0,nil_append->Q6,getElem?_eq_none->Ra,replicate_succ->Rb,filterMap_cons->Rc,nodup_append->Rf,length_nil->Rg,take_append_drop->Rl,map_congr_left->Rm,getElem?_append_left->Rt,foldr_cons->Rx,filter_cons_of_pos->RQ,perm_append_comm->RU,length_singleton->RV,flatten_cons->RY,forIn_cons->R3,getElem?_append_right->Sk,pairwise_singleton->So,getElem?_of_mem->Ss,pairwise_cons->Sv,getElem?_drop->Sw,flatMap_cons->Sy,sum_append->Sz,sum_cons->SA,length->SG,foldl->SI,filter_cons_of_neg->SJ,take_of_length_le->SK,getElem?_append->SM,getElem?_range->SO,pairwise_map->SS,mem_filter->S6,length_set->S9,zipWith->Th,Sublist->Ti,Nodup->Tu,drop_eq_getElem_cons->TL,getElem?_take_of_lt->TN,eq_of_mem_replicate->TQ,mem_of_mem_take->T3,zipWith_self->Ua,take_sublist->Ub,foldl_append->Uc,ext_getElem?->Ud,zipWith_map->Uj,length_drop->Uk,flatMap_nil->Ul,ext_getElem->Um,of_mem_zip->Ur,pairwise_iff_getElem->UN,getElem?_replicate->UT,dropLast_eq_take->U3,reverse_append->U9,zip_cons_cons->Vc,getElem_range->Vd,take_add_one->Vn,reverse_perm->Vo,drop_sublist->Vp,zipIdx_cons->Vt,mem_flatMap->Vu,lookup_cons->Vv,getElem_map->Vw,Pairwise->VB,drop_append_of_le_length->VL
open Bool renaming false_ne_true->Pn,false_eq_true->Qj,not_true->R4,and_eq_true->SX,eq_iff_iff->Tc
open Option renaming map_eq_some_iff->Pq,isSome_map->RW,getD_some->Uh,bind_eq_some_iff->US
open Ne renaming symm->Py
open PySem.Value renaming ref->PJ,none->Qw,type->QD,bool->RJ,int->RN,str->Tv
open PySem.Expr renaming Name->PK,Call->Qh,Subscript->RA
open PySem.SeqAt renaming EqAt->PN,RcAt->Sb,RcNeAt->UE
open Array renaming getElem?_eq_getElem->PR,toList_push->P8,getElem?_toList->Qi,length_toList->Qn,toList_append->QF,ext'->RL,perm_iff_toList_perm->Sm,getElem?_eq_some_iff->Sn,toList_reverse->Su,getElem?_extract->TY,getElem?_eq_none->U0,mem_toList_iff->U6,getElem_mem->Vr,toList_map->Vz,toList_eraseIdxIfInBounds->VG
open Sum renaming inl->PV,inr->RP
open PySem.Obj renaming mapSeq->P1,data_mapFields->T8
open Int renaming le_trans->P4,toNat_natCast->Qt,le_refl->QH,le_of_lt->Rr,add_mul->RH,zero_mul->R7,pow_pos->Sa,mul_assoc->Tf,zero_add->Tj,one_mul->Tp,lt_of_le_of_lt->T9,mul_nonneg->Uy,add_zero->UI,add_comm->UJ,mul_le_mul_of_nonneg_right->VI
open PySem.Env renaming kindOf->P6
open ForInStep renaming yield->Ql,done->QU
open False renaming elim->Qs
open PySem.Builtin.Int renaming intBits->QJ
open Option.some renaming inj->QS
open PySem.Builtin.SmallTypes renaming nextOf->QY,ownedTupleIsFree->Tw,ownedTupleHandOut->VC
open PySem.Paired renaming length->Q4,snoc->UL
open True renaming intro->Rj
open PySem.NameKind renaming free->Rq
open PySem.Builtin.List renaming listUpdate->Ru,listItems->RT,listLengthHint->Sj,listExtendWith->TF,listTooLong->UQ
open PyProof.Rows.SortSt renaming mk'->RK
open Lean renaming mkPrivateNameCore->RS,mkIdent->R6
open PySem.Shared renaming heap->R9
open PySem.Data renaming cell->Se,fields->Tq
open PySem.F renaming slot_dict_itemiterator_next->Sg,plain_extend_loop->TJ,slot_dict_items->Ue,slot_zip_next->Us,slot_int_rmul->Ut,args_tuple_add_2->UP,entry_tuple_add->UR,slot_tuple_add->UX,slot_dict_get->U1,slot_tuple_mul->Vy,args_dict_itemiterator_next_1->VF,entry_dict_itemiterator_next->VJ,slot_dict_itemiterator_iter->VM
open List.Perm renaming append_left->Sq
open PySem.Heap.SameBut renaming update->SQ
open List.Pairwise renaming nil->SW,filter->U5
open PySem.Builtin.Slice renaming slicePlaces->TM,sliceAdjust->UO
open PySem.Builtin.Tuple renaming tupleExact->TR
open PySem.AutoSeq1 renaming wpAny_loadPart'->TU
open PySem.Builtin.Range renaming rangeSize->TV
open PySem.Around renaming under_plainId->T4
open PySem.Stmt renaming AugAssign->Uv,Assign->UK
open Quotient renaming sound->Uw
open Function renaming comp->UC
open PySem.Operator renaming Add->UG
open PySem.Builtin.Dict_items renaming pairFromOwner->UM,ownedTupleIsFree->VD,ownedTupleFields->VE
open PySem.Calls renaming callWith_builtin->UZ,spliced_cons->Ve
open PySem.Challenge renaming rw_everydraw_k14_raw_rules_by_points_and_li->VA
namespace PySem.W.Fast
theorem tw1744413809647196718:True:=⟨⟩
theorem tw3765709942049484119:True:=⟨⟩
theorem tw1400141102171072835:True:=⟨⟩
theorem tw6631403029061331666:True:=⟨⟩
theorem tw15714811982530188460:True:=⟨⟩
theorem tw177829658203645752:True:=⟨⟩
theorem tw16482702410051089095:True:=⟨⟩
theorem tw969612768622785240:True:=⟨⟩
theorem tw4586286191669537558:True:=⟨⟩
theorem tw13662081517511464727:True:=⟨⟩
theorem tw9888377824960640908:True:=⟨⟩
theorem tw3150622029083644757:True:=⟨⟩
theorem tw5275597767551701272:True:=⟨⟩
theorem tw16874154739317714774:True:=⟨⟩
theorem tw7615747393306489919:True:=⟨⟩
theorem tw15386126743767678997:True:=⟨⟩
theorem tw13173900281782064616:True:=⟨⟩
theorem tw10743585230278364240:True:=⟨⟩
theorem tw17775724096452017847:True:=⟨⟩
theorem tw17312299830690695924:True:=⟨⟩
theorem tw12608694974186713878:True:=⟨⟩
theorem tw5996028074233452768:True:=⟨⟩
theorem tw9104429141962994457:True:=⟨⟩
theorem tw15985135706128349634:True:=⟨⟩
theorem tw2249837578985994386:True:=⟨⟩
theorem tw998600164846001627:True:=⟨⟩
theorem tw11162567267311861204:True:=⟨⟩
theorem tw1957408175655224951:True:=⟨⟩
theorem tw30294397220773226:True:=⟨⟩
theorem tw4889320381352759271:True:=⟨⟩
theorem tw13004492302551694944:True:=⟨⟩
theorem tw494659342804076132:True:=⟨⟩
theorem tw18402021455020764669:True:=⟨⟩
theorem tw3748348749632506187:True:=⟨⟩
theorem tw5223827494525230790:True:=⟨⟩
theorem tw1798220599982165090:True:=⟨⟩
theorem tw9986392003760969369:True:=⟨⟩
theorem tw4545146844637082472:True:=⟨⟩
theorem tw14756867533141014869:True:=⟨⟩
theorem tw15627968998750823307:True:=⟨⟩
theorem tw13162349343690388422:True:=⟨⟩
theorem tw11455609120694782027:True:=⟨⟩
theorem tw355356198798599203:True:=⟨⟩
theorem tw7689044110122448442:True:=⟨⟩
theorem tw1030595764143385794:True:=⟨⟩
theorem tw14960912286867492573:True:=⟨⟩
theorem tw17037676101958972398:True:=⟨⟩
theorem tw10301652583646396453:True:=⟨⟩
theorem tw11999726238589272922:True:=⟨⟩
theorem tw13770474984533758391:True:=⟨⟩
theorem tw16183894091497789759:True:=⟨⟩
theorem tw5005805216449076591:True:=⟨⟩
theorem tw11451389227722619338:True:=⟨⟩
theorem tw17418382887568980163:True:=⟨⟩
theorem tw6335363602876664412:True:=⟨⟩
theorem tw14980625357730231795:True:=⟨⟩
theorem tw11046565317267429739:True:=⟨⟩
theorem tw18426501140933756118:True:=⟨⟩
theorem tw3982497759381333987:True:=⟨⟩
theorem tw2082930354412040981:True:=⟨⟩
theorem tw11573415324586534019:True:=⟨⟩
theorem tw5666295983514801127:True:=⟨⟩
theorem tw2072907251195784170:True:=⟨⟩
theorem tw3228058361747307920:True:=⟨⟩
theorem tw10206419704234469470:True:=⟨⟩
theorem tw1965596192689069581:True:=⟨⟩
theorem tw18205664879062280416:True:=⟨⟩
theorem tw6249791026270741922:True:=⟨⟩
theorem tw12153846413014574300:True:=⟨⟩
theorem tw10718717766202980553:True:=⟨⟩
theorem tw14647428536140825225:True:=⟨⟩
theorem tw787846941654570040:True:=⟨⟩
theorem tw3940939986657446476:True:=⟨⟩
theorem tw14296952028260046787:True:=⟨⟩
theorem tw3198214236837750799:True:=⟨⟩
theorem tw14306791380194130122:True:=⟨⟩
theorem tw14435729943098789593:True:=⟨⟩
theorem tw8069438707478464025:True:=⟨⟩
theorem tw974890836911174076:True:=⟨⟩
theorem tw15246491401376994031:True:=⟨⟩
theorem tw10941366533731505546:True:=⟨⟩
theorem tw5684437690449419769:True:=⟨⟩
theorem tw10156110614152721757:True:=⟨⟩
theorem tw17682974852565673558:True:=⟨⟩
theorem tw17578734813836545938:True:=⟨⟩
theorem tw12857291392519083893:True:=⟨⟩
theorem tw9246114692171486661:True:=⟨⟩
theorem tw17891730683048605525:True:=⟨⟩
theorem tw3324616738796011550:True:=⟨⟩
theorem tw8992589222933801676:True:=⟨⟩
theorem tw3120353305002512172:True:=⟨⟩
theorem tw13019112855279061535:True:=⟨⟩
theorem tw9183516450969480170:True:=⟨⟩
theorem tw6515951395926236404:True:=⟨⟩
theorem tw1539499681004468232:True:=⟨⟩
theorem tw13168893303318565794:True:=⟨⟩
theorem tw924729997255887900:True:=⟨⟩
theorem tw6940184844413895589:True:=⟨⟩
theorem tw6441991231084519903:True:=⟨⟩
theorem tw15073112497048455740:True:=⟨⟩
end PySem.W.Fast
local macro_rules | `(tactic| walk_at "u") => `(tactic| with_unfolding_all rfl)
namespace L2
open PySem PySem.Spec PyProof.Rows
noncomputable abbrev Key:=Sum Int Str
noncomputable def j6:Key->Value->Bool
 | .inl k,v=>Value.isInt k v
 | .inr x,v=>Value.isStrOf x v
noncomputable def Ng (w:World):Key->Int
 | .inl k=>hashInt k
 | .inr x=>hashStr w x
theorem bF:∀ {k:Key} {v:Value},j6 k v=true->(∃ i t,k=PV i/\v=RN i t)\/(∃ x t,k=RP x/\v=Tv x t)
 | .inl i,v,h=>by
  obtain ⟨t,e⟩:=Value.isInt_shape (k:=i) (v:=v) h
  exact .inl ⟨i,t,rfl,e⟩
 | .inr x,v,h=>by
  obtain ⟨t,e⟩:=Value.isStrOf_shape (x:=x) (v:=v) h
  exact .inr ⟨x,t,rfl,e⟩
theorem wI (i) (t:Tok):j6 (.inl i) (.int i t)=true:=by simp [j6,Value.isInt]
theorem wJ (x) (t:Tok):j6 (.inr x) (.str x t)=true:=by simp [j6,Value.isStrOf]
theorem GN (a b):decide ((PV a:Key)=PV b)=(a == b):=by
 by_cases e:a=b
 ·subst e; simp
 ·have h:¬ (PV a:Key)=PV b:=λq=>e (PV.inj q)
  rw [decide_eq_false h]
  exact (beq_eq_false_iff_ne.mpr e).symm
theorem GO (a b):decide ((RP a:Key)=RP b)=decide (a=b):=by
 by_cases e:a=b
 ·subst e; simp
 ·have h:¬ (RP a:Key)=RP b:=λq=>e (RP.inj q)
  rw [decide_eq_false h,decide_eq_false e]
theorem GP (a) (b):decide ((PV a:Key)=RP b)=false:=decide_eq_false (λq=>nomatch q)
theorem GQ (a) (b):decide ((RP a:Key)=PV b)=false:=decide_eq_false (λq=>nomatch q)
noncomputable def bU (prog:Program) (w:World):PySem.KeyKind prog w Key where
 is:=j6
 hash:=Ng w
 inj:=λv a b ha hb=>by
  rcases bF ha with ⟨i,t,rfl,rfl⟩ | ⟨x,t,rfl,rfl⟩
  ·rcases bF hb with ⟨j,u,rfl,e⟩ | ⟨y,u,rfl,e⟩
   ·injection e with e1 _; rw [e1]
   ·exact nomatch e
  ·rcases bF hb with ⟨j,u,rfl,e⟩ | ⟨y,u,rfl,e⟩
   ·exact nomatch e
   ·injection e with e1 _; rw [e1]
 byValue:=λk v h=>by
  rcases bF h with ⟨i,t,rfl,rfl⟩ | ⟨x,t,rfl,rfl⟩ <;> rfl
 pyHash:=λhv h=>by
  rcases bF hv with ⟨i,t,rfl,rfl⟩ | ⟨x,t,rfl,rfl⟩
  ·exact wpAny_pyHash_int h
  ·exact wpAny_pyHash_str h
 eqBool:=λhu hv h=>by
  rcases bF hu with ⟨i,t,rfl,rfl⟩ | ⟨x,t,rfl,rfl⟩
  ·rcases bF hv with ⟨j,u,rfl,rfl⟩ | ⟨y,u,rfl,rfl⟩
   ·rw [GN] at h; exact wpAny_eqBool_int h
   ·rw [GP] at h; exact PN.int_str i t y u _ _ _ _ h
  ·rcases bF hv with ⟨j,u,rfl,rfl⟩ | ⟨y,u,rfl,rfl⟩
   ·rw [GQ] at h; exact PN.str_int x t j u _ _ _ _ h
   ·rw [GO] at h; exact wpAny_eqBool_str h
 «strs» :=λk x t v h=>by
  rcases bF h with ⟨i,u,rfl,e⟩ | ⟨y,u,rfl,e⟩
  ·exact nomatch e
  ·injection e with e1 _
   subst e1
   cases v <;> rfl
theorem pV (prog) (w) (i) (t:Tok):(bU prog w).is (.inl i) (.int i t)=true:=wI i t
theorem pW (prog) (w) (x) (t:Tok):(bU prog w).is (.inr x) (.str x t)=true:=wJ x t
inductive V where
 | non | bl (b:Bool) | int (i:Int) | str (x:Str) | byt (b:Array UInt8) | flt (b:UInt64) | ref (a:Addr) | ty (n:String)
 deriving DecidableEq
noncomputable def RelV:V->Value->Prop
 | .non,u=>u=Qw
 | .bl b,u=>u=RJ b
 | .int i,u=>∃ t,u=RN i t
 | .str x,u=>∃ t,u=Tv x t
 | .byt b,u=>∃ t,u=Value.bytes b t
 | .flt b,u=>∃ t,u=Value.float b t
 | .ref a,u=>u=PJ a
 | .ty n,u=>u=QD n
noncomputable abbrev Vals:List V->List Value->Prop:=Paired RelV
theorem Vals.length (r:Vals xs us):xs.length=us.length:=Q4 r
theorem Vals.get:∀ {xs:List V} {us:List Value} {i:Nat} {x:V},Vals xs us->xs[i]?=some x->∃ u,us[i]?=some u/\RelV x u
 | _,_,_,_,.nil,e=>by simp at e
 | _,_,0,_,.cons r _,e=>by simp at e; subst e; exact ⟨_,rfl,r⟩
 | _,_,i+1,x,.cons _ t,e=>by
  obtain ⟨u,h1,h2⟩:=Vals.get (i:=i) (x:=x) t (by simpa using e)
  exact ⟨u,by simpa using h1,h2⟩
theorem Vals.set (r:RelV x u):∀ {xs:List V} {us:List Value} (i:Nat),Vals xs us->Vals (xs.set i x) (us.set i u)
 | _,_,_,.nil=>.nil
 | _,_,0,.cons _ t=>.cons r t
 | _,_,i+1,.cons q t=>.cons q (Vals.set r i t)
theorem Vals.append:∀ {xs ys:List V} {us ws:List Value},Vals xs us->Vals ys ws->Vals (xs++ys) (us++ws)
 | _,_,_,_,.nil,s=>s
 | _,_,_,_,.cons r t,s=>.cons r (Vals.append t s)
theorem Vals.take:∀ {xs:List V} {us:List Value} (n:Nat),Vals xs us->Vals (xs.take n) (us.take n)
 | _,_,0,_=>.nil
 | _,_,_+1,.nil=>.nil
 | _,_,n+1,.cons r t=>.cons r (Vals.take n t)
theorem Vals.drop:∀ {xs:List V} {us:List Value} (n:Nat),Vals xs us->Vals (xs.drop n) (us.drop n)
 | _,_,0,r=>r
 | _,_,_+1,.nil=>.nil
 | _,_,n+1,.cons _ t=>Vals.drop n t
noncomputable def jD:Option V->Option Value->Prop
 | some v,some u=>RelV v u
 | none,none=>True
 | _,_=>False
noncomputable def KV {κ:Type}:List (κ×V)->List (κ×Value)->Prop:=Paired λ(p:κ×V) (q:κ×Value)=>p.1=q.1/\RelV p.2 q.2
noncomputable def kV:Key->V
 | .inl i=>.int i
 | .inr x=>.str x
inductive HO where
 | lst (xs:List V)
 | tup (xs:List V)
 | dK (kvs:List (Key×V)) | dT (kvs:List (List Key×Addr×V))
 | set (S:Int->Bool) (n:Nat)
 | ins (C dx:Addr) (fs:List (Str×V))
 | own (x:Addr)
 | xd (fs:List (Str×V))
 | met (f x:Addr)
 | rng (lo hi:Int)
 | frz (o:Obj) (u:HO)
 | tbl (ps:Array Value)
 | ext (φ :Heap->Prop)
noncomputable abbrev Hp:=Addr->Option HO
noncomputable def upd (H:Hp) (a:Addr) (o:HO):Hp:=λb=>if b=a then some o else H b
theorem af:upd H a o a=some o:=by unfold upd; rw [if_pos rfl]
theorem ah (h:b≠a):upd H a o b=H b:=by unfold upd; rw [if_neg h]
theorem jO:upd (upd H a o) a u=upd H a u:=by
 funext b; unfold upd; split <;> rfl
theorem aE {H:Hp} (h:H a=some o) (h':H b=none):a≠b:=by
 intro e; subst e; rw [h] at h'; cases h'
section
variable (P:Program) (w:World)
noncomputable def bz (H:Hp) (h:Heap) (a:Addr):HO->Prop
 | .lst xs=>xs.length<=sizeLine/\∃ (its:List Value) (n:Nat),Vals xs its/\h.get? a=some { cls:=.type "list",data:=.seq its.toArray n }
 | .tup xs=>xs.length<=sizeLine/\∃ its:List Value,Vals xs its/\IsTup h a its.toArray
 | .dK kvs=>kvs.length<=sizeLine/\(a == sysModules)=false/\∃ vs,KV kvs vs/\h.DictOf (bU P w) a vs
 | .dT kvs=>kvs.length<=sizeLine/\(a == sysModules)=false/\∃ xs:List (List Key×Addr×Value),
  Paired (λ(p:List Key×Addr×V) (q:List Key×Addr×Value)=>p.1=q.1/\p.2.1=q.2.1/\RelV p.2.2 q.2.2) kvs xs /\
  ∃ o es ep,h.get? a=some o/\o.ExactDict/\o.data=.dict es ep/\es.toList=xs.map (entryOfKey (tupleKind (bU P w)))/\(xs.map (·.1)).Nodup
 | .set S n=>h.SetOf (intKind P w) a S n
 | .ins C dx fs=>H dx=some (.own a)/\fs.length<=1000/\dx≠a/\h.get? a=some (PySem.W.instObj C dx) /\
  ∃ mA,h.Ns1 dx mA/\(∀ f,jD (fs.lookup f) (mA f))/\PySem.Within mA (fs.map (·.1))
 | .own _=>∃ o,h.get? a=some o
 | .xd fs=>∃ mA,h.Ns1 a mA/\∀ f,jD (fs.lookup f) (mA f)
 | .rng lo hi=>∃ t u v,h.get? a=some { cls:=.type "range",data:=.fields #[.int lo t,.int hi u,.int 1 v] }
 | .frz o u=>h.get? a=some o/\bz H h a u
 | .tbl ps=>h.get? a=some { cls:=.none,data:=.fields ps }
 | .met f x=>h.get? a=some (Vl (.ref f) (.ref x))
 | .ext φ => φ h/\(∃ o,h.get? a=some o)/\∀ h1 h2:Heap,φ h1->(∀ o,h1.get? a=some o->h2.get? a=some o)-> φ h2
def iX (H:Hp) (h:Heap):Prop:=∀ a o,H a=some o->bz P w H h a o
end
theorem bz.lt (x:bz P w H h a o):a<h.objs.size:=by
 cases o with
 | lst xs=>obtain ⟨_,_,_,_,e⟩:=x; exact Pf e
 | tup xs=>obtain ⟨_,_,_,p⟩:=x; exact p.lt
 | dK kvs=>obtain ⟨_,_,_,_,o,_,_,e,_⟩:=x; exact Pf e
 | dT kvs=>obtain ⟨_,_,_,_,o,_,_,e,_⟩:=x; exact Pf e
 | set S n=>obtain ⟨o,_,_,_,e,_⟩:=x; exact Pf e
 | ins C dx fs=>obtain ⟨_,_,_,e,_⟩:=x; exact Pf e
 | own y=>obtain ⟨_,e⟩:=x; exact Pf e
 | xd fs=>obtain ⟨_,⟨_,_,_,e,_⟩,_⟩:=x; exact Pf e
 | rng lo hi=>obtain ⟨_,_,_,e⟩:=x; exact Pf e
 | frz ob u=>obtain ⟨e,_⟩:=x; exact Pf e
 | tbl ps=>exact Pf (show h.get? a=some _ from x)
 | met f y=>exact Pf (show h.get? a=some _ from x)
 | ext φ =>obtain ⟨_,⟨_,e⟩,_⟩:=x; exact Pf e
theorem Paired.GR:∀ {l₁:List α} {l₂:List β},Paired F l₁ l₂->(∀ a b,F a b->G a b)->Paired G l₁ l₂
 | _,_,.nil,_=>.nil
 | _,_,.cons r t,f=>.cons (f _ _ r) (Paired.GR t f)
theorem bz.stay (x:bz P w H h a o) (k:∀ b u,(b=a\/H b=some (.own a))->h.get? b=some u->h'.get? b=some u)
 (ho:∀ b,H b=some (.own a)->H' b=some (.own a)) (ht:∀ b xs,H b=some (.tup xs)->H' b=some (.tup xs)):bz P w H' h' a o:=by
 induction o with
 | lst xs=>obtain ⟨z,its,n,r,e⟩:=x; exact ⟨z,its,n,r,k _ _ (.inl rfl) e⟩
 | tup xs=>obtain ⟨z,its,r,ob,e,c⟩:=x; exact ⟨z,its,r,ob,k _ _ (.inl rfl) e,c⟩
 | dK kvs=>obtain ⟨z,y,vs,r,ob,es,ep,e,c⟩:=x; exact ⟨z,y,vs,r,ob,es,ep,k _ _ (.inl rfl) e,c⟩
 | dT kvs =>
  obtain ⟨z,y,xs,r,ob,es,ep,e,c⟩:=x
  exact ⟨z,y,xs,r,ob,es,ep,k _ _ (.inl rfl) e,c⟩
 | set S n=>obtain ⟨ob,es,ep,t,e,c⟩:=x; exact ⟨ob,es,ep,t,k _ _ (.inl rfl) e,c⟩
 | ins C dx fs =>
  obtain ⟨d,z,ne,e,mA,⟨od,es,ep,e2,c⟩,r⟩:=x
  exact ⟨ho _ d,z,ne,k _ _ (.inl rfl) e,mA,⟨od,es,ep,k _ _ (.inr d) e2,c⟩,r⟩
 | own y=>obtain ⟨ob,e⟩:=x; exact ⟨ob,k _ _ (.inl rfl) e⟩
 | xd fs=>obtain ⟨mA,⟨od,es,ep,e,c⟩,r⟩:=x; exact ⟨mA,⟨od,es,ep,k _ _ (.inl rfl) e,c⟩,r⟩
 | rng lo hi=>obtain ⟨t,u,v,e⟩:=x; exact ⟨t,u,v,k _ _ (.inl rfl) e⟩
 | frz ob u ih=>obtain ⟨e,q⟩:=x; exact ⟨k _ _ (.inl rfl) e,ih q⟩
 | tbl ps =>
  have e:h.get? a=some { cls:=.none,data:=.fields ps }:=x
  show h'.get? a=some { cls:=.none,data:=.fields ps }
  exact k a _ (.inl rfl) e
 | met f y =>
  have e:h.get? a=some (Vl (.ref f) (.ref y)):=x
  show h'.get? a=some (Vl (.ref f) (.ref y))
  exact k a _ (.inl rfl) e
 | ext φ =>obtain ⟨p,⟨o,e⟩,st⟩:=x; exact ⟨st _ _ p λo q=>k _ _ (.inl rfl) q,⟨o,k _ _ (.inl rfl) e⟩,st⟩
theorem iX.lt (x:iX P w H h) (e:H a=some o):a<h.objs.size:=(x a o e).lt
theorem iX.fresh (x:iX P w H h) (e:h.objs.size<=a):H a=none:=by
 cases q:H a with
 | none=>rfl
 | some u=>exact absurd (Qo (x.lt q) e) (QW _)
theorem iX.kept (x:iX P w H h) (k:∀ b u,h.get? b=some u->h'.get? b=some u):iX P w H h':=λa o e =>
 (x a o e).stay (λb u _ q=>k b u q) (λ_ q=>q) λ_ _ q=>q
theorem iX.laid (x:iX P w H h) (k:∀ b u,h.get? b=some u->h'.get? b=some u) (hp:h.objs.size<=a) (new:bz P w (upd H a o) h' a o):iX P w (upd H a o) h':=λb u e=>by
 have hn:=x.fresh hp
 by_cases hb:b=a
 ·subst hb; rw [af] at e; cases e; exact new
 ·rw [ah hb] at e
  exact (x b u e).stay (λc v _ q=>k c v q) (λc q=>by rw [ah (aE q hn)]; exact q) λc xs q=>by rw [ah (aE q hn)]; exact q
def Rd (H:Hp) (a:Addr) (u:HO):Prop:=H a=some u\/∃ o,H a=some (.frz o u)
theorem Rd.ok (r:Rd H a u) (x:iX P w H h):bz P w H h a u:=by
 rcases r with r | ⟨o,r⟩
 ·exact x a u r
 ·obtain ⟨_,q⟩:=x a _ r
  exact q
noncomputable def KI:Option HO->Prop
 | some (.lst _)=>True
 | some (.dK _)=>True
 | some (.dT _)=>True
 | some (.set _ _)=>True
 | some (.ins _ _ _)=>True
 | some (.ext _)=>True
 | _=>False
theorem iX.write (ok:iX P w H h) (mu:KI (H x)) (he:e=x\/H e=some (.own x)) (k:∀ b u,b≠e->h.get? b=some u->h'.get? b=some u) (heo:∃ u,h'.get? e=some u)
 (new:bz P w (upd H x o') h' x o'):iX P w (upd H x o') h':=λb u q=>by
 have nown:∀ c y,H c=some (.own y)->c≠x:=λc y r z=>by subst z; rw [r] at mu; exact mu
 have ntup:∀ c xs,H c=some (.tup xs)->c≠x:=λc xs r z=>by subst z; rw [r] at mu; exact mu
 by_cases hb:b=x
 ·subst hb; rw [af] at q; cases q; exact new
 ·rw [ah hb] at q
  by_cases hbe:b=e
  ·have q':H b=some (.own x):=by
    rcases he with z | z
    ·exact absurd (hbe.trans z) hb
    ·rw [hbe]; exact z
   rw [q] at q'; cases q'
   obtain ⟨v,hv⟩:=heo
   exact ⟨v,by rw [hbe]; exact hv⟩
  ·refine (ok b u q).stay (λc v hc r=>k c v ?_ r) (λc r=>by rw [ah (nown c b r)]; exact r) λc xs r=>by rw [ah (ntup c xs r)]; exact r
   rcases hc with rfl | hc
   ·exact hbe
   ·rintro rfl
    rcases he with z | z
    ·exact nown c b hc z
    ·rw [hc] at z; cases z; exact hb rfl
structure Un (fs ex:List Addr) (H H':Hp) (h h':Heap):Prop where
 keep:∀ b o,h.get? b=some o->H b=none->b∉fs->b∉ex->h'.get? b=some o
 slot:∀ b o,h.get? b=some o->H b=none->b∈fs->b∉ex->∃ sl,h'.get? b=some { o with slots:=sl }
 free:∀ b o,h.get? b=some o->H b=none->b∉ex->H' b=none
 there:∀ b o,h.get? b=some o->b∉ex->∃ o',h'.get? b=some o'
 tups:∀ b xs,H b=some (.tup xs)->H' b=some (.tup xs)
 frzs:∀ b o u,H b=some (.frz o u)->H' b=some (.frz o u)
 tbls:∀ b ps,H b=some (.tbl ps)->∃ more,H' b=some (.tbl (ps++more))
section
variable {fs fs' ex ex':List Addr} {H H1 H2:Hp} {h h1 h2 h':Heap} {a x e:Addr} {o:HO}
theorem Un.any (u:Un fs ex H H1 h h1) (q:h.get? b=some ob) (n:H b=none) (hx:b∉ex):∃ sl,h1.get? b=some { ob with slots:=sl }:=by
 by_cases hb:b∈fs
 ·exact u.slot b ob q n hb hx
 ·exact ⟨ob.slots,u.keep b ob q n hb hx⟩
theorem Un.kept (k:∀ b u,h.get? b=some u->h'.get? b=some u):Un fs ex H H h h' :=
 ⟨λb ob q _ _ _=>k b ob q,λb ob q _ _ _=>⟨ob.slots,k b ob q⟩,λ_ _ _ n _=>n,λb ob q _=>⟨ob,k b ob q⟩,λ_ _ q=>q,λ_ _ _ q=>q,λ_ ps q=>⟨#[],by rw [q]; simp⟩⟩
theorem Un.refl:Un fs ex H H h h:=Un.kept λ_ _ q=>q
theorem Un.laid (k:∀ b u,h.get? b=some u->h'.get? b=some u) (hp:h.objs.size<=a) (hn:H a=none):Un fs ex H (upd H a o) h h' where
 keep:=λb u q _ _ _=>k b u q
 slot:=λb u q _ _ _=>⟨u.slots,k b u q⟩
 free:=λb u q n _=>by rw [ah (PM (Qo (Pf q) hp))]; exact n
 there:=λb u q _=>⟨u,k b u q⟩
 tups:=λb xs q=>by rw [ah (aE q hn)]; exact q
 frzs:=λb u xs q=>by rw [ah (aE q hn)]; exact q
 tbls:=λb ps q=>⟨#[],by rw [ah (aE q hn),q]; simp⟩
theorem Un.write (mu:KI (H x)) (he:e=x\/H e=some (.own x)) (k:∀ b u,b≠e->h.get? b=some u->h'.get? b=some u) (heo:∃ u,h'.get? e=some u):Un fs ex H (upd H x o) h h':=by
 have hx:∀ b,H b=none->b≠x:=λb n z=>by subst z; rw [n] at mu; exact mu
 have hb:∀ b,H b=none->b≠e:=λb n z=>by
  subst z
  rcases he with r | r
  ·exact hx b n r
  ·rw [n] at r; cases r
 have hm:∀ b u,H b=some u->¬ KI (some u)->b≠x:=λb u q nm z=>by subst z; rw [q] at mu; exact nm mu
 refine ⟨λb u q n _ _=>k b u (hb b n) q,λb u q n _ _=>⟨u.slots,k b u (hb b n) q⟩,λb u q n _=>by rw [ah (hx b n)]; exact n,λb u q _=>?_,
  λb xs q=>by rw [ah (hm b _ q λz=>z)]; exact q,λb u xs q=>by rw [ah (hm b _ q λz=>z)]; exact q,λb ps q=>⟨#[],by rw [ah (hm b _ q λz=>z),q]; simp⟩⟩
 by_cases hbe:b=e
 ·subst hbe; exact heo
 ·exact ⟨u,k b u hbe q⟩
end
noncomputable def MW (h:Heap) (H:Hp):List Addr:=(PZ h.objs.size).filter λa=>(H a).isSome
noncomputable def nK (h:Heap) (H:Hp):Heap:=PySem.W.hideAll h (MW h H)
theorem wK (h) (H):(nK h H).objs.size=h.objs.size:=PySem.W.hideAll_size _ _
theorem yQ (e:h.get? b=some o) (n:H b=none):(nK h H).get? b=some o :=
 PySem.W.hideAll_get _ e λhm=>by
  have q:(H b).isSome=true:=(S6.mp hm).2
  rw [n] at q; simp at q
theorem Df (e:(nK h H).get? b=some o):h.get? b=some o/\H b=none:=by
 have e':h.get? b=some o:=PySem.W.of_hideAll (MW h H) e
 refine ⟨e',?_⟩
 cases q:H b with
 | none=>rfl
 | some x =>
  have hm:b∈MW h H:=S6.mpr ⟨List.mem_range.mpr (Pf e'),by simp [q]⟩
  have z:(nK h H).get? b=none:=PySem.W.hideAll_none (MW h H) hm
  rw [z] at e; cases e
structure Mod (K:O7) (mg:Str->Option Value) (base:Heap):Prop where
 kin:K.In base
 glob:base.Ns mainGlobals mg
 blt:∃ mb,base.Ns builtinsNs mb/\∀ x:Str,x≠"__name__"->mb x=bootBuiltins x
 nolimit:base.NoLimit
structure Cx where
 prog:Program
 w:World
 K:O7
 mg:Str->Option Value
 base:Heap
 A:Around
 N:List Str
 s₀:Shared
 H₀:Hp
 env:Env
 outer:List Env
 stack:List Env
 ex:List Addr
 fn:Str->Bool
 calm:Bool
 pn:List (Addr×Obj)
 xe:Value->Shared->Prop
noncomputable def frs (l:List Env):List Addr:=l.filterMap (·.frame)
noncomputable abbrev Cx.fs (X:Cx):List Addr:=frs X.outer
def Nh (sc:Scope) (x:Str):Prop:=sc.names.lookup x=some .local\/sc.names.lookup x=some .cell\/sc.names.lookup x=some .free
def Loc (sc:Scope) (x:Str):Prop:=sc.names.lookup x=some .local\/sc.names.lookup x=some .cell
def Look (env:Env) (h:Heap) (m:Str->Option Value) (x:Str) (u:Value):Prop :=
 (env.kindOf x=some .local/\m x=some u)\/((env.kindOf x=some .cell\/env.kindOf x=some .free)/\∃ c,env.cells.lookup x=some c/\h.IsCell c (some u))
structure Cx.Ok (X:Cx):Prop where
 mod:Mod X.K X.mg X.base
 kind:X.env.scope.kind=.function
 glob:X.env.globals=mainGlobals
 blt:X.env.builtins=builtinsNs
 above:X.s₀.heap.objs.size<=X.env.locals
 inj:∀ x y c,X.env.cells.lookup x=some c->X.env.cells.lookup y=some c->x=y
 has:∀ x,(X.env.kindOf x=some .cell\/X.env.kindOf x=some .free)->∃ c,X.env.cells.lookup x=some c
 cab:∀ x c,X.fn x=true->X.env.cells.lookup x=some c->X.s₀.heap.objs.size<=c
 hd:X.calm=true->X.A.handled=none
 frames:X.A.frames=some X.stack
 stk:X.stack=X.outer\/(X.stack=X.env::X.outer/\X.env.frame=some X.env.locals)
 exf:∀ b∈X.ex,b≠X.env.locals/\∀ x c,X.env.cells.lookup x=some c->c≠b
 bs:∀ b o,X.base.get? b=some o->X.s₀.heap.get? b=some o/\X.H₀ b=none
 bsz:X.base.objs.size<=X.s₀.heap.objs.size
 noex:∀ b o,X.base.get? b=some o->b∉X.ex
 exfs:∀ b∈X.ex,b∉X.fs
 iY:X.s₀.heap.FunFrames X.base X.outer
 frf:∀ b∈X.fs,X.H₀ b=none
structure Inv (X:Cx) (aa:List (Addr×Obj)) (σ:List (Option V)) (H:Hp) (s:Shared):Prop where
 ok:X.Ok
 os:s.os=X.s₀.os
 bare:AllBare s.gens
 base:Un X.fs X.ex X.H₀ H X.s₀.heap s.heap
 loc:∃ m,s.heap.Ns X.env.locals m/\∀ (i:Nat) (x:Str) (v:V),X.N[i]?=some x->σ[i]?=some (some v)->Nh X.env.scope x->∃ u,RelV v u/\Look X.env s.heap m x u
 cell:∀ x c,X.env.cells.lookup x=some c->∃ v,s.heap.IsCell c v
 free:H X.env.locals=none
 freeC:∀ x c,X.env.cells.lookup x=some c->H c=none
 pin:∀ p∈X.pn++aa,s.heap.get? p.1=some p.2/\H p.1=none/\p.1≠X.env.locals/\p.1∉X.fs/\∀ v,p.2.data≠.cell v
 hok:iX X.prog X.w H s.heap
 len:σ.length=X.N.length
section
variable {X:Cx}
theorem Cx.Ok.Ni (ok:X.Ok) (e:X.base.get? b=some o):b∉X.fs:=λhb=>by
 have:=(ok.iY.mem hb).1
 rw [e] at this; cases this
theorem Inv.bs (I:Inv X aa σ H s):∀ b o,X.base.get? b=some o->s.heap.get? b=some o/\H b=none:=λb o e =>
 ⟨I.base.keep b o (I.ok.bs b o e).1 (I.ok.bs b o e).2 (I.ok.Ni e) (I.ok.noex b o e),I.base.free b o (I.ok.bs b o e).1 (I.ok.bs b o e).2 (I.ok.noex b o e)⟩
theorem Inv.bk (I:Inv X aa σ H s):∀ b o,X.base.get? b=some o->s.heap.get? b=some o:=λb o e=>(I.bs b o e).1
theorem Inv.mod (I:Inv X aa σ H s):Mod X.K X.mg X.base:=I.ok.mod
theorem Inv.nL (I:Inv X aa σ H s):X.K.In s.heap:=I.ok.mod.kin.keeps I.bk
theorem Inv.lt (I:Inv X aa σ H s):X.env.locals<s.heap.objs.size:=let ⟨_,hn,_⟩:=I.loc; hn.lt
theorem Inv.sz (I:Inv X aa σ H s):X.s₀.heap.objs.size<=s.heap.objs.size:=Pw I.ok.above (RG I.lt)
theorem Inv.KJ (I:Inv X aa σ H s) (h:s.heap.objs.size<=a):a∉X.fs:=λhb=>by
 obtain ⟨_,o,ho,_⟩:=I.ok.iY.mem hb
 exact absurd (Qo (Pf ho) (Pw I.sz h)) (QW _)
theorem Inv.GS (I:Inv X aa σ H s):∀ x c,X.env.cells.lookup x=some c->c≠X.env.locals:=λx c e z=>by
 obtain ⟨v,o,ho,hd⟩:=I.cell x c e
 obtain ⟨m,⟨o',es,ep,ho',hd',_⟩,_⟩:=I.loc
 rw [z,ho'] at ho; cases ho; rw [hd'] at hd; cases hd
theorem Inv.iY (I:Inv X aa σ H s):s.heap.FunFrames X.base X.outer:=by
 have all:∀ (l:List Env),(∀ b∈frs l,b∈X.fs)->X.s₀.heap.FunFrames X.base l->s.heap.FunFrames X.base l:=by
  intro l
  induction l with
  | nil=>intro _ _; trivial
  | cons env r ih =>
   intro hs hl
   obtain ⟨hk,⟨L,o,hf,hn,ho,hd⟩,hr⟩:=hl
   have hL:L∈X.fs:=hs L (by unfold frs; rw [Rc,hf]; exact Po)
   obtain ⟨sl,e⟩:=I.base.slot L o ho (I.ok.frf L hL) hL λz=>I.ok.exfs L z hL
   exact ⟨hk,⟨L,_,hf,hn,e,hd⟩,ih (λb hb=>hs b (by unfold frs; rw [Rc,hf]; exact Pj _ hb)) hr⟩
 exact all X.outer (λ_ hb=>hb) I.ok.iY
theorem Inv.stack (I:Inv X aa σ H s):s.heap.FunFrames X.base X.stack:=by
 rcases I.ok.stk with e | ⟨e,hf⟩
 ·rw [e]; exact I.iY
 ·rw [e]
  obtain ⟨m,hn,_⟩:=I.loc
  refine .cons (by rw [I.ok.kind]; decide) hf hn ?_ I.iY
  exact Heap.get?_none_of_le (Pw I.ok.bsz I.ok.above)
theorem Inv.sA (I:Inv X aa σ H s):∀ b∈frs X.stack,b∈X.env.locals::X.fs:=λb hb=>by
 rcases I.ok.stk with e | ⟨e,hf⟩
 ·rw [e] at hb; exact Pj _ hb
 ·rw [e] at hb
  unfold frs at hb
  rw [Rc,hf] at hb
  exact hb
theorem Inv.uq (I:Inv X aa σ H s):∀ b∈frs X.stack,H b=none:=λb hb=>by
 rcases Pg.mp (I.sA b hb) with e | hb
 ·rw [e]; exact I.free
 ·obtain ⟨_,o,ho,_⟩:=I.ok.iY.mem hb
  exact I.base.free b o ho (I.ok.frf b hb) λz=>I.ok.exfs b z hb
theorem Inv.step {ch:List Addr} (I:Inv X aa σ H s)
 (hch:∀ b∈ch,(b∈X.ex\/X.s₀.heap.objs.size<=b)/\b≠X.env.locals/\(∀ x c,X.env.cells.lookup x=some c->c≠b)/\∀ p∈X.pn++aa,p.1≠b)
 (keep:∀ b o,b≠X.env.locals->b∉X.fs->b∉ch->s.heap.get? b=some o->H b=none->h'.get? b=some o)
 (slot:∀ b o,b≠X.env.locals->b∈X.fs->b∉ch->s.heap.get? b=some o->H b=none->∃ sl,h'.get? b=some { o with slots:=sl }) (free:∀ b o,b∉ch->s.heap.get? b=some o->H b=none->H' b=none)
 (there:∀ b o,b∉ch->s.heap.get? b=some o->∃ o',h'.get? b=some o')
 (tups:∀ b xs,H b=some (.tup xs)->H' b=some (.tup xs)) (frzs:∀ b o u,H b=some (.frz o u)->H' b=some (.frz o u)) (tbls:∀ b ps,H b=some (.tbl ps)->∃ more,H' b=some (.tbl (ps++more)))
 (ns:∀ m,s.heap.Ns X.env.locals m->h'.Ns X.env.locals m) (hok:iX X.prog X.w H' h') (hg:AllBare g') :
 Inv X aa σ H' { s with heap:=h',gens:=g',drawn:=d',toks:=t' }:=by
 have neL:∀ b o,X.s₀.heap.get? b=some o->b≠X.env.locals:=λb o e=>PM (Qo (Pf e) I.ok.above)
 have neC:∀ b o,X.s₀.heap.get? b=some o->b∉X.ex->b∉ch:=λb o e hx hb=>by
  rcases (hch b hb).1 with z | z
  ·exact hx z
  ·exact absurd (Qo (Pf e) z) (QW _)
 have cellK:∀ x c,X.env.cells.lookup x=some c->∀ v,s.heap.IsCell c v->h'.IsCell c v:=λx c e v ⟨o,ho,hd⟩=>by
  have nch:c∉ch:=λz=>(hch c z).2.2.1 x c e rfl
  by_cases hc:c∈X.fs
  ·obtain ⟨sl,q⟩:=slot c o (I.GS x c e) hc nch ho (I.freeC x c e)
   exact ⟨_,q,hd⟩
  ·exact ⟨o,keep c o (I.GS x c e) hc nch ho (I.freeC x c e),hd⟩
 refine ⟨I.ok,I.os,hg,⟨λb o e n hb hx=>?_,λb o e n hb hx=>?_,λb o e n hx=>?_,λb o e hx=>?_,λb xs e=>tups b xs (I.base.tups b xs e),λb o xs e=>frzs b o xs (I.base.frzs b o xs e),λb ps e=>?_⟩,?_,λx c e=>?_,?_,λx c e=>?_,λp hp=>?_,hok,I.len⟩
 ·exact keep b o (neL b o e) hb (neC b o e hx) (I.base.keep b o e n hb hx) (I.base.free b o e n hx)
 ·obtain ⟨sl,e1⟩:=I.base.slot b o e n hb hx
  obtain ⟨sl',e2⟩:=slot b _ (neL b o e) hb (neC b o e hx) e1 (I.base.free b o e n hx)
  exact ⟨sl',e2⟩
 ·obtain ⟨o',e1⟩:=I.base.there b o e hx
  exact free b o' (neC b o e hx) e1 (I.base.free b o e n hx)
 ·obtain ⟨o',e1⟩:=I.base.there b o e hx
  exact there b o' (neC b o e hx) e1
 ·obtain ⟨m1,e1⟩:=I.base.tbls b ps e
  obtain ⟨m2,e2⟩:=tbls b _ e1
  exact ⟨m1++m2,by rw [e2,Array.append_assoc]⟩
 ·obtain ⟨m,hn,hl⟩:=I.loc
  refine ⟨m,ns m hn,λi x v e1 e2 e3=>?_⟩
  obtain ⟨u,r,l⟩:=hl i x v e1 e2 e3
  refine ⟨u,r,?_⟩
  rcases l with l | ⟨k,c,e,z⟩
  ·exact .inl l
  ·exact .inr ⟨k,c,e,cellK x c e _ z⟩
 ·obtain ⟨v,z⟩:=I.cell x c e
  exact ⟨v,cellK x c e v z⟩
 ·obtain ⟨m,⟨o,_,_,ho,_⟩,_⟩:=I.loc
  exact free _ o (λz=>(hch _ z).2.1 rfl) ho I.free
 ·obtain ⟨v,o,ho,hd⟩:=I.cell x c e
  exact free c o (λz=>(hch c z).2.2.1 x c e rfl) ho (I.freeC x c e)
 ·obtain ⟨e,n,ne,nf,d⟩:=I.pin p hp
  have nch:p.1∉ch:=λz=>(hch p.1 z).2.2.2 p hp rfl
  exact ⟨keep p.1 p.2 ne nf nch e n,free p.1 p.2 nch e n,ne,nf,d⟩
theorem Inv.un (I:Inv X aa σ H s) (u:Un X.fs [] H H' s.heap h') (hok:iX X.prog X.w H' h'):Inv X aa σ H' { s with heap:=h',toks:=t' }:=by
 obtain ⟨m,⟨o,es,ep,ho,r⟩,_⟩:=id I.loc
 obtain ⟨sl,hL⟩:=u.any ho I.free (by simp)
 exact I.step (g':=s.gens) (d':=s.drawn) (ch:=[]) (λ_ z=>nomatch z) (λb o _ hb _ e n=>u.keep b o e n hb (by simp)) (λb o _ hb _ e n=>u.slot b o e n hb (by simp)) (λb o _ e n=>u.free b o e n (by simp)) (λb o _ e=>u.there b o e (by simp)) u.tups u.frzs u.tbls (λm' hm=>by
  obtain ⟨o',es',ep',ho',r'⟩:=hm
  rw [ho] at ho'; cases ho'
  exact ⟨_,es',ep',hL,r'⟩) hok I.bare
theorem Inv.call (I:Inv X aa σ H s) (u:Un (frs X.stack) ch H H' s.heap h') (hok:iX X.prog X.w H' h') (hg:AllBare g')
 (hch:∀ b∈ch,(b∈X.ex\/X.s₀.heap.objs.size<=b)/\b≠X.env.locals/\(∀ x c,X.env.cells.lookup x=some c->c≠b)/\∀ p∈X.pn++aa,p.1≠b) :
 Inv X aa σ H' { s with heap:=h',gens:=g',drawn:=d',toks:=t' }:=by
 obtain ⟨m,⟨o,es,ep,ho,r⟩,_⟩:=id I.loc
 obtain ⟨sl,hL⟩:=u.any ho I.free λz=>(hch _ z).2.1 rfl
 exact I.step (ch:=ch) hch (λb o hL hb hc e n=>u.keep b o e n (λz=>(Pg.mp (I.sA b z)).elim hL hb) hc) (λb o _ _ hc e n=>u.any e n hc) (λb o hc e n=>u.free b o e n hc) (λb o hc e=>u.there b o e hc) u.tups u.frzs u.tbls (λm' hm=>by
  obtain ⟨o',es',ep',ho',r'⟩:=hm
  rw [ho] at ho'; cases ho'
  exact ⟨_,es',ep',hL,r'⟩) hok hg
theorem Inv.turned (I:Inv X aa σ H s) (k:∀ b o,b≠it->s.heap.get? b=some o->h'.get? b=some o) (hn:H it=none) (hL:it≠X.env.locals)
 (h1:it∈X.ex\/X.s₀.heap.objs.size<=it) (h2:∀ x c,X.env.cells.lookup x=some c->c≠it) (h3:∀ p∈X.pn++aa,p.1≠it):Inv X aa σ H { s with heap:=h',toks:=t' }:=by
 have nit:∀ b u,H b=some u->b≠it:=λb u e z=>by rw [z,hn] at e; cases e
 refine I.step (g':=s.gens) (d':=s.drawn) (ch:=[it]) (λb hb=>?_) (λb o _ _ hc e _=>k b o (λz=>hc (by simp [z])) e) (λb o _ _ hc e _=>⟨o.slots,k b o (λz=>hc (by simp [z])) e⟩) (λ_ _ _ _ n=>n)
  (λb o hc e=>⟨o,k b o (λz=>hc (by simp [z])) e⟩) (λ_ _ e=>e) (λ_ _ _ e=>e) (λb ps e=>⟨#[],by rw [e]; simp⟩) (λm hm=>?_) (λb u e=>?_) I.bare
 ·have e:b=it:=by simpa using hb
  subst e
  exact ⟨h1,hL,h2,h3⟩
 ·obtain ⟨o,es,ep,ho,r⟩:=hm
  exact ⟨o,es,ep,k _ o (Py hL) ho,r⟩
 ·refine (I.hok b u e).stay (λc v hc q=>k c v ?_ q) (λ_ q=>q) λ_ _ q=>q
  rcases hc with z | z
  ·rw [z]; exact nit b u e
  ·exact nit c _ z
theorem Inv.tok (I:Inv X aa σ H s) (t):Inv X aa σ H { s with toks:=t }:=I.un (h':=s.heap) (t':=t) Un.refl I.hok
theorem Inv.kept (I:Inv X aa σ H s) (k:∀ b u,s.heap.get? b=some u->h'.get? b=some u):Inv X aa σ H { s with heap:=h',toks:=t' }:=I.un (Un.kept k) (I.hok.kept k)
theorem Inv.laid (I:Inv X aa σ H s) (k:∀ b u,s.heap.get? b=some u->h'.get? b=some u) (hp:s.heap.objs.size<=a) (new:bz X.prog X.w (upd H a o) h' a o) :
 Inv X aa σ (upd H a o) { s with heap:=h',toks:=t' }:=I.un (Un.laid k hp (I.hok.fresh hp)) (I.hok.laid k hp new)
theorem Inv.write (I:Inv X aa σ H s) (mu:KI (H x)) (he:e=x\/H e=some (.own x)) (k:∀ b u,b≠e->s.heap.get? b=some u->h'.get? b=some u) (heo:∃ u,h'.get? e=some u)
 (new:bz X.prog X.w (upd H x o) h' x o):Inv X aa σ (upd H x o) { s with heap:=h',toks:=t' }:=I.un (Un.write mu he k heo) (I.hok.write mu he k heo new)
theorem Inv.uu (I:Inv X aa σ H s) (h:∀ p∈pins',s.heap.get? p.1=some p.2/\H p.1=none/\p.1≠X.env.locals/\p.1∉X.fs/\∀ v,p.2.data≠.cell v):Inv X pins' σ H s :=
 ⟨I.ok,I.os,I.bare,I.base,I.loc,I.cell,I.free,I.freeC,λp hp=>(PD.mp hp).elim (λz=>I.pin p (QM _ z)) (h p),I.hok,I.len⟩
theorem pX {N:List Str} (hN:N.Nodup) {i j:Nat} (a:N[i]?=some x) (b:N[j]?=some x):i=j:=by
 obtain ⟨h1,e1⟩:=Ph.mp a
 obtain ⟨h2,e2⟩:=Ph.mp b
 exact (List.getElem_inj hN).mp (e1.trans e2.symm)
theorem wL (I:Inv X aa σ H s) (hN:X.N.Nodup) (hi:X.N[i]?=some x) (hx:Loc X.env.scope x) (r:RelV v u)
 (h:∀ s',Inv X aa (σ.set i (some v)) H s'->(∃ a,QZ a s.heap s'.heap/\(a=X.env.locals\/X.env.cells.lookup x=some a))->Q () s') (hf:X.fn x=true\/X.env.scope.names.lookup x=some .local:=by first | exact .inl rfl | exact .inr rfl | assumption):wpAny M A (storeName X.env x u) Q E s:=by
 obtain ⟨m,hn,hl⟩:=id I.loc
 have hcls:(X.env.scope.kind == .class || (X.env.scope.kind == .module && X.env.locals != X.env.globals))=false:=by rw [I.ok.kind]; rfl
 have hiσ:i<σ.length:=by rw [I.len]; exact (Ph.mp hi).1
 have GS:=I.GS
 have tracked:∀ {a:Addr} {h':Heap},(∃ o,s.heap.get? a=some o/\H a=none)->QZ a s.heap h'->iX X.prog X.w H h':=λ{a h'} ha hs b ob e=>by
  obtain ⟨_,_,hfree⟩:=ha
  refine (I.hok b ob e).stay (λc w' hc q=>(hs.2 c ?_).trans q) (λ_ q=>q) λ_ _ q=>q
  rintro rfl
  rcases hc with rfl | hc
  ·rw [hfree] at e; cases e
  ·rw [hfree] at hc; cases hc
 rcases hx with hk | hk
 ·refine wpAny_storeName_local hk hn (λh' hn' hs=>?_) hcls
  obtain ⟨oL,_,_,hoL,_⟩:=id hn
  refine h _ ⟨I.ok,I.os,I.bare,⟨λb o e n hb hx=>?_,λb o e n hb hx=>?_,I.base.free,λb o e hx=>?_,I.base.tups,I.base.frzs,I.base.tbls⟩,⟨_,hn',λj y v' e1 e2 e3=>?_⟩,λy c e=>?_,I.free,I.freeC,λp hp=>?_,tracked ⟨oL,hoL,I.free⟩ hs,by simpa using I.len⟩ ⟨_,hs,.inl rfl⟩
  ·exact (hs.2 b (PM (Qo (Pf e) I.ok.above))).trans (I.base.keep b o e n hb hx)
  ·obtain ⟨sl,e1⟩:=I.base.slot b o e n hb hx
   exact ⟨sl,(hs.2 b (PM (Qo (Pf e) I.ok.above))).trans e1⟩
  ·obtain ⟨o',e1⟩:=I.base.there b o e hx
   exact ⟨o',(hs.2 b (PM (Qo (Pf e) I.ok.above))).trans e1⟩
  ·by_cases hj:j=i
   ·subst hj
    rw [hi] at e1; cases e1
    rw [Qm hiσ] at e2
    cases e2
    exact ⟨u,r,.inl ⟨hk,by simp⟩⟩
   ·rw [Qe (Py hj)] at e2
    obtain ⟨u',r',q⟩:=hl j y v' e1 e2 e3
    refine ⟨u',r',?_⟩
    rcases q with ⟨k,e⟩ | ⟨k,c,e,z⟩
    ·refine .inl ⟨k,?_⟩
     have:y≠x:=λe=>hj (pX hN e1 (e ▸ hi))
     simp [this,e]
    ·exact .inr ⟨k,c,e,z.sameBut hs (GS y c e)⟩
  ·obtain ⟨w',z⟩:=I.cell y c e
   exact ⟨w',z.sameBut hs (GS y c e)⟩
  ·obtain ⟨e,n,ne,nf,d⟩:=I.pin p hp
   exact ⟨(hs.2 p.1 ne).trans e,n,ne,nf,d⟩
 ·have hfn:X.fn x=true:=by
   rcases hf with z | z
   ·exact z
   ·rw [z] at hk; cases hk
  obtain ⟨c,hc⟩:=I.ok.has x (.inl hk)
  obtain ⟨w',z⟩:=I.cell x c hc
  refine wpAny_storeName_cell I.ok.kind hk hc z (λh' hc' hs=>?_)
  obtain ⟨oc,hoc,hocd⟩:=id z
  refine h { s with heap:=h' } ⟨I.ok,I.os,I.bare,⟨λb o e n hb hx=>?_,λb o e n hb hx=>?_,I.base.free,λb o e hx=>?_,I.base.tups,I.base.frzs,I.base.tbls⟩,⟨m,hn.sameBut hs (Py (GS x c hc)),λj y v' e1 e2 e3=>?_⟩,λy c' e=>?_,I.free,I.freeC,λp hp=>?_,tracked ⟨oc,hoc,I.freeC x c hc⟩ hs,by simpa using I.len⟩ ⟨c,hs,.inr hc⟩
  ·exact (hs.2 b (PM (Qo (Pf e) (I.ok.cab x c hfn hc)))).trans (I.base.keep b o e n hb hx)
  ·obtain ⟨sl,e1⟩:=I.base.slot b o e n hb hx
   exact ⟨sl,(hs.2 b (PM (Qo (Pf e) (I.ok.cab x c hfn hc)))).trans e1⟩
  ·obtain ⟨o',e1⟩:=I.base.there b o e hx
   exact ⟨o',(hs.2 b (PM (Qo (Pf e) (I.ok.cab x c hfn hc)))).trans e1⟩
  ·by_cases hj:j=i
   ·subst hj
    rw [hi] at e1; cases e1
    rw [Qm hiσ] at e2
    cases e2
    exact ⟨u,r,.inr ⟨.inl hk,c,hc,hc'⟩⟩
   ·rw [Qe (Py hj)] at e2
    obtain ⟨u',r',q⟩:=hl j y v' e1 e2 e3
    refine ⟨u',r',?_⟩
    rcases q with q | ⟨k,c',e,z'⟩
    ·exact .inl q
    ·refine .inr ⟨k,c',e,z'.sameBut hs ?_⟩
     rintro rfl
     exact hj (pX hN e1 (I.ok.inj _ _ _ e hc ▸ hi))
  ·by_cases hcc:c'=c
   ·subst hcc; exact ⟨_,hc'⟩
   ·obtain ⟨w2,z2⟩:=I.cell y c' e
    exact ⟨w2,z2.sameBut hs hcc⟩
  ·obtain ⟨e,n,ne,nf,d⟩:=I.pin p hp
   refine ⟨(hs.2 p.1 ?_).trans e,n,ne,nf,d⟩
   intro q
   rw [q,hoc] at e
   have q':oc=p.2:=QS e
   exact d w' (by rw [<- q']; exact hocd)
theorem j7 (I:Inv X aa σ H s) (hN:X.N.Nodup) (hi:X.N[i]?=some x) (hx:Loc X.env.scope x) (r:RelV v u)
 (h:∀ s',Inv X aa (σ.set i (some v)) H s'->Q () s') (hf:X.fn x=true\/X.env.scope.names.lookup x=some .local:=by first | exact .inl rfl | exact .inr rfl | assumption):wpAny M A (storeName X.env x u) Q E s :=
 wL I hN hi hx r (λs' I' _=>h s' I') hf
theorem Inv.F0 (I:Inv X aa σ H s) (ho:s'.os=s.os) (u:Un (frs X.stack) ch H H' s.heap s'.heap) (hok:iX X.prog X.w H' s'.heap) (hg:AllBare s'.gens)
 (hch:∀ b∈ch,(b∈X.ex\/X.s₀.heap.objs.size<=b)/\b≠X.env.locals/\(∀ x c,X.env.cells.lookup x=some c->c≠b)/\∀ p∈X.pn++aa,p.1≠b):Inv X aa σ H' s':=by
 obtain ⟨h',g',d',t',o'⟩:=s'
 have e:o'=s.os:=ho
 subst e
 exact I.call (g':=g') (t':=t') (d':=d') u hok hg hch
end
noncomputable abbrev XK:=Value->Option Addr->Hp->Prop
noncomputable abbrev St:=List (Option V)
noncomputable abbrev VK:=V->Hp->Prop
noncomputable abbrev TE:=St->Hp->VK->Prop
noncomputable abbrev TT:=St->Hp->(Bool->Hp->Prop)->Prop
noncomputable abbrev TA:=St->Hp->(List V->Hp->Prop)->Prop
structure Ends where
 nx:St->Hp->Prop
 rt:VK
 bk:St->Hp->Prop:=λ_ _=>False
 ct:St->Hp->Prop:=λ_ _=>False
noncomputable abbrev TS:=Ends->St->Hp->Prop
def EP (X:Cx) (aa:List (Addr×Obj)) (σ:St) (Q:VK) (u:Value) (s':Shared):Prop:=∃ v H',Inv X aa σ H' s'/\RelV v u/\Q v H'
def TP (X:Cx) (aa:List (Addr×Obj)) (σ:St) (Q:Bool->Hp->Prop) (b:Bool) (s':Shared):Prop:=∃ H',Inv X aa σ H' s'/\Q b H'
def AP (X:Cx) (aa:List (Addr×Obj)) (σ:St) (Q:List V->Hp->Prop) (us:List Value) (s':Shared):Prop:=∃ vs H',Inv X aa σ H' s'/\Vals vs us/\Q vs H'
def SP (X:Cx) (aa:List (Addr×Obj)) (D:Ends) (f:Flow) (s':Shared):Prop :=
 match f with
 | .next=>∃ σ' H',Inv X aa σ' H' s'/\D.nx σ' H'
 | .brk=>∃ σ' H',Inv X aa σ' H' s'/\D.bk σ' H'
 | .cont=>∃ σ' H',Inv X aa σ' H' s'/\D.ct σ' H'
 | .ret u=>∃ v σ' H',Inv X aa σ' H' s'/\RelV v u/\D.rt v H'
def PE (X:Cx) (e:Expr) (t:TE):Prop :=
 ∀ (aa:List (Addr×Obj)) (s:Shared) (σ:St) (H:Hp) (Q:VK),Inv X aa σ H s->t σ H Q->wpAny (model X.prog X.w) X.A (eval e X.env) (EP X aa σ Q) X.xe s
def PT (X:Cx) (e:Expr) (t:TT):Prop :=
 ∀ (aa:List (Addr×Obj)) (s:Shared) (σ:St) (H:Hp) (Q:Bool->Hp->Prop),Inv X aa σ H s->t σ H Q->wpAny (model X.prog X.w) X.A (isTrue e X.env (eval e X.env)) (TP X aa σ Q) X.xe s
def PW (X:Cx) (e:Expr) (t:TT):Prop :=
 ∀ (whole:Sem Value) (aa:List (Addr×Obj)) (s:Shared) (σ:St) (H:Hp) (Q:Bool->Hp->Prop),Inv X aa σ H s->t σ H Q->wpAny (model X.prog X.w) X.A (isTrue e X.env whole) (TP X aa σ Q) X.xe s
def PA (X:Cx) (es:List Expr) (t:TA):Prop :=
 ∀ (pos:Pos) (aa:List (Addr×Obj)) (s:Shared) (σ:St) (H:Hp) (Q:List V->Hp->Prop),Inv X aa σ H s->t σ H Q->wpAny (model X.prog X.w) X.A (spliced (backTo pos (starEach es X.env))) (AP X aa σ Q) X.xe s
def PS (X:Cx) (st:Stmt) (t:TS):Prop :=
 ∀ (aa:List (Addr×Obj)) (s:Shared) (σ:St) (H:Hp) (D:Ends),Inv X aa σ H s->t D σ H->wpAny (model X.prog X.w) X.A (exec st X.env) (SP X aa D) X.xe s
def pY (X:Cx) (st:List Stmt) (t:TS):Prop :=
 ∀ (aa:List (Addr×Obj)) (s:Shared) (σ:St) (H:Hp) (D:Ends),Inv X aa σ H s->t D σ H->wpAny (model X.prog X.w) X.A (execs st X.env) (SP X aa D) X.xe s
theorem bC (h:wpAny M A t Q E s) (hQ:∀ a s,Q a s->Q' a s):wpAny M A t Q' E s:=Qd h hQ λ_ _ x=>x
section
noncomputable def KL (i:Nat):TE:=λσ H Q=>∃ v,σ[i]?=some (some v)/\Q v H
noncomputable def tC (v:V):TE:=λ_ H Q=>Q v H
theorem sC (hN:X.N[i]?=some x) (hv:Nh X.env.scope x) (hd:(x == ("__debug__":Str))=false:=by decide) (hcd:(x == ("__classdict__":Str))=false:=by decide):PE X (.Name x pos) (KL i):=by
 intro aa s σ H Q I h
 obtain ⟨v,e,h⟩:=h
 obtain ⟨m,hn,hl⟩:=I.loc
 obtain ⟨u,r,l⟩:=hl i x v hN e hv
 have fin:EP X aa σ Q u s:=⟨v,H,I,r,h⟩
 rcases l with ⟨hk,hm⟩ | ⟨hk,c,hc,hcell⟩
 ·exact wpAny_Name (wpAny_loadName_local I.ok.kind hk hn hm fin) hd
 ·rcases hk with hk | hk
  ·exact wpAny_Name (wpAny_loadName_cell I.ok.kind hk hc hcell fin) hd
  ·exact wpAny_Name (wpAny_loadName_free I.ok.kind hk hc hcell fin hcd) hd
theorem GU {i j pos}:PE X (.Constant (.int i) j pos) (tC (.int i)):=λ_ _ _ H _ I h=>wpAny_Constant_int ⟨.int i,H,I.tok _,⟨_,rfl⟩,h⟩
theorem yR {b j pos}:PE X (.Constant (.bool b) j pos) (tC (.bl b)):=λ_ _ _ H _ I h=>Constant_bool ⟨.bl b,H,I,rfl,h⟩
def Gl (X:Cx) (x:Str):Prop:=X.env.kindOf x=some .globalImplicit
theorem gW (I:Inv X aa σ H s) (hg:Gl X x) (hm:X.mg x=some u) (h:Q u s)
 (hd:(x == ("__debug__":Str))=false:=by decide):wpAny (model X.prog X.w) X.A (eval (.Name x pos) X.env) Q E s :=
 Calls.Name_function_global I.ok.kind hg (Calls.loadGlobal_global (by rw [I.ok.glob]; exact I.mod.glob.keeps I.bk) hm h) hd
theorem cW (I:Inv X aa σ H s) (hg:Gl X x) (hm:X.mg x=none) (hv:bootBuiltins x=some u) (h:Q u s)
 (hn:x≠"__name__":=by decide) (hd:(x == ("__debug__":Str))=false:=by decide):wpAny (model X.prog X.w) X.A (eval (.Name x pos) X.env) Q E s:=by
 obtain ⟨mb,h1,h2⟩:=I.mod.blt
 exact Calls.Name_function_global I.ok.kind hg (Calls.loadGlobal_builtin (by rw [I.ok.glob]; exact I.mod.glob.keeps I.bk) hm (by rw [I.ok.blt]; exact h1.keeps I.bk) ((h2 x hn).trans hv) h) hd
theorem uv (hg:Gl X x) (hm:X.mg x=some u) (r:RelV v u) (hd:(x == ("__debug__":Str))=false:=by decide):PE X (.Name x pos) (tC v) :=
 λ_ _ _ H _ I h=>gW I hg hm ⟨v,H,I,r,h⟩ hd
def PC (X:Cx) (op:CmpOp) (a b:Expr) (t:TE):Prop :=
 ∀ (aa:List (Addr×Obj)) (s:Shared) (σ:St) (H:Hp) (Q:VK),Inv X aa σ H s->t σ H Q ->
  wpAny (model X.prog X.w) X.A (eval a X.env) (λv s₁=>wpAny (model X.prog X.w) X.A (eval b X.env) (λu s₂=>wpAny (model X.prog X.w) X.A (compareOp op v u) (EP X aa σ Q) X.xe s₂) X.xe s₁) X.xe s
noncomputable def tB (t:TE):TT:=λσ H Q=>t σ H λx H1=>∃ c,x=.bl c/\Q c H1
theorem GV (h:PC X op a b t) (h1:behindInMarks op b=false:=by first | exact nobehind _ (by decide) (by decide) | rfl):PT X (.Compare a [op] [b] pos) (tB t):=by
 intro aa s σ H Q I hw
 refine wpAny_isTrue_Compare1 (bC (h aa s σ H _ I hw) λv s1 h1=>bC h1 λu s2 h2=>bC h2 λc s3 ⟨x,H1,I1,r1,q1⟩=>?_) h1
 obtain ⟨d,rfl,q⟩:=q1
 cases r1
 exact Sx ⟨H1,I1,q⟩
theorem GW (h:PE X e t) (he:∀ whole,isTrue e X.env whole=(do let v <- whole; standAt e.pos; holding [v] (truthy v)):=by intro _; rfl):PT X e (tB t):=by
 intro aa s σ H Q I hw
 refine isTrue_plain (bC (h aa s σ H _ I hw) λv s1 ⟨x,H1,I1,r1,q1⟩=>?_) (he _)
 obtain ⟨d,rfl,q⟩:=q1
 cases r1
 exact Sx ⟨H1,I1,q⟩
variable {rest:List Expr}
noncomputable def Nj (t u:TT):TT:=λσ H Q=>t σ H λc H1=>if c=true then u σ H1 Q else Q false H1
noncomputable def ON (t u:TT):TT:=λσ H Q=>t σ H λc H1=>if c=true then Q true H1 else u σ H1 Q
noncomputable def Nk (t:TT):TT:=λσ H Q=>t σ H λc H1=>Q (!c) H1
theorem pw_and1 (ha:PT X a tA):PW X (.BoolOp .And [a] pos) tA:=by
 intro wh aa s σ H Q I h
 refine isTrue_and (bC (ha aa s σ H Q I h) λc s1 e=>?_)
 cases c with
 | true=>exact isTrue_and_nil e
 | false=>exact e
theorem pw_or1 (ha:PT X a tA):PW X (.BoolOp .Or [a] pos) tA:=by
 intro wh aa s σ H Q I h
 refine isTrue_or (bC (ha aa s σ H Q I h) λc s1 e=>?_)
 cases c with
 | false=>exact isTrue_or_nil e
 | true=>exact e
theorem pw_and (ha:PT X a tA) (hb:PW X (.BoolOp .And (b::rest) pos) tB'):PW X (.BoolOp .And (a::b::rest) pos) (Nj tA tB'):=by
 intro wh aa s σ H Q I h
 refine isTrue_and (bC (ha aa s σ H _ I h) λc s1 ⟨H1,I1,q1⟩=>?_)
 cases c with
 | true=>exact hb wh aa s1 σ H1 Q I1 q1
 | false=>exact ⟨H1,I1,q1⟩
theorem pw_or (ha:PT X a tA) (hb:PW X (.BoolOp .Or (b::rest) pos) tB'):PW X (.BoolOp .Or (a::b::rest) pos) (ON tA tB'):=by
 intro wh aa s σ H Q I h
 refine isTrue_or (bC (ha aa s σ H _ I h) λc s1 ⟨H1,I1,q1⟩=>?_)
 cases c with
 | true=>exact ⟨H1,I1,q1⟩
 | false=>exact hb wh aa s1 σ H1 Q I1 q1
theorem GX (ha:PT X a tA):PT X (.UnaryOp .Not a pos) (Nk tA):=by
 intro aa s σ H Q I h
 exact isTrue_not (ha aa s σ H (λc H1=>Q (!c) H1) I h)
noncomputable def KN (ta tb:TE):TE:=λσ H Q=>ta σ H λx H1=>∃ c,x=.bl c/\if c=true then tb σ H1 Q else Q (.bl false) H1
noncomputable def KO (ta:TE):TE:=λσ H Q=>ta σ H λx H1=>∃ c,x=.bl c/\Q (.bl (!c)) H1
theorem GY {op} (h:PE X a t):PE X (.BoolOp op [a] pos) t:=λaa s σ H Q I hw=>BoolOp_one (h aa s σ H Q I hw)
theorem GZ (ha:PE X a ta) (hb:PE X (.BoolOp .And (b::rest) pos) tb):PE X (.BoolOp .And (a::b::rest) pos) (KN ta tb):=by
 intro aa s σ H Q I h
 refine BoolOp_and (bC (ha aa s σ H _ I h) λv s1 ⟨x,H1,I1,r1,q1⟩=>?_)
 obtain ⟨c,rfl,q1⟩:=q1
 cases r1
 refine Sx ?_
 cases c with
 | true=>exact hb aa s1 σ H1 Q I1 q1
 | false=>exact ⟨.bl false,H1,I1,rfl,q1⟩
theorem G0 (ha:PE X a ta):PE X (.UnaryOp .Not a pos) (KO ta):=by
 intro aa s σ H Q I h
 refine UnaryOp_ (bC (ha aa s σ H _ I h) λv s1 ⟨x,H1,I1,r1,q1⟩=>?_)
 obtain ⟨c,rfl,q1⟩:=q1
 cases r1
 exact not_of (Sx ⟨.bl (!c),H1,I1,rfl,q1⟩)
noncomputable def OO (t:TT) (ta tb:TE):TE:=λσ H Q=>t σ H λc H1=>if c=true then ta σ H1 Q else tb σ H1 Q
theorem yS (hc:PT X c tA) (ha:PE X a ta) (hb:PE X b tb):PE X (.IfExp c a b pos) (OO tA ta tb):=by
 intro aa s σ H Q I h
 refine wpAny_IfExp (bC (hc aa s σ H _ I h) λd s1 ⟨H1,I1,q1⟩=>?_)
 cases d with
 | true=>exact ha aa s1 σ H1 Q I1 q1
 | false=>exact hb aa s1 σ H1 Q I1 q1
end
def fk (K:O7) (H:Hp) (a:Addr) (xs:List V):Prop :=
 Rd H a (.lst xs) \/
  ∃ (o:Obj) (its:Array Value) (n:Nat),K.lookup a=some o/\o.cls=.type "list"/\o.dict=none/\o.data=.seq its n/\its.size<=sizeLine/\Vals xs its.toList
def dh (K:O7) (H:Hp) (a:Addr) (xs:List V):Prop :=
 Rd H a (.tup xs) \/
  ∃ (o:Obj) (its:Array Value) (n:Nat),K.lookup a=some o/\o.cls=.type "tuple"/\o.data=.seq its n/\its.size<=sizeLine/\Vals xs its.toList
noncomputable def Nl:Value->Option V
 | .none=>some .non
 | .bool b=>some (.bl b)
 | .int i _=>some (.int i)
 | .str x _=>some (.str x)
 | .bytes b _=>some (.byt b)
 | .float b _=>some (.flt b)
 | .ref a=>some (.ref a)
 | .type n=>some (.ty n)
 | _=>none
theorem RelV.abs (r:RelV x u):Nl u=some x:=by
 cases x with
 | non=>cases r; rfl
 | bl _=>cases r; rfl
 | int _=>obtain ⟨t,rfl⟩:=r; rfl
 | str _=>obtain ⟨t,rfl⟩:=r; rfl
 | byt _=>obtain ⟨t,rfl⟩:=r; rfl
 | flt _=>obtain ⟨t,rfl⟩:=r; rfl
 | ref _=>cases r; rfl
 | ty _=>cases r; rfl
theorem RelV.inj (r:RelV x u) (q:RelV y u):x=y:=QS (r.abs.symm.trans q.abs)
theorem Vals.inj:∀ {xs ys:List V} {us:List Value},Vals xs us->Vals ys us->xs=ys
 | _,_,_,.nil,.nil=>rfl
 | _,_,_,.cons r t,.cons r' t'=>by rw [r.inj r',Vals.inj t t']
theorem fk.of {K:O7} (h:H a=some (.lst xs)):fk K H a xs:=.inl (.inl h)
theorem Inv.list (I:Inv X aa σ H s) (h:fk X.K H a xs):∃ its:List Value,Vals xs its/\PlainL s.heap a its.toArray/\xs.length<=sizeLine:=by
 rcases h with h | ⟨o,its,n,hk,hc,hd,hs,hz,r⟩
 ·obtain ⟨z,its,n,r,e⟩:=h.ok I.hok
  exact ⟨its,r,⟨_,n,e,rfl,rfl,rfl⟩,z⟩
 ·refine ⟨its.toList,r,⟨o,n,I.nL a o hk,hc,hd,by simpa using hs⟩,?_⟩
  have e:=r.length
  simp only [Qn] at e
  lia
theorem Inv.tuple (I:Inv X aa σ H s) (h:dh X.K H a xs):∃ its:List Value,Vals xs its/\IsTup s.heap a its.toArray/\xs.length<=sizeLine:=by
 rcases h with h | ⟨o,its,n,hk,hc,hs,hz,r⟩
 ·obtain ⟨z,its,r,p⟩:=h.ok I.hok
  exact ⟨its,r,p,z⟩
 ·refine ⟨its.toList,r,⟨o,I.nL a o hk,hc,n,by simpa using hs⟩,?_⟩
  have e:=r.length
  simp only [Qn] at e
  lia
theorem Inv.j8 (I:Inv X aa σ H s) (h:fk X.K H a xs) (h':fk X.K H a ys):xs=ys:=by
 obtain ⟨its,r,⟨o,n,e,_,_,d⟩,_⟩:=I.list h
 obtain ⟨its',r',⟨o',n',e',_,_,d'⟩,_⟩:=I.list h'
 rw [e] at e'; cases e'
 rw [d] at d'
 injection d' with d1 _
 have:its=its':=by simpa using congrArg Array.toList d1
 subst this
 exact r.inj r'
theorem Inv.gi (I:Inv X aa σ H s) (h:dh X.K H a xs) (h':dh X.K H a ys):xs=ys:=by
 obtain ⟨its,r,⟨o,e,_,n,d⟩,_⟩:=I.tuple h
 obtain ⟨its',r',⟨o',e',_,n',d'⟩,_⟩:=I.tuple h'
 rw [e] at e'; cases e'
 rw [d] at d'
 injection d' with d1 _
 have:its=its':=by simpa using congrArg Array.toList d1
 subst this
 exact r.inj r'
noncomputable abbrev Cx.lS (X:Cx) (E:Value->Shared->Prop):Cx:={ X with xe:=E }
noncomputable abbrev Cx.F1 (X:Cx):Cx:=X.lS λ_ _=>False
theorem Cx.Ok.lS {X:Cx} (ok:X.Ok) (E):(X.lS E).Ok :=
 ⟨ok.mod,ok.kind,ok.glob,ok.blt,ok.above,ok.inj,ok.has,ok.cab,ok.hd,ok.frames,ok.stk,ok.exf,ok.bs,ok.bsz,ok.noex,ok.exfs,ok.iY,ok.frf⟩
theorem Cx.Ok.fN {X:Cx} (ok:(X.lS E).Ok):X.Ok :=
 ⟨ok.mod,ok.kind,ok.glob,ok.blt,ok.above,ok.inj,ok.has,ok.cab,ok.hd,ok.frames,ok.stk,ok.exf,ok.bs,ok.bsz,ok.noex,ok.exfs,ok.iY,ok.frf⟩
theorem Inv.lS (I:Inv X aa σ H s) (E):Inv (X.lS E) aa σ H s:=⟨I.ok.lS E,I.os,I.bare,I.base,I.loc,I.cell,I.free,I.freeC,I.pin,I.hok,I.len⟩
theorem Inv.fN (I:Inv (X.lS E) aa σ H s):Inv X aa σ H s:=⟨I.ok.fN,I.os,I.bare,I.base,I.loc,I.cell,I.free,I.freeC,I.pin,I.hok,I.len⟩
theorem SP.fN (h:SP (X.lS E) aa D f s'):SP X aa D f s':=by
 cases f with
 | next=>obtain ⟨σ',H',I,q⟩:=h; exact ⟨σ',H',I.fN,q⟩
 | brk=>obtain ⟨σ',H',I,q⟩:=h; exact ⟨σ',H',I.fN,q⟩
 | cont=>obtain ⟨σ',H',I,q⟩:=h; exact ⟨σ',H',I.fN,q⟩
 | ret u=>obtain ⟨v,σ',H',I,r,q⟩:=h; exact ⟨v,σ',H',I.fN,r,q⟩
theorem pY.F1 {st:List Stmt} (h:pY X.F1 st t):pY X st t:=λaa s σ H D I hw =>
 Qd (h aa s σ H D (I.lS _) hw) (λ_ _ q=>q.fN) λ_ _ z=>Qs z
section
variable {st:Stmt} {rest:List Stmt}
noncomputable def KP:TS:=λD σ H=>D.nx σ H
noncomputable def Nm (t u:TS):TS:=λD σ H=>t { D with nx:=u D } σ H
theorem Dg:pY X [] KP:=λ_ _ σ H _ I h=>Uo ⟨σ,H,I,h⟩
theorem yT (h1:PS X st t) (h2:pY X rest u):pY X (st::rest) (Nm t u):=by
 intro aa s σ H D I h
 refine wpAny_execs_cons (bC (h1 aa s σ H { D with nx:=u D } I h) λf s1 q=>?_)
 cases f with
 | next =>
  obtain ⟨σ',H',I',q⟩:=q
  exact h2 aa s1 σ' H' D I' q
 | ret v=>exact q
 | brk=>exact q
 | cont=>exact q
theorem Dh (h1:PS X st t):pY X [st] t:=by
 intro aa s σ H D I h
 refine wpAny_execs_cons (bC (h1 aa s σ H D I h) λf s1 q=>?_)
 cases f with
 | next=>exact Uo q
 | ret v=>exact q
 | brk=>exact q
 | cont=>exact q
theorem Inv.quiet (I:Inv X aa σ H s):interactive X.env=false:=by simp [interactive,I.ok.kind]
noncomputable def KQ (te:TE):TS:=λD σ H=>te σ H λ_ H1=>D.nx σ H1
theorem jP (he:PE X e te) (hs:swapsWith e none pos.line X.env=pure false:=by rfl):PS X (.Expr e pos) (KQ te):=by
 intro aa s σ H D I h
 exact wpAny_Expr_any (bC (he aa s σ H _ I h) λv s1 ⟨x,H1,I1,r1,q1⟩=>⟨σ,H1,I1,q1⟩) I.quiet hs
noncomputable def Nn (te:TE):TS:=λD σ H=>te σ H D.rt
theorem yU (he:PE X e te):PS X (.Return (some e) pos) (Nn te):=by
 intro aa s σ H D I h
 exact wpAny_Return_some (bC (he aa s σ H _ I h) λv s1 ⟨x,H1,I1,r1,q1⟩=>⟨x,σ,H1,I1,r1,q1⟩)
noncomputable def Np (c:TT) (t u:TS):TS:=λD σ H=>c σ H λb H1=>if b=true then t D σ H1 else u D σ H1
theorem KR (hc:PT X c tc) (ha:pY X a t) (hb:pY X b u):PS X (.If c a b pos) (Np tc t u):=by
 intro aa s σ H D I h
 refine wpAny_If (bC (hc aa s σ H _ I h) λd s1 ⟨H1,I1,q1⟩=>?_)
 cases d with
 | true=>exact ha aa s1 σ H1 D I1 q1
 | false=>exact hb aa s1 σ H1 D I1 q1
end
noncomputable abbrev TG:=V->St->Hp->(St->Hp->Prop)->Prop
noncomputable abbrev KS:=List V->St->Hp->(St->Hp->Prop)->Prop
def PG (X:Cx) (target:Expr) (t:TG):Prop :=
 ∀ (aa:List (Addr×Obj)) (s:Shared) (σ:St) (H:Hp) (v:V) (u:Value) (Q:St->Hp->Prop),Inv X aa σ H s->RelV v u->t v σ H Q ->
  wpAny (model X.prog X.w) X.A (assign target X.env u) (λ_ s'=>∃ σ' H',Inv X aa σ' H' s'/\Q σ' H') X.xe s
def Kr (X:Cx) (ts:List Expr) (t:KS):Prop :=
 ∀ (aa:List (Addr×Obj)) (s:Shared) (σ:St) (H:Hp) (vs:List V) (us:List Value) (Q:St->Hp->Prop),Inv X aa σ H s->Vals vs us->t vs σ H Q ->
  wpAny (model X.prog X.w) X.A (assignInOrder ((assignEach ts X.env).map (·.2)) us) (λ_ s'=>∃ σ' H',Inv X aa σ' H' s'/\Q σ' H') X.xe s
noncomputable abbrev G1:=V->V->V->Hp->(Hp->Prop)->Prop
def KU (X:Cx) (t:G1):Prop :=
 ∀ (aa:List (Addr×Obj)) (s:Shared) (σ:St) (H:Hp) (o i v:V) (ov iv u:Value) (Q:Hp->Prop),Inv X aa σ H s->RelV o ov->RelV i iv->RelV v u->t o i v H Q ->
  wpAny (model X.prog X.w) X.A (setItem ov iv u) (λ_ s'=>∃ H',Inv X aa σ H' s'/\Q H') X.xe s
noncomputable abbrev Ov:=V->V->Hp->VK->Prop
def Ow (X:Cx) (op:Operator) (t:Ov):Prop :=
 ∀ (aa:List (Addr×Obj)) (s:Shared) (σ:St) (H:Hp) (x y:V) (v u:Value) (Q:VK),Inv X aa σ H s->RelV x v->RelV y u->t x y H Q ->
  wpAny (model X.prog X.w) X.A (inplaceOp op v u) (EP X aa σ Q) X.xe s
noncomputable def F2 (i:Nat):TG:=λv σ H Q=>Q (σ.set i (some v)) H
theorem jQ (hN:X.N.Nodup) (hi:X.N[i]?=some x) (hx:Loc X.env.scope x) (hf:X.fn x=true\/X.env.scope.names.lookup x=some .local:=by first | exact .inl rfl | exact .inr rfl | assumption):PG X (.Name x pos) (F2 i):=by
 intro aa s σ H v u Q I r h
 exact wpAny_assign_Name (j7 I hN hi hx r (λs' I'=>⟨_,H,I',h⟩) hf)
noncomputable def Nq:KS:=λvs σ H Q=>vs=[]/\Q σ H
noncomputable def KW (t:TG) (u:KS):KS:=λvs σ H Q=>∃ v r,vs=v::r/\t v σ H λσ' H'=>u r σ' H' Q
theorem Di:Kr X [] Nq:=by
 intro aa s σ H vs us Q I r h
 obtain ⟨e,h⟩:=h
 subst e
 cases r
 exact assignInOrder_nil ⟨σ,H,I,h⟩
theorem yV (h1:PG X e t) (h2:Kr X es u)
 (hs:(assignEach (e::es) X.env).map (·.2)=assign e X.env::(assignEach es X.env).map (·.2):=by rfl):Kr X (e::es) (KW t u):=by
 intro aa s σ H vs us Q I r h
 obtain ⟨v,vr,e1,h⟩:=h
 subst e1
 cases r with
 | cons r rr =>
  rw [hs]
  refine assignInOrder_cons (bC (h1 aa s σ H _ _ _ I r h) λ_ s1 ⟨σ1,H1,I1,q1⟩=>?_)
  exact h2 aa s1 σ1 H1 _ _ Q I1 rr q1
noncomputable def Nr (K:O7) (n:Nat) (t:KS):TG:=λv σ H Q=>∃ a xs,v=.ref a/\dh K H a xs/\xs.length=n/\t xs σ H Q
theorem G2 (hc:X.calm=true) (h:Kr X es t)
 (hn:(assignEach es X.env).length=n:=by rfl) (hst:(assignEach es X.env).findIdx? (·.1)=none:=by rfl):PG X (.Tuple es k pos) (Nr X.K n t):=by
 intro aa s σ H v u Q I r hw
 obtain ⟨a,xs,e1,hq,hl,hw⟩:=hw
 subst e1
 cases r
 obtain ⟨its,rv,ht,hz⟩:=I.tuple hq
 refine assign_Tuple_tuple (I.ok.hd hc) ht (by simp [hn,<- hl,rv.length]) hst λh' hx=>?_
 have I1:Inv X aa σ H { s with heap:=h' }:=I.kept (t':=s.toks) λb o e=>hx b o (PM (Pf e)) e
 exact h aa _ σ H xs _ Q I1 (by simpa using rv) hw
noncomputable def Nt (to ti:TE) (t:G1):TG:=λv σ H Q=>to σ H λo H1=>ti σ H1 λi H2=>t o i v H2 λH3=>Q σ H3
theorem G3 (ho:PE X o to) (hi:PE X i ti) (hs:KU X t)
 (ha:∀ v,assign (.Subscript o i pos) X.env v=(do
   let ov <- holding [v] (eval o X.env)
   let iv <- holding [v,ov] (eval i X.env)
   standAt pos
   holding [v,ov,iv] (setItem ov iv v)
   release [v,ov,iv] []):=by intro _; rfl):PG X (.Subscript o i pos) (Nt to ti t):=by
 intro aa s σ H v u Q I r h
 rw [ha]
 refine O6 (QL (bC (ho aa s σ H _ I h) λov s1 ⟨x,H1,I1,r1,q1⟩=>?_))
 refine O6 (QL (bC (hi aa s1 σ H1 _ I1 q1) λiv s2 ⟨y,H2,I2,r2,q2⟩=>?_))
 refine O6 (wpAny_standAt (O6 (QL (bC (hs aa s2 σ H2 x y v ov iv u _ I2 r1 r2 r q2) λ_ s3 ⟨H3,I3,q3⟩=>?_))))
 exact wpAny_release ⟨σ,H3,I3,q3⟩
noncomputable def KY (te:TE) (g:TG):TS:=λD σ H=>te σ H λx H1=>g x σ H1 D.nx
theorem G4 (he:PE X e te) (hg:PG X tg g) (hs:swapsWithSole [tg] e pos.line X.env=pure false:=by rfl) (hw:swappedStores [tg] e X.env=pure none:=by rfl)
 (h1:(assignEach [tg] X.env).map (·.2)=[assign tg X.env]:=by rfl):PS X (.Assign [tg] e pos) (KY te g):=by
 intro aa s σ H D I h
 refine wpAny_Assign_stores (bC (he aa s σ H _ I h) λv s1 ⟨x,H1,I1,r1,q1⟩=>?_) hs hw
 rw [h1]
 exact bC (hg aa s1 σ H1 x v _ I1 r1 q1) λ_ s2 q=>q
theorem yW (hN:X.N.Nodup) (hi:X.N[i]?=some x) (hx:Loc X.env.scope x) (he:PE X e te) (hs:swapsWith e (some (.Name x pos')) pos.line X.env=pure false:=by rfl) (hf:X.fn x=true\/X.env.scope.names.lookup x=some .local:=by first | exact .inl rfl | exact .inr rfl | assumption) :
 PS X (.Assign [.Name x pos'] e pos) (KY te (F2 i)):=by
 intro aa s σ H D I h
 refine wpAny_Assign_Name (bC (he aa s σ H _ I h) λv s1 ⟨y,H1,I1,r1,q1⟩=>?_) hs
 exact j7 I1 hN hi hx r1 (λs2 I2=>⟨_,H1,I2,q1⟩) hf
noncomputable def Nu (i:Nat) (te:TE) (ti:Ov):TS:=λD σ H=>∃ x,σ[i]?=some (some x)/\te σ H λy H1=>ti x y H1 λz H2=>D.nx (σ.set i (some z)) H2
theorem G5 (hN:X.N.Nodup) (hi:X.N[i]?=some x) (hx:Loc X.env.scope x) (he:PE X e te) (ho:Ow X op ti) (hf:X.fn x=true\/X.env.scope.names.lookup x=some .local:=by first | exact .inl rfl | exact .inr rfl | assumption) :
 PS X (.AugAssign (.Name x pos') op e pos) (Nu i te ti):=by
 intro aa s σ H D I h
 obtain ⟨v,e1,h⟩:=h
 obtain ⟨m,hn,hl⟩:=I.loc
 have vis:Nh X.env.scope x:=by rcases hx with k | k; exact .inl k; exact .inr (.inl k)
 obtain ⟨u,r,l⟩:=hl i x v hi e1 vis
 refine wpAny_AugAssign_Name ?_
 have go:wpAny (model X.prog X.w) X.A (eval e X.env) (λw s₂=>wpAny (model X.prog X.w) X.A (inplaceOp op u w) (λr s₃=>wpAny (model X.prog X.w) X.A (storeName X.env x r) (λ_=>SP X aa D .next) X.xe s₃) X.xe s₂) X.xe s:=by
  refine bC (he aa s σ H _ I h) λw s1 ⟨y,H1,I1,r1,q1⟩=>?_
  refine bC (ho aa s1 σ H1 v y u w _ I1 r r1 q1) λz s2 ⟨zv,H2,I2,r2,q2⟩=>?_
  exact j7 I2 hN hi hx r2 (λs3 I3=>⟨_,H2,I3,q2⟩) hf
 rcases l with ⟨hk,hm⟩ | ⟨hk,c,hc,hcell⟩
 ·exact wpAny_loadName_local I.ok.kind hk hn hm go
 ·rcases hk with hk | hk
  ·exact wpAny_loadName_cell I.ok.kind hk hc hcell go
  ·rcases hx with k | k
   ·have:X.env.scope.names.lookup x=some .free:=hk
    rw [k] at this; cases this
   ·have:X.env.scope.names.lookup x=some .free:=hk
    rw [k] at this; cases this
noncomputable def G6 (c:TT) (tb:TS):TS:=λD σ H=>∃ W:Nat->St->Hp->Prop,(∃ m,W m σ H)/\∀ m σ H,W m σ H ->
 c σ H λb H1=>if b=true then ∃ N:St->Hp->Prop,(∀ σ' H',N σ' H'->∃ m',m'<m/\W m' σ' H')/\tb { D with nx:=N,ct:=N,bk:=D.nx } σ H1 else D.nx σ H1
theorem yX (hp:PassesOwn (model X.prog X.w) X.A X.env X.xe) (hc:PT X c tc) (hb:pY X body tb):PS X (.While c body [] pos) (G6 tc tb):=by
 intro aa s σ H D I h
 obtain ⟨W,⟨m0,w0⟩,turn⟩:=h
 refine wpAny_While (codeAny_whileLoop (λn s'=>∃ σ' H',Inv X aa σ' H' s'/\W n σ' H') ?_ m0 ⟨σ,H,I,w0⟩)
 rintro n s1 ⟨σ1,H1,I1,w1⟩
 refine R0 hp (bC (hc aa s1 σ1 H1 _ I1 (turn n σ1 H1 w1)) λb s2 ⟨H2,I2,q2⟩=>?_)
 cases b with
 | true =>
  obtain ⟨N,hN,q2⟩:=q2
  rw [if_pos rfl]
  refine R0 hp (bC (hb aa s2 σ1 H2 _ I2 q2) λf s3 q3=>?_)
  cases f with
  | next =>
   obtain ⟨σ3,H3,I3,n3⟩:=q3
   obtain ⟨m',hm,w3⟩:=hN σ3 H3 n3
   exact ⟨m',hm,σ3,H3,I3,w3⟩
  | cont =>
   obtain ⟨σ3,H3,I3,n3⟩:=q3
   obtain ⟨m',hm,w3⟩:=hN σ3 H3 n3
   exact ⟨m',hm,σ3,H3,I3,w3⟩
  | brk=>exact q3
  | ret v=>exact q3
 | false =>
  rw [if_neg Pn]
  exact Uo ⟨σ1,H2,I2,q2⟩
structure It where
 go:Nat->Hp->Prop
 yld:Nat->Hp->V->Hp->Prop
 stop:Nat->Hp->Prop
def dR (X:Cx) (aa:List (Addr×Obj)) (H:Hp) (b:Addr):Prop :=
 H b=none/\b≠X.env.locals/\b∉X.fs/\(b∈X.ex\/X.s₀.heap.objs.size<=b)/\(∀ x c,X.env.cells.lookup x=some c->c≠b)/\∀ p∈X.pn++aa,p.1≠b
theorem Inv.j9 (I:Inv X aa σ H s) (hb:s.heap.objs.size<=b) (hn:H' b=none):dR X aa H' b:=by
 refine ⟨hn,RE (Qo I.lt hb),I.KJ hb,.inr (Pw I.sz hb),λx c e z=>?_,λp hp z=>?_⟩
 ·obtain ⟨v,q⟩:=I.cell x c e
  exact absurd (Qo q.lt (by rw [z]; exact hb)) (QW _)
 ·exact absurd (Qo (Pf (I.pin p hp).1) (by rw [z]; exact hb)) (QW _)
structure Turn (P:Program) (w:World) (K:O7) (tg:Expr) (J:It) (fp:List Addr) (it:Addr) (tn:Nat->Heap->Prop):Prop where
 mem:it∈fp
 obj:∀ i h,tn i h->∀ b∈fp,∃ o,h.get? b=some o/\∀ v,o.data≠.cell v
 keep:∀ i h h',tn i h->(∀ b∈fp,∀ o,h.get? b=some o->h'.get? b=some o)->tn i h'
 item:∀ (X:Cx),X.prog=P->X.w=w->X.K=K->X.calm=true->∀ (i:Nat) (aa:List (Addr×Obj)) (s:Shared) (σ:St) (H:Hp) (E:Value->Shared->Prop),Inv X aa σ H s->(∀ b∈fp,dR X aa H b)->tn i s.heap->J.go i H ->
  wpAny (model P w) X.A (pyNext (.ref it)) (λr s1=>∃ u,r=some u /\
   wpAny (model P w) X.A (letOwnedTupleGo tg (.ref it) u) (λ_ s2=>∃ x H',Inv X aa σ H' s2/\RelV x u/\J.yld i H x H'/\tn (i+1) s2.heap/\∀ b∈fp,H' b=none) E s1) E s
 done:∀ (X:Cx),X.prog=P->X.w=w->X.K=K->X.calm=true->∀ (i:Nat) (aa:List (Addr×Obj)) (s:Shared) (σ:St) (H:Hp) (E:Value->Shared->Prop),Inv X aa σ H s->(∀ b∈fp,dR X aa H b)->tn i s.heap->J.stop i H ->
  wpAny (model P w) X.A (pyNext (.ref it)) (λr s1=>r=none/\Inv X aa σ H s1) E s
 self:∀ (A:Around) (i:Nat) (s:Shared) (Q:Value->Shared->Prop) (E:Value->Shared->Prop),tn i s.heap->Q (.ref it) s->wpAny (model P w) A (pyIter (.ref it)) Q E s
noncomputable abbrev TI:=St->Hp->(It->Hp->Prop)->Prop
def Nv (X:Cx) (aa:List (Addr×Obj)) (σ:St) (tg:Expr) (R:It->Hp->Prop) (itv:Value) (s2:Shared):Prop :=
 ∃ (it:Addr) (fp:List Addr) (tn:Nat->Heap->Prop) (J:It) (H':Hp),itv=.ref it/\Inv X aa σ H' s2/\Turn X.prog X.w X.K tg J fp it tn/\tn 0 s2.heap/\(∀ b∈fp,dR X aa H' b)/\R J H'
def PI (X:Cx) (tg iter:Expr) (wi:TI):Prop :=
 ∀ (aa:List (Addr×Obj)) (s:Shared) (σ:St) (H:Hp) (R:It->Hp->Prop),Inv X aa σ H s->wi σ H R ->
  wpAny (model X.prog X.w) X.A (eval iter X.env) (λv s1=>wpAny (model X.prog X.w) X.A (pyIter v) (Nv X aa σ tg R) X.xe s1) X.xe s
theorem pZ (ho:s.heap.get? it=some o) (hc:o.cls=.type n) (hd:o.data=.fields vs)
 (hn:["enumerate","zip","dict_itemiterator","dict_reverseitemiterator","odict_iterator","itertools.zip_longest","itertools.pairwise"].contains n=false) (hQ:Q () s):wpAny M A (letOwnedTupleGo tg (.ref it) u) Q E s:=by
 unfold letOwnedTupleGo
 cases tg <;> first
  | exact O8 hQ
  | (cases u <;> first
      | exact O8 hQ
      | (refine O6 (wpAny_load ho ?_)
         rw [hc,hd]
         show wpAny M A (if (["enumerate","zip","dict_itemiterator","dict_reverseitemiterator","odict_iterator","itertools.zip_longest","itertools.pairwise"].contains n && vs[0]? == some (rawInt _))=true then _ else _) Q E s
         rw [if_neg (by intro h; rw [hn,Bool.false_and] at h; cases h)]
         exact O8 hQ))
noncomputable def Ny (K:O7) (a:Addr):It :=
 ⟨λi H=>∃ xs x,fk K H a xs/\xs[i]?=some x,λi H x H'=>H'=H/\∀ xs,fk K H a xs->xs[i]?=some x,λi H=>∃ xs,fk K H a xs/\xs.length<=i⟩
noncomputable def Nz (K:O7) (a:Addr):It :=
 ⟨λi H=>∃ xs x,dh K H a xs/\xs[i]?=some x,λi H x H'=>H'=H/\∀ xs,dh K H a xs->xs[i]?=some x,λi H=>∃ xs,dh K H a xs/\xs.length<=i⟩
noncomputable def MX (lo:Int) (n:Nat):It:=⟨λi _=>i<n,λi H x H'=>H'=H/\x=.int (lo+i),λi _=>n<=i⟩
theorem cX {P:Program} {w:World} {K:O7} {tg:Expr} (a it:Addr):Turn P w K tg (Ny K a) [it] it (λi h=>h.IsListIter it a i) where
 mem:=by simp
 obj:=λi h st b hb=>by
  have e:b=it:=by simpa using hb
  subst e
  obtain ⟨o,e,c,d⟩:=st
  exact ⟨o,e,λv z=>by rw [d] at z; cases z⟩
 keep:=λi h h' st k=>st.at λo e=>k it (by simp) o e
 item:=by
  intro X hP hw hK hc i aa s σ H E I hf st hg
  subst hP hw hK
  obtain ⟨xs,x,hq,hx⟩:=hg
  obtain ⟨its,rv,p,hz⟩:=I.list hq
  obtain ⟨u,hu,ru⟩:=rv.get hx
  obtain ⟨f0,f1,f2,f3,f4,f5⟩:=hf it (by simp)
  refine wpAny_pyNext_list_item st p.isList (x:=u) (by simpa using hu) λh' st' sb=>?_
  have I1:Inv X aa σ H { s with heap:=h' }:=I.turned (t':=s.toks) (λb o hb e=>(sb.2 b hb).trans e) f0 f1 f3 f4 f5
  obtain ⟨o,e,c,d⟩:=id st'
  exact ⟨u,rfl,pZ (s:={ s with heap:=h' }) e c d (by decide) ⟨x,H,I1,ru,⟨rfl,λys hy=>by rw [I.j8 hy hq]; exact hx⟩,st',λb hb=>(hf b hb).1⟩⟩
 done:=by
  intro X hP hw hK hc i aa s σ H E I hf st hg
  subst hP hw hK
  obtain ⟨xs,hq,hx⟩:=hg
  obtain ⟨its,rv,p,hz⟩:=I.list hq
  obtain ⟨f0,f1,f2,f3,f4,f5⟩:=hf it (by simp)
  have hl:=rv.length
  exact wpAny_pyNext_list_end (I.ok.hd hc) st p.isList (by simp; lia) λh' eb=>⟨rfl,I.turned (t':=s.toks) (λb o hb e=>eb b o hb e) f0 f1 f3 f4 f5⟩
 self:=λ_ _ _ _ _ st h=>wpAny_pyIter_listiter st h
theorem sD {P:Program} {w:World} {K:O7} {tg:Expr} (a it:Addr):Turn P w K tg (Nz K a) [it] it (λi h=>h.IsTupleIter it a i) where
 mem:=by simp
 obj:=λi h st b hb=>by
  have e:b=it:=by simpa using hb
  subst e
  obtain ⟨o,e,c,d⟩:=st
  exact ⟨o,e,λv z=>by rw [d] at z; cases z⟩
 keep:=λi h h' st k=>st.at λo e=>k it (by simp) o e
 item:=by
  intro X hP hw hK hc i aa s σ H E I hf st hg
  subst hP hw hK
  obtain ⟨xs,x,hq,hx⟩:=hg
  obtain ⟨its,rv,p,hz⟩:=I.tuple hq
  obtain ⟨u,hu,ru⟩:=rv.get hx
  obtain ⟨f0,f1,f2,f3,f4,f5⟩:=hf it (by simp)
  refine wpAny_pyNext_tuple_item st (show s.heap.IsTuple a its.toArray from p) (x:=u) (by simpa using hu) λh' st' sb=>?_
  have I1:Inv X aa σ H { s with heap:=h' }:=I.turned (t':=s.toks) (λb o hb e=>(sb.2 b hb).trans e) f0 f1 f3 f4 f5
  obtain ⟨o,e,c,d⟩:=id st'
  exact ⟨u,rfl,pZ (s:={ s with heap:=h' }) e c d (by decide) ⟨x,H,I1,ru,⟨rfl,λys hy=>by rw [I.gi hy hq]; exact hx⟩,st',λb hb=>(hf b hb).1⟩⟩
 done:=by
  intro X hP hw hK hc i aa s σ H E I hf st hg
  subst hP hw hK
  obtain ⟨xs,hq,hx⟩:=hg
  obtain ⟨its,rv,p,hz⟩:=I.tuple hq
  obtain ⟨f0,f1,f2,f3,f4,f5⟩:=hf it (by simp)
  have hl:=rv.length
  exact wpAny_pyNext_tuple_end (I.ok.hd hc) st (show s.heap.IsTuple a its.toArray from p) (by simp; lia) λh' eb=>⟨rfl,I.turned (t':=s.toks) (λb o hb e=>eb b o hb e) f0 f1 f3 f4 f5⟩
 self:=λ_ _ _ _ _ st h=>wpAny_pyIter_tupleiter st h
theorem sE {P:Program} {w:World} {K:O7} {tg:Expr} (it:Addr) (lo:Int) (n:Nat):Turn P w K tg (MX lo n) [it] it (λi h=>IsRangeIter h it (lo+(i:Nat) * 1) ((n:Int) - (i:Nat)) 1) where
 mem:=by simp
 obj:=λi h st b hb=>by
  have e:b=it:=by simpa using hb
  subst e
  exact ⟨_,st,λv z=>by
   have z':Tq _=Se v:=z
   cases z'⟩
 keep:=λi h h' st k=>k it (by simp) _ st
 item:=by
  intro X hP hw hK hc i aa s σ H E I hf st hg
  subst hP hw hK
  obtain ⟨f0,f1,f2,f3,f4,f5⟩:=hf it (by simp)
  have W:=Walks.range (prog:=X.prog) (w:=X.w) (I.ok.hd hc) it lo 1 n
  refine W.item i s _ _ hg st λv h' tk hv st' kk=>?_
  obtain ⟨t,rfl⟩:=hv
  have I1:Inv X aa σ H { s with heap:=h',toks:=tk }:=I.turned (λb o hb e=>kk b o (by simpa using hb) e) f0 f1 f3 f4 f5
  refine ⟨_,rfl,pZ (s:={ s with heap:=h',toks:=tk }) (n:="range_iterator") st' rfl rfl (by decide) ⟨.int (lo+i),H,I1,⟨t,?_⟩,⟨rfl,rfl⟩,st',λb hb=>(hf b hb).1⟩⟩
  rw [Int.mul_one]
 done:=by
  intro X hP hw hK hc i aa s σ H E I hf st hg
  subst hP hw hK
  obtain ⟨f0,f1,f2,f3,f4,f5⟩:=hf it (by simp)
  exact wpAny_pyNext_range_end (I.ok.hd hc) st (by have:n<=i:=hg; lia) λh' eb=>⟨rfl,I.turned (t':=s.toks) (λb o hb e=>eb b o hb e) f0 f1 f3 f4 f5⟩
 self:=λ_ _ _ _ _ st h=>wpAny_pyIter_rangeiter st h
theorem yY {lo hi:Int} (I:Inv X aa σ H s) (h1: -(2 ^ 62)<=lo) (h2:lo<2 ^ 62) (h3: -(2 ^ 62)<=hi) (h4:hi<2 ^ 62)
 (q:R (MX lo (hi - lo).toNat) H):wpAny (model X.prog X.w) X.A (pyIter (.ref s.heap.objs.size)) (Nv X aa σ tg R) E { s with heap:=s.heap.push { cls:=.type "range",data:=.fields #[.int lo t,.int hi u,.int 1 v] },toks:=tk }:=by
 refine wpAny_pyIter_range (IsRange.new ..) (small_one h1 h2 h3 h4) ?_
 have I1:Inv X aa σ H { s with heap:=s.heap.push { cls:=.type "range",data:=.fields #[.int lo t,.int hi u,.int 1 v] },toks:=tk }:=I.kept λb o e=>Pc _ e
 refine ⟨(s.heap.push { cls:=.type "range",data:=.fields #[.int lo t,.int hi u,.int 1 v] }).objs.size,[(s.heap.push { cls:=.type "range",data:=.fields #[.int lo t,.int hi u,.int 1 v] }).objs.size],_,_,H,rfl,
  I1.kept (t':=tk) λb o e=>Pc _ e,sE _ lo (hi - lo).toNat,?_,λb hb=>?_,q⟩
 ·have e1:lo+((0:Nat):Int) * 1=lo:=by simp
  have e2:(((hi - lo).toNat:Nat):Int) - ((0:Nat):Int)=TV lo hi 1:=by rw [rangeSize_one]; split <;> lia
  show IsRangeIter _ _ (lo+((0:Nat):Int) * 1) ((((hi - lo).toNat:Nat):Int) - ((0:Nat):Int)) 1
  rw [e1,e2]
  exact Pp _ rfl
 ·have e:b=(s.heap.push { cls:=.type "range",data:=.fields #[.int lo t,.int hi u,.int 1 v] }).objs.size:=by simpa using hb
  subst e
  exact I1.j9 (Pa _) (I1.hok.fresh (Pa _))
noncomputable def KZ (ta:TA):TI:=λσ H R=>ta σ H λvs H1=>∃ j:Int,vs=[.int j]/\ -(2 ^ 62)<=j/\j<2 ^ 62/\R (MX 0 j.toNat) H1
theorem wM (hg:Gl X "range") (hm:X.mg "range"=none) (ha:PA X [a] ta) (hs:starEach [a] X.env=[(false,eval a X.env)]:=by rfl):PI X tg (.Call (.Name "range" p) [a] [] pos) (KZ ta):=by
 intro aa s σ H R I h
 refine Call_ (cW I hg hm boot_range (Si (bC (ha pos aa s σ H _ I h) λus s1 ⟨vs,H1,I1,r1,q1⟩=>?_) hs rfl))
 obtain ⟨j,e,q1,q2,q⟩:=q1
 subst e
 cases r1 with
 | cons r rr =>
  cases rr
  obtain ⟨t,rfl⟩:=r
  exact call_range_1 (yY I1 (by lia) (by lia) q1 q2 (by simpa using q))
noncomputable def NB (wi:TI) (g:TG) (tb:TS):TS:=λD σ H=>wi σ H λJ H1=>∃ W:Nat->Nat->St->Hp->Prop,(∃ m,W 0 m σ H1)/\∀ i m σ H,W i m σ H ->
 (J.stop i H/\D.nx σ H)\/(J.go i H/\∃ N:St->Hp->Prop,(∀ σ' H',N σ' H'->∃ m',m'<m/\W (i+1) m' σ' H')/\∀ x H',J.yld i H x H'->g x σ H' λσ2 H2=>tb { D with nx:=N,ct:=N,bk:=D.nx } σ2 H2)
noncomputable def iZ (fp:List Addr) (h:Heap):List (Addr×Obj):=fp.filterMap λb=>(h.get? b).map λo=>(b,o)
theorem dS (hb:b∈fp) (e:h.get? b=some o):(b,o)∈iZ fp h:=List.mem_filterMap.mpr ⟨b,hb,by rw [e]; rfl⟩
theorem wN (hp:p∈iZ fp h):p.1∈fp/\h.get? p.1=some p.2:=by
 obtain ⟨b,hb,e⟩:=List.mem_filterMap.mp hp
 cases q:h.get? b with
 | none=>rw [q] at e; cases e
 | some o =>
  rw [q] at e
  have e':(b,o)=p:=QS e
  subst e'
  exact ⟨hb,q⟩
theorem Inv.pinned (I:Inv X aa σ H s) (hf:∀ b∈fp,dR X aa H b) (ho:∀ b∈fp,∃ o,s.heap.get? b=some o/\∀ v,o.data≠.cell v):Inv X (aa++iZ fp s.heap) σ H s :=
 I.uu λp hp=>(PD.mp hp).elim (λz=>I.pin p (P9 _ z)) λz=>by
  obtain ⟨hb,e⟩:=wN z
  obtain ⟨f0,f1,f2,_⟩:=hf p.1 hb
  obtain ⟨o,e',d⟩:=ho p.1 hb
  rw [e] at e'; cases e'
  exact ⟨e,f0,f1,f2,d⟩
theorem Inv.eS (I:Inv X (aa++pl) σ H s):Inv X aa σ H s:=I.uu λp hp=>I.pin p (P9 _ (QM _ hp))
theorem yZ (hp:PassesOwn (model X.prog X.w) X.A X.env X.xe) (hc:X.calm=true) (hi:PI X tg iter wi) (hg:PG X tg g) (hb:pY X body tb)
 (hs:∀ x,foldedSetIterable iter X.env x=pure x:=by intro _; rfl):PS X (.For tg iter body [] pos) (NB wi g tb):=by
 intro aa s σ H D I h
 refine wpAny_For (bC (hi aa s σ H _ I h) λv s1 h1=>bC h1 λitv s2 h2=>?_) hs
 obtain ⟨it,fp,tn,J,H2,e,I2,T,st2,f2,W,⟨m0,w0⟩,turn⟩:=h2
 subst e
 have stat:∀ {H':Hp},(∀ b∈fp,H' b=none)->∀ b∈fp,dR X aa H' b:=λhn b hb=>⟨hn b hb,(f2 b hb).2⟩
 refine codeAny_forLoop_any (λn s'=>∃ i σ' H',Inv X aa σ' H' s'/\tn i s'.heap/\(∀ b∈fp,H' b=none)/\W i n σ' H') ?_ m0 ⟨0,σ,H2,I2,st2,λb hb=>(f2 b hb).1,w0⟩
 rintro n s3 ⟨i,σ3,H3,I3,st3,fr3,w3⟩
 rcases turn i n σ3 H3 w3 with ⟨stop,qn⟩ | ⟨go,N,hN,step⟩
 ·refine R0 hp (bC (T.done X rfl rfl rfl hc i aa s3 σ3 H3 X.xe I3 (stat fr3) st3 stop) λr s4 ⟨hr,I4⟩=>?_)
  subst hr
  exact Uo ⟨σ3,H3,I4,qn⟩
 ·refine R0 hp (bC (T.item X rfl rfl rfl hc i aa s3 σ3 H3 X.xe I3 (stat fr3) st3 go) λr s4 ⟨u,hr,h4⟩=>?_)
  subst hr
  refine R0 hp (bC h4 λ_ s5 ⟨x,H5,I5,r5,y5,st5,fr5⟩=>?_)
  have I5':=I5.pinned (stat fr5) (T.obj _ _ st5)
  refine R0 hp (bC (hg _ s5 σ3 H5 x u _ I5' r5 (step x H5 y5)) λ_ s6 ⟨σ6,H6,I6,q6⟩=>?_)
  refine R0 hp (bC (hb _ s6 σ6 H6 _ I6 q6) λf s7 q7=>?_)
  have again:∀ {σ7:St} {H7:Hp},Inv X (aa++iZ fp s5.heap) σ7 H7 s7->N σ7 H7->∃ m,m<n/\∃ i σ' H',Inv X aa σ' H' s7/\tn i s7.heap/\(∀ b∈fp,H' b=none)/\W i m σ' H':=λ{σ7 H7} I7 n7=>by
   obtain ⟨m',hm,w7⟩:=hN σ7 H7 n7
   refine ⟨m',hm,i+1,σ7,H7,I7.eS,T.keep _ _ _ st5 λb hb o e=>(I7.pin (b,o) (P9 _ (P9 _ (dS hb e)))).1,λb hb=>?_,w7⟩
   obtain ⟨o,e,d⟩:=T.obj _ _ st5 b hb
   exact (I7.pin (b,o) (P9 _ (P9 _ (dS hb e)))).2.1
  cases f with
  | next=>obtain ⟨σ7,H7,I7,n7⟩:=q7; exact again I7 n7
  | cont=>obtain ⟨σ7,H7,I7,n7⟩:=q7; exact again I7 n7
  | brk=>obtain ⟨σ7,H7,I7,q7⟩:=q7; exact ⟨σ7,H7,I7.eS,q7⟩
  | ret v=>obtain ⟨x7,σ7,H7,I7,r7,q7⟩:=q7; exact ⟨x7,σ7,H7,I7.eS,r7,q7⟩
noncomputable abbrev R2:=V->V->Hp->VK->Prop
def fL (X:Cx) (f:Value->Value->Sem Value) (r:R2):Prop :=
 ∀ (aa:List (Addr×Obj)) (s:Shared) (σ:St) (H:Hp) (x y:V) (v u:Value) (Q:VK),Inv X aa σ H s->RelV x v->RelV y u->r x y H Q ->
  wpAny (model X.prog X.w) X.A (f v u) (EP X aa σ Q) X.xe s
def NC (X:Cx) (f:Value->Sem Value) (r:V->Hp->VK->Prop):Prop :=
 ∀ (aa:List (Addr×Obj)) (s:Shared) (σ:St) (H:Hp) (x:V) (v:Value) (Q:VK),Inv X aa σ H s->RelV x v->r x H Q ->
  wpAny (model X.prog X.w) X.A (f v) (EP X aa σ Q) X.xe s
def fM (X:Cx) (f:Value) (r:List V->Hp->VK->Prop):Prop :=
 ∀ (aa:List (Addr×Obj)) (s:Shared) (σ:St) (H:Hp) (xs:List V) (us:List Value) (Q:VK),Inv X aa σ H s->Vals xs us->r xs H Q ->
  wpAny (model X.prog X.w) X.A (call f us) (EP X aa σ Q) X.xe s
noncomputable def ND (r:R2) (ta tb:TE):TE:=λσ H Q=>ta σ H λx H1=>tb σ H1 λy H2=>r x y H2 Q
noncomputable def OP (r:V->Hp->VK->Prop) (ta:TE):TE:=λσ H Q=>ta σ H λx H1=>r x H1 Q
noncomputable def rI (C:Int->Int->Prop) (g:Int->Int->V):R2:=λx y H Q=>∃ i j,x=.int i/\y=.int j/\C i j/\Q (g i j) H
noncomputable def wO (g:Int->Int->V):R2:=λx y H Q=>∃ i j,x=.int i/\y=.int j/\Q (g i j) H
noncomputable def rU (g:Int->V):V->Hp->VK->Prop:=λx H Q=>∃ i,x=.int i/\Q (g i) H
theorem K0 (ha:PE X a ta) (hb:PE X b tb) {R:V->V->Hp->Prop} (I:Inv X aa σ H s)
 (h:ta σ H λx H1=>tb σ H1 λy H2=>R x y H2) {f:Value->Value->Sem Value}
 (hf:∀ v u s2 x y H2,Inv X aa σ H2 s2->RelV x v->RelV y u->R x y H2->wpAny (model X.prog X.w) X.A (f v u) Q X.xe s2) :
 wpAny (model X.prog X.w) X.A (eval a X.env) (λv s₁=>wpAny (model X.prog X.w) X.A (eval b X.env) (λu s₂=>wpAny (model X.prog X.w) X.A (f v u) Q X.xe s₂) X.xe s₁) X.xe s:=by
 refine bC (ha aa s σ H _ I h) λv s1 ⟨x,H1,I1,r1,q1⟩=>?_
 refine bC (hb aa s1 σ H1 _ I1 q1) λu s2 ⟨y,H2,I2,r2,q2⟩=>?_
 exact hf v u s2 x y H2 I2 r1 r2 q2
theorem uw (ho:fL X (binaryOp op) r) (ha:PE X a ta) (hb:PE X b tb):PE X (.BinOp a op b pos) (ND r ta tb):=by
 intro aa s σ H Q I h
 exact wpAny_BinOp (K0 ha hb I h λv u s2 x y H2 I2 rx ry q=>ho aa s2 σ H2 x y v u Q I2 rx ry q)
theorem K1 (ho:NC X (unaryOp op) r) (ha:PE X a ta):PE X (.UnaryOp op a pos) (OP r ta):=by
 intro aa s σ H Q I h
 exact UnaryOp_ (bC (ha aa s σ H _ I h) λv s1 ⟨x,H1,I1,r1,q1⟩=>ho aa s1 σ H1 x v Q I1 r1 q1)
theorem Ks {g:Int->Int->Int}
 (rule:∀ (i j:Int) (t u:Tok) (s:Shared) (Q:Value->Shared->Prop) (E:Value->Shared->Prop),C i j->Q (.int (g i j) s.toks) { s with toks:=s.toks+1 }->wpAny (model X.prog X.w) X.A (f (.int i t) (.int j u)) Q E s) :
 fL X f (rI C λi j=>.int (g i j)):=by
 intro aa s σ H x y v u Q I rx ry h
 obtain ⟨i,j,rfl,rfl,hc,q⟩:=h
 obtain ⟨t,rfl⟩:=rx
 obtain ⟨t',rfl⟩:=ry
 exact rule i j t t' s _ _ hc ⟨.int (g i j),H,I.tok _,⟨_,rfl⟩,q⟩
theorem y9 {g:Int->Int->Int}
 (rule:∀ (i j:Int) (t u:Tok) (s:Shared) (Q:Value->Shared->Prop) (E:Value->Shared->Prop),Q (.int (g i j) s.toks) { s with toks:=s.toks+1 }->wpAny (model X.prog X.w) X.A (f (.int i t) (.int j u)) Q E s) :
 fL X f (wO λi j=>.int (g i j)):=by
 intro aa s σ H x y v u Q I rx ry h
 obtain ⟨i,j,rfl,rfl,q⟩:=h
 obtain ⟨t,rfl⟩:=rx
 obtain ⟨t',rfl⟩:=ry
 exact rule i j t t' s _ _ ⟨.int (g i j),H,I.tok _,⟨_,rfl⟩,q⟩
theorem K2 {g:Int->Int->Bool}
 (rule:∀ (i j:Int) (t u:Tok) (s:Shared) (Q:Value->Shared->Prop) (E:Value->Shared->Prop),Q (.bool (g i j)) s->wpAny (model X.prog X.w) X.A (f (.int i t) (.int j u)) Q E s) :
 fL X f (wO λi j=>.bl (g i j)):=by
 intro aa s σ H x y v u Q I rx ry h
 obtain ⟨i,j,rfl,rfl,q⟩:=h
 obtain ⟨t,rfl⟩:=rx
 obtain ⟨t',rfl⟩:=ry
 exact rule i j t t' s _ _ ⟨.bl (g i j),H,I,rfl,q⟩
def za (i j:Int):Prop:=0<=j/\j<=1000000/\i.natAbs<2 ^ 64
theorem sF (k):(0:Int)<=2 ^ k:=by
 rw [two_pow_cast]
 exact Int.natCast_nonneg _
theorem G7:fL X (binaryOp .Add) (wO λi j=>.int (i+j)):=y9 λ_ _ _ _ _ _ _ q=>add_int q
theorem G8:fL X (binaryOp .Sub) (wO λi j=>.int (i - j)):=y9 λ_ _ _ _ _ _ _ q=>sub_int q
theorem G9:fL X (binaryOp .Mod) (rI (λ_ j=>0<j) λi j=>.int (i % j)):=Ks λi j _ _ _ _ _ hc q=>by
 have h1:(0:Int)<j:=hc
 exact mod_int' (by lia) (by rw [Int.fmod_eq_emod_of_nonneg i (by lia)]; exact q)
theorem Hg:fL X (binaryOp .Pow) (rI za λi j=>.int (i ^ j.toNat)):=Ks λ_ _ _ _ _ _ _ hc q=>pow_int_small hc.1 hc.2.1 hc.2.2 q
theorem Hh:fL X (binaryOp .LShift) (rI za λi j=>.int (i * 2 ^ j.toNat)):=Ks λ_ _ _ _ _ _ _ hc q=>lshift_int_small hc.1 hc.2.1 hc.2.2 q
theorem Hi:fL X (binaryOp .RShift) (rI (λ_ j=>0<=j) λi j=>.int (i / 2 ^ j.toNat)):=Ks λi j _ _ _ _ _ hc q =>
 rshift_int hc (by rw [Int.fdiv_eq_ediv_of_nonneg i (sF _)]; exact q)
theorem Hj:fL X (binaryOp .BitAnd) (wO λi j=>.int (Builtin.bitAnd i j)):=y9 λ_ _ _ _ _ _ _ q=>and_int q
theorem Dj:fL X (inplaceOp .Add) (wO λi j=>.int (i+j)):=y9 λ_ _ _ _ _ _ _ q=>iadd_int q
theorem Dk:fL X (inplaceOp .Sub) (wO λi j=>.int (i - j)):=y9 λ_ _ _ _ _ _ _ q=>isub_int q
theorem OQ {g:Int->Int}
 (rule:∀ (i:Int) (t:Tok) (s:Shared) (Q:Value->Shared->Prop) (E:Value->Shared->Prop),Q (.int (g i) s.toks) { s with toks:=s.toks+1 }->wpAny (model X.prog X.w) X.A (f (.int i t)) Q E s) :
 NC X f (rU λi=>.int (g i)):=by
 intro aa s σ H x v Q I rx h
 obtain ⟨i,rfl,q⟩:=h
 obtain ⟨t,rfl⟩:=rx
 exact rule i t s _ _ ⟨.int (g i),H,I.tok _,⟨_,rfl⟩,q⟩
theorem Hl:NC X (unaryOp .USub) (rU λi=>.int (-i)):=OQ λ_ _ _ _ _ q=>neg_int q
noncomputable def Dl:V->V->Bool
 | .non,.non=>true | .non,.int _=>true | .int _,.non=>true | .non,.bl _=>true | .bl _,.non=>true | .non,.str _=>true | .str _,.non=>true
 | .int _,.int _=>true | .bl _,.bl _=>true | .str _,.str _=>true | .byt _,.byt _=>true
 | .int _,.str _=>true | .str _,.int _=>true | .bl _,.str _=>true | .str _,.bl _=>true
 | _,_=>false
noncomputable def OR:R2:=λx y H Q=>Dl x y=true/\Q (.bl (decide (x=y))) H
noncomputable def OS:R2:=λx y H Q=>Dl x y=true/\Q (.bl (!decide (x=y))) H
theorem uz:decide (V.int i=V.int j)=(i == j):=by
 rw [Tc]
 simp
theorem zb:decide (V.bl i=V.bl j)=(i == j):=by
 rw [Tc]
 simp
theorem uA:decide (V.str i=V.str j)=(i == j):=by
 rw [Tc]
 simp
theorem uB:decide (V.byt i=V.byt j)=(i.toList == j.toList):=by
 rw [Tc]
 cases i
 cases j
 simp
theorem bw (I:Inv X aa σ H s) (q:Q (.bl k) H) (e:k=k'):EP X aa σ Q (.bool k') s:=by
 subst e
 exact ⟨.bl k,H,I,rfl,q⟩
theorem K3:fL X (compareOp .Eq) OR:=by
 intro aa s σ H x y v u Q I rx ry h
 obtain ⟨hs,q⟩:=h
 cases x with
 | non =>
  cases rx
  cases y with
  | non=>cases ry; exact PySem.EqNone.eq_none_none (bw I q (by simp))
  | bl j=>cases ry; exact PySem.EqNone.eq_none_bool (bw I q (by simp))
  | int j=>obtain ⟨t',rfl⟩:=ry; exact PySem.EqNone.eq_none_int (bw I q (by simp))
  | str j=>obtain ⟨t',rfl⟩:=ry; exact PySem.EqNone.eq_none_str (bw I q (by simp))
  | _=>exact absurd (show false=true from hs) Pn
 | bl i =>
  cases rx
  cases y with
  | non=>cases ry; exact PySem.EqNone.eq_bool_none (bw I q (by simp))
  | bl j=>cases ry; exact eq_bool (bw I q zb)
  | str j=>obtain ⟨t',rfl⟩:=ry; exact PySem.EqMixed.eq_bool_str (bw I q (by simp))
  | _=>exact absurd (show false=true from hs) Pn
 | int i =>
  obtain ⟨t,rfl⟩:=rx
  cases y with
  | non=>cases ry; exact PySem.EqNone.eq_int_none (bw I q (by simp))
  | int j=>obtain ⟨t',rfl⟩:=ry; exact eq_int (bw I q uz)
  | str j=>obtain ⟨t',rfl⟩:=ry; exact PySem.EqMixed.eq_int_str (bw I q (by simp))
  | _=>exact absurd (show false=true from hs) Pn
 | str i =>
  obtain ⟨t,rfl⟩:=rx
  cases y with
  | non=>cases ry; exact PySem.EqNone.eq_str_none (bw I q (by simp))
  | bl j=>cases ry; exact PySem.EqMixed.eq_str_bool (bw I q (by simp))
  | int j=>obtain ⟨t',rfl⟩:=ry; exact PySem.EqMixed.eq_str_int (bw I q (by simp))
  | str j=>obtain ⟨t',rfl⟩:=ry; exact eq_str (bw I q uA)
  | _=>exact absurd (show false=true from hs) Pn
 | byt i =>
  obtain ⟨t,rfl⟩:=rx
  cases y with
  | byt j=>obtain ⟨t',rfl⟩:=ry; exact PySem.W.eq_bytes (bw I q uB)
  | _=>exact absurd (show false=true from hs) Pn
 | _=>cases y <;> exact absurd (show false=true from hs) Pn
theorem K4:fL X (compareOp .NotEq) OS:=by
 intro aa s σ H x y v u Q I rx ry h
 obtain ⟨hs,q⟩:=h
 cases x with
 | non =>
  cases rx
  cases y with
  | non=>cases ry; exact PySem.EqNone.ne_none_none (bw I q (by simp))
  | bl j=>cases ry; exact PySem.EqNone.ne_none_bool (bw I q (by simp))
  | int j=>obtain ⟨t',rfl⟩:=ry; exact PySem.EqNone.ne_none_int (bw I q (by simp))
  | str j=>obtain ⟨t',rfl⟩:=ry; exact PySem.EqNone.ne_none_str (bw I q (by simp))
  | _=>exact absurd (show false=true from hs) Pn
 | bl i =>
  cases rx
  cases y with
  | non=>cases ry; exact PySem.EqNone.ne_bool_none (bw I q (by simp))
  | bl j=>cases ry; exact ne_bool (bw I q (congrArg not zb))
  | str j=>obtain ⟨t',rfl⟩:=ry; exact PySem.EqMixed.ne_bool_str (bw I q (by simp))
  | _=>exact absurd (show false=true from hs) Pn
 | int i =>
  obtain ⟨t,rfl⟩:=rx
  cases y with
  | non=>cases ry; exact PySem.EqNone.ne_int_none (bw I q (by simp))
  | int j=>obtain ⟨t',rfl⟩:=ry; exact ne_int (bw I q (congrArg not uz))
  | str j=>obtain ⟨t',rfl⟩:=ry; exact PySem.EqMixed.ne_int_str (bw I q (by simp))
  | _=>exact absurd (show false=true from hs) Pn
 | str i =>
  obtain ⟨t,rfl⟩:=rx
  cases y with
  | non=>cases ry; exact PySem.EqNone.ne_str_none (bw I q (by simp))
  | bl j=>cases ry; exact PySem.EqMixed.ne_str_bool (bw I q (by simp))
  | int j=>obtain ⟨t',rfl⟩:=ry; exact PySem.EqMixed.ne_str_int (bw I q (by simp))
  | str j=>obtain ⟨t',rfl⟩:=ry; exact ne_str (bw I q (congrArg not uA))
  | _=>exact absurd (show false=true from hs) Pn
 | byt i =>
  obtain ⟨t,rfl⟩:=rx
  cases y with
  | byt j=>obtain ⟨t',rfl⟩:=ry; exact PySem.W.ne_bytes (bw I q (congrArg not uB))
  | _=>exact absurd (show false=true from hs) Pn
 | _=>cases y <;> exact absurd (show false=true from hs) Pn
theorem K5:fL X (compareOp .Lt) (wO λi j=>.bl (decide (i<j))):=K2 λ_ _ _ _ _ _ _ q=>lt_int q
theorem K6:fL X (compareOp .Gt) (wO λi j=>.bl (decide (j<i))):=K2 λ_ _ _ _ _ _ _ q=>gt_int q
theorem fL.or (h:fL X f r) (h':fL X f r'):fL X f (λx y H Q=>r x y H Q\/r' x y H Q):=by
 intro aa s σ H x y v u Q I rx ry q
 rcases q with q | q
 ·exact h aa s σ H x y v u Q I rx ry q
 ·exact h' aa s σ H x y v u Q I rx ry q
theorem nM (b) (h:op≠.In:=by decide) (h2:op≠.NotIn:=by decide):behindInMarks op b=false:=by
 have e1:(op == CmpOp.In)=false:=by cases op <;> first | rfl | exact absurd rfl h
 have e2:(op == CmpOp.NotIn)=false:=by cases op <;> first | rfl | exact absurd rfl h2
 cases b <;> simp [behindInMarks,e1,e2]
noncomputable def K7 (t:TE):TT:=λσ H Q=>t σ H λx H'=>∃ k,x=.bl k/\Q k H'
theorem Dm (ho:fL X (compareOp op) r) (ha:PE X a ta) (hb:PE X b tb) (hm:behindInMarks op b=false):PT X (.Compare a [op] [b] pos) (K7 (ND r ta tb)):=by
 intro aa s σ H Q I h
 refine wpAny_isTrue_Compare1 (bC (ha aa s σ H _ I h) λv s1 ⟨x,H1,I1,r1,q1⟩=>bC (hb aa s1 σ H1 _ I1 q1) λu s2 ⟨y,H2,I2,r2,q2⟩ =>
  bC (ho aa s2 σ H2 x y v u _ I2 r1 r2 q2) λc s3 ⟨z,H3,I3,r3,k,e,q3⟩=>?_) hm
 subst e
 cases r3
 exact Sx ⟨H3,I3,q3⟩
theorem nN:(sizeLine:Nat)<2 ^ 63:=by rw [sizeLine_eq]; decide
theorem sG:fL X (binaryOp .Add) (λx y H Q=>∃ i j,x=.str i/\y=.str j/\i.length+j.length<=sizeLine/\Q (.str (i++j)) H):=by
 intro aa s σ H x y v u Q I rx ry h
 obtain ⟨i,j,rfl,rfl,hz,q⟩:=h
 obtain ⟨t,rfl⟩:=rx
 obtain ⟨t',rfl⟩:=ry
 exact add_str (λt' tk=>⟨.str (i++j),H,I.tok _,⟨_,rfl⟩,q⟩) hz
theorem vals1 (r:Vals [x] us):∃ u,us=[u]/\RelV x u:=by
 cases r with
 | cons r1 r2=>cases r2; exact ⟨_,rfl,r1⟩
theorem vals2 (r:Vals [x,y] us):∃ u w',us=[u,w']/\RelV x u/\RelV y w':=by
 cases r with
 | cons r1 r2 =>
  cases r2 with
  | cons r3 r4=>cases r4; exact ⟨_,_,rfl,r1,r3⟩
theorem wQ (hc:X.calm=true):fM X (.builtin "max") (λxs H Q=>∃ i j,xs=[.int i,.int j]/\Q (.int (if j>i then j else i)) H):=by
 intro aa s σ H xs us Q I r h
 obtain ⟨i,j,rfl,q⟩:=h
 obtain ⟨u,w',rfl,⟨t,rfl⟩,⟨t',rfl⟩⟩:=vals2 r
 refine max_two_ints (I.ok.hd hc) λh' tk k=>⟨_,H,I.kept k,?_,q⟩
 by_cases hj:j>i
 ·rw [if_pos hj,if_pos hj]; exact ⟨_,rfl⟩
 ·rw [if_neg hj,if_neg hj]; exact ⟨_,rfl⟩
structure OT (h:Heap) (x dx C:Addr) (mA:Str->Option Value):Prop where
 obj:h.get? x=some (PySem.W.instObj C dx)
 ns:h.Ns1 dx mA
 ne:dx≠x
theorem jD.some_of (r:jD (some v) o):∃ u,o=some u/\RelV v u:=by
 cases o with
 | none=>exact (show False from r).elim
 | some u=>exact ⟨u,rfl,r⟩
structure OU (K:O7) (C:Addr):Prop where
 pg:PySem.W.plainGet K C Str.empty=true
 hd:PySem.W.hasDictIn K C=true
 po:PySem.W.plainOver K C=true
 sa:Ry K (.ref C) "__setattr__"=some (some (.builtin "object.__setattr__"))
structure Con (K:O7) (C:Addr) (f:Str) (v:V) (u:Value):Prop where
 at_:Ry K (.ref C) f=some (some u)
 rel:RelV v u
 get:Vk K u "__get__"=some none
 cp:PySem.W.copiedNames.contains f=false
structure Meth (K:O7) (C:Addr) (m:Str) (f:Addr):Prop where
 at_:Ry K (.ref C) m=some (some (.ref f))
 fn:PySem.W.isFn K (.ref f)=true
 kp:Q7 K (.ref f)=true
def K8 (X:Cx) (op:Operator) (rd:V->V->Hp->VK->Prop):Prop :=
 ∀ (aa:List (Addr×Obj)) (s:Shared) (σ:St) (H:Hp) (x y:V) (u v:Value) (Q:VK),Inv X aa σ H s->RelV x u->RelV y v->rd x y H Q->wpAny (model X.prog X.w) X.A (inplaceOp op u v) (EP X aa σ Q) X.xe s
section
variable {X:Cx} {aa:List (Addr×Obj)} {σ:St} {H:Hp} {s:Shared} {A:Around} {E:Value->Shared->Prop} {Q:Value->Shared->Prop} {c:Value} {b:Bool}
inductive kc (K:O7) (H:Hp):V->Value->Prop where
 | non:kc K H .non (.type "NoneType")
 | bl (x:Bool):kc K H (.bl x) (.type "bool")
 | int (i:Int):kc K H (.int i) (.type "int")
 | str (x:Str):kc K H (.str x) (.type "str")
 | flt (x:UInt64):kc K H (.flt x) (.type "float")
 | lst {a:Addr} {xs:List V} (e:H a=some (.lst xs)):kc K H (.ref a) (.type "list")
 | frz {a:Addr} {o:Obj} {xs:List V} (e:H a=some (.frz o (.lst xs))):kc K H (.ref a) (.type "list")
 | tup {a:Addr} {xs:List V} (e:H a=some (.tup xs)):kc K H (.ref a) (.type "tuple")
 | dK {a:Addr} {kvs:List (Key×V)} (e:H a=some (.dK kvs)):kc K H (.ref a) (.type "dict")
 | dT {a:Addr} {kvs:List (List Key×Addr×V)} (e:H a=some (.dT kvs)):kc K H (.ref a) (.type "dict")
 | ins {a C dx:Addr} {fs:List (Str×V)} (e:H a=some (.ins C dx fs)) (cl:OU K C) (ha:Ry K (.ref C) "__class__"=some (some (.builtin "object.__class__")))
  (hn:Vk K (.builtin "object.__class__") "__get__"=some (some (.builtin "getset_descriptor.__get__"))) (htk:PySem.W.takesIn K (.builtin "object.__class__")=some true)
  (hm:UB K C (.type "object")=some true):kc K H (.ref a) (.ref C)
end
structure gx (k:Nat) (A:Around):Prop where
 hd:A.handled=none
 dp:A.depth+3 * k+5<recursionLimit
 un:A.units+16 * k+200<cLine
theorem gx.mono (r:gx k A) (h:j<=k):gx j A:=⟨r.hd,by have:=r.dp; lia,by have:=r.un; lia⟩
theorem gx.deeper (r:gx (k+1) A) (env:Env):gx k (A.deeper env) :=
 ⟨r.hd,by have:=r.dp; show A.depth+1+3 * k+5<_; lia,by have:=r.un; show A.units+3+16 * k+200<_; lia⟩
theorem gx.depth (r:gx k A):A.depth<recursionLimit:=by have:=r.dp; lia
theorem gx.units (r:gx k A):A.units+64<cLine:=by have:=r.un; lia
noncomputable def NF:TA:=λ_ H Q=>Q [] H
noncomputable def K9 (ta:TE) (tr:TA):TA:=λσ H Q=>ta σ H λx H1=>tr σ H1 λxs H2=>Q (x::xs) H2
theorem dD:PA X [] NF:=λ_ _ _ _ H Q I h=>Calls.spliced_nil ⟨[],H,I,.nil,h⟩
theorem bM (ha:PE X e te) (hr:PA X es t) (hs:starEach (e::es) X.env=(false,eval e X.env)::starEach es X.env:=by rfl):PA X (e::es) (K9 te t):=by
 intro pos aa s σ H Q I h
 rw [hs]
 show wpAny _ _ (spliced ((false,eval e X.env)::backTo pos (starEach es X.env))) _ _ s
 refine Ve (bC (ha aa s σ H _ I h) λu s1 ⟨x,H1,I1,r1,q1⟩=>?_)
 exact bC (hr pos aa s1 σ H1 _ I1 q1) λus s2 ⟨xs,H2,I2,r2,q2⟩=>⟨x::xs,H2,I2,.cons r1 r2,q2⟩
noncomputable def NG (t:TA):TE:=λσ H Q=>t σ H λxs H1=>xs.length<=sizeLine/\∀ p,H1 p=none->Q (.ref p) (upd H1 p (.tup xs))
noncomputable def NH (t:TA):TE:=λσ H Q=>t σ H λxs H1=>xs.length<=sizeLine/\∀ p,H1 p=none->Q (.ref p) (upd H1 p (.lst xs))
theorem zc {x1} (h:PA X es t):PE X (.Tuple es x1 pos) (NG t):=by
 intro aa s σ H Q I hq
 refine wpAny_Tuple_spliced (bC (h pos aa s σ H _ I hq) λus s1 ⟨xs,H1,I1,r,z,q⟩=>⟨by rw [<- r.length]; exact z,?_⟩)
 have hf:H1 s1.heap.objs.size=none:=I1.hok.fresh (Pa _)
 refine ⟨.ref s1.heap.objs.size,upd H1 s1.heap.objs.size (.tup xs),I1.laid (t':=s1.toks) (λb u e=>Pc _ e) (Pa _) ?_,rfl,q _ hf⟩
 exact ⟨z,us,r,⟨_,Pp _ rfl,rfl,_,rfl⟩⟩
theorem zd (h:PA X es t):PE X (.List es pos) (NH t):=by
 intro aa s σ H Q I hq
 refine wpAny_List_spliced (bC (h pos aa s σ H _ I hq) λus s1 ⟨xs,H1,I1,r,z,q⟩=>⟨by rw [<- r.length]; exact z,?_⟩)
 have hf:H1 s1.heap.objs.size=none:=I1.hok.fresh (Pa _)
 refine ⟨.ref s1.heap.objs.size,upd H1 s1.heap.objs.size (.lst xs),I1.laid (t':=s1.toks) (λb u e=>Pc _ e) (Pa _) ?_,rfl,q _ hf⟩
 exact ⟨z,us,0,r,Pp _ rfl⟩
noncomputable abbrev Sp:=List V->Hp->VK->XK->Prop
noncomputable abbrev Ho:=List Env->Hp->Shared->XK->Value->Shared->Prop
structure Dn (P:Program) (w:World) (K:O7) (mg:Str->Option Value) (base:Heap) (A:Around) (outer:List Env) (s:Shared) (H:Hp):Prop where
 frames:A.frames=some outer
 mod:Mod K mg base
 bs:∀ b o,base.get? b=some o->s.heap.get? b=some o/\H b=none
 bsz:base.objs.size<=s.heap.objs.size
 iY:s.heap.FunFrames base outer
 frf:∀ b∈frs outer,H b=none
 hok:iX P w H s.heap
 bare:AllBare s.gens
def CE (outer:List Env) (P:Program) (w:World) (H:Hp) (s:Shared) (Q:VK) (u:Value) (s':Shared):Prop :=
 ∃ v H',s'.os=s.os/\AllBare s'.gens/\Un (frs outer) [] H H' s.heap s'.heap/\iX P w H' s'.heap/\RelV v u/\Q v H'
def CR (CX:Ho) (outer:List Env) (P:Program) (w:World) (H:Hp) (s:Shared) (Q:VK) (E:XK) (r:Result) (s':Shared):Prop :=
 match r with
 | .ok (.ret u)=>CE outer P w H s Q u s'
 | .ok _=>False
 | .error e=>CX outer H s E e s'
structure bq (P:Program) (w:World) (K:O7) (mg:Str->Option Value) (base:Heap) (CX:Ho) (k:Nat) (f:Addr) (fd:FuncData) (ps:List Str) (sp:Sp):Prop where
 len:∀ vs H Q E,sp vs H Q E->vs.length=ps.length
 run:∀ (A:Around) (outer:List Env) (s:Shared) (H:Hp) (args:Args) (us:List Value) (vs:List V) (Q:VK) (E:XK),gx k A->Dn P w K mg base A outer s H->BindsTo s fd args (ps.zip us)->Vals vs us->sp vs H Q E ->
  codeAny (model P w) A (.call (.ref f) args) (CR CX outer P w H s Q E) s
theorem bq.mono {K:O7} (F:bq P w K mg base CX j f fd ps sp) (h:j<=k) :
 bq P w K mg base CX k f fd ps sp:=⟨F.len,λA outer s H args us vs Q E hr=>F.run A outer s H args us vs Q E (hr.mono h)⟩
theorem Inv.Dp (I:Inv X aa σ H s):Dn X.prog X.w X.K X.mg X.base X.A X.stack s H :=
 ⟨I.ok.frames,I.ok.mod,I.bs,Pw I.ok.bsz I.sz,I.stack,I.uq,I.hok,I.bare⟩
theorem Inv.after (I:Inv X aa σ H s) (h:CE X.stack X.prog X.w H s Q u s'):EP X aa σ Q u s':=by
 obtain ⟨v,H',os,bare,un,hok,r,q⟩:=h
 obtain ⟨hh,g,d,t,os'⟩:=s'
 obtain rfl:os'=s.os:=os
 exact ⟨v,H',I.call (h':=hh) (g':=g) (d':=d) (t':=t) (ch:=[]) un hok bare (λb z=>absurd z (by simp)),r,q⟩
def Binds (K:O7) (fd:FuncData) (ps:List Str) (ds:List Value):Prop :=
 ∀ (s:Shared) (us:List Value),K.In s.heap->(us++ds).length=ps.length->BindsTo s fd ⟨us,[]⟩ (ps.zip (us++ds))
theorem Binds.all {K:O7} (h:∀ us:List Value,us.length=ps.length->bindArgs fd ⟨us,[]⟩=pure (ps.zip us)):Binds K fd ps []:=λs us _ hl=>by
 rw [Qp] at hl |-
 exact .of_eq (h us hl)
section
variable {X:Cx} {CX:Ho} {k:Nat} {f C:Addr} {fd:FuncData} {ps:List Str} {sp:Sp} {dvs:List V} {ds:List Value} {E:XK} {x m:Str} {p pos apos:Pos} {e o:Expr} {es:List Expr} {ta:TE} {t:TA}
structure Mk (K:O7) (C f:Addr):Prop where
 makes:PySem.W.makesIn K C=true
 init:Ry K (.ref C) "__init__"=some (some (.ref f))
 fn:PySem.W.isFn K (.ref f)=true
 kp:Q7 K (.ref C)=true
end
section
variable {X:Cx} {CX:Ho} {k:Nat} {f C:Addr} {fd:FuncData} {ps ks:List Str} {sp:Sp} {E:XK} {x m:Str} {p pos apos kpos:Pos} {e o:Expr} {es:List Expr} {kws:List Keyword} {te ta:TE} {t tk:TA} {nm:Option Str}
structure NI (K:O7) (fd:FuncData) (ps ks:List Str) (g:List Value->List Value->List Value) (gV:List V->List V->List V):Prop where
 to:∀ (s:Shared) (us ws:List Value),K.In s.heap->(g us ws).length=ps.length->BindsTo s fd ⟨us,ks.zip ws⟩ (ps.zip (g us ws))
 rel:∀ {vs:List V} {us:List Value} {zs:List V} {ws:List Value},Vals vs us->Vals zs ws->Vals (gV vs zs) (g us ws)
end
structure nO (N P:List Str) (sc:Scope):Prop where
 kind:sc.kind=.function
 co:sc.isCoroutine=false
 gen:sc.isGenerator=false
 nd:N.Nodup
 pre:N.take P.length=P
 par:∀ x∈P,sc.names.lookup x=some .local\/sc.names.lookup x=some .cell
 nofree:∀ y∈sc.names,y.2≠.free
theorem mj {kindOf:Str->Option NameKind}:∀ {binds:List (Str×Value)} {m:Str->Option Value},(∀ v,(x,v)∉binds)->bindL kindOf binds m x=m x
 | [],_,_=>rfl
 | (n,v)::r,m,h=>by
  unfold bindL
  rw [mj λw hw=>h w (Pj _ hw)]
  split
  ·have:x≠n:=by rintro rfl; exact h v Po
   simp [this]
  ·rfl
theorem mq {kindOf:Str->Option NameKind}:∀ {binds:List (Str×Value)} {m:Str->Option Value},(∀ v,(x,v)∉binds)->bindC kindOf binds m x=m x
 | [],_,_=>rfl
 | (n,v)::r,m,h=>by
  unfold bindC
  rw [mq λw hw=>h w (Pj _ hw)]
  split
  ·rfl
  ·have:x≠n:=by rintro rfl; exact h v Po
   simp [this]
theorem mw {kindOf:Str->Option NameKind}:∀ {P:List Str} {vs:List Value} {i:Nat} {m:Str->Option Value},P.Nodup->P[i]?=some x->vs[i]?=some v->kindOf x=some .local ->
 bindL kindOf (P.zip vs) m x=some v
 | [],_,_,_,_,h,_,_=>by simp at h
 | _::_,[],_,_,_,_,h,_=>by simp at h
 | p::P,w::vs,0,m,nd,h1,h2,hk=>by
  simp at h1 h2; subst h1; subst h2
  show bindL kindOf ((p,w)::P.zip vs) m p=_
  unfold bindL
  rw [mj λv hv=>(Qu.mp nd).1 (Ur hv).1,if_pos hk]
  simp
 | p::P,w::vs,i+1,m,nd,h1,h2,hk=>by
  show bindL kindOf ((p,w)::P.zip vs) m x=_
  unfold bindL
  exact mw (i:=i) (Qu.mp nd).2 (by simpa using h1) (by simpa using h2) hk
theorem mz {kindOf:Str->Option NameKind}:∀ {P:List Str} {vs:List Value} {i:Nat} {m:Str->Option Value},P.Nodup->P[i]?=some x->vs[i]?=some v->kindOf x≠some .local ->
 bindC kindOf (P.zip vs) m x=some v
 | [],_,_,_,_,h,_,_=>by simp at h
 | _::_,[],_,_,_,_,h,_=>by simp at h
 | p::P,w::vs,0,m,nd,h1,h2,hk=>by
  simp at h1 h2; subst h1; subst h2
  show bindC kindOf ((p,w)::P.zip vs) m p=_
  unfold bindC
  rw [mq λv hv=>(Qu.mp nd).1 (Ur hv).1,if_neg hk]
  simp
 | p::P,w::vs,i+1,m,nd,h1,h2,hk=>by
  show bindC kindOf ((p,w)::P.zip vs) m x=_
  unfold bindC
  exact mz (i:=i) (Qu.mp nd).2 (by simpa using h1) (by simpa using h2) hk
noncomputable def start (N:List Str) (vs:List V):St:=vs.map some++Pu (N.length - vs.length) none
noncomputable def p5 (CX:Ho) (P:Program) (w:World) (K:O7) (mg:Str->Option Value) (base:Heap) (N:List Str) (qual:Str) (scope:Scope) (f:Addr) (cd:Value) (A:Around) (outer:List Env) (s:Shared) (H:Hp) (E:XK):Cx where
 prog:=P
 w:=w
 K:=K
 mg:=mg
 base:=base
 A:=A.deeper (envOfC qual scope s.heap.objs.size f cd)
 N:=N
 s₀:=s
 H₀:=H
 env:=envOfC qual scope s.heap.objs.size f cd
 outer:=outer
 stack:=envOfC qual scope s.heap.objs.size f cd::outer
 ex:=[]
 calm:=true
 fn:=λ_=>true
 pn:=[]
 xe:=λe s'=>wpAny (model P w) (A.deeper (envOfC qual scope s.heap.objs.size f cd)) (leaving (envOfC qual scope s.heap.objs.size f cd) e) (λ_ s''=>CX outer H s E e s'') (λe' s''=>CX outer H s E e' s'') s'
theorem p6 {sc:Scope} (h:sc.names.lookup x=some .cell):∃ c,(cellsFrom n sc.names []).lookup x=some c:=by
 have q:=PySem.W.cellsFrom_some sc.names n [] (.inl h)
 exact Option.isSome_iff_exists.mp q
theorem wR {K:O7}
 (S:nO N ps scope) (hd:A.handled=none) (e0:Dn P w K mg base A outer s H) (hl:vs.length=ps.length) (r:Vals vs us)
 (x:InCallC s s.heap.objs.size (bindL (envOfC qual scope s.heap.objs.size f cd).kindOf (ps.zip us) λ_=>none) (cellsFrom (s.heap.objs.size+1) scope.names []) (bindC (envOfC qual scope s.heap.objs.size f cd).kindOf (ps.zip us) λ_=>none) s1) :
 Inv (p5 CX P w K mg base N qual scope f cd A outer s H E) [] (start N vs) H s1:=by
 have hpl:ps.length<=N.length:=by have:=congrArg SG S.pre; rw [Qk] at this; lia
 obtain ⟨h1,tk,rfl,hk⟩:=x.done
 have noA:∀ b:Addr,b∉(p5 CX P w K mg base N qual scope f cd A outer s H E).ex:=λb z=>absurd (show b∈([]:List Addr) from z) (by simp)
 refine ⟨⟨e0.mod,S.kind,rfl,rfl,Pa _,λy z c h1 h2=>?_,λy hy=>?_,λy c _ h=>?_,λ_=>hd,Around.frames_deeper e0.frames,.inr ⟨rfl,rfl⟩,λb z=>absurd z (noA b),e0.bs,e0.bsz,λb _ _=>noA b,λb z=>absurd z (noA b),e0.iY,e0.frf⟩,
  rfl,e0.bare,Un.kept hk,⟨_,x.toInCall.ns,λi y v h1 h2 h3=>?_⟩,λy c h=>⟨_,x.cell y c h⟩,e0.hok.fresh (Pa _),λy c h=>?_,λp hp=>absurd (show p∈([]:List (Addr×Obj)) from hp) (by simp),e0.hok.kept hk,?_⟩
 ·exact name_of_addr x.apart (SN h1) (SN h2)
 ·have hy:scope.names.lookup y=some .cell\/scope.names.lookup y=some .free:=hy
  rcases hy with hy | hy
  ·exact p6 hy
  ·exact absurd rfl (S.nofree _ (SN hy))
 ·exact RG (x.above y c (SN h))
 ·have hi:i<vs.length:=by
   unfold start at h2
   by_cases hi:i<vs.length
   ·exact hi
   ·rw [Sk (by simpa using hi)] at h2
    rw [UT] at h2
    split at h2 <;> cases h2
  have ha:vs[i]?=some v:=by
   unfold start at h2
   rw [Rt (by simpa using hi),Pk] at h2
   cases e:vs[i]? with
   | none=>rw [e] at h2; cases h2
   | some a=>rw [e] at h2; cases h2; rfl
  obtain ⟨u,hu,rv⟩:=r.get ha
  have hp:ps[i]?=some y:=by
   rw [<- S.pre,TN (by lia)]; exact h1
  have ndP:ps.Nodup:=by rw [<- S.pre]; exact S.nd.sublist (Ub _ _)
  refine ⟨u,rv,?_⟩
  rcases S.par y (QI hp) with k | k
  ·exact .inl ⟨k,mw ndP hp hu k⟩
  ·obtain ⟨c,e⟩:=p6 (n:=s.heap.objs.size+1) k
   refine .inr ⟨.inl k,c,e,?_⟩
   have q:=x.cell y c e
   rw [mz ndP hp hu (by show scope.names.lookup y≠_; rw [k]; decide)] at q
   exact q
 ·exact e0.hok.fresh (RG (x.above y c (SN h)))
 ·unfold start
  show _=N.length
  rw [P0,Pe,List.length_replicate]
  lia
theorem ze {K:O7} {dV kV doc pm cdv ct oc:Value}
 (lk:K.lookup f=some ⟨oc,od,.func (Ri name qual params body scope dV kV doc pm an cdv ct),osl⟩) (hcd:Ux K cdv qual=true) (S:nO N ps scope)
  (len:∀ vs H Q E,sp vs H Q E->vs.length=ps.length)
  (hbody:∀ (A:Around) (outer:List Env) (s:Shared) (H:Hp) (vs:List V) (Q:VK) (E:XK),gx k (A.deeper (envOfC qual scope s.heap.objs.size f cdv))->sp vs H Q E ->
    ∃ t,pY (p5 CX P w K mg base N qual scope f cdv A outer s H E) body t/\t { nx:=λ_ H'=>Q .non H',rt:=Q } (start N vs) H) :
  bq P w K mg base CX (k+1) f (Ri name qual params body scope dV kV doc pm an cdv ct) ps sp:=by
  refine ⟨len,λA outer s H args us vs Q E hr e0 hb r pU=>?_⟩
  have hl:=len _ _ _ _ pU
  have KX:K.In s.heap:=e0.mod.kin.keeps λb o e=>(e0.bs b o e).1
  have lim:s.heap.NoLimit:=e0.mod.nolimit.keeps λb o e=>(e0.bs b o e).1
  have hkind:∀ y∈ps.zip us,scope.names.lookup y.1=some .local\/(scope.names.lookup y.1=some .cell/\((cellsFrom (s.heap.objs.size+1) scope.names []).lookup y.1).isSome=true):=λ⟨n,v⟩ hy=>by
   rcases S.par n (Ur hy).1 with q | q
   ·exact .inl q
   ·exact .inr ⟨q,PySem.W.cellsFrom_some _ _ _ (.inl q)⟩
  refine codeAny_call_function hr.depth (KX _ _ lk) rfl S.co S.gen rfl (PySem.W.codeRec_of KX hcd) (hb _ _ _ _ ?_)
  refine wpAny_newFunctionEnv_cells S.kind hkind λenv he s1 x=>?_
  subst he
  refine ⟨lim.keeps x.toInCall.keep,codeAny_func ?_⟩
  obtain ⟨t,ht,hq⟩:=hbody A outer s H vs Q E (hr.deeper _) pU
  have I:Inv (p5 CX P w K mg base N qual scope f cdv A outer s H E) [] (start N vs) H s1:=wR S hr.hd e0 hl r x
  refine Qd (ht [] s1 (start N vs) H _ I hq) (λfl s' hs=>?_) λe s' hs=>hs
  have fin:∀ {σ':St} {H':Hp} {v:V} {u:Value},Inv (p5 CX P w K mg base N qual scope f cdv A outer s H E) [] σ' H' s'->RelV v u->Q v H'->CE outer P w H s Q u s' :=
   λ{σ' H' v u} J rv q=>⟨v,H',J.os,J.bare,J.base,J.hok,rv,q⟩
  cases fl with
  | ret u =>
   obtain ⟨v,σ',H',J,rv,q⟩:=hs
   exact fin J rv q
  | next =>
   obtain ⟨σ',H',J,q⟩:=hs
   exact fin (v:=V.non) (u:=Qw) J rfl q
  | brk =>
   obtain ⟨_,_,_,q⟩:=hs
   exact Qs q
  | cont =>
   obtain ⟨_,_,_,q⟩:=hs
   exact Qs q
section
variable {id T:String}
noncomputable def Ox (r:List V->Hp->VK->Prop) (t:TA):TE:=λσ H Q=>t σ H λvs H1=>r vs H1 Q
theorem zf (hc:fM X (.builtin id) r) (hg:Gl X x) (hm:X.mg x=none) (hv:bootBuiltins x=some (.builtin id)) (ha:PA X (e::es) t) (hn:x≠"__name__":=by decide) (hdb:(x == ("__debug__":Str))=false:=by decide)
 (he:starEach (e::es) X.env=(false,eval e X.env)::starEach es X.env:=by rfl) (hpl:(backTo pos (starEach es X.env)).any (·.1)=false:=by rfl):PE X (.Call (.Name x p) (e::es) [] pos) (Ox r t):=by
 intro aa s σ H Q I h
 refine Q5 (cW I hg hm hv ?_ hn hdb)
 exact VH (bC (ha pos aa s σ H _ I h) λus s1 ⟨vs,H1,I1,r1,q1⟩=>hc aa s1 σ H1 vs us Q I1 r1 q1) he hpl
theorem mC (hc:fM X (.type T) r) (hg:Gl X x) (hm:X.mg x=none) (hv:bootBuiltins x=some (.type T)) (ha:PA X (e::es) t) (hn:x≠"__name__":=by decide) (hdb:(x == ("__debug__":Str))=false:=by decide)
 (he:starEach (e::es) X.env=(false,eval e X.env)::starEach es X.env:=by rfl) (hpl:(backTo pos (starEach es X.env)).any (·.1)=false:=by rfl):PE X (.Call (.Name x p) (e::es) [] pos) (Ox r t):=by
 intro aa s σ H Q I h
 refine Q5 (cW I hg hm hv ?_ hn hdb)
 exact Si (bC (ha pos aa s σ H _ I h) λus s1 ⟨vs,H1,I1,r1,q1⟩=>hc aa s1 σ H1 vs us Q I1 r1 q1) he hpl
end
end L2
namespace HT
open PySem PyProof.Rows
noncomputable def lexLt:List Int->List Int->Bool
 | [],[]=>false
 | [],_::_=>true
 | _::_,[]=>false
 | x::xs,y::ys=>if x=y then lexLt xs ys else decide (x<y)
theorem cY (x y) (xs ys):lexLt (x::xs) (y::ys)=if x=y then lexLt xs ys else decide (x<y):=rfl
theorem lT:lexLt [] []=false:=rfl
theorem kg (y) (ys):lexLt [] (y::ys)=true:=rfl
theorem kh (x) (xs):lexLt (x::xs) []=false:=rfl
theorem zg (A:Around) (s) (a) (t:Tok) (c) (u:Tok):∃ e,PN A s (.int a t) (.int c u) e/\(e=true↔a=c) :=
 ⟨(a == c),PN.int_int a t c u,by simp⟩
theorem zh (A:Around) (s) (a) (t:Tok) (c) (u:Tok) (prog) (w) (E) (Q) (h:Q (.bool (decide (a<c))) s) :
 wpAny (model prog w) A (richCompare .Lt (.int a t) (.int c u)) Q E s :=
 (PyProof.Rows.lt_int h:wpAny (model prog w) A (compareOp .Lt (.int a t) (.int c u)) Q E s)
section
open PySem.SeqAt
open PySem.AutoSeq1 (wpAny_loadPart')
open PySem.MeetsSeq PySem.MeetsSeq2 PySem.MeetsSeq3
theorem lU (l b) (items items2) (n n2) (dd dd2) (sl sl2) (ns ms) (hi:IntsAre items.toList ns) (hj:IntsAre items2.toList ms) :
 Meets (Builtin.«tuple.__lt__» ⟨[.ref l,.ref b],[]⟩)
  (λ_ R s=>s.heap.get? l=some { cls:=.type "tuple",dict:=dd,data:=.seq items n,slots:=sl }/\s.heap.get? b=some { cls:=.type "tuple",dict:=dd2,data:=.seq items2 n2,slots:=sl2 } /\
    R (.ok (.ret (.bool (lexLt ns ms)))) s) :=
 .of_wp λprog w A R s h=>by
  obtain ⟨hp,g,d,tk,os⟩:=s; obtain ⟨hl,hb,h⟩:=h
  have f2:=AutoSeq1.sub_tuple_tuple
  have z1:items.size=ns.length:=by rw [<- hi.length]; simp
  have z2:items2.size=ms.length:=by rw [<- hj.length]; simp
  wp_walk using wpAny_loadPart' hl,wpAny_loadPart' hb,wpAny_forIn_list _ (λrest b s'=>b.1=none/\s'=⟨hp,g,d,tk,os⟩/\∃ (vs ws:List Value) (ns' ms':List Int),rest=vs.zip ws /\
   IntsAre vs ns'/\IntsAre ws ms'/\ns'.length+items2.size=ms'.length+items.size/\R (.ok (.ret (.bool (lexLt ns' ms')))) ⟨hp,g,d,tk,os⟩) _
  case turn =>
   rintro ⟨y,x⟩ rest b s' ⟨hb',rfl,vs,ws,ns',ms',hz,hvi,hwi,hlen,hR⟩
   cases hvi with
   | nil=>rw [List.zip_nil_left] at hz; cases hz
   | cons a t hvi' =>
    cases hwi with
    | nil=>rw [List.zip_nil_right] at hz; cases hz
    | cons c u hwi' =>
     rw [Vc] at hz
     injection hz with hyx hrest
     injection hyx with hy hx
     subst hy hx
     rw [cY] at hR
     simp only [Qg] at hlen
     obtain ⟨e,he,hiff⟩:=zg A.in1 ⟨hp,g,d,tk,os⟩ a t c u
     refine O6 (he prog w _ _ ?_)
     cases e with
     | true =>
      rw [if_pos (hiff.mp rfl)] at hR
      wp_walk
      exact ⟨rfl,rfl,_,_,_,_,hrest,hvi',hwi',by lia,hR⟩
     | false =>
      rw [if_neg (λq=>absurd (hiff.mpr q) Pn)] at hR
      have hri:=zh A.in1 ⟨hp,g,d,tk,os⟩ a t c u prog w
      wp_walk using hri
      exact ⟨_,rfl,by simpa using hR⟩
  case fin =>
   rintro ⟨b1,b2⟩ s' ⟨hb',rfl,vs,ws,ns',ms',hz,hvi,hwi,hlen,hR⟩
   simp only at hb'
   subst hb'
   have hv:lexLt ns' ms'=decide (items.size<items2.size):=by
    cases hvi with
    | nil =>
     cases hwi with
     | nil =>
      simp only [Rg] at hlen
      rw [lT]
      exact (decide_eq_false (by lia)).symm
     | cons c u hw =>
      simp only [Rg,Qg] at hlen
      rw [kg]
      exact (decide_eq_true (by lia)).symm
    | cons a t hv =>
     cases hwi with
     | nil =>
      simp only [Rg,Qg] at hlen
      rw [kh]
      exact (decide_eq_false (by lia)).symm
     | cons c u hw =>
      rw [Vc] at hz
      cases hz
   rw [hv] at hR
   wp_walk
   exact ⟨_,rfl,by simpa [Builtin.Tuple.tupleCompareSizes] using hR⟩
  case h =>
   exact ⟨rfl,rfl,items.toList,items2.toList,ns,ms,rfl,hi,hj,by lia,h⟩
end
theorem sH (hl:IsTup s.heap l items) (hb:IsTup s.heap b items2) (hi:IntsAre items.toList ns) (hj:IntsAre items2.toList ms)
 (hu:A.units<cLine) (h:Q (.bool (lexLt ns ms)) s):wpAny (model prog w) A (compareOp .Lt (.ref l) (.ref b)) Q E s:=by
 obtain ⟨⟨cls,dd,data,sl⟩,ho,hc,n,hd⟩:=id hl
 obtain ⟨⟨cls2,dd2,data2,sl2⟩,ho2,hc2,n2,hd2⟩:=id hb
 simp only at hc hd hc2 hd2
 subst hc hd hc2 hd2
 exact richCompare_meets_room (op:=.Lt) ⟨_,ho,rfl⟩ ⟨_,ho2,rfl⟩ PySem.F.slot_tuple_lt PySem.F.entry_tuple_lt (PySem.F.args_tuple_lt_2 _ _) (lU l b items items2 n n2 dd dd2 sl sl2 ns ms hi hj)
  ⟨ho,ho2,show RJ (lexLt ns ms)≠Value.notImplemented/\Q (.bool (lexLt ns ms)) s from ⟨(λx=>nomatch x),h⟩⟩ hu
noncomputable def b9 (n d:Nat):Option Int->Nat
 | none=>d
 | some v=>if v<0 then (v+(n:Int)).toNat else min v.toNat n
theorem Hq (n d) (hd:d<=n) (o):b9 n d o<=n:=by
 cases o with
 | none=>exact hd
 | some v =>
  show (if v<0 then (v+(n:Int)).toNat else min v.toNat n)<=n
  by_cases hv:v<0
  ·rw [if_pos hv]; lia
  ·rw [if_neg hv]; exact Nat.min_le_right _ _
theorem uC (v) (n d:Nat):(if v<0 then max (v+(n:Int)) 0 else min v (n:Int))=((b9 n d (some v):Nat):Int):=by
 show (if v<0 then max (v+(n:Int)) 0 else min v (n:Int))=(((if v<0 then (v+(n:Int)).toNat else min v.toNat n):Nat):Int)
 by_cases hv:v<0
 ·simp only [if_pos hv]; lia
 ·simp only [if_neg hv]; lia
theorem sI (lo hi) (n:Nat):UO lo hi 1 (n:Int)=(((b9 n 0 lo:Nat):Int),((b9 n n hi:Nat):Int)):=by
 have h1:¬ ((1:Int)<0):=by lia
 unfold UO
 simp only [h1,if_false]
 refine Prod.ext ?_ ?_
 ·cases lo with
  | none=>rfl
  | some v=>exact uC v n 0
 ·cases hi with
  | none=>rfl
  | some v=>exact uC v n n
theorem sJ (i j:Nat):TM (i:Int) (j:Int) 1=j - i:=by
 unfold TM
 have h1:(1:Int)>0:=by lia
 simp only [h1,if_true,Int.ediv_one]
 split <;> lia
theorem ki (p:IsPart v o) (h:Q o s):wpAny (model prog w) A (Builtin.Slice.slicePartIndex v) Q E s:=by
 cases p with
 | none=>exact slicePart_none h
 | int i t=>exact slicePart_int h
theorem eT {sl:Addr} {vl vu:Value} {lo hi:Option Int} {n:Nat} {Q:Int×Int×Nat->Shared->Prop} (hs:s.heap.IsSliceOf sl vl vu .none) (pl:IsPart vl lo) (pu:IsPart vu hi)
 (h:Q (((b9 n 0 lo:Nat):Int),1,b9 n n hi - b9 n 0 lo) s):wpAny (model prog w) A (Builtin.Slice.sliceApplied (.ref sl) (pure (n:Int))) Q E s:=by
 obtain ⟨os,hos,hcs,hds⟩:=id hs
 unfold Builtin.Slice.sliceApplied Builtin.Slice.sliceFields
 refine O6 (O6 (Qc hos hds (x:=vl) rfl (O6 (Qc hos hds (x:=vu) rfl (O6 (Qc hos hds (x:=.none) rfl (O8 ?_)))))))
 refine O6 (slicePart_none ?_)
 show wpAny _ _ (if ((1:Int) == 0)=true then _ else _) _ _ s
 rw [if_neg (by decide)]
 refine O6 (ki pl (O6 (ki pu (O6 (O8 ?_)))))
 show wpAny _ _ (match UO lo hi 1 (n:Int) with | (lo,hi)=>pure (lo,(1:Int),TM lo hi 1)) _ _ s
 rw [sI lo hi n]
 show wpAny _ _ (pure (((b9 n 0 lo:Nat):Int),(1:Int),TM ((b9 n 0 lo:Nat):Int) ((b9 n n hi:Nat):Int) 1)) _ _ s
 rw [sJ]
 exact O8 h
theorem zj (xs:Array Value) (i k:Nat):((PZ k).filterMap λ(m:Nat)=>xs[((i:Int)+(m:Int) * 1).toNat]?).toArray=((xs.toList.drop i).take k).toArray:=by
 have e:(λ(m:Nat)=>xs[((i:Int)+(m:Int) * 1).toNat]?)=λm=>xs[i+m]?:=by
  funext m
  have:((i:Int)+(m:Int) * 1).toNat=i+m:=by lia
  rw [this]
 rw [e]
 have:=pick_run xs i k
 rw [List.filterMap_map] at this
 have e2:((λx=>xs[x]?)∘λx=>i+x)=λm=>xs[i+m]?:=rfl
 rw [e2] at this
 rw [this]
theorem gX {lo hi:Option Int} (ht:IsTup s.heap t items) (hs:s.heap.IsSliceOf sl vl vu .none) (pl:IsPart vl lo) (pu:IsPart vu hi)
 (hw:¬ (b9 items.size 0 lo=0/\b9 items.size items.size hi=items.size))
 (h:Q (.ref s.heap.objs.size) { s with heap:=s.heap.push { cls:=.type "tuple",data:=.seq ((items.toList.drop (b9 items.size 0 lo)).take (b9 items.size items.size hi - b9 items.size 0 lo)).toArray } })
 (hsz:items.size<=sizeLine):wpAny (model prog w) A (getItem (.ref t) (.ref sl)) Q E s:=by
 have htake:sizeOk (.seq ((items.toList.drop (b9 items.size 0 lo)).take (b9 items.size items.size hi - b9 items.size 0 lo)).toArray):=by
  show ((items.toList.drop (b9 items.size 0 lo)).take (b9 items.size items.size hi - b9 items.size 0 lo)).toArray.size<=sizeLine
  rw [PF,Qk,Uk,Qn]
  lia
 have hj:b9 items.size items.size hi<=items.size:=Hq _ _ (Pa _) hi
 obtain ⟨os,hos,hcs,hds⟩:=id hs
 have hTs:s.TypeIs (.ref sl) "slice":=⟨os,hos,hcs⟩
 unfold getItem
 try with_reducible refine QL ?_
 first | refine O6 (O8 ?_) | skip
 refine O6 (Vf ht.typeIs (by decide) ?_)
 refine O6 (Q9 (name:=O5 "__getitem__") ht.typeIs Sf
  (QO Sf ht.typeIs entry_tuple_getitem ?_ (args_tuple_getitem _ _)))
 show wpAny _ _ (Builtin.Tuple.tupleItemsOf (.ref t) >>= _) _ _ s
 refine O6 (tupleItemsOf_ ht ?_)
 refine O6 (RC hTs ?_)
 rw [if_pos (by decide)]
 refine O6 (eT hs pl pu ?_)
 have hno:¬ ((((b9 items.size 0 lo:Nat):Int) == 0 && (1:Int) == 1 && (b9 items.size items.size hi - b9 items.size 0 lo) == items.size)=true):=by
  intro q
  rw [SX,SX] at q
  have q1:((b9 items.size 0 lo:Nat):Int)=0:=eq_of_beq q.1.1
  have q2:b9 items.size items.size hi - b9 items.size 0 lo=items.size:=eq_of_beq q.2
  exact hw ⟨by lia,by lia⟩
 show wpAny _ _ (if (((b9 items.size 0 lo:Nat):Int) == 0 && (1:Int) == 1 && (b9 items.size items.size hi - b9 items.size 0 lo) == items.size)=true then _ else _) _ _ s
 rw [if_neg hno,zj]
 first
  | exact O6 (m:=TR _) (QB (O8 ⟨_,rfl,O8 h⟩) htake)
  | exact O6 (m:=TR _) (QB (O6 (O8 (O8 ⟨_,rfl,O8 h⟩))) htake)
  | exact O6 (O6 (m:=TR _) (QB (O8 (O8 ⟨_,rfl,O8 h⟩)) htake))
  | exact O6 (O6 (m:=TR _) (QB (O8 ⟨_,rfl,O8 h⟩) htake))
end HT
namespace L2
open PySem PySem.Spec PyProof.Rows
noncomputable abbrev TO:=St->Hp->(Option Int->Hp->Prop)->Prop
def PO (X:Cx) (e:Option Expr) (t:TO):Prop :=
 ∀ (aa:List (Addr×Obj)) (s:Shared) (σ:St) (H:Hp) (Q:Option Int->Hp->Prop),Inv X aa σ H s->t σ H Q ->
  wpAny (model X.prog X.w) X.A (evalPart e X.env) (λu s'=>∃ o H',Inv X aa σ H' s'/\IsPart u o/\Q o H') X.xe s
noncomputable def Dq:TO:=λ_ H Q=>Q none H
noncomputable def La (t:TE):TO:=λσ H Q=>t σ H λx H1=>∃ i,x=.int i/\Q (some i) H1
theorem intsAre_of:∀ {us:List Value},Vals (ns.map V.int) us->IntsAre us ns:=by
 induction ns with
 | nil=>intro us r; rw [Qv] at r; cases r; exact .nil
 | cons n ns ih =>
  intro us r
  rw [Pd] at r
  cases r with
  | cons r1 r2 =>
   obtain ⟨t,e⟩:=r1
   subst e
   exact .cons n t (ih r2)
section
variable {lo hi:Option Expr}
theorem Dr:PO X none Dq:=by
 intro aa s σ H Q I h
 rw [evalPart_none]
 exact O8 ⟨none,H,I,.none,h⟩
theorem Ds (h:PE X e te):PO X (some e) (La te):=by
 intro aa s σ H Q I hw
 rw [evalPart_some]
 refine bC (h aa s σ H _ I hw) λu s1 ⟨x,H1,I1,r1,q1⟩=>?_
 obtain ⟨i,rfl,q⟩:=q1
 obtain ⟨t,rfl⟩:=r1
 exact ⟨some i,H1,I1,.int i t,q⟩
def CT (X:Cx) (r:V->Option Int->Option Int->Hp->VK->Prop):Prop :=
 ∀ (aa:List (Addr×Obj)) (s:Shared) (σ:St) (H:Hp) (x:V) (v vl vu:Value) (lo hi:Option Int) (sl:Addr) (Q:VK),Inv X aa σ H s->RelV x v->s.heap.IsSliceOf sl vl vu .none->IsPart vl lo->IsPart vu hi->r x lo hi H Q ->
  ∃ T id,typeLookup (.type T) "__getitem__"=pure (some (.builtin id))/\s.TypeIs v T/\wpAny (model X.prog X.w) X.A (getItem v (.ref sl)) (EP X aa σ Q) X.xe s
theorem CT.or (h:CT X r) (h':CT X r'):CT X (λx lo hi H Q=>r x lo hi H Q\/r' x lo hi H Q):=by
 intro aa s σ H x v vl vu lo hi sl Q I rx hs pl pu q
 rcases q with q | q
 ·exact h aa s σ H x v vl vu lo hi sl Q I rx hs pl pu q
 ·exact h' aa s σ H x v vl vu lo hi sl Q I rx hs pl pu q
noncomputable def OV (r:V->Option Int->Option Int->Hp->VK->Prop) (te:TE) (tl th:TO):TE:=λσ H Q=>te σ H λx H1=>tl σ H1 λl H2=>th σ H2 λu H3=>r x l u H3 Q
theorem zk (hr:CT X r) (he:PE X e te) (hl:PO X lo tl) (hu:PO X hi th):PE X (.Subscript e (.Slice lo hi none p2) pos) (OV r te tl th):=by
 intro aa s σ H Q I h
 refine Subscript_ (bC (he aa s σ H _ I h) λv s1 ⟨x,H1,I1,r1,q1⟩=>?_)
 refine wpAny_Slice (bC (hl aa s1 σ H1 _ I1 q1) λvl s2 ⟨l,H2,I2,pl,q2⟩=>bC (hu aa s2 σ H2 _ I2 q2) λvu s3 ⟨u,H3,I3,pu,q3⟩=>?_)
 rw [evalPart_none]
 refine O8 ?_
 have I4:Inv X aa σ H3 { s3 with heap:=s3.heap.push { cls:=.type "slice",data:=.fields #[vl,vu,.none] } }:=I3.kept (t':=s3.toks) λb ob q=>Pc _ q
 obtain ⟨T,id,hT,ht,hg⟩:=hr aa { s3 with heap:=s3.heap.push { cls:=.type "slice",data:=.fields #[vl,vu,.none] } } σ H3 x v vl vu l u s3.heap.objs.size Q I4 r1 (Heap.IsSliceOf.new ..) pl pu q3
 show wpAny (model X.prog X.w) X.A (subscriptTail e (.Slice lo hi none p2) v (.ref s3.heap.objs.size)) (EP X aa σ Q) X.xe { s3 with heap:=s3.heap.push { cls:=.type "slice",data:=.fields #[vl,vu,.none] } }
 exact tail_any (ops:=[.ref s3.heap.objs.size,v]) ht hT hg (by walk_at "u")
noncomputable def nP (xs:List V) (lo hi:Option Int):List V:=(xs.drop (HT.b9 xs.length 0 lo)).take (HT.b9 xs.length xs.length hi - HT.b9 xs.length 0 lo)
theorem jw (xs) (lo hi):(nP xs lo hi).length<=xs.length:=by
 unfold nP
 rw [Qk,Uk]
 lia
noncomputable def NJ (K:O7):V->Option Int->Option Int->Hp->VK->Prop:=λx lo hi H Q=>∃ a xs,x=.ref a/\dh K H a xs /\
 ¬ (HT.b9 xs.length 0 lo=0/\HT.b9 xs.length xs.length hi=xs.length)/\∀ p,H p=none->Q (.ref p) (upd H p (.tup (nP xs lo hi)))
theorem Hr:CT X (NJ X.K):=by
 intro aa s σ H x v vl vu lo hi sl Q I rx hs pl pu h
 obtain ⟨a,xs,rfl,hx,hw,q⟩:=h
 cases rx
 obtain ⟨its,r,ht,hz⟩:=I.tuple hx
 have hlen:its.toArray.size=xs.length:=by rw [PF]; exact r.length.symm
 refine ⟨"tuple",_,Sf.lookup,ht.typeIs,?_⟩
 refine HT.gX ht hs pl pu (by rw [hlen]; exact hw) ?_ (by rw [hlen]; exact hz)
 rw [hlen]
 refine ⟨.ref s.heap.objs.size,_,I.laid (t':=s.toks) (o:=.tup (nP xs lo hi)) (λb ob q=>Pc _ q) (Pa _) ?_,rfl,q _ (I.hok.fresh (Pa _))⟩
 exact ⟨Pw (jw xs lo hi) hz,_,(r.drop (HT.b9 xs.length 0 lo)).take (HT.b9 xs.length xs.length hi - HT.b9 xs.length 0 lo),IsTup.new _ _⟩
theorem Vals.uD (r:Vals xs us):us=[]↔xs=[]:=by
 cases r with
 | nil=>simp
 | cons _ _=>simp
end
noncomputable def Ku (n:Nat) (i:Int):Option Nat:=if 0<=i then (if i<n then some i.toNat else none) else if -(n:Int)<=i then some (i+n).toNat else none
noncomputable def jR {α:Type} (xs:List α) (i:Int):Option α:=(Ku xs.length i).bind λj=>xs[j]?
theorem Dt (h:Ku n i=some j):seqIndex? i n=some j/\j<n/\ -(n:Int)<=i/\i<n:=by
 unfold Ku at h
 by_cases h0:0<=i
 ·rw [if_pos h0] at h
  by_cases h1:i<n
  ·rw [if_pos h1] at h
   have e:i.toNat=j:=QS h
   exact ⟨by rw [seqIndex_of h0 h1,e],by lia,by lia,h1⟩
  ·rw [if_neg h1] at h; cases h
 ·rw [if_neg h0] at h
  by_cases h1: -(n:Int)<=i
  ·rw [if_pos h1] at h
   have e:(i+n).toNat=j:=QS h
   exact ⟨by rw [seqIndex_neg (by lia) h1,e],by lia,h1,by lia⟩
  ·rw [if_neg h1] at h; cases h
theorem uE (h:jR xs i=some v):∃ j,seqIndex? i xs.length=some j/\xs[j]?=some v/\j<xs.length/\ -(xs.length:Int)<=i/\i<xs.length:=by
 unfold jR at h
 cases e:Ku xs.length i with
 | none=>rw [e] at h; cases h
 | some j =>
  rw [e] at h
  obtain ⟨h1,h2,h3,h4⟩:=Dt e
  exact ⟨j,h1,h,h2,h3,h4⟩
def jS (b:Expr):Prop:=∀ o i,subscripted b false o i=operate [o,i] (getItem o i)
def F3 (X:Cx) (r:R2):Prop :=
 ∀ (value slice:Expr) (aa:List (Addr×Obj)) (s:Shared) (σ:St) (H:Hp) (x y:V) (v u:Value) (Q:VK),Inv X aa σ H s->RelV x v->RelV y u->r x y H Q ->
  subscripted slice false v u=operate [v,u] (getItem v u)->wpAny (model X.prog X.w) X.A (subscriptTail value slice v u) (EP X aa σ Q) X.xe s
def NK (X:Cx) (id:String) (r:V->List V->Hp->VK->Prop):Prop :=
 ∀ (aa:List (Addr×Obj)) (s:Shared) (σ:St) (H:Hp) (x:V) (xs:List V) (v:Value) (us:List Value) (Q:VK),Inv X aa σ H s->RelV x v->Vals xs us->r x xs H Q ->
  wpAny (model X.prog X.w) X.A (call (.builtin id) (v::us)) (EP X aa σ Q) X.xe s
section
theorem F3.or (h:F3 X r) (h':F3 X r'):F3 X (λx y H Q=>r x y H Q\/r' x y H Q):=by
 intro value slice aa s σ H x y v u Q I rx ry q hs
 rcases q with q | q
 ·exact h value slice aa s σ H x y v u Q I rx ry q hs
 ·exact h' value slice aa s σ H x y v u Q I rx ry q hs
theorem Lb (hr:F3 X r) (ha:PE X a ta) (hb:PE X b tb) (hs:jS b):PE X (.Subscript a b pos) (ND r ta tb):=by
 intro aa s σ H Q I h
 exact Subscript_ (K0 ha hb I h λv u s2 x y H2 I2 rx ry q=>hr a b aa s2 σ H2 x y v u Q I2 rx ry q (hs _ _))
noncomputable def NL (K:O7):R2:=λx y H Q=>∃ p xs i v,x=.ref p/\y=.int i/\fk K H p xs/\jR xs i=some v/\Q v H
noncomputable def NN (K:O7):R2:=λx y H Q=>∃ p xs i v,x=.ref p/\y=.int i/\dh K H p xs/\jR xs i=some v/\Q v H
theorem Du:F3 X (NL X.K):=by
 intro value slice aa s σ H x y v u Q I rx ry h hs
 obtain ⟨p,xs,i,z,rfl,rfl,hq,he,q⟩:=h
 cases rx
 obtain ⟨t,rfl⟩:=ry
 obtain ⟨its,r,pl,hz⟩:=I.list hq
 obtain ⟨j,h1,h2,h3,h4,h5⟩:=uE he
 obtain ⟨w,ew,rw'⟩:=r.get h2
 have hl:=r.length
 have hn:=nN
 have fin:EP X aa σ Q w s:=⟨z,H,I,rw',q⟩
 by_cases h0:0<=i
 ·have hj:i.toNat=j:=by
   rw [seqIndex_of h0 h5] at h1
   exact QS h1
  exact item_listR pl.isList h0 (by lia) (by rw [hj]; simpa using ew) fin hs
 ·have hj:(i+(its.toArray.size:Int)).toNat=j:=by
   rw [seqIndex_neg (by lia) h4] at h1
   rw [PF,<- hl]
   exact QS h1
  exact subscriptTail_builtinR (x:=w) pl.isList.typeIs Vj.lookup
   (wpAny_getItem_list_neg (Q:=λr s'=>r=w/\EP X aa σ Q r s') pl.isList (by lia) (by rw [PF] <;> lia) (by lia) (by rw [hj]; simpa using ew) ⟨rfl,fin⟩) hs
theorem Hs:F3 X (NN X.K):=by
 intro value slice aa s σ H x y v u Q I rx ry h hs
 obtain ⟨p,xs,i,z,rfl,rfl,hq,he,q⟩:=h
 cases rx
 obtain ⟨t,rfl⟩:=ry
 obtain ⟨its,r,pl,hz⟩:=I.tuple hq
 obtain ⟨j,h1,h2,h3,h4,h5⟩:=uE he
 obtain ⟨w,ew,rw'⟩:=r.get h2
 have hl:=r.length
 have hn:=nN
 have fin:EP X aa σ Q w s:=⟨z,H,I,rw',q⟩
 exact subscriptTail_builtinR (x:=w) pl.typeIs slot_tuple_getitem.lookup
  (getItem_tuple (j:=j) (Q:=λr s'=>r=w/\EP X aa σ Q r s') pl (by lia) (by lia) (by rw [PF,<- hl]; exact h1) (by simpa using ew) ⟨rfl,fin⟩) hs
theorem nQ (lo hi) (n):(sliceBounds lo hi none n).1=((HT.b9 n 0 lo:Nat):Int)/\(sliceBounds lo hi none n).2.1=((HT.b9 n n hi:Nat):Int)/\(sliceBounds lo hi none n).2.2=1:=by
 refine ⟨?_,?_,rfl⟩
 ·cases lo with
  | none=>simp [sliceBounds,HT.b9]
  | some i =>
   simp only [sliceBounds,HT.b9,Option.getD_none,show (1:Int)>0 by decide,if_true]
   by_cases h:i<0
   ·simp only [h,if_true] <;> lia
   ·simp only [h,if_false] <;> lia
 ·cases hi with
  | none=>simp [sliceBounds,HT.b9]
  | some i =>
   simp only [sliceBounds,HT.b9,Option.getD_none,show (1:Int)>0 by decide,if_true]
   by_cases h:i<0
   ·simp only [h,if_true] <;> lia
   ·simp only [h,if_false] <;> lia
theorem lV (its:List Value) (lo hi):slicePick its.toArray lo hi none=((its.drop (HT.b9 its.length 0 lo)).take (HT.b9 its.length its.length hi - HT.b9 its.length 0 lo)).toArray:=by
 obtain ⟨h1,h2,h3⟩:=nQ lo hi its.toArray.size
 unfold slicePick
 rw [h1,h2,h3]
 simp only [sliceRange_one,pick_run,PF] <;> rfl
noncomputable def NO (K:O7):V->Option Int->Option Int->Hp->VK->Prop:=λx lo hi H Q=>∃ a xs,x=.ref a/\fk K H a xs/\∀ p,H p=none->Q (.ref p) (upd H p (.lst (nP xs lo hi)))
theorem Dv:CT X (NO X.K):=by
 intro aa s σ H x v vl vu lo hi sl Q I rx hs pl pu h
 obtain ⟨a,xs,rfl,hx,q⟩:=h
 cases rx
 obtain ⟨its,r,ht,hz⟩:=I.list hx
 have hlen:=r.length
 refine ⟨"list",_,Vj.lookup,ht.isList.typeIs,?_⟩
 refine wpAny_getItem_list_slice ht.isList hs pl pu .none (by simp) ?_ (by rw [PF] <;> lia)
 rw [lV,<- hlen]
 refine ⟨.ref s.heap.objs.size,_,I.laid (t':=s.toks) (o:=.lst (nP xs lo hi)) (λb ob q=>Pc _ q) (Pa _) ?_,rfl,q _ (I.hok.fresh (Pa _))⟩
 exact ⟨Pw (jw xs lo hi) hz,_,0,(r.drop (HT.b9 xs.length 0 lo)).take (HT.b9 xs.length xs.length hi - HT.b9 xs.length 0 lo),Pp _ rfl⟩
theorem nR:fM X (.builtin "len") (λxs H Q=>∃ p ys,xs=[.ref p]/\(fk X.K H p ys\/dh X.K H p ys)/\Q (.int ys.length) H):=by
 intro aa s σ H xs us Q I r h
 obtain ⟨p,ys,rfl,hq,q⟩:=h
 obtain ⟨u,rfl,rx⟩:=vals1 r
 cases rx
 have hn:=nN
 rcases hq with hq | hq
 ·obtain ⟨its,r',pl,hz⟩:=I.list hq
  have hlen:=r'.length
  exact Calls.call_len_list pl.isList (by simp only [PF] <;> lia) ⟨.int ys.length,H,I.tok _,⟨s.toks+1,by rw [PF,hlen]⟩,q⟩
 ·obtain ⟨its,r',pl,hz⟩:=I.tuple hq
  have hlen:=r'.length
  exact len_tuple pl (by simp only [PF] <;> lia) ⟨.int ys.length,H,I.tok _,⟨s.toks+1,by rw [PF,hlen]⟩,q⟩
theorem nS:fM X (.type "list") (λxs H Q=>∃ p ys,xs=[.ref p]/\(fk X.K H p ys\/dh X.K H p ys)/\∀ l,H l=none->Q (.ref l) (upd H l (.lst ys))):=by
 intro aa s σ H xs us Q I r h
 obtain ⟨p,ys,rfl,hq,q⟩:=h
 obtain ⟨u,rfl,rx⟩:=vals1 r
 cases rx
 have fin:∀ (its:List Value),Vals ys its->ys.length<=sizeLine->∀ (h':Heap) (c':Nat),(∀ b o',s.heap.get? b=some o'->h'.get? b=some o') ->
  h'.get? s.heap.objs.size=some { cls:=.type "list",dict:=none,data:=.seq its.toArray c',slots:= #[] }->EP X aa σ Q (.ref s.heap.objs.size) { s with heap:=h' }:=λits r' hz h' c' kp e =>
  ⟨.ref s.heap.objs.size,_,I.laid (t':=s.toks) kp (Pa _) (show bz X.prog X.w _ h' _ (.lst ys) from ⟨hz,its,c',r',e⟩),rfl,q _ (I.hok.fresh (Pa _))⟩
 rcases hq with hq | hq
 ·obtain ⟨its,r',pl,hz⟩:=I.list hq
  have hlen:=r'.length
  obtain ⟨o,ho,hc,n,hd⟩:=pl.isList
  exact call_list_seq p (.inl rfl) ho hc hd (λh' c' kp e=>fin its r' hz h' c' kp e) (by simp only [PF] <;> lia)
 ·obtain ⟨its,r',pl,hz⟩:=I.tuple hq
  have hlen:=r'.length
  obtain ⟨o,ho,hc,n,hd⟩:=pl
  exact call_list_seq p (.inr rfl) ho hc hd (λh' c' kp e=>fin its r' hz h' c' kp e) (by simp only [PF] <;> lia)
theorem lW:fM X (.type "tuple") (λxs H Q=>∃ p ys,xs=[.ref p]/\((fk X.K H p ys/\∀ l,H l=none->Q (.ref l) (upd H l (.tup ys)))\/(dh X.K H p ys/\Q (.ref p) H))):=by
 intro aa s σ H xs us Q I r h
 obtain ⟨p,ys,rfl,h⟩:=h
 obtain ⟨u,rfl,rx⟩:=vals1 r
 cases rx
 rcases h with ⟨hq,q⟩ | ⟨hq,q⟩
 ·obtain ⟨its,r',pl,hz⟩:=I.list hq
  have hlen:=r'.length
  refine call_tuple_list pl.isList (λh' kp=>?_) (by simp only [PF] <;> lia)
  have I1:Inv X aa σ H { s with heap:=h' }:=I.kept (t':=s.toks) kp
  have I2:Inv X aa σ (upd H h'.objs.size (.tup ys)) { s with heap:=h'.push { cls:=.type "tuple",data:=.seq its.toArray } } :=
   I1.laid (t':=s.toks) (λb o e=>Pc _ e) (Pa _) (show bz X.prog X.w _ _ _ (.tup ys) from ⟨hz,its,r',IsTup.new _ _⟩)
  exact ⟨.ref h'.objs.size,_,I2,rfl,q _ (I1.hok.fresh (Pa _))⟩
 ·obtain ⟨its,r',pl,hz⟩:=I.tuple hq
  exact call_tuple_same pl ⟨.ref p,H,I,rfl,q⟩
def NP (K:O7) (T:String) (x:V) (H:Hp):Prop:=match x with
 | .str _=>T="str"
 | .int _=>T="int"
 | .ref p=>(T="list"/\∃ xs,fk K H p xs)\/(T="tuple"/\∃ o,K.lookup p=some o/\o.cls=.type "tuple"/\o.dict=none) \/
  (T="dict"/\((∃ kvs,H p=some (.dK kvs))\/∃ kvs,H p=some (.dT kvs)))\/(T="set"/\∃ S n,H p=some (.set S n))
 | _=>False
theorem zm (I:Inv X aa σ H s) (r:RelV x v) (ty:NP X.K T x H) :
 s.TypeIs v T/\∀ a,v=.ref a->∃ ob,s.heap.get? a=some ob/\ob.dict=none:=by
 cases x with
 | str z =>
  obtain ⟨t,rfl⟩:=r
  cases (show T="str" from ty)
  exact ⟨typeIs_str s z t,λ_ e=>nomatch e⟩
 | int i =>
  obtain ⟨t,rfl⟩:=r
  cases (show T="int" from ty)
  exact ⟨Tr s i t,λ_ e=>nomatch e⟩
 | ref p =>
  cases r
  rcases ty with ⟨rfl,xs,hq⟩ | ⟨rfl,o,hk,hc,hd⟩ | ⟨rfl,hk⟩ | ⟨rfl,S,n,hk⟩
  ·obtain ⟨its,_,pl,_⟩:=I.list hq
   refine ⟨pl.isList.typeIs,λa e=>?_⟩
   cases e
   obtain ⟨o,n,e,c,hd,_⟩:=pl
   exact ⟨o,e,hd⟩
  ·refine ⟨⟨o,I.nL p o hk,hc⟩,λa e=>?_⟩
   cases e
   exact ⟨o,I.nL _ o hk,hd⟩
  ·have z:∃ o,s.heap.get? p=some o/\o.ExactDict:=by
    rcases hk with ⟨kvs,hk⟩ | ⟨kvs,hk⟩
    ·obtain ⟨_,_,_,_,o,_,_,e,ex,_⟩:=I.hok p _ hk
     exact ⟨o,e,ex⟩
    ·obtain ⟨_,_,_,_,o,_,_,e,ex,_⟩:=I.hok p _ hk
     exact ⟨o,e,ex⟩
   obtain ⟨o,e,ex⟩:=z
   refine ⟨⟨o,e,ex.1⟩,λa e2=>?_⟩
   cases e2
   exact ⟨o,e,ex.2.1⟩
  ·obtain ⟨o,_,_,_,e,ex,_⟩:=I.hok p _ hk
   refine ⟨⟨o,e,ex.1⟩,λa e2=>?_⟩
   cases e2
   exact ⟨o,e,ex.2.1⟩
 | _=>exact Qs ty
noncomputable def NQ (K:O7) (T:String) (r:V->List V->Hp->VK->Prop) (to:TE):TE:=λσ H Q=>to σ H λx H1=>NP K T x H1/\r x [] H1 Q
noncomputable def OW (K:O7) (T:String) (r:V->List V->Hp->VK->Prop) (to:TE) (t:TA):TE:=λσ H Q=>to σ H λx H1=>NP K T x H1/\t σ H1 λxs H2=>r x xs H2 Q
variable {T id:String}
theorem zo (pa:PlainAttrs T) (slot:Slot T name id) (hty:typeOf (.builtin id)=pure (.type "method_descriptor")) (hm:NK X id r) (ho:PE X o to)
 (hbase:attributeBase o name X.env (eval o X.env)=eval o X.env:=by rfl) (hline:(apos.endLine == cpos.line)=true:=by rfl):PE X (.Call (.Attribute o name apos) [] [] cpos) (NQ X.K T r to):=by
 intro aa s σ H Q I h
 refine wpAny_Call_method0_late hbase hline (bC (ho aa s σ H _ I h) λv s1 ⟨x,H1,I1,r1,ty,q1⟩=>?_)
 obtain ⟨h1,h2⟩:=zm I1 r1 ty
 exact ⟨T,id,pa,slot,hty,h1,h2,UZ rfl (U7 (hm aa s1 σ H1 x [] v [] Q I1 r1 .nil q1))⟩
theorem Lc (pa:PlainAttrs T) (slot:Slot T name id) (hty:typeOf (.builtin id)=pure (.type "method_descriptor")) (hm:NK X id r) (ho:PE X o to) (ha:PA X (e::es) t)
 (hbase:attributeBase o name X.env (eval o X.env)=eval o X.env:=by rfl)
 (hfew:((backTo cpos (starEach (e::es) X.env)).all (λx=> !x.1) && (backToKw cpos (keywordEach [] X.env)).all (λx=>x.1.isSome)
   && decide ((e::es).length+([]:List Keyword).length+(if ([]:List Keyword).isEmpty then 0 else 1)<30))=true:=by rfl)
 (hline:(apos.endLine == cpos.line)=true:=by rfl) (hs:starEach (e::es) X.env=(false,eval e X.env)::starEach es X.env:=by rfl) (hplain:(backTo cpos (starEach es X.env)).any (·.1)=false:=by rfl) :
 PE X (.Call (.Attribute o name apos) (e::es) [] cpos) (OW X.K T r to t):=by
 intro aa s σ H Q I h
 refine wpAny_Call_method_late hbase hfew hline rfl (bC (ho aa s σ H _ I h) λv s1 ⟨x,H1,I1,r1,ty,q1⟩=>?_)
 obtain ⟨h1,h2⟩:=zm I1 r1 ty
 refine ⟨T,id,pa,slot,hty,h1,h2,?_⟩
 have hA:=ha cpos aa s1 σ H1 _ I1 q1
 rw [hs] at hA |-
 refine UZ (by show (false || (backTo cpos (starEach es X.env)).any (·.1))=false; rw [hplain] <;> rfl) (Calls.evalArgs_plain ?_)
 exact bC hA λus s2 ⟨vs,H2,I2,r2,q2⟩=>hm aa s2 σ H2 x vs v us Q I2 r1 r2 q2
end
def Oz (X:Cx) (id:String) (r:V->List V->Hp->VK->Prop):Prop :=
 ∀ (aa:List (Addr×Obj)) (s:Shared) (σ:St) (H:Hp) (x:V) (xs:List V) (v:Value) (us:List Value) (Q:VK),Inv X aa σ H s->RelV x v->Vals xs us->r x xs H Q ->
  wpAny (model X.prog X.w) X.A (call (.builtin id) (v::us)) (EP X aa σ Q) X.xe s
theorem Vals.one:∀ {x:V} {us:List Value},Vals [x] us->∃ u,us=[u]/\RelV x u
 | _,_,.cons r .nil=>⟨_,rfl,r⟩
theorem Vals.zero:∀ {us:List Value},Vals [] us->us=[]
 | _,.nil=>rfl
theorem Vals.dropLast (h:Vals xs us):Vals xs.dropLast us.dropLast:=by
 induction h with
 | nil=>exact .nil
 | cons r t ih =>
  cases t with
  | nil=>exact .nil
  | cons q t'=>exact .cons r ih
theorem Vals.rep (h:Vals xs us):∀ k:Nat,Vals (Pu k xs).flatten (Pu k us).flatten
 | 0=>.nil
 | k+1=>by
  rw [Rb,Rb,RY,RY]
  exact Vals.append h (Vals.rep h k)
theorem sL {α:Type} (l:List α):l.eraseIdx (l.length - 1)=l.dropLast:=by
 induction l with
 | nil=>rfl
 | cons a r ih =>
  cases r with
  | nil=>rfl
  | cons b r =>
   have e:(a::b::r).length - 1=((b::r).length - 1)+1:=by
    have h1:(a::b::r).length=r.length+2:=rfl
    have h2:(b::r).length=r.length+1:=rfl
    lia
   rw [e,List.eraseIdx_cons_succ,ih]
   all_goals rfl
theorem foldl_rep (its):∀ (k:Nat) (acc:List Value),
 SI (λx1 x2=>x1++x2) acc.toArray (Pu k its.toArray)=(acc++(Pu k its).flatten).toArray
 | 0,acc=>by simp
 | k+1,acc=>by
  have e:acc.toArray++its.toArray=(acc++its).toArray:=by simp
  have e2:(acc++its)++(Pu k its).flatten=acc++(Pu (k+1) its).flatten:=by
   rw [Rb,RY,Pz]
  rw [<- e2,<- foldl_rep its k (acc++its),<- e,Rb,QK]
theorem Inv.sM {its its':List Value} (I:Inv X aa σ H s) (hH:H l=some (.lst xs))
 (e:s.heap.get? l=some { cls:=.type "list",data:=.seq its.toArray n }) (hf:f its.toArray=its'.toArray) (hv:Vals ys its') (hz:ys.length<=sizeLine) :
 Inv X aa σ (upd H l (.lst ys)) { s with heap:=s.heap.update l (P1 f),toks:=t' }:=by
 have q:=PySem.IsL.update e f
 rw [hf] at q
 refine I.write (x:=l) (e:=l) (by rw [hH]; exact trivial) (.inl rfl) (λb' u hb hu=>(TX s.heap (P1 f) (Py hb)).trans hu) ⟨_,q⟩ ?_
 exact ⟨hz,its',_,hv,q⟩
theorem Inv.Dw (I:Inv X aa σ H s) (hv:Vals ys its) (hz:ys.length<=sizeLine) :
 Inv X aa σ (upd H s.heap.objs.size (.lst ys)) { s with heap:=s.heap.push { cls:=.type "list",data:=.seq its.toArray },toks:=t' } :=
 I.laid (λ_ _ q=>Pc _ q) (Pa _) ⟨hz,its,0,hv,Pp _ rfl⟩
theorem Inv.fresh (I:Inv X aa σ H s):H s.heap.objs.size=none:=I.hok.fresh (Pa _)
theorem Inv.p7 (I:Inv X aa σ H s) (hH:H l=some (.lst xs)):xs.length<=sizeLine/\∃ (its:List Value) (n:Nat),Vals xs its/\xs.length=its.length/\s.heap.get? l=some { cls:=.type "list",data:=.seq its.toArray n }:=by
 obtain ⟨z,its,n,r,e⟩:=I.hok l _ hH
 exact ⟨z,its,n,r,r.length,e⟩
theorem zp (h:n<=sizeLine):UQ n=false:=by
 unfold UQ
 exact decide_eq_false (by lia)
noncomputable def Dy:V->List V->Hp->VK->Prop:=λx vs H Q=>∃ l xs y,x=.ref l/\vs=[y]/\H l=some (.lst xs)/\xs.length<sizeLine/\Q .non (upd H l (.lst (xs++[y])))
theorem mD:Oz X "list.append" Dy:=by
 intro aa s σ H x vs v us Q I rx rv h
 obtain ⟨l,xs,y,rfl,rfl,hH,hz,q⟩:=h
 cases rx
 obtain ⟨u,rfl,ru⟩:=rv.one
 obtain ⟨z,its,n,r,hl,e⟩:=I.p7 hH
 refine Tt F.slot_list_append ⟨_,e,rfl⟩ F.entry_list_append (F.args_list_append_2 _ _) (PySem.list_append l its.toArray n u (by rw [PF]; lia)) ⟨e,?_⟩
 refine ⟨.non,_,I.sM (its':=its++[u]) hH e (by simp) (r.append (.cons ru .nil)) ?_,rfl,q⟩
 rw [P0,RV]
 lia
noncomputable def NR:V->List V->Hp->VK->Prop:=λx vs H Q=>∃ l xs y,x=.ref l/\vs=[]/\H l=some (.lst xs)/\xs[xs.length - 1]?=some y/\Q y (upd H l (.lst xs.dropLast))
theorem Ht:Oz X "list.pop" NR:=by
 intro aa s σ H x vs v us Q I rx rv h
 obtain ⟨l,xs,y,rfl,rfl,hH,hy,q⟩:=h
 cases rx
 have hus:=rv.zero
 subst hus
 obtain ⟨z,its,n,r,hl,e⟩:=I.p7 hH
 obtain ⟨u,hu,ru⟩:=r.get hy
 have hy':its.toArray[its.toArray.size - 1]?=some u:=by
  show its.toArray[its.length - 1]?=some u
  rw [<- Qi,<- hl]
  exact hu
 refine Tt F.slot_list_pop ⟨_,e,rfl⟩ F.entry_list_pop (F.args_list_pop_1 _) (MeetsSeq.list_pop_last l its.toArray n u hy' (by rw [PF]; lia)) ⟨e,?_⟩
 refine ⟨y,_,I.sM (its':=its.dropLast) hH e ?_ r.dropLast ?_,ru,q⟩
 ·show its.toArray.eraseIdxIfInBounds (its.toArray.size - 1)=its.dropLast.toArray
  rw [PF,List.eraseIdxIfInBounds_toArray,sL]
 ·rw [List.length_dropLast]
  lia
noncomputable def NS:R2:=λx y H Q=>∃ l k xs,x=.ref l/\y=.int k/\H l=some (.lst xs)/\ -(2 ^ 63)<=k/\k<2 ^ 63/\xs.length * k.toNat<=sizeLine /\
 ∀ p,H p=none->Q (.ref p) (upd H p (.lst (Pu k.toNat xs).flatten))
theorem len_rep {α:Type} (xs:List α) (k):(Pu k xs).flatten.length=k * xs.length:=by
 induction k with
 | zero=>simp
 | succ k ih=>rw [Rb,RY,P0,ih,Tg,Nat.add_comm]
theorem Hu:fL X (binaryOp .Mult) NS:=by
 intro aa s σ H x y v u Q I rx ry h
 obtain ⟨l,k,xs,rfl,rfl,hH,h1,h2,hz,q⟩:=h
 cases rx
 obtain ⟨t,rfl⟩:=ry
 obtain ⟨z,its,n,r,hl,e⟩:=I.p7 hH
 have hlen:its.toArray.size * k.toNat<=sizeLine:=by rw [PF,<- hl]; exact hz
 have hcap:¬ its.toArray.size * k.toNat>(2 ^ 63 - 1) / 8:=by
  have:(sizeLine:Nat)<=(2 ^ 63 - 1) / 8:=by decide
  lia
 have hfit:¬ (!Builtin.List.listFitsIndex k)=true:=by
  rw [fitsIndex_both h1 h2]
  exact Pn
 have hlong:¬ UQ (its.toArray.size * k.toNat)=true:=by
  rw [zp hlen]
  exact Pn
 have hnew:SI (λx1 x2=>x1++x2) #[] (Pu (if its.toArray.isEmpty=true then 0 else k.toNat) its.toArray)=(Pu k.toNat its).flatten.toArray:=by
  have f0:∀ m:Nat,SI (λx1 x2=>x1++x2) #[] (Pu m its.toArray)=(Pu m its).flatten.toArray:=λm=>by
   have:=foldl_rep its m []
   rw [Q6] at this
   exact this
  rw [f0]
  cases its with
  | nil=>simp
  | cons a r'=>rw [if_neg (by simp)]
 refine wpAny_binaryOp_repeat_ref (T:="list") (U:="int") (by decide) ⟨_,e,rfl⟩ (λs'=>Tr s' k t) noFill_list_mul F.fills_int_mul Ut repeat_list F.slot_int_index.lookup
  (Tt Ut (Tr s k t) F.entry_int_rmul (F.args_int_rmul_2 _ _) (int___rmul___int_list k t l its.toArray n)
    ⟨e,rfl,⟨_,e,rfl⟩,Tt F.slot_list_mul ⟨_,e,rfl⟩ F.entry_list_mul (F.args_list_mul_2 _ _) (AutoListH.list___mul___list_int_3 l its.toArray n k t hfit hcap hlong) ⟨e,?_⟩⟩)
 rw [hnew]
 exact ⟨.ref _,_,I.Dw (t':=s.toks) (r.rep k.toNat) (by rw [len_rep,UH]; exact hz),rfl,q _ I.fresh⟩
section
variable {κ:Type} [DecidableEq κ]
noncomputable def kj (kvs:List (κ×V)) (k:κ):Option V:=(kvs.find? λkv=>decide (kv.1=k)).map (·.2)
noncomputable def putK (kvs:List (κ×V)) (k:κ) (v:V):List (κ×V) :=
 if (kvs.any λkv=>decide (kv.1=k))=true then kvs.map (λkv=>if kv.1=k then (kv.1,v) else kv) else kvs++[(k,v)]
theorem ko {p:κ×V} {r:List (κ×V)} {k:κ} (e:p.1=k):kj (p::r) k=some p.2:=by simp [kj,Q0,e]
theorem kq {p:κ×V} {r:List (κ×V)} {k:κ} (e:¬ p.1=k):kj (p::r) k=kj r k:=by simp [kj,Q0,e]
theorem p9 (k:κ):∀ kvs:List (κ×V),(kvs.any λkv=>decide (kv.1=k))=(kj kvs k).isSome
 | []=>rfl
 | p::r=>by
  rw [List.any_cons]
  by_cases e:p.1=k
  ·simp only [ko e,decide_eq_true e,Bool.true_or,Option.isSome_some]
  ·rw [kq e,decide_eq_false e,Bool.false_or]; exact p9 k r
theorem qa (kvs) (k:κ) (v):(putK kvs k v).length<=kvs.length+1:=by
 unfold putK
 split
 ·rw [Pe]; lia
 ·rw [P0,Qg,Rg]; lia
theorem jD.i6 (r:jD o u):o.isSome=u.isSome:=by
 cases o with
 | none=>cases u with
  | none=>rfl
  | some _=>exact (show False from r).elim
 | some _=>cases u with
  | none=>exact (show False from r).elim
  | some _=>rfl
theorem jD.getD (r:jD o u) (rd:RelV d d'):RelV (o.getD d) (u.getD d'):=by
 cases o with
 | none=>cases u with
  | none=>exact rd
  | some _=>exact (show False from r).elim
 | some _=>cases u with
  | none=>exact (show False from r).elim
  | some _=>exact r
theorem KV.val (r:KV kvs vs) (k:κ):jD (kj kvs k) (valueAt vs k):=by
 unfold KV at r
 induction r with
 | nil=>exact Rj
 | @cons p q ps qs h t ih =>
  obtain ⟨h1,h2⟩:=h
  by_cases e:p.1=k
  ·have e':q.1=k:=h1.symm.trans e
   have b:valueAt (q::qs) k=some q.2:=by simp [valueAt,Q0,e']
   rw [ko e,b]; exact h2
  ·have e':¬ q.1=k:=λz=>e (h1.trans z)
   have b:valueAt (q::qs) k=valueAt qs k:=by simp [valueAt,Q0,e']
   rw [kq e,b]; exact ih
theorem KV.any (r:KV kvs vs) (k:κ):(kvs.any λkv=>decide (kv.1=k))=vs.any λkv=>decide (kv.1=k):=by
 unfold KV at r
 induction r with
 | nil=>rfl
 | cons h t ih=>rw [List.any_cons,List.any_cons,ih,h.1]
theorem KV.repl (r:KV kvs vs) (k:κ) (ry:RelV y u) :
 KV (kvs.map λkv=>if kv.1=k then (kv.1,y) else kv) (vs.map λkv=>if kv.1=k then (kv.1,u) else kv):=by
 unfold KV at r |-
 induction r with
 | nil=>exact .nil
 | @cons p q ps qs h t ih =>
  rw [Pd,Pd]
  refine .cons ?_ ih
  obtain ⟨h1,h2⟩:=h
  by_cases e:p.1=k
  ·rw [if_pos e,if_pos (h1.symm.trans e)]; exact ⟨h1,ry⟩
  ·rw [if_neg e,if_neg (λz=>e (h1.trans z))]; exact ⟨h1,h2⟩
theorem KV.put (r:KV kvs vs) (k:κ) (ry:RelV y u):KV (putK kvs k y) (stored vs k u):=by
 unfold putK stored
 rw [r.any k]
 by_cases e:(vs.any λkv=>decide (kv.1=k))=true
 ·rw [if_pos e,if_pos e]; exact r.repl k ry
 ·rw [if_neg e,if_neg e]; exact UL r ⟨rfl,ry⟩
theorem KV.length {kvs:List (κ×V)} {vs:List (κ×Value)} (r:KV kvs vs):kvs.length=vs.length:=Q4 r
end
theorem qb (r:RelV (kV k) u):(bU P w).is k u=true:=by
 cases k with
 | inl i=>obtain ⟨t,e⟩:=(show ∃ t,u=RN i t from r); subst e; exact pV P w i t
 | inr x=>obtain ⟨t,e⟩:=(show ∃ t,u=Tv x t from r); subst e; exact pW P w x t
theorem mE:∀ {ks:List Key} {us:List Value},Vals (ks.map kV) us->ItemsAre (bU P w) ks us
 | [],_,r=>by rw [Qv] at r; cases r; exact .nil
 | k::ks,_,r=>by
  rw [Pd] at r
  cases r with
  | cons h t=>exact .cons (qb h) (mE t)
noncomputable abbrev KT:List (List Key×Addr×V)->List (List Key×Addr×Value)->Prop:=Paired λp q=>p.1=q.1/\p.2.1=q.2.1/\RelV p.2.2 q.2.2
noncomputable def atT (kvs:List (List Key×Addr×V)) (k:List Key):Option V:=(kvs.find? λkv=>decide (kv.1=k)).map (·.2.2)
noncomputable def nT (k:List Key) (v:V) (x:List Key×Addr×V):List Key×Addr×V:=if x.1=k then (x.1,x.2.1,v) else x
noncomputable def qe (kvs:List (List Key×Addr×V)) (k:List Key) (b:Addr) (v:V):List (List Key×Addr×V) :=
 if (atT kvs k).isSome=true then kvs.map (nT k v) else kvs++[(k,b,v)]
theorem qf (kvs) (k) (b) (v):(qe kvs k b v).length<=kvs.length+1:=by
 unfold qe
 split
 ·rw [Pe]; lia
 ·rw [P0,Qg,Rg]; lia
theorem KT.val (r:KT kvs xs) (k):jD (atT kvs k) ((atKey xs k).map (·.2)):=by
 induction r with
 | nil=>exact Rj
 | @cons p q ps qs h t ih =>
  obtain ⟨h1,_,h2⟩:=h
  by_cases e:p.1=k
  ·have e':q.1=k:=h1.symm.trans e
   have b:atKey (q::qs) k=some q.2:=by simp [atKey,Q0,e']
   have b2:atT (p::ps) k=some p.2.2:=by simp [atT,Q0,e]
   rw [b2,b]; exact h2
  ·have e':¬ q.1=k:=λz=>e (h1.trans z)
   have b:atKey (q::qs) k=atKey qs k:=by simp [atKey,Q0,e']
   have b2:atT (p::ps) k=atT ps k:=by simp [atT,Q0,e]
   rw [b2,b]; exact ih
theorem KT.repl (r:KT kvs xs) (k) (ry:RelV y u) :
 KT (kvs.map (nT k y)) (xs.map (putAt k u)):=by
 induction r with
 | nil=>exact .nil
 | @cons p q ps qs h t ih =>
  rw [Pd,Pd]
  refine .cons ?_ ih
  obtain ⟨h1,h2,h3⟩:=h
  unfold putAt nT
  by_cases e:p.1=k
  ·rw [if_pos e,if_pos (h1.symm.trans e)]; exact ⟨h1,h2,ry⟩
  ·rw [if_neg e,if_neg (λz=>e (h1.trans z))]; exact ⟨h1,h2,h3⟩
theorem KT.put (r:KT kvs xs) (k) (ry:RelV y u) :
 KT (qe kvs k b y) (storedH xs k b u):=by
 have e:(atT kvs k).isSome=(atKey xs k).isSome:=by
  rw [(r.val k).i6,RW]
 unfold qe storedH
 rw [e]
 by_cases q:(atKey xs k).isSome=true
 ·rw [if_pos q,if_pos q]; exact r.repl k ry
 ·rw [if_neg q,if_neg q]; exact UL r ⟨rfl,rfl,ry⟩
theorem zq (ok:iX P w H h) (e:Rd H a u):bz P w H h a u:=e.ok ok
theorem mF (ok:iX P w H h) (e:Rd H a (.dK kvs)):kvs.length<=sizeLine/\(a == sysModules)=false/\∃ vs,KV kvs vs/\h.DictOf (bU P w) a vs :=
 show bz P w H h a (.dK kvs) from zq ok e
theorem Ld (ok:iX P w H h) (e:H a=some (.dK kvs)):kvs.length<=sizeLine/\(a == sysModules)=false/\∃ vs,KV kvs vs/\h.DictOf (bU P w) a vs:=mF ok (.inl e)
theorem kr (I:Inv X aa σ H s) (e:dh X.K H a (ks.map kV)):(tupleKind (bU X.prog X.w)).is s.heap ks a:=by
 obtain ⟨its,r,⟨o,h1,h2,n,h3⟩,_⟩:=I.tuple e
 exact ⟨o,its.toArray,n,h1,h2,h3,by simpa using mE r⟩
theorem qg (I:Inv X aa σ H s) (e:Rd H a (.dT kvs)) (hk:∀ x∈kvs,dh X.K H x.2.1 (x.1.map kV)):kvs.length<=sizeLine/\(a == sysModules)=false /\
 ∃ xs,KT kvs xs/\s.heap.DictOfH (tupleKind (bU X.prog X.w)) a xs:=by
 obtain ⟨z,y,xs,r,o,es,ep,h1,h2,h3,h4,h5⟩:=(show bz X.prog X.w H s.heap a (.dT kvs) from zq I.hok e)
 refine ⟨z,y,xs,r,o,es,ep,h1,h2,h3,h4,?_,h5⟩
 have all:∀ {l:List (List Key×Addr×V)} {m:List (List Key×Addr×Value)},KT l m->(∀ x∈l,dh X.K H x.2.1 (x.1.map kV))->∀ x∈m,(tupleKind (bU X.prog X.w)).is s.heap x.1 x.2.1:=by
  intro l m q
  induction q with
  | nil=>intro _ x hx; exact nomatch hx
  | @cons p q ps qs hq t ih =>
   intro hl x hx
   rcases Pg.mp hx with e | hx
   ·subst e
    rw [<- hq.1,<- hq.2.1]
    exact kr I (hl p Po)
   ·exact ih (λy hy=>hl y (Pj _ hy)) x hx
 exact all r hk
def nU (K:O7) (H:Hp) (a:Addr) (y:V) (r:Option V):Prop :=
 (∃ kvs k,Rd H a (.dK kvs)/\y=kV k/\r=kj kvs k)\/∃ kvs k b,Rd H a (.dT kvs)/\(∀ x∈kvs,dh K H x.2.1 (x.1.map kV))/\y=.ref b/\dh K H b (k.map kV)/\r=atT kvs k
def Dz (K:O7) (H:Hp) (a:Addr) (y v:V) (H':Hp):Prop :=
 (∃ kvs k,H a=some (.dK kvs)/\y=kV k/\kvs.length<sizeLine/\H'=upd H a (.dK (putK kvs k v))) \/
 ∃ kvs k b,H a=some (.dT kvs)/\(∀ x∈kvs,dh K H x.2.1 (x.1.map kV))/\y=.ref b/\dh K H b (k.map kV)/\kvs.length<sizeLine/\H'=upd H a (.dT (qe kvs k b v))
theorem Inv.big (I:Inv X aa σ H s):sysModules<s.heap.objs.size:=by
 have h:mainGlobals<s.heap.objs.size:=(I.mod.glob.keeps I.bk).lt
 exact Nat.lt_trans (by decide) h
theorem mG (hu:A.units+1<cLine) (I:Inv X aa σ H s) (g:nU X.K H a y (some v)) (ry:RelV y u) (h:∀ w' s',Inv X aa σ H s'->RelV v w'->Q w' s') :
 wpAny (model X.prog X.w) A (getItem (.ref a) u) Q E s:=by
 rcases g with ⟨kvs,k,e,ey,l⟩ | ⟨kvs,k,b,e,hk,ey,eb,l⟩
 ·subst ey
  obtain ⟨z,hd,vs,rel,dd⟩:=mF I.hok e
  obtain ⟨w',hw,rw'⟩:=jD.some_of (v:=v) (o:=valueAt vs k) (by rw [l]; exact rel.val k)
  exact wpAny_getItem_of (qb ry) dd.mapOf hw (h w' _ (I.tok _) rw')
 ·subst ey
  cases (show u=PJ b from ry)
  obtain ⟨z,hd,xs,rel,dd⟩:=qg I e hk
  obtain ⟨w',hw,rw'⟩:=jD.some_of (v:=v) (o:=(atKey xs k).map (·.2)) (by rw [l]; exact rel.val k)
  obtain ⟨p,hp,hp2⟩:=Pq.mp hw
  refine wpAny_getItem_heap (T6 hu) (kr I eb) dd hp ?_
  rw [hp2]
  exact h w' _ (I.tok _) rw'
theorem NT (hu:A.units+1<cLine) (I:Inv X aa σ H s) (g:nU X.K H a y o) (ry:RelV y u) (h:∀ s',Inv X aa σ H s'->Q (.bool o.isSome) s') :
 wpAny (model X.prog X.w) A (compareOp .In u (.ref a)) Q E s:=by
 rcases g with ⟨kvs,k,e,ey,l⟩ | ⟨kvs,k,b,e,hk,ey,eb,l⟩
 ·subst ey
  obtain ⟨z,hd,vs,rel,dd⟩:=mF I.hok e
  refine wpAny_in_of (qb ry) hd dd.mapOf ?_
  rw [<- (rel.val k).i6,<- l]
  exact h _ (I.tok _)
 ·subst ey
  cases (show u=PJ b from ry)
  obtain ⟨z,hd,xs,rel,dd⟩:=qg I e hk
  refine wpAny_in_heap (T6 hu) (kr I eb) hd dd ?_
  have q:=(rel.val k).i6
  rw [RW] at q
  rw [<- q,<- l]
  exact h _ (I.tok _)
theorem uF (I:Inv X aa σ H s) (mu:KI (H a)) (hs:QZ a s.heap h') (he:∃ q,h'.get? a=some q) (new:bz X.prog X.w (upd H a ob) h' a ob) :
 Inv X aa σ (upd H a ob) { s with heap:=h',toks:=t' } :=
 I.write (x:=a) (e:=a) mu (.inl rfl) (λb q hb z=>(hs.2 b hb).trans z) he new
theorem Hw (z:kvs.length<=sizeLine) (hd:(a == sysModules)=false) (rel:KV kvs vs) (dd:h'.DictOf (bU P w) a vs) :
 bz P w H' h' a (.dK kvs):=⟨z,hd,vs,rel,dd⟩
theorem mH (hu:A.units+1<cLine) (I:Inv X aa σ H s) (g:Dz X.K H a y v H') (ry:RelV y u) (rv:RelV v r) (h:∀ s',Inv X aa σ H' s'->Q () s') :
 wpAny (model X.prog X.w) A (setItem (.ref a) u r) Q E s:=by
 rcases g with ⟨kvs,k,e,ey,l,eH⟩ | ⟨kvs,k,b,e,hk,ey,eb,l,eH⟩
 ·subst ey eH
  obtain ⟨z,hd,vs,rel,dd⟩:=Ld I.hok e
  have hz:vs.length<=sizeLine:=by rw [<- rel.length]; exact z
  have hl:(putK kvs k v).length<=sizeLine:=by have:=qa kvs k v; lia
  refine wpAny_setItem_pairs (hsz:=hz) (qb ry) dd λh' dd' hs=>h _ ?_
  have he:∃ q,h'.get? a=some q:=let ⟨q,_,_,hq,_⟩:=dd'; ⟨q,hq⟩
  exact uF I (by rw [e]; exact Rj) hs he (Hw hl hd (rel.put k rv) dd')
 ·subst ey eH
  cases (show u=PJ b from ry)
  obtain ⟨z,hd,xs,rel,dd⟩:=qg I (.inl e) hk
  have hz:xs.length<=sizeLine:=by rw [<- Q4 rel]; exact z
  have hl:(qe kvs k b v).length<=sizeLine:=by have:=qf kvs k b v; lia
  refine wpAny_setItem_heap (hsz:=hz) (T6 hu) (kr I eb) dd λh' dd' hs=>h _ ?_
  obtain ⟨q,es,ep,hq,h2,h3,h4,_,h5⟩:=dd'
  exact uF I (by rw [e]; exact Rj) hs ⟨q,hq⟩ ⟨hl,hd,_,rel.put k rv,q,es,ep,hq,h2,h3,h4,h5⟩
def Hx (i:Expr):Prop:=∀ ov iv,subscripted i false ov iv=operate [ov,iv] (getItem ov iv)
theorem DA {T id:String}
 (hl:typeLookup (.type T) "__getitem__"=pure (some (.builtin id))) (hs:Hx slice)
 (h:wpAny (model prog w) A (eval value env) (λo s₁=>wpAny (model prog w) A (eval slice env) (λi s₂=>s₂.TypeIs o T/\wpAny (model prog w) A (getItem o i) Q E s₂) E s₁) E s) :
 wpAny (model prog w) A (eval (.Subscript value slice pos) env) Q E s:=by
 refine Subscript_ (Qd h (λo s₁ h₁=>Qd h₁ (λi s₂ h₂=>?_) λ_ _ x=>x) λ_ _ x=>x)
 obtain ⟨hT,h₂⟩:=h₂
 unfold subscriptTail
 refine O6 ?_
 rw [getitemInPython_of_ne hT.not_modules]
 refine O6 (wpAny_specialOf hT hl ?_)
 have fin:wpAny (model prog w) A (subscripted slice false o i) (λr s₃=>wpAny (model prog w) A (letTemporaryGo value o r >>= λ_=>pure r) Q E s₃) E s₂:=by
  rw [hs o i]
  exact wpAny_operating (Qd h₂ (λr s₃ h₃=>O6 (wpAny_letTemporaryGo (O8 h₃))) λ_ _ x=>x)
 first
  | exact O8 (O6 fin)
  | exact O6 (O8 (O6 fin))
  | exact O6 fin
theorem qh (I:Inv X aa σ H s) (g:nU X.K H a y o):s.TypeIs (.ref a) "dict":=by
 rcases g with ⟨kvs,k,e,_,_⟩ | ⟨kvs,k,b,e,hk,_,_,_⟩
 ·obtain ⟨_,_,vs,_,dd⟩:=mF I.hok e
  exact dd.typeIs
 ·obtain ⟨_,_,xs,_,dd⟩:=qg I e hk
  exact dd.typeIs
noncomputable def Le (X:Cx) (td ty:TE):TE:=λσ H Q=>td σ H λx H1=>ty σ H1 λy H2=>∃ a v,x=.ref a/\nU X.K H2 a y (some v)/\Q v H2
noncomputable def NU (X:Cx) (ty td:TE):TE:=λσ H Q=>ty σ H λy H1=>td σ H1 λx H2=>∃ a o,x=.ref a/\nU X.K H2 a y o/\Q (.bl o.isSome) H2
noncomputable def Lf (X:Cx) (td ty tv:TE):TS:=λD σ H=>tv σ H λv H1=>td σ H1 λx H2=>ty σ H2 λy H3=>∃ a H4,x=.ref a/\Dz X.K H3 a y v H4/\D.nx σ H4
noncomputable def Lg (X:Cx) (td ty tv:TE) (rd:V->V->Hp->VK->Prop):TS:=λD σ H=>td σ H λx H1=>ty σ H1 λy H2=>∃ a v,x=.ref a/\nU X.K H2 a y (some v) /\
 tv σ H2 λy2 H3=>rd v y2 H3 λz H4=>∃ H5,Dz X.K H4 a y z H5/\D.nx σ H5
theorem DB (hu:X.A.units+1<cLine) (ho:PE X o td) (hi:PE X i ty) (hs:Hx i):PE X (.Subscript o i pos) (Le X td ty):=by
 intro aa s σ H Q I h
 refine DA PySem.F.slot_dict_getitem.lookup hs (bC (ho aa s σ H _ I h) λu s1 ⟨x,H1,I1,rx,q1⟩=>bC (hi aa s1 σ H1 _ I1 q1) λiv s2 ⟨y,H2,I2,ry,a,v,ex,g,q2⟩=>?_)
 subst ex
 obtain rfl:u=PJ a:=rx
 exact ⟨qh I2 g,mG hu I2 g ry λw' s3 I3 rw'=>⟨v,H2,I3,rw',q2⟩⟩
theorem Hy (hu:X.A.units+1<cLine) (hi:PE X i ty) (ho:PE X o td):PC X .In i o (NU X ty td):=by
 intro aa s σ H Q I h
 refine bC (hi aa s σ H _ I h) λiv s1 ⟨y,H1,I1,ry,q1⟩=>bC (ho aa s1 σ H1 _ I1 q1) λu s2 ⟨x,H2,I2,rx,a,ov,ex,g,q2⟩=>?_
 subst ex
 obtain rfl:u=PJ a:=rx
 exact NT hu I2 g ry λs3 I3=>⟨.bl ov.isSome,H2,I3,rfl,q2⟩
theorem DC (hu:X.A.units+1<cLine) (ho:PE X o td) (hi:PE X i ty) (hv:PE X value tv) (hs:swapsWith value (some (.Subscript o i pos')) pos.line X.env=pure false) :
 PS X (.Assign [.Subscript o i pos'] value pos) (Lf X td ty tv):=by
 intro aa s σ H D I h
 refine wpAny_Assign_Subscript (bC (hv aa s σ H _ I h) λr s1 ⟨v,H1,I1,rv,q1⟩=>bC (ho aa s1 σ H1 _ I1 q1) λu s2 ⟨x,H2,I2,rx,q2⟩=>bC (hi aa s2 σ H2 _ I2 q2) λiv s3 ⟨y,H3,I3,ry,a,H4,ex,g,q3⟩=>?_) hs
 subst ex
 obtain rfl:u=PJ a:=rx
 exact mH hu I3 g ry rv λs4 I4=>⟨σ,H4,I4,q3⟩
theorem DE (hu:X.A.units+1<cLine) (ho:PE X o td) (hi:PE X i ty) (hv:PE X value tv) (hop:K8 X op rd)
 (ha:∀ ov iv new,augStore i ov iv new=(do holding [new,ov,iv] (setItem ov iv new); release [new,ov,iv] []; pure .next)):PS X (.AugAssign (.Subscript o i tpos) op value pos) (Lg X td ty tv rd):=by
 intro aa s σ H D I h
 refine wpAny_AugAssign_SubscriptAny (bC (ho aa s σ H _ I h) λu s1 ⟨x,H1,I1,rx,q1⟩=>bC (hi aa s1 σ H1 _ I1 q1) λiv s2 ⟨y,H2,I2,ry,a,v,ex,g,q2⟩=>?_) ha
 subst ex
 obtain rfl:u=PJ a:=rx
 refine mG hu I2 g ry λw' s3 I3 rw'=>bC (hv aa s3 σ H2 _ I3 q2) λw2 s4 ⟨y2,H3,I4,ry2,q3⟩=>bC (hop aa s4 σ H3 v y2 w' w2 _ I4 rw' ry2 q3) λw3 s5 ⟨z,H4,I5,rz,H5,g5,q4⟩=>?_
 exact mH hu I5 g5 ry rz λs6 I6=>⟨σ,H5,I6,q4⟩
theorem zu (h:Heap) (hb:sysModules<h.objs.size):bz P w H (h.push { cls:=.type "dict",data:=.dict #[] }) h.objs.size (.dK []) :=
 ⟨PY _,beq_eq_false_iff_ne.mpr (Py (PM hb)),[],.nil,Heap.DictOf.new h⟩
theorem zw (h:Heap) (hb:sysModules<h.objs.size):bz P w H (h.push { cls:=.type "dict",data:=.dict #[] }) h.objs.size (.dT []) :=
 ⟨PY _,beq_eq_false_iff_ne.mpr (Py (PM hb)),[],.nil,_,#[],0,Pp _ rfl,⟨rfl,rfl,rfl⟩,rfl,rfl,List.nodup_nil⟩
noncomputable def Hz:TE:=λ_ H Q=>∀ p,H p=none->Q (.ref p) (upd H p (.dK []))
noncomputable def HA:TE:=λ_ H Q=>∀ p,H p=none->Q (.ref p) (upd H p (.dT []))
theorem zz:PE X (.Dict [] [] pos) Hz:=λaa s σ H Q I h =>
 wpAny_Dict_empty ⟨.ref s.heap.objs.size,_,I.laid (a:=s.heap.objs.size) (o:=.dK []) (t':=s.toks) (λ_ _ q=>Pc _ q) (Pa _) (zu s.heap I.big),rfl,h _ (I.hok.fresh (Pa _))⟩
theorem zA:PE X (.Dict [] [] pos) HA:=λaa s σ H Q I h =>
 wpAny_Dict_empty ⟨.ref s.heap.objs.size,_,I.laid (a:=s.heap.objs.size) (o:=.dT []) (t':=s.toks) (λ_ _ q=>Pc _ q) (Pa _) (zw s.heap I.big),rfl,h _ (I.hok.fresh (Pa _))⟩
structure M1 (X:Cx) (o:Expr) (m:Str) (apos:Pos) (e:Expr) (cpos:Pos):Prop where
 base:attributeBase o m X.env (eval o X.env)=eval o X.env
 few:((backTo cpos (starEach [e] X.env)).all (λx=> !x.1) && (backToKw cpos (keywordEach [] X.env)).all (λx=>x.1.isSome)
  && decide (([e]:List Expr).length+([]:List Keyword).length+(if ([]:List Keyword).isEmpty then 0 else 1)<30))=true
 line:(apos.endLine == cpos.line)=true
 trees:backTo cpos (starEach [e] X.env)=[(false,eval e X.env)]
structure M2 (X:Cx) (o:Expr) (m:Str) (apos:Pos) (e f:Expr) (cpos:Pos):Prop where
 base:attributeBase o m X.env (eval o X.env)=eval o X.env
 few:((backTo cpos (starEach [e,f] X.env)).all (λx=> !x.1) && (backToKw cpos (keywordEach [] X.env)).all (λx=>x.1.isSome)
  && decide (([e,f]:List Expr).length+([]:List Keyword).length+(if ([]:List Keyword).isEmpty then 0 else 1)<30))=true
 line:(apos.endLine == cpos.line)=true
 trees:backTo cpos (starEach [e,f] X.env)=[(false,eval e X.env),(false,eval f X.env)]
def NV (H:Hp) (a:Addr):Prop:=(∃ kvs,Rd H a (.dK kvs))\/∃ kvs,Rd H a (.dT kvs)
theorem HB (I:Inv X aa σ H s) (d:NV H a) :
 s.TypeIs (.ref a) "dict"/\(∀ b,PJ a=.ref b->∃ ob,s.heap.get? b=some ob/\ob.dict=none)/\(a == sysModules)=false:=by
 rcases d with ⟨kvs,e⟩ | ⟨kvs,e⟩
 ·obtain ⟨_,hd,vs,_,dd⟩:=mF I.hok e
  refine ⟨dd.typeIs,λb q=>?_,hd⟩
  cases q
  obtain ⟨ob,_,_,h1,h2,_⟩:=dd
  exact ⟨ob,h1,h2.2.1⟩
 ·obtain ⟨_,hd,xs,_,ob,es,ep,h1,h2,_⟩:=(show bz X.prog X.w H s.heap a (.dT kvs) from zq I.hok e)
  refine ⟨⟨ob,h1,h2.1⟩,λb q=>?_,hd⟩
  cases q
  exact ⟨ob,h1,h2.2.1⟩
theorem HC (hu:A.units+1<cLine) (I:Inv X aa σ H s) (g:nU X.K H a y o) (ry:RelV y u) (rd:RelV d r) (h:∀ w' s',Inv X aa σ H s'->RelV (o.getD d) w'->Q w' s') :
 wpAny (model X.prog X.w) A (call (.builtin "dict.get") [.ref a,u,r]) Q E s:=by
 rcases g with ⟨kvs,k,e,ey,l⟩ | ⟨kvs,k,b,e,hk,ey,eb,l⟩
 ·subst ey
  obtain ⟨z,hd,vs,rel,dd⟩:=mF I.hok e
  refine call_meetsIn U1 dd.typeIs PySem.F.entry_dict_get (PySem.F.args_dict_get_3 _ _ _) (meets_dict_get_default (bU X.prog X.w) a (qb ry) hd r) ⟨_,dd.mapOf,h _ _ (I.tok _) ?_⟩
  rw [l]
  exact (rel.val k).getD rd
 ·subst ey
  cases (show u=PJ b from ry)
  obtain ⟨z,hd,xs,rel,dd⟩:=qg I e hk
  refine call_meetsIn U1 dd.typeIs PySem.F.entry_dict_get (PySem.F.args_dict_get_3 _ _ _) (meetsH_dict_get_default (tupleKind (bU X.prog X.w)) a b hd r) ⟨T6 hu,k,xs,kr I eb,dd,h _ _ (I.tok _) ?_⟩
  rw [l]
  exact (rel.val k).getD rd
noncomputable def HD (X:Cx) (td ty tx:TE):TE:=λσ H Q=>td σ H λx H1=>∃ a,x=.ref a/\NV H1 a/\ty σ H1 λy H2=>tx σ H2 λz H3=>∃ o,nU X.K H3 a y o/\Q (o.getD z) H3
theorem zB (hu:X.A.units+1<cLine) (ho:PE X o td) (he:PE X e ty) (hf:PE X f tx) (m:M2 X o "get" apos e f cpos):PE X (.Call (.Attribute o "get" apos) [e,f] [] cpos) (HD X td ty tx):=by
 intro aa s σ H Q I h
 refine Vh m.base m.few m.line PySem.F.plainAttrs_dict U1 PySem.F.type_dict_get (bC (ho aa s σ H _ I h) λu s1 ⟨x,H1,I1,rx,a,ex,d,q1⟩=>?_)
 subst ex
 obtain rfl:u=PJ a:=rx
 obtain ⟨t1,t2,_⟩:=HB I1 d
 refine ⟨t1,t2,?_⟩
 rw [m.trees]
 refine UZ rfl (Calls.evalArgs_plain (Ve (bC (he aa s1 σ H1 _ I1 q1) λiv s2 ⟨y,H2,I2,ry,q2⟩ =>
  Ve (bC (hf aa s2 σ H2 _ I2 q2) λfv s3 ⟨z,H3,I3,rz,ov,g,q3⟩=>Calls.spliced_nil ?_))))
 exact HC hu I3 g ry rz λw' s4 I4 rw'=>⟨_,H3,I4,rw',q3⟩
end L2
namespace Att
open PySem PySem.W PySem.Calls PyProof.Rows
theorem jE:∀ (ns:List Int) (vs:List Value),WellAll P h vs (ns.map WData.int)->IntsAre vs ns:=by
 intro ns
 induction ns with
 | nil =>
  intro vs w
  rw [Qv] at w
  cases w
  exact .nil
 | cons n ns ih =>
  intro vs w
  rw [Pd] at w
  cases w with
  | cons a b =>
   cases a
   exact .cons _ _ (ih _ b)
theorem wU {l:OpenLaw} (hn:l.most=some n)
 (hpre:l.row.toRowW.claim.pre args=true) (hwl:WellAll P h vals args) :
 ∃ a vs ns,vals=[PJ a]/\args=[WData.list (ns.map WData.int)]/\h.get? a=some { cls:=.type "list",data:=.seq vs.toArray }/\IntsAre vs ns/\ns.length<=n:=by
 have hsh:WShape.hasAll [] args [.list .int]=true:=(pre_splitW hpre).1
 have hc:l.pre.holds [] { args:=args }=true:=(pre_splitW hpre).2
 obtain ⟨d,r,rfl,h1,h2⟩:=hasAllW_cons hsh
 obtain rfl:=hasAllW_nil h2
 obtain ⟨xs,rfl,h3⟩:=hasW_list h1
 obtain ⟨ns,rfl⟩:=items_int h3
 have hlen:ns.length<=n:=by
  unfold OpenLaw.pre at hc
  have h4:(WTm.not (.lt (.lit (.int (n:Int))) (.len (.arg 0)))).holds [] { args:=[.list (ns.map .int)] }=true:=by
   have h4:=(holds_andW hc).1
   rw [hn] at h4
   exact h4
  have h5:=condW_of h4 (w_not (w_lt w_lit (w_len_list (w_arg rfl))))
  rw [Pe] at h5
  refine Nat.le_of_not_lt λq=>?_
  have q':(n:Int)<((ns.length:Nat):Int):=by lia
  first
   | (rw [decide_eq_true q'] at h5; exact absurd h5 (by decide))
   | (simp at h5; lia)
 cases hwl with
 | cons w1 w2 =>
  cases w2
  cases w1 with
  | list ho hall=>exact ⟨_,_,ns,rfl,rfl,ho,jE ns _ hall,hlen⟩
theorem wV (l:OpenLaw) (args):l.row.toRowW.claim.post args (.bool true) args=true :=
 postW_of (r:=l.row.toRowW) (X:=(true == true))
  (show WShape.has [] (.bool true) .bool=true by first | rfl | decide | simp [WShape.has,WShape.arms,WShape.armsAll])
  (show (WTm.eq .res (.lit (.bool true))).value [] { args:=args,res:=some (.bool true),after:=args }=some (.bool (true == true)) from w_eq_bool (w_res rfl) w_lit) rfl
theorem qi {l:OpenLaw}
 (hn:l.most=some n) (hdf:d.params.defaults=[])
 (call:∀ (w:World) (s₀ s₁:Shared) (mg mb:Str->Option Value) (fa:Addr) (o:Obj) (pm cd doc:Value) (a:Addr) (vs:List Value) (ns:List Int),
   Ground q loose [] XP w s₀ mg mb s₁.heap->YP w s₁.heap ->
   s₁.heap.get? fa=some o->o.data=.func (docDef d.name d.params d.body d.scope pm cd doc)->s₁.heap.CodeRec cd d.name->mg d.name=some (.ref fa) ->
   s₁.heap.get? a=some { cls:=.type "list",data:=.seq vs.toArray }->IntsAre vs ns->ns.length<=n->s₁.gens= #[] ->
   codeAny (model l.prog w) callerA (.call (.ref fa) ⟨[.ref a],[]⟩) (λr s'=>r=.ok (.ret (.bool true))/\OldK s₁.heap s'.heap/\s'.os=s₁.os/\AllBare s'.gens) s₁) :
 WalkO q loose XP YP l.row.toRowW d [] (λf vs=>PySem.call f vs):=by
 intro w s₀ s₁ mg mb G Y fa o pm cd doc dV kV ho hd hcd hD hmg hg args vals as hpre hlay hrd hwl hlo
 obtain rfl:dV=.none:=Dflts.none hD hdf
 obtain rfl:kV=.none:=Dflts.noKw hD
 obtain ⟨a,vs,ns,rfl,rfl,hobj,hints,hlen⟩:=wU hn hpre hwl
 refine enter_call (SD (call w s₀ s₁ mg mb fa o pm cd doc a vs ns G Y ho (fd_plain hd) hcd hmg hobj hints hlen hg) λr s' hq=>?_)
 obtain ⟨rfl,h2,h3,h4⟩:=hq
 exact ⟨.inl ⟨.bool true,.bool true,[],rfl,λ_=>rfl,.bool true,wV l _,λ_=>⟨SW,λ_ hm=>(nomatch hm)⟩⟩,h2,h3,h4⟩
end Att
namespace L2
open PySem PySem.Spec PyProof.Rows
theorem mJ:∀ {vs:List Value} {ns:List Int},IntsAre vs ns->Vals (ns.map V.int) vs
 | _,_,.nil=>.nil
 | _,_,.cons n t h=>.cons ⟨t,rfl⟩ (mJ h)
def HE (H:Hp):Prop:=∀ b,H b=none\/∃ o xs,H b=some (.frz o (.lst xs))
theorem zC {K:O7}
 (KX:K.In s₁.heap) (hns:s₁.heap.Ns mainGlobals mg) (hb:s₁.heap.Ns builtinsNs mb) (hbb:∀ x:Str,x≠"__name__"->mb x=bootBuiltins x) (hlim:s₁.heap.NoLimit) (hg:s₁.gens= #[])
 (ha:s₁.heap.get? a=some { cls:=.type "list",data:=.seq vs.toArray }) (hi:IntsAre vs ns) (hl:ns.length<=sizeLine) (hr:gx k callerA)
 (F:∀ base:Heap,K.In base->base.Ns mainGlobals mg->bq P w K mg base CX k fa fd [x] sp) (hbind:∀ (s:Shared) (u:Value),BindsTo s fd ⟨[u],[]⟩ [(x,u)])
 (pU:∀ H:Hp,HE H->fk K H a (ns.map V.int)->sp [.ref a] H (λv _=>v=.bl true) λ_ _ _=>False)
 (hCX:∀ H e s',CX [] H s₁ (λ_ _ _=>False) e s'->False) :
 codeAny (model P w) callerA (.call (.ref fa) ⟨[.ref a],[]⟩) (λr s'=>r=.ok (.ret (.bool true))/\OldK s₁.heap s'.heap/\s'.os=s₁.os/\AllBare s'.gens) s₁:=by
 have rv:=mJ hi
 have lenV:=hi.length
 have core:∀ H:Hp,HE H->fk K H a (ns.map V.int)->iX P w H s₁.heap->(∀ b,H b≠none->b=a)->(H a≠none->K.lookup a=none) ->
  codeAny (model P w) callerA (.call (.ref fa) ⟨[.ref a],[]⟩) (λr s'=>r=.ok (.ret (.bool true))/\OldK s₁.heap s'.heap/\s'.os=s₁.os/\AllBare s'.gens) s₁:=by
  intro H hO hS hok hA hK
  have base_of:∀ {b:Addr} {o:Obj},s₁.heap.get? b=some o->H b=none->(nK s₁.heap H).get? b=some o:=λe n=>yQ e n
  have noA:∀ {b:Addr} {o:Obj} {es:Array DictEntry} {ep:Nat},s₁.heap.get? b=some o->o.data=.dict es ep->H b=none:=λ{b o es ep} e d=>by
   cases q:H b with
   | none=>rfl
   | some u =>
    have e':b=a:=hA b (by rw [q]; simp)
    subst e'
    rw [ha] at e; cases e
    have d':Data.seq vs.toArray _=Data.dict es ep:=d
    cases d'
  have nsK:∀ {b:Addr} {m:Str->Option Value},s₁.heap.Ns b m->(nK s₁.heap H).Ns b m:=λ{b m} ⟨o,es,ep,e,d,r⟩=>⟨o,es,ep,base_of e (noA e d),d,r⟩
  have hKb:K.In (nK s₁.heap H):=λb o e=>base_of (KX b o e) (by
   cases q:H b with
   | none=>rfl
   | some u =>
    have e':b=a:=hA b (by rw [q]; simp)
    subst e'
    rw [hK (by rw [q]; simp)] at e; cases e)
  have hM:Mod K mg (nK s₁.heap H):=⟨hKb,nsK hns,⟨mb,nsK hb,hbb⟩,let ⟨mc,h1,h2⟩:=hlim; ⟨mc,nsK h1,h2⟩⟩
  have e0:Dn P w K mg (nK s₁.heap H) callerA [] s₁ H:=⟨rfl,hM,λb o e=>Df e,Nat.le_of_eq (wK _ _),trivial,λb hb=>absurd (show b∈([]:List Addr) from hb) (by simp),hok,.of_eq hg⟩
  refine SD ((F _ hKb (nsK hns)).run callerA [] s₁ H ⟨[.ref a],[]⟩ [.ref a] [.ref a] _ _ hr e0 (hbind s₁ (.ref a)) (.cons rfl .nil) (pU H hO hS)) λr s' h=>?_
  cases r with
  | error e=>exact (hCX H e s' h).elim
  | ok fl =>
   cases fl with
   | next=>exact Qs h
   | brk=>exact Qs h
   | cont=>exact Qs h
   | ret u =>
    obtain ⟨v,H',os,bare,un,hok',r',q⟩:=h
    have q':v=.bl true:=q
    subst q'
    obtain rfl:u=RJ true:=r'
    refine ⟨rfl,OldK.of_keep λb o e=>?_,os,bare⟩
    cases q:H b with
    | none=>exact un.keep b o e q (by intro z; exact absurd (show b∈([]:List Addr) from z) (by simp)) (by simp)
    | some u =>
     rcases hO b with z | ⟨ob,xs,z⟩
     ·rw [q] at z; cases z
     ·have z2:=un.frzs b ob _ z
      obtain ⟨e1,_⟩:=hok b _ z
      obtain ⟨e2,_⟩:=hok' b _ z2
      rw [e] at e1; cases e1
      exact e2
 cases hk:K.lookup a with
 | some o =>
  have e:=KX a o hk
  rw [ha] at e
  cases e
  refine core (λ_=>none) (λ_=>.inl rfl) (.inr ⟨_,vs.toArray,_,hk,rfl,rfl,rfl,by rw [PF,lenV]; exact hl,by simpa using rv⟩) (λb u z=>by have z':(none:Option HO)=some u:=z; cases z') (λb z=>absurd rfl z) λz=>absurd rfl z
 | none =>
  refine core (λb=>if b=a then some (.frz { cls:=.type "list",data:=.seq vs.toArray } (.lst (ns.map V.int))) else none) (λb=>?_) (.inl (.inr ⟨{ cls:=.type "list",data:=.seq vs.toArray },if_pos rfl⟩)) (λb u z=>?_) (λb z=>?_) λ_=>hk
  ·by_cases hb:b=a
   ·exact .inr ⟨_,_,if_pos hb⟩
   ·exact .inl (if_neg hb)
  ·by_cases hb:b=a
   ·have z':=(if_pos hb).symm.trans z
    cases z'
    subst hb
    exact ⟨ha,by rw [Pe]; exact hl,vs,_,rv,ha⟩
   ·have z':=(if_neg hb).symm.trans z
    cases z'
  ·by_cases hb:b=a
   ·exact hb
   ·exact absurd (if_neg hb) z
noncomputable abbrev eG {K:O7} {h:Heap} (_:K.In h):O7:=K
theorem DF {l:PySem.W.OpenLaw} {K:Params->O7} {CX:World->Ho} {sp:World->Sp}
 (hn:l.most=some n) (hn2:n<=sizeLine) (hdf:d.params.defaults=[]) (hr:gx k callerA)
 (hY:∀ (w:World) (h:Heap),YP w h->(K w.params).In h)
 (F:∀ (w:World) (mg:Str->Option Value) (fa:Addr) (h:Heap),(K w.params).In h->h.Ns mainGlobals mg->mg d.name=some (.ref fa) ->
   ∃ fd:FuncData,(∀ (s:Shared) (u:Value),BindsTo s fd ⟨[u],[]⟩ [(x,u)]) /\
    ∀ base:Heap,(K w.params).In base->base.Ns mainGlobals mg->bq l.prog w (K w.params) mg base (CX w) k fa fd [x] (sp w))
 (pU:∀ (w:World) (H:Hp) (a:Addr) (ns:List Int),ns.length<=n->HE H->fk (K w.params) H a (ns.map V.int)->sp w [.ref a] H (λv _=>v=.bl true) λ_ _ _=>False)
 (hCX:∀ (w:World) (H:Hp) (s:Shared) (e:Value) (s':Shared),CX w [] H s (λ_ _ _=>False) e s'->False) :
 PySem.W.WalkO q loose XP YP l.row.toRowW d [] (λf vs=>PySem.call f vs):=by
 refine Att.qi hn hdf λw s₀ s₁ mg mb fa o pm cd doc a vs ns G Y ho hd hcd hmg hobj hints hlen hg=>?_
 have KX:=hY w _ Y
 obtain ⟨fd,hb,hF⟩:=F w mg fa _ KX G.T.g hmg
 exact zC KX G.T.g G.T.b G.T.builtins G.T.nolimit hg hobj hints (Pw hlen hn2) hr hF hb (λH hO hS=>pU w H a ns hlen hO hS) λH e s'=>hCX w H s₁ e s'
end L2
namespace L2
open PySem PySem.Spec PyProof.Rows
noncomputable def d9 (s:Stmt):Arguments:=match s with
 | .FunctionDef _ a _ _ _ _ _ _ _ _=>a
 | _=>{ posonlyargs:=[],args:=[],vararg:=none,kwonlyargs:=[],kw_defaults:=[],kwarg:=none,defaults:=[] }
noncomputable def aq (s:Stmt):List Stmt:=match s with
 | .FunctionDef _ _ b _ _ _ _ _ _ _=>b
 | _=>[]
noncomputable def aO (s:Stmt):Scope:=match s with
 | .FunctionDef _ _ _ _ _ _ sc _ _ _=>sc
 | _=>{ kind:=.function,names:=[],isGenerator:=false,isCoroutine:=false }
structure dI (K:O7) (x qual:Str) (st:Stmt) (f:Addr) (fd:FuncData):Prop where
 ex:∃ (oc:Value) (od:Option Addr) (kV doc pm:Value) (an:Option Addr) (cdv ct:Value) (osl:Array (Option Value)),
  fd=Ri x qual (d9 st) (aq st) (aO st) .none kV doc pm an cdv ct/\K.lookup f=some ⟨oc,od,.func fd,osl⟩/\Ux K cdv qual=true
 kp:Q7 K (.ref f)=true
section
variable {K:O7}
theorem dI.binds {st:Stmt} (F:dI K x qual st f fd)
 (h:∀ (kV doc pm:Value) (an:Option Addr) (cdv ct:Value) (us:List Value),us.length=ps.length->bindArgs (Ri x qual (d9 st) (aq st) (aO st) .none kV doc pm an cdv ct) ⟨us,[]⟩=pure (ps.zip us)):Binds K fd ps []:=by
 obtain ⟨oc,od,kV,doc,pm,an,cdv,ct,osl,rfl,lk,hcd⟩:=F.ex
 exact .all (h kV doc pm an cdv ct)
theorem HF {st:Stmt} {kV doc pm cdv ct:Value} (l:K.lookup f=some ⟨oc,od,.func (Ri x qual (d9 st) (aq st) (aO st) .none kV doc pm an cdv ct),osl⟩)
 (c:Ux K cdv qual=true) (k:Q7 K (.ref f)=true):dI K x qual st f (Ri x qual (d9 st) (aq st) (aO st) .none kV doc pm an cdv ct):=⟨⟨oc,od,kV,doc,pm,an,cdv,ct,osl,rfl,l,c⟩,k⟩
end
theorem Lh (hr:gx k A):A.units+1<cLine:=Ro (Nat.add_le_add_left (by decide:1<=64) _) hr.units
theorem wW (h:n<=1000):n<sizeLine:=Ro h (by decide)
def aM (H H':Hp):Prop:=∀ b o,H b=some o->H' b=some o
theorem aM.refl (H):aM H H:=λ_ _ h=>h
theorem aM.trans (a:aM H H1) (b:aM H1 H2):aM H H2:=λc o h=>b c o (a c o h)
theorem aM.free (e:aM H H') (h:H' l=Option.none):H l=Option.none:=by
 cases q:H l with
 | none=>rfl
 | some o =>
  rw [e l o q] at h
  cases h
theorem aM.seq {K:O7} (e:aM H H') (h:fk K H a xs):fk K H' a xs:=by
 rcases h with (h | ⟨o,h⟩) | h
 ·exact .inl (.inl (e _ _ h))
 ·exact .inl (.inr ⟨o,e _ _ h⟩)
 ·exact .inr h
section
variable {κ:Type} [DecidableEq κ]
end
end L2
namespace EV
open PySem PySem.Spec PyProof.Rows L2
inductive D where
 | non | bl (b:Bool) | int (i:Int) | str (x:Str) | tup (ds:List D) | lst (ds:List D) | exc (C:Addr)
 | fdK (ks:List Key) (ds:List D) | fdT (ks:List (List Key)) (ds:List D) | adr (a:Addr)
noncomputable def sN (a C:Addr):Heap->Prop:=λh=>∃ o,h.get? a=some o/\o.cls=.ref C/\∃ vs,o.data=.fields vs
mutual
def Rep (K:O7) (H:Hp):D->V->Prop
 | .non,v=>v=.non
 | .bl b,v=>v=.bl b
 | .int i,v=>v=.int i
 | .str x,v=>v=.str x
 | .tup ds,v=>∃ a xs,v=.ref a/\dh K H a xs/\ak K H ds xs
 | .lst ds,v=>∃ a xs,v=.ref a/\fk K H a xs/\ak K H ds xs
 | .exc C,v=>∃ a,v=.ref a/\H a=some (.ext (sN a C))
 | .fdK ks ds,v=>∃ a ys o,v=.ref a/\H a=some (.frz o (.dK ys))/\ys.map (·.1)=ks/\ak K H ds (ys.map (·.2))
 | .fdT ks ds,v=>∃ a ys o,v=.ref a/\H a=some (.frz o (.dT ys))/\ys.map (·.1)=ks/\(∀ y∈ys,dh K H y.2.1 (y.1.map kV))/\ak K H ds (ys.map (·.2.2))
 | .adr a,v=>v=.ref a
def ak (K:O7) (H:Hp):List D->List V->Prop
 | [],xs=>xs=[]
 | d::ds,xs=>∃ x r,xs=x::r/\Rep K H d x/\ak K H ds r
end
theorem az {K:O7} (e:aM H H') (h:dh K H a xs):dh K H' a xs:=by
 rcases h with (h | ⟨o,h⟩) | h
 ·exact .inl (.inl (e _ _ h))
 ·exact .inl (.inr ⟨o,e _ _ h⟩)
 ·exact .inr h
mutual
theorem Rep.mono {K:O7} {H H':Hp} (e:aM H H'):∀ (d:D) {v:V},Rep K H d v->Rep K H' d v
 | .non,_,h=>by simpa [Rep] using h
 | .bl b,_,h=>by simpa [Rep] using h
 | .int i,_,h=>by simpa [Rep] using h
 | .str x,_,h=>by simpa [Rep] using h
 | .tup ds,_,h=>by
  simp only [Rep] at h |-
  obtain ⟨a,xs,e1,h1,h2⟩:=h
  exact ⟨a,xs,e1,az e h1,ak.mono e ds h2⟩
 | .lst ds,_,h=>by
  simp only [Rep] at h |-
  obtain ⟨a,xs,e1,h1,h2⟩:=h
  exact ⟨a,xs,e1,e.seq h1,ak.mono e ds h2⟩
 | .exc C,_,h=>by
  simp only [Rep] at h |-
  obtain ⟨a,e1,h1⟩:=h
  exact ⟨a,e1,e _ _ h1⟩
 | .fdK ks ds,_,h=>by
  simp only [Rep] at h |-
  obtain ⟨a,ys,o,e1,h1,h2,h3⟩:=h
  exact ⟨a,ys,o,e1,e _ _ h1,h2,ak.mono e ds h3⟩
 | .fdT ks ds,_,h=>by
  simp only [Rep] at h |-
  obtain ⟨a,ys,o,e1,h1,h2,h3,h4⟩:=h
  exact ⟨a,ys,o,e1,e _ _ h1,h2,λy hy=>az e (h3 y hy),ak.mono e ds h4⟩
 | .adr a,_,h=>by simpa [Rep] using h
theorem ak.mono {K:O7} {H H':Hp} (e:aM H H'):∀ (ds:List D) {xs:List V},ak K H ds xs->ak K H' ds xs
 | [],_,h=>by simpa [ak] using h
 | d::ds,_,h=>by
  simp only [ak] at h |-
  obtain ⟨x,r,e1,h1,h2⟩:=h
  exact ⟨x,r,e1,Rep.mono e d h1,ak.mono e ds h2⟩
end
section
variable {K:O7}
theorem aA:Rep K H (.int i) v↔v=.int i:=by simp only [Rep]
theorem cZ:Rep K H (.bl i) v↔v=.bl i:=by simp only [Rep]
theorem bN:Rep K H .non v↔v=.non:=by simp only [Rep]
theorem fm:Rep K H (.str i) v↔v=.str i:=by simp only [Rep]
theorem aG:Rep K H (.tup ds) v↔∃ a xs,v=.ref a/\dh K H a xs/\ak K H ds xs:=by simp only [Rep]
theorem aU:Rep K H (.lst ds) v↔∃ a xs,v=.ref a/\fk K H a xs/\ak K H ds xs:=by simp only [Rep]
theorem gY:Rep K H (.fdK ks ds) v↔∃ a ys o,v=.ref a/\H a=some (.frz o (.dK ys))/\ys.map (·.1)=ks/\ak K H ds (ys.map (·.2)):=by simp only [Rep]
theorem nV:Rep K H (.fdT ks ds) v↔∃ a ys o,v=.ref a/\H a=some (.frz o (.dT ys))/\ys.map (·.1)=ks/\(∀ y∈ys,dh K H y.2.1 (y.1.map kV))/\ak K H ds (ys.map (·.2.2)):=by simp only [Rep]
theorem dU:Rep K H (.adr a) v↔v=.ref a:=by simp only [Rep]
theorem DG:Rep K H (.exc C) v↔∃ a,v=.ref a/\H a=some (.ext (sN a C)):=by simp only [Rep]
theorem aB:ak K H [] xs↔xs=[]:=by simp only [ak]
theorem aF:ak K H (d::ds) xs↔∃ x r,xs=x::r/\Rep K H d x/\ak K H ds r:=by simp only [ak]
theorem ak.length:∀ {ds:List D} {xs:List V},ak K H ds xs->ds.length=xs.length
 | [],_,h=>by rw [aB] at h; subst h; rfl
 | d::ds,_,h=>by
  rw [aF] at h
  obtain ⟨x,r,rfl,_,h2⟩:=h
  simp [ak.length h2]
theorem ak.get:∀ {ds:List D} {xs:List V} {i:Nat} {d:D},ak K H ds xs->ds[i]?=some d->∃ x,xs[i]?=some x/\Rep K H d x
 | [],_,_,_,_,e=>by simp at e
 | d::ds,_,i,d',h,e=>by
  rw [aF] at h
  obtain ⟨x,r,rfl,h1,h2⟩:=h
  cases i with
  | zero=>simp at e; subst e; exact ⟨x,by simp,h1⟩
  | succ i =>
   obtain ⟨y,e2,h3⟩:=ak.get (i:=i) (d:=d') h2 (by simpa using e)
   exact ⟨y,by simpa using e2,h3⟩
theorem ak.get':∀ {ds:List D} {xs:List V} {i:Nat} {x:V},ak K H ds xs->xs[i]?=some x->∃ d,ds[i]?=some d/\Rep K H d x:=λ{ds xs i x} h e=>by
 have hl:=h.length
 have hi:i<xs.length:=(Ph.mp e).1
 obtain ⟨y,e2,h2⟩:=h.get (i:=i) (d:=ds[i]'(by lia)) (by simp)
 rw [e] at e2; cases e2
 exact ⟨_,by simp,h2⟩
theorem ak.append:∀ {ds es:List D} {xs ys:List V},ak K H ds xs->ak K H es ys->ak K H (ds++es) (xs++ys)
 | [],_,_,_,h,g=>by rw [aB] at h; subst h; exact g
 | d::ds,_,_,_,h,g=>by
  rw [aF] at h
  obtain ⟨x,r,rfl,h1,h2⟩:=h
  exact aF.mpr ⟨x,r++_,rfl,h1,ak.append h2 g⟩
theorem ak.drop:∀ (n:Nat) {ds:List D} {xs:List V},ak K H ds xs->ak K H (ds.drop n) (xs.drop n)
 | 0,_,_,h=>h
 | n+1,[],_,h=>by rw [aB] at h; subst h; exact aB.mpr rfl
 | n+1,d::ds,_,h=>by
  rw [aF] at h
  obtain ⟨x,r,rfl,h1,h2⟩:=h
  exact ak.drop n h2
theorem ak.take:∀ (n:Nat) {ds:List D} {xs:List V},ak K H ds xs->ak K H (ds.take n) (xs.take n)
 | 0,_,_,h=>aB.mpr rfl
 | n+1,[],_,h=>by rw [aB] at h; subst h; exact aB.mpr rfl
 | n+1,d::ds,_,h=>by
  rw [aF] at h
  obtain ⟨x,r,rfl,h1,h2⟩:=h
  exact aF.mpr ⟨x,r.take n,rfl,h1,ak.take n h2⟩
theorem ak.dropLast (h:ak K H ds xs):ak K H ds.dropLast xs.dropLast:=by
 rw [U3,U3,h.length]; exact h.take _
theorem ak.one (h:Rep K H d v):ak K H [d] [v]:=aF.mpr ⟨v,[],rfl,h,aB.mpr rfl⟩
theorem ak.cons (h:Rep K H d v) (t:ak K H ds xs):ak K H (d::ds) (v::xs):=aF.mpr ⟨v,xs,rfl,h,t⟩
theorem mK:∀ (ns:List Int),ak K H (ns.map D.int) (ns.map V.int)
 | []=>aB.mpr rfl
 | n::ns=>.cons (aA.mpr rfl) (mK ns)
end
inductive Sh where
 | v (d:D) | l (ds:List D) | la (a:Addr) (ds:List D) | t (ss:List Sh) | ls (ss:List Sh)
noncomputable def pl (p:Addr) (xs:List V):HO:=.ext λh=>xs.length<=sizeLine/\∃ (its:List Value) (n:Nat),Vals xs its/\h.get? p=some { cls:=.type "list",data:=.seq its.toArray n }
mutual
def aP (K:O7) (H Hf:Hp):Sh->V->List (Addr×List V)->Prop
 | .v d,v,fp=>Rep K Hf d v/\fp=[]
 | .l ds,v,fp=>∃ p xs,v=.ref p/\H p=some (pl p xs)/\Hf p=none/\ak K Hf ds xs/\fp=[(p,xs)]
 | .la p ds,v,fp=>∃ xs,v=.ref p/\H p=some (pl p xs)/\Hf p=none/\ak K Hf ds xs/\fp=[(p,xs)]
 | .t ss,v,fp=>∃ a xs,v=.ref a/\dh K Hf a xs/\ai K H Hf ss xs fp
 | .ls ss,v,fp=>∃ p xs fq,v=.ref p/\H p=some (pl p xs)/\Hf p=none/\ai K H Hf ss xs fq/\fp=(p,xs)::fq
def ai (K:O7) (H Hf:Hp):List Sh->List V->List (Addr×List V)->Prop
 | [],xs,fp=>xs=[]/\fp=[]
 | s::ss,xs,fp=>∃ x r f1 f2,xs=x::r/\aP K H Hf s x f1/\ai K H Hf ss r f2/\fp=f1++f2
end
def zD (H:Hp) (q:Addr):Prop:=∃ xs,H q=some (pl q xs)
mutual
theorem aP.mv {K:O7} {H Hf H' aj:Hp} (sf:aM Hf aj):∀ (s:Sh) {v:V} {fp:List (Addr×List V)},(∀ q∈fp,H q.1=some (pl q.1 q.2)->Hf q.1=none->H' q.1=some (pl q.1 q.2)/\aj q.1=none)->aP K H Hf s v fp->aP K H' aj s v fp
 | .v d,_,_,_,h=>by simp only [aP] at h |-; exact ⟨h.1.mono sf d,h.2⟩
 | .l ds,_,_,hk,h=>by
  simp only [aP] at h |-
  obtain ⟨p,xs,e,h1,h2,h3,rfl⟩:=h
  obtain ⟨q1,q2⟩:=hk _ Po h1 h2
  exact ⟨p,xs,e,q1,q2,h3.mono sf ds,rfl⟩
 | .la p ds,_,_,hk,h=>by
  simp only [aP] at h |-
  obtain ⟨xs,e,h1,h2,h3,rfl⟩:=h
  obtain ⟨q1,q2⟩:=hk _ Po h1 h2
  exact ⟨xs,e,q1,q2,h3.mono sf ds,rfl⟩
 | .t ss,_,_,hk,h=>by
  simp only [aP] at h |-
  obtain ⟨a,xs,e,h1,h2⟩:=h
  exact ⟨a,xs,e,az sf h1,ai.mv sf ss hk h2⟩
 | .ls ss,_,_,hk,h=>by
  simp only [aP] at h |-
  obtain ⟨p,xs,fq,e,h1,h2,h3,rfl⟩:=h
  obtain ⟨q1,q2⟩:=hk _ Po h1 h2
  exact ⟨p,xs,fq,e,q1,q2,ai.mv sf ss (λq hq=>hk q (Pj _ hq)) h3,rfl⟩
theorem ai.mv {K:O7} {H Hf H' aj:Hp} (sf:aM Hf aj):∀ (ss:List Sh) {xs:List V} {fp:List (Addr×List V)},(∀ q∈fp,H q.1=some (pl q.1 q.2)->Hf q.1=none->H' q.1=some (pl q.1 q.2)/\aj q.1=none)->ai K H Hf ss xs fp->ai K H' aj ss xs fp
 | [],_,_,_,h=>by simpa only [ai] using h
 | s::ss,_,_,hk,h=>by
  simp only [ai] at h |-
  obtain ⟨x,r,f1,f2,e,h1,h2,rfl⟩:=h
  exact ⟨x,r,f1,f2,e,aP.mv sf s (λq hq=>hk q (QM _ hq)) h1,ai.mv sf ss (λq hq=>hk q (P9 _ hq)) h2,rfl⟩
end
inductive Sl where
 | un
 | va (d:D)
 | ow (ds:List D)
 | oT (kvs:List (List Key×D))
 | oK (kvs:List (Key×D))
 | aw (a:Addr) (ds:List D)
 | aT (a:Addr) (kvs:List (List Key×D))
 | aK (a:Addr) (kvs:List (Key×D))
 | fo (s:Sh)
noncomputable def lN (K:O7) (H:Hp) {κ:Type}:List (κ×D)->List (κ×V)->Prop:=Paired λa b=>a.1=b.1/\Rep K H a.2 b.2
theorem lN.mono {K:O7} (e:aM H H') (h:lN K H ks xs):lN K H' ks xs :=
 Paired.GR h λa b z=>⟨z.1,Rep.mono e _ z.2⟩
noncomputable def lO (K:O7) (H:Hp):List (List Key×D)->List (List Key×Addr×V)->Prop:=Paired λa b=>a.1=b.1/\dh K H b.2.1 (a.1.map kV)/\Rep K H a.2 b.2.2
theorem lO.mono {K:O7} (e:aM H H') (h:lO K H ks xs):lO K H' ks xs :=
 Paired.GR h λa b z=>⟨z.1,az e z.2.1,Rep.mono e _ z.2.2⟩
noncomputable def aY (K:O7) (fr:Addr->Prop) (H Hf:Hp):Sl->V->Prop
 | .un,_=>False
 | .va d,v=>Rep K Hf d v
 | .ow ds,v=>∃ p xs,v=.ref p/\fr p/\H p=some (.lst xs)/\Hf p=none/\ak K Hf ds xs
 | .oT kvs,v=>∃ p xs,v=.ref p/\fr p/\H p=some (.dT xs)/\Hf p=none/\lO K Hf kvs xs
 | .oK kvs,v=>∃ p xs,v=.ref p/\fr p/\H p=some (.dK xs)/\Hf p=none/\lN K Hf kvs xs
 | .aw a ds,v=>∃ p xs,v=.ref p/\(fr p/\p=a)/\H p=some (.lst xs)/\Hf p=none/\ak K Hf ds xs
 | .aT a kvs,v=>∃ p xs,v=.ref p/\(fr p/\p=a)/\H p=some (.dT xs)/\Hf p=none/\lO K Hf kvs xs
 | .aK a kvs,v=>∃ p xs,v=.ref p/\(fr p/\p=a)/\H p=some (.dK xs)/\Hf p=none/\lN K Hf kvs xs
 | .fo s,v=>∃ fp,aP K H Hf s v fp/\(fp.map (·.1)).Nodup/\∀ a∈fp,fr a.1
noncomputable def Sl.owned:Sl->Bool
 | .ow _=>true | .oT _=>true | .oK _=>true | .aw _ _=>true | .aT _ _=>true | .aK _ _=>true | _=>false
structure br (H Hf H' aj:Hp):Prop where
 s:aM H H'
 f:aM Hf aj
 b:aM aj H'
 n:∀ b,Hf b=none->H b≠none->(∀ xs,H b≠some (.tup xs))->aj b=none
theorem br.refl (b:aM Hf H):br H Hf H Hf:=⟨.refl _,.refl _,b,λ_ h _ _=>h⟩
theorem br.trans (a:br H Hf H1 aR) (b:br H1 aR H2 cL):br H Hf H2 cL :=
 ⟨a.s.trans b.s,a.f.trans b.f,b.b,λc h1 h2 h3=>by
   cases q:H c with
   | none=>exact absurd q h2
   | some o =>
    have e:=a.s c o q
    exact b.n c (a.n c h1 h2 h3) (by rw [e]; simp) (by intro xs; rw [e,<- q]; exact h3 xs)⟩
theorem br.new (b:aM Hf H) (hp:H p=none):br H Hf (upd H p o) (upd Hf p o):=by
 have hf:Hf p=none:=b.free hp
 refine ⟨λc u h=>?_,λc u h=>?_,λc u h=>?_,λc h1 h2 _=>?_⟩
 ·rw [ah (aE h hp)]; exact h
 ·rw [ah (aE h hf)]; exact h
 ·by_cases e:c=p
  ·subst e; rw [af] at h |-; exact h
  ·rw [ah e] at h |-; exact b c u h
 ·by_cases e:c=p
  ·subst e; exact absurd hp h2
  ·rw [ah e]; exact h1
theorem br.eU (b:aM Hf H) (hp:H p=none):br H Hf (upd H p o) Hf :=
 ⟨(br.new b hp (o:=o)).s,.refl _,λc u h=>(br.new b hp (o:=o)).s c u (b c u h),λ_ h _ _=>h⟩
inductive At {α:Type}:List α->Nat->α->Prop where
 | z {x:α} {l:List α}:At (x::l) 0 x
 | s {x y:α} {l:List α} {i:Nat}:At l i x->At (y::l) (i+1) x
theorem At.get (h:At l i x):l[i]?=some x:=by
 induction h with
 | z=>rfl
 | s _ ih=>simpa using ih
theorem At.mem (h:At l i x):x∈l:=QI h.get
inductive SSet {α:Type}:List α->Nat->α->List α->Prop where
 | z {x r:α} {l:List α}:SSet (x::l) 0 r (r::l)
 | s {r y:α} {l l':List α} {i:Nat}:SSet l i r l'->SSet (y::l) (i+1) r (y::l')
theorem SSet.eq (h:SSet l i r l'):l'=l.set i r:=by
 induction h with
 | z=>rfl
 | s _ ih=>simp [ih]
structure cH (K:O7) (H₀ c9:Hp) (σ:L2.St) (H Hf:Hp) (ρ:List Sl):Prop where
 bas:br H₀ c9 H Hf
 len:σ.length=ρ.length
 at_:∀ (i:Nat) (r:Sl),ρ[i]?=some r->r≠.un->∃ v,σ[i]?=some (some v)/\aY K (λp=>H₀ p=none) H Hf r v
 sep:∀ (i j:Nat) (r r':Sl) (p:Addr),i≠j->ρ[i]?=some r->ρ[j]?=some r'->r.owned=true->r'.owned=true->σ[i]?=some (some (.ref p))->σ[j]?≠some (some (.ref p))
structure Li (P:Program) (w:World) (outer:List Env) (H:Hp) (s:Shared) (a C:Addr) (H':Hp) (s':Shared):Prop where
 os:s'.os=s.os
 bare:AllBare s'.gens
 un:Un (frs outer) [] H H' s.heap s'.heap
 hok:iX P w H' s'.heap
 new:s.heap.get? a=none
 free:H' a=none
 fly:∃ (t:Addr) (B:Heap),Heap.FlyingW B outer a (.ref C) (.ref t) s'.heap/\(∀ b o,s.heap.get? b=some o->b∉frs outer->∃ o',s'.heap.get? b=some o'/\B.get? b=some o') /\
  ∀ b o,H' b≠none->s'.heap.get? b=some o->B.get? b=some o
noncomputable def cK (P:Program) (w:World):Ho:=λouter H s E e s'=>∃ a C H',e=.ref a/\Li P w outer H s a C H' s'/\E (.ref C) (some a) H'
set_option genInjectivity false in
structure Ctx (P:Program) (w:World) (K:O7) (mg:Str->Option Value) (base:Heap) (k:Nat) (N:List Str) (sc:Scope) (bk:Bool) where
 X:Cx
 eP:X.prog=P
 ew:X.w=w
 eK:X.K=K
 emg:X.mg=mg
 eb:X.base=base
 eN:X.N=N
 esc:X.env.scope=sc
 calm:X.calm=true
 top:bk=false->X.stack=X.env::X.outer/\X.env.frame=some X.env.locals/\X.ex=[]
 cb:bk=false->∀ (aa:List (Addr×Obj)) (σ:L2.St) (H:Hp) (s:Shared),Inv X aa σ H s->∀ (x:Str) (c:Addr),X.env.cells.lookup x=some c->X.s₀.heap.objs.size<=c
 fn:∀ x,bk=false\/sc.names.lookup x=some .local->X.fn x=true\/X.env.scope.names.lookup x=some .local
 room:gx k X.A
 nd:N.Nodup
 vis:∀ x∈N,Loc sc x
 Hf:Hp
 B:Hp
 RX:Addr->List Sl->Prop
 exc:∀ (C a:Addr) (aa:List (Addr×Obj)) (σ:L2.St) (H aj:Hp) (ρ:List Sl) (s:Shared) (H':Hp) (s':Shared),Inv X aa σ H s->cH X.K B Hf σ H aj ρ->RX C ρ->Li X.prog X.w X.stack H s a C H' s'->aM H H'->X.xe (.ref a) s'
 RM:Addr->List Sl->Prop
 mde:∀ (C a:Addr) (aa:List (Addr×Obj)) (σ:L2.St) (H aj:Hp) (ρ:List Sl) (s:Shared) (h':Heap) (us:List Value),Inv X aa σ H s->cH X.K B Hf σ H aj ρ->RM C ρ->Heap.MadeExcOf s.heap h' a (.ref C) us->X.xe (.ref a) { s with heap:=h' }
noncomputable def Sl.F4:Sl->Bool | .fo _=>true | _=>false
abbrev pP {α:Type} (fr:Addr->Prop) (H Hf:Hp) (o:α->HO) (R:α->Prop) (v:V):Prop:=∃ (p:Addr) (xs:α),v=.ref p/\fr p/\H p=some (o xs)/\Hf p=none/\R xs
theorem pP.Kv (h:pP fr H Hf o R v) (hk:∀ p,v=.ref p->∀ u,(∀ ys,u≠.tup ys)->H p=some u->Hf p=none->H' p=some u/\aj p=none) (ho:∀ xs ys,o xs≠.tup ys) (hR:∀ xs,R xs->R' xs):pP fr H' aj o R' v:=by
 obtain ⟨p,xs,e,f,h1,h2,h3⟩:=h
 exact ⟨p,xs,e,f,(hk p e _ (ho xs) h1 h2).1,(hk p e _ (ho xs) h1 h2).2,hR xs h3⟩
theorem pP.Kw (h:pP fr H Hf o R v) (hf:∀ p,fr p->fr' p):pP fr' H Hf o R v :=
 let ⟨p,xs,e,f,h⟩:=h; ⟨p,xs,e,hf p f,h⟩
theorem aY.mv {K:O7} {B:Addr->Prop} (sf:aM Hf aj) (hk:∀ q o,¬ B q->H q=some o->(∀ xs,o≠.tup xs)->Hf q=none->H' q=some o/\aj q=none):∀ {r:Sl} {v:V},
 (r.F4=true->∀ q,B q->¬ zD H q)->(r.owned=true->∀ q,v=.ref q->¬ B q)->aY K fr H Hf r v->aY K fr H' aj r v
 | .un,_,_,_,h=>h
 | .va d,_,_,_,h=>Rep.mono sf d h
 | .ow ds,_,_,hv,h=>pP.Kv h (λp e o z ho hf=>hk p o (hv rfl p e) ho z hf) (λ_ _ z=>by cases z) λ_ h=>h.mono sf
 | .oT kvs,_,_,hv,h=>pP.Kv h (λp e o z ho hf=>hk p o (hv rfl p e) ho z hf) (λ_ _ z=>by cases z) λ_ h=>h.mono sf
 | .oK kvs,_,_,hv,h=>pP.Kv h (λp e o z ho hf=>hk p o (hv rfl p e) ho z hf) (λ_ _ z=>by cases z) λ_ h=>h.mono sf
 | .aw a ds,_,_,hv,h=>pP.Kv h (λp e o z ho hf=>hk p o (hv rfl p e) ho z hf) (λ_ _ z=>by cases z) λ_ h=>h.mono sf
 | .aT a kvs,_,_,hv,h=>pP.Kv h (λp e o z ho hf=>hk p o (hv rfl p e) ho z hf) (λ_ _ z=>by cases z) λ_ h=>h.mono sf
 | .aK a kvs,_,_,hv,h=>pP.Kv h (λp e o z ho hf=>hk p o (hv rfl p e) ho z hf) (λ_ _ z=>by cases z) λ_ h=>h.mono sf
 | .fo s,_,hB,_,⟨fp,h1,h2,h3⟩=>⟨fp,aP.mv sf s (λq _ e1 e2=>hk q.1 _ (λb=>hB rfl q.1 b ⟨q.2,e1⟩) e1 (by intro ys z; cases z) e2) h1,h2,h3⟩
theorem aY.cD {K:O7} (g:br H Hf H' aj) (h:aY K fr H Hf r v):aY K fr H' aj r v :=
 aY.mv (B:=λ_=>False) g.f (λq o _ e1 e2 e3=>⟨g.s _ _ e1,g.n q e3 (by rw [e1]; simp) λxs z=>e2 xs (by rw [e1] at z; exact QS z)⟩) (λ_ _ z=>z.elim) (λ_ _ _ z=>z) h
theorem aY.weak {K:O7} (hf:∀ p,fr p->fr' p):∀ {r:Sl} {v:V},aY K fr H Hf r v->aY K fr' H Hf r v
 | .un,_,h=>h
 | .va d,_,h=>h
 | .ow ds,_,h=>pP.Kw h hf
 | .oT ds,_,h=>pP.Kw h hf
 | .oK ds,_,h=>pP.Kw h hf
 | .aw a ds,_,h=>pP.Kw h λp f=>⟨hf p f.1,f.2⟩
 | .aT a ds,_,h=>pP.Kw h λp f=>⟨hf p f.1,f.2⟩
 | .aK a ds,_,h=>pP.Kw h λp f=>⟨hf p f.1,f.2⟩
 | .fo s,_,⟨fp,h1,h2,h3⟩=>⟨fp,h1,h2,λa ha=>hf _ (h3 a ha)⟩
section
variable {K:O7}
def Ctx.fr (c:Ctx P w K mg base k N sc bk) (p:Addr):Prop:=c.B p=none
abbrev bB (c:Ctx P w K mg base k N sc bk) (σ:L2.St) (H Hf:Hp) (ρ:List Sl):Prop:=cH c.X.K c.B c.Hf σ H Hf ρ
theorem cH.cD (S:cH K H₀ c9 σ H Hf ρ) (g:br H Hf H' aj):cH K H₀ c9 σ H' aj ρ :=
 ⟨S.bas.trans g,S.len,λi r h hr=>let ⟨v,e,q⟩:=S.at_ i r h hr; ⟨v,e,q.cD g⟩,S.sep⟩
theorem cH.sb (S:cH K H₀ c9 σ H Hf ρ):aM Hf H:=S.bas.b
theorem cH.va (S:cH K H₀ c9 σ H Hf ρ) {i:Nat} (h:ρ[i]?=some (.va d)):∃ v,σ[i]?=some (some v)/\Rep K Hf d v:=S.at_ i _ h (by simp)
theorem cH.set (S:cH K H₀ c9 σ H Hf ρ) (g:br H Hf H1 aR) (hr:aY K (λp=>H p=none) H1 aR r v) :
 cH K H₀ c9 (σ.set i (some v)) H1 aR (ρ.set i r):=by
 have S1:=S.cD g
 have fr0:∀ p,H p=none->H₀ p=none:=λp h=>S.bas.s.free h
 have fresh:∀ p,r.owned=true->v=.ref p->H p=none:=λp ho e=>by
  subst e
  cases r with
  | un=>cases ho
  | va d=>cases ho
  | ow ds=>obtain ⟨p',xs,e,h,_⟩:=hr; cases e; exact h
  | oT ds=>obtain ⟨p',xs,e,h,_⟩:=hr; cases e; exact h
  | oK ds=>obtain ⟨p',xs,e,h,_⟩:=hr; cases e; exact h
  | aw a ds=>obtain ⟨p',xs,e,h,_⟩:=hr; cases e; exact h.1
  | aT a ds=>obtain ⟨p',xs,e,h,_⟩:=hr; cases e; exact h.1
  | aK a ds=>obtain ⟨p',xs,e,h,_⟩:=hr; cases e; exact h.1
  | fo s=>cases ho
 have old:∀ (j:Nat) (r':Sl) (p:Addr),ρ[j]?=some r'->r'.owned=true->σ[j]?=some (some (.ref p))->H p≠none:=λj r' p h ho hs=>by
  obtain ⟨v',e,q⟩:=S.at_ j r' h (by rintro rfl; cases ho)
  rw [hs] at e; cases e
  cases r' with
  | un=>cases ho
  | va d=>cases ho
  | ow ds=>obtain ⟨p',xs,e,_,h,_⟩:=q; cases e; rw [h]; simp
  | oT ds=>obtain ⟨p',xs,e,_,h,_⟩:=q; cases e; rw [h]; simp
  | oK ds=>obtain ⟨p',xs,e,_,h,_⟩:=q; cases e; rw [h]; simp
  | aw a ds=>obtain ⟨p',xs,e,_,h,_⟩:=q; cases e; rw [h]; simp
  | aT a ds=>obtain ⟨p',xs,e,_,h,_⟩:=q; cases e; rw [h]; simp
  | aK a ds=>obtain ⟨p',xs,e,_,h,_⟩:=q; cases e; rw [h]; simp
  | fo s=>cases ho
 refine ⟨S1.bas,by simp [S.len],λj r' hj hu=>?_,λj j' r1 r2 p hne h1 h2 o1 o2 e1 e2=>?_⟩
 ·by_cases q:j=i
  ·subst q
   have hi:j<ρ.length:=by
    have:=(Ph.mp hj).1
    simpa using this
   rw [Qm hi] at hj; cases hj
   exact ⟨v,Qm (by rw [S.len]; exact hi),hr.weak fr0⟩
  ·rw [Qe (Py q)] at hj |-
   exact S1.at_ j r' hj hu
 ·have hlt:∀ {j:Nat} {r:Sl},(ρ.set i r)[j]?=some r->j<ρ.length:=λ{j r} h=>by
   have:=(Ph.mp h).1
   simpa using this
  by_cases q1:j=i
  ·subst q1
   have hi:j<ρ.length:=by have:=(Ph.mp h1).1; simpa using this
   rw [Qm hi] at h1; cases h1
   rw [Qm (by rw [S.len]; exact hi)] at e1
   rw [Qe hne] at h2 e2
   exact old j' r2 p h2 o2 e2 (fresh p o1 (by simpa using e1))
  ·by_cases q2:j'=i
   ·subst q2
    have hi:j'<ρ.length:=by have:=(Ph.mp h2).1; simpa using this
    rw [Qm hi] at h2; cases h2
    rw [Qm (by rw [S.len]; exact hi)] at e2
    rw [Qe (Py hne)] at h1 e1
    exact old j r1 p h1 o1 e1 (fresh p o2 (by simpa using e2))
   ·rw [Qe (Py q1)] at h1 e1
    rw [Qe (Py q2)] at h2 e2
    exact S.sep j j' r1 r2 p hne h1 h2 o1 o2 e1 e2
theorem cH.weak (S:cH K H₀ c9 σ H Hf ρ) (hl:ρ'.length=ρ.length) (h:∀ (i:Nat) (r:Sl),ρ'[i]?=some r->r≠.un->ρ[i]?=some r):cH K H₀ c9 σ H Hf ρ' :=
 ⟨S.bas,by rw [S.len,hl],λi r e hu=>S.at_ i r (h i r e hu) hu,λi j r r' p hne h1 h2 o1 o2=>S.sep i j r r' p hne (h i r h1 (by rintro rfl; cases o1)) (h j r' h2 (by rintro rfl; cases o2)) o1 o2⟩
end
section
variable {P:Program} {w:World} {K:O7} {mg:Str->Option Value} {base:Heap} {k:Nat} {N:List Str} {sc:Scope} {bk:Bool}
noncomputable def bE (X:Cx) (e:Expr):TE:=λσ H Q=>∀ aa s,Inv X aa σ H s->wpAny (model X.prog X.w) X.A (eval e X.env) (EP X aa σ Q) X.xe s
theorem c6:PE X e (bE X e):=λaa s σ H Q I h=>h aa s I
theorem bK (h:PE X e t) (q:t σ H Q):bE X e σ H Q:=λaa s I=>h aa s σ H Q I q
noncomputable def bT (X:Cx) (e:Expr):TT:=λσ H Q=>∀ aa s,Inv X aa σ H s->wpAny (model X.prog X.w) X.A (isTrue e X.env (eval e X.env)) (TP X aa σ Q) X.xe s
theorem F5:PT X e (bT X e):=λaa s σ H Q I h=>h aa s I
theorem uG (h:PT X e t) (q:t σ H Q):bT X e σ H Q:=λaa s I=>h aa s σ H Q I q
noncomputable def bA (X:Cx) (es:List Expr):TA:=λσ H Q=>∀ pos aa s,Inv X aa σ H s->wpAny (model X.prog X.w) X.A (spliced (backTo pos (starEach es X.env))) (AP X aa σ Q) X.xe s
theorem CU:PA X es (bA X es):=λpos aa s σ H Q I h=>h pos aa s I
theorem mO (h:PA X es t) (q:t σ H Q):bA X es σ H Q:=λpos aa s I=>h pos aa s σ H Q I q
noncomputable def bS (X:Cx) (st:Stmt):TS:=λD σ H=>∀ aa s,Inv X aa σ H s->wpAny (model X.prog X.w) X.A (exec st X.env) (SP X aa D) X.xe s
theorem OX {st:Stmt}:PS X st (bS X st):=λaa s σ H D I h=>h aa s I
theorem dW {st:Stmt} (h:PS X st t) {D:Ends} (q:t D σ H):bS X st D σ H:=λaa s I=>h aa s σ H D I q
noncomputable def HG (X:Cx) (st:List Stmt):TS:=λD σ H=>∀ aa s,Inv X aa σ H s->wpAny (model X.prog X.w) X.A (execs st X.env) (SP X aa D) X.xe s
theorem nW {st:List Stmt}:pY X st (HG X st):=λaa s σ H D I h=>h aa s I
theorem sO {st:List Stmt} (h:pY X st t) {D:Ends} (q:t D σ H):HG X st D σ H:=λaa s I=>h aa s σ H D I q
noncomputable def bG (X:Cx) (tg:Expr):TG:=λv σ H Q=>∀ aa s u,Inv X aa σ H s->RelV v u->wpAny (model X.prog X.w) X.A (assign tg X.env u) (λ_ s'=>∃ σ' H',Inv X aa σ' H' s'/\Q σ' H') X.xe s
theorem OY:PG X tg (bG X tg):=λaa s σ H v u Q I r h=>h aa s u I r
theorem zE (h:PG X tg t) (q:t v σ H Q):bG X tg v σ H Q:=λaa s u I r=>h aa s σ H v u Q I r q
variable (c:Ctx P w K mg base k N sc bk)
def cV (e:Expr) (ρ:List Sl) (R:Sl->Prop):Prop :=
 ∀ (σ:L2.St) (H Hf:Hp) (Q:VK),bB c σ H Hf ρ->(∀ r v H' aj,R r->aY c.X.K (λp=>H p=none) H' aj r v->br H Hf H' aj->Q v H')->bE c.X e σ H Q
def aL (e:Expr) (ρ:List Sl) (R:D->Prop):Prop :=
 ∀ (σ:L2.St) (H Hf:Hp) (Q:VK),bB c σ H Hf ρ->(∀ d v H' aj,R d->Rep c.X.K aj d v->br H Hf H' aj->Q v H')->bE c.X e σ H Q
def i7 (e:Expr) (ρ:List Sl) (R:Bool->Prop):Prop :=
 ∀ (σ:L2.St) (H Hf:Hp) (Q:Bool->Hp->Prop),bB c σ H Hf ρ->(∀ b H' aj,R b->br H Hf H' aj->Q b H')->bT c.X e σ H Q
def qj (es:List Expr) (ρ:List Sl) (R:List D->Prop):Prop :=
 ∀ (σ:L2.St) (H Hf:Hp) (Q:List V->Hp->Prop),bB c σ H Hf ρ->(∀ ds vs H' aj,R ds->ak c.X.K aj ds vs->br H Hf H' aj->Q vs H')->bA c.X es σ H Q
structure Pt where
 rt:Sl->Prop
 bk:List Sl->Prop:=λ_=>False
 ct:List Sl->Prop:=λ_=>False
structure zF (nx:List Sl->Prop) (p:Pt) (D:Ends):Prop where
 nx:∀ σ H Hf ρ,bB c σ H Hf ρ->nx ρ->D.nx σ H
 rt:∀ r v H Hf,br c.B c.Hf H Hf->aY c.X.K c.fr H Hf r v->p.rt r->D.rt v H
 bk:∀ σ H Hf ρ,bB c σ H Hf ρ->p.bk ρ->D.bk σ H
 ct:∀ σ H Hf ρ,bB c σ H Hf ρ->p.ct ρ->D.ct σ H
def eV (st:Stmt) (ρ:List Sl) (nx:List Sl->Prop) (p:Pt):Prop :=
 ∀ (σ:L2.St) (H Hf:Hp) (D:Ends),bB c σ H Hf ρ->zF c nx p D->bS c.X st D σ H
def aH (st:List Stmt) (ρ:List Sl) (nx:List Sl->Prop) (p:Pt):Prop :=
 ∀ (σ:L2.St) (H Hf:Hp) (D:Ends),bB c σ H Hf ρ->zF c nx p D->HG c.X st D σ H
def ku (tg:Expr) (d:D) (ρ:List Sl) (R:List Sl->Prop):Prop :=
 ∀ (σ:L2.St) (H Hf:Hp) (v:V) (Q:L2.St->Hp->Prop),bB c σ H Hf ρ->Rep c.X.K Hf d v->(∀ σ' H' aj ρ',bB c σ' H' aj ρ'->br H Hf H' aj->R ρ'->Q σ' H')->bG c.X tg v σ H Q
variable {c}
noncomputable def Sl.fz:Sl->Option D
 | .va d=>some d
 | .ow ds=>some (.lst ds)
 | _=>none
def HH (R:D->Prop) (r:Sl):Prop:=∃ d,r.fz=some d/\R d
theorem HJ (e:r.fz=some d) (h:aY K (λp=>H p=none) H' aj r v) (g:br H Hf H' aj) :
 ∃ cL,Rep K cL d v/\br H Hf H' cL:=by
 cases r with
 | un=>cases e
 | va d'=>cases e; exact ⟨aj,h,g⟩
 | oT _=>cases e
 | oK _=>cases e
 | aw _ _=>cases e
 | aT _ _=>cases e
 | aK _ _=>cases e
 | fo _=>cases e
 | ow ds =>
  cases e
  obtain ⟨p,xs,rfl,hp,h1,h2,h3⟩:=h
  have sf:aM aj (upd aj p (.lst xs)):=λb o e=>by rw [ah (aE e h2)]; exact e
  have sb:aM (upd aj p (.lst xs)) H':=λb o e=>by
   by_cases q:b=p
   ·subst q; rw [af] at e; rw [h1]; exact e
   ·rw [ah q] at e; exact g.b b o e
  refine ⟨upd aj p (.lst xs),aU.mpr ⟨p,xs,rfl,.inl (.inl af),h3.mono sf⟩,g.s,g.f.trans sf,sb,λb q1 q2 q3=>?_⟩
  have e:=g.n b q1 q2 q3
  by_cases q:b=p
  ·subst q; exact absurd hp q2
  ·rw [ah q]; exact e
theorem e_x (h:cV c e ρ (HH R)):aL c e ρ R:=λσ H Hf Q S q =>
 h σ H Hf Q S λr v H' aj ⟨d,e1,rd⟩ rs g=>let ⟨cL,h1,g2⟩:=HJ e1 rs g; q d v H' cL rd h1 g2
theorem Lj (h:aL c e ρ λd=>R (.va d)):cV c e ρ R:=λσ H Hf Q S q =>
 h σ H Hf Q S λd v H' aj rd h1 g=>q (.va d) v H' aj rd h1 g
theorem aL.imp (h:aL c e ρ R) (hi:∀ d,R d->R' d):aL c e ρ R':=λσ H Hf Q S q=>h σ H Hf Q S λd v H' aj rd=>q d v H' aj (hi d rd)
theorem cV.imp (h:cV c e ρ R) (hi:∀ d,R d->R' d):cV c e ρ R':=λσ H Hf Q S q=>h σ H Hf Q S λd v H' aj rd=>q d v H' aj (hi d rd)
theorem i7.imp (h:i7 c e ρ R) (hi:∀ d,R d->R' d):i7 c e ρ R':=λσ H Hf Q S q=>h σ H Hf Q S λd H' aj rd=>q d H' aj (hi d rd)
theorem uH (hN:At N i x) (hs:At ρ i (.va d)) (hR:R d)
 (hd:(x == ("__debug__":Str))=false:=by decide) (hcd:(x == ("__classdict__":Str))=false:=by decide) :
 aL c (.Name x pos) ρ R:=λσ H Hf Q S q=>by
 obtain ⟨v,e,r⟩:=S.va hs.get
 exact bK (sC (X:=c.X) (i:=i) (by rw [c.eN]; exact hN.get) (by rw [c.esc]; rcases c.vis x hN.mem with h | h; exact .inl h; exact .inr (.inl h)) hd hcd) ⟨v,e,q d v H Hf hR r (.refl S.sb)⟩
theorem Lk (hR:R (.int i)):aL c (.Constant (.int i) j pos) ρ R:=λσ H Hf Q S q =>
 bK GU (q _ _ H Hf hR (aA.mpr rfl) (.refl S.sb))
theorem NW (hR:R (.bl i)):aL c (.Constant (.bool i) j pos) ρ R:=λσ H Hf Q S q =>
 bK yR (q _ _ H Hf hR (cZ.mpr rfl) (.refl S.sb))
theorem sP (hm:mg x=some (.int i t)) (hR:R (.int i)) (hg:sc.names.lookup x=some .globalImplicit:=by walk_at "u") (hd:(x == ("__debug__":Str))=false:=by decide) :
 aL c (.Name x pos) ρ R:=λσ H Hf Q S q =>
 bK (uv (X:=c.X) (v:=.int i) (u:=.int i t) (by unfold Gl P6; rw [c.esc]; exact hg) (by rw [c.emg]; exact hm) ⟨t,rfl⟩ hd) (q _ _ H Hf hR (aA.mpr rfl) (.refl S.sb))
def MY (K:O7) (r:R2) (p:D->D->(Sl->Prop)->Prop):Prop :=
 ∀ (x y:D) (v u:V) (H Hf:Hp) (Q:VK) (R:Sl->Prop),aM Hf H->Rep K Hf x v->Rep K Hf y u->p x y R ->
  (∀ z v' H' aj,R z->aY K (λp=>H p=none) H' aj z v'->br H Hf H' aj->Q v' H')->r v u H Q
theorem nX (ho:fL c.X (binaryOp op) r) (hd:MY c.X.K r p)
 (h:aL c a ρ λx=>aL c b ρ λy=>p x y R):cV c (.BinOp a op b pos) ρ R:=λσ H Hf Q S q =>
 bK (uw ho c6 c6) (h σ H Hf _ S λx v1 H1 aR h1 r1 g1=>h1 σ H1 aR _ (S.cD g1) λy v2 H2 cL h2 r2 g2 =>
  hd x y v1 v2 H2 cL Q R g2.b (Rep.mono g2.f x r1) r2 h2 λz v' H' aj hz rz g3 =>
   q z v' H' aj hz (rz.weak λp hp=>(g1.trans g2).s.free hp) ((g1.trans g2).trans g3))
theorem mP {f:Int->Int->Int}:MY K (rI C λi j=>.int (f i j)) λx y R=>∃ i j,x=.int i/\y=.int j/\C i j/\R (.va (.int (f i j))):=by
 rintro x y v u H Hf Q R s rx ry ⟨i,j,rfl,rfl,hC,hR⟩ q
 rw [aA] at rx ry
 exact ⟨i,j,rx,ry,hC,q (.va (.int (f i j))) _ H Hf hR (show Rep K Hf (.int (f i j)) _ from aA.mpr rfl) (.refl s)⟩
theorem zG {f:Int->Int->Int}:MY K (wO λi j=>.int (f i j)) λx y R=>∃ i j,x=.int i/\y=.int j/\R (.va (.int (f i j))):=by
 rintro x y v u H Hf Q R s rx ry ⟨i,j,rfl,rfl,hR⟩ q
 rw [aA] at rx ry
 exact ⟨i,j,rx,ry,q (.va (.int (f i j))) _ H Hf hR (show Rep K Hf (.int (f i j)) _ from aA.mpr rfl) (.refl s)⟩
theorem gZ (h:cV c e ρ λr=>∃ d,r=.va d/\R d):aL c e ρ R:=e_x (h.imp λr ⟨d,e,hr⟩=>⟨d,by subst e; rfl,hr⟩)
noncomputable def jx:D->D->Bool
 | .non,.non=>true | .non,.int _=>true | .int _,.non=>true | .non,.bl _=>true | .bl _,.non=>true | .non,.str _=>true | .str _,.non=>true
 | .int _,.int _=>true | .bl _,.bl _=>true | .str _,.str _=>true | .int _,.str _=>true | .str _,.int _=>true | .bl _,.str _=>true | .str _,.bl _=>true
 | _,_=>false
noncomputable instance:DecidableEq D:=λ_ _=>Classical.propDecidable _
inductive jT:Nat->D->D->Prop where
 | sc {n:Nat} {x y:D} (h:jx x y=true):jT n x y
 | tup {n:Nat} {ds es:List D} (h:∀ (i:Nat) (d e:D),ds[i]?=some d->es[i]?=some e->jT n d e):jT (n+1) (.tup ds) (.tup es)
 | lst {n:Nat} {ds es:List D} (h:∀ (i:Nat) (d e:D),ds[i]?=some d->es[i]?=some e->jT n d e):jT (n+1) (.lst ds) (.lst es)
 | ln {n:Nat} {ds:List D}:jT n (.lst ds) .non
 | nl {n:Nat} {ds:List D}:jT n .non (.lst ds)
 | tn {n:Nat} {ds:List D}:jT n (.tup ds) .non
 | nt {n:Nat} {ds:List D}:jT n .non (.tup ds)
def lX (ds es:List D):Prop:=∀ (i:Nat) (d e:D),ds[i]?=some d->es[i]?=some e->jT 40 d e
def Ll (x y:D):Prop:=jx x y=true\/∃ ds es,((x=.tup ds/\y=.tup es)\/(x=.lst ds/\y=.lst es))/\lX ds es
section
variable {a b:Expr} {pos:Pos} {ρ:List Sl} {R:D->Prop}
structure Sd (A B:Prop):Prop where
 s:A
 r:B
structure lP (A B:Prop) (x:Bool):Prop where
 t:x=true->A
 f:x=false->B
theorem Ln (h1:A):lP A B true:=⟨λ_=>h1,λh=>by cases h⟩
theorem Lo (h1:B):lP A B false:=⟨λh=>(by cases h),λ_=>h1⟩
theorem DH (h1:p->A) (h2:¬ p->B):lP A B (@decide p i):=⟨λh=>h1 (of_decide_eq_true h),λh=>h2 (of_decide_eq_false h)⟩
theorem DI (h:lP B A x):lP A B (!x):=⟨λe=>h.f (by simpa using e),λe=>h.t (by simpa using e)⟩
def CV (x y:D) (T:Bool->Prop):Prop:=Ll x y/\T (decide (x=y))
theorem DJ (h:T (decide (i=j))):CV (.int i) (.int j) T:=⟨.inl rfl,by
 have e:decide (D.int i=D.int j)=decide (i=j):=by simp
 rw [e]; exact h⟩
theorem DK (h:Sd (lX ds es) (T (decide (ds=es)))):CV (.tup ds) (.tup es) T:=⟨.inr ⟨ds,es,.inl ⟨rfl,rfl⟩,h.s⟩,by
 have e:decide (D.tup ds=D.tup es)=decide (ds=es):=by simp
 rw [e]; exact h.r⟩
theorem DL (h:Sd (lX ds es) (T (decide (ds=es)))):CV (.lst ds) (.lst es) T:=⟨.inr ⟨ds,es,.inr ⟨rfl,rfl⟩,h.s⟩,by
 have e:decide (D.lst ds=D.lst es)=decide (ds=es):=by simp
 rw [e]; exact h.r⟩
noncomputable def I2 (k:Int->Int->Prop):D->D->Prop:=λx y=>∃ i j,x=.int i/\y=.int j/\k i j
theorem i2 {k:Int->Int->Prop} (h:k i j):I2 k (.int i) (.int j):=⟨i,j,rfl,rfl,h⟩
noncomputable def I1 (k:Int->Prop):D->Prop:=λx=>∃ i,x=.int i/\k i
theorem i1 {k:Int->Prop} (h:k i):I1 k (.int i):=⟨i,rfl,h⟩
noncomputable def B1 (k:Bool->Prop):D->Prop:=λx=>∃ i,x=.bl i/\k i
theorem b1 {k:Bool->Prop} (h:k i):B1 k (.bl i):=⟨i,rfl,h⟩
theorem Lp (h:aL c a ρ λx=>aL c b ρ λy=>I2 (λi j=>R (.int (i - j))) x y):aL c (.BinOp a .Sub b pos) ρ R :=
 gZ (nX G8 zG (h.imp λx hx=>hx.imp λy ⟨i,j,e1,e2,r⟩=>⟨i,j,e1,e2,_,rfl,r⟩))
def MulOk (i j:Int):Prop:=IntMulOk i j
def zH (j:Int):Prop:=0<j/\j.natAbs.log2<9000
theorem DM:fL c.X (binaryOp .Mult) (rI MulOk λi j=>.int (i * j)):=Ks λ_ _ _ _ _ _ _ hc q=>mul_int q hc
theorem zI:fL c.X (binaryOp .FloorDiv) (rI (λ_ j=>zH j) λi j=>.int (i / j)):=Ks λi j _ _ _ _ _ hc q=>by
 have h1:(0:Int)<j:=hc.1
 exact floordiv_int (by lia) (by rw [Int.fdiv_eq_ediv_of_nonneg i (by lia)]; exact q) (.inl (PyProof.noPylong_of_log2 hc.2))
theorem Lq (h:aL c a ρ λx=>aL c b ρ λy=>I2 (λi j=>Sd (MulOk i j) (R (.int (i * j)))) x y):aL c (.BinOp a .Mult b pos) ρ R :=
 gZ (nX DM mP (h.imp λx hx=>hx.imp λy ⟨i,j,e1,e2,⟨hc,r⟩⟩=>⟨i,j,e1,e2,hc,_,rfl,r⟩))
theorem HK (h:aL c a ρ λx=>aL c b ρ λy=>I2 (λi j=>Sd (zH j) (R (.int (i / j)))) x y):aL c (.BinOp a .FloorDiv b pos) ρ R :=
 gZ (nX zI mP (h.imp λx hx=>hx.imp λy ⟨i,j,e1,e2,⟨hc,r⟩⟩=>⟨i,j,e1,e2,hc,_,rfl,r⟩))
theorem Lr (h:aL c a ρ λx=>aL c b ρ λy=>I2 (λi j=>Sd (0<j) (R (.int (i % j)))) x y):aL c (.BinOp a .Mod b pos) ρ R :=
 gZ (nX G9 mP (h.imp λx hx=>hx.imp λy ⟨i,j,e1,e2,⟨hc,r⟩⟩=>⟨i,j,e1,e2,hc,_,rfl,r⟩))
theorem Lu (h:aL c a ρ λx=>aL c b ρ λy=>I2 (λi j=>Sd (za i j) (R (.int (i ^ j.toNat)))) x y):aL c (.BinOp a .Pow b pos) ρ R :=
 gZ (nX Hg mP (h.imp λx hx=>hx.imp λy ⟨i,j,e1,e2,⟨hc,r⟩⟩=>⟨i,j,e1,e2,hc,_,rfl,r⟩))
theorem Lv (h:aL c a ρ (I1 λi=>R (.int (-i)))):aL c (.UnaryOp .USub a pos) ρ R:=λσ H Hf Q S q =>
 bK (K1 Hl c6) (h σ H Hf _ S λx v H' aj hx r g=>by
  obtain ⟨i,rfl,hR⟩:=hx
  rw [aA] at r
  exact ⟨i,r,q _ _ H' aj hR (aA.mpr rfl) g⟩)
def DN (K:O7) (r:R2) (p:D->D->(Bool->Prop)->Prop):Prop :=
 ∀ (x y:D) (v u:V) (H Hf:Hp) (Q:VK) (R:Bool->Prop),aM Hf H->Rep K Hf x v->Rep K Hf y u->p x y R->(∀ b,R b->Q (.bl b) H)->r v u H Q
theorem uI (ho:fL c.X (compareOp op) r) (hd:DN c.X.K r p) (h:aL c a ρ λx=>aL c b ρ λy=>p x y T)
 (hm:behindInMarks op b=false):i7 c (.Compare a [op] [b] pos) ρ T:=λσ H Hf Q S q =>
 uG (Dm ho c6 c6 hm) (h σ H Hf _ S λx v1 H1 aR h1 r1 g1=>h1 σ H1 aR _ (S.cD g1) λy v2 H2 cL h2 r2 g2 =>
  hd x y v1 v2 H2 cL _ T g2.b (Rep.mono g2.f x r1) r2 h2 λz hz=>⟨z,rfl,q _ H2 cL hz (g1.trans g2)⟩)
theorem F6 {f:Int->Int->Bool}:DN K (wO λi j=>.bl (f i j)) λx y R=>I2 (λi j=>R (f i j)) x y:=by
 rintro x y v u H Hf Q R s rx ry ⟨i,j,rfl,rfl,hR⟩ q
 rw [aA] at rx ry
 exact ⟨i,j,rx,ry,q _ hR⟩
theorem uJ (h:jx x y=true) (rx:Rep K H x v) (ry:Rep K H y u):Dl v u=true/\decide (v=u)=decide (x=y):=by
 cases x <;> cases y <;> simp [jx] at h <;> simp only [aA,cZ,bN,fm] at rx ry <;> subst rx <;> subst ry <;> simp [Dl]
theorem NX (h:aL c a ρ λx=>aL c b ρ λy=>I2 (λi j=>T (decide (i<j))) x y):i7 c (.Compare a [.Lt] [b] pos) ρ T:=uI K5 F6 h (nM b)
theorem NY (h:aL c a ρ λx=>aL c b ρ λy=>I2 (λi j=>T (decide (j<i))) x y):i7 c (.Compare a [.Gt] [b] pos) ρ T:=uI K6 F6 h (nM b)
end
end
section
variable {K:O7} {c:Ctx P w K mg base k N sc bk}
variable {es rest:List Expr}
noncomputable def bW (X:Cx) (e:Expr):TT:=λσ H Q=>∀ whole aa s,Inv X aa σ H s->wpAny (model X.prog X.w) X.A (isTrue e X.env whole) (TP X aa σ Q) X.xe s
theorem OA:PW X e (bW X e):=λwhole aa s σ H Q I h=>h whole aa s I
theorem uK (h:PW X e t) (q:t σ H Q):bW X e σ H Q:=λwhole aa s I=>h whole aa s σ H Q I q
def F7 (c:Ctx P w K mg base k N sc bk) (e:Expr) (ρ:List Sl) (R:Bool->Prop):Prop :=
 ∀ (σ:L2.St) (H Hf:Hp) (Q:Bool->Hp->Prop),bB c σ H Hf ρ->(∀ b H' aj,R b->br H Hf H' aj->Q b H')->bW c.X e σ H Q
theorem OB (h:F7 c e ρ T):i7 c e ρ T:=λσ H Hf Q S q aa s I=>h σ H Hf Q S q _ aa s I
theorem HL (h:i7 c a ρ T):F7 c (.BoolOp .And [a] pos) ρ T:=λσ H Hf Q S q=>uK (pw_and1 F5) (h σ H Hf Q S q)
theorem Lw (h:i7 c a ρ T):F7 c (.BoolOp .Or [a] pos) ρ T:=λσ H Hf Q S q=>uK (pw_or1 F5) (h σ H Hf Q S q)
theorem w_and (h:i7 c a ρ (lP (F7 c (.BoolOp .And (b::rest) pos) ρ T) (T false))):F7 c (.BoolOp .And (a::b::rest) pos) ρ T:=λσ H Hf Q S q =>
 uK (pw_and F5 OA) (h σ H Hf _ S λx H' aj hx g=>by
  cases x with
  | true=>exact hx.t rfl σ H' aj Q (S.cD g) λy H2 cL hy g2=>q y H2 cL hy (g.trans g2)
  | false=>exact q false H' aj (hx.f rfl) g)
theorem w_or (h:i7 c a ρ (lP (T true) (F7 c (.BoolOp .Or (b::rest) pos) ρ T))):F7 c (.BoolOp .Or (a::b::rest) pos) ρ T:=λσ H Hf Q S q =>
 uK (pw_or F5 OA) (h σ H Hf _ S λx H' aj hx g=>by
  cases x with
  | false=>exact hx.f rfl σ H' aj Q (S.cD g) λy H2 cL hy g2=>q y H2 cL hy (g.trans g2)
  | true=>exact q true H' aj (hx.t rfl) g)
theorem Lx (h:i7 c a ρ λx=>T (!x)):i7 c (.UnaryOp .Not a pos) ρ T:=λσ H Hf Q S q =>
 uG (GX F5) (h σ H Hf _ S λx H' aj hx g=>q _ H' aj hx g)
theorem Ly (h:aL c a ρ R):aL c (.BoolOp op [a] pos) ρ R:=λσ H Hf Q S q=>bK (GY c6) (h σ H Hf Q S q)
theorem Lz (h:aL c a ρ (B1 (lP (aL c (.BoolOp .And (b::rest) pos) ρ R) (R (.bl false))))):aL c (.BoolOp .And (a::b::rest) pos) ρ R:=λσ H Hf Q S q =>
 bK (GZ c6 c6) (h σ H Hf _ S λx v H' aj ⟨k,e,h1⟩ r g=>by
  subst e
  rw [cZ] at r
  refine ⟨k,r,?_⟩
  cases k with
  | true=>rw [if_pos rfl]; exact h1.t rfl σ H' aj Q (S.cD g) λy v2 H2 cL hy r2 g2=>q y v2 H2 cL hy r2 (g.trans g2)
  | false=>rw [if_neg Pn]; exact q _ _ H' aj (h1.f rfl) (cZ.mpr rfl) g)
theorem LA (h:aL c a ρ (B1 λk=>R (.bl (!k)))):aL c (.UnaryOp .Not a pos) ρ R:=λσ H Hf Q S q =>
 bK (G0 c6) (h σ H Hf _ S λx v H' aj ⟨k,e,h1⟩ r g=>by
  subst e; rw [cZ] at r
  exact ⟨k,r,q _ _ H' aj h1 (cZ.mpr rfl) g⟩)
theorem DO {R:Sl->Prop} (h:i7 c t ρ (lP (cV c a ρ R) (cV c b ρ R))):cV c (.IfExp t a b pos) ρ R:=λσ H Hf Q S q =>
 bK (yS F5 c6 c6) (h σ H Hf _ S λx H' aj hx g=>by
  cases x with
  | true=>rw [if_pos rfl]; exact hx.t rfl σ H' aj Q (S.cD g) λy v2 H2 cL hy r2 g2=>q y v2 H2 cL hy (r2.weak λp hp=>g.s.free hp) (g.trans g2)
  | false=>rw [if_neg Pn]; exact hx.f rfl σ H' aj Q (S.cD g) λy v2 H2 cL hy r2 g2=>q y v2 H2 cL hy (r2.weak λp hp=>g.s.free hp) (g.trans g2))
theorem DP (h:i7 c t ρ (lP (aL c a ρ R) (aL c b ρ R))):aL c (.IfExp t a b pos) ρ R :=
 gZ (DO (h.imp λx hx=>⟨λe=>Lj ((hx.t e).imp λd h=>⟨d,rfl,h⟩),λe=>Lj ((hx.f e).imp λd h=>⟨d,rfl,h⟩)⟩))
theorem LB (h:aL c e ρ (B1 T)) (he:∀ (env:Env) whole,isTrue e env whole=(do let v <- whole; standAt e.pos; holding [v] (truthy v)):=by intro _ _; walk_at "u"):i7 c e ρ T:=λσ H Hf Q S q =>
 uG (GW c6 (he _)) (h σ H Hf _ S λx v H' aj ⟨k,e,h1⟩ r g=>by
  subst e; rw [cZ] at r
  exact ⟨k,r,q k H' aj h1 g⟩)
theorem jy {R:List D->Prop} (h:R []):qj c [] ρ R:=λσ H Hf Q S q=>mO dD (q [] [] H Hf h (aB.mpr rfl) (.refl S.sb))
theorem c7 {R:List D->Prop} (h:aL c e ρ λd=>qj c es ρ λds=>R (d::ds)) (hs:∀ env,starEach (e::es) env=(false,eval e env)::starEach es env:=by intro _; walk_at "u"):qj c (e::es) ρ R:=λσ H Hf Q S q =>
 mO (bM c6 CU (hs _)) (h σ H Hf _ S λd v H1 aR h1 r1 g1=>h1 σ H1 aR _ (S.cD g1) λds vs H2 cL h2 r2 g2=>q _ _ H2 cL h2 (.cons (Rep.mono g2.f d r1) r2) (g1.trans g2))
theorem LC (h:qj c es ρ λds=>Sd (ds.length<=sizeLine) (R (.tup ds))):aL c (.Tuple es j pos) ρ R:=λσ H Hf Q S q =>
 bK (zc CU) (h σ H Hf _ S λds vs H' aj ⟨hl,hR⟩ r g=>⟨by rw [<- r.length]; exact hl,λp hp=>by
  have g2:=br.new g.b hp (o:=.tup vs)
  exact q _ _ _ _ hR (aG.mpr ⟨p,vs,rfl,.inl (.inl af),r.mono g2.f⟩) (g.trans g2)⟩)
theorem F8 {R:Sl->Prop} (h:qj c es ρ λds=>Sd (ds.length<=sizeLine) (R (.ow ds))):cV c (.List es pos) ρ R:=λσ H Hf Q S q =>
 bK (zd CU) (h σ H Hf _ S λds vs H' aj ⟨hl,hR⟩ r g=>⟨by rw [<- r.length]; exact hl,λp hp=>by
  have g2:=br.eU g.b hp (o:=.lst vs)
  exact q _ _ _ _ hR ⟨p,vs,rfl,g.s.free hp,af,g.b.free hp,r⟩ (g.trans g2)⟩)
variable {st:Stmt}
theorem sQ (h:nx ρ):aH c [] ρ nx p:=λσ H Hf D S o=>sO Dg (o.nx σ H Hf ρ S h)
theorem aN (h:eV c st ρ (λρ'=>aH c sts ρ' nx p) p):aH c (st::sts) ρ nx p:=λσ H Hf D S o =>
 sO (yT OX nW) (h σ H Hf { D with nx:=HG c.X sts D } S ⟨λσ' H' aj ρ' S' q=>q σ' H' aj D S' o,o.rt,o.bk,o.ct⟩)
theorem eB (h:cV c e ρ p.rt):eV c (.Return (some e) pos) ρ nx p:=λσ H Hf D S o =>
 dW (yU c6) (h σ H Hf _ S λr v H' aj hr rs g=>o.rt r v H' aj (S.bas.trans g) (rs.weak λp hp=>S.bas.s.free hp) hr)
theorem zJ (hN:At N i x) (hi:At ρ i r) (hu:r.owned=true) (h:p.rt r)
 (hd:(x == ("__debug__":Str))=false:=by decide) (hcd:(x == ("__classdict__":Str))=false:=by decide) :
 eV c (.Return (some (.Name x pos2)) pos) ρ nx p:=λσ H Hf D S o=>by
 obtain ⟨v,e,rs⟩:=S.at_ i r hi.get (by rintro rfl; cases hu)
 exact dW (yU (sC (X:=c.X) (i:=i) (by rw [c.eN]; exact hN.get) (by rw [c.esc]; rcases c.vis x hN.mem with h | h; exact .inl h; exact .inr (.inl h)) hd hcd)) ⟨v,e,o.rt r v H Hf S.bas rs h⟩
theorem HM (h:i7 c t ρ (lP (aH c A ρ nx p) (aH c B ρ nx p))):eV c (.If t A B pos) ρ nx p:=λσ H Hf D S o =>
 dW (KR F5 nW nW) (h σ H Hf _ S λx H' aj hx g=>by
  cases x with
  | true=>rw [if_pos rfl]; exact hx.t rfl σ H' aj D (S.cD g) o
  | false=>rw [if_neg Pn]; exact hx.f rfl σ H' aj D (S.cD g) o)
def Nx (ρ:List Sl) (i:Nat) (R:List Sl->Prop) (r:Sl):Prop:=∃ ρ',SSet ρ i r ρ'/\R ρ'
theorem uL {R:List Sl->Prop} (h:SSet ρ i r ρ') (hr:R ρ'):Nx ρ i R r:=⟨ρ',h,hr⟩
theorem zK (hN:At N i x) (h:cV c e ρ (Nx ρ i nx))
 (hs:∀ env,swapsWith e (some (.Name x pos2)) pos.line env=pure false:=by intro _; walk_at "u") (hf:bk=false\/sc.names.lookup x=some .local:=by first | exact .inl rfl | exact .inr (by walk_at "u")):eV c (.Assign [.Name x pos2] e pos) ρ nx p:=λσ H Hf D S o =>
 dW (yW (X:=c.X) (i:=i) (by rw [c.eN]; exact c.nd) (by rw [c.eN]; exact hN.get) (by rw [c.esc]; exact c.vis x hN.mem) c6 (hs _) (c.fn x hf)) (h σ H Hf _ S λr v H' aj ⟨ρ',hs,hx⟩ rs g=>o.nx _ H' aj _ (hs.eq ▸ S.set g rs) hx)
theorem eO {R:List Sl->Prop} (hN:At N i x) (h:Nx ρ i R (.va d)) (hf:bk=false\/sc.names.lookup x=some .local:=by first | exact .inl rfl | exact .inr (by walk_at "u")):ku c (.Name x pos) d ρ R:=λσ H Hf v Q S r q=>by
 obtain ⟨ρ',hs,h⟩:=h
 exact zE (jQ (X:=c.X) (i:=i) (by rw [c.eN]; exact c.nd) (by rw [c.eN]; exact hN.get) (by rw [c.esc]; exact c.vis x hN.mem) (c.fn x hf)) (q _ H Hf _ (hs.eq ▸ S.set (.refl S.sb) (r:=.va d) r) (.refl S.sb) h)
def wX (c:Ctx P w K mg base k N sc bk) (ts:List Expr) (ds:List D) (ρ:List Sl) (R:List Sl->Prop):Prop :=
 ∀ (σ:L2.St) (H Hf:Hp) (vs:List V) (Q:L2.St->Hp->Prop),bB c σ H Hf ρ->ak c.X.K Hf ds vs->(∀ σ' H' aj ρ',bB c σ' H' aj ρ'->br H Hf H' aj->R ρ'->Q σ' H') ->
  ∀ aa s us,Inv c.X aa σ H s->Vals vs us->wpAny (model c.X.prog c.X.w) c.X.A (assignInOrder ((assignEach ts c.X.env).map (·.2)) us) (λ_ s'=>∃ σ' H',Inv c.X aa σ' H' s'/\Q σ' H') c.X.xe s
theorem HN {R:List Sl->Prop} (h:R ρ):wX c [] [] ρ R:=λσ H Hf vs Q S r q aa s us I rv=>by
 rw [aB] at r; subst r
 exact Di aa s σ H [] us Q I rv ⟨rfl,q σ H Hf ρ S (.refl S.sb) h⟩
theorem DQ {R:List Sl->Prop} (hN:At N i x) (h:Nx ρ i (λρ'=>wX c ts ds ρ' R) (.va d))
 (hs:∀ env,(assignEach (.Name x pos::ts) env).map (·.2)=assign (.Name x pos) env::(assignEach ts env).map (·.2):=by intro _; walk_at "u") (hf:bk=false\/sc.names.lookup x=some .local:=by first | exact .inl rfl | exact .inr (by walk_at "u")):wX c (.Name x pos::ts) (d::ds) ρ R:=λσ H Hf vs Q S r q aa s us I rv=>by
 obtain ⟨ρ',hs',h⟩:=h
 rw [aF] at r
 obtain ⟨v,vr,rfl,r1,r2⟩:=r
 have hp:Kr c.X ts (λvs' σ' H' Q'=>∀ aa s us,Inv c.X aa σ' H' s->Vals vs' us->wpAny (model c.X.prog c.X.w) c.X.A (assignInOrder ((assignEach ts c.X.env).map (·.2)) us) (λ_ s'=>∃ σ'' H'',Inv c.X aa σ'' H'' s'/\Q' σ'' H'') c.X.xe s) :=
  λaa s σ H vs us Q I r h=>h aa s us I r
 refine yV (jQ (X:=c.X) (i:=i) (by rw [c.eN]; exact c.nd) (by rw [c.eN]; exact hN.get) (by rw [c.esc]; exact c.vis x hN.mem) (c.fn x hf)) hp (hs _) aa s σ H _ us Q I rv ⟨v,vr,rfl,?_⟩
 have S1:=S.set (i:=i) (.refl S.sb) (r:=.va d) (v:=v) r1
 rw [<- hs'.eq] at S1
 exact h _ H Hf vr Q S1 r2 q
theorem F9 {R:List Sl->Prop} (he:d=.tup ds) (hl:ds.length=ts.length) (h:wX c ts ds ρ R)
 (hn:∀ env,(assignEach ts env).length=ts.length:=by intro _; walk_at "u") (hst:∀ env,(assignEach ts env).findIdx? (·.1)=none:=by intro _; walk_at "u"):ku c (.Tuple ts j pos) d ρ R:=λσ H Hf v Q S r q=>by
 subst he
 rw [aG] at r
 obtain ⟨a,xs,rfl,h1,h2⟩:=r
 have hp:Kr c.X ts (λvs' σ' H' Q'=>∀ aa s us,Inv c.X aa σ' H' s->Vals vs' us->wpAny (model c.X.prog c.X.w) c.X.A (assignInOrder ((assignEach ts c.X.env).map (·.2)) us) (λ_ s'=>∃ σ'' H'',Inv c.X aa σ'' H'' s'/\Q' σ'' H'') c.X.xe s) :=
  λaa s σ H vs us Q I r h=>h aa s us I r
 refine zE (G2 (X:=c.X) (k:=j) (n:=ts.length) c.calm hp (hn _) (hst _)) ⟨a,xs,rfl,az S.sb h1,by rw [<- h2.length,hl],?_⟩
 exact h σ H Hf xs Q S h2 λσ' H' aj ρ' S' g' hR=>q σ' H' aj ρ' S' g' hR
theorem LD {f:Int->Int->Int} (ho:fL c.X (inplaceOp op) (rI C λi j=>.int (f i j))) (hN:At N i x) (hi:At ρ i (.va (.int m)))
 (h:aL c e ρ (I1 λj=>Sd (C m j) (Nx ρ i nx (.va (.int (f m j)))))) (hf:bk=false\/sc.names.lookup x=some .local:=by first | exact .inl rfl | exact .inr (by walk_at "u")):eV c (.AugAssign (.Name x pos2) op e pos) ρ nx p:=λσ H Hf D S o=>by
 obtain ⟨v,e1,r1⟩:=S.va hi.get
 rw [aA] at r1; subst r1
 have hip:Ow c.X op (rI C λi j=>.int (f i j)):=λaa s σ H x y v u Q I rx ry h=>ho aa s σ H x y v u Q I rx ry h
 refine dW (G5 (X:=c.X) (i:=i) (by rw [c.eN]; exact c.nd) (by rw [c.eN]; exact hN.get) (by rw [c.esc]; exact c.vis x hN.mem) c6 hip (c.fn x hf)) ⟨_,e1,h σ H Hf _ S λd v H' aj ⟨j,ed,⟨hC,ρ',hs,hn⟩⟩ r g=>?_⟩
 subst ed; rw [aA] at r
 have S2:=S.set g (i:=i) (r:=.va (.int (f m j))) (show Rep c.X.K aj (.int (f m j)) (.int (f m j)) from aA.mpr rfl)
 rw [<- hs.eq] at S2
 exact ⟨m,j,rfl,r,hC,o.nx _ H' aj _ S2 hn⟩
theorem HP (hN:At N i x) (hi:At ρ i (.va (.int m))) (h:aL c e ρ (I1 λj=>Nx ρ i nx (.va (.int (m - j))))) (hf:bk=false\/sc.names.lookup x=some .local:=by first | exact .inl rfl | exact .inr (by walk_at "u")) :
 eV c (.AugAssign (.Name x pos2) .Sub e pos) ρ nx p :=
 LD (C:=λ_ _=>True) (f:=λi j=>i - j) (λaa s σ H x y v u Q I rx ry ⟨i,j,e1,e2,_,q⟩=>Dk aa s σ H x y v u Q I rx ry ⟨i,j,e1,e2,q⟩) hN hi (h.imp λd ⟨j,e,q⟩=>⟨j,e,trivial,q⟩) hf
theorem uM (hq:c.X.xe=λ_ _=>False) (I:Nat->List Sl->Prop) (h0:I m₀ ρ)
 (h:∀ m ρ',I m ρ'->i7 c t ρ' (lP (aH c body ρ' (λr=>∃ m',m'<m/\I m' r) { ct:=λr=>∃ m',m'<m/\I m' r,bk:=nx,rt:=p.rt }) (nx ρ'))) :
 eV c (.While t body [] pos) ρ nx p:=λσ H Hf D S o =>
 dW (yX (by rw [hq]; exact PassesOwn.never) F5 nW) ⟨λm σ H=>∃ Hf ρ',bB c σ H Hf ρ'/\I m ρ',⟨m₀,Hf,ρ,S,h0⟩,λm σ H ⟨Hf,ρ',S,hI⟩=>h m ρ' hI σ H Hf _ S λx H' aj hx g=>by
  cases x with
  | false=>rw [if_neg Pn]; exact o.nx σ H' aj ρ' (S.cD g) (hx.f rfl)
  | true =>
   rw [if_pos rfl]
   refine ⟨λσ' H'=>∃ m',m'<m/\∃ Hf ρ',bB c σ' H' Hf ρ'/\I m' ρ',λσ' H' ⟨m',hl,hh⟩=>⟨m',hl,hh⟩,?_⟩
   exact hx.t rfl σ H' aj _ (S.cD g) ⟨λσ H Hf ρ S ⟨m',hl,hi⟩=>⟨m',hl,Hf,ρ,S,hi⟩,o.rt,λσ H Hf ρ S q=>o.nx σ H Hf ρ S q,λσ H Hf ρ S ⟨m',hl,hi⟩=>⟨m',hl,Hf,ρ,S,hi⟩⟩⟩
end
theorem cM (h:n<=1000):n<=sizeLine:=RG (wW h)
theorem zL (h:0<j) (h2:j.natAbs.log2<9000):zH j:=⟨h,h2⟩
inductive Res where
 | ok (r:Sl)
 | ex (C:Addr)
noncomputable abbrev Fn:=List D->Res->Prop
noncomputable def dM (K:O7) (F:Fn):Sp:=λvs H Q E=>∃ Hf ds r,aM Hf H/\ak K Hf ds vs/\F ds r/\match r with
 | .ok sl=>∀ v H' aj,br H Hf H' aj->aY K (λp=>H p=none) H' aj sl v->Q v H'
 | .ex C=>∀ a H',aM H H'->E (.ref C) (some a) H'
structure cI (P:Program) (w:World) (K:O7) (mg:Str->Option Value) (base:Heap) (k:Nat) (x:Str) (F:Fn):Prop where
 ex:∃ f fd ps,mg x=some (.ref f)/\Q7 K (.ref f)=true/\Binds K fd ps []/\bq P w K mg base (cK P w) k f fd ps (dM K F)
section
variable {K:O7} {c:Ctx P w K mg base k N sc bk}
noncomputable def HQ (c:Ctx P w K mg base k N sc bk) (ρ:List Sl) (R:Sl->Prop):Res->Prop
 | .ok sl=>R sl
 | .ex C=>c.RX C ρ
theorem DR (h:cI P w K mg base j x F) (hj:j<=k):∃ f,mg x=some (.ref f)/\Q7 K (.ref f)=true /\
 ∀ (aa:List (Addr×Obj)) (σ:L2.St) (H Hf:Hp) (s:Shared) (us:List Value) (vs:List V) (ds:List D) (r:Res) (Q:VK),Inv c.X aa σ H s->bB c σ H Hf ρ->Vals vs us->ak c.X.K Hf ds vs->F ds r ->
  (∀ sl v H' aj,r=.ok sl->aY c.X.K (λp=>H p=none) H' aj sl v->br H Hf H' aj->Q v H')->(∀ C,r=.ex C->c.RX C ρ)->wpAny (model c.X.prog c.X.w) c.X.A (call (.ref f) us) (EP c.X aa σ Q) c.X.xe s:=by
 obtain ⟨f,fd,ps,hm,hk,hb,hF⟩:=h.ex
 refine ⟨f,hm,hk,λaa σ H Hf s us vs ds r Q I S rv rs hr q hx=>?_⟩
 have hF':bq c.X.prog c.X.w c.X.K c.X.mg c.X.base (cK c.X.prog c.X.w) k f fd ps (dM c.X.K F):=by rw [c.eP,c.ew,c.eK,c.emg,c.eb]; exact hF.mono hj
 have pU:dM c.X.K F vs H Q (λcv ao H'=>∃ C,r=.ex C/\cv=.ref C/\aM H H'):=by
  refine ⟨Hf,ds,r,S.bas.b,rs,hr,?_⟩
  cases r with
  | ok sl=>exact λv H' aj g rs2=>q sl v H' aj rfl rs2 g
  | ex C=>exact λa H' s2=>⟨C,rfl,rfl,s2⟩
 have hl:us.length=ps.length:=by rw [<- rv.length]; exact hF'.len _ _ _ _ pU
 have hb':Binds c.X.K fd ps []:=by rw [c.eK]; exact hb
 have hb2:=hb' s us I.nL (by simpa using hl)
 rw [Qp] at hb2
 refine SH (SD (hF'.run c.X.A c.X.stack s H ⟨us,[]⟩ us vs Q _ c.room I.Dp hb2 rv pU) λr' s' hq=>?_)
 cases r' with
 | error e =>
  obtain ⟨a,C,H',rfl,hE,C',e1,e2,sm⟩:=hq
  cases e2
  exact c.exc C a aa σ H Hf ρ s H' s' I S (hx C e1) hE sm
 | ok fl =>
  cases fl with
  | ret u=>exact I.after hq
  | next=>exact Qs hq
  | brk=>exact Qs hq
  | cont=>exact Qs hq
theorem x_call {R:Sl->Prop} (h:cI P w K mg base j x F) (hj:j<=k)
 (ha:qj c (e::es) ρ λds=>∃ r,F ds r/\HQ c ρ R r)
 (hg:sc.names.lookup x=some .globalImplicit:=by walk_at "u") (hdb:(x == ("__debug__":Str))=false:=by decide) (he:∀ env,starEach (e::es) env=(false,eval e env)::starEach es env:=by intro _; walk_at "u")
 (hpl:∀ env,(backTo pos (starEach es env)).any (·.1)=false:=by intro _; walk_at "u"):cV c (.Call (.Name x p) (e::es) [] pos) ρ R:=λσ H Hf Q S q aa s I=>by
 obtain ⟨f,hm,hk,run⟩:=DR (c:=c) (ρ:=ρ) h hj
 refine Q5 (gW I (by unfold Gl P6; rw [c.esc]; exact hg) (by rw [c.emg]; exact hm) ?_ hdb)
 refine T7 (h₀:=c.X.base) I.ok.mod.kin (by rw [c.eK]; exact hk) (bC (ha σ H Hf (λvs H1=>∃ aR ds,(∃ r,F ds r/\HQ c ρ R r)/\ak c.X.K aR ds vs/\br H Hf H1 aR) S (λds vs H1 aR hr rs g=>⟨aR,ds,hr,rs,g⟩) pos aa s I) λus s1 hh=>z2 hh λvs H1 hh=>w3 hh λI1 rv hh=>z2 hh λaR ds hh=>w3 hh λhh rs g=>hh.elim λr hh=>w2 hh λhF hR=>⟨I1.nL,?_⟩) (he _) (hpl _)
 refine run aa σ H1 aR s1 us vs ds r Q I1 (S.cD g) rv rs hF (λsl v H' aj e1 rs2 g2=>?_) λC e1=>?_
 ·subst e1
  exact q sl v H' aj hR (rs2.weak λp hp=>g.s.free hp) (g.trans g2)
 ·subst e1
  exact hR
theorem bh (h:cI P w K mg base j x F) (hj:j<=k)
 (ha:qj c (e::es) ρ λds=>∃ r,F ds r/\HQ c ρ (HH R) r)
 (hg:sc.names.lookup x=some .globalImplicit:=by walk_at "u") (hdb:(x == ("__debug__":Str))=false:=by decide) (he:∀ env,starEach (e::es) env=(false,eval e env)::starEach es env:=by intro _; walk_at "u")
 (hpl:∀ env,(backTo pos (starEach es env)).any (·.1)=false:=by intro _; walk_at "u"):aL c (.Call (.Name x p) (e::es) [] pos) ρ R:=e_x (x_call h hj ha hg hdb he hpl)
noncomputable def gC (N:List Str) (ds:List D):List Sl:=ds.map .va++Pu (N.length - ds.length) .un
theorem zM (r:ak K c9 ds vs) (sb:aM c9 H₀):cH K H₀ c9 (L2.start N vs) H₀ c9 (gC N ds):=by
 have hl:=r.length
 refine ⟨.refl sb,by simp [L2.start,gC,hl],λi r' h hu=>?_,λi j r1 r2 p hne h1 h2 o1 o2=>?_⟩
 ·by_cases q:i<ds.length
  ·have e:(gC N ds)[i]?=some (.va ds[i]):=by
    unfold gC
    rw [Rt (by simpa using q)]; simp [q]
   rw [e] at h; cases h
   obtain ⟨x,e2,rx⟩:=r.get (i:=i) (d:=ds[i]) (by simp)
   refine ⟨x,?_,rx⟩
   unfold L2.start
   rw [Rt (by simp; lia)]
   simp [e2]
  ·unfold gC at h
   rw [Sk (by simp; lia)] at h
   have:=QI h
   exact absurd (TQ this) hu
 ·exfalso
  unfold gC at h1
  by_cases q:i<(ds.map Sl.va).length
  ·rw [Rt q] at h1
   rw [Pk] at h1
   cases z:ds[i]? with
   | none=>rw [z] at h1; cases h1
   | some d=>rw [z] at h1; cases h1; cases o1
  ·rw [Sk (by lia)] at h1
   have e3:=TQ (QI h1)
   subst e3; cases o1
abbrev FS (N P:List Str) (st:Stmt):Prop:=(aO st).kind=.function/\(aO st).isCoroutine=false/\(aO st).isGenerator=false/\N.Nodup/\N.take P.length=P/\(∀ x∈P,(aO st).names.lookup x=some .local\/(aO st).names.lookup x=some .cell)/\(∀ y∈(aO st).names,y.2≠.free)/\∀ x∈N,(aO st).names.lookup x=some .local\/(aO st).names.lookup x=some .cell
theorem zN {N P:List Str} {st:Stmt} (h:FS N P st):nO N P (aO st)/\∀ x∈N,Loc (aO st) x:=⟨⟨h.1,h.2.1,h.2.2.1,h.2.2.2.1,h.2.2.2.2.1,h.2.2.2.2.2.1,h.2.2.2.2.2.2.1⟩,h.2.2.2.2.2.2.2⟩
theorem cg {st:Stmt} (Fu:dI K x qual st f fd) (SV:FS N ps st) (ar:∀ ds r,F ds r->ds.length=ps.length)
 (hok:∀ ds r,F ds r->∃ sl,r=.ok sl)
 (body:∀ (c:Ctx P w K mg base k N (aO st) false),c.X.xe=(λ_ _=>False)->∀ ds sl,F ds (.ok sl)->aH c (aq st) (gC N ds) (λ_=>sl=.va .non) { rt:=λr=>r=sl }) :
 bq P w K mg base (cK P w) (k+1) f fd ps (dM K F):=by
 obtain ⟨Sc,Vi⟩:=zN SV
 obtain ⟨oc,od,kV,doc,pm,an,cdv,ct,osl,rfl,lk,hcd⟩:=Fu.ex
 refine ze lk hcd Sc (λvs H Q E ⟨Hf,ds,r,_,rs,hF,_⟩=>by rw [<- rs.length]; exact ar _ _ hF) λA outer s H vs Q E hr ⟨Hf,ds,r,sb,rs,hF,hq⟩=>?_
 obtain ⟨sl,rfl⟩:=hok _ _ hF
 let X:Cx:=(p5 (cK P w) P w K mg base N qual (aO st) f cdv A outer s H E).F1
 let c:Ctx P w K mg base k N (aO st) false :=
  { X:=X,eP:=rfl,ew:=rfl,eK:=rfl,emg:=rfl,eb:=rfl,eN:=rfl,esc:=rfl,calm:=rfl,top:=λ_=>⟨rfl,rfl,rfl⟩,cb:=λ_ _ _ _ _ I x c h=>I.ok.cab x c rfl h,fn:=λ_ _=>.inl rfl,B:=H,room:=hr,nd:=Sc.nd,vis:=Vi,Hf:=Hf,RX:=λ_ _=>False,
    exc:=λ_ _ _ _ _ _ _ _ _ _ _ _ h _ _=>h.elim,RM:=λ_ _=>False,mde:=λ_ _ _ _ _ _ _ _ _ _ _ _ h _=>h.elim }
 refine ⟨_,pY.F1 (t:=HG X (aq st)) (nW (X:=X)),?_⟩
 refine body c rfl ds sl hF (L2.start N vs) H Hf _ (zM rs sb) ⟨λσ H' aj ρ S e=>?_,λr v H' aj g rv e=>?_,λ_ _ _ _ _ h=>h.elim,λ_ _ _ _ _ h=>h.elim⟩
 ·subst e
  exact hq .non H' aj S.bas (show Rep K aj .non .non from bN.mpr rfl)
 ·have e:r=sl:=e
  subst e
  exact hq v H' aj g rv
def NZ (K:O7) (r:List V->Hp->VK->Prop) (p:List D->(Sl->Prop)->Prop):Prop :=
 ∀ (ds:List D) (vs:List V) (H Hf:Hp) (Q:VK) (R:Sl->Prop),aM Hf H->ak K Hf ds vs->p ds R->(∀ z v' H' aj,R z->aY K (λp=>H p=none) H' aj z v'->br H Hf H' aj->Q v' H')->r vs H Q
theorem LF {id:String} {R:Sl->Prop} (hc:fM c.X (.type id) r) (hd:NZ c.X.K r q) (hm:mg x=none) (hv:bootBuiltins x=some (.type id))
 (ha:qj c (e::es) ρ λds=>q ds R) (hg:sc.names.lookup x=some .globalImplicit:=by walk_at "u") (hn:x≠"__name__":=by decide) (hdb:(x == ("__debug__":Str))=false:=by decide)
 (he:∀ env,starEach (e::es) env=(false,eval e env)::starEach es env:=by intro _; walk_at "u") (hpl:∀ env,(backTo pos (starEach es env)).any (·.1)=false:=by intro _; walk_at "u"):cV c (.Call (.Name x p) (e::es) [] pos) ρ R:=λσ H Hf Q S qq =>
 bK (mC hc (by unfold Gl P6; rw [c.esc]; exact hg) (by rw [c.emg]; exact hm) hv CU hn hdb (he _) (hpl _))
  (ha σ H Hf _ S λds vs H1 aR h1 rs g=>hd ds vs H1 aR Q R g.b rs h1 λz v' H' aj hz rz g2=>qq z v' H' aj hz (rz.weak λp hp=>g.s.free hp) (g.trans g2))
theorem mQ (h:ak K H [d] vs):∃ v,vs=[v]/\Rep K H d v:=by
 rw [aF] at h
 obtain ⟨x,r,rfl,h1,h2⟩:=h
 rw [aB] at h2; subst h2
 exact ⟨x,rfl,h1⟩
def zO (K:O7) (r:List V->Hp->VK->Prop) (p:List D->(D->Prop)->Prop):Prop :=
 ∀ (ds:List D) (vs:List V) (H Hf:Hp) (Q:VK) (R:D->Prop),aM Hf H->ak K Hf ds vs->p ds R->(∀ d v H' aj,R d->Rep K aj d v->br H Hf H' aj->Q v H')->r vs H Q
theorem qk {id:String} (hc:fM c.X (.builtin id) r) (hd:zO c.X.K r q) (hm:mg x=none) (hv:bootBuiltins x=some (.builtin id))
 (ha:qj c (e::es) ρ λds=>q ds R) (hg:sc.names.lookup x=some .globalImplicit) (hn:x≠"__name__") (hdb:(x == ("__debug__":Str))=false)
 (he:∀ env,starEach (e::es) env=(false,eval e env)::starEach es env) (hpl:∀ env,(backTo pos (starEach es env)).any (·.1)=false):aL c (.Call (.Name x p) (e::es) [] pos) ρ R:=λσ H Hf Q S qq =>
 bK (zf hc (by unfold Gl P6; rw [c.esc]; exact hg) (by rw [c.emg]; exact hm) hv CU hn hdb (he _) (hpl _))
  (ha σ H Hf _ S λds vs H1 aR h1 rs g=>hd ds vs H1 aR Q R g.b rs h1 λz v' H' aj hz rz g2=>qq z v' H' aj hz rz (g.trans g2))
theorem LG {id:String} (hc:fM c.X (.type id) r) (hd:zO c.X.K r q) (hm:mg x=none) (hv:bootBuiltins x=some (.type id))
 (ha:qj c (e::es) ρ λds=>q ds R) (hg:sc.names.lookup x=some .globalImplicit) (hn:x≠"__name__") (hdb:(x == ("__debug__":Str))=false)
 (he:∀ env,starEach (e::es) env=(false,eval e env)::starEach es env) (hpl:∀ env,(backTo pos (starEach es env)).any (·.1)=false):aL c (.Call (.Name x p) (e::es) [] pos) ρ R:=λσ H Hf Q S qq =>
 bK (mC hc (by unfold Gl P6; rw [c.esc]; exact hg) (by rw [c.emg]; exact hm) hv CU hn hdb (he _) (hpl _))
  (ha σ H Hf _ S λds vs H1 aR h1 rs g=>hd ds vs H1 aR Q R g.b rs h1 λz v' H' aj hz rz g2=>qq z v' H' aj hz rz (g.trans g2))
end
end EV
namespace EV
open PySem PySem.Spec PySem.Calls PyProof.Rows L2
theorem HR (x:bz P w H h a o):∃ u,h.get? a=some u:=by
 cases o with
 | lst xs=>obtain ⟨_,_,_,_,e⟩:=x; exact ⟨_,e⟩
 | tup xs=>obtain ⟨_,_,_,ob,e,_⟩:=x; exact ⟨_,e⟩
 | dK kvs=>obtain ⟨_,_,_,_,o,_,_,e,_⟩:=x; exact ⟨_,e⟩
 | dT kvs=>obtain ⟨_,_,_,_,o,_,_,e,_⟩:=x; exact ⟨_,e⟩
 | set S n=>obtain ⟨o,_,_,_,e,_⟩:=x; exact ⟨_,e⟩
 | ins C dx fs=>obtain ⟨_,_,_,e,_⟩:=x; exact ⟨_,e⟩
 | own y=>exact x
 | xd fs=>obtain ⟨_,⟨_,_,_,e,_⟩,_⟩:=x; exact ⟨_,e⟩
 | rng lo hi=>obtain ⟨_,_,_,e⟩:=x; exact ⟨_,e⟩
 | frz ob u=>obtain ⟨e,_⟩:=x; exact ⟨_,e⟩
 | tbl ps=>exact ⟨_,x⟩
 | met f y=>exact ⟨_,x⟩
 | ext φ =>exact x.2.1
section
variable {K:O7}
end
open PySem.W Builtin Builtin.ObjectAttr Builtin.Getset_descriptor
structure MZ (K:O7) (C:Addr):Prop where
 ga:Ry K (.ref C) "__getattribute__"=some (some (.builtin "BaseException.__getattribute__"))
 hk:Ry K (.ref C) "__getattr__"=some none
 ca:Ry K (.ref C) "__class__"=some (some (.builtin "object.__class__"))
 gt:Vk K (.builtin "object.__class__") "__get__"=some (some (.builtin "getset_descriptor.__get__"))
 tk:PySem.W.takesIn K (.builtin "object.__class__")=some true
 mo:UB K C (.type "object")=some true
 mb:UB K C (.type "BaseException")=some true
section
variable {prog:Program} {w:World} {A:Around} {E:Value->Shared->Prop} {s:Shared} {K:O7} {x C:Addr} {R:Result->Shared->Prop}
theorem uN (p:sN x C h):Looks M h (typeOf (.ref x)) (.ref C):=by
 obtain ⟨o,ho,hc,_⟩:=p
 rw [<- hc]
 exact (Looks.ld ho).andThen .now
theorem lY (X:K.In s.heap) (L:Looks (model prog w) s.heap (typeOf (.ref x)) (.ref C)) (hm:UB K C (.type "object")=some true)
 (h:R (.ok (.ret (.ref C))) s):codeAny (model prog w) A (.call (.builtin "getset_descriptor.__get__") ⟨[.builtin "object.__class__",.ref x,tp],[]⟩) R s:=by
 obtain ⟨hh,g,dr,t,os⟩:=s
 have L0:=L
 have L1:=looks_mroIn (M:=model prog w) X hm
 refine codeAny_call_builtin KF.slot_gs.plain KF.entry_gs (KF.slot_gs.check _ _ _ _ _ _ _ _ KF.type_class (KF.args_gs _ _ _) ?_)
 unfold Builtin.«getset_descriptor.__get__» descrGet
 rw [dga_obj]
 refine O6 (O8 ?_)
 unfold descrGetter descrCheckInstance descrNameAndClass isInstance
 simp only [KF.owner_class]
 repeat lk
 refine ⟨Code.quiet_builtin _ (by decide +kernel),SY KF.entry_class ?_⟩
 unfold Builtin.«object.__class__» shownTypeOf
 repeat lk
 exact h
theorem zP (X:K.In h) (k:MZ K C):Looks M h (find (.ref x) (.ref C) "__class__") (.bind (.builtin "getset_descriptor.__get__") (.builtin "object.__class__")):=by
 have L1:=looks_findIn (M:=M) X k.ca
 have L2:Looks M h (getOf (some (.builtin "object.__class__"))) (some (.builtin "getset_descriptor.__get__")):=looks_specialIn X k.gt
 have L3:=looks_takesIn (M:=M) X k.tk
 unfold find
 refine L1.andThen (L2.andThen ?_)
 refine Looks.andThen (a:=some (.builtin "getset_descriptor.__get__",.builtin "object.__class__")) ?_ (Looks.tag .now)
 unfold dataDescriptor?
 exact L3.andThen .now
theorem wY (X:K.In s.heap) (p:sN x C s.heap) (k:MZ K C) (h:Q (some (.ref C)) { s with toks:=s.toks+1 }):wpAny (model prog w) A (getAttr? (.ref x) "__class__") Q E s:=by
 obtain ⟨hh,g,d,t,os⟩:=s
 have L0:Looks (model prog w) hh (typeOf (.ref x)) (.ref C):=uN p
 have L1:=looks_findIn (M:=model prog w) X k.ga
 have L2:=looks_findIn (M:=model prog w) X k.hk
 have L3:=looks_mroIn (M:=model prog w) X k.mb
 have L4:=zP (M:=model prog w) (x:=x) X k
 unfold getAttr? getAttrBy? getAttrBy
 refine O6 (wpAny_mkText (O6 (RB (QL (O6 (L0.at (O6 (L1.at ?_))))))))
 dsimp only
 have hx2:(Value.builtin "BaseException.__getattribute__" == Value.builtin "object.__getattribute__")=false:=by decide +kernel
 rw [hx2,Bool.and_false,if_neg Pn]
 unfold getAttrByItsOwn hookBefore
 rw [if_pos (by rfl)]
 refine O6 (L2.at ?_)
 refine O6 (RB (QL ?_))
 unfold callGetattribute
 rw [if_neg (by simp)]
 unfold boundAndCalled
 have f3:=PySem.F.attrBase_ValueError.ga.bind (.ref x)
 rw [f3]
 refine O6 (O8 ?_)
 refine SH (codeAny_call_builtin PySem.F.attrBase_ValueError.ga.plain PySem.F.entry_bexc_ga ?_)
 have hk:builtinKind "BaseException.__getattribute__"=some .slot:=by decide +kernel
 have hsplit:splitId "BaseException.__getattribute__"=some ("BaseException","__getattribute__"):=by decide +kernel
 have ha:=PySem.F.args_bexc_ga (.ref x) (Tv "__class__" t)
 simp only [checkBuiltinCall,hk,hsplit]
 dsimp only [QG,Q6]
 have LI:Looks (model prog w) hh (isInstance (.ref x) (.type "BaseException")) true:=L0.andThen L3
 refine O6 (LI.at ?_)
 rw [if_neg (by decide)]
 refine Qd (Q:=λ_ s1=>s1=⟨hh,g,d,t+1,os⟩) (E:=λ_ _=>False) ?_ (λ_ s1 e1=>?_) (λ_ _ z=>z.elim)
 ·repeat (any_goals (first | assumption | rfl | wp_step))
 subst e1
 unfold «object.__getattribute__»
 repeat (first | with_reducible refine SH ?_ | lk)
 refine lY X L0 k.mo ?_
 repeat lk
 exact h
theorem zQ (k:MZ K C):PySem.W.KitX K (.ref x) (.ref C) (sN x C) where
 ty:=λ_ _ _ p=>uN p
 it:=λ_ _ X _=>by
  have hdct:∃ cd,Te K C=some cd:=by
   obtain ⟨cd,h1,_⟩:=US.mp (show (Te K C).bind _=some true from k.mo)
   exact ⟨cd,h1⟩
  obtain ⟨cdD,hcD⟩:=hdct
  unfold Te at hcD
  split at hcD
  ·rename_i c' d' cd' sl' ho
   intro A' Q' E' s' k q
   unfold isType loadHead
   exact O6 (wpAny_loadPart (k _ _ (X _ _ ho)) (O8 q))
  ·cases hcD
 ne:=λh tp dd its n sl X htp=>by
  obtain ⟨cdD,hcD,_⟩:=US.mp (show (Te K C).bind _=some true from k.mo)
  refine Bool.eq_false_iff.mpr λq=>?_
  have e:C=tp:=PJ.inj (beq_iff_eq.mp q)
  subst e
  unfold Te at hcD
  split at hcD
  ·rename_i c' d' cd' sl' ho
   have z:=(X _ _ ho).symm.trans htp
   cases z
  ·cases hcD
 ca:=λX p h=>wY X p k h
end
inductive wZ (K:O7):D->Value->Prop where
 | non:wZ K .non (.type "NoneType")
 | bl {x:Bool}:wZ K (.bl x) (.type "bool")
 | int {i:Int}:wZ K (.int i) (.type "int")
 | str {x:Str}:wZ K (.str x) (.type "str")
 | lst {ds:List EV.D}:wZ K (.lst ds) (.type "list")
 | tup {ds:List EV.D}:wZ K (.tup ds) (.type "tuple")
 | exc {C:Addr} (k:MZ K C):wZ K (.exc C) (.ref C)
theorem DS (I:Inv X aa σ H s) (sb:aM Hf H) (rx:RelV v u) (rd:Rep X.K Hf d v) (ty:wZ X.K d t) (e:QT X.K t cv=some b) (h:∀ tk,Q (.bool b) { s with toks:=tk }) :
 wpAny (model X.prog X.w) A (call (.builtin "isinstance") [u,cv]) Q E s:=by
 cases ty with
 | non=>rw [bN] at rd; subst rd; cases (show u=Qw from rx); exact R1 PySem.W.kitx_none I.nL Rj e (λz=>nomatch z) h
 | bl=>rw [cZ] at rd; subst rd; cases (show u=RJ _ from rx); exact R1 PySem.W.kitx_bool I.nL Rj e (λz=>nomatch z) h
 | int=>rw [aA] at rd; subst rd; obtain ⟨t,q⟩:=(show ∃ t,u=RN _ t from rx); cases q; exact R1 PySem.W.kitx_int I.nL Rj e (λz=>nomatch z) h
 | str=>rw [fm] at rd; subst rd; obtain ⟨t,q⟩:=(show ∃ t,u=Tv _ t from rx); cases q; exact R1 PySem.W.kitx_str I.nL Rj e (λz=>nomatch z) h
 | lst =>
  rw [aU] at rd
  obtain ⟨a,xs,rfl,h1,_⟩:=rd
  cases (show u=PJ a from rx)
  obtain ⟨its,_,p,_⟩:=I.list (sb.seq h1)
  obtain ⟨o,n1,p1,p2,_⟩:=p
  exact R1 PySem.W.kitx_list I.nL ⟨o,p1,p2⟩ e (λz=>nomatch z) h
 | tup =>
  rw [aG] at rd
  obtain ⟨a,xs,rfl,h1,_⟩:=rd
  cases (show u=PJ a from rx)
  obtain ⟨its,_,p,_⟩:=I.tuple (az sb h1)
  obtain ⟨o,p1,p2,_⟩:=p
  exact R1 PySem.W.kitx_tuple I.nL ⟨o,p1,p2⟩ e (λz=>nomatch z) h
 | @exc C k =>
  rw [DG] at rd
  obtain ⟨a,rfl,h1⟩:=rd
  cases (show u=PJ a from rx)
  have p:sN a C s.heap:=(show bz X.prog X.w H s.heap a (.ext (sN a C)) from I.hok a _ (sb _ _ h1)).1
  exact R1 (zQ k) I.nL p e (λz=>nomatch z) h
section
variable {K:O7} {c:Ctx P w K mg base k N sc bk}
def ic (mg:Str->Option Value) (x:Str) (cv:Value):Prop:=(∃ C,cv=.ref C/\mg x=some (.ref C))\/(∃ T,cv=.type T/\mg x=none/\bootBuiltins x=some (.type T)/\x≠"__name__")
theorem w9:bootBuiltins "isinstance"=some (.builtin "isinstance"):=by decide +kernel
theorem nY (hm:mg "isinstance"=none) (hc:ic mg x cv) (h:aL c e ρ λd=>∃ t b,wZ K d t/\QT K t cv=some b/\R (.bl b))
 (hgi:sc.names.lookup (O5 "isinstance")=some .globalImplicit:=by walk_at "u") (hgx:sc.names.lookup x=some .globalImplicit:=by walk_at "u") (hdx:(x == ("__debug__":Str))=false:=by decide)
 (he:∀ env,starEach [e,.Name x cp] env=(false,eval e env)::starEach [.Name x cp] env:=by intro _; walk_at "u") (he2:∀ env,starEach [.Name x cp] env=[(false,eval (.Name x cp) env)]:=by intro _; walk_at "u")
 (hpl:∀ env,(backTo pos (starEach [.Name x cp] env)).any (·.1)=false:=by intro _; walk_at "u"):aL c (.Call (.Name "isinstance" np) [e,.Name x cp] [] pos) ρ R:=λσ H Hf Q S q aa s I=>by
 refine Q5 (cW I (by unfold Gl P6; rw [c.esc]; exact hgi) (by rw [c.emg]; exact hm) w9 ?_ (by decide) (by decide))
 have hx:∀ (s1:Shared) (H1:Hp) (Q':Value->Shared->Prop),Inv c.X aa σ H1 s1->Q' cv s1->wpAny (model c.X.prog c.X.w) c.X.A (eval (.Name x cp) c.X.env) Q' c.X.xe s1:=λs1 H1 Q' I1 q'=>by
  rcases hc with ⟨C,rfl,hm'⟩ | ⟨T,rfl,hm',hb,hn⟩
  ·exact gW I1 (by unfold Gl P6; rw [c.esc]; exact hgx) (by rw [c.emg]; exact hm') q' hdx
  ·exact cW I1 (by unfold Gl P6; rw [c.esc]; exact hgx) (by rw [c.emg]; exact hm') hb q' hn hdx
 refine VH (spliced_more (h σ H Hf (λv H1=>∃ d aR,(∃ t b,wZ K d t/\QT K t cv=some b/\R (.bl b))/\Rep c.X.K aR d v/\br H Hf H1 aR) S (λd v H' aj hR r g=>⟨d,aj,hR,r,g⟩) aa s I |> (bC · λu s1 hh=>z2 hh λv H1 hh=>w3 hh λI1 rv hh=>z2 hh λd aR hh=>w3 hh λhh rd g=>z2 hh λt b hh=>w3 hh λty ek hR=>?_)) (he _)) (he _) (hpl _)
 refine spliced_more (hx s1 H1 _ I1 (spliced_none ?_)) (he2 _)
 refine DS I1 g.b rv rd (by rw [c.eK]; exact ty) (by rw [c.eK]; exact ek) λtk=>?_
 exact ⟨.bl b,H1,I1.tok tk,rfl,q _ _ H1 aR hR (cZ.mpr rfl) g⟩
end
section
variable {X:Cx}
theorem nZ (I:Inv X aa σ H s) (sb:aM Hf H):∀ (n:Nat) (d e:D) (v:V),jT n d e->Rep X.K Hf d v->Rep X.K Hf e v->d=e:=by
 intro n
 induction n with
 | zero =>
  intro d e v h r1 r2
  cases h with
  | sc h=>cases d <;> cases e <;> simp [jx] at h <;> simp_all [Rep]
  | ln=>rw [bN] at r2; subst r2; rw [aU] at r1; obtain ⟨_,_,e,_⟩:=r1; cases e
  | nl=>rw [bN] at r1; subst r1; rw [aU] at r2; obtain ⟨_,_,e,_⟩:=r2; cases e
  | tn=>rw [bN] at r2; subst r2; rw [aG] at r1; obtain ⟨_,_,e,_⟩:=r1; cases e
  | nt=>rw [bN] at r1; subst r1; rw [aG] at r2; obtain ⟨_,_,e,_⟩:=r2; cases e
 | succ n ih =>
  have els:∀ (ds es:List D) (xs:List V),(∀ (i:Nat) (d e:D),ds[i]?=some d->es[i]?=some e->jT n d e)->ak X.K Hf ds xs->ak X.K Hf es xs->ds=es:=λds es xs h q1 q2=>by
   apply Ud
   intro i
   cases a:ds[i]? with
   | none =>
    have:ds.length<=i:=by simpa using a
    symm
    rw [List.getElem?_eq_none_iff,q2.length,<- q1.length]; exact this
   | some d =>
    obtain ⟨x,ex,rx⟩:=q1.get a
    obtain ⟨e,ee,re⟩:=q2.get' ex
    rw [ee,ih d e x (h i d e a ee) rx re]
  intro d e v h r1 r2
  cases h with
  | sc h=>cases d <;> cases e <;> simp [jx] at h <;> simp_all [Rep]
  | ln=>rw [bN] at r2; subst r2; rw [aU] at r1; obtain ⟨_,_,e,_⟩:=r1; cases e
  | nl=>rw [bN] at r1; subst r1; rw [aU] at r2; obtain ⟨_,_,e,_⟩:=r2; cases e
  | tn=>rw [bN] at r2; subst r2; rw [aG] at r1; obtain ⟨_,_,e,_⟩:=r1; cases e
  | nt=>rw [bN] at r1; subst r1; rw [aG] at r2; obtain ⟨_,_,e,_⟩:=r2; cases e
  | tup h =>
   rw [aG] at r1 r2
   obtain ⟨a,xs,rfl,p1,q1⟩:=r1
   obtain ⟨a',ys,e',p2,q2⟩:=r2
   cases e'
   have:=I.gi (az sb p1) (az sb p2)
   subst this
   rw [els _ _ _ h q1 q2]
  | lst h =>
   rw [aU] at r1 r2
   obtain ⟨a,xs,rfl,p1,q1⟩:=r1
   obtain ⟨a',ys,e',p2,q2⟩:=r2
   cases e'
   have:=I.j8 (sb.seq p1) (sb.seq p2)
   subst this
   rw [els _ _ _ h q1 q2]
theorem n8 {α:Type} [BEq α] [LawfulBEq α] {a b:α} {i:Decidable (a=b)}:(a == b)=@decide (a=b) i:=by
 by_cases h:a=b
 ·subst h; simp
 ·simp [h]
theorem all_range {ds es:List D} (hn:ds.length=n) (hm:es.length=m) (h:n=m):((PZ n).all λj=>decide (ds[j]?=es[j]?))=decide (ds=es):=by
 rw [Tc,List.all_eq_true]
 simp only [List.mem_range,decide_eq_true_eq]
 constructor
 ·intro q
  apply Ud
  intro i
  by_cases hi:i<n
  ·exact q i hi
  ·rw [Ra (by lia),Ra (by lia)]
 ·rintro rfl; intro _ _; rfl
theorem uO (h:jx x y=true) (r1:Rep X.K Hf x v) (r2:Rep X.K Hf y v') (e1:RelV v u) (e2:RelV v' u'):PN A s u u' (decide (x=y)):=by
 cases x <;> cases y <;> simp [jx] at h <;> simp only [aA,cZ,bN,fm] at r1 r2 <;> subst r1 <;> subst r2
 case non.non=>cases e1; cases e2; simpa using PN.same _
 case non.bl b=>cases e1; cases e2; simpa using PN.none_bool (A:=A) (s:=s) b
 case non.int i=>cases e1; obtain ⟨t,rfl⟩:=e2; simpa using PN.none_int (A:=A) (s:=s) i t
 case non.str i=>cases e1; obtain ⟨t,rfl⟩:=e2; simpa using PN.none_str (A:=A) (s:=s) i t
 case bl.non b=>cases e1; cases e2; simpa using PN.bool_none (A:=A) (s:=s) b
 case bl.bl a b=>cases e1; cases e2; have q:=PN.bool_bool (A:=A) (s:=s) a b; rw [n8 (i:=inferInstance)] at q; simpa using q
 case bl.str a b=>cases e1; obtain ⟨t,rfl⟩:=e2; simpa using PN.bool_str (A:=A) (s:=s) a b t
 case int.non a=>obtain ⟨t,rfl⟩:=e1; cases e2; simpa using PN.int_none (A:=A) (s:=s) a t
 case int.int a b=>obtain ⟨t,rfl⟩:=e1; obtain ⟨t',rfl⟩:=e2; have q:=PN.int_int (A:=A) (s:=s) a t b t'; rw [n8 (i:=inferInstance)] at q; simpa using q
 case int.str a b=>obtain ⟨t,rfl⟩:=e1; obtain ⟨t',rfl⟩:=e2; simpa using PN.int_str (A:=A) (s:=s) a t b t'
 case str.non a=>obtain ⟨t,rfl⟩:=e1; cases e2; simpa using PN.str_none (A:=A) (s:=s) a t
 case str.bl a b=>obtain ⟨t,rfl⟩:=e1; cases e2; simpa using PN.str_bool (A:=A) (s:=s) a t b
 case str.int a b=>obtain ⟨t,rfl⟩:=e1; obtain ⟨t',rfl⟩:=e2; simpa using PN.str_int (A:=A) (s:=s) a t b t'
 case str.str a b=>obtain ⟨t,rfl⟩:=e1; obtain ⟨t',rfl⟩:=e2; have q:=PN.str_str (A:=A) (s:=s) a t b t'; rw [n8 (i:=inferInstance)] at q; simpa using q
theorem in1_units (A:Around):A.in1.units=A.units+1:=rfl
theorem uP:decide (D.tup ds=D.tup es)=decide (ds=es):=by simp
theorem jU:decide (D.lst ds=D.lst es)=decide (ds=es):=by simp
theorem n9 (I:Inv X aa σ H s) {A:Around} (h:∀ (i:Nat) (d e:D),ds[i]?=some d->es[i]?=some e->jT n d e)
 (ih:∀ (d e:D) (v v':V) (u u':Value) (A:Around),jT n d e->Rep X.K Hf d v->Rep X.K Hf e v'->RelV v u->RelV v' u'->A.units+n<cLine->PN A s u u' (decide (d=e)))
 (q1:ak X.K Hf ds xs) (q2:ak X.K Hf es ys) (r1:Vals xs us) (r2:Vals ys ws) (hu:A.in1.units+n<cLine) :
 ∀ j (h1:j<us.toArray.size) (h2:j<ws.toArray.size),PN A.in1 s us.toArray[j] ws.toArray[j] (decide (ds[j]?=es[j]?)):=λj h1 h2=>by
 have l1:=q1.length
 have l2:=q2.length
 have m1:=r1.length
 have m2:=r2.length
 simp only [PF] at h1 h2
 have hd:ds[j]?=some ds[j]:=PU (by lia)
 have he:es[j]?=some es[j]:=PU (by lia)
 obtain ⟨x,ex,rx⟩:=q1.get hd
 obtain ⟨y,ey,ry⟩:=q2.get he
 obtain ⟨u,eu,ru⟩:=r1.get ex
 obtain ⟨u',eu',ru'⟩:=r2.get ey
 have z1:us.toArray[j]=u:=by
  have:=PU h1
  rw [this] at eu
  simpa using eu
 have z2:ws.toArray[j]=u':=by
  have:=PU h2
  rw [this] at eu'
  simpa using eu'
 rw [z1,z2,hd,he]
 have q:=ih _ _ x y u u' A.in1 (h j _ _ hd he) rx ry ru ru' hu
 simpa using q
theorem mR (I:Inv X aa σ H s) (sb:aM Hf H):∀ (n:Nat) (d e:D) (v v':V) (u u':Value) (A:Around),jT n d e->Rep X.K Hf d v->Rep X.K Hf e v'->RelV v u->RelV v' u'->A.units+n<cLine->PN A s u u' (decide (d=e)):=by
 have non:∀ (n:Nat) (d e:D) (v v':V) (u u':Value) (A:Around),A.units<cLine->Rep X.K Hf d v->Rep X.K Hf e v'->RelV v u->RelV v' u' ->
  ((∃ ds,d=.lst ds/\e=.non)\/(∃ ds,d=.non/\e=.lst ds)\/(∃ ds,d=.tup ds/\e=.non)\/(∃ ds,d=.non/\e=.tup ds))->PN A s u u' (decide (d=e)):=by
  intro n d e v v' u u' A hu r1 r2 e1 e2 h
  rcases h with ⟨ds,rfl,rfl⟩ | ⟨ds,rfl,rfl⟩ | ⟨ds,rfl,rfl⟩ | ⟨ds,rfl,rfl⟩
  ·rw [bN] at r2; subst r2; rw [aU] at r1; obtain ⟨a,xs,rfl,p,_⟩:=r1; cases e1; cases e2
   obtain ⟨its,_,q,_⟩:=I.list (sb.seq p)
   simpa using PN.list_none (A:=A) q.isList hu
  ·rw [bN] at r1; subst r1; rw [aU] at r2; obtain ⟨a,xs,rfl,p,_⟩:=r2; cases e1; cases e2
   obtain ⟨its,_,q,_⟩:=I.list (sb.seq p)
   simpa using PN.none_list (A:=A) q.isList hu
  ·rw [bN] at r2; subst r2; rw [aG] at r1; obtain ⟨a,xs,rfl,p,_⟩:=r1; cases e1; cases e2
   obtain ⟨its,_,q,_⟩:=I.tuple (az sb p)
   simpa using PN.tuple_none (A:=A) (show s.heap.IsTuple a its.toArray from q) hu
  ·rw [bN] at r1; subst r1; rw [aG] at r2; obtain ⟨a,xs,rfl,p,_⟩:=r2; cases e1; cases e2
   obtain ⟨its,_,q,_⟩:=I.tuple (az sb p)
   simpa using PN.none_tuple (A:=A) (show s.heap.IsTuple a its.toArray from q) hu
 intro n
 induction n with
 | zero =>
  intro d e v v' u u' A h r1 r2 e1 e2 hu
  cases h with
  | sc h=>exact uO h r1 r2 e1 e2
  | ln=>exact non 0 _ _ _ _ _ _ A (by lia) r1 r2 e1 e2 (.inl ⟨_,rfl,rfl⟩)
  | nl=>exact non 0 _ _ _ _ _ _ A (by lia) r1 r2 e1 e2 (.inr (.inl ⟨_,rfl,rfl⟩))
  | tn=>exact non 0 _ _ _ _ _ _ A (by lia) r1 r2 e1 e2 (.inr (.inr (.inl ⟨_,rfl,rfl⟩)))
  | nt=>exact non 0 _ _ _ _ _ _ A (by lia) r1 r2 e1 e2 (.inr (.inr (.inr ⟨_,rfl,rfl⟩)))
 | succ n ih =>
  intro d e v v' u u' A h r1 r2 e1 e2 hu
  cases h with
  | sc h=>exact uO h r1 r2 e1 e2
  | ln=>exact non 0 _ _ _ _ _ _ A (by lia) r1 r2 e1 e2 (.inl ⟨_,rfl,rfl⟩)
  | nl=>exact non 0 _ _ _ _ _ _ A (by lia) r1 r2 e1 e2 (.inr (.inl ⟨_,rfl,rfl⟩))
  | tn=>exact non 0 _ _ _ _ _ _ A (by lia) r1 r2 e1 e2 (.inr (.inr (.inl ⟨_,rfl,rfl⟩)))
  | nt=>exact non 0 _ _ _ _ _ _ A (by lia) r1 r2 e1 e2 (.inr (.inr (.inr ⟨_,rfl,rfl⟩)))
  | @tup _ ds es h =>
   have hh:=jT.tup h
   have r1':=r1; have r2':=r2
   rw [aG] at r1 r2
   obtain ⟨a,xs,rfl,p1,q1⟩:=r1
   obtain ⟨b,ys,rfl,p2,q2⟩:=r2
   cases e1; cases e2
   by_cases hab:a=b
   ·subst hab
    have:=nZ I sb _ _ _ _ hh r1' r2'
    rw [this]
    simpa using PN.same _
   ·obtain ⟨us,v1,t1,_⟩:=I.tuple (az sb p1)
    obtain ⟨ws,v2,t2,_⟩:=I.tuple (az sb p2)
    have key:=Sb.tuples (A:=A) (s:=s) (show s.heap.IsTuple a us.toArray from t1) (show s.heap.IsTuple b ws.toArray from t2) (by lia) (n9 I h ih q1 q2 v1 v2 (by rw [in1_units]; lia))
    have hl1:us.toArray.size=ds.length:=by simp [<- v1.length,q1.length]
    have hl2:ws.toArray.size=es.length:=by simp [<- v2.length,q2.length]
    have e:((PZ (min us.toArray.size ws.toArray.size)).all (λj=>decide (ds[j]?=es[j]?)) && us.toArray.size == ws.toArray.size)=decide (D.tup ds=D.tup es):=by
     rw [uP,hl1,hl2]
     by_cases hl:ds.length=es.length
     ·rw [hl,Nat.min_self]
      simp only [beq_self_eq_true,Bool.and_true]
      exact all_range hl rfl rfl
     ·have:¬ ds=es:=λz=>hl (by rw [z])
      simp [hl,this]
    rw [e] at key
    exact .of_refs hab key
  | @lst _ ds es h =>
   have hh:=jT.lst h
   have r1':=r1; have r2':=r2
   rw [aU] at r1 r2
   obtain ⟨a,xs,rfl,p1,q1⟩:=r1
   obtain ⟨b,ys,rfl,p2,q2⟩:=r2
   cases e1; cases e2
   by_cases hab:a=b
   ·subst hab
    have:=nZ I sb _ _ _ _ hh r1' r2'
    rw [this]
    simpa using PN.same _
   ·obtain ⟨us,v1,t1,_⟩:=I.list (sb.seq p1)
    obtain ⟨ws,v2,t2,_⟩:=I.list (sb.seq p2)
    have hl1:us.toArray.size=ds.length:=by simp [<- v1.length,q1.length]
    have hl2:ws.toArray.size=es.length:=by simp [<- v2.length,q2.length]
    by_cases hl:ds.length=es.length
    ·have key:=Sb.lists (A:=A) (s:=s) t1.isList t2.isList (by rw [hl1,hl2,hl]) (by lia) (n9 I h ih q1 q2 v1 v2 (by rw [in1_units]; lia))
     rw [hl1,all_range rfl hl.symm rfl,<- jU] at key
     exact .of_refs hab key
    ·have key:=Sb.lists_lengths (A:=A) (s:=s) t1.isList t2.isList (by rw [hl1,hl2]; simpa using hl) (by lia)
     have e:decide (D.lst ds=D.lst es)=false:=by
      rw [jU]; exact decide_eq_false λz=>hl (by rw [z])
     rw [e]
     exact .of_refs hab key
theorem ql (I:Inv X aa σ H s) (sb:aM Hf H) (hu:A.units+50<cLine) (hk:(d=.tup ds/\e=.tup es)\/(d=.lst ds/\e=.lst es)) (h:lX ds es)
 (r1:Rep X.K Hf d v) (r2:Rep X.K Hf e v') (e1:RelV v u) (e2:RelV v' u'):Sb A s u u' (decide (d=e))/\UE A s u u' (!decide (d=e)):=by
 have ih:=mR I sb 40
 rcases hk with ⟨rfl,rfl⟩ | ⟨rfl,rfl⟩
 ·rw [aG] at r1 r2
  obtain ⟨a,xs,rfl,p1,q1⟩:=r1
  obtain ⟨b,ys,rfl,p2,q2⟩:=r2
  cases e1; cases e2
  obtain ⟨us,v1,t1,_⟩:=I.tuple (az sb p1)
  obtain ⟨ws,v2,t2,_⟩:=I.tuple (az sb p2)
  have els:=n9 (A:=A) I h ih q1 q2 v1 v2 (by rw [in1_units]; lia)
  have key:=Sb.tuples (A:=A) (s:=s) (show s.heap.IsTuple a us.toArray from t1) (show s.heap.IsTuple b ws.toArray from t2) (by lia) els
  have key2:=UE.tuples (A:=A) (s:=s) (show s.heap.IsTuple a us.toArray from t1) (show s.heap.IsTuple b ws.toArray from t2) (by lia) els
  have hl1:us.toArray.size=ds.length:=by simp [<- v1.length,q1.length]
  have hl2:ws.toArray.size=es.length:=by simp [<- v2.length,q2.length]
  have e:((PZ (min us.toArray.size ws.toArray.size)).all (λj=>decide (ds[j]?=es[j]?)) && us.toArray.size == ws.toArray.size)=decide (D.tup ds=D.tup es):=by
   rw [uP,hl1,hl2]
   by_cases hl:ds.length=es.length
   ·rw [hl,Nat.min_self]
    simp only [beq_self_eq_true,Bool.and_true]
    exact all_range hl rfl rfl
   ·have:¬ ds=es:=λz=>hl (by rw [z])
    simp [hl,this]
  rw [e] at key key2
  exact ⟨key,key2⟩
 ·rw [aU] at r1 r2
  obtain ⟨a,xs,rfl,p1,q1⟩:=r1
  obtain ⟨b,ys,rfl,p2,q2⟩:=r2
  cases e1; cases e2
  obtain ⟨us,v1,t1,_⟩:=I.list (sb.seq p1)
  obtain ⟨ws,v2,t2,_⟩:=I.list (sb.seq p2)
  have hl1:us.toArray.size=ds.length:=by simp [<- v1.length,q1.length]
  have hl2:ws.toArray.size=es.length:=by simp [<- v2.length,q2.length]
  by_cases hl:ds.length=es.length
  ·have els:=n9 (A:=A) I h ih q1 q2 v1 v2 (by rw [in1_units]; lia)
   have key:=Sb.lists (A:=A) (s:=s) t1.isList t2.isList (by rw [hl1,hl2,hl]) (by lia) els
   have key2:=UE.lists (A:=A) (s:=s) t1.isList t2.isList (by rw [hl1,hl2,hl]) (by lia) els
   rw [hl1,all_range rfl hl.symm rfl,<- jU] at key key2
   exact ⟨key,key2⟩
  ·have key:=Sb.lists_lengths (A:=A) (s:=s) t1.isList t2.isList (by rw [hl1,hl2]; simpa using hl) (by lia)
   have key2:=UE.lists_lengths (A:=A) (s:=s) t1.isList t2.isList (by rw [hl1,hl2]; simpa using hl) (by lia)
   have e:decide (D.lst ds=D.lst es)=false:=by
    rw [jU]; exact decide_eq_false λz=>hl (by rw [z])
   rw [e]
   exact ⟨key,key2⟩
end
section
variable {K:O7} {c:Ctx P w K mg base k N sc bk}
noncomputable def DT (K:O7) (neg:Bool):R2:=λv u H Q=>∃ x y Hf,aM Hf H/\Rep K Hf x v/\Rep K Hf y u/\Ll x y/\Q (.bl (if neg then !decide (x=y) else decide (x=y))) H
theorem HU:fL c.X (compareOp .Eq) (DT c.X.K false):=λaa s σ H v u v' u' Q I rv ru ⟨x,y,Hf,sb,rx,ry,ok,q⟩=>by
 rcases ok with h | ⟨ds,es,hk,hi⟩
 ·obtain ⟨z1,z2⟩:=uJ h rx ry
  exact K3 aa s σ H v u v' u' Q I rv ru ⟨z1,by rw [z2]; exact q⟩
 ·exact (ql I sb (by have:=c.room.un; lia) hk hi rx ry rv ru).1 _ _ _ _ ⟨.bl (decide (x=y)),H,I,rfl,q⟩
theorem HV:fL c.X (compareOp .NotEq) (DT c.X.K true):=λaa s σ H v u v' u' Q I rv ru ⟨x,y,Hf,sb,rx,ry,ok,q⟩=>by
 rcases ok with h | ⟨ds,es,hk,hi⟩
 ·obtain ⟨z1,z2⟩:=uJ h rx ry
  exact K4 aa s σ H v u v' u' Q I rv ru ⟨z1,by rw [z2]; exact q⟩
 ·exact (ql I sb (by have:=c.room.un; lia) hk hi rx ry rv ru).2 _ _ _ _ ⟨.bl (!decide (x=y)),H,I,rfl,q⟩
theorem HW:DN K (DT K false) λx y R=>CV x y R:=λx y v u H Hf Q R s rx ry ⟨h1,h2⟩ q=>⟨x,y,Hf,s,rx,ry,h1,q _ h2⟩
theorem HX:DN K (DT K true) λx y R=>CV x y λb=>R (!b):=λx y v u H Hf Q R s rx ry ⟨h1,h2⟩ q=>⟨x,y,Hf,s,rx,ry,h1,q _ h2⟩
theorem N3 (h:aL c a ρ λx=>aL c b ρ λy=>CV x y T):i7 c (.Compare a [.Eq] [b] pos) ρ T:=uI HU HW h (nM b)
theorem N4 (h:aL c a ρ λx=>aL c b ρ λy=>CV x y λb=>T (!b)):i7 c (.Compare a [.NotEq] [b] pos) ρ T:=uI HV HX h (nM b)
end
section
variable {P:Program} {w:World} {K:O7} {mg:Str->Option Value} {base:Heap} {k:Nat} {N:List Str} {sc:Scope} {bk:Bool} {c:Ctx P w K mg base k N sc bk} {ρ:List Sl} {pos:Pos} {a b e:Expr} {es:List Expr} {R:D->Prop} {T:Bool->Prop}
noncomputable def D.row:D->Option (List D)
 | .lst ds=>some ds
 | .tup ds=>some ds
 | _=>none
theorem ie (e:d.row=some ds) (h:Rep K H d v):∃ p xs,v=.ref p/\ak K H ds xs/\((d=.lst ds/\fk K H p xs)\/(d=.tup ds/\dh K H p xs)):=by
 cases d with
 | lst _=>cases e; rw [aU] at h; obtain ⟨p,xs,rfl,h1,h2⟩:=h; exact ⟨p,xs,rfl,h2,.inl ⟨rfl,h1⟩⟩
 | tup _=>cases e; rw [aG] at h; obtain ⟨p,xs,rfl,h1,h2⟩:=h; exact ⟨p,xs,rfl,h2,.inr ⟨rfl,h1⟩⟩
 | _=>cases e
def Kx (x y:D) (R:D->Prop):Prop:=∃ ds i d,x.row=some ds/\y=.int i/\jR ds i=some d/\R d
theorem uQ (h:jR ds i=some d) (hR:R d):Kx (.lst ds) (.int i) R:=⟨ds,i,d,rfl,rfl,h,hR⟩
theorem qm (h:jR ds i=some d) (hR:R d):Kx (.tup ds) (.int i) R:=⟨ds,i,d,rfl,rfl,h,hR⟩
theorem zR (h:ak K H ds xs) (e:jR ds i=some d):∃ x,jR xs i=some x/\Rep K H d x:=by
 unfold jR at e |-
 rw [<- h.length]
 obtain ⟨j,e1,e2⟩:=US.mp e
 obtain ⟨x,e3,rx⟩:=h.get e2
 exact ⟨x,by rw [e1]; exact e3,rx⟩
theorem LH (h:aL c a ρ λx=>aL c b ρ λy=>Kx x y R) (hs:jS b:=by intro _ _; walk_at "u"):aL c (.Subscript a b pos) ρ R:=λσ H Hf Q S q =>
 bK (Lb (F3.or Du Hs) c6 c6 hs) (h σ H Hf _ S λx v H1 aR h1 r1 g1=>h1 σ H1 aR _ (S.cD g1) λy u H2 cL ⟨ds,i,d,e1,e2,e3,hR⟩ r2 g2=>by
  subst e2
  rw [aA] at r2; subst r2
  obtain ⟨p,xs,rfl,hr,hk⟩:=ie e1 (Rep.mono g2.f x r1)
  obtain ⟨z,ez,rz⟩:=zR hr e3
  have fin:=q d z H2 cL hR rz (g1.trans g2)
  rcases hk with ⟨_,hk⟩ | ⟨_,hk⟩
  ·exact .inl ⟨p,xs,i,z,rfl,rfl,g2.b.seq hk,ez,fin⟩
  ·exact .inr ⟨p,xs,i,z,rfl,rfl,az g2.b hk,ez,fin⟩)
theorem uR (sb:aM Hf H) {d:D} (h:(d=.lst ds/\fk K Hf p xs)\/(d=.tup ds/\dh K Hf p xs)):fk K H p xs\/dh K H p xs:=h.elim (λz=>.inl (sb.seq z.2)) λz=>.inr (az sb z.2)
theorem zS:zO K (λxs H Q=>∃ p ys,xs=[.ref p]/\(fk K H p ys\/dh K H p ys)/\Q (.int ys.length) H) (λds R=>∃ x,ds=[x]/\∃ ys,x.row=some ys/\R (.int ys.length)):=by
 rintro ds vs H Hf Q R s rs ⟨x,rfl,ys,e,hR⟩ q
 obtain ⟨v,rfl,rv⟩:=mQ rs
 obtain ⟨p,xs,rfl,hr,hk⟩:=ie e rv
 exact ⟨p,xs,rfl,uR s hk,q _ _ H Hf hR (by rw [hr.length]; exact aA.mpr rfl) (.refl s)⟩
theorem e_len (hm:mg "len"=none) (h:aL c e ρ λx=>∃ ys,x.row=some ys/\R (.int ys.length)) (hg:sc.names.lookup (O5 "len")=some .globalImplicit:=by walk_at "u")
 (he:∀ env,starEach [e] env=(false,eval e env)::starEach [] env:=by intro _; walk_at "u"):aL c (.Call (.Name "len" p) [e] [] pos) ρ R :=
 qk nR zS hm PySem.boot_len (c7 (h.imp λd hd=>jy ⟨d,rfl,hd⟩) he) hg (by decide) (by decide) he (by intro _; walk_at "u")
theorem zT {R:Sl->Prop} (hm:mg "list"=none) (h:aL c e ρ λx=>∃ ys,x.row=some ys/\R (.ow ys)) (hg:sc.names.lookup (O5 "list")=some .globalImplicit:=by walk_at "u")
 (he:∀ env,starEach [e] env=(false,eval e env)::starEach [] env:=by intro _; walk_at "u"):cV c (.Call (.Name "list" p) [e] [] pos) ρ R :=
 LF nS (q:=λds R=>∃ x ys,ds=[x]/\x.row=some ys/\R (.ow ys)) (λds vs H Hf Q R s rs ⟨x,ys,e1,e2,hR⟩ q=>by
  subst e1
  obtain ⟨v,rfl,rv⟩:=mQ rs
  obtain ⟨p,xs,rfl,hr,hk⟩:=ie e2 rv
  exact ⟨p,xs,rfl,uR s hk,λl hl=>by
   have g2:=br.eU s hl (o:=.lst xs)
   exact q _ _ _ _ hR ⟨l,xs,rfl,hl,af,s.free hl,hr⟩ g2⟩) hm PyProof.Rows.boot_list (c7 (h.imp λd ⟨ys,h1,h2⟩=>jy ⟨d,ys,rfl,h1,h2⟩) he) hg (by decide) (by decide) he (by intro _; walk_at "u")
theorem uS (hm:mg "tuple"=none) (h:aL c e ρ λx=>∃ ys,x.row=some ys/\R (.tup ys)) (hg:sc.names.lookup (O5 "tuple")=some .globalImplicit:=by walk_at "u")
 (he:∀ env,starEach [e] env=(false,eval e env)::starEach [] env:=by intro _; walk_at "u"):aL c (.Call (.Name "tuple" p) [e] [] pos) ρ R :=
 LG lW (q:=λds R=>∃ x ys,ds=[x]/\x.row=some ys/\R (.tup ys)) (λds vs H Hf Q R s rs ⟨x,ys,e1,e2,hR⟩ q=>by
  subst e1
  obtain ⟨v,rfl,rv⟩:=mQ rs
  obtain ⟨p,xs,rfl,hr,hk⟩:=ie e2 rv
  rcases hk with ⟨_,hk⟩ | ⟨_,hk⟩
  ·exact ⟨p,xs,rfl,.inl ⟨s.seq hk,λl hl=>by
    have g2:=br.new s hl (o:=.tup xs)
    exact q _ _ _ _ hR (aG.mpr ⟨l,xs,rfl,.inl (.inl af),hr.mono g2.f⟩) g2⟩⟩
  ·exact ⟨p,xs,rfl,.inr ⟨az s hk,q _ _ H Hf hR (aG.mpr ⟨p,xs,rfl,hk,hr⟩) (.refl s)⟩⟩) hm PyProof.Rows.boot_tuple (c7 (h.imp λd ⟨ys,h1,h2⟩=>jy ⟨d,ys,rfl,h1,h2⟩) he) hg (by decide) (by decide) he (by intro _; walk_at "u")
noncomputable def Ga (K:O7):R2:=λx y H Q=>∃ l b xs zs,x=.ref l/\y=.ref b/\fk K H l xs/\fk K H b zs/\xs.length+zs.length<=sizeLine/\∀ p,H p=none->Q (.ref p) (upd H p (.lst (xs++zs)))
theorem uT:fL X (binaryOp .Add) (Ga X.K):=by
 intro aa s σ H x y v u Q I rx ry h
 obtain ⟨l,b,xs,zs,rfl,rfl,hH,hB,hz,q⟩:=h
 cases rx
 cases ry
 obtain ⟨its,r,hl,z⟩:=I.list hH
 obtain ⟨its2,r2,hl2,z2⟩:=I.list hB
 have e1:=r.length
 have e2:=r2.length
 obtain ⟨⟨cls,dd,data,sl⟩,n,p1,p2,p3,p4⟩:=hl
 obtain ⟨⟨cls2,dd2,data2,sl2⟩,n',q1,q2,q3,q4⟩:=hl2
 simp only at p2 p3 p4 q2 q3 q4
 subst p2 p3 p4 q2 q3 q4
 have ea:its.toArray++its2.toArray=(its++its2).toArray:=by simp
 refine UD ⟨_,p1,rfl⟩ ⟨_,q1,rfl⟩ noFill_list_add seq_list_add PySem.F.slot_list_add PySem.F.entry_list_add (PySem.F.args_list_add_2 _ _) (list_addW l b its.toArray its2.toArray n n' none none sl sl2 (by simp; lia)) ⟨p1,q1,?_⟩
 rw [ea]
 exact ⟨.ref _,_,I.Dw (t':=s.toks) (r.append r2) (by rw [P0]; lia),rfl,q _ I.fresh⟩
noncomputable def zU (K:O7):R2:=λx y H Q=>∃ a b xs ys,x=.ref a/\y=.ref b/\dh K H a xs/\dh K H b ys/\xs.length+ys.length<=sizeLine /\
 (xs=[]->Q (.ref b) H)/\(ys=[]->Q (.ref a) H)/\∀ p,H p=none->Q (.ref p) (upd H p (.tup (xs++ys)))
theorem zV:fL X (binaryOp .Add) (zU X.K):=by
 intro aa s σ H x y v u Q I rx ry h
 obtain ⟨t,b,xs,ys,rfl,rfl,hH,hB,hz,c1,c2,q⟩:=h
 cases rx
 cases ry
 obtain ⟨vs,r,ht,z⟩:=I.tuple hH
 obtain ⟨ws,r2,hb,z2⟩:=I.tuple hB
 obtain ⟨⟨cls,dd,data,sl⟩,ho,hc,n,hd⟩:=id ht
 obtain ⟨⟨cls2,dd2,data2,sl2⟩,ho2,hc2,n2,hd2⟩:=id hb
 simp only at hc hd hc2 hd2
 subst hc hd hc2 hd2
 have e:vs.toArray++ws.toArray=(vs++ws).toArray:=by simp
 have e1:=r.length
 have e2:=r2.length
 by_cases hv:vs=[]
 ·exact UD ⟨_,ho,rfl⟩ ⟨_,ho2,rfl⟩ Vs seq_tuple_add UX UR (UP _ _)
   (tuple_addW0 t b vs.toArray ws.toArray n n2 dd dd2 sl sl2 (by simp [hv])) ⟨ho,ho2,⟨.ref b,H,I,rfl,c1 (by rw [Vals.uD r] at hv; exact hv)⟩⟩
 ·by_cases hw:ws=[]
  ·exact UD ⟨_,ho,rfl⟩ ⟨_,ho2,rfl⟩ Vs seq_tuple_add UX UR (UP _ _)
    (tuple_addW1 t b vs.toArray ws.toArray n n2 dd dd2 sl sl2 (by simpa using hv) (by simp [hw])) ⟨ho,ho2,⟨.ref t,H,I,rfl,c2 (by rw [Vals.uD r2] at hw; exact hw)⟩⟩
  ·refine UD ⟨_,ho,rfl⟩ ⟨_,ho2,rfl⟩ Vs seq_tuple_add UX UR (UP _ _)
    (tuple_addW2 t b vs.toArray ws.toArray n n2 dd dd2 sl sl2 (by simpa using hv) (by simpa using hw) (by rw [PF,PF]; lia)) ⟨ho,ho2,?_⟩
   rw [e]
   refine ⟨.ref s.heap.objs.size,_,I.laid (t':=s.toks) (o:=.tup (xs++ys)) (λb ob q=>Pc _ q) (Pa _) ?_,rfl,q _ (I.hok.fresh (Pa _))⟩
   exact ⟨by rw [P0]; exact hz,_,r.append r2,IsTup.new _ _⟩
inductive kB:D->D->(Sl->Prop)->Prop where
 | int {i j:Int} {R:Sl->Prop} (h:R (.va (.int (i+j)))):kB (.int i) (.int j) R
 | lst {ds es:List D} {R:Sl->Prop} (h:Sd (ds.length+es.length<=sizeLine) (R (.ow (ds++es)))):kB (.lst ds) (.lst es) R
 | tup {ds es:List D} {R:Sl->Prop} (h:Sd (ds.length+es.length<=sizeLine) (R (.va (.tup (ds++es))))):kB (.tup ds) (.tup es) R
 | str {x y:Str} {R:Sl->Prop} (h:Sd (x.length+y.length<=sizeLine) (R (.va (.str (x++y))))):kB (.str x) (.str y) R
theorem jz (h:ak K H ds []):ds=[]:=by
 have:=h.length; cases ds with
 | nil=>rfl
 | cons _ _=>simp at this
theorem DU:MY K (λx y H Q=>(((wO λi j=>V.int (i+j)) x y H Q\/Ga K x y H Q)\/zU K x y H Q)\/∃ i j,x=.str i/\y=.str j/\i.length+j.length<=sizeLine/\Q (.str (i++j)) H) kB:=by
 rintro x y v u H Hf Q R s rx ry h q
 cases h with
 | @int i j _ h =>
  rw [aA] at rx ry
  exact .inl (.inl (.inl ⟨i,j,rx,ry,q (.va (.int (i+j))) _ H Hf h (show Rep K Hf (.int (i+j)) _ from aA.mpr rfl) (.refl s)⟩))
 | @lst ds es _ h =>
  rw [aU] at rx ry
  obtain ⟨a,xs,rfl,h1,h2⟩:=rx
  obtain ⟨b,ys,rfl,h3,h4⟩:=ry
  refine .inl (.inl (.inr ⟨a,b,xs,ys,rfl,rfl,s.seq h1,s.seq h3,by rw [<- h2.length,<- h4.length]; exact h.s,λp hp=>?_⟩))
  exact q (.ow (ds++es)) _ _ _ h.r ⟨p,xs++ys,rfl,hp,af,s.free hp,h2.append h4⟩ (br.eU s hp)
 | @tup ds es _ h =>
  rw [aG] at rx ry
  obtain ⟨a,xs,rfl,h1,h2⟩:=rx
  obtain ⟨b,ys,rfl,h3,h4⟩:=ry
  refine .inl (.inr ⟨a,b,xs,ys,rfl,rfl,az s h1,az s h3,by rw [<- h2.length,<- h4.length]; exact h.s,λe=>?_,λe=>?_,λp hp=>?_⟩)
  ·subst e
   have:=jz h2
   subst this
   exact q (.va (.tup ([]++es))) _ H Hf h.r (show Rep K Hf (.tup ([]++es)) _ from aG.mpr ⟨b,ys,rfl,h3,h4⟩) (.refl s)
  ·subst e
   have:=jz h4
   subst this
   exact q (.va (.tup (ds++[]))) _ H Hf h.r (show Rep K Hf (.tup (ds++[])) _ from aG.mpr ⟨a,xs,rfl,h1,by rw [Qp]; exact h2⟩) (.refl s)
  ·have g:=br.new s hp (o:=.tup (xs++ys))
   exact q (.va (.tup (ds++es))) _ _ _ h.r (show Rep K _ (.tup (ds++es)) _ from aG.mpr ⟨p,xs++ys,rfl,.inl (.inl af),(h2.append h4).mono g.f⟩) g
 | @str x y _ h =>
  rw [fm] at rx ry
  exact .inr ⟨x,y,rx,ry,h.s,q (.va (.str (x++y))) _ H Hf h.r (show Rep K Hf (.str (x++y)) _ from fm.mpr rfl) (.refl s)⟩
theorem Gb {R:Sl->Prop} (h:aL c a ρ λx=>aL c b ρ λy=>kB x y R):cV c (.BinOp a .Add b pos) ρ R :=
 nX (fL.or (fL.or (fL.or G7 uT) zV) sG) DU h
noncomputable def cutD {α:Type} (xs:List α) (lo hi:Option Int):List α:=(xs.drop (HT.b9 xs.length 0 lo)).take (HT.b9 xs.length xs.length hi - HT.b9 xs.length 0 lo)
theorem qo (h:ak K H ds xs) (lo hi):ak K H (cutD ds lo hi) (nP xs lo hi):=by
 unfold cutD nP
 rw [h.length]
 exact (h.drop _).take _
noncomputable def bP (X:Cx) (e:Option Expr):TO:=λσ H Q=>∀ aa s,Inv X aa σ H s->wpAny (model X.prog X.w) X.A (evalPart e X.env) (λu s'=>∃ o H',Inv X aa σ H' s'/\IsPart u o/\Q o H') X.xe s
theorem LJ {X:Cx} {e:Option Expr}:PO X e (bP X e):=λaa s σ H Q I h=>h aa s I
def CW (c:Ctx P w K mg base k N sc bk) (e:Option Expr) (ρ:List Sl) (R:Option Int->Prop):Prop :=
 ∀ (σ:L2.St) (H Hf:Hp) (Q:Option Int->Hp->Prop),bB c σ H Hf ρ->(∀ o H' aj,R o->br H Hf H' aj->Q o H')->bP c.X e σ H Q
theorem HY {R:Option Int->Prop} (h:R none):CW c none ρ R:=λσ H Hf Q S q aa s I=>Dr aa s σ H Q I (q none H Hf h (.refl S.sb))
theorem HZ {R:Option Int->Prop} (h:aL c e ρ (I1 λi=>R (some i))):CW c (some e) ρ R:=λσ H Hf Q S q aa s I =>
 Ds c6 aa s σ H Q I (h σ H Hf _ S λd v H' aj ⟨i,e,hR⟩ r g=>by subst e; rw [aA] at r; exact ⟨i,r,q _ H' aj hR g⟩)
noncomputable def LK (K:O7):V->Option Int->Option Int->Hp->VK->Prop:=λx lo hi H Q=>∃ a xs,x=.ref a/\dh K H a xs /\
 (HT.b9 xs.length 0 lo=0/\HT.b9 xs.length xs.length hi=xs.length)/\Q (.ref a) H
theorem gy {lo hi:Option Int} (ht:IsTup s.heap t items) (hs:s.heap.IsSliceOf sl vl vu .none) (pl:IsPart vl lo) (pu:IsPart vu hi)
 (hw:HT.b9 items.size 0 lo=0/\HT.b9 items.size items.size hi=items.size) (h:Q (.ref t) s):wpAny (model prog w) A (getItem (.ref t) (.ref sl)) Q E s:=by
 obtain ⟨os,hos,hcs,hds⟩:=id hs
 have hTs:s.TypeIs (.ref sl) "slice":=⟨os,hos,hcs⟩
 unfold getItem
 try with_reducible refine QL ?_
 first | refine O6 (O8 ?_) | skip
 refine O6 (Vf ht.typeIs (by decide) ?_)
 refine O6 (Q9 (name:=O5 "__getitem__") ht.typeIs Sf
  (QO Sf ht.typeIs entry_tuple_getitem ?_ (args_tuple_getitem _ _)))
 show wpAny _ _ (Builtin.Tuple.tupleItemsOf (.ref t) >>= _) _ _ s
 refine O6 (tupleItemsOf_ ht ?_)
 refine O6 (RC hTs ?_)
 rw [if_pos (by decide)]
 refine O6 (HT.eT hs pl pu ?_)
 have hyes:((((HT.b9 items.size 0 lo:Nat):Int) == 0 && (1:Int) == 1 && (HT.b9 items.size items.size hi - HT.b9 items.size 0 lo) == items.size)=true):=by
  rw [hw.1,hw.2]; simp
 show wpAny _ _ (if (((HT.b9 items.size 0 lo:Nat):Int) == 0 && (1:Int) == 1 && (HT.b9 items.size items.size hi - HT.b9 items.size 0 lo) == items.size)=true then _ else _) _ _ s
 rw [if_pos hyes]
 obtain ⟨⟨cls,dd,data,sl'⟩,ho,hc,n,hd⟩:=id ht
 simp only at hc hd
 subst hc hd
 unfold Builtin.Tuple.tupleIsExact
 wp_walk using TU ho
 exact ⟨_,rfl,O8 h⟩
theorem zW:CT X (LK X.K):=by
 intro aa s σ H x v vl vu lo hi sl Q I rx hs pl pu h
 obtain ⟨a,xs,rfl,hx,hw,q⟩:=h
 cases rx
 obtain ⟨its,r,ht,hz⟩:=I.tuple hx
 have hlen:its.toArray.size=xs.length:=by rw [PF]; exact r.length.symm
 refine ⟨"tuple",_,Sf.lookup,ht.typeIs,?_⟩
 exact gy ht hs pl pu (by rw [hlen]; exact hw) ⟨.ref a,H,I,rfl,q⟩
inductive Ia:D->Option Int->Option Int->(Sl->Prop)->Prop where
 | lst {ds:List D} {lo hi:Option Int} {R:Sl->Prop} (h:R (.ow (cutD ds lo hi))):Ia (.lst ds) lo hi R
 | tup {ds:List D} {lo hi:Option Int} {R:Sl->Prop} (h:R (.va (.tup (cutD ds lo hi)))):Ia (.tup ds) lo hi R
theorem xg {lo hi:Option Int} (h:HT.b9 xs.length 0 lo=0/\HT.b9 xs.length xs.length hi=xs.length):cutD xs lo hi=xs:=by
 unfold cutD; rw [h.1,h.2]; simp
theorem uU {lo hi:Option Expr} {R:Sl->Prop} (h:aL c e ρ λx=>CW c lo ρ λl=>CW c hi ρ λu=>Ia x l u R):cV c (.Subscript e (.Slice lo hi none p2) pos) ρ R:=λσ H Hf Q S q =>
 bK (zk (CT.or (CT.or Dv Hr) zW) c6 LJ LJ) (h σ H Hf _ S λx v H1 aR h1 r1 g1=>h1 σ H1 aR _ (S.cD g1) λl H2 cL h2 g2=>h2 σ H2 cL _ (S.cD (g1.trans g2)) λu H3 Hf3 h3 g3=>by
  have r3:=Rep.mono g3.f x (Rep.mono g2.f x r1)
  have g:=(g1.trans g2).trans g3
  cases h3 with
  | lst h =>
   rw [aU] at r3
   obtain ⟨a,xs,rfl,k1,k2⟩:=r3
   refine .inl (.inl ⟨a,xs,rfl,g3.b.seq k1,λp hp=>?_⟩)
   exact q _ _ _ _ h ⟨p,_,rfl,g.s.free hp,af,g3.b.free hp,qo k2 l u⟩ (g.trans (br.eU g3.b hp))
  | tup h =>
   rw [aG] at r3
   obtain ⟨a,xs,rfl,k1,k2⟩:=r3
   by_cases hw:HT.b9 xs.length 0 l=0/\HT.b9 xs.length xs.length u=xs.length
   ·refine .inr ⟨a,xs,rfl,az g3.b k1,hw,?_⟩
    refine q _ _ _ _ h (show Rep c.X.K Hf3 _ _ from aG.mpr ⟨a,xs,rfl,k1,?_⟩) g
    rw [xg (by rw [k2.length]; exact hw)]; exact k2
   ·refine .inl (.inr ⟨a,xs,rfl,az g3.b k1,hw,λp hp=>?_⟩)
    have g4:=br.new g3.b hp (o:=.tup (nP xs l u))
    exact q _ _ _ _ h (show Rep c.X.K _ _ _ from aG.mpr ⟨p,_,rfl,.inl (.inl af),(qo k2 l u).mono g4.f⟩) (g.trans g4))
theorem zX (a:br H₀ c9 H1 aR) (b:br H₀ aR H Hf):br H₀ c9 H Hf :=
 ⟨b.s,a.f.trans b.f,b.b,λc h1 h2 h3=>b.n c (a.n c h1 h2 h3) h2 h3⟩
theorem cH.re (a:br H₀ c9 H1 aR) (S:cH K H₀ aR σ H Hf ρ):cH K H₀ c9 σ H Hf ρ:=⟨zX a S.bas,S.len,S.at_,S.sep⟩
theorem cH.anew (S:cH K H₀ c9 σ H Hf ρ):cH K H₀ Hf σ H Hf ρ:=⟨⟨S.bas.s,.refl _,S.bas.b,λ_ h _ _=>h⟩,S.len,S.at_,S.sep⟩
noncomputable def Ctx.at_ (c:Ctx P w K mg base k N sc bk) {H1 aR:Hp} (a:br c.B c.Hf H1 aR):Ctx P w K mg base k N sc bk :=
 { X:=c.X,eP:=c.eP,ew:=c.ew,eK:=c.eK,emg:=c.emg,eb:=c.eb,eN:=c.eN,esc:=c.esc,calm:=c.calm,top:=c.top,cb:=c.cb,fn:=c.fn,room:=c.room,nd:=c.nd,vis:=c.vis,B:=c.B,Hf:=aR,RX:=c.RX,RM:=c.RM,
   exc:=λC x aa σ H aj ρ s H' s' I S h X sm=>c.exc C x aa σ H aj ρ s H' s' I (S.re a) h X sm,mde:=λC x aa σ H aj ρ s h' us I S h hx=>c.mde C x aa σ H aj ρ s h' us I (S.re a) h hx }
theorem zF.at_ {nx:List Sl->Prop} {p:Pt} {D:Ends} {H1 aR:Hp} (a:br c.B c.Hf H1 aR) (o:zF c nx p D):zF (c.at_ a) nx p D :=
 ⟨λσ H Hf ρ S q=>o.nx σ H Hf ρ (cH.re a S) q,λr v H Hf g rv q=>o.rt r v H Hf (zX a g) rv q,λσ H Hf ρ S q=>o.bk σ H Hf ρ (cH.re a S) q,λσ H Hf ρ S q=>o.ct σ H Hf ρ (cH.re a S) q⟩
noncomputable def bI (X:Cx) (tg iter:Expr):TI:=λσ H R=>∀ aa s,Inv X aa σ H s->wpAny (model X.prog X.w) X.A (eval iter X.env) (λv s1=>wpAny (model X.prog X.w) X.A (pyIter v) (Nv X aa σ tg R) X.xe s1) X.xe s
theorem OC {X:Cx} {tg iter:Expr}:PI X tg iter (bI X tg iter):=λaa s σ H R I h=>h aa s I
structure i8 (K:O7) (J:It) (ds:List D) (c9:Hp):Prop where
 go:∀ i d H Hf,aM c9 Hf->aM Hf H->ds[i]?=some d->J.go i H/\∀ x H',J.yld i H x H'->∃ aj,br H Hf H' aj/\Rep K aj d x
 stop:∀ i H Hf,aM c9 Hf->aM Hf H->ds.length<=i->J.stop i H
def uV (c:Ctx P w K mg base k N sc bk) (tg iter:Expr) (ρ:List Sl) (R:List D->Prop):Prop :=
 ∀ (σ:L2.St) (H Hf:Hp) (Q:It->Hp->Prop),bB c σ H Hf ρ->(∀ ds J H' aj,R ds->br H Hf H' aj->i8 c.X.K J ds aj->Q J H')->bI c.X tg iter σ H Q
theorem xh {K:O7} {ds:List D} {xs:List V} {p:Addr} {c9:Hp} (h:fk K c9 p xs) (r:ak K c9 ds xs):i8 K (Ny K p) ds c9 where
 go:=λi d H Hf s1 s2 e=>by
  obtain ⟨x,ex,rx⟩:=r.get e
  refine ⟨⟨xs,x,(s1.trans s2).seq h,ex⟩,λy H' ⟨e1,e2⟩=>?_⟩
  subst e1
  have:=e2 xs ((s1.trans s2).seq h)
  rw [ex] at this; cases this
  exact ⟨Hf,.refl s2,Rep.mono s1 d rx⟩
 stop:=λi H Hf s1 s2 e=>⟨xs,(s1.trans s2).seq h,by rw [<- r.length]; exact e⟩
theorem zY {K:O7} {ds:List D} {xs:List V} {p:Addr} {c9:Hp} (h:dh K c9 p xs) (r:ak K c9 ds xs):i8 K (Nz K p) ds c9 where
 go:=λi d H Hf s1 s2 e=>by
  obtain ⟨x,ex,rx⟩:=r.get e
  refine ⟨⟨xs,x,az (s1.trans s2) h,ex⟩,λy H' ⟨e1,e2⟩=>?_⟩
  subst e1
  have:=e2 xs (az (s1.trans s2) h)
  rw [ex] at this; cases this
  exact ⟨Hf,.refl s2,Rep.mono s1 d rx⟩
 stop:=λi H Hf s1 s2 e=>⟨xs,az (s1.trans s2) h,by rw [<- r.length]; exact e⟩
noncomputable def N5 (K:O7) (tl:TE):TI:=λσ H R=>tl σ H λx H1=>∃ a,x=.ref a/\(((∃ xs,fk K H1 a xs)/\R (Ny K a) H1)\/((∃ xs,dh K H1 a xs)/\R (Nz K a) H1))
theorem Ib (hl:PE X l tl):PI X tg l (N5 X.K tl):=by
 intro aa s σ H R I h
 refine bC (hl aa s σ H _ I h) λv s1 ⟨x,H1,I1,r1,q1⟩=>?_
 obtain ⟨a,e,h⟩:=q1
 subst e
 cases r1
 rcases h with ⟨⟨xs,hq⟩,q⟩ | ⟨⟨xs,hq⟩,q⟩
 ·obtain ⟨its,rv,p,hz⟩:=I1.list hq
  refine Rv p.isList ?_
  refine ⟨s1.heap.objs.size,[s1.heap.objs.size],_,_,H1,rfl,I1.kept (t':=s1.toks) λb o e=>Pc _ e,cX a _,⟨_,Pp _ rfl,rfl,rfl⟩,λb hb=>?_,q⟩
  have e:b=s1.heap.objs.size:=by simpa using hb
  subst e
  exact I1.j9 (Pa _) (I1.hok.fresh (Pa _))
 ·obtain ⟨its,rv,p,hz⟩:=I1.tuple hq
  refine Va (show s1.heap.IsTuple a its.toArray from p) ?_
  refine ⟨s1.heap.objs.size,[s1.heap.objs.size],_,_,H1,rfl,I1.kept (t':=s1.toks) λb o e=>Pc _ e,sD a _,⟨_,Pp _ rfl,rfl,rfl⟩,λb hb=>?_,q⟩
  have e:b=s1.heap.objs.size:=by simpa using hb
  subst e
  exact I1.j9 (Pa _) (I1.hok.fresh (Pa _))
theorem cB {R:List D->Prop} (h:aL c e ρ λd=>∃ ds,d.row=some ds/\R ds):uV c tg e ρ R:=λσ H Hf Q S q aa s I =>
 Ib c6 aa s σ H Q I (h σ H Hf _ S λd v H' aj ⟨ds,er,hR⟩ r g=>by
  obtain ⟨p,xs,rfl,hr,hk⟩:=ie er r
  refine ⟨p,rfl,?_⟩
  rcases hk with ⟨_,hk⟩ | ⟨_,hk⟩
  ·exact .inl ⟨⟨xs,g.b.seq hk⟩,q ds _ H' aj hR g (xh hk hr)⟩
  ·exact .inr ⟨⟨xs,az g.b hk⟩,q ds _ H' aj hR g (zY hk hr)⟩)
noncomputable def lZ (lo:Int) (n:Nat):List D:=(PZ n).map λ(i:Nat)=>D.int (lo+(i:Int))
theorem zZ {K:O7} {lo:Int} {n:Nat} {c9:Hp}:i8 K (MX lo n) (lZ lo n) c9 where
 go:=λi d H Hf s1 s2 e=>by
  unfold lZ at e
  rw [Pk] at e
  obtain ⟨j,e1,e2⟩:=Pq.mp e
  have hi:i<n:=by
   have:=(Ph.mp e1).1
   simpa using this
  have:j=i:=by
   rw [SO hi] at e1; cases e1; rfl
  subst this
  refine ⟨hi,λx H' ⟨e3,e4⟩=>?_⟩
  subst e3 e4 e2
  exact ⟨Hf,.refl s2,aA.mpr rfl⟩
 stop:=λi H Hf s1 s2 e=>by
  show n<=i
  simpa [lZ] using e
def Aa (i:Int):Prop:= -(2 ^ 62)<=i/\i<2 ^ 62
theorem fO {R:List D->Prop} (hm:mg "range"=none) (h:aL c e ρ (I1 λj=>Sd (Aa j) (R (lZ 0 j.toNat)))) (hg:sc.names.lookup (O5 "range")=some .globalImplicit:=by walk_at "u")
 (hs:∀ env,starEach [e] env=(false,eval e env)::starEach [] env:=by intro _; walk_at "u"):uV c tg (.Call (.Name "range" p) [e] [] pos) ρ R:=λσ H Hf Q S q aa s I =>
 wM (by unfold Gl P6; rw [c.esc]; exact hg) (by rw [c.emg]; exact hm) (bM c6 dD (hs _)) (hs _) aa s σ H Q I (h σ H Hf _ S λd v H' aj ⟨j,ed,⟨hj,hR⟩⟩ r g=>by
  subst ed; rw [aA] at r; subst r
  exact ⟨j,rfl,hj.1,hj.2,q _ _ H' aj hR g zZ⟩)
theorem cN {tg iter:Expr} {body:List Stmt} {nx:List Sl->Prop} {p:Pt} (hq:c.X.xe=λ_ _=>False)
 (h:uV c tg iter ρ λds=>∃ I:Nat->List Sl->Prop,I 0 ρ /\
   (∀ c':Ctx P w K mg base k N sc bk,c'.X=c.X->c'.RX=c.RX->c'.RM=c.RM->∀ i d ρ',ds[i]?=some d->I i ρ'->ku c' tg d ρ' λρ''=>aH c' body ρ'' (I (i+1)) { rt:=p.rt,bk:=nx,ct:=I (i+1) })/\∀ ρ',I ds.length ρ'->nx ρ')
 (hs:∀ env x,foldedSetIterable iter env x=pure x:=by intro _ _; walk_at "u"):eV c (.For tg iter body [] pos) ρ nx p:=λσ H Hf D S o =>
 dW (yZ (by rw [hq]; exact PassesOwn.never) c.calm OC OY nW (hs _)) (h σ H Hf _ S λds J H1 aR ⟨I,h0,hb,he⟩ g io=>by
  have S1:=S.cD g
  have gb:br c.B c.Hf H1 aR:=S1.bas
  refine ⟨λi m σ H=>m=ds.length - i/\i<=ds.length/\∃ Hf ρ',bB (c.at_ gb) σ H Hf ρ'/\I i ρ',⟨_,rfl,PY _,aR,ρ,S1.anew,h0⟩,?_⟩
  rintro i m σ H ⟨rfl,hi,Hf,ρ',S',hI⟩
  by_cases hlt:i<ds.length
  ·have ed:ds[i]?=some ds[i]:=PU hlt
   obtain ⟨hgo,hy⟩:=io.go i _ H Hf S'.bas.f S'.bas.b ed
   refine .inr ⟨hgo,λσ' H'=>∃ aj ρ'',bB (c.at_ gb) σ' H' aj ρ''/\I (i+1) ρ'',λσ' H' ⟨aj,ρ'',S'',hI'⟩=>⟨_,by omega,rfl,hlt,aj,ρ'',S'',hI'⟩,λx H' hx=>?_⟩
   obtain ⟨aj,g',rx⟩:=hy x H' hx
   refine hb (c.at_ gb) rfl rfl rfl i _ ρ' ed hI σ H' aj x _ (S'.cD g') rx λσ2 H2 cL ρ2 S2 _ hbody=>?_
   exact hbody σ2 H2 cL _ S2 ⟨λσ H Hf ρ S q=>⟨Hf,ρ,S,q⟩,(o.at_ gb).rt,λσ H Hf ρ S q=>(o.at_ gb).nx σ H Hf ρ S q,λσ H Hf ρ S q=>⟨Hf,ρ,S,q⟩⟩
  ·have e:i=ds.length:=by omega
   subst e
   exact .inl ⟨io.stop _ H Hf S'.bas.f S'.bas.b (Pa _),(o.at_ gb).nx σ H Hf ρ' S' (he ρ' hI)⟩)
end
section
variable {K:O7}
end
section
variable {K:O7} {R:D->Prop}
theorem Ab (h:R d):HH R (.va d):=⟨d,rfl,h⟩
theorem dJ (h:R (.lst ds)):HH R (.ow ds):=⟨.lst ds,rfl,h⟩
theorem Ic (h:aL c a ρ λx=>aL c b ρ λy=>kB x y (HH R)):aL c (.BinOp a .Add b pos) ρ R:=e_x (Gb h)
theorem qj.imp {R R':List D->Prop} (h:qj c es ρ R) (hi:∀ d,R d->R' d):qj c es ρ R':=λσ H Hf Q S q=>h σ H Hf Q S λd v H' aj rd=>q d v H' aj (hi d rd)
theorem Ie (h:qj c es ρ λds=>Sd (ds.length<=sizeLine) (R (.lst ds))):aL c (.List es pos) ρ R:=e_x (F8 (h.imp λds hd=>⟨hd.s,dJ hd.r⟩))
theorem Ac {lo hi:Option Expr} (h:aL c e ρ λx=>CW c lo ρ λl=>CW c hi ρ λu=>Ia x l u (HH R)):aL c (.Subscript e (.Slice lo hi none p2) pos) ρ R:=e_x (uU h)
theorem Ad {R:Sl->Prop} (h:R (.va (.int (i+j)))):kB (.int i) (.int j) R:=.int h
theorem Ae {ds es:List D} {R:Sl->Prop} (h:Sd (ds.length+es.length<=sizeLine) (R (.ow (ds++es)))):kB (.lst ds) (.lst es) R:=.lst h
theorem Af {ds es:List D} {R:Sl->Prop} (h:Sd (ds.length+es.length<=sizeLine) (R (.va (.tup (ds++es))))):kB (.tup ds) (.tup es) R:=.tup h
theorem Ig {b:Bool} (ty:wZ K d t) (e:QT K t cv=some b) (h:R (.bl b)):∃ t b,wZ K d t/\QT K t cv=some b/\R (.bl b):=⟨t,b,ty,e,h⟩
theorem LL (h:aL c a ρ λx=>aL c b ρ λy=>Kx x y R) (hs:jS b:=by with_unfolding_all exact λ_ _=>rfl):aL c (.Subscript a b pos) ρ R:=LH h hs
theorem LM {x:D} {Q:List D->Prop} (e:x.row=some ds) (h:Q ds):∃ ys,x.row=some ys/\Q ys:=⟨ds,e,h⟩
theorem aC {F:Fn} {R:Sl->Prop} (h:F ds (.ok sl)) (r:R sl):∃ r,F ds r/\HQ c ρ R r:=⟨_,h,r⟩
end
section
variable {K:O7}
end
noncomputable def del (H:Hp) (p:Addr):Hp:=λb=>if b=p then none else H b
theorem ig:del H p p=none:=if_pos rfl
theorem cu (h:b≠p):del H p b=H b:=if_neg h
theorem Ag (h:H₀ p=none) (s:aM H₀ H):aM H₀ (del H p):=λb o e=>by
 rw [cu (aE e h)]; exact s b o e
theorem ir (h:del H p b=some o):b≠p/\H b=some o:=by
 by_cases e:b=p
 ·subst e; rw [ig] at h; cases h
 ·rw [cu e] at h; exact ⟨e,h⟩
theorem gj (sb:aM Hf H) (hp:Hf p=none):br (del H p) Hf (upd H p o) Hf :=
 ⟨λb u e=>by obtain ⟨h1,h2⟩:=ir e; rw [ah h1]; exact h2,.refl _,λb u e=>by rw [ah (aE e hp)]; exact sb b u e,λ_ h _ _=>h⟩
section
variable {K:O7}
theorem aY.qp (ho:r.owned=true) (h:aY K fr H Hf r v):∃ p o,v=.ref p/\fr p/\H p=some o/\Hf p=none/\¬ zD H p:=by
 have nf:∀ {p:Addr} {u:HO},H p=some u->(∀ φ,u≠.ext φ)->¬ zD H p:=λe k ⟨z,e2⟩=>by rw [e] at e2; exact k _ (QS e2)
 cases r with
 | un=>cases ho
 | va d=>cases ho
 | fo s=>cases ho
 | ow ds=>obtain ⟨p,xs,rfl,f,h1,h2,_⟩:=h; exact ⟨p,_,rfl,f,h1,h2,nf h1 (by intro _ z; cases z)⟩
 | oT ds=>obtain ⟨p,xs,rfl,f,h1,h2,_⟩:=h; exact ⟨p,_,rfl,f,h1,h2,nf h1 (by intro _ z; cases z)⟩
 | oK ds=>obtain ⟨p,xs,rfl,f,h1,h2,_⟩:=h; exact ⟨p,_,rfl,f,h1,h2,nf h1 (by intro _ z; cases z)⟩
 | aw a ds=>obtain ⟨p,xs,rfl,f,h1,h2,_⟩:=h; exact ⟨p,_,rfl,f.1,h1,h2,nf h1 (by intro _ z; cases z)⟩
 | aT a ds=>obtain ⟨p,xs,rfl,f,h1,h2,_⟩:=h; exact ⟨p,_,rfl,f.1,h1,h2,nf h1 (by intro _ z; cases z)⟩
 | aK a ds=>obtain ⟨p,xs,rfl,f,h1,h2,_⟩:=h; exact ⟨p,_,rfl,f.1,h1,h2,nf h1 (by intro _ z; cases z)⟩
theorem aY.qt (ho:r.owned=true) (h:aY K fr H Hf r v):∃ p o,v=.ref p/\fr p/\H p=some o/\Hf p=none :=
 let ⟨p,o,a,b,c,d,_⟩:=h.qp ho; ⟨p,o,a,b,c,d⟩
theorem aY.LN (nf:¬ zD H p) (hv:r.owned=true->v≠.ref p) (h:aY K fr H Hf r v):aY K fr (del H p) Hf r v :=
 aY.mv (B:=λq=>q=p) (.refl _) (λq o hq e1 _ e3=>⟨by rw [cu hq]; exact e1,e3⟩) (λ_ q e=>by subst e; exact nf) (λho q z e=>by subst e; exact hv ho z) h
theorem cH.own (S:cH K H₀ c9 σ H Hf ρ) {i:Nat} (hi:ρ[i]?=some r) (ho:r.owned=true):∃ p,σ[i]?=some (some (.ref p))/\aY K (λp=>H₀ p=none) H Hf r (.ref p):=by
 obtain ⟨v,e,q⟩:=S.at_ i r hi (by rintro rfl; cases ho)
 obtain ⟨p,o,rfl,_⟩:=q.qt ho
 exact ⟨p,e,q⟩
theorem cH.upd (S:cH K H₀ c9 σ H Hf ρ) (hi:ρ[i]?=some r) (ho:r.owned=true) (hp:σ[i]?=some (some (.ref p))) (g:br (del H p) Hf H1 aR)
 (hr:aY K (λq=>q=p) H1 aR r' (.ref p)) (ho':r'.owned=true):cH K H₀ c9 σ H1 aR (ρ.set i r'):=by
 obtain ⟨p',ep,q⟩:=S.own hi ho
 rw [hp] at ep; cases ep
 obtain ⟨_,o,e,fp,hHp,hfp,nfz⟩:=q.qp ho
 cases e
 have hlt:i<ρ.length:=(Ph.mp hi).1
 refine ⟨⟨(Ag fp S.bas.s).trans g.s,S.bas.f.trans g.f,g.b,λb h1 h2 h3=>?_⟩,by simp [S.len],λj r1 hj hu=>?_,λj j' r1 r2 q' hne h1 h2 o1 o2=>?_⟩
 ·have hb:b≠p:=λz=>by subst z; exact h2 fp
  cases z:H₀ b with
  | none=>exact absurd z h2
  | some o1 =>
   have e1:=S.bas.s b o1 z
   refine g.n b (S.bas.n b h1 h2 h3) (by rw [cu hb,e1]; simp) λxs=>?_
   rw [cu hb,e1,<- z]; exact h3 xs
 ·by_cases e:j=i
  ·subst e
   rw [Qm hlt] at hj; cases hj
   exact ⟨_,hp,hr.weak λq' z=>by subst z; exact fp⟩
  ·rw [Qe (Py e)] at hj
   obtain ⟨v,e1,e2⟩:=S.at_ j r1 hj hu
   exact ⟨v,e1,(e2.LN (p:=p) nfz λow z=>by subst z; exact S.sep i j _ _ p (Py e) hi hj ho ow hp e1).cD g⟩
 ·have out:∀ {j:Nat} {r1:Sl},(ρ.set i r')[j]?=some r1->r1.owned=true->∃ r2,ρ[j]?=some r2/\r2.owned=true:=λ{j r1} hj how=>by
   by_cases e:j=i
   ·subst e; exact ⟨r,hi,ho⟩
   ·rw [Qe (Py e)] at hj; exact ⟨r1,hj,how⟩
  obtain ⟨r3,a1,a2⟩:=out h1 o1
  obtain ⟨r4,b1,b2⟩:=out h2 o2
  exact S.sep j j' r3 r4 q' hne a1 b1 a2 b2
end
section
variable {K:O7} {c:Ctx P w K mg base k N sc bk}
theorem Ctx.i9 (c:Ctx P w K mg base k N sc bk) (hN:At N i x) (hd:(x == ("__debug__":Str))=false) (hcd:(x == ("__classdict__":Str))=false):PE c.X (.Name x px) (KL i) :=
 sC (X:=c.X) (i:=i) (by rw [c.eN]; exact hN.get) (by rw [c.esc]; rcases c.vis x hN.mem with h | h; exact .inl h; exact .inr (.inl h)) hd hcd
noncomputable def Sl.getL:Sl->Option (List D) | .ow ds=>some ds | .aw _ ds=>some ds | _=>none
noncomputable def Sl.putL:Sl->List D->Sl | .ow _,es=>.ow es | .aw a _,es=>.aw a es | s,_=>s
theorem c8 {r:Sl} (h:r.getL=some ds):r.owned=true:=by cases r <;> first | rfl | cases h
theorem gD {r:Sl} {ds es:List D} (h:r.getL=some ds):(r.putL es).owned=true:=by cases r <;> first | rfl | cases h
theorem Ih {p:Addr} (h:r.getL=some ds) (q:aY K fr H Hf r (.ref p)):∃ xs,H p=some (.lst xs)/\Hf p=none/\ak K Hf ds xs:=by
 cases r with
 | ow es=>cases h; obtain ⟨_,xs,e,_,h1,h2,h3⟩:=q; cases e; exact ⟨xs,h1,h2,h3⟩
 | aw a es=>cases h; obtain ⟨_,xs,e,_,h1,h2,h3⟩:=q; cases e; exact ⟨xs,h1,h2,h3⟩
 | _=>cases h
theorem kC {ds es:List D} {p:Addr} (h:r.getL=some ds) (q:aY K fr H Hf r (.ref p)) (h1:H1 p=some (.lst ys)) (h2:aR p=none) (h3:ak K aR es ys) :
 aY K (λq=>q=p) H1 aR (r.putL es) (.ref p):=by
 cases r with
 | ow _=>exact ⟨p,ys,rfl,rfl,h1,h2,h3⟩
 | aw a _=>obtain ⟨_,xs,e,f,_⟩:=q; cases e; exact ⟨p,ys,rfl,⟨rfl,f.2⟩,h1,h2,h3⟩
 | _=>cases h
theorem Ah (hN:At N i x) (hi:At ρ i r) (hr:r.getL=some ds) (h:aL c e ρ λd=>Sd (ds.length<sizeLine) (Nx ρ i nx (r.putL (ds++[d]))))
 (hs:∀ env,swapsWith (.Call (.Attribute (.Name x px) "append" ap) [e] [] cp) none pos.line env=pure false:=by intro _; walk_at "u") (hd:(x == ("__debug__":Str))=false:=by decide) (hcd:(x == ("__classdict__":Str))=false:=by decide)
 (hbase:∀ env,attributeBase (.Name x px) "append" env (eval (.Name x px) env)=eval (.Name x px) env:=by intro _; walk_at "u")
 (hfew:∀ env,((backTo cp (starEach [e] env)).all (λx=> !x.1) && (backToKw cp (keywordEach [] env)).all (λx=>x.1.isSome)
   && decide (([e]:List Expr).length+([]:List Keyword).length+(if ([]:List Keyword).isEmpty then 0 else 1)<30))=true:=by intro _; walk_at "u")
 (hline:(ap.endLine == cp.line)=true:=by walk_at "u") (he:∀ env,starEach [e] env=(false,eval e env)::starEach [] env:=by intro _; walk_at "u") (hpl:∀ env,(backTo cp (starEach [] env)).any (·.1)=false:=by intro _; walk_at "u") :
 eV c (.Expr (.Call (.Attribute (.Name x px) "append" ap) [e] [] cp) pos) ρ nx p:=λσ H Hf D S o=>by
 obtain ⟨q,eq,rq⟩:=S.own hi.get (c8 hr)
 obtain ⟨xs,h1,h2,h3⟩:=Ih hr rq
 refine dW (jP (Lc PySem.F.plainAttrs_list PySem.F.slot_list_append PySem.F.type_list_append mD (c.i9 hN hd hcd) (bM c6 dD (he _)) (hbase _) (hfew _) hline (he _) (hpl _)) (hs _)) ⟨_,eq,.inl ⟨rfl,xs,.inl (.inl h1)⟩,?_⟩
 refine h σ H Hf _ S λd v H' aj ⟨hz,ρ',hs',hn⟩ rd g=>?_
 have S':=S.cD g
 have e1:H' q=some (.lst xs):=g.s _ _ h1
 have e2:aj q=none:=g.n q h2 (by rw [h1]; simp) (by intro ys; rw [h1]; simp)
 refine ⟨q,xs,v,rfl,rfl,e1,by rw [<- h3.length]; exact hz,?_⟩
 refine o.nx _ _ aj ρ' ?_ hn
 rw [hs'.eq]
 have rq':=rq.cD g
 exact S'.upd hi.get (c8 hr) eq (gj g.b e2) (kC hr rq' af e2 ((h3.mono g.f).append (.one rd))) (gD hr)
end
section
variable {κ β:Type} [DecidableEq κ]
noncomputable def bD (kvs:List (κ×β)) (k:κ):Option β:=(kvs.find? λkv=>decide (kv.1=k)).map (·.2)
noncomputable def putD (kvs:List (κ×β)) (k:κ) (v:β):List (κ×β) :=
 if (bD kvs k).isSome=true then kvs.map (λkv=>if kv.1=k then (kv.1,v) else kv) else kvs++[(k,v)]
theorem bx {q:κ×β} {r:List (κ×β)} {k:κ} (e:q.1=k):bD (q::r) k=some q.2:=by simp [bD,Q0,e]
theorem aW {q:κ×β} {r:List (κ×β)} {k:κ} (e:¬ q.1=k):bD (q::r) k=bD r k:=by simp [bD,Q0,e]
end
noncomputable def D.xj:D->Option Key | .int i=>some (.inl i) | .str x=>some (.inr x) | _=>none
noncomputable def D.keys:List D->Option (List Key)
 | []=>some []
 | d::r=>match d.xj,D.keys r with | some k,some ks=>some (k::ks) | _,_=>none
theorem iu {K:O7} (h:d.xj=some k) (r:Rep K H d v):v=kV k:=by
 cases d with
 | int i=>cases h; exact aA.mp r
 | str x=>cases h; exact fm.mp r
 | _=>cases h
theorem ja {K:O7}:∀ {ds:List D} {ks:List Key} {xs:List V},D.keys ds=some ks->ak K H ds xs->xs=ks.map kV
 | [],ks,xs,h,r=>by cases h; rw [aB.mp r]; rfl
 | d::ds,ks,xs,h,r=>by
  obtain ⟨x,t,rfl,r1,r2⟩:=aF.mp r
  unfold D.keys at h
  cases e1:d.xj with
  | none=>rw [e1] at h; cases h
  | some k =>
   cases e2:D.keys ds with
   | none=>rw [e1,e2] at h; cases h
   | some ks' =>
    rw [e1,e2] at h; cases h
    rw [iu e1 r1,ja e2 r2]; rfl
noncomputable def Sl.Ge:Sl->Bool | .oK _=>true | .aK _ _=>true | .oT _=>true | .aT _ _=>true | _=>false
theorem qu {r:Sl} (h:r.Ge=true):r.owned=true:=by cases r <;> first | rfl | cases h
noncomputable def Sl.sR:Sl->Option (List (Key×D)) | .oK kvs=>some kvs | .aK _ kvs=>some kvs | _=>none
noncomputable def Sl.qv:Sl->List (Key×D)->Sl | .oK _,es=>.oK es | .aK a _,es=>.aK a es | s,_=>s
noncomputable def Sl.xm:Sl->Option (List (List Key×D)) | .oT kvs=>some kvs | .aT _ kvs=>some kvs | _=>none
noncomputable def Sl.Ai:Sl->List (List Key×D)->Sl | .oT _,es=>.oT es | .aT a _,es=>.aT a es | s,_=>s
theorem kD {r:Sl} (h:r.sR=some kvs):r.owned=true:=by cases r <;> first | rfl | cases h
theorem kE {r:Sl} (h:r.sR=some kvs):(r.qv es).owned=true:=by cases r <;> first | rfl | cases h
theorem sS {r:Sl} (h:r.xm=some kvs):(r.Ai es).owned=true:=by cases r <;> first | rfl | cases h
section
variable {K:O7} {fr:Addr->Prop} {H Hf H1 aR:Hp} {r:Sl} {p:Addr}
theorem xo (h:r.sR=some kvs) (q:aY K fr H Hf r (.ref p)):∃ xs,H p=some (.dK xs)/\Hf p=none/\lN K Hf kvs xs:=by
 cases r with
 | oK es=>cases h; obtain ⟨_,xs,e,_,h1,h2,h3⟩:=q; cases e; exact ⟨xs,h1,h2,h3⟩
 | aK a es=>cases h; obtain ⟨_,xs,e,_,h1,h2,h3⟩:=q; cases e; exact ⟨xs,h1,h2,h3⟩
 | _=>cases h
theorem DV (h:r.xm=some kvs) (q:aY K fr H Hf r (.ref p)):∃ xs,H p=some (.dT xs)/\Hf p=none/\lO K Hf kvs xs:=by
 cases r with
 | oT es=>cases h; obtain ⟨_,xs,e,_,h1,h2,h3⟩:=q; cases e; exact ⟨xs,h1,h2,h3⟩
 | aT a es=>cases h; obtain ⟨_,xs,e,_,h1,h2,h3⟩:=q; cases e; exact ⟨xs,h1,h2,h3⟩
 | _=>cases h
theorem qw (h:r.sR=some kvs) (q:aY K fr H Hf r (.ref p)) (h1:H1 p=some (.dK ys)) (h2:aR p=none) (h3:lN K aR es ys):aY K (λq=>q=p) H1 aR (r.qv es) (.ref p):=by
 cases r with
 | oK _=>exact ⟨p,ys,rfl,rfl,h1,h2,h3⟩
 | aK a _=>obtain ⟨_,xs,e,f,_⟩:=q; cases e; exact ⟨p,ys,rfl,⟨rfl,f.2⟩,h1,h2,h3⟩
 | _=>cases h
theorem Aj (h:r.xm=some kvs) (q:aY K fr H Hf r (.ref p)) (h1:H1 p=some (.dT ys)) (h2:aR p=none) (h3:lO K aR es ys):aY K (λq=>q=p) H1 aR (r.Ai es) (.ref p):=by
 cases r with
 | oT _=>exact ⟨p,ys,rfl,rfl,h1,h2,h3⟩
 | aT a _=>obtain ⟨_,xs,e,f,_⟩:=q; cases e; exact ⟨p,ys,rfl,⟨rfl,f.2⟩,h1,h2,h3⟩
 | _=>cases h
noncomputable def Ak (K:O7) (Hf:Hp):Option D->Option V->Prop
 | none,none=>True
 | some d,some v=>Rep K Hf d v
 | _,_=>False
theorem lN.val (h:lN K Hf kvs xs) (k:Key):Ak K Hf (bD kvs k) (kj xs k):=by
 unfold lN at h
 induction h with
 | nil=>exact Rj
 | @cons a b as bs h t ih =>
  by_cases e:a.1=k
  ·rw [bx e,ko (h.1.symm.trans e)]; exact h.2
  ·rw [aW e,kq (λz=>e (h.1.trans z))]; exact ih
theorem Ak.isSome (h:Ak K Hf o u):o.isSome=u.isSome:=by
 cases o <;> cases u <;> first | rfl | exact h.elim
theorem lN.put (h:lN K Hf kvs xs) (k:Key) (rd:Rep K Hf d v):lN K Hf (putD kvs k d) (putK xs k v):=by
 have e:=(h.val k).isSome
 unfold putD putK
 rw [e,p9]
 by_cases q:(kj xs k).isSome=true
 ·rw [if_pos q,if_pos q]
  unfold lN at h |-
  clear e q
  induction h with
  | nil=>exact .nil
  | @cons a b as bs h t ih =>
   rw [Pd,Pd]
   refine .cons ?_ ih
   by_cases e:a.1=k
   ·rw [if_pos e,if_pos (h.1.symm.trans e)]; exact ⟨h.1,rd⟩
   ·rw [if_neg e,if_neg (λz=>e (h.1.trans z))]; exact h
 ·rw [if_neg q,if_neg q]; exact UL h ⟨rfl,rd⟩
theorem lO.val (h:lO K Hf kvs xs) (k):Ak K Hf (bD kvs k) (atT xs k):=by
 unfold lO at h
 induction h with
 | nil=>exact Rj
 | @cons a b as bs h t ih =>
  by_cases e:a.1=k
  ·have z:L2.atT (b::bs) k=some b.2.2:=by simp [L2.atT,Q0,h.1.symm.trans e]
   rw [bx e,z]; exact h.2.2
  ·have z:L2.atT (b::bs) k=L2.atT bs k:=by
    have:¬ b.1=k:=λz=>e (h.1.trans z)
    simp [L2.atT,Q0,this]
   rw [aW e,z]; exact ih
theorem lO.put (h:lO K Hf kvs xs) (k) (hb:dh K Hf b (k.map kV)) (rd:Rep K Hf d v):lO K Hf (putD kvs k d) (qe xs k b v):=by
 have e:=(h.val k).isSome
 unfold putD qe
 rw [e]
 by_cases q:(atT xs k).isSome=true
 ·rw [if_pos q,if_pos q]
  unfold lO at h |-
  clear e q
  induction h with
  | nil=>exact .nil
  | @cons a b' as bs h t ih =>
   rw [Pd,Pd]
   refine .cons ?_ ih
   unfold nT
   by_cases e:a.1=k
   ·rw [if_pos e,if_pos (h.1.symm.trans e)]; exact ⟨h.1,h.2.1,rd⟩
   ·rw [if_neg e,if_neg (λz=>e (h.1.trans z))]; exact h
 ·rw [if_neg q,if_neg q]; exact UL h ⟨rfl,hb,rd⟩
theorem lO.Al (h:lO K Hf kvs xs):∀ x∈xs,dh K Hf x.2.1 (x.1.map kV):=by
 unfold lO at h
 induction h with
 | nil=>intro x hx; cases hx
 | @cons a b as bs h t ih =>
  intro x hx
  rcases Pg.mp hx with e | hx
  ·subst e; rw [<- h.1]; exact h.2.1
  ·exact ih x hx
inductive Gf:Sl->D->Option D->Prop
 | k {r:Sl} {kvs:List (Key×D)} {d:D} {k:Key} (h:r.sR=some kvs) (hk:d.xj=some k):Gf r d (bD kvs k)
 | t {r:Sl} {kvs:List (List Key×D)} {ds:List D} {k:List Key} (h:r.xm=some kvs) (hk:D.keys ds=some k):Gf r (.tup ds) (bD kvs k)
inductive DW:Sl->D->D->Sl->Prop
 | k {r:Sl} {kvs:List (Key×D)} {d e:D} {k:Key} (h:r.sR=some kvs) (hk:d.xj=some k) (hz:kvs.length<sizeLine):DW r d e (r.qv (putD kvs k e))
 | t {r:Sl} {kvs:List (List Key×D)} {ds:List D} {e:D} {k:List Key} (h:r.xm=some kvs) (hk:D.keys ds=some k) (hz:kvs.length<sizeLine):DW r (.tup ds) e (r.Ai (putD kvs k e))
theorem DW.owned' (h:DW r d e r'):r'.owned=true:=by cases h with | k h _ _=>exact kE h | t h _ _=>exact sS h
theorem Gf.get (h:Gf r d o) (q:aY K fr H Hf r (.ref p)) (rv:Rep K Hf d v) (sb:aM Hf H):∃ u,nU K H p v u/\Ak K Hf o u:=by
 cases h with
 | k h hk =>
  obtain ⟨xs,h1,_,h3⟩:=xo h q
  rw [iu hk rv]
  exact ⟨_,.inl ⟨xs,_,.inl h1,rfl,rfl⟩,h3.val _⟩
 | t h hk =>
  obtain ⟨xs,h1,_,h3⟩:=DV h q
  obtain ⟨a,ys,rfl,h4,h5⟩:=aG.mp rv
  have:=ja hk h5
  subst this
  exact ⟨_,.inr ⟨xs,_,a,.inl h1,λx hx=>az sb (h3.Al x hx),rfl,az sb h4,rfl⟩,h3.val _⟩
theorem lN.length (h:lN K Hf kvs xs):kvs.length=xs.length:=Q4 h
theorem lO.length (h:lO K Hf kvs xs):kvs.length=xs.length:=Q4 h
theorem DW.put (h:DW r d e r') (q:aY K fr H Hf r (.ref p)) (rv:Rep K Hf d v) (ry:Rep K Hf e y) (sb:aM Hf H) :
 ∃ o,Dz K H p v y (upd H p o)/\aY K (λq=>q=p) (upd H p o) Hf r' (.ref p):=by
 cases h with
 | k h hk hz =>
  obtain ⟨xs,h1,h2,h3⟩:=xo h q
  rw [iu hk rv]
  exact ⟨_,.inl ⟨xs,_,h1,rfl,by rw [<- h3.length]; exact hz,rfl⟩,qw h q af h2 (h3.put _ ry)⟩
 | t h hk hz =>
  obtain ⟨xs,h1,h2,h3⟩:=DV h q
  obtain ⟨a,ys,rfl,h4,h5⟩:=aG.mp rv
  have:=ja hk h5
  subst this
  exact ⟨_,.inr ⟨xs,_,a,h1,λx hx=>az sb (h3.Al x hx),rfl,az sb h4,by rw [<- h3.length]; exact hz,rfl⟩,Aj h q af h2 (h3.put _ h4 ry)⟩
end
section
variable {K:O7} {c:Ctx P w K mg base k N sc bk}
theorem Ctx.hu (c:Ctx P w K mg base k N sc bk):c.X.A.units+1<cLine:=Lh c.room
theorem uW {R:Sl->Prop} (h:R (.oK [])):cV c (.Dict [] [] pos) ρ R:=λσ H Hf Q S q =>
 bK zz λp hp=>q (.oK []) (.ref p) _ Hf h ⟨p,[],rfl,hp,af,S.sb.free hp,.nil⟩ (br.eU S.sb hp)
theorem DX {R:Sl->Prop} (h:R (.oT [])):cV c (.Dict [] [] pos) ρ R:=λσ H Hf Q S q =>
 bK zA λp hp=>q (.oT []) (.ref p) _ Hf h ⟨p,[],rfl,hp,af,S.sb.free hp,.nil⟩ (br.eU S.sb hp)
theorem Ii (hN:At N i x) (hi:At ρ i r) (h:aL c e ρ λdk=>aL c f ρ λdf=>∃ o,Gf r dk o/\R (o.getD df)) (hd:(x == ("__debug__":Str))=false:=by decide) (hcd:(x == ("__classdict__":Str))=false:=by decide) (ho:r.Ge=true:=by rfl)
 (m1:∀ env,attributeBase (.Name x px) "get" env (eval (.Name x px) env)=eval (.Name x px) env:=by intro _; walk_at "u")
 (m2:∀ env,((backTo cp (starEach [e,f] env)).all (λx=> !x.1) && (backToKw cp (keywordEach [] env)).all (λx=>x.1.isSome)
   && decide (([e,f]:List Expr).length+([]:List Keyword).length+(if ([]:List Keyword).isEmpty then 0 else 1)<30))=true:=by intro _; walk_at "u")
 (m3:(ap.endLine == cp.line)=true:=by walk_at "u") (m4:∀ env,backTo cp (starEach [e,f] env)=[(false,eval e env),(false,eval f env)]:=by intro _; walk_at "u") :
 aL c (.Call (.Attribute (.Name x px) "get" ap) [e,f] [] cp) ρ R:=λσ H Hf Q S q=>by
 obtain ⟨p,ep,rp⟩:=S.own hi.get (qu ho)
 have Ig:NV H p:=by
  cases r with
  | oK kvs=>obtain ⟨xs,h1,_⟩:=xo (r:=.oK kvs) rfl rp; exact .inl ⟨xs,.inl h1⟩
  | aK a kvs=>obtain ⟨xs,h1,_⟩:=xo (r:=.aK a kvs) rfl rp; exact .inl ⟨xs,.inl h1⟩
  | oT kvs=>obtain ⟨xs,h1,_⟩:=DV (r:=.oT kvs) rfl rp; exact .inr ⟨xs,.inl h1⟩
  | aT a kvs=>obtain ⟨xs,h1,_⟩:=DV (r:=.aT a kvs) rfl rp; exact .inr ⟨xs,.inl h1⟩
  | _=>cases ho
 refine bK (zB c.hu (c.i9 hN hd hcd) c6 c6 ⟨m1 _,m2 _,m3,m4 _⟩) ⟨_,ep,p,rfl,Ig,h σ H Hf _ S λdk v H1 aR h1 rv g1=>h1 σ H1 aR _ (S.cD g1) λdf y H2 cL ⟨o,lk,hR⟩ ry g2=>?_⟩
 obtain ⟨u,dg,rel⟩:=lk.get (rp.cD (g1.trans g2)) (Rep.mono g2.f _ rv) g2.b
 refine ⟨u,dg,?_⟩
 cases o with
 | none=>cases u with
  | none=>exact q df y H2 cL hR ry (g1.trans g2)
  | some _=>exact rel.elim
 | some d=>cases u with
  | none=>exact rel.elim
  | some v'=>exact q d v' H2 cL hR rel (g1.trans g2)
theorem Ij (hN:At N i x) (hi:At ρ i r) (h:aL c e ρ λdv=>aL c b ρ λdk=>∃ r',DW r dk dv r'/\Nx ρ i nx r') (ho:r.owned=true:=by rfl)
 (hs:∀ env,swapsWith e (some (.Subscript (.Name x px) b tp)) pos.line env=pure false:=by intro _; walk_at "u") (hd:(x == ("__debug__":Str))=false:=by decide) (hcd:(x == ("__classdict__":Str))=false:=by decide) :
 eV c (.Assign [.Subscript (.Name x px) b tp] e pos) ρ nx p:=λσ H Hf D S o=>by
 obtain ⟨p,ep,rp⟩:=S.own hi.get ho
 refine dW (DC c.hu (c.i9 hN hd hcd) c6 c6 (hs _)) (h σ H Hf _ S λdv v H1 aR h1 rv g1=>⟨_,ep,h1 σ H1 aR _ (S.cD g1) λdk y H2 cL ⟨r',pt,ρ',hs',hn⟩ ry g2=>?_⟩)
 have g:=g1.trans g2
 obtain ⟨ob,dp,rp'⟩:=pt.put (rp.cD g) ry (Rep.mono g2.f _ rv) g.b
 refine ⟨p,_,rfl,dp,o.nx _ _ cL ρ' ?_ hn⟩
 rw [hs'.eq]
 obtain ⟨_,_,e0,_,_,hf⟩:=(rp.cD g).qt ho
 cases e0
 exact (S.cD g).upd hi.get ho ep (gj g.b hf) rp' pt.owned'
theorem uX (hN:At N i x) (hi:At ρ i r) (h:aL c b ρ λdk=>∃ m:Int,Gf r dk (some (.int m))/\aL c e ρ (I1 λj=>∃ r',DW r dk (.int (m+j)) r'/\Nx ρ i nx r')) (ho:r.owned=true:=by rfl)
 (ha:∀ ov iv new,augStore b ov iv new=(do holding [new,ov,iv] (setItem ov iv new); release [new,ov,iv] []; pure .next):=by intro _ _ _; walk_at "u") (hd:(x == ("__debug__":Str))=false:=by decide) (hcd:(x == ("__classdict__":Str))=false:=by decide) :
 eV c (.AugAssign (.Subscript (.Name x px) b tp) .Add e pos) ρ nx p:=λσ H Hf D S o=>by
 obtain ⟨p,ep,rp⟩:=S.own hi.get ho
 have hop:K8 c.X .Add (wO λi j=>.int (i+j)):=Dj
 refine dW (DE c.hu (c.i9 hN hd hcd) c6 c6 hop ha) ⟨_,ep,h σ H Hf _ S λdk y H1 aR ⟨m,lk,h1⟩ ry g1=>?_⟩
 obtain ⟨u,dg,rel⟩:=lk.get (rp.cD g1) ry g1.b
 cases u with
 | none=>exact rel.elim
 | some u =>
  have eu:u=V.int m:=(aA (K:=c.X.K) (H:=aR)).mp rel
  subst eu
  refine ⟨p,_,rfl,dg,h1 σ H1 aR _ (S.cD g1) λdj y2 H2 cL ⟨j,ej,r',pt,ρ',hs',hn⟩ ry2 g2=>?_⟩
  subst ej
  rw [aA.mp ry2]
  have g:=g1.trans g2
  obtain ⟨ob,dp,rp'⟩:=pt.put (rp.cD g) (Rep.mono g2.f _ ry) (v:=y) (y:=.int (m+j)) (aA.mpr rfl) g.b
  refine ⟨m,j,rfl,rfl,_,dp,o.nx _ _ cL ρ' ?_ hn⟩
  rw [hs'.eq]
  obtain ⟨_,_,e0,_,_,hf⟩:=(rp.cD g).qt ho
  cases e0
  exact (S.cD g).upd hi.get ho ep (gj g.b hf) rp' pt.owned'
theorem Gg (hN:At N i x) (hi:At ρ i r) (h:aL c e ρ λdk=>∃ o,Gf r dk o/\T o.isSome) (ho:r.owned=true:=by rfl) (hm:behindInMarks CmpOp.In (.Name x px)=false:=by walk_at "u")
 (hd:(x == ("__debug__":Str))=false:=by decide) (hcd:(x == ("__classdict__":Str))=false:=by decide):i7 c (.Compare e [.In] [.Name x px] pos) ρ T:=λσ H Hf Q S q=>by
 obtain ⟨p,ep,rp⟩:=S.own hi.get ho
 refine uG (GV (Hy c.hu c6 (c.i9 hN hd hcd)) hm) (h σ H Hf _ S λdk y H1 aR ⟨o,lk,hT⟩ ry g=>⟨_,ep,?_⟩)
 obtain ⟨u,dg,rel⟩:=lk.get (rp.cD g) ry g.b
 refine ⟨p,u,rfl,dg,u.isSome,rfl,q _ H1 aR ?_ g⟩
 rw [<- rel.isSome]; exact hT
end
noncomputable abbrev gE:Value->Shared->Prop:=λ_ _=>False
section
variable {prog:Program} {w:World} {A:Around} {R:Result->Shared->Prop} {s:Shared}
theorem oh {elt target iter:Expr} {ifs:List Expr} {scope:Scope} {pos:Pos} {it acc:Value} {env:Env} (I:Nat->Shared->Prop)
 (turn:∀ n s,I n s->wpAny (model prog w) A (pyNext it) (λr s₁=>match r with
   | none=>R (.ok .next) s₁
   | some v=>wpAny (model prog w) A (letOwnedTupleGo target it v) (λ_ s₁'=>wpAny (model prog w) A (assign target env v) (λ_ s₂ =>
    wpAny (model prog w) A (forIn ifs true λc r=>if r=true then do let ok <- isTrue c env (eval c env); pure (Ql ok) else pure (Ql r)) (λok s₃ =>
     if ok=true then wpAny (model prog w) A (eval elt env) (λx s₄ =>
      wpAny (model prog w) A (call (.builtin "list.append") [acc,x]) (λ_ s₅=>∃ m,m<n/\I m s₅) gE s₄) gE s₃
     else ∃ m,m<n/\I m s₃) gE s₂) gE s₁') gE s₁) gE s)
 (n:Nat) (h:I n s) :
 codeAny (model prog w) A (.compLoop (.ListComp elt [⟨target,iter,ifs,0⟩] scope pos) 0 it acc env) R s:=by
 refine codeAny_loop rfl I (λn s hI=>?_) n h
 show wpAny _ A ((compTurn (.ListComp elt [⟨target,iter,ifs,0⟩] scope pos) 0 it acc env).onRaise (λx=>do noteFrame x env; theTreesLotGoes x)) _ _ s
 refine wpAny_noted ?_
 rw [compTurn_list]
 refine O6 (wpAny_standAt (O6 (Qd (turn n s hI) (λr s₁ h₁=>?_) λ_ _ f=>f.elim)))
 cases r with
 | none=>exact O8 h₁
 | some v =>
  refine O6 (Qd h₁ (λ_ s₁' h₁'=>?_) λ_ _ f=>f.elim)
  refine O6 (Qd h₁' (λ_ s₂ h₂=>O6 (Qd h₂ (λok s₃ h₃=>?_) λ_ _ f=>f.elim)) λ_ _ f=>f.elim)
  cases ok with
  | false=>exact O8 ⟨rfl,h₃⟩
  | true =>
   exact O6 (O6 (Qd h₃ (λx s₄ h₄=>O6 (Qd h₄ (λ_ s₅ h₅=>O8 (O8 ⟨rfl,h₅⟩)) λ_ _ f=>f.elim)) λ_ _ f=>f.elim))
theorem jA:∀ (ifs:List Expr),Q false s ->
 wpAny (model prog w) A (forIn ifs false λc r=>if r=true then do let ok <- isTrue c env (eval c env); pure (Ql ok) else pure (Ql r)) Q E s
 | [],h=>O8 h
 | t::ts,h=>by
  simp only [R3,Qj,if_false]
  exact O6 (O8 (jA ts h))
theorem sU
 (h:wpAny (model prog w) A (isTrue t env (eval t env)) (λb s'=>if b=true then wpAny (model prog w) A (forIn ts true λc r=>if r=true then do let ok <- isTrue c env (eval c env); pure (Ql ok) else pure (Ql r)) Q E s' else Q false s') E s) :
 wpAny (model prog w) A (forIn (t::ts) true λc r=>if r=true then do let ok <- isTrue c env (eval c env); pure (Ql ok) else pure (Ql r)) Q E s:=by
 simp only [R3,if_true]
 refine O6 (O6 (Qd h (λb s' hb=>O8 ?_) λ_ _ x=>x))
 cases b with
 | true=>exact hb
 | false=>exact jA ts hb
end
noncomputable def bQ (scope sc:Scope):Scope:={ scope with names:=scope.names.map λ(n,k)=>if (k == .free && sc.kind == .function && sc.names.lookup n == some .cell) then (n,.cell) else (n,k) }
theorem qx (h:env.scope=sc):relabel scope env=bQ scope sc:=by
 subst h; rfl
noncomputable def Sl.tag (a:Addr):Sl->Sl
 | .ow ds=>.aw a ds | .oT ds=>.aT a ds | .oK ds=>.aK a ds
 | .aw b ds=>.aw b ds | .aT b ds=>.aT b ds | .aK b ds=>.aK b ds | .fo s=>.fo s
 | .un=>.un | .va d=>.va d
inductive xq (t:Str->Addr) (nm:List (Str×NameKind)) (N:List Str) (ρ:List Sl):List Str->List Sl->Prop
 | nil:xq t nm N ρ [] []
 | un {y:Str} {M:List Str} {r:List Sl}:xq t nm N ρ M r->xq t nm N ρ (y::M) (.un::r)
 | fr {y:Str} {i:Nat} {s s':Sl} {M:List Str} {r:List Sl} (hN:At N i y) (hs:At ρ i s) (hy:(y,Rq)∈nm) (ht:s.tag (t y)=s'):xq t nm N ρ M r->xq t nm N ρ (y::M) (s'::r)
theorem xq.len (h:xq t nm N ρ M r):M.length=r.length:=by
 induction h with
 | nil=>rfl
 | un t ih=>simp [ih]
 | fr hN hs hy ht t ih=>simp [ih]
inductive CY:List Sl->List Sl->Prop
 | nil:CY [] []
 | un {r:Sl} {a b:List Sl}:CY a b->CY (.un::a) (r::b)
 | same {r:Sl} {a b:List Sl}:CY a b->CY (r::a) (r::b)
theorem CY.weak (h:CY a b):a.length=b.length/\∀ (i:Nat) (r:Sl),a[i]?=some r->r≠.un->b[i]?=some r:=by
 induction h with
 | nil=>exact ⟨rfl,λi r e=>by simp at e⟩
 | un t ih=>exact ⟨by simp [ih.1],λi r e hu=>by cases i with | zero=>simp at e; exact absurd e.symm hu | succ i=>simpa using ih.2 i r (by simpa using e) hu⟩
 | same t ih=>exact ⟨by simp [ih.1],λi r e hu=>by cases i with | zero=>simpa using e | succ i=>simpa using ih.2 i r (by simpa using e) hu⟩
section
variable {K:O7}
noncomputable def jV (c:Ctx P w K mg base k N sc bk):List Expr->List Sl->(Bool->Prop)->Prop
 | [],_,T=>T true
 | t::ts,ρ,T=>i7 c t ρ (lP (jV c ts ρ T) (T false))
theorem mS (hq:c.X.xe=gE):∀ (ifs:List Expr) {H Hf:Hp} {s:Shared},bB c σ H Hf ρ->jV c ifs ρ T->(∀ b H' aj,T b->br H Hf H' aj->Q b H')->Inv c.X aa σ H s ->
 wpAny (model c.X.prog c.X.w) c.X.A (forIn ifs true λt r=>if r=true then do let ok <- isTrue t c.X.env (eval t c.X.env); pure (Ql ok) else pure (Ql r)) (TP c.X aa σ Q) gE s
 | [],H,Hf,s,S,h,q,I=>wpAny_tests_nil ⟨H,I,q true H Hf h (.refl S.sb)⟩
 | t::ts,H,Hf,s,S,h,q,I=>by
  have h0:=h σ H Hf (λb H'=>∃ aj,lP (jV c ts ρ T) (T false) b/\br H Hf H' aj) S (λb H' aj hb g=>⟨aj,hb,g⟩) aa s I
  rw [hq] at h0
  refine sU (bC h0 λb s' ⟨H',I',aj,hb,g⟩=>?_)
  cases b with
  | true=>exact mS hq ts (S.cD g) (hb.t rfl) (λb H2 cL hT g2=>q b H2 cL hT (g.trans g2)) I'
  | false=>exact ⟨H',I',q false H' aj (hb.f rfl) g⟩
end
theorem kF:∀ (names:List (Str×NameKind)) (cs:List (Str×Addr)),(∀ x∈names,x.2=.free->∃ a,env.cells.lookup x.1=some a) ->
 ∃ cl,(forIn names cs (λ(x:Str×NameKind) (r:List (Str×Addr))=>(if (x.2 == Rq)=true then do let a <- cellOf env x.1; pure (Ql ((x.1,a)::r)) else pure (Ql r):Sem (ForInStep (List (Str×Addr))))))=(pure cl:Sem (List (Str×Addr))) /\
  (∀ y a,cl.lookup y=some a->cs.lookup y=some a\/env.cells.lookup y=some a/\(y,Rq)∈names)/\(∀ y a,(y,Rq)∈names\/(∃ b,cs.lookup y=some b/\env.cells.lookup y=some b)->env.cells.lookup y=some a->cl.lookup y=some a)
 | [],cs,_=>⟨cs,rfl,λy a e=>.inl e,λy a h e=>by
  rcases h with h | ⟨b,h1,h2⟩
  ·cases h
  ·rw [e] at h2; cases h2; exact h1⟩
 | (n,kd)::r,cs,h=>by
  by_cases hk:kd=.free
  ·subst hk
   obtain ⟨a,ea⟩:=h (n,.free) Po rfl
   obtain ⟨cl,e1,e2,e3⟩:=kF r ((n,a)::cs) λx hx=>h x (Pj _ hx)
   refine ⟨cl,?_,λy b e=>?_,λy b hy e=>?_⟩
   ·rw [R3]
    simp only [beq_self_eq_true,if_true,cellOf,ea,pure_bind]
    exact e1
   ·rcases e2 y b e with z | ⟨z1,z2⟩
    ·rw [Vv] at z
     cases q:(y == n) with
     | true =>
      rw [q] at z; cases z
      have:y=n:=by simpa using q
      subst this
      exact .inr ⟨ea,Po⟩
     | false=>rw [q] at z; exact .inl z
    ·exact .inr ⟨z1,Pj _ z2⟩
   ·refine e3 y b ?_ e
    rcases hy with hy | ⟨b',h1,h2⟩
    ·rcases Pg.mp hy with z | z
     ·cases z; exact .inr ⟨a,by simp,ea⟩
     ·exact .inl z
    ·refine .inr ⟨b',?_,h2⟩
     rw [Vv]
     cases q:(y == n) with
     | true =>
      have:y=n:=by simpa using q
      subst this
      rw [ea] at h2; exact h2
     | false=>exact h1
  ·have hb:(kd == Rq)=false:=by simpa using hk
   obtain ⟨cl,e1,e2,e3⟩:=kF r cs λx hx=>h x (Pj _ hx)
   refine ⟨cl,?_,λy b e=>?_,λy b hy e=>?_⟩
   ·rw [R3]
    simp only [hb,Qj,if_false,pure_bind]
    exact e1
   ·rcases e2 y b e with z | ⟨z1,z2⟩
    ·exact .inl z
    ·exact .inr ⟨z1,Pj _ z2⟩
   ·refine e3 y b ?_ e
    rcases hy with hy | hy
    ·rcases Pg.mp hy with z | z
     ·cases z; exact absurd rfl hk
     ·exact .inl z
    ·exact .inr hy
theorem DY (h:∀ x∈scope.names,x.2=.free->∃ a,env.cells.lookup x.1=some a) :
 ∃ cl,closureFor scope env=pure cl/\(∀ y a,cl.lookup y=some a->env.cells.lookup y=some a/\(y,Rq)∈scope.names)/\(∀ y a,(y,Rq)∈scope.names->env.cells.lookup y=some a->cl.lookup y=some a):=by
 obtain ⟨cl,e1,e2,e3⟩:=kF scope.names [] h
 refine ⟨cl,?_,λy a e=>?_,λy a hy e=>e3 y a (.inl hy) e⟩
 ·unfold closureFor
  have e1':=congrArg (· >>= λcs=>(pure cs:Sem _)) e1
  simp only [pure_bind] at e1'
  exact e1'
 ·rcases e2 y a e with z | z
  ·simp at z
  ·exact z
section
variable {P:Program} {w:World} {K:O7} {mg:Str->Option Value} {base:Heap} {k:Nat} {N:List Str} {sc:Scope} {bk:Bool} {c:Ctx P w K mg base k N sc bk} {ρ:List Sl} {pos:Pos}
def uY (c:Ctx P w K mg base k N sc bk) (tg:Expr) (ifs:List Expr) (elt:Expr) (ρ0:List Sl) (d:D) (o:Option D):Prop :=
 ku c tg d ρ0 λρ1=>CY ρ0 ρ1/\jV c ifs ρ1 (lP (aL c elt ρ1 λe=>o=some e) (o=none))
theorem iw {nm:List (Str×NameKind)}:∀ {y:Str} {kd:NameKind},(nm.map λ(x:Str×NameKind)=>match x with | (n,k)=>(if (k == .free && sc.kind == .function && sc.names.lookup n == some .cell)=true then (n,NameKind.cell) else (n,k))).lookup y=some kd->∃ k0,(y,k0)∈nm/\(kd=k0\/kd=.cell/\k0=.free):=by
 induction nm with
 | nil=>intro y kd h; simp at h
 | cons x r ih =>
  obtain ⟨n,k0⟩:=x
  intro y kd h
  rw [Pd,Vv] at h
  by_cases e:(k0 == .free && sc.kind == .function && sc.names.lookup n == some .cell)=true
  ·simp only [e,if_true] at h
   cases q:(y == n) with
   | true =>
    rw [q] at h; cases h
    have:y=n:=by simpa using q
    subst this
    have hf:k0=.free:=by simp only [SX,beq_iff_eq] at e; exact e.1.1
    exact ⟨k0,Po,.inr ⟨rfl,hf⟩⟩
   | false=>rw [q] at h; obtain ⟨k1,h1,h2⟩:=ih h; exact ⟨k1,Pj _ h1,h2⟩
  ·simp only [e,Qj,if_false] at h
   cases q:(y == n) with
   | true =>
    rw [q] at h; cases h
    have:y=n:=by simpa using q
    subst this
    exact ⟨k0,Po,.inl rfl⟩
   | false=>rw [q] at h; obtain ⟨k1,h1,h2⟩:=ih h; exact ⟨k1,Pj _ h1,h2⟩
theorem xq.start {σ:L2.St} (h:xq t nm N ρ M r) (hσ:∀ (i:Nat) (s:Sl),ρ[i]?=some s->s≠.un->∃ v,σ[i]?=some (some v)) :
 ∃ σ0:L2.St,σ0.length=r.length/\∀ (j:Nat) (s:Sl),r[j]?=some s->(s=.un/\σ0[j]?=some none)\/∃ (i:Nat) (y:Str) (v:V) (s0:Sl),M[j]?=some y/\(y,Rq)∈nm/\N[i]?=some y/\ρ[i]?=some s0/\s=s0.tag (t y)/\s0≠.un/\σ[i]?=some (some v)/\σ0[j]?=some (some v):=by
 induction h with
 | nil=>exact ⟨[],rfl,λj s e=>by simp at e⟩
 | un t ih =>
  obtain ⟨σ0,hl,h0⟩:=ih
  refine ⟨none::σ0,by simp [hl],λj s e=>?_⟩
  cases j with
  | zero=>simp at e; exact .inl ⟨e.symm,by simp⟩
  | succ j =>
   rcases h0 j s (by simpa using e) with ⟨h1,h2⟩ | ⟨i,y,v,s0,h1,h2,h3,h4,h5,h6,h7,h8⟩
   ·exact .inl ⟨h1,by simpa using h2⟩
   ·exact .inr ⟨i,y,v,s0,by simpa using h1,h2,h3,h4,h5,h6,h7,by simpa using h8⟩
 | @fr y i s' s'' M r hN hs hy ht t ih =>
  obtain ⟨σ0,hl,h0⟩:=ih
  by_cases hu:s'=.un
  ·refine ⟨none::σ0,by simp [hl],λj s e=>?_⟩
   cases j with
   | zero=>simp at e; subst hu; exact .inl ⟨e.symm.trans ht.symm,by simp⟩
   | succ j =>
    rcases h0 j s (by simpa using e) with ⟨h1,h2⟩ | ⟨i,y,v,s0,h1,h2,h3,h4,h5,h6,h7,h8⟩
    ·exact .inl ⟨h1,by simpa using h2⟩
    ·exact .inr ⟨i,y,v,s0,by simpa using h1,h2,h3,h4,h5,h6,h7,by simpa using h8⟩
  ·obtain ⟨v,ev⟩:=hσ i s' hs.get hu
   refine ⟨some v::σ0,by simp [hl],λj s e=>?_⟩
   cases j with
   | zero=>simp at e; subst e; exact .inr ⟨i,y,v,s',by simp,hy,hN.get,hs.get,ht.symm,hu,ev,by simp⟩
   | succ j =>
    rcases h0 j s (by simpa using e) with ⟨h1,h2⟩ | ⟨i,y,v,s0,h1,h2,h3,h4,h5,h6,h7,h8⟩
    ·exact .inl ⟨h1,by simpa using h2⟩
    ·exact .inr ⟨i,y,v,s0,by simpa using h1,h2,h3,h4,h5,h6,h7,by simpa using h8⟩
noncomputable def Sl.adr:Sl->Option Addr | .aw a _=>some a | .aT a _=>some a | .aK a _=>some a | _=>none
theorem mT {s:Sl}:(s.tag a).owned=s.owned:=by cases s <;> rfl
theorem DZ {s:Sl} (h:s.owned=true):∃ b,(s.tag a).adr=some b:=by cases s <;> first | exact ⟨_,rfl⟩ | cases h
theorem uZ (hv:s.owned=true->v=.ref a) (h:aY K fr H Hf s v):aY K fr H Hf (s.tag a) v:=by
 cases s with
 | ow ds=>obtain ⟨p,xs,e,f,r⟩:=h; exact ⟨p,xs,e,⟨f,by have:=hv rfl; rw [e] at this; cases this; rfl⟩,r⟩
 | oT ds=>obtain ⟨p,xs,e,f,r⟩:=h; exact ⟨p,xs,e,⟨f,by have:=hv rfl; rw [e] at this; cases this; rfl⟩,r⟩
 | oK ds=>obtain ⟨p,xs,e,f,r⟩:=h; exact ⟨p,xs,e,⟨f,by have:=hv rfl; rw [e] at this; cases this; rfl⟩,r⟩
 | _=>exact h
theorem u0 (hb:s.adr=some b) (h:aY K fr H Hf s (.ref p)):p=b:=by
 cases s with
 | aw a ds=>cases hb; obtain ⟨q,xs,e,f,r⟩:=h; cases e; exact f.2
 | aT a ds=>cases hb; obtain ⟨q,xs,e,f,r⟩:=h; cases e; exact f.2
 | aK a ds=>cases hb; obtain ⟨q,xs,e,f,r⟩:=h; cases e; exact f.2
 | _=>cases hb
theorem cH.apart (S:cH K H₀ c9 σ H Hf ρ) (h0:H₀ a=none) (hf:Hf a=none) (nf:¬ zD H a) (ha:∀ (i:Nat) (r:Sl),ρ[i]?=some r->r.owned=true->σ[i]?≠some (some (.ref a))):cH K H₀ c9 σ (L2.upd H a o) Hf ρ :=
 ⟨⟨λb u e=>by rw [L2.ah (aE e h0)]; exact S.bas.s b u e,S.bas.f,λb u e=>by rw [L2.ah (aE e hf)]; exact S.bas.b b u e,S.bas.n⟩,S.len,λi r hi hu=>by
   obtain ⟨v,e,q⟩:=S.at_ i r hi hu
   refine ⟨v,e,?_⟩
   have hg:br (del H a) Hf (L2.upd H a o) Hf:=gj S.bas.b hf
   exact (q.LN (p:=a) nf λow z=>by subst z; exact ha i r hi ow e).cD hg,S.sep⟩
theorem oi (g:br H1 aR H' aj) (h1:H1 a=none) (hf:aj a=none):br H1 aR (upd H' a o) aj :=
 ⟨λb u e=>by rw [ah (aE e h1)]; exact g.s b u e,g.f,λb u e=>by rw [ah (aE e hf)]; exact g.b b u e,g.n⟩
section
variable {K:O7} {H Hf H' aj:Hp}
noncomputable abbrev Fp:=List (Addr×List V)
mutual
theorem aP.fz:∀ (s:Sh) {v:V} {fp:Fp},aP K H Hf s v fp->∀ a∈fp,H a.1=some (pl a.1 a.2)/\Hf a.1=none
 | .v d,_,_,h=>by simp only [aP] at h; obtain ⟨_,rfl⟩:=h; intro a ha; cases ha
 | .l ds,_,_,h=>by
  simp only [aP] at h
  obtain ⟨p,xs,e,h1,h2,h3,rfl⟩:=h
  intro a ha
  obtain rfl:=PB.mp ha
  exact ⟨h1,h2⟩
 | .la p ds,_,_,h=>by
  simp only [aP] at h
  obtain ⟨xs,e,h1,h2,h3,rfl⟩:=h
  intro a ha
  obtain rfl:=PB.mp ha
  exact ⟨h1,h2⟩
 | .t ss,_,_,h=>by
  simp only [aP] at h
  obtain ⟨a,xs,e,h1,h2⟩:=h
  exact ai.fz ss h2
 | .ls ss,_,_,h=>by
  simp only [aP] at h
  obtain ⟨p,xs,fq,e,h1,h2,h3,rfl⟩:=h
  intro a ha
  rcases Pg.mp ha with rfl | ha
  ·exact ⟨h1,h2⟩
  ·exact ai.fz ss h3 a ha
theorem ai.fz:∀ (ss:List Sh) {xs:List V} {fp:Fp},ai K H Hf ss xs fp->∀ a∈fp,H a.1=some (pl a.1 a.2)/\Hf a.1=none
 | [],_,_,h=>by simp only [ai] at h; obtain ⟨_,rfl⟩:=h; intro a ha; cases ha
 | s::ss,_,_,h=>by
  simp only [ai] at h
  obtain ⟨x,r,f1,f2,e,h1,h2,rfl⟩:=h
  intro a ha
  rcases PD.mp ha with ha | ha
  ·exact aP.fz s h1 a ha
  ·exact ai.fz ss h2 a ha
end
end
noncomputable def Sl.sh:Sl->Option Sh | .va d=>some (.v d) | .fo s=>some s | _=>none
theorem Am {H H' aj:Hp} (e:r.sh=some s) (h:aY K (λp=>H p=none) H' aj r v):∃ fp,aP K H' aj s v fp/\(fp.map (·.1)).Nodup/\∀ a∈fp,H a.1=none:=by
 cases r with
 | va d=>cases e; exact ⟨[],by simp only [aP]; exact ⟨h,trivial⟩,by simp,by intro a ha; cases ha⟩
 | fo s=>cases e; exact h
 | _=>cases e
theorem ai.snoc (h:aP K H Hf s v fp):∀ {ss:List Sh} {vs:List V} {fq:Fp},ai K H Hf ss vs fq->ai K H Hf (ss++[s]) (vs++[v]) (fq++fp)
 | [],_,_,q=>by
  simp only [ai] at q
  obtain ⟨rfl,rfl⟩:=q
  simp only [Q6,ai]
  exact ⟨v,[],fp,[],rfl,h,⟨rfl,rfl⟩,(Qp _).symm⟩
 | s'::ss,_,_,q=>by
  simp only [ai] at q
  obtain ⟨x,r,f1,f2,rfl,h1,h2,rfl⟩:=q
  have:=ai.snoc h h2
  simp only [QG,ai]
  exact ⟨x,r++[v],f1,f2++fp,rfl,h1,this,Pz _ _ _⟩
def An (c:Ctx P w K mg base k N sc bk) (tg:Expr) (ifs:List Expr) (elt:Expr) (ρ0:List Sl) (d:D) (o:Option Sh):Prop :=
 ku c tg d ρ0 λρ1=>CY ρ0 ρ1/\jV c ifs ρ1 (lP (cV c elt ρ1 λr=>∃ z,o=some z/\r.sh=some z) (o=none))
abbrev M0 (scope sc:Scope) (N':List Str):Prop:=scope.kind=.function/\(∀ x∈scope.names,x.2≠.cell)/\(∀ x∈scope.names,x.2=.local->scope.names.lookup x.1=some .local)/\(∀ x∈scope.names,x.2=.free->sc.names.lookup x.1=some .cell)/\N'.Nodup/\(∀ x∈N',(bQ scope sc).names.lookup x=some .local\/(bQ scope sc).names.lookup x=some .cell)/\∀ x∈scope.names,x.2=.free->(bQ scope sc).names.lookup x.1=some .cell
theorem D0 {elt tg iter:Expr} {ifs:List Expr} {scope:Scope} {N':List Str} {ρ0:(Str->Addr)->List Sl} {R:List Sh->Prop} (hq:c.X.xe=gE) (hfr:∀ t,xq t scope.names N ρ N' (ρ0 t))
 (h:uV c tg iter ρ λds=>Sd (ds.length<=sizeLine) (∃ os:List (Option Sh),os.length=ds.length /\
   (∀ c':Ctx P w K mg base k N' (bQ scope sc) true,c'.X.xe=gE->∀ (t:Str->Addr) (i:Nat) (d:D) (o:Option Sh),ds[i]?=some d->os[i]?=some o->An c' tg ifs elt (ρ0 t) d o)/\R (os.filterMap id)))
 (hcp:M0 scope sc N':=by decide +kernel)
 (hs:∀ env v,foldedSetIterable iter env v=pure v:=by intro _ _; walk_at "u")
 {σ:L2.St} {H Hf:Hp} (S:bB c σ H Hf ρ) {aa:List (Addr×Obj)} {s:Shared} (I:Inv c.X aa σ H s) {use:Option (Value->Sem Unit)} {QQ:Value->Shared->Prop}
 (kont:∀ (s':Shared) (H' aj:Hp) (a C:Addr) (ss:List Sh) (vs:List V) (fq:Fp),R ss->(∃ m,s'.heap.Ns C m)->C∉c.X.fs->dR c.X aa H' C->H a=none->H' a=some (.lst vs)->aj a=none->ai c.X.K H' aj ss vs fq->(fq.map (·.1)).Nodup->(∀ b∈fq,H b.1=none)->br H Hf H' aj->(∀ h5,QZ C s'.heap h5->Inv c.X aa σ H' { s' with heap:=h5 })->compPost (model c.X.prog c.X.w) c.X.A gE use QQ (.ref a) C (.ok .next) s') :
 wpAny (model c.X.prog c.X.w) c.X.A (comprehension (.ListComp elt [⟨tg,iter,ifs,0⟩] scope pos) scope c.X.env (firstIterPos [⟨tg,iter,ifs,0⟩] pos) (newList []) (firstAsync [⟨tg,iter,ifs,0⟩]) (firstIter [⟨tg,iter,ifs,0⟩] c.X.env) use) QQ gE s:=by
 obtain ⟨hk,hnc,hnl,hfree,hnd,hv,hvf⟩:=hcp
 have hI:=h σ H Hf (λJ H1=>∃ ds aR,Sd (ds.length<=sizeLine) (∃ os:List (Option Sh),os.length=ds.length /\
  (∀ c':Ctx P w K mg base k N' (bQ scope sc) true,c'.X.xe=gE->∀ (t:Str->Addr) (i:Nat) (d:D) (o:Option Sh),ds[i]?=some d->os[i]?=some o->An c' tg ifs elt (ρ0 t) d o)/\R (os.filterMap id))/\br H Hf H1 aR/\i8 c.X.K J ds aR) S (λds J H' aj hR g io=>⟨ds,aj,hR,g,io⟩) aa s I
 rw [hq] at hI
 have hcells:∀ x∈scope.names,x.2=.free->∃ a,c.X.env.cells.lookup x.1=some a:=λx hx hf=>I.ok.has x.1 (.inl (by unfold P6; rw [c.esc]; exact hfree x hx hf))
 obtain ⟨cl,hclos,yL,hcl2⟩:=DY hcells
 refine wpAny_comprehension_free (cl:=cl) (use:=use) rfl (hs _) hclos hk hnl ?_
 refine bC (show wpAny _ _ (eval iter c.X.env) _ _ _ from hI) λv s1 h1=>bC h1 λitv s2 hh=>z5 hh λit fp tn J H1 hh=>w6 hh λe0 I1 Tn t0 hfp hh=>z2 hh λds aR hh=>w3 hh λhz g io=>?_
 obtain ⟨hz,os,hh⟩:=hz
 refine w3 hh λhol hb hR=>?_
 subst e0
 have hcell':∀ y∈scope.names,y.2≠.cell:=hnc
 refine QB (wpAny_newFunctionEnv hcell' (by intro y hy; simp at hy) (λh4 hns hsb=>?_) hk)
 dsimp only at hns hsb |-
 generalize hDe:s2.heap.objs.size=Da at *
 have k3:∀ b u,s2.heap.get? b=some u->(s2.heap.push { cls:=.type "list",dict:=none,data:=.seq ([]:List Value).toArray }).get? b=some u:=λb u e=>Pc _ e
 generalize hH3:s2.heap.push { cls:=.type "list",dict:=none,data:=.seq ([]:List Value).toArray }=h3 at *
 have hCe:h3.objs.size=Da+1:=by rw [<- hH3,Q3,hDe]
 have hgD:h3.get? Da=some { cls:=.type "list",dict:=none,data:=.seq ([]:List Value).toArray }:=by rw [<- hH3,<- hDe]; exact Pp _ rfl
 have uo:H1 Da=none:=by rw [<- hDe]; exact I1.hok.fresh (Pa _)
 have I3:Inv c.X aa σ (upd H1 Da (.lst [])) { s2 with heap:=h3,toks:=s2.toks }:=I1.laid (a:=Da) (o:=.lst []) (t':=s2.toks) k3 (by rw [hDe]; exact Pa _) ⟨PY _,[],0,.nil,hgD⟩
 have fpne:∀ b∈fp,b≠Da:=λb hb z=>by
  obtain ⟨o,e,_⟩:=Tn.obj _ _ t0 b hb
  subst z
  exact absurd (Pf e) (by rw [hDe]; exact QW _)
 have fplt:∀ b∈fp,b<h3.objs.size:=λb hb=>by
  obtain ⟨o,e,_⟩:=Tn.obj _ _ t0 b hb
  exact Pf (k3 b o e)
 let s3:Shared:={ s2 with heap:=h3,toks:=s2.toks }
 let H2:Hp:=upd H1 Da (.lst [])
 let X':Cx:={ prog:=c.X.prog,w:=c.X.w,K:=c.X.K,mg:=c.X.mg,base:=c.X.base,A:=c.X.A,N:=N',s₀:=s3,H₀:=H2,env:=compEnvC scope cl h3.objs.size c.X.env,outer:=c.X.stack,stack:=c.X.stack,ex:=fp,fn:=λ_=>false,calm:=true,pn:=[],xe:=gE }
 have S1:=S.cD g
 have S2:bB c σ H2 aR ρ:=S1.cD (br.eU g.b uo)
 obtain ⟨t,ht⟩:∃ t:Str->Addr,∀ (i:Nat) (y:Str) (p:Addr),N[i]?=some y->σ[i]?=some (some (.ref p))->t y=p:=by
  classical
  refine ⟨λy=>if h:∃ (i:Nat) (p:Addr),N[i]?=some y/\σ[i]?=some (some (.ref p)) then h.choose_spec.choose else 0,λi y p e1 e2=>?_⟩
  have h:∃ (i:Nat) (p:Addr),N[i]?=some y/\σ[i]?=some (some (.ref p)):=⟨i,p,e1,e2⟩
  show (if h:_ then _ else _)=p
  rw [dif_pos h]
  obtain ⟨e3,e4⟩:=h.choose_spec.choose_spec
  have hi:h.choose<N.length:=(Ph.mp e3).1
  have e5:h.choose=i:=(List.getElem?_inj hi c.nd).mp (e3.trans e1.symm)
  have e6:=(congrArg (λz=>σ[z]?) e5).symm.trans e4
  rw [show σ[i]?=some (some (.ref p)) from e2] at e6
  have e4:=e6
  exact (V.ref.inj (QS (QS e4))).symm
 have hfr:=hfr t
 generalize hρ:ρ0 t=ρt at hfr
 obtain ⟨σ0,hσl,hσ0⟩:=hfr.start (σ:=σ) λi s e hu=>let ⟨v,e2,_⟩:=S2.at_ i s e hu; ⟨v,e2⟩
 have k4:∀ b u,h3.get? b=some u->h4.get? b=some u:=λb u e=>hsb.extBut b u (PM (Pf e)) (Pc _ e)
 have hsc:X'.env.scope=bQ scope sc:=qx c.esc
 have okX:X'.Ok:={
  mod:=I3.ok.mod
  kind:=hk
  glob:=I3.ok.glob
  blt:=I3.ok.blt
  above:=Pa _
  inj:=λx y a e1 e2=>I3.ok.inj x y a (yL x a e1).1 (yL y a e2).1
  has:=λx hx=>by
   have key:(x,Rq)∈scope.names:=by
    have hx':(bQ scope sc).names.lookup x=some .cell\/(bQ scope sc).names.lookup x=some .free:=by
     unfold P6 at hx; rw [hsc] at hx; exact hx
    rcases hx' with hx' | hx'
    ·obtain ⟨k0,h1,h2⟩:=iw hx'
     rcases h2 with h2 | ⟨_,h2⟩
     ·subst h2; exact absurd rfl (hnc _ h1)
     ·subst h2; exact h1
    ·obtain ⟨k0,h1,h2⟩:=iw hx'
     rcases h2 with h2 | ⟨h2,_⟩
     ·subst h2; exact h1
     ·cases h2
   obtain ⟨a,ea⟩:=hcells _ key rfl
   exact ⟨a,hcl2 x a key ea⟩
  cab:=λx a hf=>by cases hf
  hd:=λ_=>I3.ok.hd c.calm
  frames:=I3.ok.frames
  stk:=.inl rfl
  exf:=λb hb=>⟨PM (fplt b hb),λx a ea=>(hfp b hb).2.2.2.2.1 x a (yL x a ea).1⟩
  bs:=I3.bs
  bsz:=Pw I3.ok.bsz I3.sz
  noex:=λb o e hb=>by
   rcases (hfp b hb).2.2.2.1 with z | z
   ·exact I3.ok.noex b o e z
   ·exact absurd (Qo (Pf e) (Pw I3.ok.bsz z)) (QW _)
  exfs:=λb hb m=>by
   rcases Pg.mp (I3.sA b m) with z | z
   ·exact (hfp b hb).2.1 z
   ·exact (hfp b hb).2.2.1 z
  iY:=I3.stack
  frf:=I3.uq }
 have I4:Inv X' [] σ0 H2 { s2 with heap:=h4,toks:=s2.toks+([]:List (Str×Value)).length }:={
  ok:=okX
  os:=rfl
  bare:=I3.bare
  base:=Un.kept k4
  loc:=⟨_,hns,λj y v hy hv' _=>by
   have hj:j<ρt.length:=by
    have:=(Ph.mp hv').1
    rw [hσl] at this; exact this
   rcases hσ0 j ρt[j] (PU hj) with ⟨_,z⟩ | hh
   ·rw [z] at hv'; cases hv'
   ·refine z4 hh λi y' v' s0 hh=>w8 hh λh1 h2 h3' h4' hs5 hs6 h5 h6=>?_
    rw [h6] at hv'; cases hv'
    have hy':N'[j]?=some y:=hy
    rw [h1] at hy'; cases hy'
    obtain ⟨m0,hm0,hl⟩:=I3.loc
    have hkc:c.X.env.kindOf y=some .cell:=by unfold P6; rw [c.esc]; exact hfree _ h2 rfl
    obtain ⟨u,r,lk⟩:=hl i y v (by rw [c.eN]; exact h3') h5 (.inr (.inl hkc))
    refine ⟨u,r,?_⟩
    rcases lk with ⟨q1,_⟩ | ⟨_,a,e1,e2⟩
    ·rw [hkc] at q1; cases q1
    ·refine .inr ⟨.inl ?_,a,hcl2 _ a h2 e1,?_⟩
     ·show List.lookup y X'.env.scope.names=_
      rw [hsc]; exact hvf _ h2 rfl
     ·obtain ⟨oc,e3,e4⟩:=e2
      exact ⟨oc,k4 _ _ e3,e4⟩⟩
  cell:=λx a ea=>by
   obtain ⟨v',oc,e3,e4⟩:=I3.cell x a (yL x a ea).1
   exact ⟨v',oc,k4 _ _ e3,e4⟩
  free:=I3.hok.fresh (Pa _)
  freeC:=λx a ea=>I3.freeC x a (yL x a ea).1
  pin:=λq hq'=>by simp at hq'; cases hq'
  hok:=I3.hok.kept k4
  len:=by rw [hσl]; exact hfr.len.symm }
 let c':Ctx P w K mg base k N' (bQ scope sc) true :=
  { X:=X',eP:=c.eP,ew:=c.ew,eK:=c.eK,emg:=c.emg,eb:=c.eb,eN:=rfl,esc:=hsc,calm:=rfl,top:=λz=>(by cases z),cb:=λz=>(by cases z),fn:=λx hx=>.inr (by rw [hsc]; exact hx.resolve_left (λz=>by cases z)),room:=c.room,nd:=hnd,vis:=hv,
    Hf:=c.Hf,B:=c.B,RX:=λ_ _=>False,exc:=λ_ _ _ _ _ _ _ _ _ _ _ _ h _ _=>h.elim,RM:=λ_ _=>False,mde:=λ_ _ _ _ _ _ _ _ _ _ _ _ h _=>h.elim }
 have hN0:N'.length=ρt.length:=hfr.len
 have S4:bB c' σ0 H2 aR ρt:=by
  refine ⟨S2.bas,hσl,λj r hj hu=>?_,λj j' r r' p hne e1 e2 o1 o2 f1 f2=>?_⟩
  ·rcases hσ0 j r hj with ⟨z,_⟩ | hh
   ·exact absurd z hu
   ·refine z4 hh λi y v s0 hh=>w8 hh λh1 h2 h3' h4' hs5 hs6 h5 h6=>?_
    obtain ⟨v',e3,q3⟩:=S2.at_ i s0 h4' hs6
    rw [h5] at e3; cases e3
    subst hs5
    exact ⟨v,h6,uZ (λow=>by
     obtain ⟨p,_,rfl,_⟩:=q3.qt ow
     rw [ht i y p h3' h5]) q3⟩
  ·have u1:r≠.un:=by rintro rfl; cases o1
   have u2:r'≠.un:=by rintro rfl; cases o2
   rcases hσ0 j r e1 with ⟨z,_⟩ | hh
   ·exact u1 z
   rcases hσ0 j' r' e2 with ⟨z,_⟩ | hh'
   ·exact u2 z
   refine z4 hh λi y v s0 hh=>w8 hh λh1 h2 h3' h4' hs5 hs6 h5 h6=>z4 hh' λi' y' v' s0' hh'=>w8 hh' λh1' h2' h3'' h4'' hs5' hs6' h5' h6'=>?_
   rw [f1] at h6; cases h6
   rw [f2] at h6'; cases h6'
   have hii:i≠i':=λz=>by
    subst z
    rw [h3'] at h3''; cases h3''
    have a1:j<N'.length:=(Ph.mp h1).1
    exact hne ((List.getElem?_inj a1 hnd).mp (h1.trans h1'.symm))
   subst hs5; subst hs5'
   rw [mT] at o1 o2
   exact S2.sep i i' s0 s0' p hii h4' h4'' o1 o2 h5 h5'
 have howA:∀ (j:Nat) (r:Sl),ρt[j]?=some r->r.owned=true->∃ b,r.adr=some b/\b≠Da:=λj r hj ho=>by
  rcases hσ0 j r hj with ⟨z,_⟩ | hh
  ·subst z; cases ho
  ·refine z4 hh λi y v s0 hh=>w8 hh λh1 h2 h3' h4' hs5 hs6 h5 h6=>?_
   subst hs5
   rw [mT] at ho
   obtain ⟨b,eb⟩:=DZ (a:=t y) ho
   refine ⟨b,eb,λz=>?_⟩
   obtain ⟨v',e3,q3⟩:=S1.at_ i s0 h4' hs6
   obtain ⟨p,o,e4,_,e5,_⟩:=q3.qt ho
   subst e4
   have q4:=uZ (a:=t y) (λ_=>by rw [ht i y p h3' e3]) q3
   have:=u0 eb q4
   rw [this,z,uo] at e5; cases e5
 have hB0:c.B Da=none:=S1.bas.s.free uo
 have fps:∀ {H':Hp},(∀ b∈fp,H' b=none)->∀ b∈fp,dR X' [] H' b:=λhn b hb =>
  ⟨hn b hb,PM (fplt b hb),okX.exfs b hb,.inl hb,λx a ea=>(hfp b hb).2.2.2.2.1 x a (yL x a ea).1,λp hp=>by cases hp⟩
 have fin:∀ (s':Shared) (σ':L2.St) (H' aj:Hp) (vs:List V) (fq:Fp),Inv X' [] σ' H' s'->br H1 aR H' aj->H' Da=some (.lst vs)->aj Da=none->ai c.X.K H' aj (os.filterMap id) vs fq->(fq.map (·.1)).Nodup->(∀ b∈fq,H1 b.1=none) ->
  compPost (model c.X.prog c.X.w) c.X.A gE use QQ (.ref Da) h3.objs.size (.ok .next) s':=λs' σ' H' aj vs fq I' g' hD hfD hr hnd2 hfr2=>by
  obtain ⟨m,hm,_⟩:=I'.loc
  have hCX:h3.objs.size∉c.X.fs:=I3.KJ (Pa _)
  have hCf:dR c.X aa H' h3.objs.size:=by
   refine ⟨I'.free,λz=>?_,hCX,.inr I3.sz,λx a ea z=>?_,λp hp z=>?_⟩
   ·obtain ⟨m0,hm0,_⟩:=I3.loc
    obtain ⟨o,_,_,e,_⟩:=hm0
    exact absurd (Pf e) (by rw [<- z]; exact QW _)
   ·obtain ⟨v',oc,e,_⟩:=I3.cell x a ea
    exact absurd (Pf e) (by rw [z]; exact QW _)
   ·exact absurd (Pf (I3.pin p hp).1) (by rw [z]; exact QW _)
  refine kont s' H' aj Da h3.objs.size (os.filterMap id) vs fq hR ⟨m,hm⟩ hCX hCf (g.s.free uo) hD hfD hr hnd2 (λb hb=>g.s.free (hfr2 b hb)) (g.trans g') λh5 yM=>?_
  have ub:Un (frs c.X.stack) fp H2 H' s3.heap h5:=by
   have u:=I'.base
   have ne:∀ b o,s3.heap.get? b=some o->b≠h3.objs.size:=λb o e=>PM (Pf e)
   refine ⟨λb o e n hf hx=>(yM.2 b (ne b o e)).trans (u.keep b o e n hf hx),λb o e n hf hx=>?_,u.free,λb o e hx=>?_,u.tups,u.frzs,u.tbls⟩
   ·obtain ⟨sl,e2⟩:=u.slot b o e n hf hx
    exact ⟨sl,(yM.2 b (ne b o e)).trans e2⟩
   ·obtain ⟨o',e2⟩:=u.there b o e hx
    exact ⟨o',(yM.2 b (ne b o e)).trans e2⟩
  have hokf:iX c.X.prog c.X.w H' h5:=λb u e=>(I'.hok b u e).stay (λa o ha e2=>by
   refine (yM.2 a ?_).trans e2
   intro z; subst z
   have hfree':H' h3.objs.size=none:=I'.free
   rcases ha with z | z
   ·subst z; rw [hfree'] at e; cases e
   ·rw [hfree'] at z; cases z) (λ_ z=>z) λ_ _ z=>z
  exact I3.F0 (ch:=fp) I'.os ub hokf I'.bare λb hb=>⟨(hfp b hb).2.2.2.1,(hfp b hb).2.1,(hfp b hb).2.2.2.2.1,(hfp b hb).2.2.2.2.2⟩
 have loop:codeAny (model c.X.prog c.X.w) c.X.A (.compLoop (.ListComp elt [⟨tg,iter,ifs,0⟩] scope pos) 0 (.ref it) (.ref Da) X'.env) (compPost (model c.X.prog c.X.w) c.X.A gE use QQ (.ref Da) h3.objs.size) { s2 with heap:=h4,toks:=s2.toks+([]:List (Str×Value)).length }:=by
  refine oh (λn s'=>∃ (i:Nat) (σ':L2.St) (H' aj:Hp) (vs:List V) (fq:Fp),n=ds.length - i/\i<=ds.length/\Inv X' [] σ' H' s'/\tn i s'.heap/\bB c' σ' H' aj ρt/\br H1 aR H' aj/\H' Da=some (.lst vs)/\aj Da=none/\ai c.X.K H' aj ((os.take i).filterMap id) vs fq/\(fq.map (·.1)).Nodup/\(∀ b∈fq,H1 b.1=none)/\vs.length<=i/\∀ b∈fp,H' b=none) ?_ ds.length
   ⟨0,σ0,H2,aR,[],[],by simp,PY _,I4,Tn.keep _ _ _ t0 λb hb o e=>k4 b o (k3 b o e),S4,br.eU g.b uo,af,g.b.free uo,by simp [ai],List.nodup_nil,(λb hb=>by cases hb),Pa _,λb hb=>by show upd H1 Da _ b=none; rw [ah (fpne b hb)]; exact (hfp b hb).1⟩
  refine λn s5 hh=>z5 hh λi σ5 H5 Hf5 vs hh=>hh.elim λfq hh=>w6 hh λen hi I5 t5 S5 hh=>w6 hh λg5 hD5 hfD5 hr5 hnd5 hh=>w3 hh λhfr5 hlv fr5=>?_
  subst en
  by_cases hlt:i<ds.length
  ·have ed:ds[i]?=some ds[i]:=PU hlt
   have eo:os[i]?=some (os[i]'(by rw [hol]; exact hlt)):=PU _
   generalize ds[i]=d at ed
   generalize os[i]'(by rw [hol]; exact hlt)=o at eo
   obtain ⟨hgo,hy⟩:=io.go i d H5 Hf5 g5.f g5.b ed
   refine bC (Tn.item X' rfl rfl rfl rfl i [] s5 σ5 H5 gE I5 (fps fr5) t5 hgo) λr s6 hh=>hh.elim λu hh=>w2 hh λhr h6=>?_
   subst hr
   refine bC h6 λ_ s7 hh=>z2 hh λx H7 hh=>w5 hh λI7 rx y7 t7 fr7=>?_
   obtain ⟨Hf7,g7,rx7⟩:=hy x H7 y7
   have I7':=I7.pinned (fps fr7) (Tn.obj _ _ t7)
   have S7:bB c' σ5 H7 Hf7 ρt:=S5.cD g7
   have hasg0:=hb c' rfl t i d o ed eo
   rw [hρ] at hasg0
   have hasg:=hasg0 σ5 H7 Hf7 x (λσ2 H2'=>∃ cL ρ1,bB c' σ2 H2' cL ρ1/\br H7 Hf7 H2' cL/\CY ρt ρ1/\jV c' ifs ρ1 (lP (cV c' elt ρ1 λr=>∃ z,o=some z/\r.sh=some z) (o=none))) S7 rx7 (λσ2 H2' cL ρ1 S' g' hw=>⟨cL,ρ1,S',g',hw⟩) _ s7 u I7' rx
   refine bC (show wpAny _ _ _ _ gE _ from hasg) λ_ s8 hh=>z2 hh λσ8 H8 hh=>w2 hh λI8 hh=>z2 hh λHf8 ρ8 hh=>w4 hh λS8 g8 w8 hC8=>?_
   refine bC (mS (c:=c') rfl ifs S8 hC8 (Q:=λb H'=>∃ aj,lP (cV c' elt ρ8 λr=>∃ z,o=some z/\r.sh=some z) (o=none) b/\br H8 Hf8 H' aj) (λb H' aj hb' g'=>⟨aj,hb',g'⟩) I8) λb s9 hh=>hh.elim λH9 hh=>w2 hh λI9 hh=>hh.elim λHf9 hh=>w2 hh λhb9 g9=>?_
   have g79:=(g7.trans g8).trans g9
   have hD9:H9 Da=some (.lst vs):=g79.s _ _ hD5
   have hfD9:Hf9 Da=none:=g79.n Da hfD5 (by rw [hD5]; simp) (by intro ys; rw [hD5]; simp)
   have keepT:∀ {σ':L2.St} {H':Hp} {s':Shared},Inv X' ([]++iZ fp s7.heap) σ' H' s'->tn (i+1) s'.heap/\∀ b∈fp,H' b=none:=λ{σ' H' s'} I' =>
    ⟨Tn.keep _ _ _ t7 λb hb' ob e=>(I'.pin (b,ob) (P9 _ (P9 _ (dS hb' e)))).1,λb hb'=>by
      obtain ⟨ob,e,_⟩:=Tn.obj _ _ t7 b hb'
      exact (I'.pin (b,ob) (P9 _ (P9 _ (dS hb' e)))).2.1⟩
   have wk:∀ {σ':L2.St} {H' aj:Hp},bB c' σ' H' aj ρ8->bB c' σ' H' aj ρt:=λS'=>cH.weak S' w8.weak.1 w8.weak.2
   have tk:(os.take (i+1)).filterMap id=(os.take i).filterMap id++o.toList:=by
    rw [Vn,eo,List.filterMap_append]
    cases o <;> rfl
   cases b with
   | false =>
    have eo':=hb9.f rfl
    subst eo'
    rw [if_neg Pn]
    obtain ⟨t9,fr9⟩:=keepT I9
    have hr9:ai c.X.K H9 Hf9 ((os.take i).filterMap id) vs fq:=ai.mv g79.f _ (λa _ e1 e2=>⟨g79.s _ _ e1,g79.n a.1 e2 (by rw [e1]; simp) (by intro ys z; rw [e1] at z; cases z)⟩) hr5
    exact ⟨_,Nat.sub_lt_sub_left hlt (RZ i),i+1,σ8,H9,Hf9,vs,fq,rfl,hlt,I9.eS,t9,wk (S8.cD g9),g5.trans g79,hD9,hfD9,by rw [tk]; simpa using hr9,hnd5,hfr5,Nat.le_succ_of_le hlv,fr9⟩
   | true =>
    rw [if_pos rfl]
    have hev:=hb9.t rfl σ8 H9 Hf9 (λv H'=>∃ aj r,(∃ z,o=some z/\r.sh=some z)/\aY c.X.K (λp=>H9 p=none) H' aj r v/\br H9 Hf9 H' aj) (S8.cD g9) (λr v H' aj he r' g'=>⟨aj,r,he,r',g'⟩) _ s9 I9
    refine bC (show wpAny _ _ _ _ gE _ from hev) λu2 s10 hh=>z2 hh λv2 H10 hh=>w3 hh λI10 r10 hh=>z2 hh λHf10 r hh=>w3 hh λeo0 re g10=>?_
    obtain ⟨z,rfl,eo'⟩:=eo0
    obtain ⟨f1,rf1,nd1,fr1⟩:=Am eo' re
    have z1:=aP.fz z rf1
    have z0:=ai.fz _ hr5
    have g510:=g79.trans g10
    have hr10:ai c.X.K H10 Hf10 ((os.take i).filterMap id) vs fq:=ai.mv g510.f _ (λa _ e1 e2=>⟨g510.s _ _ e1,g510.n a.1 e2 (by rw [e1]; simp) (by intro ys z; rw [e1] at z; cases z)⟩) hr5
    have hD10:H10 Da=some (.lst vs):=g10.s _ _ hD9
    have hfD10:Hf10 Da=none:=g10.n Da hfD9 (by rw [hD9]; simp) (by intro ys; rw [hD9]; simp)
    have app:=mD (X:=X') _ s10 σ8 H10 (.ref Da) [v2] (.ref Da) [u2] (λ_ H'=>H'=upd H10 Da (.lst (vs++[v2]))) I10 rfl (.cons r10 .nil) ⟨Da,vs,v2,rfl,rfl,hD10,Qo (Ro hlv hlt) hz,rfl⟩
    refine bC (show wpAny _ _ _ _ gE _ from app) λ_ s11 ⟨_,H11,I11,_,e11⟩=>?_
    subst e11
    obtain ⟨t11,fr11⟩:=keepT I11
    have S10:bB c' σ8 H10 Hf10 ρ8:=(S8.cD g9).cD g10
    have gA:br H1 aR (upd H10 Da (.lst (vs++[v2]))) Hf10:=oi ((g5.trans g79).trans g10) uo hfD10
    refine ⟨_,Nat.sub_lt_sub_left hlt (RZ i),i+1,σ8,_,Hf10,vs++[v2],fq++f1,rfl,hlt,I11.eS,t11,?_,gA,af,hfD10,?_,?_,?_,by rw [P0]; exact Ui hlv,fr11⟩
    ·refine (wk S10).apart hB0 hfD10 (λ⟨_,z⟩=>by rw [hD10] at z; cases z) λj r hj ho=>λz=>?_
     obtain ⟨b,eb,nb⟩:=howA j r hj ho
     obtain ⟨v',e3,q3⟩:=(wk S10).at_ j r hj (by rintro rfl; cases ho)
     rw [z] at e3; cases e3
     exact nb (u0 eb q3).symm
    ·rw [tk]
     refine ai.mv (.refl _) _ (λa ha e1 e2=>⟨?_,e2⟩) (ai.snoc rf1 hr10)
     rw [ah λz=>by rw [z,hD10] at e1; cases e1]; exact e1
    ·rw [Px,Rf]
     refine ⟨hnd5,nd1,λa ha b hb z=>?_⟩
     subst z
     obtain ⟨p,hp,ep⟩:=Pr.mp ha
     obtain ⟨q,hq',eq⟩:=Pr.mp hb
     have e1:=g79.s _ _ (z0 p hp).1
     have e2:=fr1 q hq'
     rw [eq,<- ep,e1] at e2; cases e2
    ·intro b hb
     rcases PD.mp hb with hb | hb
     ·exact hfr5 b hb
     ·exact (g5.trans g79).s.free (fr1 b hb)
  ·have e:i=ds.length:=Nat.le_antisymm hi (Nat.le_of_not_lt hlt)
   subst e
   refine bC (Tn.done X' rfl rfl rfl rfl ds.length [] s5 σ5 H5 gE I5 (fps fr5) t5 (io.stop _ H5 Hf5 g5.f g5.b (Pa _))) λr s6 ⟨hr,I6⟩=>?_
   subst hr
   refine fin s6 σ5 H5 Hf5 vs fq I6 g5 hD5 hfD5 ?_ hnd5 hfr5
   rw [SK (by rw [hol]; exact Pa _)] at hr5
   exact hr5
 exact codeAny_compStart_list loop (Tn.self _ 0 _ _ _ (Tn.keep _ _ _ t0 λb hb o e=>k4 b o (k3 b o e)) loop)
theorem u5:∀ {ds:List D} {vs:List V} {fq:Fp},ai K H Hf (ds.map .v) vs fq->ak K Hf ds vs
 | [],_,_,h=>by simp only [Qv,ai] at h; exact aB.mpr h.1
 | d::ds,_,_,h=>by
  simp only [Pd,ai,aP] at h
  obtain ⟨x,r,f1,f2,rfl,h1,h2,-⟩:=h
  exact ak.cons h1.1 (u5 h2)
theorem Ik:∀ os:List (Option D),(os.map (Option.map Sh.v)).filterMap id=(os.filterMap id).map Sh.v
 | []=>rfl
 | none::os=>Ik os
 | some d::os=>congrArg (Sh.v d:: ·) (Ik os)
theorem jV.imp (h:∀ b,T b->T' b):∀ {ifs:List Expr} {ρ:List Sl},jV c ifs ρ T->jV c ifs ρ T'
 | [],_,q=>h _ q
 | _::_,_,q=>λσ H Hf Q S z=>q σ H Hf Q S λb H' aj hb g=>z b H' aj ⟨λe=>jV.imp h (hb.t e),λe=>h _ (hb.f e)⟩ g
theorem Ao (h:uY c tg ifs elt ρ0 d o):An c tg ifs elt ρ0 d (o.map .v):=λσ H Hf v Q S r q=>h σ H Hf v Q S r λσ' H' aj ρ' S' g hw=>q σ' H' aj ρ' S' g ⟨hw.1,jV.imp (λb hb=>⟨λe=>λσ2 H2 cL Q2 S2 q2=>hb.t e σ2 H2 cL Q2 S2 λd2 v2 H3 Hf3 ed rv g3=>q2 (.va d2) v2 H3 Hf3 ⟨.v d2,by rw [ed]; rfl,rfl⟩ rv g3,λe=>by rw [hb.f e]; rfl⟩) hw.2⟩
theorem u6 {elt tg iter:Expr} {ifs:List Expr} {scope:Scope} {N':List Str} {ρ0:(Str->Addr)->List Sl} {R:Sl->Prop} (hq:c.X.xe=gE) (hfr:∀ t,xq t scope.names N ρ N' (ρ0 t))
 (h:uV c tg iter ρ λds=>Sd (ds.length<=sizeLine) (∃ os:List (Option D),os.length=ds.length /\
   (∀ c':Ctx P w K mg base k N' (bQ scope sc) true,c'.X.xe=gE->∀ (t:Str->Addr) (i:Nat) (d:D) (o:Option D),ds[i]?=some d->os[i]?=some o->uY c' tg ifs elt (ρ0 t) d o)/\R (.ow (os.filterMap id))))
 (hcp:M0 scope sc N':=by decide +kernel)
 (hs:∀ env v,foldedSetIterable iter env v=pure v:=by intro _ _; walk_at "u")
 {σ:L2.St} {H Hf:Hp} (S:bB c σ H Hf ρ) {aa:List (Addr×Obj)} {s:Shared} (I:Inv c.X aa σ H s) {use:Option (Value->Sem Unit)} {QQ:Value->Shared->Prop}
 (kont:∀ (s':Shared) (H' aj:Hp) (a C:Addr) (r:Sl),R r->(∃ m,s'.heap.Ns C m)->C∉c.X.fs->dR c.X aa H' C->aY c.X.K (λp=>H p=none) H' aj r (.ref a)->br H Hf H' aj->(∀ h5,QZ C s'.heap h5->Inv c.X aa σ H' { s' with heap:=h5 })->compPost (model c.X.prog c.X.w) c.X.A gE use QQ (.ref a) C (.ok .next) s') :
 wpAny (model c.X.prog c.X.w) c.X.A (comprehension (.ListComp elt [⟨tg,iter,ifs,0⟩] scope pos) scope c.X.env (firstIterPos [⟨tg,iter,ifs,0⟩] pos) (newList []) (firstAsync [⟨tg,iter,ifs,0⟩]) (firstIter [⟨tg,iter,ifs,0⟩] c.X.env) use) QQ gE s:=by
 refine D0 (R:=λss=>∃ os:List D,ss=os.map .v/\R (.ow os)) hq hfr (λσ' H' aj Q S' q=>h σ' H' aj Q S' λds J H1 aR hd=>q ds J H1 aR ⟨hd.1,hd.2.elim λos ho=>⟨os.map (Option.map .v),by rw [Pe]; exact ho.1,λc' hc t i d o e1 e2=>?_,os.filterMap id,?_,ho.2.2⟩⟩) hcp hs S I λs' H' aj a C ss vs fq hR hC1 hC2 yK ha h1 h2 r nd fr g hJ=>?_
 ·rw [Pk,Pq] at e2
  obtain ⟨o',e3,rfl⟩:=e2
  exact Ao (ho.2.1 c' hc t i d o' e1 e3)
 ·exact Ik os
 ·obtain ⟨os,rfl,hR⟩:=hR
  exact kont s' H' aj a C (.ow os) hR hC1 hC2 yK ⟨a,vs,rfl,ha,h1,h2,u5 r⟩ g hJ
theorem dF {elt tg iter:Expr} {ifs:List Expr} {scope:Scope} {N':List Str} {ρ0:(Str->Addr)->List Sl} {R:Sl->Prop} (hq:c.X.xe=gE) (hfr:∀ t,xq t scope.names N ρ N' (ρ0 t))
 (h:uV c tg iter ρ λds=>Sd (ds.length<=sizeLine) (∃ os:List (Option D),os.length=ds.length /\
   (∀ c':Ctx P w K mg base k N' (bQ scope sc) true,c'.X.xe=gE->∀ (t:Str->Addr) (i:Nat) (d:D) (o:Option D),ds[i]?=some d->os[i]?=some o->uY c' tg ifs elt (ρ0 t) d o)/\R (.ow (os.filterMap id))))
 (hcp:M0 scope sc N':=by decide +kernel)
 (hs:∀ env v,foldedSetIterable iter env v=pure v:=by intro _ _; walk_at "u"):cV c (.ListComp elt [⟨tg,iter,ifs,0⟩] scope pos) ρ R:=λσ H Hf Q S q aa s I=>by
 rw [hq]
 rw [show (eval (.ListComp elt [⟨tg,iter,ifs,0⟩] scope pos) c.X.env)=comprehension (.ListComp elt [⟨tg,iter,ifs,0⟩] scope pos) scope c.X.env (firstIterPos [⟨tg,iter,ifs,0⟩] pos) (newList []) (firstAsync [⟨tg,iter,ifs,0⟩]) (firstIter [⟨tg,iter,ifs,0⟩] c.X.env) from rfl]
 exact u6 hq hfr h hcp hs S I λs' H' aj a C r hr ⟨m,hm⟩ _ _ hrep g hJ=>⟨m,hm,λh5 yM=>⟨.ref a,H',hJ h5 yM,rfl,q r _ H' aj hr hrep g⟩⟩
theorem oj:QZ a h h:=⟨rfl,λ_ _=>rfl⟩
theorem D9 (I:Inv X aa σ H s) (hC:dR X aa H C) (hsb:QZ C s.heap h5):Inv X aa σ H { s with heap:=h5 }:=by
 refine I.F0 (ch:=[C]) rfl ⟨λb o e _ _ hx=>?_,λb o e _ _ hx=>⟨o.slots,?_⟩,λb o e n _=>n,λb o e hx=>⟨o,?_⟩,λb xs e=>e,λb o u e=>e,λb ps e=>⟨#[],by simpa using e⟩⟩ (λb u e=>(I.hok b u e).stay (λa o ha e2=>?_) (λ_ z=>z) λ_ _ z=>z) I.bare λb hb=>?_
 ·exact (hsb.2 b (λz=>hx (by rw [z]; exact Po))).trans e
 ·exact (hsb.2 b (λz=>hx (by rw [z]; exact Po))).trans e
 ·exact (hsb.2 b (λz=>hx (by rw [z]; exact Po))).trans e
 ·refine (hsb.2 a ?_).trans e2
  intro z; subst z
  rcases ha with z | z
  ·subst z; rw [hC.1] at e; cases e
  ·rw [hC.1] at z; cases z
 ·have:b=C:=by simpa using hb
  subst this
  exact ⟨hC.2.2.2.1,hC.2.1,hC.2.2.2.2.1,hC.2.2.2.2.2⟩
theorem Il {elt tg iter:Expr} {ifs:List Expr} {scope:Scope} {N':List Str} {ρ0:(Str->Addr)->List Sl} {nx:List Sl->Prop} {p:Pt} {x:Str} {pos2 posA:Pos} {i:Nat} (hN:At N i x) (hq:c.X.xe=gE) (hfr:∀ t,xq t scope.names N ρ N' (ρ0 t))
 (h:uV c tg iter ρ λds=>Sd (ds.length<=sizeLine) (∃ os:List (Option D),os.length=ds.length /\
   (∀ c':Ctx P w K mg base k N' (bQ scope sc) true,c'.X.xe=gE->∀ (t:Str->Addr) (i:Nat) (d:D) (o:Option D),ds[i]?=some d->os[i]?=some o->uY c' tg ifs elt (ρ0 t) d o)/\Nx ρ i nx (.ow (os.filterMap id))))
 (hsw:(pos2.line == pos.line && !scope.names.any λ(n,k)=>n == x && (k == NameKind.local || k == NameKind.cell))=true:=by decide +kernel) (hl:sc.names.lookup x=some .local:=by walk_at "u")
 (hcp:M0 scope sc N':=by decide +kernel)
 (hs:∀ env v,foldedSetIterable iter env v=pure v:=by intro _ _; walk_at "u"):eV c (.Assign [.Name x pos2] (.ListComp elt [⟨tg,iter,ifs,0⟩] scope pos) posA) ρ nx p:=λσ H Hf D S o aa s I=>by
 have hsw':swapsWith (.ListComp elt [⟨tg,iter,ifs,0⟩] scope pos) (some (.Name x pos2)) posA.line c.X.env=pure true:=by
  have e1:c.X.env.blockKind=.function:=by unfold Env.blockKind; rw [show c.X.env.scope.kind=.function from I.ok.kind]; rfl
  have e2:c.X.env.kindOf x=some .local:=by unfold P6; rw [c.esc]; exact hl
  show pure (c.X.env.blockKind == ScopeKind.function && c.X.env.kindOf x == some NameKind.local && pos2.line == pos.line && !scope.names.any λ(n,k)=>n == x && (k == NameKind.local || k == NameKind.cell))=pure true
  rw [e1,e2]; exact congrArg pure hsw
 rw [hq,exec_Assign_Name_used x pos2 _ posA hsw']
 refine O6 (wpAny_standAt ?_)
 refine O6 ?_
 rw [show (evalThenUse (.ListComp elt [⟨tg,iter,ifs,0⟩] scope pos) c.X.env (assign (.Name x pos2) c.X.env))=(do let _ <- comprehension (.ListComp elt [⟨tg,iter,ifs,0⟩] scope pos) scope c.X.env (firstIterPos [⟨tg,iter,ifs,0⟩] pos) (newList []) (firstAsync [⟨tg,iter,ifs,0⟩]) (firstIter [⟨tg,iter,ifs,0⟩] c.X.env) (some (assign (.Name x pos2) c.X.env)); pure ()) from rfl]
 refine O6 (u6 hq hfr h hcp hs S I λs' H' aj a C r hr ⟨m,hm⟩ hCX hCf hrep g hJ=>?_)
 have J:=hJ s'.heap oj
 obtain ⟨oC,es,ep,e1,e2,e3,e4⟩:=hm
 have fps:∀ b∈[C],dR c.X aa H' b:=λb hb=>by rw [PB.mp hb]; exact hCf
 have hob:∀ b∈[C],∃ o,s'.heap.get? b=some o/\∀ v:Option Value,o.data≠.cell v:=λb hb=>by
  rw [PB.mp hb]; exact ⟨oC,e1,λv z=>by rw [e2] at z; cases z⟩
 have J2:=J.pinned fps hob
 have hmem:(C,oC)∈iZ [C] s'.heap:=dS Po e1
 obtain ⟨ρ',hset,hx⟩:=hr
 have st:=zE (jQ (X:=c.X) (i:=i) (pos:=pos2) (by rw [c.eN]; exact c.nd) (by rw [c.eN]; exact hN.get) (by rw [c.esc]; exact c.vis x hN.mem) (c.fn x (.inr hl))) (v:=.ref a) (σ:=σ) (H:=H') (Q:=λσ' H''=>D.nx σ' H'') (o.nx _ H' aj _ (hset.eq ▸ S.set g hrep) hx) _ s' (.ref a) J2 rfl
 rw [hq] at st
 refine bC st λ_ s'' ⟨σ',H'',I'',dn⟩=>?_
 have pC:=I''.pin (C,oC) (P9 _ (P9 _ hmem))
 refine ⟨m,⟨oC,es,ep,pC.1,e2,e3,e4⟩,λh' hsb=>?_⟩
 have I3:Inv c.X aa σ' H'' s'':=I''.eS
 have I4:=D9 I3 (C:=C) ⟨pC.2.1,hCf.2⟩ hsb
 exact O8 (O8 ⟨_,_,I4,dn⟩)
end
mutual
def D.nl:D->Prop
 | .lst _=>False
 | .fdK _ _=>False
 | .fdT _ _=>False
 | .tup ds=>D.om ds
 | _=>True
def D.om:List D->Prop
 | []=>True
 | d::ds=>d.nl/\D.om ds
end
theorem u7:∀ {ds:List D},D.om ds↔∀ d∈ds,d.nl
 | []=>by simp [D.om]
 | d::ds=>by simp [D.om,u7 (ds:=ds)]
theorem fu {α:Type} {f:α->D} {l:List α} (h:∀ x∈l,(f x).nl):D.om (l.map f):=u7.mpr λd hd=>by
 obtain ⟨x,hx,rfl⟩:=Pr.mp hd
 exact h x hx
theorem jb:(D.int i).nl:=by simp [D.nl]
theorem iy (l:List Int):D.om (l.map D.int):=fu λx _=>jb
theorem oq (h:D.om ds):(D.tup ds).nl:=by simpa [D.nl] using h
noncomputable def HO.mt:HO->Prop | .lst _=>True | .dK _=>True | .dT _=>True | _=>False
theorem xr {K:O7} (hp:Hf p=some o) (hm:HO.mt o) (h:dh K Hf a xs):dh K (del Hf p) a xs:=by
 rcases h with (h | ⟨o',h⟩) | h
 ·exact .inl (.inl (by rw [cu (by rintro rfl; rw [hp] at h; cases h; exact hm)]; exact h))
 ·exact .inl (.inr ⟨o',by rw [cu (by rintro rfl; rw [hp] at h; cases h; exact hm)]; exact h⟩)
 ·exact .inr h
mutual
theorem sV {K:O7} {Hf:Hp} {p:Addr} {o:HO} (hp:Hf p=some o) (hm:HO.mt o):∀ (d:D) {v:V},d.nl->Rep K Hf d v->Rep K (del Hf p) d v
 | .non,_,_,h=>by simpa [Rep] using h
 | .bl _,_,_,h=>by simpa [Rep] using h
 | .int _,_,_,h=>by simpa [Rep] using h
 | .str _,_,_,h=>by simpa [Rep] using h
 | .adr _,_,_,h=>by simpa [Rep] using h
 | .tup ds,v,f,h=>by
  simp only [Rep] at h |-
  obtain ⟨a,xs,e,h1,h2⟩:=h
  exact ⟨a,xs,e,xr hp hm h1,ou hp hm ds (by simpa [D.nl] using f) h2⟩
 | .lst _,_,f,_=>by simp [D.nl] at f
 | .fdK _ _,_,f,_=>by simp [D.nl] at f
 | .fdT _ _,_,f,_=>by simp [D.nl] at f
 | .exc C,_,_,h=>by
  simp only [Rep] at h |-
  obtain ⟨a,e,h⟩:=h
  exact ⟨a,e,by rw [cu (by rintro rfl; rw [hp] at h; cases h; exact hm)]; exact h⟩
theorem ou {K:O7} {Hf:Hp} {p:Addr} {o:HO} (hp:Hf p=some o) (hm:HO.mt o):∀ (ds:List D) {xs:List V},D.om ds->ak K Hf ds xs->ak K (del Hf p) ds xs
 | [],_,_,h=>by simpa [ak] using h
 | d::ds,xs,f,h=>by
  simp only [ak] at h |-
  simp only [D.om] at f
  obtain ⟨x,r,e,h1,h2⟩:=h
  exact ⟨x,r,e,sV hp hm d f.1 h1,ou hp hm ds f.2 h2⟩
end
noncomputable def Sl.nl:Sl->Prop
 | .va d=>d.nl
 | .ow ds=>D.om ds
 | _=>False
theorem aY.N6 {K:O7} {H H' aj:Hp} (hp:aj p=some oz) (hm:HO.mt oz) (h0:H p=some o) (f:r.nl) (h:aY K (λp=>H p=none) H' aj r v):aY K (λp=>H p=none) H' (del aj p) r v:=by
 cases r with
 | va d=>exact sV hp hm d f h
 | ow ds =>
  obtain ⟨q,xs,rfl,fq,h1,h2,h3⟩:=h
  refine ⟨q,xs,rfl,fq,h1,?_,ou hp hm ds f h3⟩
  rw [cu (by rintro rfl; rw [h0] at fq; cases fq)]; exact h2
 | _=>exact f.elim
section
variable {P:Program} {w:World} {K:O7} {mg:Str->Option Value} {base:Heap} {k:Nat} {N:List Str} {sc:Scope} {bk:Bool} {c:Ctx P w K mg base k N sc bk} {ρ ρ':List Sl} {pos ap cp px tp:Pos} {a b e f:Expr} {es:List Expr} {R:D->Prop} {T:Bool->Prop} {nx:List Sl->Prop} {p:Pt} {x:Str} {i:Nat} {r:Sl} {ds:List D}
noncomputable def Sl.jF:Sl->Option D
 | .ow ds=>some (.lst ds) | .aw _ ds=>some (.lst ds)
 | _=>none
theorem kG (h:r.jF=some d):r.owned=true:=by cases r <;> first | rfl | cases h
theorem iz {κ:Type} {Hf:Hp} {kvs:List (κ×D)} {xs:List (κ×V)} (h:lN K Hf kvs xs):xs.map (·.1)=kvs.map (·.1)/\ak K Hf (kvs.map (·.2)) (xs.map (·.2)):=by
 unfold lN at h
 induction h with
 | nil=>exact ⟨rfl,aB.mpr rfl⟩
 | cons h t ih=>exact ⟨by rw [Pd,Pd,ih.1,h.1],.cons h.2 ih.2⟩
theorem eX (h:lO K Hf kvs xs):xs.map (·.1)=kvs.map (·.1)/\(∀ y∈xs,dh K Hf y.2.1 (y.1.map kV))/\ak K Hf (kvs.map (·.2)) (xs.map (·.2.2)):=by
 refine ⟨?_,h.Al,?_⟩
 ·unfold lO at h
  induction h with
  | nil=>rfl
  | cons h t ih=>rw [Pd,Pd,ih,h.1]
 ·unfold lO at h
  induction h with
  | nil=>exact aB.mpr rfl
  | cons h t ih=>exact .cons h.2.2 ih
theorem aY.jF (h:r.jF=some d) (q:aY K fr H Hf r v):∃ p o,v=.ref p/\fr p/\H p=some o/\Hf p=none/\HO.mt o/\Rep K (upd Hf p o) d v:=by
 have sf:∀ {p:Addr} {o:HO},Hf p=none->aM Hf (upd Hf p o):=λhp b u e=>by rw [ah (aE e hp)]; exact e
 cases r with
 | ow ds=>cases h; obtain ⟨p,xs,rfl,f,h1,h2,h3⟩:=q; exact ⟨p,_,rfl,f,h1,h2,trivial,aU.mpr ⟨p,xs,rfl,.inl (.inl af),h3.mono (sf h2)⟩⟩
 | aw a ds=>cases h; obtain ⟨p,xs,rfl,f,h1,h2,h3⟩:=q; exact ⟨p,_,rfl,f.1,h1,h2,trivial,aU.mpr ⟨p,xs,rfl,.inl (.inl af),h3.mono (sf h2)⟩⟩
 | _=>cases h
theorem cH.jW (S:cH K H₀ c9 σ H Hf ρ) (h:ρ[i]?=some r) (hr:r.jF=some d) :
 ∃ q o,H q=some o/\Hf q=none/\HO.mt o/\cH K H₀ c9 σ H (L2.upd Hf q o) (ρ.set i (.va d)):=by
 obtain ⟨q,ev,rq⟩:=S.own h (kG hr)
 obtain ⟨_,o,e0,fq,hq,su,hm,rd⟩:=rq.jF hr
 cases e0
 have hi:i<ρ.length:=(Ph.mp h).1
 have hown:=kG hr
 have sf:aM Hf (L2.upd Hf q o):=λb u e=>by rw [L2.ah (aE e su)]; exact e
 have sb:aM (L2.upd Hf q o) H:=λb u e=>by
  by_cases z:b=q
  ·subst z; rw [L2.af] at e; rw [hq]; exact e
  ·rw [L2.ah z] at e; exact S.sb b u e
 refine ⟨q,o,hq,su,hm,⟨S.bas.s,S.bas.f.trans sf,sb,λb h1 h2 h3=>?_⟩,by simp [S.len],λj r' hj hu=>?_,λj j' r1 r2 q' hne h1 h2 o1 o2=>?_⟩
 ·have e:=S.bas.n b h1 h2 h3
  by_cases z:b=q
  ·subst z; exact absurd fq h2
  ·rw [L2.ah z]; exact e
 ·by_cases z:j=i
  ·subst z
   rw [Qm hi] at hj
   cases hj
   exact ⟨_,ev,rd⟩
  ·rw [Qe (Py z)] at hj
   obtain ⟨v,e1,e2⟩:=S.at_ j r' hj hu
   refine ⟨v,e1,?_⟩
   have key:r'.owned=true->v≠.ref q:=λho z=>by
    subst z
    exact S.sep i j _ _ q (Py ‹_›) h hj hown ho ev e1
   exact aY.mv (B:=λz=>z=q) sf (λz u hz e1 _ e3=>⟨e1,by rw [L2.ah hz]; exact e3⟩) (by rintro _ z rfl ⟨ys,e9⟩; rw [hq] at e9; cases e9; exact hm) (λho z e=>by rintro rfl; exact key ho e) e2
 ·have out:∀ {j:Nat} {r:Sl},(ρ.set i (.va d))[j]?=some r->r.owned=true->ρ[j]?=some r:=λ{j r} hj ho=>by
   by_cases z:j=i
   ·subst z; rw [Qm hi] at hj; cases hj; cases ho
   ·rw [Qe (Py z)] at hj; exact hj
  exact S.sep j j' r1 r2 q' hne (out h1 o1) (out h2 o2) o1 o2
theorem qy (sb:aM Hf H) (hq:H q=some o) (su:Hf q=none) (g:br H (upd Hf q o) H' aj):br H Hf H' (del aj q) :=
 ⟨g.s,λb o e=>by rw [cu (aE e su)]; exact g.f b o (by rw [ah (aE e su)]; exact e),λb o e=>by obtain ⟨_,e2⟩:=ir e; exact g.b b o e2,λb h1 h2 h3=>by
   by_cases z:b=q
   ·subst z; exact ig
   ·rw [cu z]; exact g.n b (by rw [ah z]; exact h1) h2 h3⟩
theorem Aq (i) (hi:At ρ i r) (hr:r.jF=some d0) (hs:SSet ρ i (.va d0) ρ') (h:aL c e ρ' λd=>Sd d.nl (R d)):aL c e ρ R:=λσ H Hf Q S q=>by
 obtain ⟨a,o,ha,yN,hm,S1⟩:=S.jW hi.get hr
 rw [<- hs.eq] at S1
 exact h σ H _ Q S1 λd v H' aj ⟨fl,rd⟩ rv g=>q d v H' _ rd (sV (g.f a _ af) hm d fl rv) (qy S.sb ha yN g)
theorem Gh (i) {R:Sl->Prop} (hi:At ρ i r) (hr:r.jF=some d0) (hs:SSet ρ i (.va d0) ρ') (h:cV c e ρ' λd=>Sd d.nl (R d)):cV c e ρ R:=λσ H Hf Q S q=>by
 obtain ⟨a,o,ha,yN,hm,S1⟩:=S.jW hi.get hr
 rw [<- hs.eq] at S1
 exact h σ H _ Q S1 λd v H' aj ⟨fl,rd⟩ rv g=>q d v H' _ rd (rv.N6 (g.f a _ af) hm ha fl) (qy S.sb ha yN g)
theorem cF {st:List Stmt} (i) (hi:At ρ i r) (hr:r.jF=some d0) (hs:SSet ρ i (.va d0) ρ') (h:aH c st ρ' nx p):aH c st ρ nx p:=λσ H Hf D S o=>by
 obtain ⟨a,ob,ha,yN,hm,S1⟩:=S.jW hi.get hr
 rw [<- hs.eq] at S1
 exact h σ H _ D S1 o
theorem Gi {st:Stmt} (i) (hi:At ρ i r) (hr:r.jF=some d0) (hs:SSet ρ i (.va d0) ρ') (h:eV c st ρ' nx p):eV c st ρ nx p:=λσ H Hf D S o=>by
 obtain ⟨a,ob,ha,yN,hm,S1⟩:=S.jW hi.get hr
 rw [<- hs.eq] at S1
 exact h σ H _ D S1 o
theorem LO (hN:At N i x) (hi:At ρ i r) (hr:r.jF=some (.lst ds)) (hs:SSet ρ i (.va (.lst ds)) ρ') (h:aL c b ρ' λy=>Sd y.nl (∃ j d,y=.int j/\jR ds j=some d/\Sd d.nl (R d))) (hx:At ρ' i (.va (.lst ds)))
 (hd:(x == ("__debug__":Str))=false:=by decide) (hcd:(x == ("__classdict__":Str))=false:=by decide) (hp:jS b:=by with_unfolding_all exact λ_ _=>rfl):aL c (.Subscript (.Name x p2) b pos) ρ R :=
 Aq i hi hr hs (LH (uH hN hx (h.imp λy ⟨_,j,d,e1,e2,e3⟩=>⟨ds,j,d,rfl,e1,e2,e3⟩) hd hcd) hp)
theorem SSet.at (h:SSet l i r l'):At l' i r:=by
 induction h with
 | z=>exact .z
 | s _ ih=>exact .s ih
theorem Im (hm:mg "len"=none) (hN:At N i x) (hi:At ρ i r) (hr:r.jF=some (.lst ds)) (hs:SSet ρ i (.va (.lst ds)) ρ') (h:R (.int ds.length)) (hg:sc.names.lookup (O5 "len")=some .globalImplicit:=by walk_at "u")
 (hd:(x == ("__debug__":Str))=false:=by decide) (hcd:(x == ("__classdict__":Str))=false:=by decide)
 (he:∀ env,starEach [.Name x p2] env=(false,eval (.Name x p2) env)::starEach [] env:=by intro _; walk_at "u"):aL c (.Call (.Name "len" p1) [.Name x p2] [] pos) ρ R :=
 Aq i hi hr hs (e_len hm (uH hN hs.at ⟨ds,rfl,jb,h⟩ hd hcd) hg he)
theorem Ar (hm:mg "tuple"=none) (hN:At N i x) (hi:At ρ i r) (hr:r.jF=some (.lst ds)) (hs:SSet ρ i (.va (.lst ds)) ρ') (h:Sd (D.om ds) (R (.tup ds))) (hg:sc.names.lookup (O5 "tuple")=some .globalImplicit:=by walk_at "u")
 (hd:(x == ("__debug__":Str))=false:=by decide) (hcd:(x == ("__classdict__":Str))=false:=by decide)
 (he:∀ env,starEach [.Name x p2] env=(false,eval (.Name x p2) env)::starEach [] env:=by intro _; walk_at "u"):aL c (.Call (.Name "tuple" p1) [.Name x p2] [] pos) ρ R :=
 Aq i hi hr hs (uS hm (uH hN hs.at ⟨ds,rfl,oq h.s,h.r⟩ hd hcd) hg he)
end
end EV
set_option maxHeartbeats 0
namespace EV
open PySem PySem.Spec PyProof.Rows L2
section
variable {P:Program} {w:World} {K:O7} {mg:Str->Option Value} {base h:Heap}
def ay (K:O7) (mg:Str->Option Value) (x:Str) (st:Stmt):Prop:=∃ f fd,mg x=some (.ref f)/\dI K x x st f fd
theorem Io {st:Stmt} {kV doc pm cdv ct:Value} (KX:K.In h) (G:h.Ns mainGlobals mg) (a:Qq K mainGlobals x=some (some (.ref f)))
 (l:K.lookup f=some ⟨oc,od,.func (Ri x x (d9 st) (aq st) (aO st) .none kV doc pm an cdv ct),osl⟩) (c:Ux K cdv x=true) (k:Q7 K (.ref f)=true):ay K mg x st :=
 ⟨f,_,PySem.W.mg_of KX G a,HF l c k⟩
theorem Ip (e:(t == QD T)=false) (m:PySem.W.kitMeta T=true) (s:PySem.W.subIn K t (.type T)=some b):QT K t (.type T)=some b:=by
 unfold QT PySem.W.kitCls
 simp [e,m,s]
theorem kH (e:(t == t)=true):QT K t t=some true:=by
 unfold QT
 simp [e]
structure Txt (K:O7) (mg:Str->Option Value):Prop where
 abs:mg "abs"=none
 len:mg "len"=none
 isin:mg "isinstance"=none
 range:mg "range"=none
 int:mg "int"=none
 bool:mg "bool"=none
 tuple:mg "tuple"=none
 list:mg "list"=none
 max:mg "max"=none
 min:mg "min"=none
 sum:mg "sum"=none
 sorted:mg "sorted"=none
 zip:mg "zip"=none
 enum:mg "enumerate"=none
 all:mg "all"=none
 any:mg "any"=none
 dict:mg "dict"=none
 ib:QT K (.type "int") (.type "bool")=some false
theorem Txt.LP (T:Txt K mg):ic mg "int" (.type "int"):=.inr ⟨_,rfl,T.int,by decide +kernel,by decide +kernel⟩
theorem Txt.Iq (T:Txt K mg):ic mg "bool" (.type "bool"):=.inr ⟨_,rfl,T.bool,by decide +kernel,by decide +kernel⟩
theorem Txt.Ea (T:Txt K mg):ic mg "tuple" (.type "tuple"):=.inr ⟨_,rfl,T.tuple,by decide +kernel,by decide +kernel⟩
theorem Txt.Ir (T:Txt K mg):ic mg "list" (.type "list"):=.inr ⟨_,rfl,T.list,by decide +kernel,by decide +kernel⟩
theorem Iu:QT K (.type "int") (.type "int")=some true:=kH (by decide)
theorem Iv:QT K (.type "tuple") (.type "tuple")=some true:=kH (by decide)
theorem Iw:QT K (.type "list") (.type "list")=some true:=kH (by decide)
theorem Iz (KX:K.In h) (G:h.Ns mainGlobals mg)
 (z1:Qq K mainGlobals "abs"=some none)
 (z2:Qq K mainGlobals "len"=some none)
 (z3:Qq K mainGlobals "isinstance"=some none)
 (z4:Qq K mainGlobals "range"=some none)
 (z5:Qq K mainGlobals "int"=some none)
 (z6:Qq K mainGlobals "bool"=some none)
 (z7:Qq K mainGlobals "tuple"=some none)
 (z8:Qq K mainGlobals "list"=some none)
 (z9:Qq K mainGlobals "max"=some none)
 (z10:Qq K mainGlobals "min"=some none)
 (z11:Qq K mainGlobals "sum"=some none)
 (z12:Qq K mainGlobals "sorted"=some none)
 (z13:Qq K mainGlobals "zip"=some none)
 (z14:Qq K mainGlobals "enumerate"=some none)
 (z15:Qq K mainGlobals "all"=some none)
 (z16:Qq K mainGlobals "any"=some none)
 (z17:Qq K mainGlobals "dict"=some none)
 (sib:PySem.W.subIn K (.type "int") (.type "bool")=some false):Txt K mg :=
 ⟨Qx KX G z1,Qx KX G z2,Qx KX G z3,Qx KX G z4,Qx KX G z5,Qx KX G z6,Qx KX G z7,Qx KX G z8,
  Qx KX G z9,Qx KX G z10,Qx KX G z11,Qx KX G z12,Qx KX G z13,Qx KX G z14,Qx KX G z15,Qx KX G z16,Qx KX G z17,
  Ip (by decide) (by decide) sib⟩
theorem IB {α:Type} (us:List α) (h:us.length=1):∃ a,us=[a]:=by match us,h with | [a],_=>exact ⟨a,rfl⟩
theorem IC {α:Type} (us:List α) (h:us.length=2):∃ a b,us=[a,b]:=by match us,h with | [a,b],_=>exact ⟨a,b,rfl⟩
theorem ID {α:Type} (us:List α) (h:us.length=3):∃ a b c,us=[a,b,c]:=by match us,h with | [a,b,c],_=>exact ⟨a,b,c,rfl⟩
theorem aS (P) (w) (base) {st:Stmt} (D:ay K mg x st) (ok:∀ {f:Addr} {fd:FuncData},dI K x x st f fd->bq P w K mg base (cK P w) k f fd ps (dM K F))
 (hb:∀ (kV doc pm:Value) (an:Option Addr) (cdv ct:Value) (us:List Value),us.length=ps.length->bindArgs (Ri x x (d9 st) (aq st) (aO st) .none kV doc pm an cdv ct) ⟨us,[]⟩=pure (ps.zip us):=by intro _ _ _ _ _ _ us hl; first | (obtain ⟨a,rfl⟩:=IB us hl; rfl) | (obtain ⟨a,b,rfl⟩:=IC us hl; rfl) | (obtain ⟨a,b,c,rfl⟩:=ID us hl; rfl) | (obtain ⟨a,b,c,d,rfl⟩:=len4 us hl; rfl) | (obtain ⟨a,b,c,d,e,rfl⟩:=len5 us hl; rfl) | (obtain ⟨a,b,c,d,e,f,rfl⟩:=len6 us hl; rfl) | (obtain rfl:=len0 us hl; rfl)):cI P w K mg base k x F :=
 let ⟨f,fd,m,Fu⟩:=D; ⟨f,fd,ps,m,Fu.kp,Fu.binds hb,ok Fu⟩
noncomputable def Au:Fn:=λds r=>∃ ns:List Int,ns.length<=63/\ds=[.lst (ns.map D.int)]/\r=.ok (.va (.bl true))
theorem IE (H) (a) (ns:List Int) (hl:ns.length<=63) (hS:fk K H a (ns.map V.int)):dM K Au [.ref a] H (λv _=>v=.bl true) λ_ _ _=>False :=
 ⟨H,[.lst (ns.map D.int)],.ok (.va (.bl true)),.refl H,.cons (aU.mpr ⟨a,_,rfl,hS,mK ns⟩) (aB.mpr rfl),⟨ns,hl,rfl,rfl⟩,λv H' aj _ r=>(cZ (K:=K) (H:=aj)).mp r⟩
theorem walk {l:PySem.W.OpenLaw} {K:Params->O7} (hk:k<=20) (hn:l.most=some 63) (hdf:d.params.defaults=[])
 (hY:∀ (w:World) (h:Heap),YP w h->(K w.params).In h)
 (F:∀ (w:World) (mg:Str->Option Value) (fa:Addr) (h:Heap),(K w.params).In h->h.Ns mainGlobals mg->mg d.name=some (.ref fa) ->
   ∃ fd:FuncData,(∀ (s:Shared) (u:Value),BindsTo s fd ⟨[u],[]⟩ [("_law_script",u)])/\∀ base:Heap,(K w.params).In base->base.Ns mainGlobals mg->bq l.prog w (K w.params) mg base (cK l.prog w) 20 fa fd ["_law_script"] (dM (K w.params) Au)) :
 PySem.W.WalkO q loose XP YP l.row.toRowW d [] (λf vs=>PySem.call f vs) :=
 L2.DF (n:=63) (k:=20) (x:="_law_script") (CX:=λw=>cK l.prog w) (sp:=λw=>dM (K w.params) Au) hn (by decide) hdf ⟨rfl,by decide,by decide⟩ hY F (λ_ H a ns hl _ hS=>IE H a ns hl hS) λ_ _ _ _ _ ⟨_,_,_,_,_,q⟩=>q
end
theorem iA (f:α->β) (xs) (lo hi):EV.cutD (xs.map f) lo hi=(EV.cutD xs lo hi).map f:=by
 unfold EV.cutD; simp only [Pe,List.map_take,List.map_drop]
theorem iB (h0:0<=j) (h1:j<xs.length):jR xs j=xs[j.toNat]?:=by
 unfold jR Ku
 rw [if_pos h0,if_pos h1]; rfl
theorem u9 {j:Int} (h0:j<0) (h1:0<=j+xs.length):jR xs j=xs[(j+xs.length).toNat]?:=by
 unfold jR Ku
 rw [if_neg (by lia)]
 rw [if_pos (by lia)]; rfl
theorem Av (h:a.natAbs<2 ^ 63):QJ a<=64:=by
 unfold QJ
 by_cases z:a=0
 ·subst z; decide
 ·have e:(a == 0)=false:=by simpa using z
  rw [e,if_neg Pn]
  have:=(Nat.log2_lt (n:=a.natAbs) (k:=63) (by lia)).mpr h
  lia
theorem qz (h:a.natAbs<2 ^ 63):EV.MulOk a b:=IntMulOk.of_left (Av h)
theorem iC (h:(lZ 0 n)[i]?=some d):i<n/\d=.int (i:Int):=by
 unfold lZ at h
 simp only [Pk,Pq] at h
 obtain ⟨j,h1,rfl⟩:=h
 obtain ⟨hj,rfl⟩:=Ph.mp h1
 simp at hj
 exact ⟨hj,by simp⟩
section
variable {K:O7}
theorem Gj (I) (h:i7 c t ρ (lP (aH c A ρ I p) (aH c B ρ I p))) (hI:∀ ρ',I ρ'->nx ρ'):eV c (.If t A B pos) ρ nx p :=
 HM (h.imp λx hx=>⟨λe σ H Hf D S o=>hx.t e σ H Hf D S ⟨λσ H Hf ρ S q=>o.nx σ H Hf ρ S (hI _ q),o.rt,o.bk,o.ct⟩,λe σ H Hf D S o=>hx.f e σ H Hf D S ⟨λσ H Hf ρ S q=>o.nx σ H Hf ρ S (hI _ q),o.rt,o.bk,o.ct⟩⟩)
end
end EV
namespace EV
open PySem PySem.Spec PySem.Calls PyProof.Rows L2
noncomputable def HO.dct:HO->Prop | .dK _=>True | .dT _=>True | _=>False
theorem oA (I:Inv X aa σ H s) (hu:H a=some u) (nu:∀ xs,u≠.tup xs) (nw:∀ y,u≠.own y) (nt:∀ ps,u≠.tbl ps) (nf:∀ o z,X.H₀ a≠some (.frz o z))
 (hv:bz X.prog X.w H s.heap a v):Inv X aa σ (upd H a v) s:=by
 have hne:∀ {b:Addr} {z:HO},H b=some z->z≠u->b≠a:=λe d q=>by subst q; rw [hu] at e; cases e; exact d rfl
 have hno:∀ {b:Addr},H b=none->b≠a:=λe q=>by subst q; rw [hu] at e; cases e
 have hst:∀ {b:Addr} {z:HO},bz X.prog X.w H s.heap b z->bz X.prog X.w (upd H a v) s.heap b z:=λq =>
  q.stay (λ_ _ _ e=>e) (λb e=>by rw [ah (hne e (Py (nw _)))]; exact e) λb xs e=>by rw [ah (hne e (Py (nu xs)))]; exact e
 have fr:=I.free
 exact {
  ok:=I.ok,os:=I.os,bare:=I.bare,loc:=I.loc,cell:=I.cell,len:=I.len
  base:=⟨I.base.keep,I.base.slot,λb o h1 h2 h3=>by have e:=I.base.free b o h1 h2 h3; rw [ah (hno e)]; exact e,I.base.there,
   λb xs e=>by have q:=I.base.tups b xs e; rw [ah (hne q (Py (nu xs)))]; exact q,
   λb o z e=>by
    have q:=I.base.frzs b o z e
    by_cases w:b=a
    ·subst w; exact absurd e (nf o z)
    ·rw [ah w]; exact q,
   λb ps e=>by obtain ⟨m,q⟩:=I.base.tbls b ps e; exact ⟨m,by rw [ah (hne q (Py (nt _)))]; exact q⟩⟩
  free:=by rw [ah (hno I.free)]; exact I.free
  freeC:=λx c e=>by have q:=I.freeC x c e; rw [ah (hno q)]; exact q
  pin:=λq hq=>by obtain ⟨h1,h2,h3⟩:=I.pin q hq; exact ⟨h1,by rw [ah (hno h2)]; exact h2,h3⟩
  hok:=λb z e=>by
   by_cases w:b=a
   ·subst w; rw [af] at e; cases e; exact hst hv
   ·rw [ah w] at e; exact hst (I.hok b z e) }
theorem Eb (I:Inv X aa σ H s) (hu:H a=some u) (hd:HO.dct u) :
 ∃ o,Inv X aa σ (upd H a (.frz o u)) s/\∀ o z,X.H₀ a≠some (.frz o z):=by
 obtain ⟨o,ho⟩:=HR (I.hok a u hu)
 have nf:∀ o z,X.H₀ a≠some (.frz o z):=λo z e=>by
  have q:=I.base.frzs a o z e
  rw [hu] at q; cases q; exact hd
 exact ⟨o,oA I hu (by rintro xs rfl; exact hd) (by rintro y rfl; exact hd) (by rintro ps rfl; exact hd) nf ⟨ho,I.hok a u hu⟩,nf⟩
theorem Aw (I:Inv X aa σ H s) (hu:H a=some (.frz o u)) (nf:∀ o z,X.H₀ a≠some (.frz o z)):Inv X aa σ (upd H a u) s :=
 oA I hu (by intro xs z; cases z) (by intro y z; cases z) (by intro ps z; cases z) nf (I.hok a _ hu).2
noncomputable def Sl.qA:Sl->Option D
 | .oK kvs=>some (.fdK (kvs.map (·.1)) (kvs.map (·.2))) | .aK _ kvs=>some (.fdK (kvs.map (·.1)) (kvs.map (·.2)))
 | .oT kvs=>some (.fdT (kvs.map (·.1)) (kvs.map (·.2))) | .aT _ kvs=>some (.fdT (kvs.map (·.1)) (kvs.map (·.2)))
 | _=>none
theorem kI {r:Sl} (h:r.qA=some d):r.owned=true:=by cases r <;> first | rfl | cases h
section
variable {K:O7}
theorem aY.qA (h:r.qA=some d) (q:aY K fr H Hf r v):∃ p u,v=.ref p/\fr p/\H p=some u/\Hf p=none/\HO.dct u/\∀ o,Rep K (L2.upd Hf p (.frz o u)) d v:=by
 have sf:∀ {p:Addr} {o:HO},Hf p=none->aM Hf (L2.upd Hf p o):=λhp b u e=>by rw [ah (aE e hp)]; exact e
 cases r with
 | oK ds=>cases h; obtain ⟨p,xs,rfl,f,h1,h2,h3⟩:=q; exact ⟨p,_,rfl,f,h1,h2,trivial,λo=>gY.mpr ⟨p,xs,o,rfl,af,(iz h3).1,(iz h3).2.mono (sf h2)⟩⟩
 | aK a ds=>cases h; obtain ⟨p,xs,rfl,f,h1,h2,h3⟩:=q; exact ⟨p,_,rfl,f.1,h1,h2,trivial,λo=>gY.mpr ⟨p,xs,o,rfl,af,(iz h3).1,(iz h3).2.mono (sf h2)⟩⟩
 | oT ds=>cases h; obtain ⟨p,xs,rfl,f,h1,h2,h3⟩:=q; exact ⟨p,_,rfl,f,h1,h2,trivial,λo=>nV.mpr ⟨p,xs,o,rfl,af,(eX h3).1,λy hy=>az (sf h2) ((eX h3).2.1 y hy),(eX h3).2.2.mono (sf h2)⟩⟩
 | aT a ds=>cases h; obtain ⟨p,xs,rfl,f,h1,h2,h3⟩:=q; exact ⟨p,_,rfl,f.1,h1,h2,trivial,λo=>nV.mpr ⟨p,xs,o,rfl,af,(eX h3).1,λy hy=>az (sf h2) ((eX h3).2.1 y hy),(eX h3).2.2.mono (sf h2)⟩⟩
 | _=>cases h
theorem cH.Ec (S:cH K H₀ c9 σ H Hf ρ) (h:ρ[i]?=some r) (hr:r.qA=some d) :
 ∃ q u,H q=some u/\Hf q=none/\HO.dct u/\∀ o,cH K H₀ c9 σ (L2.upd H q (.frz o u)) (L2.upd Hf q (.frz o u)) (ρ.set i (.va d)):=by
 obtain ⟨q,ev,rq⟩:=S.own h (kI hr)
 obtain ⟨_,u,e0,fq,hq,su,hd,rd⟩:=rq.qA hr
 cases e0
 have hi:i<ρ.length:=(Ph.mp h).1
 have hown:=kI hr
 refine ⟨q,u,hq,su,hd,λo=>⟨⟨λb z e=>?_,λb z e=>?_,λb z e=>?_,λb h1 h2 h3=>?_⟩,by simp [S.len],λj r' hj hu=>?_,λj j' r1 r2 q' hne h1 h2 o1 o2=>?_⟩⟩
 ·rw [L2.ah (aE e fq)]; exact S.bas.s b z e
 ·have e2:=S.bas.f b z e
  rw [L2.ah (aE e2 su)]; exact e2
 ·by_cases w:b=q
  ·subst w; rw [L2.af] at e |-; exact e
  ·rw [L2.ah w] at e |-; exact S.sb b z e
 ·have e:=S.bas.n b h1 h2 h3
  by_cases z:b=q
  ·subst z; exact absurd fq h2
  ·rw [L2.ah z]; exact e
 ·have sf:aM Hf (L2.upd Hf q (.frz o u)):=λb z e=>by rw [L2.ah (aE e su)]; exact e
  by_cases z:j=i
  ·subst z
   rw [Qm hi] at hj
   cases hj
   exact ⟨_,ev,rd o⟩
  ·rw [Qe (Py z)] at hj
   obtain ⟨v,e1,e2⟩:=S.at_ j r' hj hu
   refine ⟨v,e1,?_⟩
   have key:r'.owned=true->v≠.ref q:=λho z=>by
    subst z
    exact S.sep i j _ _ q (Py ‹_›) h hj hown ho ev e1
   exact aY.mv (B:=λz=>z=q) sf (λz w hz e1 _ e3=>⟨by rw [L2.ah hz]; exact e1,by rw [L2.ah hz]; exact e3⟩) (by rintro _ z rfl ⟨ys,e9⟩; rw [hq] at e9; cases e9; exact hd) (λho z e=>by rintro rfl; exact key ho e) e2
 ·have out:∀ {j:Nat} {r:Sl},(ρ.set i (.va d))[j]?=some r->r.owned=true->ρ[j]?=some r:=λ{j r} hj ho=>by
   by_cases z:j=i
   ·subst z; rw [Qm hi] at hj; cases hj; cases ho
   ·rw [Qe (Py z)] at hj; exact hj
  exact S.sep j j' r1 r2 q' hne (out h1 o1) (out h2 o2) o1 o2
end
theorem xu (sb:aM Hf H) (hq:H q=some u) (su:Hf q=none) (g:br (upd H q (.frz o u)) (upd Hf q (.frz o u)) H' aj):br H Hf (upd H' q u) (del aj q) :=
 ⟨λb z e=>by
   by_cases w:b=q
   ·subst w; rw [af]; rw [hq] at e; exact e
   ·rw [ah w]; exact g.s b z (by rw [ah w]; exact e),
   λb z e=>by rw [cu (aE e su)]; exact g.f b z (by rw [ah (aE e su)]; exact e),
   λb z e=>by obtain ⟨w,e2⟩:=ir e; rw [ah w]; exact g.b b z e2,λb h1 h2 h3=>by
   by_cases w:b=q
   ·subst w; exact ig
   ·rw [cu w]; exact g.n b (by rw [ah w]; exact h1) (by rw [ah w]; exact h2) λxs=>by rw [ah w]; exact h3 xs⟩
theorem Ed {K:O7} (hp:Hf p=some (.frz o u)) (hd:HO.dct u) (h:dh K Hf a xs):dh K (del Hf p) a xs:=by
 rcases h with (h | ⟨o',h⟩) | h
 ·exact .inl (.inl (by rw [cu (by rintro rfl; rw [hp] at h; cases h)]; exact h))
 ·exact .inl (.inr ⟨o',by rw [cu (by rintro rfl; rw [hp] at h; cases h; exact hd)]; exact h⟩)
 ·exact .inr h
mutual
theorem Ax {K:O7} {Hf:Hp} {p:Addr} {o:Obj} {u:HO} (hp:Hf p=some (.frz o u)) (hd:HO.dct u):∀ (d:D) {v:V},d.nl->Rep K Hf d v->Rep K (del Hf p) d v
 | .non,_,_,h=>by simpa [Rep] using h
 | .bl _,_,_,h=>by simpa [Rep] using h
 | .int _,_,_,h=>by simpa [Rep] using h
 | .str _,_,_,h=>by simpa [Rep] using h
 | .adr _,_,_,h=>by simpa [Rep] using h
 | .tup ds,v,f,h=>by
  simp only [Rep] at h |-
  obtain ⟨a,xs,e,h1,h2⟩:=h
  exact ⟨a,xs,e,Ed hp hd h1,oB hp hd ds (by simpa [D.nl] using f) h2⟩
 | .lst _,_,f,_=>by simp [D.nl] at f
 | .fdK _ _,_,f,_=>by simp [D.nl] at f
 | .fdT _ _,_,f,_=>by simp [D.nl] at f
 | .exc C,_,_,h=>by
  simp only [Rep] at h |-
  obtain ⟨a,e,h⟩:=h
  exact ⟨a,e,by rw [cu (by rintro rfl; rw [hp] at h; cases h)]; exact h⟩
theorem oB {K:O7} {Hf:Hp} {p:Addr} {o:Obj} {u:HO} (hp:Hf p=some (.frz o u)) (hd:HO.dct u):∀ (ds:List D) {xs:List V},D.om ds->ak K Hf ds xs->ak K (del Hf p) ds xs
 | [],_,_,h=>by simpa [ak] using h
 | d::ds,xs,f,h=>by
  simp only [ak] at h |-
  simp only [D.om] at f
  obtain ⟨x,r,e,h1,h2⟩:=h
  exact ⟨x,r,e,Ax hp hd d f.1 h1,oB hp hd ds f.2 h2⟩
end
section
variable {K:O7}
theorem Ay (S:bB c σ H Hf ρ) (hi:At ρ i r) (hr:r.qA=some d0) (hs:SSet ρ i (.va d0) ρ')
 (h:∀ q u o,H q=some u->Hf q=none->HO.dct u->bB c σ (upd H q (.frz o u)) (upd Hf q (.frz o u)) ρ'->bE c.X e σ (upd H q (.frz o u)) λv H'=>∃ aj,br (upd H q (.frz o u)) (upd Hf q (.frz o u)) H' aj/\Q v (upd H' q u)):bE c.X e σ H Q:=by
 obtain ⟨q,u,hq,su,hd,S1⟩:=S.Ec hi.get hr
 intro aa s I
 obtain ⟨o,I1,nf⟩:=Eb I hq hd
 have S2:=S1 o
 rw [<- hs.eq] at S2
 refine bC (h q u o hq su hd S2 aa s I1) λv s' ⟨x,H',I',rv,aj,g,hQ⟩=>⟨x,_,Aw I' (g.s q _ af) nf,rv,hQ⟩
theorem sW (i) {R:Sl->Prop} (hi:At ρ i r) (hr:r.qA=some d0) (hs:SSet ρ i (.va d0) ρ') (h:cV c e ρ' λd=>Sd d.nl (R d)):cV c e ρ R:=λσ H Hf Q S q=>by
 refine Ay S hi hr hs λa u o ha yN hd S1=>h σ _ _ _ S1 λr1 v H' aj ⟨fl,rd⟩ rv g=>⟨aj,g,?_⟩
 have hp:=g.f a _ af
 refine q r1 v _ (del aj a) rd ?_ (xu S.sb ha yN g)
 have hH:H' a=some (.frz o u):=g.s a _ af
 cases r1 with
 | va d=>exact Ax hp hd d fl rv
 | ow ds =>
  obtain ⟨b,xs,rfl,fb,h1,h2,h3⟩:=rv
  have nb:b≠a:=by rintro rfl; rw [show (upd H b (.frz o u)) b=_ from af] at fb; cases fb
  exact ⟨b,xs,rfl,by rw [ah nb] at fb; exact fb,by rw [ah nb]; exact h1,by rw [cu nb]; exact h2,oB hp hd ds fl h3⟩
 | _=>exact fl.elim
end
def Az (h:Heap) (it d:Addr) (i n ep:Nat):Prop :=
 ∃ (x:Value) (f:Bool) (k v:Value),h.get? it=some { cls:=.type "dict_itemiterator",dict:=none,data:=.fields #[x,.bool f,.ref d,.int i 0,.int n 0,.int ep 0,k,v],slots:= #[] }/\(x=.none\/∃ a:Addr,x=rawInt a)
section
variable {s:Shared} {i n ep:Nat}
theorem oE:Builtin.Dict_items.ownsTuple "dict_itemiterator"=true:=by decide
theorem qB (h:Q (s.heap.get? a) s):wpAny M A (loadIfAlive a) Q E s:=λΓ p z=>by
 show Sem.wp M Γ (Sem.loadIfAlive a Sem.pure) _ _ p s
 rw [Sem.wp_loadIfAlive,Sem.wp]
 exact h
theorem AA (hs:s.heap=h) (hit:h.get? it=some { cls:=.type "dict_itemiterator",dict:=none,data:=.fields #[x,.bool f,.ref d,.int i 0,.int n 0,.int ep 0,k,v],slots:= #[] }) (hx:x=.none\/∃ a:Addr,x=rawInt a)
 (hQ:∀ h',Az h' it d i n ep->h'.get? h.objs.size=some { cls:=.type "tuple",data:=.seq #[a,b] }->h'.objs.size=h.objs.size+1->(∀ c o,c≠it->h.get? c=some o->h'.get? c=some o)->Q (.ref h.objs.size) { s with heap:=h' }) :
 wpAny (model prog w) A (UM (.ref it) 6 a b) Q E s:=by
 subst hs
 have lt:it<s.heap.objs.size:=Pf hit
 have ne:s.heap.objs.size≠it:=RE lt
 unfold UM
 refine O6 (Uu ?_)
 have r9:=Pc ({ cls:=.type "tuple",data:=.seq [a,b].toArray }:Obj) hit
 have htu:(s.heap.push { cls:=.type "tuple",data:=.seq [a,b].toArray }).get? s.heap.objs.size=some { cls:=.type "tuple",data:=.seq #[a,b] }:=Pp _ rfl
 have hsz:(s.heap.push { cls:=.type "tuple",data:=.seq [a,b].toArray }).objs.size=s.heap.objs.size+1:=Q3 ..
 have hold:∀ c o,s.heap.get? c=some o->(s.heap.push { cls:=.type "tuple",data:=.seq [a,b].toArray }).get? c=some o:=λc o e=>Pc _ e
 generalize (s.heap.push { cls:=.type "tuple",data:=.seq [a,b].toArray })=h2 at r9 htu hsz hold |-
 have free:wpAny (model prog w) A (do
  let old:=[<- field (.ref it) 6,<- field (.ref it) (6+1)]
  setField (.ref it) 6 a; setField (.ref it) (6+1) b
  setField (.ref it) 0 (rawInt s.heap.objs.size); setField (.ref it) 1 (.bool false)
  letGo old [.ref s.heap.objs.size]
  pure (PJ s.heap.objs.size)) Q E { s with heap:=h2 }:=by
  refine O6 (Qc r9 rfl (x:=k) rfl (O6 (Qc r9 rfl (x:=v) rfl ?_)))
  refine O6 (QN r9 (by simp) λh3 e3 s3=>?_)
  refine O6 (QN e3 (by simp) λh4 e4 s4=>?_)
  refine O6 (QN e4 (by simp) λh5 e5 s5=>?_)
  refine O6 (QN e5 (by simp) λh6 e6 s6=>?_)
  have keep:∀ c o,c≠it->h2.get? c=some o->h6.get? c=some o:=λc o hc e=>s6.extBut c o hc (s5.extBut c o hc (s4.extBut c o hc (s3.extBut c o hc e)))
  refine O6 (R8 (O8 (hQ h6 ⟨_,_,_,_,e6,.inr ⟨_,rfl⟩⟩ (keep _ _ ne htu) ?_ λc o hc e=>keep c o hc (hold c o e))))
  rw [s6.1,s5.1,s4.1,s3.1,hsz]
 have told:∀ (h3:Heap) (x:Value) (f:Bool),h3.get? it=some { cls:=.type "dict_itemiterator",dict:=none,data:=.fields #[x,.bool f,.ref d,.int i 0,.int n 0,.int ep 0,k,v],slots:= #[] }->(x=.none\/∃ a:Addr,x=rawInt a) ->
  QZ it h2 h3->Q (.ref s.heap.objs.size) { s with heap:=h3 }:=λh3 x f e hx' s3 =>
  hQ h3 ⟨x,f,k,v,e,hx'⟩ (s3.extBut _ _ ne htu) (by rw [s3.1,hsz]) λc o hc e=>s3.extBut c o hc (hold c o e)
 show wpAny _ _ (VD (.ref it) >>= _) _ _ _
 unfold VD
 refine O6 (O6 (Qc r9 rfl (x:=x) rfl ?_))
 rcases hx with rfl | ⟨a0,rfl⟩
 ·exact O8 free
 ·show wpAny _ _ (loadIfAlive (a0:Int).toNat >>= _) _ _ _
  refine O6 (qB ?_)
  split
  ·exact O8 free
  ·refine O6 ?_
   refine Qc r9 rfl (x:=.bool f) rfl ?_
   cases f with
   | true =>
    dsimp only
    rw [if_neg (by decide)]
    exact O8 (O8 (told h2 _ _ r9 (.inr ⟨a0,rfl⟩) (.refl ..)))
   | false =>
    dsimp only
    rw [if_pos (by decide)]
    refine O6 (QN r9 (by simp) λh3 e3 s3=>?_)
    exact O8 (O8 (told h3 _ true e3 (.inr ⟨a0,rfl⟩) s3))
theorem Az.IF (h:Az s.heap it d i n ep):s.TypeIs (.ref it) "dict_itemiterator":=let ⟨_,_,_,_,e,_⟩:=h; ⟨_,e,rfl⟩
theorem next_item (hit:Az s.heap it d i es.size ep) (hod:s.heap.get? d=some od) (hdd:od.data=.dict es ep) (hx:es[i]?=some e)
 (hQ:∀ h',Az h' it d (i+1) es.size ep->h'.get? s.heap.objs.size=some { cls:=.type "tuple",data:=.seq #[e.key,e.val] }->h'.objs.size=s.heap.objs.size+1->(∀ c o,c≠it->s.heap.get? c=some o->h'.get? c=some o)->Q (some (.ref s.heap.objs.size)) { s with heap:=h' }) :
 wpAny (model prog w) A (pyNext (.ref it)) Q E s:=by
 have hT:=hit.IF
 obtain ⟨x,f,k,v,hat,hxx⟩:=hit
 have hlt:i<es.size:=(Sn.mp hx).1
 unfold pyNext
 refine O6 (RB (Q9 (name:=O5 "__next__") hT Sg (QO Sg hT VJ ?_ (VF _))))
 refine O6 (O8 (O6 (O6 ?_)))
 first | refine O6 (Tz hT (O8 ?_)) | refine O6 (TH hT (O8 ?_))
 refine O6 (wpAny_fieldsOf hat rfl ?_)
 simp only [oE,if_true]
 show wpAny _ _ (if (PJ d == Qw)=true then _ else _) _ _ _
 rw [if_neg (show ¬ (PJ d == Qw)=true from Pn)]
 refine O6 (O8 (O6 (Vg hod hdd ?_)))
 rw [if_neg (by simp)]
 refine O6 (O8 (O6 (wpAny_dictEpoch hod hdd ?_)))
 rw [if_neg (by simp)]
 refine O8 ?_
 simp only [show ¬ ((i:Int)<0) from by lia,if_false,Qt,hx]
 refine O6 ?_
 first | refine O6 (Tz hT (O8 ?_)) | refine O6 (TH hT (O8 ?_))
 refine O6 (UU hT ?_)
 show wpAny _ _ (setField (.ref it) 3 (rawInt ((i:Int)+1)) >>= _) _ _ s
 refine O6 (QN hat (by simp) λh1 e1 s1=>?_)
 have e1':h1.get? it=some { cls:=.type "dict_itemiterator",dict:=none,data:=.fields #[x,.bool f,.ref d,.int ((i+1:Nat):Int) 0,.int es.size 0,.int ep 0,k,v],slots:= #[] }:=by
  have q:((i+1:Nat):Int)=(i:Int)+1:=by lia
  rw [q]; simpa [rawInt] using e1
 have hT1:Shared.TypeIs { s with heap:=h1 } (.ref it) "dict_itemiterator":=⟨_,e1',rfl⟩
 refine O6 (QL ?_)
 refine O6 (UU hT1 (O6 (UU hT1 ?_)))
 show wpAny _ _ (UM (.ref it) 6 e.key e.val) _ _ { s with heap:=h1 }
 have z1:h1.objs.size=s.heap.objs.size:=s1.1
 refine AA (s:={ s with heap:=h1 }) rfl e1' hxx λh2 g2 t2 z2 k2=>?_
 rw [z1] at t2 z2 |-
 exact O8 ⟨_,rfl,O8 (hQ h2 g2 t2 z2 λc o hc q=>k2 c o hc (s1.extBut c o hc q))⟩
theorem next_end (hh:A.handled=none) (hit:Az s.heap it d i es.size ep) (hod:s.heap.get? d=some od) (hdd:od.data=.dict es ep) (hx:es.size<=i)
 (hQ:∀ h',RI it s.heap h'->Q none { s with heap:=h' }):wpAny (model prog w) A (pyNext (.ref it)) Q E s:=by
 have hT:=hit.IF
 obtain ⟨x,f,k,v,hat,hxx⟩:=hit
 unfold pyNext
 refine O6 (RB (Q9 (name:=O5 "__next__") hT Sg (QO Sg hT VJ ?_ (VF _))))
 refine O6 (O8 (O6 (O6 ?_)))
 first | refine O6 (Tz hT (O8 ?_)) | refine O6 (TH hT (O8 ?_))
 refine O6 (wpAny_fieldsOf hat rfl ?_)
 simp only [oE,if_true]
 show wpAny _ _ (if (PJ d == Qw)=true then _ else _) _ _ _
 rw [if_neg (show ¬ (PJ d == Qw)=true from Pn)]
 refine O6 (O8 (O6 (Vg hod hdd ?_)))
 rw [if_neg (by simp)]
 refine O6 (O8 (O6 (wpAny_dictEpoch hod hdd ?_)))
 rw [if_neg (by simp)]
 refine O8 ?_
 simp only [show ¬ ((i:Int)<0) from by lia,if_false,Qt,U0 hx]
 refine O6 ?_
 first | refine O6 (Tz hT (O8 ?_)) | refine O6 (TH hT (O8 ?_))
 show wpAny _ _ (setField (.ref it) 2 .none >>= _) _ _ s
 refine O6 (Td hat rfl (by simp) (O6 ?_))
 simp only [newExc,newTuple]
 refine O6 (QB ?_ (by size_fits))
 refine O6 (m:=firstArgMember _ _) (wpAny_of_eq (a:=Qw) (by first | rfl | (simp only [firstArgMember]; rfl)) ?_)
 refine QB ?_ (by size_fits)
 simp only [raiseNew]
 refine O6 (wpAny_handled ?_)
 rw [show A.in1.handled=none from hh]
 refine O6 (O8 (wpAny_throw ?_))
 refine O6 (Ug (T:="StopIteration") (b:=true) ⟨_,Pp _ rfl,rfl⟩ isSubtype_stop ?_)
 exact O8 (hQ _ (((SQ ..).extBut.push _).push _))
theorem Ef (hit:Az s.heap it d i n ep) (h:∀ h',Az h' it d i n ep->QZ it s.heap h'->Q () { s with heap:=h' }):wpAny (model prog w) A (letOwnedTupleGo tg (.ref it) (.ref a)) Q E s:=by
 have stay:Q () s:=h s.heap hit (.refl ..)
 obtain ⟨x,f,k,v,hat,hxx⟩:=hit
 have part:wpAny (model prog w) A (do
  let o <- load it
  match o.cls,o.data with
  | .type n,.fields vs =>
   if (["enumerate","zip","dict_itemiterator","dict_reverseitemiterator","odict_iterator","itertools.zip_longest","itertools.pairwise"].contains n && vs[0]? == some (rawInt a))=true then do
    rule "for.unpacks-the-owned-tuple"
    updateField it 0 .none
   else pure ()
  | _,_=>pure ()) Q E s:=by
  refine O6 (wpAny_load hat ?_)
  dsimp only
  split
  ·refine O6 (Qz ?_)
   show wpAny _ _ (setField (.ref it) 0 .none) Q E s
   exact QN hat (by simp) λh' e' s'=>h h' ⟨_,_,_,_,e',.inl rfl⟩ s'
  ·exact O8 stay
 unfold letOwnedTupleGo
 cases tg <;> first
  | exact O8 stay
  | exact part
end
noncomputable def cG:HO->List (V×V)
 | .dK ys=>ys.map λy=>(kV y.1,y.2)
 | .dT ys=>ys.map λy=>(.ref y.2.1,y.2.2)
 | _=>[]
theorem vc (h:j6 k v=true):RelV (kV k) v:=by
 rcases bF h with ⟨i,t,rfl,rfl⟩ | ⟨x,t,rfl,rfl⟩
 ·exact ⟨t,rfl⟩
 ·exact ⟨t,rfl⟩
theorem di (ok:bz P w H h d u) (hd:HO.dct u) (ho:h.get? d=some o) :
 o.ExactDict/\∃ es ep,o.data=.dict es ep/\Paired (λ(a:V×V) (e:DictEntry)=>RelV a.1 e.key/\RelV a.2 e.val) (cG u) es.toList/\(d == sysModules)=false/\(cG u).length<=sizeLine:=by
 cases u with
 | dK ys =>
  obtain ⟨z,y,vs,kv,o',es,ep,h1,h2,h3,h4,h5,h6⟩:=ok
  rw [ho] at h1; cases h1
  refine ⟨h2,es,ep,h3,?_,y,by simpa [cG] using z⟩
  show Paired _ (ys.map _) _
  clear h3 h4 h6 z
  generalize es.toList=l at h5 |-
  unfold KV at kv
  induction kv generalizing l with
  | nil=>cases h5; exact .nil
  | @cons a b as bs q t ih =>
   cases h5 with
   | cons r t' t''=>exact .cons ⟨by show L2.RelV (kV a.1) _; rw [q.1]; exact vc r,by rw [t']; exact q.2⟩ (ih hd _ t'')
 | dT ys =>
  obtain ⟨z,y,xs,kv,o',es,ep,h1,h2,h3,h4,h5⟩:=ok
  rw [ho] at h1; cases h1
  refine ⟨h2,es,ep,h3,?_,y,by simpa [cG] using z⟩
  rw [h4]
  show Paired _ (ys.map _) _
  clear h3 h4 h5 z
  induction kv with
  | nil=>exact .nil
  | @cons a b as bs q t ih =>
   rw [Pd,Pd]
   refine .cons ⟨?_,q.2.2⟩ (ih hd)
   show PJ b.2.1=PJ a.2.1
   rw [q.2.1]
 | _=>exact hd.elim
theorem fy:∀ {l:List α} {m:List β} {i:Nat} {a:α},Paired F l m->l[i]?=some a->∃ b,m[i]?=some b/\F a b
 | _,_,_,_,.nil,e=>by simp at e
 | _,_,0,_,.cons r _,e=>by simp at e; subst e; exact ⟨_,rfl,r⟩
 | _,_,i+1,a,.cons _ t,e=>by
  obtain ⟨b,h1,h2⟩:=fy (i:=i) t (by simpa using e)
  exact ⟨b,by simpa using h1,h2⟩
noncomputable def M3 (d:Addr) (o:Obj) (u:HO):It :=
 ⟨λi H=>H d=some (.frz o u)/\i<(cG u).length,λi H x H'=>∃ p kv,(cG u)[i]?=some kv/\x=.ref p/\H p=none/\H'=upd H p (.tup [kv.1,kv.2]),λi H=>H d=some (.frz o u)/\(cG u).length<=i⟩
theorem xw:entryFor table "dict_itemiterator.__iter__"=some Builtin.«dict_keyiterator.__iter__» :=entryFor_alias (id':="dict_keyiterator.__iter__") (by kernel_rfl) rfl (by decide +kernel) (by kernel_rfl)
theorem kJ {P:Program} {w:World} {K:O7} {tg:Expr} {d it:Addr} {o:Obj} {u:HO} {es:Array DictEntry} {ep:Nat} (hd:HO.dct u) (hod:o.data=.dict es ep) (hne:it≠d) (hes:es.size=(cG u).length) :
 Turn P w K tg (M3 d o u) [it] it (λi h=>Az h it d i es.size ep) where
 mem:=by simp
 obj:=λi h st b hb=>by
  have e:b=it:=by simpa using hb
  subst e
  obtain ⟨x,f,k,v,e,_⟩:=st
  exact ⟨_,e,λv z=>by
   have z':Tq _=Se v:=z
   cases z'⟩
 keep:=λi h h' st k=>by
  obtain ⟨x,f,kk,v,e,hx⟩:=st
  exact ⟨x,f,kk,v,k it (by simp) _ e,hx⟩
 item:=by
  intro X hP hw hK hc i aa s σ H E I hf st hg
  subst hP hw hK
  obtain ⟨hH,hi⟩:=hg
  obtain ⟨f0,f1,f2,f3,f4,f5⟩:=hf it (by simp)
  obtain ⟨ho,ok⟩:=(show bz X.prog X.w H s.heap d (.frz o u) from I.hok d _ hH)
  obtain ⟨_,es',ep',e1,e2,_⟩:=di ok hd ho
  rw [hod] at e1; cases e1
  obtain ⟨e,he,re⟩:=fy e2 (PU hi)
  have he':es[i]?=some e:=by simpa using he
  refine next_item st ho hod he' λh1 g1 t1 z1 k1=>?_
  have hil:it<s.heap.objs.size:=by
   obtain ⟨_,_,_,_,q,_⟩:=st
   exact Pf q
  have Hp:H s.heap.objs.size=none:=I.hok.fresh (Pa _)
  have hit0:it≠s.heap.objs.size:=PM hil
  generalize hkv:(cG u)[i]=kv at re
  have IA:Inv X aa σ (upd H s.heap.objs.size (.tup [kv.1,kv.2])) { s with heap:=s.heap.push { cls:=.type "tuple",data:=.seq #[e.key,e.val] },toks:=s.toks } :=
   I.laid (a:=s.heap.objs.size) (o:=.tup [kv.1,kv.2]) (λ_ _ q=>Pc _ q) (Pa _) ⟨by show 2<=sizeLine; decide,[e.key,e.val],.cons re.1 (.cons re.2 .nil),_,Pp _ rfl,rfl,0,rfl⟩
  have g0:upd H s.heap.objs.size (.tup [kv.1,kv.2]) it=none:=by rw [ah hit0]; exact f0
  have I1:Inv X aa σ (upd H s.heap.objs.size (.tup [kv.1,kv.2])) { s with heap:=h1,toks:=s.toks }:=IA.turned (λb o hb q=>by
   by_cases z:b=s.heap.objs.size
   ·subst z
    rw [Pp _ rfl] at q; cases q; exact t1
   ·have lt:b<s.heap.objs.size:=by
     have:=Pf q
     rw [Q3] at this
     exact Nat.lt_of_le_of_ne (Nat.le_of_lt_succ this) z
    refine k1 b o hb ?_
    rw [Vq _ _ _ z] at q; exact q) g0 f1 f3 f4 f5
  refine ⟨_,rfl,Ef (s:={ s with heap:=h1 }) g1 λh2 g2 s2=>?_⟩
  refine ⟨.ref s.heap.objs.size,_,I1.turned (t':=s.toks) (λb o hb q=>(s2.2 b hb).trans q) g0 f1 f3 f4 f5,rfl,⟨_,kv,by rw [PU hi,hkv],rfl,Hp,rfl⟩,g2,λb hb=>?_⟩
  have e:b=it:=by simpa using hb
  rw [e]; exact g0
 done:=by
  intro X hP hw hK hc i aa s σ H E I hf st hg
  subst hP hw hK
  obtain ⟨hH,hi⟩:=hg
  obtain ⟨f0,f1,f2,f3,f4,f5⟩:=hf it (by simp)
  obtain ⟨ho,ok⟩:=(show bz X.prog X.w H s.heap d (.frz o u) from I.hok d _ hH)
  exact next_end (I.ok.hd hc) st ho hod (by lia) λh' eb=>⟨rfl,I.turned (t':=s.toks) (λb o hb e=>eb b o hb e) f0 f1 f3 f4 f5⟩
 self:=by
  intro A i s Q E st h
  have hT:=st.IF
  refine wpAny_pyIter_slot hT VM (QO VM hT xw ?_ (F.args_dict_itemiterator_iter_1 _))
  show wpAny _ _ (ret (.ref it)) _ _ s
  exact O8 ⟨_,rfl,"dict_itemiterator",_,hT,Sg.lookup,h⟩
theorem jB (d) (hd:(d == sysModules)=false) :
 MeetsIn prog w (Builtin.«dict.items» ⟨[.ref d],[]⟩) (λ_ R s=>s.TypeIs (.ref d) "dict"/\R (.ok (.ret (.ref s.heap.objs.size))) { s with heap:=s.heap.push { cls:=.type "dict_items",data:=.fields #[.ref d] } }) :=
 .of_wp λA R s ⟨hT,h⟩=>by
  unfold Builtin.«dict.items»
  refine O6 ?_
  unfold Builtin.Dict.noArgs
  refine O6 (wpAny_notOrdered_dict hT (show wpAny _ _ (pure d) _ _ s from O8 ?_))
  show wpAny _ _ (Builtin.Dict.showsAll d >>= _) _ _ s
  unfold Builtin.Dict.showsAll
  rw [if_neg (by rw [hd]; exact Pn)]
  exact O6 (O8 (O6 (QB (O8 ⟨_,rfl,h⟩))))
theorem mU (hv:s.heap.IsItemsView v d) (hod:s.heap.get? d=some od) (hdd:od.data=.dict es ep)
 (hQ:Q (.ref s.heap.objs.size) { s with heap:=s.heap.push { cls:=.type "dict_itemiterator",data:=.fields #[.none,.bool false,.ref d,.int 0 0,.int es.size 0,.int ep 0,.none,.none] } }) :
 wpAny (model prog w) A (pyIter (.ref v)) Q E s:=by
 obtain ⟨ov,hov,hcv,hdv⟩:=id hv
 refine wpAny_pyIter_slot hv.typeIs F.slot_dict_items_iter (QO F.slot_dict_items_iter hv.typeIs F.entry_dict_items_iter ?_ (F.args_dict_items_iter_1 _))
 unfold Builtin.«dict_items.__iter__»
 refine O6 (O8 (O6 ?_))
 unfold Builtin.Dict_items.dictOf
 refine O6 (Qc hov hdv (x:=.ref d) rfl (O8 (O6 ?_)))
 unfold Builtin.Dict_items.newIterator
 refine O6 (Vg hod hdd (O6 (wpAny_dictEpoch hod hdd ?_)))
 simp only [oE,if_true]
 refine QB (O8 ⟨_,rfl,"dict_itemiterator",_,⟨_,Pp _ rfl,rfl⟩,Sg.lookup,?_⟩)
  (by simp only [sizeOk,VE,PF,P0,Qg,Rg,sizeLine_eq]; lia)
 simpa [rawInt,VE] using hQ
noncomputable def xx:Key->D | .inl i=>.int i | .inr x=>.str x
noncomputable def D.pairs:D->Option (List D)
 | .fdK ks ds=>some (Th (λk d=>D.tup [xx k,d]) ks ds)
 | .fdT ks ds=>some (Th (λk d=>D.tup [.tup (k.map xx),d]) ks ds)
 | _=>none
noncomputable def IG (te:TE):TI:=λσ H R=>te σ H λx H1=>∃ d o u,x=.ref d/\H1 d=some (.frz o u)/\HO.dct u/\∀ v,H1 v=none->R (M3 d o u) (upd H1 v (.ext λh=>h.IsItemsView v d))
theorem AB (he:PE X e te) (hbase:attributeBase e "items" X.env (eval e X.env)=eval e X.env) (hline:(ap.endLine == cp.line)=true):PI X tg (.Call (.Attribute e "items" ap) [] [] cp) (IG te):=by
 intro aa s σ H R I h
 refine Vh (T:="dict") (id:="dict.items") hbase rfl hline F.plainAttrs_dict Ue F.type_dict_items (bC (he aa s σ H _ I h) λv s1 hh=>z2 hh λx H1 hh=>w3 hh λI1 r1 hh=>z3 hh λd o u hh=>w4 hh λex hH hd q=>?_)
 subst ex
 cases r1
 obtain ⟨ho,ok⟩:=(show bz X.prog X.w H1 s1.heap d (.frz o u) from I1.hok d _ hH)
 obtain ⟨hx,es,ep,hod,hp,hs,hz⟩:=di ok hd ho
 have hT:s1.TypeIs (.ref d) "dict":=⟨o,ho,hx.1⟩
 refine ⟨hT,λb z=>by cases z; exact ⟨o,ho,hx.2.1⟩,?_⟩
 show wpAny _ _ (callWith cp (.builtin "dict.items") [.ref d] [] []) _ _ s1
 refine method_meetsIn Ue F.entry_dict_items rfl (U7 ⟨rfl,hT,F.args_dict_items_1 _,_,jB d hs,hT,?_⟩)
 have Hv:H1 s1.heap.objs.size=none:=I1.hok.fresh (Pa _)
 have hve:(s1.heap.push { cls:=.type "dict_items",data:=.fields #[.ref d] }).IsItemsView s1.heap.objs.size d:=⟨_,Pp _ rfl,rfl,rfl⟩
 have I2:Inv X aa σ (upd H1 s1.heap.objs.size (.ext λh=>h.IsItemsView s1.heap.objs.size d)) { s1 with heap:=s1.heap.push { cls:=.type "dict_items",data:=.fields #[.ref d] },toks:=s1.toks } :=
  I1.laid (a:=s1.heap.objs.size) (λ_ _ q=>Pc _ q) (Pa _) ⟨hve,⟨_,Pp _ rfl⟩,λh1 h2 ⟨o,e,r⟩ k=>⟨o,k o e,r⟩⟩
 refine mU hve (Pc _ ho) hod ?_
 have hsz:es.size=(cG u).length:=by rw [Q4 hp]; simp
 have I3:=I2.kept (t':=s1.toks) (h':=(s1.heap.push { cls:=.type "dict_items",data:=.fields #[.ref d] }).push { cls:=.type "dict_itemiterator",data:=.fields #[.none,.bool false,.ref d,.int 0 0,.int es.size 0,.int ep 0,.none,.none] }) λb o e=>Pc _ e
 refine ⟨_,[_],_,_,_,rfl,I3,kJ (o:=o) (u:=u) (es:=es) (ep:=ep) hd hod (λz=>?_) hsz,⟨.none,false,.none,.none,Pp _ rfl,.inl rfl⟩,λb hb=>?_,q _ Hv⟩
 ·have lt:=Pf (Pc ({ cls:=.type "dict_items",data:=.fields #[.ref d] }:Obj) ho)
  rw [z] at lt
  exact absurd lt (QW _)
 ·have e:b=(s1.heap.push { cls:=.type "dict_items",data:=.fields #[.ref d] }).objs.size:=by simpa using hb
  subst e
  exact I2.j9 (Pa _) (I2.hok.fresh (Pa _))
section
variable {K:O7} {Hf:Hp}
theorem qC:Rep K Hf (xx k) (kV k):=by
 cases k with
 | inl i=>exact aA.mpr rfl
 | inr x=>exact fm.mpr rfl
theorem mV:∀ {ks:List Key},ak K Hf (ks.map xx) (ks.map kV)
 | []=>aB.mpr rfl
 | k::ks=>.cons qC mV
def mW (K:O7) (Hf:Hp) (d:D) (kv:V×V):Prop:=∃ k e,d=.tup [k,e]/\Rep K Hf k kv.1/\Rep K Hf e kv.2
theorem vd:∀ {ys:List (Key×V)} {vs:List D},ak K Hf vs (ys.map (·.2))->Paired (mW K Hf) (Th (λk d=>D.tup [xx k,d]) (ys.map (·.1)) vs) (ys.map λy=>(kV y.1,y.2))
 | [],vs,h=>by
  cases vs with
  | nil=>exact .nil
  | cons d ds=>obtain ⟨x,r,e,_⟩:=aF.mp h; cases e
 | y::ys,vs,h=>by
  cases vs with
  | nil=>rw [aB] at h; cases h
  | cons d ds =>
   obtain ⟨x,r,e,h1,h2⟩:=aF.mp h
   cases e
   exact .cons ⟨_,_,rfl,qC,h1⟩ (vd h2)
theorem ve:∀ {ys:List (List Key×Addr×V)} {vs:List D},(∀ y∈ys,dh K Hf y.2.1 (y.1.map kV))->ak K Hf vs (ys.map (·.2.2))->Paired (mW K Hf) (Th (λk d=>D.tup [.tup (k.map xx),d]) (ys.map (·.1)) vs) (ys.map λy=>(.ref y.2.1,y.2.2))
 | [],vs,_,h=>by
  cases vs with
  | nil=>exact .nil
  | cons d ds=>obtain ⟨x,r,e,_⟩:=aF.mp h; cases e
 | y::ys,vs,hk,h=>by
  cases vs with
  | nil=>rw [aB] at h; cases h
  | cons d ds =>
   obtain ⟨x,r,e,h1,h2⟩:=aF.mp h
   cases e
   exact .cons ⟨_,_,rfl,aG.mpr ⟨_,_,rfl,hk y Po,mV⟩,h1⟩ (ve (λz hz=>hk z (Pj _ hz)) h2)
theorem mX (hp:d.pairs=some ds) (h:Rep K Hf d v):∃ a o u,v=.ref a/\Hf a=some (.frz o u)/\HO.dct u/\Paired (mW K Hf) ds (cG u):=by
 cases d with
 | fdK ks vs =>
  cases hp
  obtain ⟨a,ys,o,rfl,h1,h2,h3⟩:=gY.mp h
  subst h2
  exact ⟨a,o,_,rfl,h1,trivial,vd h3⟩
 | fdT ks vs =>
  cases hp
  obtain ⟨a,ys,o,rfl,h1,h2,h3,h4⟩:=nV.mp h
  subst h2
  exact ⟨a,o,_,rfl,h1,trivial,ve h3 h4⟩
 | _=>cases hp
theorem kK {ds:List D} {a:Addr} {o:Obj} {u:HO} (h:Hf a=some (.frz o u)) (hp:Paired (mW K Hf) ds (cG u)):i8 K (M3 a o u) ds Hf where
 go:=λi d H aR s1 s2 e=>by
  obtain ⟨kv,ekv,k,dd,rfl,r1,r2⟩:=fy hp e
  refine ⟨⟨s2 _ _ (s1 _ _ h),(Ph.mp ekv).1⟩,λx H' ⟨p,kv',e1,e2,e3,e4⟩=>?_⟩
  rw [ekv] at e1; cases e1
  subst e2 e4
  have g:=br.new s2 e3 (o:=.tup [kv.1,kv.2])
  exact ⟨upd aR p (.tup [kv.1,kv.2]),g,aG.mpr ⟨p,_,rfl,.inl (.inl af),.cons (Rep.mono (s1.trans g.f) _ r1) (.cons (Rep.mono (s1.trans g.f) _ r2) (aB.mpr rfl))⟩⟩
 stop:=λi H aR s1 s2 e=>⟨s2 _ _ (s1 _ _ h),by rw [<- Q4 hp]; exact e⟩
end
section
variable {K:O7}
theorem Eg (h:aL c e ρ λd=>∃ ds,d.pairs=some ds/\R ds)
 (hb:∀ env,attributeBase e "items" env (eval e env)=eval e env:=by intro _; walk_at "u") (hl:(ap.endLine == cp.line)=true:=by walk_at "u") :
 uV c tg (.Call (.Attribute e "items" ap) [] [] cp) ρ R:=λσ H Hf Q S q aa s I =>
 AB (c6 (X:=c.X)) (hb _) hl aa s σ H Q I (h σ H Hf _ S λd v H1 aR ⟨ds,hp,hR⟩ rv g=>by
  obtain ⟨a,o,u,e1,e2,e3,e4⟩:=mX hp rv
  refine ⟨a,o,u,e1,g.b _ _ e2,e3,λvw hv=>?_⟩
  exact q ds _ _ aR hR (g.trans (br.eU g.b hv)) (kK e2 e4))
theorem II {x:D} {Q:List D->Prop} (e:x.pairs=some ds) (h:Q ds):∃ ys,x.pairs=some ys/\Q ys:=⟨ds,e,h⟩
end
end EV
namespace SR
open PySem PyProof.Rows
noncomputable def cO:Bool->Keyed->Array Keyed->Nat->Nat->Nat->StateT SortSt Sem (Option Nat):=sortPriv% PySem.Builtin.gallop
noncomputable def cC:Nat->StateT SortSt Sem Unit:=sortPriv% PySem.Builtin.setMinGallop
noncomputable def dN (left:Bool) (key:Keyed) (arr:Array Keyed) (base i:Nat):StateT SortSt Sem (Option Bool):=do
 let x <- elem' arr (base+i)
 if left then lt' x key else return (<- lt' key x).map (!·)
noncomputable abbrev qD:=Option (Option Nat)×Nat×Nat
noncomputable def kL (bey:Nat->StateT SortSt Sem (Option Bool)) (n lo hi:Nat):StateT SortSt Sem (Option Nat):=do
 let __s <- forIn [0:n] ((none,lo,hi):qD) λ_ __s =>
  if __s.snd.fst>=__s.snd.snd then pure (QU (none,__s.snd.fst,__s.snd.snd))
  else do
   let __x <- bey (__s.snd.fst+(__s.snd.snd - __s.snd.fst) / 2)
   match __x with
   | some more=>if more=true then pure (Ql (none,__s.snd.fst+(__s.snd.snd - __s.snd.fst) / 2+1,__s.snd.snd)) else pure (Ql (none,__s.snd.fst,__s.snd.fst+(__s.snd.snd - __s.snd.fst) / 2))
   | _=>pure (QU (some none,__s.snd.fst,__s.snd.snd))
 match __s.fst with
 | some r=>pure r
 | none=>pure (some __s.snd.snd)
noncomputable def AD (bey:Nat->StateT SortSt Sem (Option Bool)) (n hint maxofs:Nat):StateT SortSt Sem qD :=
 forIn [0:n] ((none,0,1):qD) λ_ __s =>
  if __s.snd.snd>=maxofs then pure (QU (none,__s.snd.fst,__s.snd.snd))
  else do
   let __x <- bey (hint+__s.snd.snd)
   match __x with
   | some more=>if (!more)=true then pure (QU (none,__s.snd.fst,__s.snd.snd)) else pure (Ql (none,__s.snd.snd,2 * __s.snd.snd+1))
   | _=>pure (QU (some none,__s.snd.fst,__s.snd.snd))
noncomputable def AE (bey:Nat->StateT SortSt Sem (Option Bool)) (n hint maxofs:Nat):StateT SortSt Sem qD :=
 forIn [0:n] ((none,0,1):qD) λ_ __s =>
  if __s.snd.snd>=maxofs then pure (QU (none,__s.snd.fst,__s.snd.snd))
  else do
   let __x <- bey (hint - __s.snd.snd)
   match __x with
   | some found=>if found=true then pure (QU (none,__s.snd.fst,__s.snd.snd)) else pure (Ql (none,__s.snd.snd,2 * __s.snd.snd+1))
   | _=>pure (QU (some none,__s.snd.fst,__s.snd.snd))
local macro_rules | `(tactic| walk_at "dl gallop")=>do
 let i:=R6 (RS `PySem.Builtin.List.W1All `PySem.Builtin.gallop)
 `(tactic| delta $i)
theorem sX (left) (key) (arr) (base n hint):cO left key arr base n hint=(do
 let __x <- dN left key arr base hint
 match __x with
 | some right =>
  if right=true then do
   let __s <- AD (dN left key arr base) n hint (n - hint)
   match __s.fst with
   | some r=>pure r
   | none=>kL (dN left key arr base) n (hint+__s.snd.fst+1) (hint+min __s.snd.snd (n - hint))
  else do
   let __s <- AE (dN left key arr base) n hint (hint+1)
   match __s.fst with
   | some r=>pure r
   | none=>kL (dN left key arr base) n (hint+1 - min __s.snd.snd (hint+1)) (hint - __s.snd.fst)
 | _=>pure none):=by
 unfold cO
 walk_at "dl gallop"
 unfold AD AE kL dN
 dsimp only
 congr 1
 funext x
 cases x with
 | none=>rfl
 | some right =>
  dsimp only
  cases right with
  | true =>
   rw [if_pos rfl,if_pos rfl]
   congr 1
   funext c
   obtain ⟨r,l,o⟩:=c
   cases r with
   | some r=>rfl
   | none =>
    dsimp only
    congr 1
    funext c
    obtain ⟨r,l,o⟩:=c
    cases r <;> rfl
  | false =>
   rw [if_neg Pn,if_neg Pn]
   congr 1
   funext c
   obtain ⟨r,l,o⟩:=c
   cases r with
   | some r=>rfl
   | none =>
    dsimp only
    congr 1
    funext c
    obtain ⟨r,l,o⟩:=c
    cases r <;> rfl
def gT (prog:Program) (w:World) (A:Around) (s:Shared) (κ:SortKind) (rk:Keyed->Int) (L:List Keyed):Prop :=
 ∀ x∈L,∀ y∈L,∀ (E:Value->Shared->Prop) (Q:Bool->Shared->Prop),Q (decide (rk x<rk y)) s->wpAny (model prog w) A (keyLt' κ x.1 y.1) Q E s
noncomputable def R (rk:Keyed->Int) (xs:Array Keyed) (i:Nat):Int:=match xs[i]? with | some p=>rk p | none=>0
theorem dO (h:xs[i]?=some p):R rk xs i=rk p:=by unfold R; rw [h]
theorem ck (h:xs[i]?=ys[j]?):R rk xs i=R rk ys j:=by unfold R; rw [h]
theorem kM {st:SortSt} (hC:gT prog w A s κ rk L) (hk:kindOf st=κ) (hx:x∈L) (hy:y∈L) (h:Q (some (decide (rk x<rk y))) st):wpS (model prog w) A E s (lt' x y) Q st:=by
 rw [lt'_eq]
 refine O9 (QX ?_)
 rw [hk]
 refine O9 (RO (RB (hC x hx y hy _ _ ⟨rfl,?_⟩)))
 exact Pb h
theorem aV {st:SortSt} (hi:arr[i]?=some p) (h:Q p st):wpS (model prog w) A E s (elem' arr i) Q st:=by
 rw [elem'_eq,hi]; exact Pb h
theorem xy {st:SortSt} (hC:gT prog w A s κ rk L) (hk:kindOf st=κ) (hi:(arrOf st)[i]?=some p) (hj:(arrOf st)[j]?=some q) (hp:p∈L) (hq:q∈L)
 (h:Q (some (decide (R rk (arrOf st) i<R rk (arrOf st) j))) st):wpS (model prog w) A E s (ltAt' i j) Q st:=by
 rw [ltAt'_eq]
 refine O9 (QX ?_)
 show wpS _ _ _ _ (do let x <- elem' (arrOf st) i; let y <- elem' (arrOf st) j; lt' x y) Q st
 refine O9 (aV hi (O9 (aV hj (kM hC hk hp hq ?_))))
 rw [dO hi,dO hj] at h
 exact h
theorem sY {st:SortSt} (hC:gT prog w A s κ rk L) (hk:kindOf st=κ) (hkey:key∈L) (hi:arr[base+i]?=some p) (hp:p∈L)
 (hb:(if left=true then rk p<rk key else rk p<=rk key)↔i<k) (h:Q (some (decide (i<k))) st):wpS (model prog w) A E s (dN left key arr base i) Q st:=by
 unfold dN
 refine O9 (aV hi ?_)
 cases left with
 | true =>
  simp only [if_true] at hb |-
  refine kM hC hk hp hkey ?_
  rw [decide_eq_decide.mpr hb]; exact h
 | false =>
  simp only [Qj,if_false] at hb |-
  refine O9 (kM hC hk hkey hp (Pb ?_))
  have e:(!decide (rk key<rk p))=decide (i<k):=by
   rw [<- decide_not]; exact decide_eq_decide.mpr (by rw [<- hb]; omega)
  rw [Option.map_some,e]; exact h
theorem kN {st:SortSt} {n lo hi k:Nat} (hb:∀ i,i<n->∀ (Q:Option Bool->SortSt->Prop),Q (some (decide (i<k))) st->wpS (model prog w) A E s (bey i) Q st)
 (h1:lo<=k) (h2:k<=hi) (h3:hi<=n) (h:Q (some k) st):wpS (model prog w) A E s (kL bey n lo hi) Q st:=by
 unfold kL
 refine O9 (P7 (Qy (I:=λx c st'=>st'=st/\∃ l r,c=(none,l,r)/\l<=k/\k<=r/\r<=n/\r - l<=n - x) (Q:=λc st'=>st'=st/\∃ l,c=(none,l,k)) ?step ?fin ⟨rfl,lo,hi,rfl,h1,h2,h3,by omega⟩) ?post)
 case fin =>
  rintro c st' ⟨rfl,l,r,rfl,a1,a2,a3,a4⟩
  have:r=k:=by omega
  subst this
  exact ⟨rfl,l,rfl⟩
 case step =>
  rintro x c st' _ hx ⟨rfl,l,r,rfl,a1,a2,a3,a4⟩
  dsimp only
  by_cases hge:l>=r
  ·rw [if_pos hge]
   have:r=k:=by omega
   subst this
   exact Pb ⟨rfl,l,rfl⟩
  ·rw [if_neg hge]
   refine O9 (hb _ (by omega) _ ?_)
   dsimp only
   by_cases hm:l+(r - l) / 2<k
   ·rw [decide_eq_true hm,if_pos rfl]
    exact Pb ⟨rfl,_,_,rfl,by omega,by omega,by omega,by omega⟩
   ·rw [decide_eq_false hm,if_neg Pn]
    exact Pb ⟨rfl,_,_,rfl,by omega,by omega,by omega,by omega⟩
 case post =>
  rintro c st' ⟨rfl,l,rfl⟩
  exact Pb h
theorem fC {st:SortSt} (hC:gT prog w A s κ rk L) (hk:kindOf st=κ) (hkey:key∈L) (harr:∀ i,i<n->∃ p,arr[base+i]?=some p/\p∈L)
 (hb:∀ i,i<n->((if left=true then R rk arr (base+i)<rk key else R rk arr (base+i)<=rk key)↔i<k)) (hkn:k<=n) (hh:hint<n) (h:Q (some k) st):wpS (model prog w) A E s (cO left key arr base n hint) Q st:=by
 have bey:∀ i,i<n->∀ (Q:Option Bool->SortSt->Prop),Q (some (decide (i<k))) st->wpS (model prog w) A E s (dN left key arr base i) Q st:=λi hi Q hQ=>by
  obtain ⟨p,e,hp⟩:=harr i hi
  refine sY hC hk hkey e hp ?_ hQ
  have:=hb i hi
  rw [dO e] at this
  exact this
 rw [sX]
 refine O9 (bey hint hh _ ?_)
 dsimp only
 by_cases hr:hint<k
 ·rw [decide_eq_true hr,if_pos rfl]
  unfold AD
  refine O9 (P7 (Qy (I:=λx c st'=>st'=st/\∃ l o,c=(none,l,o)/\hint+l<k/\x<o) (Q:=λc st'=>st'=st/\∃ l o,c=(none,l,o)/\hint+l<k/\(k<=hint+o\/n - hint<=o)) ?step ?fin ⟨rfl,0,1,rfl,hr,by omega⟩) ?post)
  case fin =>
   rintro c st' ⟨rfl,l,o,rfl,a1,a2⟩
   exact ⟨rfl,l,o,rfl,a1,.inr (by omega)⟩
  case step =>
   rintro x c st' _ hx ⟨rfl,l,o,rfl,a1,a2⟩
   dsimp only
   by_cases hge:o>=n - hint
   ·rw [if_pos hge]; exact Pb ⟨rfl,l,o,rfl,a1,.inr hge⟩
   ·rw [if_neg hge]
    refine O9 (bey _ (by omega) _ ?_)
    dsimp only
    by_cases hm:hint+o<k
    ·rw [decide_eq_true hm]; simp only [R4,Qj,if_false]
     exact Pb ⟨rfl,o,2 * o+1,rfl,hm,by omega⟩
    ·rw [decide_eq_false hm]; simp only [Bool.not_false,if_true]
     exact Pb ⟨rfl,l,o,rfl,a1,.inl (by omega)⟩
  case post =>
   rintro c st' ⟨rfl,l,o,rfl,a1,a2⟩
   dsimp only
   exact kN bey (by omega) (by omega) (by omega) h
 ·rw [decide_eq_false hr,if_neg Pn]
  unfold AE
  refine O9 (P7 (Qy (I:=λx c st'=>st'=st/\∃ l o,c=(none,l,o)/\l<=hint/\k<=hint - l/\x<o) (Q:=λc st'=>st'=st/\∃ l o,c=(none,l,o)/\l<=hint/\k<=hint - l/\(hint+1<=k+o\/hint+1<=o)) ?step ?fin ⟨rfl,0,1,rfl,by omega,by omega,by omega⟩) ?post)
  case fin =>
   rintro c st' ⟨rfl,l,o,rfl,a1,a2,a3⟩
   exact ⟨rfl,l,o,rfl,a1,a2,.inr (by omega)⟩
  case step =>
   rintro x c st' _ hx ⟨rfl,l,o,rfl,a1,a2,a3⟩
   dsimp only
   by_cases hge:o>=hint+1
   ·rw [if_pos hge]; exact Pb ⟨rfl,l,o,rfl,a1,a2,.inr hge⟩
   ·rw [if_neg hge]
    refine O9 (bey _ (by omega) _ ?_)
    dsimp only
    by_cases hm:hint - o<k
    ·rw [decide_eq_true hm,if_pos rfl]
     exact Pb ⟨rfl,l,o,rfl,a1,a2,.inl (by omega)⟩
    ·rw [decide_eq_false hm,if_neg Pn]
     exact Pb ⟨rfl,o,2 * o+1,rfl,by omega,by omega,by omega⟩
  case post =>
   rintro c st' ⟨rfl,l,o,rfl,a1,a2,a3⟩
   dsimp only
   exact kN bey (by omega) (by omega) (by omega) h
noncomputable def kO:Array Keyed->Array Keyed->StateT SortSt Sem (Array Keyed):=sortPriv% PySem.Builtin.mergeLo
theorem fD {st:SortSt} (h:Q () (RK (kindOf st) (arrOf st) (pendingOf st) g (failedOf st))):wpS M A E s (cC g) Q st :=
 Q8 (f:=λst=>RK (kindOf st) (arrOf st) (pendingOf st) g (failedOf st)) h
section
variable {rk:Keyed->Int} {a b:Array Keyed}
def AF (rk:Keyed->Int) (xs:List Keyed):Prop:=xs.Pairwise λp q=>rk p<=rk q
theorem vf (h:xs.length<=1):AF rk xs:=by
 cases xs with
 | nil=>exact SW
 | cons x xs =>
  cases xs with
  | nil=>exact So _ _
  | cons y ys=>simp at h
def Res (rk:Keyed->Int) (a b r:Array Keyed):Prop:=r.toList.Perm (a.toList++b.toList)/\AF rk r.toList
structure WL (rk:Keyed->Int) (a b:Array Keyed) (out:Array Keyed) (ia ib:Nat):Prop where
 pa:ia<=a.size
 pb:ib<=b.size
 pm:out.toList.Perm (a.toList.take ia++b.toList.take ib)
 sr:AF rk out.toList
 ha:∀ p∈out.toList,∀ (j:Nat) (q:Keyed),ia<=j->a[j]?=some q->rk p<=rk q
 hb:∀ p∈out.toList,∀ (j:Nat) (q:Keyed),ib<=j->b[j]?=some q->rk p<=rk q
def Up (rk:Keyed->Int) (a:Array Keyed):Prop:=∀ (i j:Nat) (p q:Keyed),i<=j->a[i]?=some p->a[j]?=some q->rk p<=rk q
theorem jc (h:Up rk a):AF rk a.toList:=by
 unfold AF
 rw [UN]
 intro i j hi hj hij
 exact h i j _ _ (RG hij) (by simp at hi |-) (by simp at hj |-)
theorem IJ (h:AF rk a.toList):Up rk a:=λi j p q hij e1 e2=>by
 rw [<- Qi] at e1 e2
 obtain ⟨h1,r1⟩:=Ph.mp e1
 obtain ⟨h2,r2⟩:=Ph.mp e2
 subst r1 r2
 rcases Nat.lt_or_eq_of_le hij with z | z
 ·exact (UN.mp h) i j h1 h2 z
 ·subst z; exact QH _
theorem bL (h1:AF rk xs) (h2:AF rk ys) (h3:∀ p∈xs,∀ q∈ys,rk p<=rk q):AF rk (xs++ys):=List.pairwise_append.mpr ⟨h1,h2,h3⟩
theorem dX (xs:Array Keyed) (i j):(xs.extract i j).toList=(xs.toList.take j).drop i:=by
 rw [List.drop_take]; simp [List.extract_eq_take_drop]
theorem gm (xs:Array Keyed) (i):(xs.extract i xs.size).toList=xs.toList.drop i:=by
 rw [dX,SK (by simp)]
theorem iD (xs:Array Keyed) (i):(xs.extract i i).toList=[]:=by
 rw [dX,List.drop_take]; simp
theorem vg {xs:Array Keyed} (h:q∈(xs.extract i j).toList):∃ k,i<=k/\k<j/\xs[k]?=some q:=by
 obtain ⟨n,hn⟩:=Ss h
 rw [Qi,TY] at hn
 split at hn
 ·rename_i z
  exact ⟨i+n,by lia,by lia,hn⟩
 ·cases hn
theorem WL.jd (h:WL rk a b out ia ib) (ua:Up rk a) (e:ib=b.size):Res rk a b (out++a.extract ia a.size++b.extract ib b.size):=by
 subst e
 have e0:(out++a.extract ia a.size++b.extract b.size b.size).toList=out.toList++a.toList.drop ia:=by
  rw [QF,QF,gm,gm,List.drop_of_length_le (show b.toList.length<=b.size by simp),Qp]
 refine ⟨?_,?_⟩
 ·rw [e0]
  have hp:=h.pm
  rw [SK (show b.toList.length<=b.size by simp)] at hp
  refine (hp.append_right _).trans ?_
  have:(a.toList.take ia++b.toList++a.toList.drop ia).Perm (a.toList.take ia++a.toList.drop ia++b.toList):=by
   rw [Pz,Pz]
   exact Sq _ RU
  rw [Rl] at this
  exact this
 ·rw [e0]
  refine bL h.sr ((jc ua).sublist (Vp _ _)) λp hp q hq=>?_
  obtain ⟨n,hn⟩:=Ss hq
  rw [Sw] at hn
  exact h.ha p hp (ia+n) q (by lia) (by rw [<- Qi]; exact hn)
theorem WL.je (h:WL rk a b out ia ib) (ub:Up rk b) (e:ia=a.size):Res rk a b (out++a.extract ia a.size++b.extract ib b.size):=by
 subst e
 have e0:(out++a.extract a.size a.size++b.extract ib b.size).toList=out.toList++b.toList.drop ib:=by
  rw [QF,QF,gm,gm,List.drop_of_length_le (show a.toList.length<=a.size by simp),Qp]
 refine ⟨?_,?_⟩
 ·rw [e0]
  have hp:=h.pm
  rw [SK (show a.toList.length<=a.size by simp)] at hp
  refine (hp.append_right _).trans ?_
  rw [Pz,Rl]
 ·rw [e0]
  refine bL h.sr ((jc ub).sublist (Vp _ _)) λp hp q hq=>?_
  obtain ⟨n,hn⟩:=Ss hq
  rw [Sw] at hn
  exact h.hb p hp (ib+n) q (by lia) (by rw [<- Qi]; exact hn)
theorem WL.last (h:WL rk a b out ia ib) (ub:Up rk b) (e:ia+1=a.size) (hl:∀ (j:Nat) (p q:Keyed),a[ia]?=some p->b[j]?=some q->rk q<=rk p) :
 Res rk a b (out++b.extract ib b.size++a.extract ia a.size):=by
 have e0:(out++b.extract ib b.size++a.extract ia a.size).toList=out.toList++(b.toList.drop ib++a.toList.drop ia):=by
  rw [QF,QF,gm,gm,Pz]
 refine ⟨?_,?_⟩
 ·rw [e0]
  refine (h.pm.append_right _).trans ?_
  have:(a.toList.take ia++b.toList.take ib++(b.toList.drop ib++a.toList.drop ia)).Perm (a.toList.take ia++a.toList.drop ia++(b.toList.take ib++b.toList.drop ib)):=by
   rw [Pz,Pz]
   refine Sq _ ?_
   rw [<- Pz]
   exact RU
  rw [Rl,Rl] at this
  exact this
 ·rw [e0]
  have ml:∀ q∈b.toList.drop ib,∃ j,ib<=j/\b[j]?=some q:=λq hq=>by
   obtain ⟨n,hn⟩:=Ss hq
   rw [Sw] at hn
   exact ⟨ib+n,by lia,by rw [<- Qi]; exact hn⟩
  have ml2:∀ q∈a.toList.drop ia,a[ia]?=some q:=λq hq=>by
   obtain ⟨n,hn⟩:=Ss hq
   rw [Sw] at hn
   have:=(Ph.mp hn).1
   have hn0:n=0:=by simp at this; lia
   subst hn0
   rw [<- Qi]; exact hn
  refine bL h.sr (bL ((jc ub).sublist (Vp _ _)) ?_ λp hp q hq=>?_) λp hp q hq=>?_
  ·exact vf (by simp; lia)
  ·obtain ⟨j,_,e1⟩:=ml p hp
   exact hl j q p (ml2 q hq) e1
  ·rcases PD.mp hq with z | z
   ·obtain ⟨j,h1,e1⟩:=ml q z
    exact h.hb p hp j q h1 e1
   ·exact h.ha p hp ia q (Pa _) (ml2 q z)
theorem cP {xs:Array Keyed} (h:xs[i]?=some p):xs.toList.take (i+1)=xs.toList.take i++[p]:=by
 rw [Vn,Qi,h]; rfl
theorem WL.fP {out:Array Keyed} {ia ib:Nat} {p:Keyed} (h:WL rk a b out ia ib) (ub:Up rk b) (e:b[ib]?=some p) (hl:∀ (j:Nat) (q:Keyed),ia<=j->a[j]?=some q->rk p<=rk q):WL rk a b (out.push p) ia (ib+1) where
 pa:=h.pa
 pb:=(Sn.mp e).1
 pm:=by
  rw [P8,cP e,<- Pz]
  exact h.pm.append_right _
 sr:=by
  rw [P8]
  exact bL h.sr (So _ _) λq hq r hr=>by
   rw [PB.mp hr]; exact h.hb q hq ib p (Pa _) e
 ha:=λq hq j r hj er=>by
  rw [P8] at hq
  rcases PD.mp hq with z | z
  ·exact h.ha q z j r hj er
  ·rw [PB.mp z]; exact hl j r hj er
 hb:=λq hq j r hj er=>by
  rw [P8] at hq
  rcases PD.mp hq with z | z
  ·exact h.hb q z j r (by lia) er
  ·rw [PB.mp z]; exact ub ib j p r (by lia) e er
theorem WL.fQ {out:Array Keyed} {ia ib:Nat} {p:Keyed} (h:WL rk a b out ia ib) (ua:Up rk a) (e:a[ia]?=some p) (hl:∀ (j:Nat) (q:Keyed),ib<=j->b[j]?=some q->rk p<=rk q):WL rk a b (out.push p) (ia+1) ib where
 pa:=(Sn.mp e).1
 pb:=h.pb
 pm:=by
  rw [P8,cP e]
  refine (h.pm.append_right _).trans ?_
  rw [Pz,Pz]
  exact Sq _ RU
 sr:=by
  rw [P8]
  exact bL h.sr (So _ _) λq hq r hr=>by
   rw [PB.mp hr]; exact h.ha q hq ia p (Pa _) e
 hb:=λq hq j r hj er=>by
  rw [P8] at hq
  rcases PD.mp hq with z | z
  ·exact h.hb q z j r hj er
  ·rw [PB.mp z]; exact hl j r hj er
 ha:=λq hq j r hj er=>by
  rw [P8] at hq
  rcases PD.mp hq with z | z
  ·exact h.ha q z j r (by lia) er
  ·rw [PB.mp z]; exact ua ia j p r (by lia) e er
theorem WL.qE (h:WL rk a b out ia ib) (ua:Up rk a):∀ (k:Nat),ia+k<=a.size->(∀ (i j:Nat) (p q:Keyed),ia<=i->i<ia+k->ib<=j->a[i]?=some p->b[j]?=some q->rk p<=rk q)->WL rk a b (out++a.extract ia (ia+k)) (ia+k) ib
 | 0,_,_=>by
  have:out++a.extract ia (ia+0)=out:=by
   apply RL
   rw [QF,Nat.add_zero,iD,Qp]
  rw [this]; exact h
 | k+1,hk,hl=>by
  have ih:=h.qE ua k (by lia) λi j p q h1 h2=>hl i j p q h1 (by lia)
  have e:a[ia+k]?=some (a[ia+k]'(by lia)):=PR _
  have z:=ih.fQ ua e λj q hj eq=>hl _ j _ q (by lia) (by lia) hj e eq
  have:out++a.extract ia (ia+(k+1))=(out++a.extract ia (ia+k)).push (a[ia+k]'(by lia)):=by
   apply RL
   simp only [QF,P8,dX]
   rw [show ia+(k+1)=(ia+k)+1 by lia,cP e,VL (by simp; lia),Pz]
  rw [this]; exact z
theorem WL.qF (h:WL rk a b out ia ib) (ub:Up rk b):∀ (k:Nat),ib+k<=b.size->(∀ (i j:Nat) (p q:Keyed),ib<=i->i<ib+k->ia<=j->b[i]?=some p->a[j]?=some q->rk p<=rk q)->WL rk a b (out++b.extract ib (ib+k)) ia (ib+k)
 | 0,_,_=>by
  have:out++b.extract ib (ib+0)=out:=by
   apply RL
   rw [QF,Nat.add_zero,iD,Qp]
  rw [this]; exact h
 | k+1,hk,hl=>by
  have ih:=h.qF ub k (by lia) λi j p q h1 h2=>hl i j p q h1 (by lia)
  have e:b[ib+k]?=some (b[ib+k]'(by lia)):=PR _
  have z:=ih.fP ub e λj q hj eq=>hl _ j _ q (by lia) (by lia) hj e eq
  have:out++b.extract ib (ib+(k+1))=(out++b.extract ib (ib+k)).push (b[ib+k]'(by lia)):=by
   apply RL
   simp only [QF,P8,dX]
   rw [show ib+(k+1)=(ib+k)+1 by lia,cP e,VL (by simp; lia),Pz]
  rw [this]; exact z
end
section
variable {prog:Program} {w:World} {A:Around} {E:Value->Shared->Prop} {s:Shared} {L:List Keyed} {κ:SortKind} {rk:Keyed->Int} {a b:Array Keyed}
theorem kP (f:Nat->Int) (c):∀ n,(∀ i j,i<=j->j<n->f i<=f j)->∃ k,k<=n/\∀ i,i<n->(f i<=c↔i<k)
 | 0,_=>⟨0,Pa _,λi hi=>by lia⟩
 | n+1,hm=>by
  obtain ⟨k,h1,h2⟩:=kP f c n λi j hij hj=>hm i j hij (by lia)
  by_cases hc:f n<=c
  ·refine ⟨n+1,Pa _,λi hi=>⟨λ_=>hi,λ_=>?_⟩⟩
   exact P4 (hm i n (by lia) (by lia)) hc
  ·refine ⟨k,by lia,λi hi=>?_⟩
   by_cases hin:i<n
   ·exact h2 i hin
   ·have:i=n:=by lia
    subst this
    exact ⟨λz=>absurd z hc,λz=>by lia⟩
theorem kQ (f:Nat->Int) (c):∀ n,(∀ i j,i<=j->j<n->f i<=f j)->∃ k,k<=n/\∀ i,i<n->(f i<c↔i<k)
 | 0,_=>⟨0,Pa _,λi hi=>by lia⟩
 | n+1,hm=>by
  obtain ⟨k,h1,h2⟩:=kQ f c n λi j hij hj=>hm i j hij (by lia)
  by_cases hc:f n<c
  ·refine ⟨n+1,Pa _,λi hi=>⟨λ_=>hi,λ_=>?_⟩⟩
   exact T9 (hm i n (by lia) (by lia)) hc
  ·refine ⟨k,by lia,λi hi=>?_⟩
   by_cases hin:i<n
   ·exact h2 i hin
   ·have:i=n:=by lia
    subst this
    exact ⟨λz=>absurd z hc,λz=>by lia⟩
theorem LQ (h:Up rk a) (hij:i<=j) (hj:j<a.size):R rk a i<=R rk a j:=by
 have e1:a[i]?=some (a[i]'(by lia)):=PR _
 have e2:a[j]?=some a[j]:=PR _
 rw [dO e1,dO e2]
 exact h i j _ _ hij e1 e2
structure cQ (st st':SortSt):Prop where
 k:kindOf st'=kindOf st
 a:arrOf st'=arrOf st
 p:pendingOf st'=pendingOf st
 f:failedOf st'=failedOf st
theorem cQ.refl (st:SortSt):cQ st st:=⟨rfl,rfl,rfl,rfl⟩
theorem cQ.min {st st':SortSt} (h:cQ st st') (g):cQ st (RK (kindOf st') (arrOf st') (pendingOf st') g (failedOf st')):=⟨h.k,h.a,h.p,h.f⟩
theorem cQ.trans (h:cQ s1 s2) (g:cQ s2 s3):cQ s1 s3:=⟨g.k.trans h.k,g.a.trans h.a,g.p.trans h.p,g.f.trans h.f⟩
theorem qG {st:SortSt} (hC:gT prog w A s κ rk L) (hk:kindOf st=κ) (hkey:key∈L) (mx:∀ (i:Nat) (p:Keyed),xs[i]?=some p->p∈L) (ux:Up rk xs) (n) (hn:base+n<=xs.size) (hh:hint<n)
 (h:∀ k,k<=n->(∀ (i:Nat) (p:Keyed),i<k->xs[base+i]?=some p->rk p<=rk key)->(∀ (i:Nat) (p:Keyed),k<=i->base+i<base+n->xs[base+i]?=some p->rk key<rk p)->Q (some k) st) :
 wpS (model prog w) A E s (cO false key xs base n hint) Q st:=by
 obtain ⟨k,h1,h2⟩:=kP (λi=>R rk xs (base+i)) (rk key) n λi j hij hj=>LQ ux (by lia) (by lia)
 refine fC hC hk hkey (λi hi=>⟨xs[base+i]'(by lia),PR _,mx _ _ (PR _)⟩) (λi hi=>by simp only [Qj,if_false]; exact h2 i hi) h1 hh (h k h1 (λi p hi e=>?_) λi p hi hb e=>?_)
 ·have:=(h2 i (by lia)).mpr hi
  rw [dO e] at this; exact this
 ·have:=mt (h2 i (by lia)).mp (by lia)
  rw [dO e] at this; lia
theorem qH {st:SortSt} (hC:gT prog w A s κ rk L) (hk:kindOf st=κ) (hkey:key∈L) (mx:∀ (i:Nat) (p:Keyed),xs[i]?=some p->p∈L) (ux:Up rk xs) (n) (hn:base+n<=xs.size) (hh:hint<n)
 (h:∀ k,k<=n->(∀ (i:Nat) (p:Keyed),i<k->xs[base+i]?=some p->rk p<rk key)->(∀ (i:Nat) (p:Keyed),k<=i->base+i<base+n->xs[base+i]?=some p->rk key<=rk p)->Q (some k) st) :
 wpS (model prog w) A E s (cO true key xs base n hint) Q st:=by
 obtain ⟨k,h1,h2⟩:=kQ (λi=>R rk xs (base+i)) (rk key) n λi j hij hj=>LQ ux (by lia) (by lia)
 refine fC hC hk hkey (λi hi=>⟨xs[base+i]'(by lia),PR _,mx _ _ (PR _)⟩) (λi hi=>by simp only [if_true]; exact h2 i hi) h1 hh (h k h1 (λi p hi e=>?_) λi p hi hb e=>?_)
 ·have:=(h2 i (by lia)).mpr hi
  rw [dO e] at this; exact this
 ·have:=mt (h2 i (by lia)).mp (by lia)
  rw [dO e] at this; lia
structure l0 (rk:Keyed->Int) (a b out:Array Keyed) (ia ib:Nat):Prop where
 w:WL rk a b out ia ib
 la:ia+1<a.size
 lb:ib<b.size
end
section
local macro_rules | `(tactic| walk_at "dl mergeLo")=>do
 let i:=R6 (RS `PySem.Builtin.List.W1All `PySem.Builtin.mergeLo)
 `(tactic| delta $i)
noncomputable abbrev AG:=Option (Array Keyed)×Array Keyed×Nat×Nat×Nat×Nat×Nat
noncomputable def Gk (a b out:Array Keyed) (ia ib:Nat):Array Keyed:=out++a.extract ia a.size++b.extract ib b.size
noncomputable def CZ (a b out:Array Keyed) (ia ib:Nat):Array Keyed:=out++b.extract ib b.size++a.extract ia a.size
noncomputable def vh (a b:Array Keyed) (mg ac bc ia ib:Nat) (out:Array Keyed):StateT SortSt Sem (ForInStep AG):=do
 let p <- elem' a ia
 if (ia+1+1 == a.size)=true then pure (.done (some (CZ a b (out.push p) (ia+1) ib),out.push p,ia+1,ib,mg,ac,bc))
 else if (decide (ac<7) && decide (bc<7))=true then pure (.done (none,out.push p,ia+1,ib,mg,ac,bc))
 else pure (.yield (none,out.push p,ia+1,ib,mg,ac,bc))
noncomputable def vm (a b:Array Keyed) (mg ac bc ia ib:Nat) (out:Array Keyed):StateT SortSt Sem (ForInStep AG):=do
 let q <- elem' b ib
 if (ib+1 == b.size)=true then pure (.done (some (Gk a b (out.push q) ia (ib+1)),out.push q,ia,ib+1,mg,ac,bc))
 else do
  let p <- elem' a ia
  let x <- cO true p b (ib+1) (b.size - (ib+1)) 0
  match x with
  | some k=>(if k>0 then
   (if (ib+1+k == b.size)=true then pure (.done (some (Gk a b (out.push q++b.extract (ib+1) (ib+1+k)) ia (ib+1+k)),out.push q++b.extract (ib+1) (ib+1+k),ia,ib+1+k,mg,ac,k))
    else vh a b mg ac k ia (ib+1+k) (out.push q++b.extract (ib+1) (ib+1+k)))
   else vh a b mg ac k ia (ib+1) (out.push q))
  | _=>pure (.done (some (Gk a b (out.push q) ia (ib+1)),out.push q,ia,ib+1,mg,ac,bc))
noncomputable def vn (a b:Array Keyed) (mg ac bc ia ib:Nat) (out:Array Keyed):StateT SortSt Sem (ForInStep AG):=do
 cC mg
 let q <- elem' b ib
 let x <- cO false q a ia (a.size - ia) 0
 match x with
 | some k=>(if k>0 then
  (if (ia+k+1 == a.size)=true then pure (.done (some (CZ a b (out++a.extract ia (ia+k)) (ia+k) ib),out++a.extract ia (ia+k),ia+k,ib,mg,k,bc))
   else if (ia+k == a.size)=true then pure (.done (some (Gk a b (out++a.extract ia (ia+k)) (ia+k) ib),out++a.extract ia (ia+k),ia+k,ib,mg,k,bc))
   else vm a b mg k bc (ia+k) ib (out++a.extract ia (ia+k)))
  else vm a b mg k bc ia ib out)
 | _=>pure (.done (some (Gk a b out ia ib),out,ia,ib,mg,ac,bc))
noncomputable def AH (a b:Array Keyed) (c:AG):StateT SortSt Sem (ForInStep AG) :=
 if c.2.2.2.2.1>1 then vn a b (c.2.2.2.2.1 - 1) c.2.2.2.2.2.1 c.2.2.2.2.2.2 c.2.2.1 c.2.2.2.1 c.2.1 else vn a b c.2.2.2.2.1 c.2.2.2.2.2.1 c.2.2.2.2.2.2 c.2.2.1 c.2.2.2.1 c.2.1
noncomputable abbrev IK:=Option (Array Keyed)×Array Keyed×Nat×Nat×Nat×Nat
noncomputable def AI (a b:Array Keyed) (mg:Nat) (c:IK):StateT SortSt Sem (ForInStep IK):=do
 let q <- elem' b c.2.2.2.1
 let p <- elem' a c.2.2.1
 let x <- lt' q p
 match x with
 | some y=>(if y=true then (do
  let q <- elem' b c.2.2.2.1
  if (c.2.2.2.1+1 == b.size)=true then pure (.done (some (Gk a b (c.2.1.push q) c.2.2.1 (c.2.2.2.1+1)),c.2.1.push q,c.2.2.1,c.2.2.2.1+1,0,c.2.2.2.2.2+1))
  else if c.2.2.2.2.2+1>=mg then pure (.done (none,c.2.1.push q,c.2.2.1,c.2.2.2.1+1,0,c.2.2.2.2.2+1))
  else pure (.yield (none,c.2.1.push q,c.2.2.1,c.2.2.2.1+1,0,c.2.2.2.2.2+1)))
  else (do
   let p <- elem' a c.2.2.1
   if (c.2.2.1+1+1 == a.size)=true then pure (.done (some (CZ a b (c.2.1.push p) (c.2.2.1+1) c.2.2.2.1),c.2.1.push p,c.2.2.1+1,c.2.2.2.1,c.2.2.2.2.1+1,0))
   else if c.2.2.2.2.1+1>=mg then pure (.done (none,c.2.1.push p,c.2.2.1+1,c.2.2.2.1,c.2.2.2.2.1+1,0))
   else pure (.yield (none,c.2.1.push p,c.2.2.1+1,c.2.2.2.1,c.2.2.2.2.1+1,0))))
 | _=>pure (.done (some (Gk a b c.2.1 c.2.2.1 c.2.2.2.1),c.2.1,c.2.2.1,c.2.2.2.1,c.2.2.2.2.1,c.2.2.2.2.2))
noncomputable abbrev Eh:=Option (Array Keyed)×Array Keyed×Nat×Nat×Nat
noncomputable def oF (a b:Array Keyed) (c:Eh):StateT SortSt Sem (ForInStep Eh):=do
 let s <- forIn [:a.size+b.size] ((none,c.2.1,c.2.2.1,c.2.2.2.1,0,0):IK) λ_ s=>AI a b c.2.2.2.2 s
 match s.1 with
 | some r=>pure (.done (some r,s.2.1,s.2.2.1,s.2.2.2.1,c.2.2.2.2))
 | none=>do
  liftM (rule "list.sort.gallop")
  let t <- forIn [:a.size+b.size] ((none,s.2.1,s.2.2.1,s.2.2.2.1,c.2.2.2.2+1,s.2.2.2.2.1,s.2.2.2.2.2):AG) λ_ t=>AH a b t
  match t.1 with
  | some r=>pure (.done (some r,t.2.1,t.2.2.1,t.2.2.2.1,t.2.2.2.2.1))
  | none=>do
   cC (t.2.2.2.2.1+1)
   pure (.yield (none,t.2.1,t.2.2.1,t.2.2.2.1,t.2.2.2.2.1+1))
theorem qI (a b):kO a b=(do
 liftM (rule "list.sort.merge-lo")
 let p <- elem' b 0
 if (1 == b.size)=true then pure (Gk a b #[p] 0 1)
 else if (0+1 == a.size)=true then pure (CZ a b #[p] 0 1)
 else do
  let st <- get
  let s <- forIn [:a.size+b.size] ((none,#[p],0,1,gallopOf st):Eh) λ_ c=>oF a b c
  match s.1 with
  | some r=>pure r
  | none=>liftM (unsupported (α:=Array Keyed) "internal:list.sort.merge-bound")):=by
 unfold kO
 walk_at "dl mergeLo"
 dsimp only
 refine congrArg _ (funext λ_=>?_)
 refine congrArg _ (funext λp=>?_)
 refine congrArg _ (congrArg _ ?_)
 refine congrArg _ (funext λst=>?_)
 have e:∀ (f g:Nat->Eh->StateT SortSt Sem (ForInStep Eh)) (c:Eh) (k:Eh->StateT SortSt Sem (Array Keyed)),f=g->(forIn [:a.size+b.size] c f >>= k)=(forIn [:a.size+b.size] c g >>= k):=λ_ _ _ _ h=>by rw [h]
 refine (e _ _ _ _ (funext λ_=>funext λc=>?_)).trans (congrArg _ (funext λs=>?_))
 ·obtain ⟨o,out,ia,ib,mg⟩:=c
  unfold oF
  dsimp only
  have e2:∀ (f g:Nat->IK->StateT SortSt Sem (ForInStep IK)) (c:IK) (k l:IK->StateT SortSt Sem (ForInStep Eh)),f=g->k=l->(forIn [:a.size+b.size] c f >>= k)=(forIn [:a.size+b.size] c g >>= l):=λ_ _ _ _ _ h h2=>by rw [h,h2]
  refine e2 _ _ _ _ _ (funext λ_=>funext λc=>?_) (funext λs=>?_)
  ·rfl
  ·obtain ⟨o,out,ia,ib,ac,bc⟩:=s
   cases o with
   | some r=>rfl
   | none =>
    dsimp only
    refine congrArg _ (funext λ_=>?_)
    have e3:∀ (f g:Nat->AG->StateT SortSt Sem (ForInStep AG)) (c:AG) (k l:AG->StateT SortSt Sem (ForInStep Eh)),f=g->k=l->(forIn [:a.size+b.size] c f >>= k)=(forIn [:a.size+b.size] c g >>= l):=λ_ _ _ _ _ h h2=>by rw [h,h2]
    refine e3 _ _ _ _ _ (funext λ_=>funext λc=>?_) (funext λs=>?_)
    ·rfl
    ·obtain ⟨o,s⟩:=s
     cases o <;> rfl
 ·obtain ⟨o,s⟩:=s
  cases o <;> rfl
end
theorem some_at {xs:Array Keyed} (h:i<xs.size):∃ p,xs[i]?=some p:=⟨xs[i],PR h⟩
def Ei (rk:Keyed->Int) (a b:Array Keyed) (n:Nat) (o:Option (Array Keyed)) (ia ib:Nat) (out:Array Keyed):Prop:=(∃ r,o=some r/\Res rk a b r)\/(o=none/\l0 rk a b out ia ib/\n<=ia+ib)
noncomputable def Ej (rk:Keyed->Int) (a b:Array Keyed) (n:Nat):ForInStep AG->Prop
 | .done c=>Ei rk a b n c.1 c.2.2.1 c.2.2.2.1 c.2.1
 | .yield c=>c.1=none/\l0 rk a b c.2.1 c.2.2.1 c.2.2.2.1/\n<=c.2.2.1+c.2.2.2.1
theorem mY {st:SortSt} (lA:∀ {out:Array Keyed} {ia ib:Nat},WL rk a b out ia ib->ia+1=a.size->Res rk a b (CZ a b out ia ib)) (W:WL rk a b out ia ib) (ua:Up rk a) (la:ia+1<a.size) (lb:ib<b.size) (ep:a[ia]?=some p)
 (hl:∀ (j:Nat) (r:Keyed),ib<=j->b[j]?=some r->rk p<=rk r) (hn:n<=ia+1+ib) (hQ:∀ x,Ej rk a b n x->Q x st):wpS (model prog w) A E s (vh a b mg ac bc ia ib out) Q st:=by
 unfold vh
 have W4:=W.fQ ua ep hl
 refine O9 (aV ep ?_)
 by_cases e9:ia+1+1=a.size
 ·rw [if_pos (by simpa using e9)]
  exact Pb (hQ _ (.inl ⟨_,rfl,lA W4 e9⟩))
 rw [if_neg (by simpa using e9)]
 have hL:l0 rk a b (out.push p) (ia+1) ib:=⟨W4,Nat.lt_of_le_of_ne la e9,lb⟩
 split
 ·exact Pb (hQ _ (.inr ⟨rfl,hL,hn⟩))
 ·exact Pb (hQ _ ⟨rfl,hL,hn⟩)
theorem oG {xs:Array Keyed} {i j:Nat} (h:i<=j) (e:xs[j]?=some p):xs[i+(j - i)]?=some p:=by rw [U8 h]; exact e
theorem mZ {st:SortSt} (hC:gT prog w A s κ rk L) (hk:kindOf st=κ) (ma:∀ (i:Nat) (p:Keyed),a[i]?=some p->p∈L) (mb:∀ (i:Nat) (p:Keyed),b[i]?=some p->p∈L)
 (lA:∀ {out:Array Keyed} {ia ib:Nat},WL rk a b out ia ib->ia+1=a.size->Res rk a b (CZ a b out ia ib)) (W:WL rk a b out ia ib) (ua:Up rk a) (ub:Up rk b) (la:ia+1<a.size) (lb:ib<b.size) (eq:b[ib]?=some q)
 (hl:∀ (j:Nat) (r:Keyed),ia<=j->a[j]?=some r->rk q<=rk r) (hn:n<=ia+ib+2) (hQ:∀ x,Ej rk a b n x->Q x st):wpS (model prog w) A E s (vm a b mg ac bc ia ib out) Q st:=by
 unfold vm
 have W2:=W.fP ub eq hl
 refine O9 (aV eq ?_)
 by_cases e5:ib+1=b.size
 ·rw [if_pos (by simpa using e5)]
  exact Pb (hQ _ (.inl ⟨_,rfl,W2.jd ua e5⟩))
 rw [if_neg (by simpa using e5)]
 obtain ⟨p,ep⟩:=some_at (xs:=a) (i:=ia) (by lia)
 refine O9 (aV ep ?_)
 refine O9 (qH hC hk (ma _ _ ep) mb ub _ (by lia) (by lia) λk hj1 hj2 hj3=>?_)
 dsimp only
 have W3:=W2.qF ub k (by lia) λi j r p' z1 z2 z3 e6 e7=>P4 (Rr (hj2 (i - (ib+1)) r (by lia) (oG z1 e6))) (ua ia j p p' z3 ep e7)
 have bwd:∀ (j:Nat) (r:Keyed),ib+1+k<=j->b[j]?=some r->rk p<=rk r:=λj r hj e6=>hj3 (j - (ib+1)) r (by lia) (by have:=(Sn.mp e6).1; lia) (oG (Pw (Rw _ _) hj) e6)
 by_cases hj0:k>0
 ·rw [if_pos hj0]
  by_cases e8:ib+1+k=b.size
  ·rw [if_pos (by simpa using e8)]
   exact Pb (hQ _ (.inl ⟨_,rfl,W3.jd ua e8⟩))
  rw [if_neg (by simpa using e8)]
  exact mY lA W3 ua la (by lia) ep bwd (by lia) hQ
 ·rw [if_neg hj0]
  exact mY lA W2 ua la (by lia) ep (λj r hj e6=>bwd j r (by lia) e6) (by lia) hQ
theorem m5 {st:SortSt} (hC:gT prog w A s κ rk L) (hk:kindOf st=κ) (ma:∀ (i:Nat) (p:Keyed),a[i]?=some p->p∈L) (mb:∀ (i:Nat) (p:Keyed),b[i]?=some p->p∈L)
 (lA:∀ {out:Array Keyed} {ia ib:Nat},WL rk a b out ia ib->ia+1=a.size->Res rk a b (CZ a b out ia ib)) (ua:Up rk a) (ub:Up rk b) (hL:l0 rk a b out ia ib) (hn:n<=ia+ib) (hQ:∀ x st',cQ st st'->Ej rk a b n x->Q x st') :
 wpS (model prog w) A E s (vn a b mg ac bc ia ib out) Q st:=by
 unfold vn
 have W:=hL.w
 have la:=hL.la
 have lb:=hL.lb
 obtain ⟨q,eq⟩:=some_at (xs:=b) lb
 refine O9 (fD ?_)
 have CQ:=λx=>hQ x _ ((cQ.refl st).min mg)
 refine O9 (aV eq ?_)
 refine O9 (qG hC (by exact hk) (mb _ _ eq) ma ua _ (by lia) (by lia) λk hk1 hk2 hk3=>?_)
 dsimp only
 have Wk:=W.qE ua k (by lia) λi j p r z1 z2 z3 e3 e4=>P4 (hk2 (i - ia) p (by lia) (oG z1 e3)) (ub ib j q r z3 eq e4)
 have fwd:∀ (j:Nat) (r:Keyed),ia+k<=j->a[j]?=some r->rk q<=rk r:=λj r hj e3=>Rr (hk3 (j - ia) r (by lia) (by have:=(Sn.mp e3).1; lia) (oG (Pw (Rw _ _) hj) e3))
 by_cases hk0:k>0
 ·rw [if_pos hk0]
  by_cases e3:ia+k+1=a.size
  ·rw [if_pos (by simpa using e3)]
   exact Pb (CQ _ (.inl ⟨_,rfl,lA Wk e3⟩))
  rw [if_neg (by simpa using e3)]
  by_cases e4:ia+k=a.size
  ·rw [if_pos (by simpa using e4)]
   exact Pb (CQ _ (.inl ⟨_,rfl,Wk.je ub e4⟩))
  rw [if_neg (by simpa using e4)]
  exact mZ hC (by exact hk) ma mb lA Wk ua ub (by lia) lb eq fwd (by lia) CQ
 ·rw [if_neg hk0]
  exact mZ hC (by exact hk) ma mb lA W ua ub la lb eq (λj r hj e3=>fwd j r (by lia) e3) (by lia) CQ
theorem xA {st:SortSt} (hC:gT prog w A s κ rk L) (hk:kindOf st=κ) (ma:∀ (i:Nat) (p:Keyed),a[i]?=some p->p∈L) (mb:∀ (i:Nat) (p:Keyed),b[i]?=some p->p∈L)
 (lA:∀ {out:Array Keyed} {ia ib:Nat},WL rk a b out ia ib->ia+1=a.size->Res rk a b (CZ a b out ia ib)) (ua:Up rk a) (ub:Up rk b) (hL:l0 rk a b c.2.1 c.2.2.1 c.2.2.2.1) (hn:n<=c.2.2.1+c.2.2.2.1+1)
 (hQ:∀ o ia ib out z y,Ei rk a b n o ia ib out->Q (.done (o,out,ia,ib,z)) st/\(o=none->Q (.yield (none,out,ia,ib,y)) st)):wpS (model prog w) A E s (AI a b mg c) Q st:=by
 obtain ⟨_,out,ia,ib,ac,bc⟩:=c
 unfold AI
 dsimp only at hL hn |-
 have W:=hL.w
 have la:=hL.la
 have lb:=hL.lb
 obtain ⟨q,eq⟩:=some_at (xs:=b) lb
 obtain ⟨p,ep⟩:=some_at (xs:=a) (Nat.lt_of_succ_lt la)
 refine O9 (aV eq (O9 (aV ep (O9 (kM hC hk (mb _ _ eq) (ma _ _ ep) ?_)))))
 dsimp only
 by_cases hw:rk q<rk p
 ·rw [decide_eq_true hw,if_pos rfl]
  have W1:=W.fP ub eq λj r hj e=>P4 (Rr hw) (ua ia j p r hj ep e)
  refine O9 (aV eq ?_)
  by_cases e3:ib+1=b.size
  ·rw [if_pos (by simpa using e3)]
   exact Pb (hQ _ _ _ _ _ (0,0) (.inl ⟨_,rfl,W1.jd ua e3⟩)).1
  rw [if_neg (by simpa using e3)]
  have z:=hQ none ia (ib+1) (out.push q) (0,bc+1) (0,bc+1) (.inr ⟨rfl,⟨W1,la,by lia⟩,by lia⟩)
  split
  ·exact Pb z.1
  ·exact Pb (z.2 rfl)
 ·rw [decide_eq_false hw,if_neg Pn]
  have W1:=W.fQ ua ep λj r hj e=>P4 (Int.not_lt.mp hw) (ub ib j q r hj eq e)
  refine O9 (aV ep ?_)
  by_cases e3:ia+1+1=a.size
  ·rw [if_pos (by simpa using e3)]
   exact Pb (hQ _ _ _ _ _ (0,0) (.inl ⟨_,rfl,lA W1 e3⟩)).1
  rw [if_neg (by simpa using e3)]
  have z:=hQ none (ia+1) ib (out.push p) (ac+1,0) (ac+1,0) (.inr ⟨rfl,⟨W1,by lia,lb⟩,by lia⟩)
  split
  ·exact Pb z.1
  ·exact Pb (z.2 rfl)
theorem sZ {st:SortSt} (hC:gT prog w A s κ rk L) (hk:kindOf st=κ) (ma:∀ (i:Nat) (p:Keyed),a[i]?=some p->p∈L) (mb:∀ (i:Nat) (p:Keyed),b[i]?=some p->p∈L)
 (lA:∀ {out:Array Keyed} {ia ib:Nat},WL rk a b out ia ib->ia+1=a.size->Res rk a b (CZ a b out ia ib)) (ua:Up rk a) (ub:Up rk b) (hL:l0 rk a b c.2.1 c.2.2.1 c.2.2.2.1) (hn:n<=c.2.2.1+c.2.2.2.1+1)
 (h1:∀ r z st',cQ st st'->Res rk a b r->Q (.done (some r,z)) st') (h2:∀ ia ib out g st',cQ st st'->l0 rk a b out ia ib->n<=ia+ib->Q (.yield (none,out,ia,ib,g)) st'):wpS (model prog w) A E s (oF a b c) Q st:=by
 unfold oF
 refine O9 (P7 (Qy (I:=λy c st'=>st'=st/\c.1=none/\l0 rk a b c.2.1 c.2.2.1 c.2.2.2.1/\n+y<=c.2.2.1+c.2.2.2.1+1) (Q:=λc st'=>st'=st/\Ei rk a b n c.1 c.2.2.1 c.2.2.2.1 c.2.1) ?step ?fin ⟨rfl,rfl,hL,hn⟩) ?post)
 case fin =>
  rintro c st' ⟨rfl,hc,hL',hx⟩
  exact ⟨rfl,.inr ⟨hc,hL',by have:=hL'.la; have:=hL'.lb; lia⟩⟩
 case step =>
  rintro y c st' _ hy ⟨rfl,_,hL',hx⟩
  refine xA (n:=n+y) hC hk ma mb lA ua ub hL' hx λo ia ib out z y hR=>⟨?_,?_⟩
  ·refine ⟨rfl,?_⟩
   rcases hR with hR | ⟨q1,q2,q3⟩
   ·exact .inl hR
   ·exact .inr ⟨q1,q2,Pw (Rw _ _) q3⟩
  ·rintro rfl
   rcases hR with ⟨_,q,_⟩ | ⟨q1,q2,q3⟩
   ·cases q
   ·exact ⟨rfl,rfl,q2,Ui q3⟩
 case post =>
  rintro ⟨o,out,ia,ib,ac,bc⟩ st' ⟨rfl,hR⟩
  dsimp only at hR |-
  rcases hR with ⟨r,rfl,hr⟩ | ⟨rfl,hL2,hn2⟩
  ·exact Pb (h1 r _ _ (.refl _) hr)
  refine O9 (RO (Qz ⟨rfl,?_⟩))
  refine O9 (P7 (Qy (I:=λy c st''=>cQ st' st''/\c.1=none/\l0 rk a b c.2.1 c.2.2.1 c.2.2.2.1/\n<=c.2.2.1+c.2.2.2.1) (Q:=λc st''=>cQ st' st''/\Ei rk a b n c.1 c.2.2.1 c.2.2.2.1 c.2.1) ?gstep ?gfin ⟨.refl _,rfl,hL2,hn2⟩) ?gpost)
  case gfin=>exact λc st'' ⟨q1,q2,q3,q4⟩=>⟨q1,.inr ⟨q2,q3,q4⟩⟩
  case gstep =>
   rintro y c st'' _ _ ⟨q1,q2,q3,q4⟩
   have key:wpS (model prog w) A E s (AH a b c) (λx st3=>cQ st'' st3/\Ej rk a b n x) st'':=by
    unfold AH
    split
    ·exact m5 hC (q1.k.trans hk) ma mb lA ua ub q3 q4 λx st3 k h=>⟨k,h⟩
    ·exact m5 hC (q1.k.trans hk) ma mb lA ua ub q3 q4 λx st3 k h=>⟨k,h⟩
   refine P7 key λx st3 ⟨k,h⟩=>?_
   cases x with
   | done c=>exact ⟨q1.trans k,h⟩
   | yield c=>exact ⟨q1.trans k,h⟩
  case gpost =>
   rintro ⟨o,out,ia,ib,g,ac,bc⟩ st'' ⟨q1,hR⟩
   dsimp only at hR |-
   rcases hR with ⟨r,rfl,hr⟩ | ⟨rfl,hL3,hn3⟩
   ·exact Pb (h1 r _ _ q1 hr)
   ·exact O9 (fD (Pb (h2 _ _ _ _ _ (q1.min _) hL3 hn3)))
theorem qJ {st:SortSt} (hC:gT prog w A s κ rk L) (hk:kindOf st=κ) (ma:∀ (i:Nat) (p:Keyed),a[i]?=some p->p∈L) (mb:∀ (i:Nat) (p:Keyed),b[i]?=some p->p∈L) (ua:Up rk a) (ub:Up rk b) (na:1<=a.size) (nb:1<=b.size)
 (h0:∀ p q,a[0]?=some p->b[0]?=some q->rk q<=rk p) (hl:∀ (j:Nat) (p q:Keyed),a[a.size - 1]?=some p->b[j]?=some q->rk q<=rk p) (h:∀ r st',Res rk a b r->cQ st st'->Q r st'):wpS (model prog w) A E s (kO a b) Q st:=by
 have lastA:∀ {out:Array Keyed} {ia ib:Nat},WL rk a b out ia ib->ia+1=a.size->Res rk a b (CZ a b out ia ib):=λhw e=>hw.last ub e λj p q e1 e2=>hl j p q (by rw [<- e]; exact e1) e2
 obtain ⟨q0,eq0⟩:=some_at (xs:=b) (i:=0) nb
 obtain ⟨p0,ep0⟩:=some_at (xs:=a) (i:=0) na
 have W0:WL rk a b #[q0] 0 1:=by
  have z:WL rk a b #[] 0 0:=⟨PY _,PY _,by simp,SW,by simp,by simp⟩
  exact z.fP ub eq0 λj q _ e=>P4 (h0 p0 q0 ep0 eq0) (ua 0 j p0 q (PY _) ep0 e)
 rw [qI]
 refine O9 (RO (Qz ⟨rfl,?_⟩))
 refine O9 (aV eq0 ?_)
 by_cases e1:1=b.size
 ·rw [if_pos (by simpa using e1)]
  exact Pb (h _ _ (W0.jd ua e1) (.refl _))
 rw [if_neg (by simpa using e1)]
 by_cases e2:0+1=a.size
 ·rw [if_pos (by simpa using e2)]
  exact Pb (h _ _ (lastA W0 e2) (.refl _))
 rw [if_neg (by simpa using e2)]
 refine O9 (QX ?_)
 refine O9 (P7 (Qy (I:=λx c st'=>cQ st st'/\c.1=none/\l0 rk a b c.2.1 c.2.2.1 c.2.2.2.1/\x+1<=c.2.2.1+c.2.2.2.1) (Q:=λc st'=>cQ st st'/\∃ r,c.1=some r/\Res rk a b r) ?step ?fin ⟨.refl _,rfl,⟨W0,by dsimp only; lia,by dsimp only; lia⟩,by dsimp only; lia⟩) ?post)
 case fin =>
  rintro c st' ⟨hK,hc,hL,hx⟩
  have h1:=hL.la
  have h2:=hL.lb
  lia
 case post =>
  rintro c st' ⟨hK,r,hc,hr⟩
  rw [hc]
  exact Pb (h r st' hr hK)
 case step =>
  rintro x c st1 _ hx ⟨hK,_,hL,hn⟩
  exact sZ (n:=x+2) hC (hK.k.trans hk) ma mb lastA ua ub hL (Ui hn) (λr z st' k hr=>⟨hK.trans k,r,rfl,hr⟩) λia ib out g st' k q1 q2=>⟨hK.trans k,rfl,q1,q2⟩
noncomputable def kR:Array Keyed->Array Keyed->StateT SortSt Sem (Array Keyed):=sortPriv% PySem.Builtin.mergeHi
local macro_rules | `(tactic| walk_at "dl mergeHi")=>do
 let i:=R6 (RS `PySem.Builtin.List.W1All `PySem.Builtin.mergeHi)
 `(tactic| delta $i)
section
variable {rk:Keyed->Int} {a b:Array Keyed}
structure WH (rk:Keyed->Int) (a b:Array Keyed) (out:Array Keyed) (na nb:Nat):Prop where
 pa:na<=a.size
 pb:nb<=b.size
 pm:out.toList.Perm (a.toList.drop na++b.toList.drop nb)
 sr:AF rk out.toList.reverse
 ha:∀ p∈out.toList,∀ (j:Nat) (q:Keyed),j<na->a[j]?=some q->rk q<=rk p
 hb:∀ p∈out.toList,∀ (j:Nat) (q:Keyed),j<nb->b[j]?=some q->rk q<=rk p
theorem dw (xs:Array Keyed) (i):(xs.extract 0 i).toList=xs.toList.take i:=by rw [dX,List.drop_zero]
theorem iE {xs:Array Keyed} (h:q∈xs.toList.take i):∃ j,j<i/\xs[j]?=some q:=by
 obtain ⟨n,hn⟩:=Ss h
 have hl:=(Ph.mp hn).1
 rw [Qk] at hl
 rw [TN (by lia)] at hn
 exact ⟨n,by lia,by rw [<- Qi]; exact hn⟩
theorem WH.res (h:WH rk a b out na nb) (x) (hx:x.toList.Perm (a.toList.take na++b.toList.take nb)) (hs:AF rk x.toList):Res rk a b (x++out.reverse):=by
 have e0:(x++out.reverse).toList=x.toList++out.toList.reverse:=by simp
 refine ⟨?_,?_⟩
 ·rw [e0]
  refine (hx.append ((Vo _).trans h.pm)).trans ?_
  have:(a.toList.take na++b.toList.take nb++(a.toList.drop na++b.toList.drop nb)).Perm (a.toList.take na++a.toList.drop na++(b.toList.take nb++b.toList.drop nb)):=by
   rw [Pz,Pz]
   refine Sq _ ?_
   rw [<- Pz,<- Pz]
   exact List.Perm.append_right _ RU
  rw [Rl,Rl] at this
  exact this
 ·rw [e0]
  refine bL hs h.sr λp hp q hq=>?_
  have hq':q∈out.toList:=by simpa using hq
  rcases PD.mp (hx.mem_iff.mp hp) with z | z
  ·obtain ⟨j,h1,e⟩:=iE z
   exact h.ha q hq' j p h1 e
  ·obtain ⟨j,h1,e⟩:=iE z
   exact h.hb q hq' j p h1 e
theorem WH.je (h:WH rk a b out na nb) (ub:Up rk b) (e:na=0):Res rk a b (a.extract 0 na++b.extract 0 nb++out.reverse):=by
 subst e
 refine h.res _ ?_ ?_
 ·simp [dw]
 ·have:(a.extract 0 0++b.extract 0 nb).toList=b.toList.take nb:=by rw [QF,dw,dw]; simp
  rw [this]; exact (jc ub).sublist (Ub _ _)
theorem WH.jd (h:WH rk a b out na nb) (ua:Up rk a) (e:nb=0):Res rk a b (a.extract 0 na++b.extract 0 nb++out.reverse):=by
 subst e
 refine h.res _ ?_ ?_
 ·simp [dw]
 ·have:(a.extract 0 na++b.extract 0 0).toList=a.toList.take na:=by rw [QF,dw,dw]; simp
  rw [this]; exact (jc ua).sublist (Ub _ _)
theorem WH.first (h:WH rk a b out na nb) (ua:Up rk a) (e:nb=1) (hf:∀ (j:Nat) (p q:Keyed),a[j]?=some p->b[0]?=some q->rk q<=rk p) :
 Res rk a b (b.extract 0 nb++a.extract 0 na++out.reverse):=by
 subst e
 have e1:(b.extract 0 1++a.extract 0 na).toList=b.toList.take 1++a.toList.take na:=by rw [QF,dw,dw]
 refine h.res _ ?_ ?_
 ·rw [e1]; exact RU
 ·rw [e1]
  refine bL ?_ ((jc ua).sublist (Ub _ _)) λp hp q hq=>?_
  ·exact vf (by simp; lia)
  ·obtain ⟨j,h1,e2⟩:=iE hp
   obtain ⟨j2,h2,e3⟩:=iE hq
   have:j=0:=by lia
   subst this
   exact hf j2 q p e3 e2
theorem m6 {xs:Array Keyed} (hi:1<=i) (h:xs[i - 1]?=some p):xs.toList.drop (i - 1)=p::xs.toList.drop i:=by
 rw [<- Qi] at h
 obtain ⟨h1,h2⟩:=Ph.mp h
 rw [TL h1,h2,show i - 1+1=i by lia]
theorem WH.fQ {out:Array Keyed} {na nb:Nat} {p:Keyed} (h:WH rk a b out na nb) (ua:Up rk a) (hn:1<=na) (e:a[na - 1]?=some p) (hl:∀ (j:Nat) (q:Keyed),j<nb->b[j]?=some q->rk q<=rk p):WH rk a b (out.push p) (na - 1) nb where
 pa:=by have:=h.pa; lia
 pb:=h.pb
 pm:=by
  rw [P8,m6 hn e]
  refine (h.pm.append_right _).trans ?_
  rw [QG]
  exact RU
 sr:=by
  rw [P8,U9]
  exact bL (So _ _) h.sr λr hr q hq=>by
   have hr':r=p:=by simpa using hr
   rw [hr']
   exact h.ha q (by simpa using hq) (na - 1) p (by lia) e
 ha:=λq hq j r hj er=>by
  rw [P8] at hq
  rcases PD.mp hq with z | z
  ·exact h.ha q z j r (by lia) er
  ·rw [PB.mp z]; exact ua j (na - 1) r p (by lia) er e
 hb:=λq hq j r hj er=>by
  rw [P8] at hq
  rcases PD.mp hq with z | z
  ·exact h.hb q z j r hj er
  ·rw [PB.mp z]; exact hl j r hj er
theorem WH.fP {out:Array Keyed} {na nb:Nat} {p:Keyed} (h:WH rk a b out na nb) (ub:Up rk b) (hn:1<=nb) (e:b[nb - 1]?=some p) (hl:∀ (j:Nat) (q:Keyed),j<na->a[j]?=some q->rk q<=rk p):WH rk a b (out.push p) na (nb - 1) where
 pa:=h.pa
 pb:=by have:=h.pb; lia
 pm:=by
  rw [P8,m6 hn e]
  refine (h.pm.append_right _).trans ?_
  rw [Pz]
  exact Sq _ RU
 sr:=by
  rw [P8,U9]
  exact bL (So _ _) h.sr λr hr q hq=>by
   have hr':r=p:=by simpa using hr
   rw [hr']
   exact h.hb q (by simpa using hq) (nb - 1) p (by lia) e
 hb:=λq hq j r hj er=>by
  rw [P8] at hq
  rcases PD.mp hq with z | z
  ·exact h.hb q z j r (by lia) er
  ·rw [PB.mp z]; exact ub j (nb - 1) r p (by lia) er e
 ha:=λq hq j r hj er=>by
  rw [P8] at hq
  rcases PD.mp hq with z | z
  ·exact h.ha q z j r hj er
  ·rw [PB.mp z]; exact hl j r hj er
theorem vo {xs:Array Keyed} (h:m<n) (e:xs[m]?=some p):(xs.extract m n).reverse=(xs.extract (m+1) n).reverse.push p:=by
 apply RL
 rw [P8,Su,Su,dX,dX]
 rw [<- Qi] at e
 obtain ⟨h1,h2⟩:=Ph.mp e
 have h3:m<(xs.toList.take n).length:=by rw [Qk]; lia
 rw [TL h3,List.reverse_cons,List.getElem_take,h2]
theorem qK (xs ys:Array Keyed) (p):xs++ys.push p=(xs++ys).push p:=by
 apply RL; simp
theorem WH.qE (h:WH rk a b out na nb) (ua:Up rk a):∀ (k m:Nat),m+k=na->(∀ (i j:Nat) (p q:Keyed),m<=i->i<na->j<nb->a[i]?=some p->b[j]?=some q->rk q<=rk p)->WH rk a b (out++(a.extract m na).reverse) m nb
 | 0,m,hm,_=>by
  have e:m=na:=by lia
  subst e
  have:out++(a.extract m m).reverse=out:=by
   apply RL
   rw [QF,Su,iD,List.reverse_nil,Qp]
  rw [this]; exact h
 | k+1,m,hm,hl=>by
  have hp:=h.pa
  have ih:=h.qE ua k (m+1) (by lia) λi j p q h1 h2=>hl i j p q (by lia) h2
  have e:a[m+1 - 1]?=some (a[m]'(by lia)):=PR (show m<a.size by lia)
  have z:=ih.fQ ua (by lia) e λj q hj eq=>hl m j _ q (Pa _) (by lia) hj (PR (show m<a.size by lia)) eq
  rw [vo (show m<na by lia) (PR (show m<a.size by lia)),qK]
  exact z
theorem WH.qF (h:WH rk a b out na nb) (ub:Up rk b):∀ (k m:Nat),m+k=nb->(∀ (i j:Nat) (p q:Keyed),m<=i->i<nb->j<na->b[i]?=some p->a[j]?=some q->rk q<=rk p)->WH rk a b (out++(b.extract m nb).reverse) na m
 | 0,m,hm,_=>by
  have e:m=nb:=by lia
  subst e
  have:out++(b.extract m m).reverse=out:=by
   apply RL
   rw [QF,Su,iD,List.reverse_nil,Qp]
  rw [this]; exact h
 | k+1,m,hm,hl=>by
  have hp:=h.pb
  have ih:=h.qF ub k (m+1) (by lia) λi j p q h1 h2=>hl i j p q (by lia) h2
  have e:b[m+1 - 1]?=some (b[m]'(by lia)):=PR (show m<b.size by lia)
  have z:=ih.fP ub (by lia) e λj q hj eq=>hl m j _ q (Pa _) (by lia) hj (PR (show m<b.size by lia)) eq
  rw [vo (show m<nb by lia) (PR (show m<b.size by lia)),qK]
  exact z
structure gB (rk:Keyed->Int) (a b out:Array Keyed) (na nb:Nat):Prop where
 w:WH rk a b out na nb
 la:1<=na
 lb:2<=nb
end
noncomputable abbrev AJ:=Option (Array Keyed)×Nat×Nat×Array Keyed×Nat×Nat×Nat
noncomputable def Gm (a b out:Array Keyed) (na nb:Nat):Array Keyed:=a.extract 0 na++b.extract 0 nb++out.reverse
noncomputable def Ek (a b out:Array Keyed) (na nb:Nat):Array Keyed:=b.extract 0 nb++a.extract 0 na++out.reverse
noncomputable def vp (a b:Array Keyed) (mg ac bc na nb:Nat) (out:Array Keyed):StateT SortSt Sem (ForInStep AJ):=do
 let p <- elem' a (na - 1)
 if (na - 1 == 0)=true then pure (.done (some (Gm a b (out.push p) (na - 1) nb),na - 1,nb,out.push p,mg,ac,bc))
 else if (decide (ac<7) && decide (bc<7))=true then pure (.done (none,na - 1,nb,out.push p,mg,ac,bc))
 else pure (.yield (none,na - 1,nb,out.push p,mg,ac,bc))
noncomputable def vq (a b:Array Keyed) (mg ac bc na nb:Nat) (out:Array Keyed):StateT SortSt Sem (ForInStep AJ):=do
 let q <- elem' b (nb - 1)
 if (nb - 1 == 1)=true then pure (.done (some (Ek a b (out.push q) na (nb - 1)),na,nb - 1,out.push q,mg,ac,bc))
 else do
  let p <- elem' a (na - 1)
  let x <- cO true p b 0 (nb - 1) (nb - 1 - 1)
  match x with
  | some k=>(if nb - 1 - k>0 then
   (if (k == 1)=true then pure (.done (some (Ek a b (out.push q++(b.extract k (nb - 1)).reverse) na k),na,k,out.push q++(b.extract k (nb - 1)).reverse,mg,ac,nb - 1 - k))
    else if (k == 0)=true then pure (.done (some (Gm a b (out.push q++(b.extract k (nb - 1)).reverse) na k),na,k,out.push q++(b.extract k (nb - 1)).reverse,mg,ac,nb - 1 - k))
    else vp a b mg ac (nb - 1 - k) na k (out.push q++(b.extract k (nb - 1)).reverse))
   else vp a b mg ac (nb - 1 - k) na (nb - 1) (out.push q))
  | _=>pure (.done (some (Gm a b (out.push q) na (nb - 1)),na,nb - 1,out.push q,mg,ac,bc))
noncomputable def vv (a b:Array Keyed) (mg ac bc na nb:Nat) (out:Array Keyed):StateT SortSt Sem (ForInStep AJ):=do
 cC mg
 let q <- elem' b (nb - 1)
 let x <- cO false q a 0 na (na - 1)
 match x with
 | some k=>(if na - k>0 then
  (if (k == 0)=true then pure (.done (some (Gm a b (out++(a.extract k na).reverse) k nb),k,nb,out++(a.extract k na).reverse,mg,na - k,bc))
   else vq a b mg (na - k) bc k nb (out++(a.extract k na).reverse))
  else vq a b mg (na - k) bc na nb out)
 | _=>pure (.done (some (Gm a b out na nb),na,nb,out,mg,ac,bc))
noncomputable def AK (a b:Array Keyed) (c:AJ):StateT SortSt Sem (ForInStep AJ) :=
 if c.2.2.2.2.1>1 then vv a b (c.2.2.2.2.1 - 1) c.2.2.2.2.2.1 c.2.2.2.2.2.2 c.2.1 c.2.2.1 c.2.2.2.1 else vv a b c.2.2.2.2.1 c.2.2.2.2.2.1 c.2.2.2.2.2.2 c.2.1 c.2.2.1 c.2.2.2.1
noncomputable abbrev IL:=Option (Array Keyed)×Nat×Nat×Array Keyed×Nat×Nat
noncomputable def AL (a b:Array Keyed) (mg:Nat) (c:IL):StateT SortSt Sem (ForInStep IL):=do
 let q <- elem' b (c.2.2.1 - 1)
 let p <- elem' a (c.2.1 - 1)
 let x <- lt' q p
 match x with
 | some y=>(if y=true then (do
  let p <- elem' a (c.2.1 - 1)
  if (c.2.1 - 1 == 0)=true then pure (.done (some (Gm a b (c.2.2.2.1.push p) (c.2.1 - 1) c.2.2.1),c.2.1 - 1,c.2.2.1,c.2.2.2.1.push p,c.2.2.2.2.1+1,0))
  else if c.2.2.2.2.1+1>=mg then pure (.done (none,c.2.1 - 1,c.2.2.1,c.2.2.2.1.push p,c.2.2.2.2.1+1,0))
  else pure (.yield (none,c.2.1 - 1,c.2.2.1,c.2.2.2.1.push p,c.2.2.2.2.1+1,0)))
  else (do
   let q <- elem' b (c.2.2.1 - 1)
   if (c.2.2.1 - 1 == 1)=true then pure (.done (some (Ek a b (c.2.2.2.1.push q) c.2.1 (c.2.2.1 - 1)),c.2.1,c.2.2.1 - 1,c.2.2.2.1.push q,0,c.2.2.2.2.2+1))
   else if c.2.2.2.2.2+1>=mg then pure (.done (none,c.2.1,c.2.2.1 - 1,c.2.2.2.1.push q,0,c.2.2.2.2.2+1))
   else pure (.yield (none,c.2.1,c.2.2.1 - 1,c.2.2.2.1.push q,0,c.2.2.2.2.2+1))))
 | _=>pure (.done (some (Gm a b c.2.2.2.1 c.2.1 c.2.2.1),c.2.1,c.2.2.1,c.2.2.2.1,c.2.2.2.2.1,c.2.2.2.2.2))
noncomputable abbrev C0:=Option (Array Keyed)×Nat×Nat×Array Keyed×Nat
noncomputable def jf (a b:Array Keyed) (c:C0):StateT SortSt Sem (ForInStep C0):=do
 let s <- forIn [:a.size+b.size] ((none,c.2.1,c.2.2.1,c.2.2.2.1,0,0):IL) λ_ s=>AL a b c.2.2.2.2 s
 match s.1 with
 | some r=>pure (.done (some r,s.2.1,s.2.2.1,s.2.2.2.1,c.2.2.2.2))
 | none=>do
  liftM (rule "list.sort.gallop")
  let t <- forIn [:a.size+b.size] ((none,s.2.1,s.2.2.1,s.2.2.2.1,c.2.2.2.2+1,s.2.2.2.2.1,s.2.2.2.2.2):AJ) λ_ t=>AK a b t
  match t.1 with
  | some r=>pure (.done (some r,t.2.1,t.2.2.1,t.2.2.2.1,t.2.2.2.2.1))
  | none=>do
   cC (t.2.2.2.2.1+1)
   pure (.yield (none,t.2.1,t.2.2.1,t.2.2.2.1,t.2.2.2.2.1+1))
theorem qL (a b):kR a b=(do
 liftM (rule "list.sort.merge-hi")
 let p <- elem' a (a.size - 1)
 if (a.size - 1 == 0)=true then pure (Gm a b #[p] (a.size - 1) b.size)
 else if (b.size == 1)=true then pure (Ek a b #[p] (a.size - 1) b.size)
 else do
  let st <- get
  let s <- forIn [:a.size+b.size] ((none,a.size - 1,b.size,#[p],gallopOf st):C0) λ_ c=>jf a b c
  match s.1 with
  | some r=>pure r
  | none=>liftM (unsupported (α:=Array Keyed) "internal:list.sort.merge-bound")):=by
 unfold kR
 walk_at "dl mergeHi"
 dsimp only
 refine congrArg _ (funext λ_=>?_)
 refine congrArg _ (funext λp=>?_)
 refine congrArg _ (congrArg _ ?_)
 refine congrArg _ (funext λst=>?_)
 have h1:∀ (c:C0),jf a b c=jf a b c:=λ_=>rfl
 have e:∀ (f g:Nat->C0->StateT SortSt Sem (ForInStep C0)) (c:C0) (k:C0->StateT SortSt Sem (Array Keyed)),f=g->(forIn [:a.size+b.size] c f >>= k)=(forIn [:a.size+b.size] c g >>= k):=λ_ _ _ _ h=>by rw [h]
 refine (e _ _ _ _ (funext λ_=>funext λc=>?_)).trans (congrArg _ (funext λs=>?_))
 ·obtain ⟨o,na,nb,out,mg⟩:=c
  unfold jf
  dsimp only
  have e2:∀ (f g:Nat->IL->StateT SortSt Sem (ForInStep IL)) (c:IL) (k l:IL->StateT SortSt Sem (ForInStep C0)),f=g->k=l->(forIn [:a.size+b.size] c f >>= k)=(forIn [:a.size+b.size] c g >>= l):=λ_ _ _ _ _ h h2=>by rw [h,h2]
  refine e2 _ _ _ _ _ (funext λ_=>funext λc=>?_) (funext λs=>?_)
  ·rfl
  ·obtain ⟨o,na,nb,out,ac,bc⟩:=s
   cases o with
   | some r=>rfl
   | none =>
    dsimp only
    refine congrArg _ (funext λ_=>?_)
    have e3:∀ (f g:Nat->AJ->StateT SortSt Sem (ForInStep AJ)) (c:AJ) (k l:AJ->StateT SortSt Sem (ForInStep C0)),f=g->k=l->(forIn [:a.size+b.size] c f >>= k)=(forIn [:a.size+b.size] c g >>= l):=λ_ _ _ _ _ h h2=>by rw [h,h2]
    refine e3 _ _ _ _ _ (funext λ_=>funext λc=>?_) (funext λs=>?_)
    ·rfl
    ·obtain ⟨o,s⟩:=s
     cases o <;> rfl
 ·obtain ⟨o,s⟩:=s
  cases o <;> rfl
def El (rk:Keyed->Int) (a b:Array Keyed) (n:Nat) (o:Option (Array Keyed)) (na nb:Nat) (out:Array Keyed):Prop:=(∃ r,o=some r/\Res rk a b r)\/(o=none/\gB rk a b out na nb/\na+nb<=n)
noncomputable def Em (rk:Keyed->Int) (a b:Array Keyed) (n:Nat):ForInStep AJ->Prop
 | .done c=>El rk a b n c.1 c.2.1 c.2.2.1 c.2.2.2.1
 | .yield c=>c.1=none/\gB rk a b c.2.2.2.1 c.2.1 c.2.2.1/\c.2.1+c.2.2.1<=n
theorem m7 {st:SortSt} (W:WH rk a b out na nb) (ua:Up rk a) (ub:Up rk b) (la:1<=na) (lb:2<=nb) (ep:a[na - 1]?=some p)
 (hl:∀ (j:Nat) (r:Keyed),j<nb->b[j]?=some r->rk r<=rk p) (hn:na - 1+nb<=n) (hQ:∀ x,Em rk a b n x->Q x st):wpS (model prog w) A E s (vp a b mg ac bc na nb out) Q st:=by
 unfold vp
 have W4:=W.fQ ua la ep hl
 refine O9 (aV ep ?_)
 by_cases e9:na - 1=0
 ·rw [if_pos (by simpa using e9)]
  exact Pb (hQ _ (.inl ⟨_,rfl,W4.je ub e9⟩))
 rw [if_neg (by simpa using e9)]
 have hL:gB rk a b (out.push p) (na - 1) nb:=⟨W4,UY.mpr e9,lb⟩
 split
 ·exact Pb (hQ _ (.inr ⟨rfl,hL,hn⟩))
 ·exact Pb (hQ _ ⟨rfl,hL,hn⟩)
theorem m8 {st:SortSt} (hC:gT prog w A s κ rk L) (hk:kindOf st=κ) (ma:∀ (i:Nat) (p:Keyed),a[i]?=some p->p∈L) (mb:∀ (i:Nat) (p:Keyed),b[i]?=some p->p∈L)
 (fB:∀ {out:Array Keyed} {na nb:Nat},WH rk a b out na nb->nb=1->Res rk a b (Ek a b out na nb)) (W:WH rk a b out na nb) (ua:Up rk a) (ub:Up rk b) (la:1<=na) (lb:2<=nb) (eq:b[nb - 1]?=some q)
 (hl:∀ (j:Nat) (r:Keyed),j<na->a[j]?=some r->rk r<=rk q) (hn:na+nb<=n+2) (hQ:∀ x,Em rk a b n x->Q x st):wpS (model prog w) A E s (vq a b mg ac bc na nb out) Q st:=by
 unfold vq
 have W2:=W.fP ub (Nat.le_of_succ_le lb) eq hl
 have hpa:=W.pa
 have hpb:=W.pb
 refine O9 (aV eq ?_)
 by_cases e5:nb - 1=1
 ·rw [if_pos (by simpa using e5)]
  exact Pb (hQ _ (.inl ⟨_,rfl,fB W2 e5⟩))
 rw [if_neg (by simpa using e5)]
 have lb1:2<=nb - 1:=by lia
 obtain ⟨p,ep⟩:=some_at (xs:=a) (i:=na - 1) (by lia)
 refine O9 (aV ep ?_)
 refine O9 (qH hC hk (ma _ _ ep) mb ub _ (by lia) (by lia) λk hj1 hj2 hj3=>?_)
 dsimp only
 have dn2:∀ (i:Nat) (r:Keyed),i<k->b[i]?=some r->rk r<rk p:=λi r z1 e6=>hj2 i r z1 (by rw [RD]; exact e6)
 by_cases hj0:nb - 1 - k>0
 ·rw [if_pos hj0]
  have W3:=W2.qF ub (nb - 1 - k) k (U8 hj1) λi j r p' z1 z2 z3 e6 e7=>P4 (ua j (na - 1) p' p (TZ z3) e7 ep) (hj3 i r z1 (Nat.add_lt_add_left z2 0) (by rw [RD]; exact e6))
  by_cases e8:k=1
  ·rw [if_pos (by simpa using e8)]
   exact Pb (hQ _ (.inl ⟨_,rfl,fB W3 e8⟩))
  rw [if_neg (by simpa using e8)]
  by_cases e10:k=0
  ·rw [if_pos (by simpa using e10)]
   exact Pb (hQ _ (.inl ⟨_,rfl,W3.jd ua e10⟩))
  rw [if_neg (by simpa using e10)]
  exact m7 W3 ua ub la (by lia) ep (λj r hj e6=>Rr (dn2 j r hj e6)) (by lia) hQ
 ·rw [if_neg hj0]
  exact m7 W2 ua ub la lb1 ep (λj r hj e6=>Rr (dn2 j r (by lia) e6)) (by lia) hQ
theorem m9 {st:SortSt} (hC:gT prog w A s κ rk L) (hk:kindOf st=κ) (ma:∀ (i:Nat) (p:Keyed),a[i]?=some p->p∈L) (mb:∀ (i:Nat) (p:Keyed),b[i]?=some p->p∈L)
 (fB:∀ {out:Array Keyed} {na nb:Nat},WH rk a b out na nb->nb=1->Res rk a b (Ek a b out na nb)) (ua:Up rk a) (ub:Up rk b) (hL:gB rk a b out na nb) (hn:na+nb<=n) (hQ:∀ x st',cQ st st'->Em rk a b n x->Q x st') :
 wpS (model prog w) A E s (vv a b mg ac bc na nb out) Q st:=by
 unfold vv
 have W:=hL.w
 have la:=hL.la
 have lb:=hL.lb
 have hpa:=W.pa
 have hpb:=W.pb
 obtain ⟨q,eq⟩:=some_at (xs:=b) (i:=nb - 1) (by lia)
 refine O9 (fD ?_)
 have CQ:=λx=>hQ x _ ((cQ.refl st).min mg)
 refine O9 (aV eq ?_)
 refine O9 (qG hC (by exact hk) (mb _ _ eq) ma ua _ (by lia) (by lia) λk hk1 hk2 hk3=>?_)
 dsimp only
 have dn1:∀ (i:Nat) (p:Keyed),i<k->a[i]?=some p->rk p<=rk q:=λi p z1 e3=>hk2 i p z1 (by rw [RD]; exact e3)
 by_cases hk0:na - k>0
 ·rw [if_pos hk0]
  have Wk:=W.qE ua (na - k) k (U8 hk1) λi j p r z1 z2 z3 e3 e4=>P4 (ub j (nb - 1) r q (TZ z3) e4 eq) (Rr (hk3 i p z1 (Nat.add_lt_add_left z2 0) (by rw [RD]; exact e3)))
  by_cases e4:k=0
  ·rw [if_pos (by simpa using e4)]
   exact Pb (CQ _ (.inl ⟨_,rfl,Wk.je ub e4⟩))
  rw [if_neg (by simpa using e4)]
  exact m8 hC (by exact hk) ma mb fB Wk ua ub (UY.mpr e4) lb eq dn1 (by lia) CQ
 ·rw [if_neg hk0]
  exact m8 hC (by exact hk) ma mb fB W ua ub la lb eq (λj r hj e3=>dn1 j r (by lia) e3) (by lia) CQ
theorem xB {st:SortSt} (hC:gT prog w A s κ rk L) (hk:kindOf st=κ) (ma:∀ (i:Nat) (p:Keyed),a[i]?=some p->p∈L) (mb:∀ (i:Nat) (p:Keyed),b[i]?=some p->p∈L)
 (fB:∀ {out:Array Keyed} {na nb:Nat},WH rk a b out na nb->nb=1->Res rk a b (Ek a b out na nb)) (ua:Up rk a) (ub:Up rk b) (hL:gB rk a b c.2.2.2.1 c.2.1 c.2.2.1) (hn:c.2.1+c.2.2.1<=n+1)
 (hQ:∀ o na nb out z y,El rk a b n o na nb out->Q (.done (o,na,nb,out,z)) st/\(o=none->Q (.yield (none,na,nb,out,y)) st)):wpS (model prog w) A E s (AL a b mg c) Q st:=by
 obtain ⟨_,na,nb,out,ac,bc⟩:=c
 unfold AL
 dsimp only at hL hn |-
 have W:=hL.w
 have la:=hL.la
 have lb:=hL.lb
 have hpa:=W.pa
 have hpb:=W.pb
 obtain ⟨q,eq⟩:=some_at (xs:=b) (i:=nb - 1) (by lia)
 obtain ⟨p,ep⟩:=some_at (xs:=a) (i:=na - 1) (by lia)
 refine O9 (aV eq (O9 (aV ep (O9 (kM hC hk (mb _ _ eq) (ma _ _ ep) ?_)))))
 dsimp only
 by_cases hw:rk q<rk p
 ·rw [decide_eq_true hw,if_pos rfl]
  have W1:=W.fQ ua la ep λj r hj e=>P4 (ub j (nb - 1) r q (TZ hj) e eq) (Rr hw)
  refine O9 (aV ep ?_)
  by_cases e3:na - 1=0
  ·rw [if_pos (by simpa using e3)]
   exact Pb (hQ _ _ _ _ _ (0,0) (.inl ⟨_,rfl,W1.je ub e3⟩)).1
  rw [if_neg (by simpa using e3)]
  have z:=hQ none (na - 1) nb (out.push p) (ac+1,0) (ac+1,0) (.inr ⟨rfl,⟨W1,UY.mpr e3,lb⟩,by lia⟩)
  split
  ·exact Pb z.1
  ·exact Pb (z.2 rfl)
 ·rw [decide_eq_false hw,if_neg Pn]
  have W1:=W.fP ub (Nat.le_of_succ_le lb) eq λj r hj e=>P4 (ua j (na - 1) r p (TZ hj) e ep) (Int.not_lt.mp hw)
  refine O9 (aV eq ?_)
  by_cases e3:nb - 1=1
  ·rw [if_pos (by simpa using e3)]
   exact Pb (hQ _ _ _ _ _ (0,0) (.inl ⟨_,rfl,fB W1 e3⟩)).1
  rw [if_neg (by simpa using e3)]
  have z:=hQ none na (nb - 1) (out.push q) (0,bc+1) (0,bc+1) (.inr ⟨rfl,⟨W1,la,by lia⟩,by lia⟩)
  split
  ·exact Pb z.1
  ·exact Pb (z.2 rfl)
theorem tw {st:SortSt} (hC:gT prog w A s κ rk L) (hk:kindOf st=κ) (ma:∀ (i:Nat) (p:Keyed),a[i]?=some p->p∈L) (mb:∀ (i:Nat) (p:Keyed),b[i]?=some p->p∈L)
 (fB:∀ {out:Array Keyed} {na nb:Nat},WH rk a b out na nb->nb=1->Res rk a b (Ek a b out na nb)) (ua:Up rk a) (ub:Up rk b) (hL:gB rk a b c.2.2.2.1 c.2.1 c.2.2.1) (hn:c.2.1+c.2.2.1<=n+1) (hm:n+1<=a.size+b.size)
 (h1:∀ r z st',cQ st st'->Res rk a b r->Q (.done (some r,z)) st') (h2:∀ na nb out g st',cQ st st'->gB rk a b out na nb->na+nb<=n->Q (.yield (none,na,nb,out,g)) st'):wpS (model prog w) A E s (jf a b c) Q st:=by
 unfold jf
 refine O9 (P7 (Qy (I:=λy c st'=>st'=st/\c.1=none/\gB rk a b c.2.2.2.1 c.2.1 c.2.2.1/\y+c.2.1+c.2.2.1<=n+1) (Q:=λc st'=>st'=st/\El rk a b n c.1 c.2.1 c.2.2.1 c.2.2.2.1) ?step ?fin ⟨rfl,rfl,hL,by dsimp only; lia⟩) ?post)
 case fin =>
  rintro c st' ⟨rfl,hc,hL',hx⟩
  exact ⟨rfl,.inr ⟨hc,hL',by lia⟩⟩
 case step =>
  rintro y c st' _ hy ⟨rfl,_,hL',hx⟩
  refine xB (n:=n - y) hC hk ma mb fB ua ub hL' (by have:=hL'.la; have:=hL'.lb; lia) λo na nb out z y hR=>⟨?_,?_⟩
  ·refine ⟨rfl,?_⟩
   rcases hR with hR | ⟨q1,q2,q3⟩
   ·exact .inl hR
   ·exact .inr ⟨q1,q2,by dsimp only; lia⟩
  ·rintro rfl
   rcases hR with ⟨_,q,_⟩ | ⟨q1,q2,q3⟩
   ·cases q
   ·exact ⟨rfl,rfl,q2,by have:=q2.la; have:=q2.lb; dsimp only; lia⟩
 case post =>
  rintro ⟨o,na,nb,out,ac,bc⟩ st' ⟨rfl,hR⟩
  dsimp only at hR |-
  rcases hR with ⟨r,rfl,hr⟩ | ⟨rfl,hL2,hn2⟩
  ·exact Pb (h1 r _ _ (.refl _) hr)
  refine O9 (RO (Qz ⟨rfl,?_⟩))
  refine O9 (P7 (Qy (I:=λy c st''=>cQ st' st''/\c.1=none/\gB rk a b c.2.2.2.1 c.2.1 c.2.2.1/\c.2.1+c.2.2.1<=n) (Q:=λc st''=>cQ st' st''/\El rk a b n c.1 c.2.1 c.2.2.1 c.2.2.2.1) ?gstep ?gfin ⟨.refl _,rfl,hL2,hn2⟩) ?gpost)
  case gfin=>exact λc st'' ⟨q1,q2,q3,q4⟩=>⟨q1,.inr ⟨q2,q3,q4⟩⟩
  case gstep =>
   rintro y c st'' _ _ ⟨q1,q2,q3,q4⟩
   have key:wpS (model prog w) A E s (AK a b c) (λx st3=>cQ st'' st3/\Em rk a b n x) st'':=by
    unfold AK
    split
    ·exact m9 hC (q1.k.trans hk) ma mb fB ua ub q3 q4 λx st3 k h=>⟨k,h⟩
    ·exact m9 hC (q1.k.trans hk) ma mb fB ua ub q3 q4 λx st3 k h=>⟨k,h⟩
   refine P7 key λx st3 ⟨k,h⟩=>?_
   cases x with
   | done c=>exact ⟨q1.trans k,h⟩
   | yield c=>exact ⟨q1.trans k,h⟩
  case gpost =>
   rintro ⟨o,na,nb,out,g,ac,bc⟩ st'' ⟨q1,hR⟩
   dsimp only at hR |-
   rcases hR with ⟨r,rfl,hr⟩ | ⟨rfl,hL3,hn3⟩
   ·exact Pb (h1 r _ _ q1 hr)
   ·exact O9 (fD (Pb (h2 _ _ _ _ _ (q1.min _) hL3 hn3)))
theorem qM {st:SortSt} (hC:gT prog w A s κ rk L) (hk:kindOf st=κ) (ma:∀ (i:Nat) (p:Keyed),a[i]?=some p->p∈L) (mb:∀ (i:Nat) (p:Keyed),b[i]?=some p->p∈L) (ua:Up rk a) (ub:Up rk b) (na1:1<=a.size) (nb1:1<=b.size)
 (h0:∀ p q,a[0]?=some p->b[0]?=some q->rk q<=rk p) (hl:∀ (j:Nat) (p q:Keyed),a[a.size - 1]?=some p->b[j]?=some q->rk q<=rk p) (h:∀ r st',Res rk a b r->cQ st st'->Q r st'):wpS (model prog w) A E s (kR a b) Q st:=by
 obtain ⟨p0,ep0⟩:=some_at (xs:=a) (i:=0) na1
 have firstB:∀ {out:Array Keyed} {na nb:Nat},WH rk a b out na nb->nb=1->Res rk a b (Ek a b out na nb):=λhw e=>hw.first ua e λj p q e1 e2=>P4 (h0 p0 q ep0 e2) (ua 0 j p0 p (PY _) ep0 e1)
 obtain ⟨pl,epl⟩:=some_at (xs:=a) (i:=a.size - 1) (by lia)
 have W0:WH rk a b #[pl] (a.size - 1) b.size:=by
  have z:WH rk a b #[] a.size b.size:=⟨Pa _,Pa _,by simp,SW,by simp,by simp⟩
  exact z.fQ ua na1 epl λj q _ e=>hl j pl q epl e
 rw [qL]
 refine O9 (RO (Qz ⟨rfl,?_⟩))
 refine O9 (aV epl ?_)
 by_cases e1:a.size - 1=0
 ·rw [if_pos (by simpa using e1)]
  exact Pb (h _ _ (W0.je ub e1) (.refl _))
 rw [if_neg (by simpa using e1)]
 by_cases e2:b.size=1
 ·rw [if_pos (by simpa using e2)]
  exact Pb (h _ _ (firstB W0 e2) (.refl _))
 rw [if_neg (by simpa using e2)]
 refine O9 (QX ?_)
 refine O9 (P7 (Qy (I:=λx c st'=>cQ st st'/\c.1=none/\gB rk a b c.2.2.2.1 c.2.1 c.2.2.1/\x+c.2.1+c.2.2.1<a.size+b.size) (Q:=λc st'=>cQ st st'/\∃ r,c.1=some r/\Res rk a b r) ?step ?fin ⟨.refl _,rfl,⟨W0,by dsimp only; lia,by dsimp only; lia⟩,by dsimp only; lia⟩) ?post)
 case fin =>
  rintro c st' ⟨hK,hc,hL,hx⟩
  have h1:=hL.la
  lia
 case post =>
  rintro c st' ⟨hK,r,hc,hr⟩
  rw [hc]
  exact Pb (h r st' hr hK)
 case step =>
  rintro x c st1 _ hx ⟨hK,_,hL,hn⟩
  have l1:=hL.la
  have l2:=hL.lb
  exact tw (n:=a.size+b.size - x - 2) hC (hK.k.trans hk) ma mb firstB ua ub hL (by lia) (by lia) (λr z st' k hr=>⟨hK.trans k,r,rfl,hr⟩) λna nb out g st' k q1 q2=>⟨hK.trans k,rfl,q1,by have:=q1.la; dsimp only; lia⟩
def Seg (rk:Keyed->Int) (xs:Array Keyed) (lo hi:Nat):Prop:=∀ i j,lo<=i->i<=j->j<hi->R rk xs i<=R rk xs j
def Gn (rk:Keyed->Int) (xs:Array Keyed) (lo hi:Nat):Prop:=∀ i j,lo<=i->i<=j->j<hi->R rk xs j<=R rk xs i
structure Bs (κ:SortKind) (L:List Keyed) (st:SortSt):Prop where
 perm:(arrOf st).toList.Perm L
 kind:kindOf st=κ
 failed:failedOf st=none
structure Mv (st st':SortSt) (lo hi:Nat):Prop where
 out:∀ i,i<lo\/hi<=i->(arrOf st')[i]?=(arrOf st)[i]?
 pend:pendingOf st'=pendingOf st
section
variable {st st' st'':SortSt} {lo hi:Nat}
theorem Bs.size (h:Bs κ L st):(arrOf st).size=L.length:=by simpa using h.perm.length_eq
theorem Bs.at (h:Bs κ L st) (hi:i<L.length):∃ p,(arrOf st)[i]?=some p/\p∈L:=by
 have hs:=h.size
 refine ⟨(arrOf st)[i]'(by lia),PR _,h.perm.mem_iff.mp ?_⟩
 rw [U6]; exact Vr _
theorem Bs.arr (h:Bs κ L st) (hp:xs.toList.Perm (arrOf st).toList):Bs κ L (setArr st xs):=⟨hp.trans h.perm,h.kind,h.failed⟩
theorem Mv.refl:Mv st st lo hi:=⟨λ_ _=>rfl,rfl⟩
theorem Mv.trans (a:Mv st st' lo hi) (b:Mv st' st'' lo hi):Mv st st'' lo hi:=⟨λi h=>(b.out i h).trans (a.out i h),b.pend.trans a.pend⟩
theorem AM (hj:j<=xs.size) (k):R rk (mirror xs i j ((j - i) / 2)) k=if i<=k/\k<j then R rk xs (i+j - 1 - k) else R rk xs k:=by
 have e:=getElem?_mirror_all (i:=i) hj k
 by_cases h:i<=k/\k<j
 ·rw [if_pos h] at e |-; exact ck e
 ·rw [if_neg h] at e |-; exact ck e
theorem kT (hj:j<=(arrOf st).size) (h1:lo<=i) (h2:j<=hi):Mv st (setArr st (mirror (arrOf st) i j ((j - i) / 2))) lo hi :=
 ⟨λk hk=>by
   have e:=getElem?_mirror_all (i:=i) hj k
   rw [if_neg (by lia)] at e; exact e,rfl⟩
theorem En (i) (xs):Seg rk xs i (i+1):=λa b h1 h2 h3=>by
 have:a=b:=by lia
 subst this; exact QH _
theorem AN (h:Seg rk xs lo (lo+n)) (hn:1<=n) (hl:¬ R rk xs (lo+n)<R rk xs (lo+n - 1)):Seg rk xs lo (lo+(n+1)):=λa b h1 h2 h3=>by
 by_cases hb:b<lo+n
 ·exact h a b h1 h2 hb
 ·have e:b=lo+n:=by lia
  subst e
  by_cases ha:a=lo+n
  ·subst ha; exact QH _
  ·exact P4 (h a (lo+n - 1) h1 (by lia) (by lia)) (Int.not_lt.mp hl)
theorem fR (h:Gn rk xs lo (lo+n)) (hn:1<=n) (hl:R rk xs (lo+n)<=R rk xs (lo+n - 1)):Gn rk xs lo (lo+(n+1)):=λa b h1 h2 h3=>by
 by_cases hb:b<lo+n
 ·exact h a b h1 h2 hb
 ·have e:b=lo+n:=by lia
  subst e
  by_cases ha:a=lo+n
  ·subst ha; exact QH _
  ·exact P4 hl (h a (lo+n - 1) h1 (by lia) (by lia))
end
section
variable {st:SortSt} {lo nrem:Nat}
theorem kU (hC:gT prog w A s κ rk L) (hB:Bs κ L st) (hi:i<L.length) (hj:j<L.length) (h:Q (some (decide (R rk (arrOf st) i<R rk (arrOf st) j))) st):wpS (model prog w) A E s (ltAt' i j) Q st:=by
 obtain ⟨p,ep,hp⟩:=hB.at hi
 obtain ⟨q,eq,hq⟩:=hB.at hj
 exact xy hC hB.kind ep eq hp hq h
theorem eE (h:Q () (setArr st (mirror (arrOf st) i j ((j - i) / 2)))):wpS (model prog w) A E s (reverseSlice' i j) Q st :=
 Q8 (f:=λs=>setArr s (mirror (arrOf s) i j ((j - i) / 2))) h
noncomputable abbrev LR:=Option (Option Nat)×Nat
noncomputable def asc (lo a nrem:Nat):StateT SortSt Sem LR :=
 forIn [a:nrem] ((none,a):LR) λ_ c=>ltAt' (lo+c.2) (lo+c.2 - 1) >>= λx=>match x with
  | some smaller=>if smaller=true then pure (QU (none,c.2)) else pure (Ql (none,c.2+1))
  | _=>pure (QU (some none,c.2))
theorem vz (hC:gT prog w A s κ rk L) (hB:Bs κ L st) (hn:lo+nrem<=L.length) (h1:1<=a) (h2:a<=nrem) (hs:Seg rk (arrOf st) lo (lo+a))
 (h:∀ n,a<=n->n<=nrem->Seg rk (arrOf st) lo (lo+n)->(n=nrem\/R rk (arrOf st) (lo+n)<R rk (arrOf st) (lo+n - 1))->Q (none,n) st):wpS (model prog w) A E s (asc lo a nrem) Q st:=by
 unfold asc
 refine Qy (I:=λx c st'=>st'=st/\c=(none,x)/\Seg rk (arrOf st) lo (lo+x)) ?step ?fin ⟨rfl,rfl,hs⟩
 case fin =>
  rintro c st' ⟨rfl,rfl,hs'⟩
  rw [show max a nrem=nrem by lia] at hs' |-
  exact h nrem h2 (Pa _) hs' (.inl rfl)
 case step =>
  rintro x c st' hax hxn ⟨rfl,rfl,hs'⟩
  refine O9 (kU hC hB (by dsimp only; lia) (by dsimp only; lia) ?_)
  dsimp only
  by_cases hl:R rk (arrOf st') (lo+x)<R rk (arrOf st') (lo+x - 1)
  ·rw [decide_eq_true hl,if_pos rfl]
   exact Pb (h x hax (by lia) hs' (.inr hl))
  ·rw [decide_eq_false hl,if_neg Pn]
   exact Pb ⟨rfl,rfl,AN hs' (by lia) hl⟩
noncomputable abbrev LS:=Option (Option Nat)×Nat×Nat
noncomputable def LU (lo n nrem:Nat):StateT SortSt Sem LS :=
 forIn [n:nrem] ((none,n,0):LS) λ_ c=>ltAt' (lo+c.2.1) (lo+c.2.1 - 1) >>= λx=>match x with
  | some smaller=>if smaller=true then
   (if c.2.2>0 then reverseSlice' (lo+c.2.1 - (c.2.2+1)) (lo+c.2.1) >>= λ_=>pure (Ql (none,c.2.1+1,0)) else pure (Ql (none,c.2.1+1,0)))
   else ltAt' (lo+c.2.1 - 1) (lo+c.2.1) >>= λy=>match y with
    | some larger=>if larger=true then pure (QU (none,c.2.1,c.2.2)) else pure (Ql (none,c.2.1+1,c.2.2+1))
    | _=>pure (QU (some none,c.2.1,c.2.2))
  | _=>pure (QU (some none,c.2.1,c.2.2))
theorem iF (hj:j<=xs.size) (he:∀ k,i<=k->k<j->R rk xs k=R rk xs (j - 1)) (k):R rk (mirror xs i j ((j - i) / 2)) k=R rk xs k:=by
 rw [AM hj]
 split
 ·rw [he _ (by lia) (by lia),he k (by lia) (by lia)]
 ·rfl
theorem Eo (hC:gT prog w A s κ rk L) (hB:Bs κ L st) (hn:lo+nrem<=L.length) (h1:1<=n) (h2:n<=nrem) (hs:Gn rk (arrOf st) lo (lo+n))
 (h:∀ m neq st',Bs κ L st'->Mv st st' lo (lo+nrem)->n<=m->m<=nrem->Gn rk (arrOf st') lo (lo+m)->neq+1<=m->(∀ i,lo+m - (neq+1)<=i->i<lo+m->R rk (arrOf st') i=R rk (arrOf st') (lo+m - 1))->Q (none,m,neq) st') :
 wpS (model prog w) A E s (LU lo n nrem) Q st:=by
 unfold LU
 refine Qy (I:=λx c st'=>∃ neq,c=(none,x,neq)/\Bs κ L st'/\Mv st st' lo (lo+nrem)/\Gn rk (arrOf st') lo (lo+x)/\neq+1<=x/\(∀ i,lo+x - (neq+1)<=i->i<lo+x->R rk (arrOf st') i=R rk (arrOf st') (lo+x - 1))) ?step ?fin
  ⟨0,rfl,hB,.refl,hs,h1,λi a1 a2=>by congr 1; lia⟩
 case fin =>
  rintro c st' ⟨neq,rfl,jv,hM',hs',hq,he⟩
  rw [show max n nrem=nrem by lia] at hs' hq he |-
  exact h nrem neq st' jv hM' h2 (Pa _) hs' hq he
 case step =>
  rintro x c st' hax hxn ⟨neq,rfl,jv,hM',hs',hq,he⟩
  have hsz:=jv.size
  refine O9 (kU hC jv (by dsimp only; lia) (by dsimp only; lia) ?_)
  dsimp only
  by_cases hl:R rk (arrOf st') (lo+x)<R rk (arrOf st') (lo+x - 1)
  ·rw [decide_eq_true hl,if_pos rfl]
   by_cases hq0:neq>0
   ·rw [if_pos hq0]
    have key:=iF (rk:=rk) (xs:=arrOf st') (i:=lo+x - (neq+1)) (j:=lo+x) (by lia) he
    refine O9 (eE (Pb ⟨0,rfl,jv.arr (Sm.mp (To _ _ _ _)),hM'.trans (kT (by lia) (by lia) (by lia)),?_,by lia,λi a1 a2=>by congr 1; lia⟩))
    refine fR (λa b z1 z2 z3=>?_) (by lia) ?_
    ·show R rk (mirror _ _ _ _) b<=R rk (mirror _ _ _ _) a
     rw [key,key]; exact hs' a b z1 z2 z3
    ·show R rk (mirror _ _ _ _) _<=R rk (mirror _ _ _ _) _
     rw [key,key]; lia
   ·rw [if_neg hq0]
    exact Pb ⟨0,rfl,jv,hM',fR hs' (by lia) (by lia),by lia,λi a1 a2=>by congr 1; lia⟩
  ·rw [decide_eq_false hl,if_neg Pn]
   refine O9 (kU hC jv (by lia) (by lia) ?_)
   dsimp only
   by_cases hg:R rk (arrOf st') (lo+x - 1)<R rk (arrOf st') (lo+x)
   ·rw [decide_eq_true hg,if_pos rfl]
    exact Pb (h x neq st' jv hM' hax (by lia) hs' hq he)
   ·rw [decide_eq_false hg,if_neg Pn]
    have heq:R rk (arrOf st') (lo+x)=R rk (arrOf st') (lo+x - 1):=by lia
    refine Pb ⟨neq+1,rfl,jv,hM',fR hs' (by lia) (by lia),by lia,λi a1 a2=>?_⟩
    rw [show lo+(x+1) - 1=lo+x by lia]
    by_cases hi:i=lo+x
    ·rw [hi]
    ·rw [heq]; exact he i (by lia) (by lia)
noncomputable def countRun':Nat->Nat->StateT SortSt Sem (Option Nat):=sortPriv% PySem.Builtin.countRun
theorem iG {Q:Option Nat->SortSt->Prop} (hC:gT prog w A s κ rk L) (hB:Bs κ L st) (hn:lo+nrem<=L.length) (h1:1<=n) (h2:n<=nrem) (hs:Gn rk (arrOf st) lo (lo+n))
 (h:∀ m st',Bs κ L st'->Mv st st' lo (lo+nrem)->1<=m->m<=nrem->Seg rk (arrOf st') lo (lo+m)->Q (some m) st') :
 wpS (model prog w) A E s (asc lo n nrem) (λc st'=>c.1=none/\Q (some c.2) st') (setArr st (mirror (arrOf st) lo (lo+n) ((lo+n - lo) / 2))):=by
 have hsz:=hB.size
 have jv:=hB.arr (Sm.mp (To (arrOf st) lo (lo+n) ((lo+n - lo) / 2)))
 refine vz hC jv hn h1 h2 (λa b z1 z2 z3=>?_) λm m1 m2 ms _=>⟨rfl,h m _ jv (kT (by lia) (Pa _) (by lia)) (by lia) m2 ms⟩
 show R rk (mirror _ _ _ _) a<=R rk (mirror _ _ _ _) b
 rw [AM (by lia),AM (by lia),if_pos (by lia),if_pos (by lia)]
 exact hs _ _ (by lia) (by lia) (by lia)
local macro_rules | `(tactic| walk_at "dl countRun")=>do
 let i:=R6 (RS `PySem.Builtin.List.W1All `PySem.Builtin.countRun)
 `(tactic| delta $i)
theorem wpS_countRun (hC:gT prog w A s κ rk L) (hB:Bs κ L st) (hn:lo+nrem<=L.length) (h1:1<=nrem)
 (h:∀ m st',Bs κ L st'->Mv st st' lo (lo+nrem)->1<=m->m<=nrem->Seg rk (arrOf st') lo (lo+m)->Q (some m) st'):wpS (model prog w) A E s (countRun' lo nrem) Q st:=by
 unfold countRun'
 walk_at "dl countRun"
 dsimp only
 have hsz:=hB.size
 refine O9 (show wpS _ _ _ _ (asc lo 1 nrem) _ _ from vz hC hB hn (Pa _) h1 (En lo _) λn n1 n2 ns nor=>?_)
 dsimp only
 by_cases hnn:n=nrem
 ·rw [if_pos (by simpa using hnn)]
  exact Pb (h n st hB .refl n1 n2 ns)
 rw [if_neg (by simpa using hnn)]
 have hlt:=nor.resolve_left hnn
 have rest:∀ (st1:SortSt),Bs κ L st1->Mv st st1 lo (lo+nrem)->Gn rk (arrOf st1) lo (lo+(n+1))->wpS (model prog w) A E s (LU lo (n+1) nrem) (λc st2=>Bs κ L st2/\Mv st st2 lo (lo+nrem)/\c.1=none/\n+1<=c.2.1/\c.2.1<=nrem/\Gn rk (arrOf st2) lo (lo+c.2.1)/\c.2.2+1<=c.2.1/\(∀ i,lo+c.2.1 - (c.2.2+1)<=i->i<lo+c.2.1->R rk (arrOf st2) i=R rk (arrOf st2) (lo+c.2.1 - 1))) st1 :=
  λst1 hB1 hM1 hs1=>Eo hC hB1 hn (by lia) (by lia) hs1 λm neq st2 a1 a2 a3 a4 a5 a6 a7=>⟨a1,hM1.trans a2,rfl,a3,a4,a5,a6,a7⟩
 by_cases hgt:n>1
 ·rw [if_pos hgt]
  refine O9 (kU hC hB (by lia) (by lia) ?_)
  dsimp only
  by_cases hrose:R rk (arrOf st) lo<R rk (arrOf st) (lo+n - 1)
  ·rw [decide_eq_true hrose,if_pos rfl]
   exact Pb (h n st hB .refl n1 n2 ns)
  ·rw [decide_eq_false hrose,if_neg Pn]
   have hall:∀ k,lo<=k->k<lo+n->R rk (arrOf st) k=R rk (arrOf st) (lo+n - 1):=λk z1 z2=>by
    have a1:=ns lo k (Pa _) z1 z2
    have a2:=ns k (lo+n - 1) z1 (by lia) (by lia)
    lia
   have key:=iF (rk:=rk) (xs:=arrOf st) (i:=lo) (j:=lo+n) (by lia) hall
   refine O9 (eE ?_)
   refine O9 (RO (Qz ⟨rfl,?_⟩))
   refine O9 (P7 (show wpS _ _ _ _ (LU lo (n+1) nrem) _ _ from rest _ (hB.arr (Sm.mp (To _ _ _ _))) (kT (by lia) (Pa _) (by lia)) (fR (λa b z1 z2 z3=>?_) (by lia) ?_)) λc st2 hc=>?_)
   ·show R rk (mirror _ _ _ _) b<=R rk (mirror _ _ _ _) a
    rw [key,key,hall b (by lia) z3,hall a z1 (by lia)]; exact QH _
   ·show R rk (mirror _ _ _ _) _<=R rk (mirror _ _ _ _) _
    rw [key,key]; lia
   ·obtain ⟨r,m,neq⟩:=c
    obtain ⟨b1,b2,b3,b4,b5,b6,b7,b8⟩:=hc
    dsimp only at b3 b4 b5 b6 b7 b8 |-
    rw [b3]
    dsimp only
    by_cases hq0:neq>0
    ·rw [if_pos hq0]
     have hsz2:=b1.size
     have key2:=iF (rk:=rk) (xs:=arrOf st2) (i:=lo+m - (neq+1)) (j:=lo+m) (by lia) b8
     refine O9 (eE (O9 (eE (O9 (P7 (show wpS _ _ _ _ (asc lo m nrem) _ _ from iG (Q:=Q) hC (b1.arr (Sm.mp (To _ _ _ _))) hn (by lia) b5 (λa b z1 z2 z3=>?_) λk st3 c1 c2 c3 c4 c5=>h k st3 c1 ((b2.trans (kT (by lia) (by lia) (by lia))).trans c2) c3 c4 c5) λc st4 hc=>?_)))))
     ·show R rk (mirror _ _ _ _) b<=R rk (mirror _ _ _ _) a
      rw [key2,key2]; exact b6 a b z1 z2 z3
     ·obtain ⟨r,k⟩:=c
      obtain ⟨e,hQ⟩:=hc
      dsimp only at e hQ |-
      rw [e]
      exact Pb hQ
    ·rw [if_neg hq0]
     refine O9 (eE (O9 (P7 (show wpS _ _ _ _ (asc lo m nrem) _ _ from iG (Q:=Q) hC b1 hn (by lia) b5 b6 λk st3 c1 c2 c3 c4 c5=>h k st3 c1 (b2.trans c2) c3 c4 c5) λc st4 hc=>?_)))
     obtain ⟨r,k⟩:=c
     obtain ⟨e,hQ⟩:=hc
     dsimp only at e hQ |-
     rw [e]
     exact Pb hQ
 ·rw [if_neg hgt]
  have e1:n=1:=by lia
  subst e1
  refine O9 (RO (Qz ⟨rfl,?_⟩))
  refine O9 (P7 (show wpS _ _ _ _ (LU lo (1+1) nrem) _ _ from rest st hB .refl (fR (λa b z1 z2 z3=>?_) (Pa _) (Rr hlt))) λc st2 hc=>?_)
  ·have:a=b:=by lia
   subst this; exact QH _
  ·obtain ⟨r,m,neq⟩:=c
   obtain ⟨b1,b2,b3,b4,b5,b6,b7,b8⟩:=hc
   dsimp only at b3 b4 b5 b6 b7 b8 |-
   rw [b3]
   dsimp only
   by_cases hq0:neq>0
   ·rw [if_pos hq0]
    have hsz2:=b1.size
    have key2:=iF (rk:=rk) (xs:=arrOf st2) (i:=lo+m - (neq+1)) (j:=lo+m) (by lia) b8
    refine O9 (eE (O9 (eE (O9 (P7 (show wpS _ _ _ _ (asc lo m nrem) _ _ from iG (Q:=Q) hC (b1.arr (Sm.mp (To _ _ _ _))) hn (by lia) b5 (λa b z1 z2 z3=>?_) λk st3 c1 c2 c3 c4 c5=>h k st3 c1 ((b2.trans (kT (by lia) (by lia) (by lia))).trans c2) c3 c4 c5) λc st4 hc=>?_)))))
    ·show R rk (mirror _ _ _ _) b<=R rk (mirror _ _ _ _) a
     rw [key2,key2]; exact b6 a b z1 z2 z3
    ·obtain ⟨r,k⟩:=c
     obtain ⟨e,hQ⟩:=hc
     dsimp only at e hQ |-
     rw [e]
     exact Pb hQ
   ·rw [if_neg hq0]
    refine O9 (eE (O9 (P7 (show wpS _ _ _ _ (asc lo m nrem) _ _ from iG (Q:=Q) hC b1 hn (by lia) b5 b6 λk st3 c1 c2 c3 c4 c5=>h k st3 c1 (b2.trans c2) c3 c4 c5) λc st4 hc=>?_)))
    obtain ⟨r,k⟩:=c
    obtain ⟨e,hQ⟩:=hc
    dsimp only at e hQ |-
    rw [e]
    exact Pb hQ
end
section
variable {st:SortSt} {lo:Nat}
theorem Gp (hs:src<xs.size) (hd:d<=src) (k):R rk (bubble xs src d) k=if k=src - d then R rk xs src else if src - d<k/\k<=src then R rk xs (k - 1) else R rk xs k:=by
 have e:=getElem?_bubble hs d hd k
 by_cases h1:k=src - d
 ·rw [if_pos h1] at e |-; exact ck e
 ·rw [if_neg h1] at e |-
  by_cases h2:src - d<k/\k<=src
  ·rw [if_pos h2] at e |-; exact ck e
  ·rw [if_neg h2] at e |-; exact ck e
theorem AO (h:Q () (setArr st (bubble (arrOf st) i (i - j)))):wpS (model prog w) A E s (moveDown' i j) Q st :=
 Q8 (f:=λs=>setArr s (bubble (arrOf s) i (i - j))) h
noncomputable def binarySort':Nat->Nat->Nat->StateT SortSt Sem Bool:=sortPriv% PySem.Builtin.binarySort
local macro_rules | `(tactic| walk_at "dl binarySort")=>do
 let i:=R6 (RS `PySem.Builtin.List.W1All `PySem.Builtin.binarySort)
 `(tactic| delta $i)
theorem wpS_binarySort (hC:gT prog w A s κ rk L) (hB:Bs κ L st) (hn:lo+n<=L.length) (hok:ok<=n) (hs:Seg rk (arrOf st) lo (lo+ok))
 (h:∀ st',Bs κ L st'->Mv st st' lo (lo+n)->Seg rk (arrOf st') lo (lo+n)->Q true st'):wpS (model prog w) A E s (binarySort' lo n ok) Q st:=by
 unfold binarySort'
 walk_at "dl binarySort"
 dsimp only
 refine O9 (P7 (Qy (I:=λk c st'=>c.1=none/\Bs κ L st'/\Mv st st' lo (lo+n)/\Seg rk (arrOf st') lo (lo+min k n)) (Q:=λc st'=>c.1=none/\Bs κ L st'/\Mv st st' lo (lo+n)/\Seg rk (arrOf st') lo (lo+n)) ?step ?fin ?init) ?post)
 case post =>
  rintro ⟨c,u⟩ st' ⟨hc,jv,hM',hs'⟩
  dsimp only at hc |-
  rw [hc]
  exact Pb (h st' jv hM' hs')
 case init =>
  refine ⟨rfl,hB,.refl,λa b z1 z2 z3=>?_⟩
  by_cases h1:ok=0
  ·have:a=b:=by lia
   subst this; exact QH _
  ·exact hs a b z1 z2 (by lia)
 case fin =>
  rintro c st' ⟨hc,jv,hM',hs'⟩
  rw [show min (max (max ok 1) n) n=n by lia] at hs'
  exact ⟨hc,jv,hM',hs'⟩
 case step =>
  rintro k ⟨c,u⟩ st' hak hkn ⟨rfl,jv,hM',hs'⟩
  rw [show min k n=k by lia] at hs'
  have hsz:=jv.size
  refine O9 (P7 (Qy (I:=λx c st2=>st2=st'/\∃ l r,c=(none,l,r)/\l<=r/\r<=k/\r - l<=k - x/\(∀ i,i<l->R rk (arrOf st') (lo+i)<=R rk (arrOf st') (lo+k))/\(∀ i,r<=i->i<k->R rk (arrOf st') (lo+k)<R rk (arrOf st') (lo+i)))
   (Q:=λc st2=>st2=st'/\∃ l r,c=(none,l,r)/\l<=k/\(∀ i,i<l->R rk (arrOf st') (lo+i)<=R rk (arrOf st') (lo+k))/\(∀ i,l<=i->i<k->R rk (arrOf st') (lo+k)<R rk (arrOf st') (lo+i))) ?istep ?ifin ⟨rfl,0,k,rfl,by lia,by lia,by lia,λi hi=>by lia,λi h1 h2=>by lia⟩) ?ipost)
  case ifin =>
   rintro c st2 ⟨rfl,l,r,rfl,a1,a2,a3,a4,a5⟩
   have:l=r:=by lia
   subst this
   exact ⟨rfl,l,l,rfl,a2,a4,a5⟩
  case istep =>
   rintro x c st2 _ hx ⟨rfl,l,r,rfl,a1,a2,a3,a4,a5⟩
   dsimp only
   by_cases hge:l>=r
   ·rw [if_pos hge]
    have:l=r:=by lia
    subst this
    exact Pb ⟨rfl,l,l,rfl,a2,a4,a5⟩
   ·rw [if_neg hge]
    refine O9 (kU hC jv (by lia) (by lia) ?_)
    dsimp only
    by_cases hl:R rk (arrOf st2) (lo+k)<R rk (arrOf st2) (lo+(l+r) / 2)
    ·rw [decide_eq_true hl,if_pos rfl]
     refine Pb ⟨rfl,l,(l+r) / 2,rfl,by lia,by lia,by lia,a4,λi h1 h2=>?_⟩
     exact Int.lt_of_lt_of_le hl (hs' _ _ (by lia) (by lia) (by lia))
    ·rw [decide_eq_false hl,if_neg Pn]
     refine Pb ⟨rfl,(l+r) / 2+1,r,rfl,by lia,by lia,by lia,λi h1=>?_,a5⟩
     exact P4 (hs' (lo+i) (lo+(l+r) / 2) (by lia) (by lia) (by lia)) (Int.not_lt.mp hl)
  case ipost =>
   rintro c st2 ⟨rfl,l,r,rfl,hlk,a4,a5⟩
   dsimp only
   have e1:lo+k - (lo+l)=k - l:=by lia
   refine O9 (AO (Pb ⟨rfl,jv.arr (Sm.mp (bubble_perm _ _ _)),?_,?_⟩))
   ·refine hM'.trans ⟨λi hi=>?_,rfl⟩
    have e:=getElem?_bubble (xs:=arrOf st2) (src:=lo+k) (by lia) (lo+k - (lo+l)) (by lia) i
    rw [if_neg (by lia),if_neg (by lia)] at e
    exact e
   ·rw [show min (k+1) n=k+1 by lia]
    intro i j hi hij hj
    show R rk (bubble (arrOf st2) (lo+k) (lo+k - (lo+l))) i<=R rk (bubble (arrOf st2) (lo+k) (lo+k - (lo+l))) j
    rw [Gp (by lia) (by lia),Gp (by lia) (by lia),e1]
    have sub:∀ i,lo<=i->lo+(i - lo)=i:=λi hi=>by lia
    have f4:∀ i,lo<=i->i<lo+l->R rk (arrOf st2) i<=R rk (arrOf st2) (lo+k):=λi h1 h2=>by have:=a4 (i - lo) (by lia); rwa [sub i h1] at this
    have f5:∀ i,lo+l<=i->i<lo+k->R rk (arrOf st2) (lo+k)<R rk (arrOf st2) i:=λi h1 h2=>by have:=a5 (i - lo) (by lia) (by lia); rwa [sub i (by lia)] at this
    repeat' split
    all_goals first
     | (exfalso; lia)
     | exact QH _
     | exact f4 _ (by lia) (by lia)
     | exact Rr (f5 _ (by lia) (by lia))
     | exact hs' _ _ (by lia) (by lia) (by lia)
theorem nc:∀ (l:List Keyed) (k sa:Nat) (A:Array Keyed),sa+k+l.length<=A.size->((l.zipIdx k).foldl (λa (x:Keyed×Nat)=>a.setIfInBounds (sa+x.2) x.1) A).size=A.size /\
 ∀ i:Nat,((l.zipIdx k).foldl (λa (x:Keyed×Nat)=>a.setIfInBounds (sa+x.2) x.1) A)[i]?=if sa+k<=i/\i<sa+k+l.length then l[i - (sa+k)]? else A[i]?
 | [],k,sa,A,h=>⟨rfl,λi=>by rw [if_neg (by simp only [Rg]; lia)]; rfl⟩
 | x::l,k,sa,A,h=>by
  rw [Qg] at h
  obtain ⟨h1,h2⟩:=nc l (k+1) sa (A.setIfInBounds (sa+k) x) (by rw [Array.size_setIfInBounds]; lia)
  rw [Vt,QK]
  refine ⟨by rw [h1,Array.size_setIfInBounds],λi=>?_⟩
  rw [h2 i,Qg]
  by_cases c1:sa+(k+1)<=i/\i<sa+(k+1)+l.length
  ·rw [if_pos c1,if_pos (by lia),show i - (sa+k)=i - (sa+(k+1))+1 by lia,List.getElem?_cons_succ]
  ·rw [if_neg c1]
   by_cases c2:i=sa+k
   ·subst c2
    rw [if_pos (by lia),Nat.sub_self,List.getElem?_cons_zero,Array.getElem?_setIfInBounds_self_of_lt (by lia)]
   ·rw [if_neg (by lia),Array.getElem?_setIfInBounds_ne (by lia)]
end
noncomputable def gF:Nat->StateT SortSt Sem Bool:=sortPriv% PySem.Builtin.mergeAt
local macro_rules | `(tactic| walk_at "dl mergeAt")=>do
 let i:=R6 (RS `PySem.Builtin.List.W1All `PySem.Builtin.mergeAt)
 `(tactic| delta $i)
section
variable {st:SortSt}
theorem Ep (h:Q ⟨⟩ st1):wpS M A E s (set st1:StateT SortSt Sem PUnit) Q st:=by
 unfold wpS; rw [StateT.run_set]; exact O8 ⟨rfl,h⟩
theorem xC (hC:gT prog w A s κ rk L) (hk:kindOf st=κ) (hkey:key∈L) (mx:∀ (i:Nat) (p:Keyed),xs[i]?=some p->p∈L) (hn:base+n<=xs.size) (us:Seg rk xs base (base+n)) (hh:hint<n)
 (h:∀ k,k<=n->(∀ i,base<=i->i<base+k->R rk xs i<=rk key)->(∀ i,base+k<=i->i<base+n->rk key<R rk xs i)->Q (some k) st):wpS (model prog w) A E s (cO false key xs base n hint) Q st:=by
 obtain ⟨k,h1,h2⟩:=kP (λi=>R rk xs (base+i)) (rk key) n λi j hij hj=>us _ _ (by lia) (by lia) (by lia)
 refine fC hC hk hkey (λi hi=>⟨xs[base+i]'(by lia),PR _,mx _ _ (PR _)⟩) (λi hi=>by simp only [Qj,if_false]; exact h2 i hi) h1 hh (h k h1 (λi hi hk=>?_) λi hi hk=>?_)
 ·have:=(h2 (i - base) (by lia)).mpr (by lia)
  rwa [show base+(i - base)=i by lia] at this
 ·have:=mt (h2 (i - base) (by lia)).mp (by lia)
  rw [show base+(i - base)=i by lia] at this
  lia
theorem xD (hC:gT prog w A s κ rk L) (hk:kindOf st=κ) (hkey:key∈L) (mx:∀ (i:Nat) (p:Keyed),xs[i]?=some p->p∈L) (hn:base+n<=xs.size) (us:Seg rk xs base (base+n)) (hh:hint<n)
 (h:∀ k,k<=n->(∀ i,base<=i->i<base+k->R rk xs i<rk key)->(∀ i,base+k<=i->i<base+n->rk key<=R rk xs i)->Q (some k) st):wpS (model prog w) A E s (cO true key xs base n hint) Q st:=by
 obtain ⟨k,h1,h2⟩:=kQ (λi=>R rk xs (base+i)) (rk key) n λi j hij hj=>us _ _ (by lia) (by lia) (by lia)
 refine fC hC hk hkey (λi hi=>⟨xs[base+i]'(by lia),PR _,mx _ _ (PR _)⟩) (λi hi=>by simp only [if_true]; exact h2 i hi) h1 hh (h k h1 (λi hi hk=>?_) λi hi hk=>?_)
 ·have:=(h2 (i - base) (by lia)).mpr (by lia)
  rwa [show base+(i - base)=i by lia] at this
 ·have:=mt (h2 (i - base) (by lia)).mp (by lia)
  rw [show base+(i - base)=i by lia] at this
  lia
theorem eF {xs:Array Keyed} (h:(xs.extract i j)[m]?=some p):xs[i+m]?=some p/\i+m<j:=by
 rw [TY] at h
 split at h
 ·exact ⟨h,by lia⟩
 ·cases h
theorem vA {lo hi i j:Nat} (h:Seg rk xs lo hi) (h1:lo<=i) (h2:j<=hi):Up rk (xs.extract i j):=λa b p q hab e1 e2=>by
 obtain ⟨f1,g1⟩:=eF e1
 obtain ⟨f2,g2⟩:=eF e2
 have:=h (i+a) (i+b) (by lia) (by lia) (by lia)
 rwa [dO f1,dO f2] at this
theorem qN (hC:gT prog w A s κ rk L) (hB:Bs κ L st) (p1:(pendingOf st)[i]?=some (sa,na,pw)) (p2:(pendingOf st)[i+1]?=some (sa+na,nb,pw2)) (h1:1<=na) (h2:1<=nb) (hz:sa+na+nb<=L.length)
 (s1:Seg rk (arrOf st) sa (sa+na)) (s2:Seg rk (arrOf st) (sa+na) (sa+na+nb))
 (h:∀ st',Bs κ L st'->(∀ j,j<sa\/sa+na+nb<=j->(arrOf st')[j]?=(arrOf st)[j]?)->pendingOf st'=((pendingOf st).setIfInBounds i (sa,na+nb,pw)).eraseIdxIfInBounds (i+1)->Seg rk (arrOf st') sa (sa+na+nb)->Q true st') :
 wpS (model prog w) A E s (gF i) Q st:=by
 unfold gF
 walk_at "dl mergeAt"
 dsimp only
 refine O9 (QX ?_)
 rw [p1,p2]
 dsimp only
 have hsz:=hB.size
 have mL:∀ (i:Nat) (p:Keyed),(arrOf st)[i]?=some p->p∈L:=λi p e=>hB.perm.mem_iff.mp (by
  obtain ⟨h1,h2⟩:=Sn.mp e
  rw [<- h2,U6]; exact Vr _)
 refine O9 (Ep ?_)
 obtain ⟨key,ek,hkL⟩:=hB.at (i:=sa+na) (by lia)
 refine O9 (aV ek ?_)
 have rkey:R rk (arrOf st) (sa+na)=rk key:=dO ek
 refine O9 (xC hC hB.kind hkL mL (by show _<=(arrOf st).size; lia) s1 (by lia) λk k1 k2 k3=>?_)
 dsimp only
 by_cases e0:na - k=0
 ·rw [if_pos (by simpa using e0)]
  refine Pb (h _ ⟨hB.perm,hB.kind,hB.failed⟩ (λ_ _=>rfl) rfl λa b z1 z2 z3=>?_)
  by_cases hb:b<sa+na
  ·exact s1 a b z1 z2 hb
  ·by_cases ha:sa+na<=a
   ·exact s2 a b ha z2 z3
   ·refine P4 (k2 a z1 (by lia)) ?_
    rw [<- rkey]; exact s2 (sa+na) b (Pa _) (by lia) z3
 rw [if_neg (by simpa using e0)]
 obtain ⟨key2,ek2,hk2L⟩:=hB.at (i:=sa+k+(na - k) - 1) (by lia)
 have rkey2:R rk (arrOf st) (sa+na - 1)=rk key2:=by rw [<- dO (rk:=rk) ek2]; congr 1; lia
 refine O9 (aV ek2 ?_)
 refine O9 (xD hC (by exact hB.kind) hk2L mL (by show _<=(arrOf st).size; lia) s2 (by lia) λm m1 m2 m3=>?_)
 dsimp only
 by_cases e1:m=0
 ·exfalso
  have a1:=m3 (sa+na) (by lia) (by lia)
  have a2:=k3 (sa+na - 1) (by lia) (by lia)
  rw [rkey2] at a2; rw [rkey] at a1; lia
 rw [if_neg (by simpa using e1)]
 have mx:∀ (i:Nat) (p:Keyed),((arrOf st).extract (sa+k) (sa+na))[i]?=some p->p∈L:=λi p e=>mL _ p (eF e).1
 have my:∀ (i:Nat) (p:Keyed),((arrOf st).extract (sa+na) (sa+na+m))[i]?=some p->p∈L:=λi p e=>mL _ p (eF e).1
 have ux:Up rk ((arrOf st).extract (sa+k) (sa+na)):=vA s1 (by lia) (Pa _)
 have uy:Up rk ((arrOf st).extract (sa+na) (sa+na+m)):=vA s2 (Pa _) (by lia)
 have zx:((arrOf st).extract (sa+k) (sa+na)).size=na - k:=by rw [Array.size_extract]; lia
 have zy:((arrOf st).extract (sa+na) (sa+na+m)).size=m:=by rw [Array.size_extract]; lia
 have h0:∀ p q,((arrOf st).extract (sa+k) (sa+na))[0]?=some p->((arrOf st).extract (sa+na) (sa+na+m))[0]?=some q->rk q<=rk p:=λp q e2 e3=>by
  obtain ⟨f1,g1⟩:=eF e2
  obtain ⟨f2,g2⟩:=eF e3
  have a1:=k3 (sa+k+0) (by lia) (by lia)
  rw [dO f1] at a1
  have a2:rk q=rk key:=by rw [<- rkey,<- dO (rk:=rk) f2]; rfl
  lia
 have hl:∀ (j:Nat) (p q:Keyed),((arrOf st).extract (sa+k) (sa+na))[((arrOf st).extract (sa+k) (sa+na)).size - 1]?=some p->((arrOf st).extract (sa+na) (sa+na+m))[j]?=some q->rk q<=rk p:=λj p q e2 e3=>by
  rw [zx] at e2
  obtain ⟨f1,g1⟩:=eF e2
  obtain ⟨f2,g2⟩:=eF e3
  have a1:=m2 (sa+na+j) (by lia) (by lia)
  rw [dO f2] at a1
  have a2:rk p=rk key2:=by rw [<- rkey2,<- dO (rk:=rk) f1]; congr 1; lia
  lia
 have fin:∀ (r:Array Keyed) (st2:SortSt),Res rk ((arrOf st).extract (sa+k) (sa+na)) ((arrOf st).extract (sa+na) (sa+na+m)) r->kindOf st2=kindOf st->arrOf st2=arrOf st->pendingOf st2=((pendingOf st).setIfInBounds i (sa,na+nb,pw)).eraseIdxIfInBounds (i+1)->failedOf st2=failedOf st ->
  Q true (setArr st2 (SI (λa (x:Keyed×Nat)=>a.setIfInBounds (sa+k+x.2) x.1) (arrOf st2) r.toList.zipIdx)):=λr st2 hr e2 e3 e4 e5=>by
  have hlen:r.toList.length=na - k+m:=by
   have:=hr.1.length_eq
   simp only [P0,Qn,zx,zy] at this |-
   exact this
  obtain ⟨w1,w2⟩:=nc r.toList 0 (sa+k) (arrOf st) (by lia)
  generalize hW:SI (λa (x:Keyed×Nat)=>a.setIfInBounds (sa+k+x.2) x.1) (arrOf st) r.toList.zipIdx=W at w1 w2
  rw [e3,hW]
  have rW:∀ i,sa+k<=i->i<sa+na+m->R rk W i=R rk r (i - (sa+k)):=λi z1 z2=>by
   refine ck ?_
   rw [w2,if_pos (by lia),Qi]; rfl
  have rO:∀ i,(i<sa+k\/sa+na+m<=i)->R rk W i=R rk (arrOf st) i:=λi z=>by
   refine ck ?_
   rw [w2,if_neg (by lia)]
  have elt:∀ i,sa+k<=i->i<sa+na+m->∃ t,sa+k<=t/\t<sa+na+m/\R rk W i=R rk (arrOf st) t:=λi z1 z2=>by
   have hi:i - (sa+k)<r.size:=by rw [<- Qn]; lia
   have e6:r[i - (sa+k)]?=some r[i - (sa+k)]:=PR hi
   have hm:r[i - (sa+k)]∈r.toList:=by rw [U6]; exact Vr _
   rw [rW i z1 z2,dO e6]
   rcases PD.mp (hr.1.mem_iff.mp hm) with z | z
   ·obtain ⟨t,t1,t2,t3⟩:=vg z
    exact ⟨t,t1,by lia,(dO t3).symm⟩
   ·obtain ⟨t,t1,t2,t3⟩:=vg z
    exact ⟨t,by lia,by lia,(dO t3).symm⟩
  have ur:=IJ hr.2
  refine h _ ⟨?_,e2.trans hB.kind,e5.trans hB.failed⟩ (λj hj=>?_) e4 λa b z1 z2 z3=>?_
  ·
   refine List.Perm.trans ?_ hB.perm
   have eW:W.toList=(arrOf st).toList.take (sa+k)++r.toList++(arrOf st).toList.drop (sa+na+m):=by
    apply Ud
    intro j
    rw [Qi,w2,Pz,SM,SM,Qk,Sw,S0 (by rw [Qn]; lia)]
    by_cases c1:j<sa+k
    ·rw [if_neg (by lia),if_pos c1,TN c1,Qi]
    ·rw [if_neg c1]
     by_cases c2:j - (sa+k)<r.toList.length
     ·rw [if_pos (by lia),if_pos c2]; rfl
     ·rw [if_neg (by lia),if_neg c2,Qi]; congr 1; lia
   have eA:(arrOf st).toList=(arrOf st).toList.take (sa+k)++(((arrOf st).extract (sa+k) (sa+na)).toList++((arrOf st).extract (sa+na) (sa+na+m)).toList)++(arrOf st).toList.drop (sa+na+m):=by
    apply Ud
    intro j
    rw [Pz,Pz,SM,SM,SM,Qk,Qn,Qn,Qn,zx,zy,Sw,S0 (by lia)]
    by_cases c1:j<sa+k
    ·rw [if_pos c1,TN c1]
    ·rw [if_neg c1]
     by_cases c2:j - (sa+k)<na - k
     ·rw [if_pos c2,Qi,Qi,TY,if_pos (by lia)]; congr 1; lia
     ·rw [if_neg c2]
      by_cases c3:j - (sa+k) - (na - k)<m
      ·rw [if_pos c3,Qi,Qi,TY,if_pos (by lia)]; congr 1; lia
      ·rw [if_neg c3]; congr 1; lia
   show W.toList.Perm _
   rw [eW]
   conv=>rhs; rw [eA]
   exact (Sq _ hr.1).append_right _
  ·show W[j]?=_
   rw [w2,if_neg (by lia)]
  ·show R rk W a<=R rk W b
   have kk:∀ t,sa+na<=t->t<sa+na+nb->rk key<=R rk (arrOf st) t:=λt t1 t2=>by rw [<- rkey]; exact s2 _ t (Pa _) t1 t2
   have kk2:∀ t,sa<=t->t<sa+na->R rk (arrOf st) t<=rk key2:=λt t1 t2=>by rw [<- rkey2]; exact s1 t _ t1 (by lia) (by lia)
   by_cases c1:a<sa+k
   ·rw [rO a (.inl c1)]
    have la:=k2 a z1 c1
    by_cases d1:b<sa+k
    ·rw [rO b (.inl d1)]; exact s1 a b z1 z2 (by lia)
    ·by_cases d2:b<sa+na+m
     ·obtain ⟨t,t1,t2,t3⟩:=elt b (by lia) d2
      rw [t3]
      by_cases d3:t<sa+na
      ·exact s1 a t z1 (by lia) d3
      ·exact P4 la (kk t (by lia) (by lia))
     ·rw [rO b (.inr (by lia))]
      exact P4 la (kk b (by lia) z3)
   ·by_cases c2:a<sa+na+m
    ·by_cases d2:b<sa+na+m
     ·rw [rW a (by lia) c2,rW b (by lia) d2]
      have f1:r[a - (sa+k)]?=some (r[a - (sa+k)]'(by rw [<- Qn]; lia)):=PR _
      have f2:r[b - (sa+k)]?=some (r[b - (sa+k)]'(by rw [<- Qn]; lia)):=PR _
      rw [dO f1,dO f2]
      exact ur _ _ _ _ (by lia) f1 f2
     ·obtain ⟨t,t1,t2,t3⟩:=elt a (by lia) c2
      rw [t3,rO b (.inr (by lia))]
      by_cases d3:t<sa+na
      ·exact P4 (kk2 t (by lia) d3) (m3 b (by lia) z3)
      ·exact s2 t b (by lia) (by lia) z3
    ·rw [rO a (.inr (by lia)),rO b (.inr (by lia))]
     exact s2 a b (by lia) z2 z3
 have post:∀ (r:Array Keyed) (st2:SortSt),failedOf st2=failedOf st->(failedOf st2).isNone=true:=λr st2 e=>by rw [e,hB.failed]; rfl
 by_cases hle:na - k<=m
 ·rw [if_pos hle]
  refine O9 (qJ hC (by exact hB.kind) mx my ux uy (by show 1<=((arrOf st).extract (sa+k) (sa+na)).size; lia) (by show 1<=((arrOf st).extract (sa+na) (sa+na+m)).size; lia) h0 hl λr st2 hr hK=>?_)
  refine O9 (Q8 (O9 (QX ?_)))
  have e9:failedOf st2=none:=hK.f.trans hB.failed
  have z:=fin r st2 hr hK.k hK.a hK.p hK.f
  refine Pb ?_
  show Q (failedOf st2).isNone _
  rw [e9]; exact z
 ·rw [if_neg hle]
  refine O9 (qM hC (by exact hB.kind) mx my ux uy (by show 1<=((arrOf st).extract (sa+k) (sa+na)).size; lia) (by show 1<=((arrOf st).extract (sa+na) (sa+na+m)).size; lia) h0 hl λr st2 hr hK=>?_)
  refine O9 (Q8 (O9 (QX ?_)))
  have e9:failedOf st2=none:=hK.f.trans hB.failed
  have z:=fin r st2 hr hK.k hK.a hK.p hK.f
  refine Pb ?_
  show Q (failedOf st2).isNone _
  rw [e9]; exact z
end
noncomputable abbrev LV:Nat->Nat->Nat->Nat:=sortPriv% PySem.Builtin.minRun
noncomputable def qO:StateT SortSt Sem Unit:=sortPriv% PySem.Builtin.sortRuns
local macro_rules | `(tactic| walk_at "dl sortRuns")=>do
 let i:=R6 (RS `PySem.Builtin.List.W1All `PySem.Builtin.sortRuns)
 `(tactic| delta $i)
noncomputable def eY (rk:Keyed->Int) (xs:Array Keyed):Nat->List (Nat×Nat×Nat)->Nat->Prop
 | a,[],b=>a=b
 | a,p::r,b=>p.1=a/\1<=p.2.1/\Seg rk xs a (a+p.2.1)/\eY rk xs (a+p.2.1) r b
theorem eY.le:∀ {ps:List (Nat×Nat×Nat)} {a b:Nat},eY rk xs a ps b->a+ps.length<=b
 | [],a,b,h=>by have:a=b:=h; simp; lia
 | p::r,a,b,h=>by
  obtain ⟨_,h1,_,h2⟩:=h
  have:=h2.le
  rw [Qg]; lia
theorem eY.app:∀ {ps qs:List (Nat×Nat×Nat)} {a b:Nat},eY rk xs a (ps++qs) b↔∃ m,eY rk xs a ps m/\eY rk xs m qs b
 | [],qs,a,b=>⟨λh=>⟨a,rfl,h⟩,λ⟨m,h1,h2⟩=>by have:a=m:=h1; subst this; exact h2⟩
 | p::r,qs,a,b=>by
  constructor
  ·rintro ⟨h1,h2,h3,h4⟩
   obtain ⟨m,h5,h6⟩:=eY.app.mp h4
   exact ⟨m,⟨h1,h2,h3,h5⟩,h6⟩
  ·rintro ⟨m,⟨h1,h2,h3,h5⟩,h6⟩
   exact ⟨h1,h2,h3,eY.app.mpr ⟨m,h5,h6⟩⟩
theorem eY.congr:∀ {ps:List (Nat×Nat×Nat)} {a b:Nat},eY rk xs a ps b->(∀ i,a<=i->i<b->R rk ys i=R rk xs i)->eY rk ys a ps b
 | [],a,b,h,_=>h
 | p::r,a,b,h,e=>by
  obtain ⟨h1,h2,h3,h4⟩:=h
  have hl:=h4.le
  refine ⟨h1,h2,λi j z1 z2 z3=>?_,h4.congr λi z1 z2=>e i (by lia) z2⟩
  rw [e i z1 (by lia),e j (by lia) (by lia)]
  exact h3 i j z1 z2 z3
theorem eY.mod (f) (hf:∀ p,(f p).1=p.1/\(f p).2.1=p.2.1):∀ {ps:List (Nat×Nat×Nat)} {a b:Nat} (i:Nat),eY rk xs a ps b->eY rk xs a (ps.modify i f) b
 | [],a,b,i,h=>by simpa using h
 | p::r,a,b,0,h=>by
  obtain ⟨h1,h2,h3,h4⟩:=h
  rw [List.modify_zero_cons]
  refine ⟨(hf p).1.trans h1,by rw [(hf p).2]; exact h2,by rw [(hf p).2]; exact h3,by rw [(hf p).2]; exact h4⟩
 | p::r,a,b,i+1,h=>by
  obtain ⟨h1,h2,h3,h4⟩:=h
  rw [List.modify_succ_cons]
  exact ⟨h1,h2,h3,h4.mod f hf i⟩
theorem eY.two:∀ {ps:List (Nat×Nat×Nat)} {a b:Nat} (i:Nat),eY rk xs a ps b->i+1<ps.length->∃ s n pw m pw2,ps[i]?=some (s,n,pw)/\ps[i+1]?=some (s+n,m,pw2)/\1<=n/\1<=m/\a<=s/\s+n+m<=b/\Seg rk xs s (s+n)/\Seg rk xs (s+n) (s+n+m) /\
 ∀ ys:Array Keyed,(∀ j,j<s\/s+n+m<=j->R rk ys j=R rk xs j)->Seg rk ys s (s+n+m)->eY rk ys a ((ps.set i (s,n+m,pw)).eraseIdx (i+1)) b
 | [],a,b,i,h,hi=>by simp at hi
 | [p],a,b,i,h,hi=>by simp at hi
 | p::q::r,a,b,0,h,hi=>by
  obtain ⟨h1,h2,h3,h4,h5,h6,h7⟩:=h
  obtain ⟨s,n,pw⟩:=p
  obtain ⟨s',m,pw2⟩:=q
  dsimp only at h1 h2 h3 h4 h5 h6 h7
  subst h1; subst h4
  have hl:=h7.le
  refine ⟨s,n,pw,m,pw2,rfl,rfl,h2,h5,Pa _,by lia,h3,h6,λys e hs=>?_⟩
  refine ⟨rfl,by dsimp only; lia,by dsimp only; rw [<- Nat.add_assoc]; exact hs,?_⟩
  dsimp only
  rw [<- Nat.add_assoc]
  exact h7.congr λi z1 z2=>e i (.inr z1)
 | p::q::r,a,b,i+1,h,hi=>by
  obtain ⟨h1,h2,h3,h4⟩:=h
  obtain ⟨s,n,pw,m,pw2,e1,e2,a1,a2,a3,a4,a5,a6,a7⟩:=h4.two i (by simpa using hi)
  refine ⟨s,n,pw,m,pw2,by simpa using e1,by simpa using e2,a1,a2,by lia,a4,a5,a6,λys e hs=>?_⟩
  rw [List.set_cons_succ,List.eraseIdx_cons_succ]
  refine ⟨h1,h2,λj j' z1 z2 z3=>?_,a7 ys e hs⟩
  rw [e j (.inl (by lia)),e j' (.inl (by lia))]
  exact h3 j j' z1 z2 z3
section
variable {st:SortSt}
theorem gG (hC:gT prog w A s κ rk L) (hB:Bs κ L st) (hc:eY rk (arrOf st) 0 (pendingOf st).toList b) (hb:b<=L.length) (hi:i+1<(pendingOf st).size)
 (h:∀ st',Bs κ L st'->eY rk (arrOf st') 0 (pendingOf st').toList b->(∀ j,b<=j->(arrOf st')[j]?=(arrOf st)[j]?)->(pendingOf st').size+1=(pendingOf st).size->Q true st'):wpS (model prog w) A E s (gF i) Q st:=by
 obtain ⟨sa,n,pw,m,pw2,e1,e2,a1,a2,a3,a4,a5,a6,a7⟩:=hc.two i (by rw [Qn]; exact hi)
 rw [Qi] at e1 e2
 refine qN hC hB e1 e2 a1 a2 (by lia) a5 a6 λst' b1 b2 b3 b4=>h st' b1 ?_ (λj hj=>b2 j (.inr (by lia))) ?_
 ·rw [b3,VG,Array.toList_setIfInBounds]
  exact a7 _ (λj hj=>ck (b2 j hj)) b4
 ·rw [b3,<- Qn,VG,Array.toList_setIfInBounds,List.length_eraseIdx,S9,Qn,if_pos hi]; lia
theorem wpS_sortRuns (hC:gT prog w A s κ rk L) (hB:Bs κ L st) (hp:pendingOf st= #[]) (h:∀ st',Bs κ L st'->Seg rk (arrOf st') 0 L.length->Q () st'):wpS (model prog w) A E s qO Q st:=by
 unfold qO
 walk_at "dl sortRuns"
 dsimp only
 refine O9 (QX ?_)
 have hsz:=hB.size
 rw [hsz]
 obtain ⟨mr,hmr⟩:∃ mr,LV L.length L.length 0=mr:=⟨_,rfl⟩
 delta LV at hmr
 rw [hmr]
 refine O9 (P7 (Qy (I:=λx c st'=>c.1=none/\Bs κ L st'/\eY rk (arrOf st') 0 (pendingOf st').toList c.2/\c.2<=L.length/\(x<=c.2\/L.length<=c.2)) (Q:=λc st'=>c.1=none/\Bs κ L st'/\eY rk (arrOf st') 0 (pendingOf st').toList L.length) ?step ?fin ?init) ?post)
 case init=>exact ⟨rfl,hB,by rw [hp]; rfl,PY _,.inl (Pa _)⟩
 case fin =>
  rintro ⟨c,lo⟩ st' ⟨rfl,jv,hC',h1,h2⟩
  dsimp only at hC' h1 h2 |-
  have e:lo=L.length:=by
   rcases h2 with z | z
   ·lia
   ·lia
  subst e
  exact ⟨rfl,jv,hC'⟩
 case step =>
  rintro x ⟨c,lo⟩ st' _ hx ⟨rfl,jv,hC',h1,h2⟩
  dsimp only at hC' h1 h2 |-
  by_cases hge:lo>=L.length
  ·rw [if_pos hge]
   have e:lo=L.length:=by lia
   subst e
   exact Pb ⟨rfl,jv,hC'⟩
  rw [if_neg hge]
  refine O9 (show wpS _ _ _ _ (countRun' lo (L.length - lo)) _ _ from wpS_countRun hC jv (by lia) (by lia) λm st1 hB1 hM1 m1 m2 ms=>?_)
  have hC1:eY rk (arrOf st1) 0 (pendingOf st1).toList lo:=by
   rw [hM1.pend]; exact hC'.congr λi _ z=>ck (hM1.out i (.inl z))
  dsimp only
  by_cases hmin:m<mr
  ·rw [if_pos (show m<_ from hmin)]
   refine O9 (RO (Qz ⟨rfl,?_⟩))
   have hf1:m<=min (L.length - lo) mr:=by lia
   have hf2:lo+min (L.length - lo) mr<=L.length:=by lia
   refine O9 (show wpS _ _ _ _ (binarySort' lo (min (L.length - lo) mr) m) _ _ from wpS_binarySort hC hB1 hf2 hf1 ms λst2 hB2 hM2 hS2=>?_)
   have hC2:eY rk (arrOf st2) 0 (pendingOf st2).toList lo:=by
    rw [hM2.pend]; exact hC1.congr λi _ z=>ck (hM2.out i (.inl z))
   simp only [R4,Qj,if_false]
   generalize hF:min (L.length - lo) mr=F at hf1 hf2 hS2
   have hF':=hF
   clear hM2 hM1
   refine O9 (QX ?_)
   rcases hbk:(pendingOf st2).back? with _ | ⟨q1,q2,q3⟩
   ·dsimp only
    refine O9 (Q8 (Pb ⟨rfl,⟨hB2.perm,hB2.kind,hB2.failed⟩,?_,by dsimp only; lia,by dsimp only; lia⟩))
    show eY rk (arrOf st2) 0 ((pendingOf st2).push (lo,F,0)).toList (lo+(F))
    rw [P8]
    exact eY.app.mpr ⟨lo,hC2,rfl,by dsimp only; lia,hS2,rfl⟩
   ·dsimp only
    refine O9 (P7 (Qy (I:=λy c st'=>c.1=none/\Bs κ L st'/\eY rk (arrOf st') 0 (pendingOf st').toList lo/\Seg rk (arrOf st') lo (lo+(F))) (Q:=λc st'=>c.1=none/\Bs κ L st'/\eY rk (arrOf st') 0 (pendingOf st').toList lo/\Seg rk (arrOf st') lo (lo+(F))) ?_ (λ_ _ z=>z) ⟨rfl,hB2,hC2,hS2⟩) ?_)
    ·rintro y ⟨c,u⟩ st3 _ hy ⟨rfl,um,yK,CS⟩
     refine O9 (QX ?_)
     by_cases hs1:(pendingOf st3).size>1
     ·rw [if_pos hs1]
      obtain ⟨⟨r1,r2,r3⟩,er⟩:∃ t,(pendingOf st3)[(pendingOf st3).size - 2]?=some t:=⟨_,PR (show (pendingOf st3).size - 2<(pendingOf st3).size by lia)⟩
      rw [er]
      dsimp only
      split
      ·exact Pb ⟨rfl,um,yK,CS⟩
      ·refine O9 (show wpS _ _ _ _ (gF ((pendingOf st3).size - 2)) _ _ from gG hC um yK (by lia) (by lia) λst4 hB4 hC4 ho4 hz4=>?_)
       simp only [R4,Qj,if_false]
       exact Pb ⟨rfl,hB4,hC4,λa b z1 z2 z3=>by rw [ck (ho4 a z1),ck (ho4 b (by lia))]; exact CS a b z1 z2 z3⟩
     ·rw [if_neg hs1]
      exact Pb ⟨rfl,um,yK,CS⟩
    ·rintro ⟨c,u⟩ st3 ⟨hc,um,yK,CS⟩
     dsimp only at hc |-
     rw [hc]
     dsimp only
     refine O9 (Q8 (O9 (Q8 (Pb ⟨rfl,⟨um.perm,um.kind,um.failed⟩,?_,by dsimp only; lia,by dsimp only; lia⟩))))
     show eY rk (arrOf st3) 0 (((pendingOf st3).modify ((pendingOf st3).size - 1) _).push (lo,F,0)).toList (lo+(F))
     rw [P8,Array.toList_modify]
     refine eY.app.mpr ⟨lo,?_,rfl,by dsimp only; lia,CS,rfl⟩
     refine eY.mod _ (λp=>?_) _ yK
     exact ⟨rfl,rfl⟩
  ·rw [if_neg (show ¬ m<_ from hmin)]
   refine O9 (QX ?_)
   rcases hbk:(pendingOf st1).back? with _ | ⟨q1,q2,q3⟩
   ·dsimp only
    refine O9 (Q8 (Pb ⟨rfl,⟨hB1.perm,hB1.kind,hB1.failed⟩,?_,by dsimp only; lia,by dsimp only; lia⟩))
    show eY rk (arrOf st1) 0 ((pendingOf st1).push (lo,m,0)).toList (lo+(m))
    rw [P8]
    exact eY.app.mpr ⟨lo,hC1,rfl,by dsimp only; lia,ms,rfl⟩
   ·dsimp only
    refine O9 (P7 (Qy (I:=λy c st'=>c.1=none/\Bs κ L st'/\eY rk (arrOf st') 0 (pendingOf st').toList lo/\Seg rk (arrOf st') lo (lo+(m))) (Q:=λc st'=>c.1=none/\Bs κ L st'/\eY rk (arrOf st') 0 (pendingOf st').toList lo/\Seg rk (arrOf st') lo (lo+(m))) ?_ (λ_ _ z=>z) ⟨rfl,hB1,hC1,ms⟩) ?_)
    ·rintro y ⟨c,u⟩ st3 _ hy ⟨rfl,um,yK,CS⟩
     refine O9 (QX ?_)
     by_cases hs1:(pendingOf st3).size>1
     ·rw [if_pos hs1]
      obtain ⟨⟨r1,r2,r3⟩,er⟩:∃ t,(pendingOf st3)[(pendingOf st3).size - 2]?=some t:=⟨_,PR (show (pendingOf st3).size - 2<(pendingOf st3).size by lia)⟩
      rw [er]
      dsimp only
      split
      ·exact Pb ⟨rfl,um,yK,CS⟩
      ·refine O9 (show wpS _ _ _ _ (gF ((pendingOf st3).size - 2)) _ _ from gG hC um yK (by lia) (by lia) λst4 hB4 hC4 ho4 hz4=>?_)
       simp only [R4,Qj,if_false]
       exact Pb ⟨rfl,hB4,hC4,λa b z1 z2 z3=>by rw [ck (ho4 a z1),ck (ho4 b (by lia))]; exact CS a b z1 z2 z3⟩
     ·rw [if_neg hs1]
      exact Pb ⟨rfl,um,yK,CS⟩
    ·rintro ⟨c,u⟩ st3 ⟨hc,um,yK,CS⟩
     dsimp only at hc |-
     rw [hc]
     dsimp only
     refine O9 (Q8 (O9 (Q8 (Pb ⟨rfl,⟨um.perm,um.kind,um.failed⟩,?_,by dsimp only; lia,by dsimp only; lia⟩))))
     show eY rk (arrOf st3) 0 (((pendingOf st3).modify ((pendingOf st3).size - 1) _).push (lo,m,0)).toList (lo+(m))
     rw [P8,Array.toList_modify]
     refine eY.app.mpr ⟨lo,?_,rfl,by dsimp only; lia,CS,rfl⟩
     refine eY.mod _ (λp=>?_) _ yK
     exact ⟨rfl,rfl⟩
 case post =>
  rintro ⟨c,lo⟩ st' ⟨hc,jv,hC'⟩
  dsimp only at hc |-
  rw [hc]
  dsimp only
  have hl0:=hC'.le
  rw [Qn] at hl0
  refine O9 (P7 (Qy (I:=λx c st2=>c.1=none/\Bs κ L st2/\eY rk (arrOf st2) 0 (pendingOf st2).toList L.length/\((pendingOf st2).size<=1\/(pendingOf st2).size+x<=L.length)) (Q:=λc st2=>c.1=none/\Bs κ L st2/\eY rk (arrOf st2) 0 (pendingOf st2).toList L.length/\(pendingOf st2).size<=1) ?mstep ?mfin ⟨rfl,jv,hC',.inr (by lia)⟩) ?mpost)
  case mfin =>
   rintro c2 st2 ⟨a1,a2,a3,a4⟩
   exact ⟨a1,a2,a3,by lia⟩
  case mpost =>
   rintro ⟨c2,u⟩ st2 ⟨a1,a2,a3,a4⟩
   dsimp only at a1 |-
   rw [a1]
   refine Pb (h st2 a2 ?_)
   rw [<- Qn] at a4
   match e:(pendingOf st2).toList,a4 with
   | [],_ =>
    rw [e] at a3
    have z:0=L.length:=a3
    intro i j _ _ hj; lia
   | [p],_ =>
    rw [e] at a3
    obtain ⟨b1,b2,b3,b4⟩:=a3
    have z:0+p.2.1=L.length:=b4
    rw [<- z]; exact b3
  case mstep =>
   rintro x ⟨c2,u⟩ st2 _ hx ⟨a1,a2,a3,a4⟩
   refine O9 (QX ?_)
   by_cases hs1:(pendingOf st2).size<=1
   ·rw [if_pos hs1]
    exact Pb ⟨rfl,a2,a3,hs1⟩
   ·rw [if_neg hs1]
    have key:∀ i,i+1<(pendingOf st2).size->wpS (model prog w) A E s (gF i) (λr st3=>r=true/\Bs κ L st3/\eY rk (arrOf st3) 0 (pendingOf st3).toList L.length/\(pendingOf st3).size+1=(pendingOf st2).size) st2:=λi hi =>
     gG hC a2 a3 (Pa _) hi λst3 b1 b2 _ b3=>⟨rfl,b1,b2,b3⟩
    refine O9 (P7 (show wpS _ _ _ _ (gF _) _ _ from key _ ?_) λr st3 hr=>?_)
    ·unfold pendingOf at hs1 |-
     repeat' split
     all_goals lia
    ·obtain ⟨rfl,b1,b2,b3⟩:=hr
     simp only [R4,Qj,if_false]
     exact Pb ⟨rfl,b1,b2,.inr (by lia)⟩
end
end SR
namespace SR
open PySem PyProof.Rows
noncomputable def dup (vs:List Value):List Keyed:=vs.map λv=>(v,v)
theorem vB (vs):(vs.toArray.zip vs.toArray).toList=dup vs:=by
 unfold dup
 rw [Array.toList_zip]
 induction vs with
 | nil=>rfl
 | cons v vs ih=>simpa using ih
def Ord (rk:Keyed->Int) (b:Bool) (out:List Value):Prop:=out.Pairwise λx y=>if b then rk (y,y)<=rk (x,x) else rk (x,x)<=rk (y,y)
theorem qP {xs:Array Keyed} (h:xs.toList.Perm (dup vs)):(xs.toList.map (·.2)).Perm vs/\∀ p∈xs.toList,p=(p.2,p.2):=by
 refine ⟨?_,λp hp=>?_⟩
 ·have q:=h.map (·.2)
  have e:(dup vs).map (·.2)=vs:=by
   unfold dup
   rw [PX]
   exact List.map_id' vs
  rwa [e] at q
 ·have:=h.mem_iff.mp hp
  simp only [dup,Pr] at this
  obtain ⟨v,_,rfl⟩:=this
  rfl
theorem Er {st:SortSt} (hp:(arrOf st).toList.Perm (dup vs)) (hs:Seg rk (arrOf st) 0 (dup vs).length) (b) :
 ((if b=true then ((arrOf st).map (·.2)).reverse else (arrOf st).map (·.2)).toList).Perm vs/\Ord rk b (if b=true then ((arrOf st).map (·.2)).reverse else (arrOf st).map (·.2)).toList:=by
 obtain ⟨h1,h2⟩:=qP hp
 have up:((arrOf st).toList.map (·.2)).Pairwise λx y=>rk (x,x)<=rk (y,y):=by
  rw [SS]
  refine UN.mpr λi j hi hj hij=>?_
  have l:=hp.length_eq
  simp only [Qn] at hi hj l
  have z:=hs i j (PY _) (RG hij) (by lia)
  have ei:(arrOf st)[i]?=some ((arrOf st).toList[i]'(by simpa using hi)):=by simp [hi]
  have ej:(arrOf st)[j]?=some ((arrOf st).toList[j]'(by simpa using hj)):=by simp [hj]
  rw [dO ei,dO ej] at z
  have e1:=h2 _ (Qa (show i<(arrOf st).toList.length by simpa using hi))
  have e2:=h2 _ (Qa (show j<(arrOf st).toList.length by simpa using hj))
  rw [e1,e2] at z
  exact z
 cases b with
 | false=>simp only [Qj,if_false,Vz]; exact ⟨h1,up.imp λh=>by simpa using h⟩
 | true =>
  simp only [if_true,Su,Vz]
  refine ⟨(Vo _).trans h1,?_⟩
  unfold Ord
  rw [List.pairwise_reverse]
  exact up.imp λh=>by simpa using h
def N7 (prog:Program) (w:World) (A:Around) (s:Shared) (a:Addr) (vs:List Value) (κ:SortKind) (rk:Keyed->Int):Prop :=
 ∀ h':Heap,(∀ c o,c≠a->s.heap.get? c=some o->h'.get? c=some o) ->
  (∀ (Q:SortKind->Shared->Prop) (E:Value->Shared->Prop),2<=vs.length->Q κ { s with heap:=h' }->wpAny (model prog w) A (keyKind' vs.toArray) Q E { s with heap:=h' })/\gT prog w A { s with heap:=h' } κ rk (dup vs)
theorem xE (ho:s.heap.get? a=some (seqObj "list" vs.toArray n)) (hk:N7 prog w A s a vs κ rk) (hz:vs.length<=sizeLine)
 (h:∀ out:Array Value,out.toList.Perm vs->Ord rk b out.toList->P (.done (.ret .none)) { s with heap:=sortedHeap s.heap a vs out }) :
 wpAny (model prog w) A (Builtin.«list.sort» ⟨[.ref a],[(O5 "reverse",.bool b)]⟩) P E s:=by
 rw [list_sort_rev]
 have lta:a<s.heap.objs.size:=Pf ho
 refine O6 (R5 ho rfl (O6 (QV ho rfl ?_ (by simpa using hz))))
 obtain ⟨e1,ho1⟩:∃ e1,(s.heap.update a (P1 λ_=> #[])).get? a=some (seqObj "list" #[] e1):=⟨_,Uq ho (λ_=> #[])⟩
 have oth:∀ c o,c≠a->s.heap.get? c=some o->(s.heap.update a (P1 λ_=> #[])).get? c=some o:=λc o hc q=>by rw [Rn _ _ _ _ hc]; exact q
 have sz1:(s.heap.update a (P1 λ_=> #[])).objs.size=s.heap.objs.size:=Vx ..
 refine O6 (SE ho1 rfl (O6 (Uu ?_ (by simpa using hz))))
 refine O6 (UA (QL ?_))
 show wpAny (model prog w) A _ P E { s with heap:=((s.heap.update a (P1 λ_=> #[])).push (seqObj "tuple" vs.toArray 0)).push (seqObj "list" #[] 0) }
 have ho6:(((s.heap.update a (P1 λ_=> #[])).push (seqObj "tuple" vs.toArray 0)).push (seqObj "list" #[] 0)).get? a=some (seqObj "list" #[] e1):=Pc _ (Pc _ ho1)
 obtain ⟨hkk,hC⟩:=hk (((s.heap.update a (P1 λ_=> #[])).push (seqObj "tuple" vs.toArray 0)).push (seqObj "list" #[] 0)) λc o hc q=>Pc _ (Pc _ (oth c o hc q))
 have fin:∀ st':SortSt,(arrOf st').toList.Perm (dup vs)->Seg rk (arrOf st') 0 (dup vs).length ->
  P (.done (.ret .none)) { s with heap:=sortedHeap s.heap a vs (if b then ((arrOf st').map (·.2)).reverse else (arrOf st').map (·.2)) }:=λst' hp hs =>
  let ⟨q1,q2⟩:=Er hp hs b; h _ q1 q2
 have hstart:(if b=true then (vs.toArray.zip vs.toArray).reverse else vs.toArray.zip vs.toArray).toList.Perm (dup vs):=by
  cases b with
  | false=>rw [if_neg Pn,vB]
  | true=>rw [if_pos rfl,Su,vB]; exact Vo _
 dsimp only
 have told:∀ t:Sem Fin,wpAny (model prog w) A t P E { s with heap:=((s.heap.update a (P1 λ_=> #[])).push (seqObj "tuple" vs.toArray 0)).push (seqObj "list" #[] 0) } ->
  wpAny (model prog w) A (if b=true then (do let _ <- rule "list.sort.reverse"; t) else t) P E { s with heap:=((s.heap.update a (P1 λ_=> #[])).push (seqObj "tuple" vs.toArray 0)).push (seqObj "list" #[] 0) }:=λt ht=>by
  split
  ·exact O6 (Qz ht)
  ·exact ht
 refine told _ ?_
 have hlen:∀ {xs:Array Keyed},xs.toList.Perm (dup vs)->(if b=true then (Array.map (λx=>x.snd) xs).reverse else Array.map (λx=>x.snd) xs).size<=sizeLine+1:=λ{xs} hp=>by
  have l:=hp.length_eq
  simp only [Qn,dup,Pe] at l
  split
  ·rw [Array.size_reverse,Array.size_map]; lia
  ·rw [Array.size_map]; lia
 by_cases h2:vs.toArray.size<2
 ·rw [if_pos h2,if_pos h2]
  refine O6 (O8 ?_)
  rw [StateT.run_pure]
  refine O6 (O8 ?_)
  dsimp only
  refine O6 (SE ho6 rfl (O6 (QV ho6 rfl ?_ (hsz2:=hlen hstart))))
  simp only [bne_self_eq_false,Qj,if_false]
  refine O8 (fin (RK general' (if b=true then (vs.toArray.zip vs.toArray).reverse else vs.toArray.zip vs.toArray) #[] 7 none) hstart ?_)
  intro i j _ hij hj
  have hl:(dup vs).length<2:=by simpa [dup] using h2
  have:i=j:=by lia
  subst this; exact QH _
 ·rw [if_neg h2,if_neg h2]
  refine O6 (hkk _ _ (by simpa using h2) ?_)
  refine O6 (Qd (wpS_sortRuns (κ:=κ) (rk:=rk) (L:=dup vs) (st:=RK κ (if b=true then (vs.toArray.zip vs.toArray).reverse else vs.toArray.zip vs.toArray) #[] 7 none)
   (Q:=λ_ st'=>(arrOf st').toList.Perm (dup vs)/\failedOf st'=none/\Seg rk (arrOf st') 0 (dup vs).length) hC ⟨hstart,rfl,rfl⟩ rfl λst' a1 a2=>⟨a1.perm,a1.failed,a2⟩) ?_ λ_ _ e=>e)
  rintro ⟨⟨⟩,st'⟩ s' ⟨rfl,hp,hf,hs⟩
  dsimp only
  refine O6 (SE ho6 rfl (O6 (QV ho6 rfl ?_ (hsz2:=hlen hp))))
  rw [hf]
  simp only [bne_self_eq_false,Qj,if_false]
  exact O8 (fin st' hp hs)
section
variable {α:Type} {lt:α->α->Bool} {L:List α}
theorem filter_le:∀ {l:List α},(∀ z∈l,p z=true->q z=true)->(l.filter p).length<=(l.filter q).length
 | [],_=>Pa _
 | x::l,h=>by
  have ih:=filter_le (l:=l) λz hz=>h z (Pj _ hz)
  have hx:=h x Po
  cases e:p x with
  | false =>
   rw [SJ (by simp [e])]
   by_cases e2:q x=true
   ·rw [RQ e2]; exact Nat.le_succ_of_le ih
   ·rw [SJ e2]; exact ih
  | true =>
   rw [RQ e,RQ (hx e)]
   exact Ui ih
theorem filter_lt:∀ {l:List α},(∀ z∈l,p z=true->q z=true)->(∃ z∈l,q z=true/\p z=false)->(l.filter p).length<(l.filter q).length
 | [],_,h=>by obtain ⟨z,h,_⟩:=h; cases h
 | x::l,h,g=>by
  have h':∀ z∈l,p z=true->q z=true:=λz hz=>h z (Pj _ hz)
  have hx:=h x Po
  by_cases e:p x=true
  ·rw [RQ e,RQ (hx e)]
   obtain ⟨z,hz,z1,z2⟩:=g
   rcases Pg.mp hz with rfl | hz
   ·rw [e] at z2; cases z2
   ·exact Nat.succ_lt_succ (filter_lt h' ⟨z,hz,z1,z2⟩)
  ·rw [SJ e]
   by_cases e2:q x=true
   ·rw [RQ e2]; exact Nat.lt_succ_of_le (filter_le h')
   ·rw [SJ e2]
    obtain ⟨z,hz,z1,z2⟩:=g
    rcases Pg.mp hz with rfl | hz
    ·exact absurd z1 e2
    ·exact filter_lt h' ⟨z,hz,z1,z2⟩
structure Ky (lt:α->α->Bool) (L:List α):Prop where
 irr:∀ x∈L,lt x x=false
 tr:∀ x∈L,∀ y∈L,∀ z∈L,lt x y=true->lt y z=true->lt x z=true
 tot:∀ x∈L,∀ y∈L,x≠y->lt x y=true\/lt y x=true
noncomputable def rank (lt:α->α->Bool) (L:List α) (x:α):Int:=((L.filter λz=>lt z x).length:Int)
theorem jX (h:Ky lt L) (hx:x∈L) (hy:y∈L) (e:lt x y=true):rank lt L x<rank lt L y:=by
 have q:=filter_lt (l:=L) (p:=λz=>lt z x) (q:=λz=>lt z y) (λz hz hzx=>h.tr z hz x hx y hy hzx e) ⟨x,hx,e,h.irr x hx⟩
 unfold rank; lia
theorem Es (h:Ky lt L) (hx:x∈L) (hy:y∈L):decide (rank lt L x<rank lt L y)=lt x y:=by
 classical
 cases e:lt x y with
 | true=>exact decide_eq_true (jX h hx hy e)
 | false =>
  refine decide_eq_false λz=>?_
  by_cases w:x=y
  ·subst w; exact absurd z (Int.lt_irrefl _)
  ·rcases h.tot x hx y hy w with q | q
   ·rw [e] at q; cases q
   ·have:=jX h hy hx q; lia
theorem fS (hp:n.Perm m):∀ {l:List α},Paired S l m->∃ l',l'.Perm l/\Paired S l' n:=by
 induction hp with
 | nil=>intro l h; exact ⟨l,.refl _,h⟩
 | cons x _ ih =>
  intro l h
  cases h with
  | cons r t=>obtain ⟨l',h1,h2⟩:=ih t; exact ⟨_::l',h1.cons _,.cons r h2⟩
 | swap x y l' =>
  intro l h
  cases h with
  | cons r t=>cases t with | cons r2 t2=>exact ⟨_,.swap _ _ _,.cons r2 (.cons r t2)⟩
 | trans _ _ ih1 ih2 =>
  intro l h
  obtain ⟨l1,h1,h2⟩:=ih2 h
  obtain ⟨l2,h3,h4⟩:=ih1 h2
  exact ⟨l2,h3.trans h1,h4⟩
theorem gH (h:Paired S l m):∀ u∈m,∃ x∈l,S x u:=by
 induction h with
 | nil=>intro u hu; cases hu
 | cons r t ih =>
  intro u hu
  rcases Pg.mp hu with rfl | hu
  ·exact ⟨_,Po,r⟩
  ·obtain ⟨x,h1,h2⟩:=ih u hu; exact ⟨x,Pj _ h1,h2⟩
open Classical in
noncomputable def AQ {β:Type} (S:α->Value->Prop) (lt:α->α->Bool) (L:List α) (p:Value×β):Int:=if h:∃ x,x∈L/\S x p.1 then rank lt L h.choose else 0
theorem jY (inj:∀ x y u,S x u->S y u->x=y) (hx:x∈L) (h:S x p.1):AQ S lt L p=rank lt L x:=by
 have e:∃ x,x∈L/\S x p.1:=⟨x,hx,h⟩
 unfold AQ
 rw [dif_pos e,inj _ _ _ e.choose_spec.2 h]
theorem AR (inj:∀ x y u,S x u->S y u->x=y) (h:Ky lt L) (nd:L.Nodup) (hL:Paired S L us) (hp:out.Perm us) (ho:Ord (AQ S lt L) b out) :
 ∃ L',L'.Perm L/\L'.Pairwise (λx y=>if b then lt y x=true else lt x y=true)/\Paired S L' out:=by
 obtain ⟨L',h1,h2⟩:=fS hp hL
 refine ⟨L',h1,?_,h2⟩
 have hm:∀ x∈L',x∈L:=λx hx=>h1.mem_iff.mp hx
 have nd':L'.Nodup:=h1.nodup_iff.mpr nd
 clear h1 hp hL nd
 unfold Ord at ho
 induction h2 with
 | nil=>exact .nil
 | @cons x u xs us r t ih =>
  obtain ⟨q1,q2⟩:=Sv.mp ho
  obtain ⟨n1,n2⟩:=Qu.mp nd'
  refine .cons (λy hy=>?_) (ih q2 (λz hz=>hm z (Pj _ hz)) n2)
  have hx:=hm x Po
  have hyL:=hm y (Pj _ hy)
  obtain ⟨v,hv,sv⟩:∃ v∈us,S y v:=by
   clear ih ho q1 q2 n1 n2 hm nd'
   induction t with
   | nil=>cases hy
   | cons r t ih2 =>
    rcases Pg.mp hy with rfl | hy
    ·exact ⟨_,Po,r⟩
    ·obtain ⟨v,h1,h2⟩:=ih2 hy; exact ⟨v,Pj _ h1,h2⟩
  have q:=q1 v hv
  rw [jY inj hx (p:=(u,u)) r,jY inj hyL (p:=(v,v)) sv] at q
  have ne:x≠y:=λz=>n1 (z ▸ hy)
  cases b with
  | true =>
   simp only [if_true] at q |-
   rcases h.tot x hx y hyL ne with w | w
   ·have:=jX h hx hyL w; lia
   ·exact w
  | false =>
   simp only [Qj,if_false] at q |-
   rcases h.tot x hx y hyL ne with w | w
   ·exact w
   ·have:=jX h hyL hx w; lia
end
theorem IM (inj:∀ x y u,S x u->S y u->x=y) (h:Ky lt L) (hL:Paired S L us)
 (hk:∀ x∈L,∀ y∈L,∀ u v,S x u->S y v->∀ (E:Value->Shared->Prop) (Q:Bool->Shared->Prop),Q (lt x y) s->wpAny (model prog w) A (keyLt' κ u v) Q E s):gT prog w A s κ (AQ S lt L) (dup us):=by
 intro p hp q hq E Q hQ
 simp only [dup,Pr] at hp hq
 obtain ⟨u,hu,rfl⟩:=hp
 obtain ⟨v,hv,rfl⟩:=hq
 obtain ⟨x,hx,sx⟩:=gH hL u hu
 obtain ⟨y,hy,sy⟩:=gH hL v hv
 refine hk x hx y hy u v sx sy E Q ?_
 rw [jY inj hx (p:=(u,u)) sx,jY inj hy (p:=(v,v)) sy,Es h hx hy] at hQ
 exact hQ
end SR
namespace SR
open PySem PySem.Calls PyProof.Rows L2 EV
theorem l5 (a):Builtin.«list.sort» ⟨[.ref a],[(O5 "key",.builtin "len")]⟩=(do
 let items <- RT (.ref a)
 Ru (.ref a) λ_=> #[]
 let before <- seqEpoch a
 let held <- newTuple items.toList
 let keyStore <- newList []
 holding [held,keyStore] do
  rule "list.sort.key"
  for x in items do
   match <- (call (.builtin "len") [x]).attempt with
   | .ok k=>Ru keyStore (·.push k)
   | .error e =>
    rule "list.sort.key-raised"
    let made <- RT keyStore
    Ru keyStore λ_=> #[]
    letGo made.toList.reverse [e]
    Ru (.ref a) λ_=>items; throw e
  let keys <- RT keyStore
  let kind <- if items.size<2 then pure general' else keyKind' keys
  let ((),s) <- (if items.size<2 then pure () else sortRuns').run (RK kind (keys.zip items) #[] 7 none)
  Ru keyStore λ_=> #[]
  letGo ((arrOf s).map (·.1)).toList (failedOf s).toList
  let touched:=(<- seqEpoch a) != before
  Ru (.ref a) λ_=>(arrOf s).map (·.2)
  if let some e:=failedOf s then rule "list.sort.comparison-raised"; throw e
  if touched then rule "list.sort.modified"; raiseError "ValueError" "list modified during sort"
  ret .none):=by
 rfl
theorem gI (a v):argsOk "list.sort" ⟨[a],[(O5 "key",v)]⟩:=by unfold argsOk; kernel_rfl
theorem jG (a v):argsOk "sorted" ⟨[a],[(O5 "key",v)]⟩:=by unfold argsOk; kernel_rfl
noncomputable def intOf (p:Keyed):Int:=match p.1 with | .int m _=>m | _=>0
theorem vC:∀ {ks vs:List Value},ks.length=vs.length->(ks.zip vs).map (·.2)=vs
 | [],[],_=>rfl
 | k::ks,v::vs,h=>by rw [Vc,Pd,vC (by simpa using h)]
 | [],_::_,h=>by simp at h
 | _::_,[],h=>by simp at h
theorem vD {ks vs:List Value} {ms:List Int} (h:IntsAre ks ms) {p:Keyed} (hp:p∈ks.zip vs):∃ m t,p.1=.int m t:=by
 obtain ⟨k,v⟩:=p
 exact h.all k (Ur hp).1
theorem AS (ho:s.heap.get? a=some (seqObj "list" vs.toArray n)) (hz:vs.length<=sizeLine)
 (hv:∀ v∈vs,∃ (l:Addr) (items:Array Value),v=.ref l/\l≠a/\s.heap.IsList l items/\items.size<=sizeLine)
 (h:∀ (out:Array Value) (h':Heap) (tk e:Nat),out.toList.Perm vs->h'.get? a=some (seqObj "list" out e)->(∀ c o,c≠a->s.heap.get? c=some o->h'.get? c=some o)->P (.done (.ret .none)) { s with heap:=h',toks:=tk }) :
 wpAny (model prog w) A (Builtin.«list.sort» ⟨[.ref a],[(O5 "key",.builtin "len")]⟩) P E s:=by
 rw [l5]
 have lta:a<s.heap.objs.size:=Pf ho
 refine O6 (R5 ho rfl (O6 (QV ho rfl ?_ (by simpa using hz))))
 obtain ⟨e1,ho1⟩:∃ e1,(s.heap.update a (P1 λ_=> #[])).get? a=some (seqObj "list" #[] e1):=⟨_,Uq ho (λ_=> #[])⟩
 have oth:∀ c o,c≠a->s.heap.get? c=some o->(s.heap.update a (P1 λ_=> #[])).get? c=some o:=λc o hc q=>by rw [Rn _ _ _ _ hc]; exact q
 refine O6 (SE ho1 rfl (O6 (Uu ?_ (by simpa using hz))))
 refine O6 (UA (QL ?_))
 generalize hkS:((s.heap.update a (P1 λ_=> #[])).push (seqObj "tuple" vs.toArray 0)).objs.size=kS
 have hks:(((s.heap.update a (P1 λ_=> #[])).push (seqObj "tuple" vs.toArray 0)).push (seqObj "list" #[] 0)).get? kS=some (seqObj "list" #[] 0):=by rw [<- hkS]; exact Pp _ rfl
 have kne:∀ c,c<s.heap.objs.size->c≠kS:=λc hc e=>by
  rw [<- hkS,size_push',Vx] at e; lia
 have k1:∀ c o,c≠a->s.heap.get? c=some o->(((s.heap.update a (P1 λ_=> #[])).push (seqObj "tuple" vs.toArray 0)).push (seqObj "list" #[] 0)).get? c=some o:=λc o hc q=>Pc _ (Pc _ (oth c o hc q))
 have ho6:(((s.heap.update a (P1 λ_=> #[])).push (seqObj "tuple" vs.toArray 0)).push (seqObj "list" #[] 0)).get? a=some (seqObj "list" #[] e1):=Pc _ (Pc _ ho1)
 dsimp only
 generalize (((s.heap.update a (P1 λ_=> #[])).push (seqObj "tuple" vs.toArray 0)).push (seqObj "list" #[] 0))=h1 at hks k1 ho6 |-
 have hak:a≠kS:=kne a lta
 refine O6 (Qz ?_)
 refine O6 (Qd (wpAny_forIn_array' _ (λrest _ s'=>∃ (dn:List Value) (ks:List Value) (ms:List Int) (hh:Heap) (tk e:Nat),vs=dn++rest/\s'={ s with heap:=hh,toks:=tk }/\IntsAre ks ms/\ks.length=dn.length/\hh.get? kS=some (seqObj "list" ks.toArray e)/\∀ c o,c≠kS->h1.get? c=some o->hh.get? c=some o)
  (λ_ s'=>∃ (ks:List Value) (ms:List Int) (hh:Heap) (tk e:Nat),s'={ s with heap:=hh,toks:=tk }/\IntsAre ks ms/\ks.length=vs.length/\hh.get? kS=some (seqObj "list" ks.toArray e)/\∀ c o,c≠kS->h1.get? c=some o->hh.get? c=some o) ?turn ?fin _ _ ?beg) ?rest λ_ _ e=>e)
 case beg=>exact ⟨[],[],[],h1,_,0,rfl,rfl,.nil,rfl,hks,λ_ _ _ q=>q⟩
 case fin =>
  rintro _ s' ⟨dn,ks,ms,hh,tk,e,e1,e2,e3,e4,e5,e6⟩
  rw [Qp] at e1
  exact ⟨ks,ms,hh,tk,e,e2,e3,by rw [e4,e1],e5,e6⟩
 case turn =>
  rintro v rest _ s' ⟨dn,ks,ms,hh,tk,e,ev,rfl,e3,e4,e5,e6⟩
  obtain ⟨l,items,rfl,hla,hli,hsz⟩:=hv v (by rw [ev]; simp)
  obtain ⟨o,q1,q2,q3⟩:=hli
  have hl':hh.IsList l items:=⟨o,e6 l o (kne l (Pf q1)) (k1 l o hla q1),q2,q3⟩
  refine O6 (RB (call_len_list hl' (by have:=nN; lia) ?_))
  dsimp only
  have hkl:ks.length<=sizeLine:=by rw [e4]; have:=congrArg SG ev; simp at this; lia
  refine O6 (QV e5 rfl ?_ (by simpa using hkl) (by simp; lia))
  refine O8 ⟨dn++[.ref l],ks++[.int items.size (tk+1)],ms++[(items.size:Int)],_,_,e+1,by rw [ev]; simp,rfl,e3.append (.cons _ _ .nil),by simp [e4],?_,λc o hc q=>?_⟩
  ·have:=Uq e5 (λa=>a.push (.int items.size (tk+1)))
   simpa using this
  ·rw [Rn _ _ _ _ hc]; exact e6 c o hc q
 case rest =>
  rintro _ s' ⟨ks,ms,hh,tk,e,rfl,e3,e4,e5,e6⟩
  refine O6 (R5 e5 rfl ?_)
  have zl:(ks.toArray.zip vs.toArray).toList=ks.zip vs:=by rw [Array.toList_zip]
  have hoa:=e6 a _ hak ho6
  have pl:∀ {st':SortSt},(arrOf st').toList.Perm (ks.zip vs)->((arrOf st').map (·.2)).toList.Perm vs:=λ{st'} hp=>by
   rw [Vz]
   have:=hp.map (·.2)
   rwa [vC e4] at this
  have ho7:(hh.update kS (P1 λ_=>(#[]:Array Value))).get? a=some (seqObj "list" #[] e1):=by rw [Rn _ _ _ _ hak]; exact hoa
  have fin:∀ (out:Array Value),out.toList.Perm vs->P (.done (.ret .none)) { s with heap:=(hh.update kS (P1 λ_=>(#[]:Array Value))).update a (P1 λ_=>out),toks:=tk }:=λout hp =>
   h out _ _ _ hp (Uq ho7 (λ_=>out)) λc o hc q=>by
    have lc:=Pf q
    rw [Rn _ _ _ _ hc,Rn _ _ _ _ (kne c lc)]
    exact e6 c o (kne c lc) (k1 c o hc q)
  have hkz:(ks.toArray:Array Value).size<=sizeLine:=by rw [PF,e4]; exact hz
  have oz:∀ {out:Array Value},out.toList.Perm vs->out.size<=sizeLine+1:=λ{out} hp=>by
   have l:=hp.length_eq
   rw [Qn] at l; lia
  by_cases h2:vs.toArray.size<2
  ·rw [if_pos h2,if_pos h2]
   refine O6 (O8 ?_)
   rw [StateT.run_pure]
   refine O6 (O8 ?_)
   dsimp only
   have p0:=pl (st':=RK general' (ks.toArray.zip vs.toArray) #[] 7 none) (by show (ks.toArray.zip vs.toArray).toList.Perm _; rw [zl])
   refine O6 (QV e5 rfl ?_ hkz)
   refine O6 (R8 ?_)
   refine O6 (SE ho7 rfl (O6 (QV ho7 rfl ?_ (hsz2:=oz p0))))
   simp only [bne_self_eq_false,Qj,if_false]
   exact O8 (fin _ p0)
  ·rw [if_neg h2,if_neg h2]
   rw [ksk_kind (kz:=ms) e3 (by rw [PF,e4]; simpa using h2)]
   refine O6 (O8 ?_)
   have hC:gT prog w A { s with heap:=hh,toks:=tk } oneType' intOf (ks.zip vs):=λx hx y hy E Q hQ=>by
    obtain ⟨m,t,ex⟩:=vD e3 hx
    obtain ⟨m',t',ey⟩:=vD e3 hy
    unfold intOf at hQ
    rw [ex,ey] at hQ |-
    rw [keyLt'_oneType]
    exact oneLt_int hQ
   refine O6 (Qd (wpS_sortRuns (κ:=oneType') (rk:=intOf) (L:=ks.zip vs) (st:=RK oneType' (ks.toArray.zip vs.toArray) #[] 7 none)
    (Q:=λ_ st'=>(arrOf st').toList.Perm (ks.zip vs)/\failedOf st'=none) hC ⟨(by show (ks.toArray.zip vs.toArray).toList.Perm _; rw [zl]),rfl,rfl⟩ rfl λst' a1 a2=>⟨a1.perm,a1.failed⟩) ?_ λ_ _ e=>e)
   rintro ⟨⟨⟩,st'⟩ s' ⟨rfl,hp,hf⟩
   dsimp only
   refine O6 (QV e5 rfl ?_ hkz)
   refine O6 (R8 ?_)
   refine O6 (SE ho7 rfl (O6 (QV ho7 rfl ?_ (hsz2:=oz (pl hp)))))
   rw [hf]
   simp only [bne_self_eq_false,Qj,if_false]
   exact O8 (fin _ (pl hp))
end SR
namespace EV
open PySem PySem.Spec PySem.Calls PyProof.Rows L2
theorem xF (b) (x y):keyLt' (tuples' b) x y=(do
 let xs <- RT x
 let ys <- RT y
 for ((p,q),i) in (xs.toList.zip ys.toList).zipIdx do
  if !(<- eqBool p q) then return <- oneLt' (b && i == 0) p q
 return decide (xs.size<ys.size)):=rfl
theorem vE:∀ l:List Int,HT.lexLt l l=false
 | []=>rfl
 | x::l=>by rw [HT.cY,if_pos rfl]; exact vE l
theorem AU:∀ {a b c:List Int},HT.lexLt a b=true->HT.lexLt b c=true->HT.lexLt a c=true
 | [],[],_,h,_=>by cases h
 | [],_::_,[],_,h=>by cases h
 | [],_::_,_::_,_,_=>rfl
 | _::_,[],_,h,_=>by cases h
 | _::_,_::_,[],_,h=>by cases h
 | x::a,y::b,z::c,h,g=>by
  rw [HT.cY] at h g |-
  by_cases e:x=y
  ·subst e
   rw [if_pos rfl] at h
   by_cases f:x=z
   ·subst f; rw [if_pos rfl] at g |-; exact AU h g
   ·rw [if_neg f] at g |-; exact g
  ·rw [if_neg e] at h
   have h:=of_decide_eq_true h
   by_cases f:y=z
   ·subst f; rw [if_neg e]; exact decide_eq_true h
   ·rw [if_neg f] at g
    have g:=of_decide_eq_true g
    rw [if_neg (by lia)]; exact decide_eq_true (by lia)
theorem oH:∀ {a b:List Int},a≠b->HT.lexLt a b=true\/HT.lexLt b a=true
 | [],[],h=>absurd rfl h
 | [],_::_,_=>.inl rfl
 | _::_,[],_=>.inr rfl
 | x::a,y::b,h=>by
  rw [HT.cY,HT.cY]
  by_cases e:x=y
  ·subst e
   rw [if_pos rfl,if_pos rfl]
   exact oH λz=>h (by rw [z])
  ·rw [if_neg e,if_neg (Py e)]
   rcases Int.lt_or_gt_of_ne e with z | z
   ·exact .inl (decide_eq_true z)
   ·exact .inr (decide_eq_true z)
noncomputable abbrev aD:=List Int×Int
noncomputable def cR (x y:aD):Bool:=if x.1=y.1 then decide (x.2<y.2) else HT.lexLt x.1 y.1
theorem jZ (L:List aD):SR.Ky cR L where
 irr:=λx _=>by unfold cR; rw [if_pos rfl]; exact decide_eq_false (Int.lt_irrefl _)
 tr:=λx _ y _ z _ h g=>by
  unfold cR at *
  by_cases e:x.1=y.1
  ·rw [if_pos e] at h
   by_cases f:y.1=z.1
   ·rw [if_pos f] at g; rw [if_pos (e.trans f)]
    exact decide_eq_true (Int.lt_trans (of_decide_eq_true h) (of_decide_eq_true g))
   ·rw [if_neg f] at g; rw [if_neg (λw=>f (e.symm.trans w)),e]; exact g
  ·rw [if_neg e] at h
   by_cases f:y.1=z.1
   ·rw [if_neg (λw=>e (w.trans f.symm)),<- f]; exact h
   ·rw [if_neg f] at g
    have q:=AU h g
    rw [if_neg λw=>by rw [w,vE] at q; cases q]; exact q
 tot:=λx _ y _ h=>by
  unfold cR
  by_cases e:x.1=y.1
  ·rw [if_pos e,if_pos e.symm]
   have:x.2≠y.2:=λz=>h (Prod.ext e z)
   rcases Int.lt_or_gt_of_ne this with z | z
   ·exact .inl (decide_eq_true z)
   ·exact .inr (decide_eq_true z)
  ·rw [if_neg e,if_neg (Py e)]
   exact oH e
noncomputable abbrev av (t:aD):D:=.tup [.tup (t.1.map .int),.int t.2]
section
variable {X:Cx}
def oJ (K:O7) (Hf:Hp) (d:D) (u:Value):Prop:=∃ v,RelV v u/\Rep K Hf d v
theorem qQ (l m:List Int):jT 1 (.tup (l.map .int)) (.tup (m.map .int)):=.tup λi d e h1 h2=>by
 simp only [Pk,Pq] at h1 h2
 obtain ⟨x,_,rfl⟩:=h1
 obtain ⟨y,_,rfl⟩:=h2
 exact .sc rfl
theorem Et (x y):jT 2 (av x) (av y):=.tup λi d e h1 h2=>by
 rcases i with _ | _ | i
 ·simp at h1 h2; subst h1 h2; exact qQ _ _
 ·simp at h1 h2; subst h1 h2; exact .sc rfl
 ·simp at h1
theorem AV (h:av x=av y):x=y:=by
 simp only [D.tup.injEq,List.cons.injEq,D.int.injEq,and_true] at h
 have e:x.1=y.1:=by
  exact (List.map_inj_right (f:=D.int) (λa b e=>by injection e)).mp h.1
 exact Prod.ext e h.2
theorem iH:∀ {l:List Int} {ys:List V},ak X.K Hf (l.map D.int) ys->ys=l.map V.int
 | [],ys,h=>aB.mp h
 | n::l,ys,h=>by
  obtain ⟨y,r,rfl,z1,z2⟩:=aF.mp h
  rw [aA] at z1; subst z1
  rw [iH z2]; rfl
theorem Eu (I:Inv X aa σ H s) (sb:aM Hf H) (h1:oJ X.K Hf (av x) u) (h2:oJ X.K Hf (av y) u):x=y:=by
 obtain ⟨v,r1,q1⟩:=h1
 obtain ⟨v',r2,q2⟩:=h2
 have:=r1.inj r2
 subst this
 exact AV (nZ I sb 2 _ _ _ (Et x y) q1 q2)
theorem oM (I:Inv X aa σ H s) (sb:aM Hf H) (h:oJ X.K Hf (av x) u):∃ a b its t,u=.ref a/\IsTup s.heap a #[.ref b,.int x.2 t]/\IsTup s.heap b its/\IntsAre its.toList x.1/\oJ X.K Hf (.tup (x.1.map .int)) (.ref b):=by
 obtain ⟨v,rv,q⟩:=h
 obtain ⟨a,xs,rfl,h1,h2⟩:=aG.mp q
 cases rv
 obtain ⟨p,r,rfl,q1,q2⟩:=aF.mp h2
 obtain ⟨p2,r2,rfl,q3,q4⟩:=aF.mp q2
 rw [aB] at q4; subst q4
 rw [aA] at q3; subst q3
 obtain ⟨its,rel,tu,_⟩:=I.tuple (az sb h1)
 cases rel with
 | cons r1 t1=>cases t1 with
  | cons r2 t2 =>
   cases t2
   obtain ⟨t,rfl⟩:=r2
   obtain ⟨b,ys,rfl,h3,h4⟩:=aG.mp q1
   cases r1
   obtain ⟨its2,rel2,tu2,_⟩:=I.tuple (az sb h3)
   refine ⟨a,b,its2.toArray,t,rfl,tu,tu2,?_,.ref b,rfl,aG.mpr ⟨b,ys,rfl,h3,h4⟩⟩
   have e:=iH h4
   subst e
   exact intsAre_of rel2
theorem gJ:∀ (l:List α) (r:List β) {Q:List β->Shared->Prop},Paired (λa b=>∀ (Q:β->Shared->Prop),Q b s->wpAny M A (f a) Q E s) l r->Q r s->wpAny M A (l.mapM f) Q E s
 | _,_,Q,.nil,h=>by rw [List.mapM_nil]; exact O8 h
 | _,_,Q,.cons q t,h=>by
  rw [List.mapM_cons]
  exact O6 (q _ (O6 (gJ _ _ t (O8 h))))
theorem AW (I:Inv X aa σ H s) (sb:aM Hf H) (h:Paired (λx u=>oJ X.K Hf (av x) u) L us) (h2:2<=us.length) (hQ:Q (tuples' false) s):wpAny (model X.prog X.w) A (keyKind' us.toArray) Q E s:=by
 have key:∃ fs:List Value,fs.length=us.length/\(∀ f∈fs,s.TypeIs f "tuple")/\Paired (λu o=>∀ (Q:Option Value->Shared->Prop),Q o s->wpAny (model X.prog X.w) A (firstOfTuple' u) Q E s) us (fs.map some):=by
  clear h2 hQ
  induction h with
  | nil=>exact ⟨[],rfl,by simp,.nil⟩
  | @cons x u L us r t ih =>
   obtain ⟨fs,e1,e2,e3⟩:=ih
   obtain ⟨a,b,its,tk,rfl,t1,t2,_⟩:=oM I sb r
   refine ⟨.ref b::fs,by simp [e1],λf hf=>?_,.cons (λQ hQ=>?_) e3⟩
   ·rcases Pg.mp hf with rfl | hf
    ·obtain ⟨o,ho,hc,_⟩:=t2; exact ⟨o,ho,hc⟩
    ·exact e2 f hf
   ·obtain ⟨o,ho,hc,n,hd⟩:=t1
    show wpAny _ _ (do
     if (<- typeOf (.ref a)) != .type "tuple" then return none
     return (<- RT (.ref a))[0]?) _ _ _
    refine O6 (RC (T:="tuple") ⟨o,ho,hc⟩ ?_)
    rw [if_neg (by simp)]
    exact O6 (R5 ho hd (O8 hQ))
 obtain ⟨fs,e1,e2,e3⟩:=key
 rw [keyKind'_eq,List.mapM_toArray]
 simp only [bind_map_left]
 refine O6 (gJ _ _ e3 ?_)
 rw [if_pos (by simp)]
 refine O6 (Qz ?_)
 have e4:(List.map some fs).toArray.filterMap id=fs.toArray:=by simp
 rw [e4,oneTypeOnly'_eq,List.mapM_toArray]
 simp only [bind_map_left]
 have e5:Paired (λu o=>∀ (Q:Value->Shared->Prop),Q o s->wpAny (model X.prog X.w) A (typeOf u) Q E s) fs (fs.map λ_=>QD "tuple"):=by
  clear e1 e3 e4
  induction fs with
  | nil=>exact .nil
  | cons f fs ih=>exact .cons (λQ hQ=>RC (e2 f Po) hQ) (ih λg hg=>e2 g (Pj _ hg))
 refine O6 (O6 (gJ _ _ e5 ?_))
 obtain ⟨f,fs',rfl⟩:∃ f fs',fs=f::fs':=by
  match fs,e1 with
  | [],e1=>simp at e1; lia
  | f::fs',_=>exact ⟨f,fs',rfl⟩
 have h0:(List.map (λ_=>QD "tuple") (f::fs')).toArray[0]?=some (QD "tuple"):=by simp
 rw [h0]
 dsimp only
 rw [if_pos (by simp)]
 refine O8 (O8 ?_)
 have e6:(some (QD "tuple")).any (λx=>x != QD "tuple")=false:=by simp
 rw [e6]
 exact hQ
theorem IP (I:Inv X aa σ H s) (sb:aM Hf H) (hA:A.units+10<cLine) (hx:oJ X.K Hf (av x) u) (hy:oJ X.K Hf (av y) v) (hQ:Q (cR x y) s):wpAny (model X.prog X.w) A (keyLt' (tuples' false) u v) Q E s:=by
 obtain ⟨a,b,its,t,rfl,⟨o,ho,hc,n,hd⟩,t2,i2,z1⟩:=oM I sb hx
 obtain ⟨a',b',its',t',rfl,⟨o',ho',hc',n',hd'⟩,t2',i2',z2⟩:=oM I sb hy
 rw [xF]
 refine O6 (R5 ho hd (O6 (R5 ho' hd' ?_)))
 obtain ⟨w1,r1,q1⟩:=z1
 obtain ⟨w2,r2,q2⟩:=z2
 have e1:PN A s (.ref b) (.ref b') (decide (D.tup (x.1.map .int)=D.tup (y.1.map .int))):=mR I sb 1 _ _ _ _ _ _ A (qQ x.1 y.1) q1 q2 r1 r2 (by lia)
 have e2:decide (D.tup (x.1.map D.int)=D.tup (y.1.map D.int))=decide (x.1=y.1):=by
  by_cases z:x.1=y.1
  ·rw [z]; simp
  ·have:¬ D.tup (x.1.map D.int)=D.tup (y.1.map D.int):=λw=>by
    injection w with w
    exact z ((List.map_inj_right (f:=D.int) (λa b e=>by injection e)).mp w)
   rw [decide_eq_false this,decide_eq_false z]
 rw [e2] at e1
 have ez:((#[PJ b,RN x.2 t]:Array Value).toList.zip (#[PJ b',RN y.2 t']:Array Value).toList).zipIdx=[((PJ b,PJ b'),0),((RN x.2 t,RN y.2 t'),1)]:=rfl
 rw [ez]
 have lti:∀ (bb:Bool) (m n:Int) (t u:Tok) (Q:Bool->Shared->Prop),Q (decide (m<n)) s->wpAny (model X.prog X.w) A (oneLt' (false && bb) (.int m t) (.int n u)) Q E s:=λbb m n t u Q h=>by
  rw [Bool.false_and,oneLt'_eq,if_neg Pn]
  exact O6 (lt_int (O8 h))
 simp only [R3,List.forIn_nil]
 refine O6 (O6 (O6 (e1 _ _ _ _ ?_)))
 unfold cR at hQ
 by_cases z:x.1=y.1
 ·rw [if_pos z] at hQ
  rw [decide_eq_true z]
  simp only [R4,Qj,if_false]
  refine O8 ?_
  dsimp only
  refine O6 (O6 ?_)
  refine wpAny_eqBool_int ?_
  by_cases w:x.2=y.2
  ·rw [show (x.2 == y.2)=true by simpa using w]
   simp only [R4,Qj,if_false]
   refine O8 (O8 ?_)
   dsimp only
   refine O8 ?_
   rw [w] at hQ
   simpa using hQ
  ·rw [show (x.2 == y.2)=false by simpa using w]
   simp only [Bool.not_false,if_true]
   refine O6 (lti _ _ _ _ _ _ (O8 ?_))
   dsimp only
   exact O8 (O8 hQ)
 ·rw [if_neg z] at hQ
  rw [decide_eq_false z]
  simp only [Bool.not_false,if_true]
  refine O6 ?_
  rw [Bool.false_and,oneLt'_eq,if_neg Pn]
  refine O6 (HT.sH (s:=s) t2 t2' i2 i2' (by lia) ?_)
  refine O8 (O8 ?_)
  dsimp only
  exact O8 (O8 hQ)
end
noncomputable abbrev Gq (X:Cx) (A:Around):Cx:={ X with A:=A }
theorem LW (ok:X.Ok) (h1:X.calm=true->A.handled=none) (h2:A.frames=some X.stack):(Gq X A).Ok :=
 ⟨ok.mod,ok.kind,ok.glob,ok.blt,ok.above,ok.inj,ok.has,ok.cab,h1,h2,ok.stk,ok.exf,ok.bs,ok.bsz,ok.noex,ok.exfs,ok.iY,ok.frf⟩
theorem kW (I:Inv X aa σ H s) (h1:X.calm=true->A.handled=none) (h2:A.frames=some X.stack):Inv (Gq X A) aa σ H s :=
 ⟨LW I.ok h1 h2,I.os,I.bare,I.base,I.loc,I.cell,I.free,I.freeC,I.pin,I.hok,I.len⟩
theorem iI (ok:X.Ok) (I:Inv (Gq X A) aa σ H s):Inv X aa σ H s :=
 ⟨ok,I.os,I.bare,I.base,I.loc,I.cell,I.free,I.freeC,I.pin,I.hok,I.len⟩
theorem Ew {fp:List Addr} (h:∀ b∈fp,dR X aa H b) (n:∀ b∈fp,H' b=none):∀ b∈fp,dR X aa H' b:=λb hb=>⟨n b hb,(h b hb).2⟩
theorem AX (hc:X.calm=true) (Tn:Turn X.prog X.w X.K (.Name nm np) J fp it tn) (io:i8 X.K J ds De)
 (hS0:Hb S=none) (hSf:S∉fp) (hn:ds.length<=sizeLine) (okX:X.Ok) (h1:X.A.in1.handled=none) (h2:X.A.in1.frames=some X.stack)
 (fin:∀ (s':Shared) (H' aj:Hp) (xs:List V),Inv X aa σ H' s'->H' S=some (.lst xs)->aj S=none->ak X.K aj ds xs->br Hb De H' aj->R (.ok (.ret res)) s') :
 ∀ (k i:Nat) (s:Shared) (H Hf:Hp) (xs:List V),ds.length - i=k->i<=ds.length->Inv X aa σ H s->tn i s.heap->(∀ b∈fp,dR X aa H b)->H S=some (.lst xs)->Hf S=none->ak X.K Hf (ds.take i) xs->br Hb De H Hf ->
  codeAny (model X.prog X.w) X.A (.builtin "list.extend.loop" ⟨[.ref S,.ref it,res],[]⟩) R s:=by
 intro k
 induction k with
 | zero =>
  intro i s H Hf xs hk hi I t hf hS hfS hr g
  have e:i=ds.length:=by omega
  subst e
  rw [QC] at hr
  refine SY PySem.F.entry_extend_loop ?_
  rw [T4 TJ _]
  show wpAny _ X.A.in1 (pyNext (.ref it) >>= _) _ _ s
  refine O6 (Qd (Tn.done (Gq X X.A.in1) rfl rfl rfl hc _ aa s σ H _ (kW I (λ_=>h1) h2) hf t (io.stop _ H Hf g.f g.b (Pa _))) (λr s' ⟨e,I'⟩=>?_) λ_ _ x=>x)
  subst e
  exact O8 (fin s' H Hf xs (iI okX I') hS hfS hr g)
 | succ k ih =>
  intro i s H Hf xs hk hi I t hf hS hfS hr g
  have lt:i<ds.length:=by omega
  have ed:ds[i]?=some ds[i]:=PU lt
  obtain ⟨hgo,hy⟩:=io.go i ds[i] H Hf g.f g.b ed
  refine SY PySem.F.entry_extend_loop ?_
  rw [T4 TJ _]
  show wpAny _ X.A.in1 (pyNext (.ref it) >>= _) _ _ s
  refine O6 (Qd (Tn.item (Gq X X.A.in1) rfl rfl rfl hc i aa s σ H _ (kW I (λ_=>h1) h2) hf t hgo) (λr s1 ⟨u,e,hu⟩=>?_) λ_ _ x=>x)
  subst e
  show wpAny _ X.A.in1 (letOwnedTupleGo (.Name nm np) (.ref it) u >>= λ_=>(Ru (.ref S) (·.push u) >>= λ_=>again (.builtin "list.extend.loop" ⟨[.ref S,.ref it,res],[]⟩))) _ _ s1
  refine O6 (Qd hu (λ_ s2 ⟨x,H',I2,rx,y,t2,n2⟩=>?_) λ_ _ x=>x)
  have I2:=iI okX I2
  obtain ⟨aj,g',rd⟩:=hy x H' y
  have hS':H' S=some (.lst xs):=g'.s _ _ hS
  have hfS':aj S=none:=g'.n S hfS (by rw [hS]; simp) (by intro ys; rw [hS]; simp)
  obtain ⟨z,its,n,rv,el,eo⟩:=I2.p7 hS'
  have hx:xs.length=i:=by rw [<- hr.length,Qk]; omega
  have hz:(xs++[x]).length<=sizeLine:=by simp only [P0,Qg,Rg]; omega
  refine O6 (QV eo rfl ?_ (by simp; omega) (by simp; omega))
  have ef:(λa:Array Value=>a.push u) its.toArray=(its++[u]).toArray:=by simp
  have I3:=I2.sM (f:=λa=>a.push u) (t':=s2.toks) hS' eo ef (rv.append (.cons rx .nil)) hz
  refine O8 ⟨plainId_quiet TJ _,ih (i+1) _ (upd H' S (.lst (xs++[x]))) aj (xs++[x]) (by omega) lt I3 (Tn.keep _ _ _ t2 λb hb o e=>?_) (Ew hf λb hb=>?_) af hfS' ?_ (oi (g.trans g') hS0 hfS')⟩
  ·exact (TX _ _ (λw:S=b=>hSf (w ▸ hb))).trans e
  ·rw [ah (λw:b=S=>hSf (w ▸ hb))]; exact n2 b hb
  ·rw [Vn,ed]
   exact (hr.mono g'.f).append (ak.one rd)
theorem xG (hT:s.TypeIs (.ref v) "dict_items") (hQ:Q false s):wpAny (model prog w) A (Sj (.ref v)) Q E s:=by
 unfold Sj
 refine O6 (wpAny_specialOf hT PySem.F.slot_dict_items_len.lookup ?_)
 have e:splitId "dict_items.__len__"=some ("dict_items","__len__"):=by decide +kernel
 dsimp only
 rw [e]
 dsimp only
 refine O6 (Ug (b:=true) hT (by rw [isSubtype_type]; kernel_rfl) ?_)
 rw [if_neg (by decide)]
 exact O6 (RC hT (O8 hQ))
theorem Ey (I:Inv X aa σ H s) (hv:s.heap.IsItemsView v d) (hH:H d=some (.frz o u)) (hd:HO.dct u) :
 wpAny (model X.prog X.w) A (pyIter (.ref v)) (λitv s2=>∃ (it:Addr) (es:Array DictEntry) (ep:Nat),itv=.ref it/\s.heap.objs.size<=it/\Inv X aa σ H s2/\Turn X.prog X.w X.K tg (M3 d o u) [it] it (λi h=>Az h it d i es.size ep)/\Az s2.heap it d 0 es.size ep/\(∀ b∈[it],dR X aa H b) /\
  (∀ b o,s.heap.get? b=some o->s2.heap.get? b=some o)) E s:=by
 obtain ⟨ho,ok⟩:=(show bz X.prog X.w H s.heap d (.frz o u) from I.hok d _ hH)
 obtain ⟨hx,es,ep,hod,hp,hs,hz⟩:=di ok hd ho
 refine mU hv ho hod ?_
 have hsz:es.size=(cG u).length:=by rw [Q4 hp]; simp
 refine ⟨_,es,ep,rfl,Pa _,I.kept (t':=s.toks) λb o e=>Pc _ e,kJ (o:=o) (u:=u) (es:=es) (ep:=ep) hd hod (λz=>?_) hsz,⟨.none,false,.none,.none,Pp _ rfl,.inl rfl⟩,λb hb=>?_,λb o e=>Pc _ e⟩
 ·have lt:=Pf ho
  rw [<- z] at lt
  exact absurd lt (QW _)
 ·have e:b=s.heap.objs.size:=by simpa using hb
  subst e
  exact I.j9 (Pa _) (I.hok.fresh (Pa _))
theorem nh (hc:X.calm=true) (h1:X.A.in1.handled=none) (h2:X.A.in1.frames=some X.stack) (I1:Inv X aa σ (upd H S (.lst [])) s) (sb:aM Hf H) (HS:H S=none) (hvS:S≠src) (hltS:S<s.heap.objs.size) (hn:ds.length<=sizeLine)
 (hT:(false || QD T == QD "list" || QD T == QD "tuple")=false) (ty:∀ s':Shared,(∀ b o,s.heap.get? b=some o->s'.heap.get? b=some o)->s'.TypeIs (.ref src) T)
 (hint:∀ (A:Around) (s':Shared) (Q:Bool->Shared->Prop) (E:Value->Shared->Prop),s'.TypeIs (.ref src) T->Q false s'->wpAny (model X.prog X.w) A (Sj (.ref src)) Q E s')
 (iter:wpAny (model X.prog X.w) X.A.in1 (pyIter (.ref src)) (λitv s2=>∃ (it:Addr) (tn:Nat->Heap->Prop) (J:It),itv=.ref it /\
   s.heap.objs.size<=it/\Inv X aa σ (upd H S (.lst [])) s2/\Turn X.prog X.w X.K (.Name "x" ⟨0,0,0,0⟩) J [it] it tn/\tn 0 s2.heap/\(∀ b∈[it],dR X aa (upd H S (.lst [])) b)/\(∀ b o,s.heap.get? b=some o->s2.heap.get? b=some o)/\i8 X.K J ds Hf) E s)
 (hR:∀ (s':Shared) (H' aj:Hp) (xs:List V),Inv X aa σ H' s'->H' S=some (.lst xs)->aj S=none->ak X.K aj ds xs->br H Hf H' aj->R (.ok (.ret res)) s') :
 wpAny (model X.prog X.w) X.A.in1 (TF (.ref S) (.ref src) res) (λfin s'=>match fin with | .done f=>R (.ok f) s' | .again c=>c.quiet=true/\codeAny (model X.prog X.w) X.A c R s') E s:=by
 unfold TF
 have ne:Builtin.List.listSameRef (.ref S) (.ref src)=false:=by simp [Builtin.List.listSameRef,hvS]
 refine O6 (RC (ty s λ_ _ e=>e) ?_)
 rw [if_neg (by rw [ne,hT]; decide)]
 refine O6 (Qd iter (λitv s2 hh=>z3 hh λit tn J hh=>w8 hh λe hit I2 Tn t0 hf k2 io=>?_) λ_ _ x=>x)
 subst e
 refine O6 (QL (hint _ s2 _ _ (ty s2 k2) ?_))
 have hSne:it≠S:=RE (Qo hltS hit)
 have g0:br H Hf (upd H S (.lst [])) Hf:=br.eU sb HS
 have fin:∀ s3:Shared,Inv X aa σ (upd H S (.lst [])) s3->tn 0 s3.heap->wpAny (model X.prog X.w) X.A.in1 (again (.builtin "list.extend.loop" ⟨[.ref S,.ref it,res],[]⟩)) (λfin s'=>match fin with | .done f=>R (.ok f) s' | .again c=>c.quiet=true/\codeAny (model X.prog X.w) X.A c R s') E s3:=λs3 I3 t3 =>
  O8 ⟨plainId_quiet TJ _,AX (X:=X) (Hb:=H) (De:=Hf) hc Tn io HS (λm=>hSne (PB.mp m).symm) hn I1.ok h1 h2 hR ds.length 0 s3 _ Hf [] (by simp) (PY _) I3 t3 hf af (sb.free HS) (aB.mpr rfl) g0⟩
 obtain ⟨_,its,n,rv,el,eo⟩:=I2.p7 (l:=S) (xs:=[]) af
 cases rv
 split
 ·refine O6 (Qz ?_)
  unfold Builtin.List.listTouch
  refine O6 (O6 (QV eo rfl ?_))
  have I3:=I2.sM (f:=λa=>a.push .none) (its':=[.none]) (ys:=[.non]) (t':=s2.toks) af eo (by simp) (.cons rfl .nil) (by show 1<=sizeLine; decide)
  obtain ⟨_,its3,n3,rv3,el3,eo3⟩:=I3.p7 (l:=S) (xs:=[.non]) af
  cases rv3 with
  | cons r3 t3 =>
   cases t3
   cases r3
   refine QV eo3 rfl ?_
   have I4:=I3.sM (f:=λa=>a.pop) (its':=[]) (ys:=[]) (t':=s2.toks) af eo3 (by simp) .nil (PY _)
   rw [jO,jO] at I4
   refine fin _ I4 (Tn.keep 0 _ _ t0 λb hb o e=>?_)
   have hbS:S≠b:=λw=>hSne (by rw [PB.mp hb] at w; exact w.symm)
   exact (TX _ _ hbS).trans ((TX _ _ hbS).trans e)
 ·exact fin s2 I2 t0
theorem tD (hc:X.calm=true) (h1:X.A.in1.handled=none) (h2:X.A.in1.frames=some X.stack) (I:Inv X aa σ H s) (sb:aM Hf H) (hlt:src<s.heap.objs.size) (hn:ds.length<=sizeLine) (hT:(false || QD T == QD "list" || QD T == QD "tuple")=false)
 (ty:∀ s':Shared,(∀ b o,s.heap.get? b=some o->s'.heap.get? b=some o)->s'.TypeIs (.ref src) T)
 (hint:∀ (A:Around) (s':Shared) (Q:Bool->Shared->Prop) (E:Value->Shared->Prop),s'.TypeIs (.ref src) T->Q false s'->wpAny (model X.prog X.w) A (Sj (.ref src)) Q E s')
 (iter:∀ (A:Around) (s1:Shared) (H1:Hp) (E:Value->Shared->Prop),Inv X aa σ H1 s1->aM Hf H1->(∀ b o,s.heap.get? b=some o->s1.heap.get? b=some o)->wpAny (model X.prog X.w) A (pyIter (.ref src)) (λitv s2=>∃ (it:Addr) (tn:Nat->Heap->Prop) (J:It),itv=.ref it /\
   s1.heap.objs.size<=it/\Inv X aa σ H1 s2/\Turn X.prog X.w X.K (.Name "x" ⟨0,0,0,0⟩) J [it] it tn/\tn 0 s2.heap/\(∀ b∈[it],dR X aa H1 b)/\(∀ b o,s1.heap.get? b=some o->s2.heap.get? b=some o)/\i8 X.K J ds Hf) E s1)
 (hQ:∀ (us:List Value) (s':Shared) (H' aj:Hp) (xs:List V),Inv X aa σ H' s'->Vals xs us->ak X.K aj ds xs->br H Hf H' aj->ds.length<=sizeLine->Q us s'):wpAny (model X.prog X.w) X.A (collect (.ref src)) Q E s:=by
 unfold collect
 refine O6 (wpAny_runValue (SY PySem.F.entry_proto_collect ?_))
 rw [T4 PySem.F.plain_proto_collect _]
 show wpAny _ X.A.in1 (newList [] >>= λl=>again (.builtin "list.__iadd__" ⟨[l,.ref src],[]⟩)) _ _ s
 have HS:H s.heap.objs.size=none:=I.hok.fresh (Pa _)
 have hvS:s.heap.objs.size≠src:=RE hlt
 refine O6 (QB (O8 ⟨plainId_quiet PySem.F.plain_list_iadd _,SY PySem.F.entry_list_iadd ?_⟩))
 rw [T4 PySem.F.plain_list_iadd _]
 generalize hS:s.heap.objs.size=S at *
 have I1:Inv X aa σ (upd H S (.lst [])) { s with heap:=s.heap.push { cls:=.type "list",data:=.seq ([]:List Value).toArray },toks:=s.toks }:=by
  have:=I.Dw (t':=s.toks) (ys:=[]) (its:=[]) .nil (PY _)
  rw [hS] at this
  exact this
 show wpAny _ X.A.in1 (TF (.ref S) (.ref src) (.ref S)) _ _ { s with heap:=s.heap.push { cls:=.type "list",data:=.seq ([]:List Value).toArray } }
 have k1:∀ b o,s.heap.get? b=some o->(s.heap.push { cls:=.type "list",data:=.seq ([]:List Value).toArray }).get? b=some o:=λb o e=>Pc _ e
 generalize hs1:({ s with heap:=s.heap.push { cls:=.type "list",data:=.seq ([]:List Value).toArray } }:Shared)=s1
 replace I1:Inv X aa σ (upd H S (.lst [])) s1:=by rw [<- hs1]; exact I1
 replace k1:∀ b o,s.heap.get? b=some o->s1.heap.get? b=some o:=by rw [<- hs1]; exact k1
 have hltS:S<s1.heap.objs.size:=by rw [<- hs1,<- hS]; show _<(Heap.push _ _).objs.size; rw [Q3]; exact RZ _
 refine nh (R:=λr s'=>match r with
  | .ok (.ret v)=>wpAny (model X.prog X.w) X.A (do
   let .ref a:=v | unsupported "internal:collect"
   let o <- load a
   match o.data with
   | .seq xs _=>pure xs.toList
   | _=>unsupported "internal:collect") Q E s'
  | .ok _=>False
  | .error e=>E e s') hc h1 h2 I1 sb HS hvS hltS hn hT (λs' k=>ty s' λb o e=>k b o (k1 b o e)) hint (iter _ s1 _ _ I1 (br.eU sb HS (o:=.lst [])).b k1) λs' H' aj xs I' hS' _ hr g=>?_
 obtain ⟨_,its,n,rv,el,eo⟩:=I'.p7 hS'
 exact O6 (wpAny_load eo (O8 (hQ its s' H' aj xs I' rv hr g hn)))
noncomputable def IQ (te:TE):TE:=λσ H Q=>te σ H λx H1=>∃ d o u,x=.ref d/\H1 d=some (.frz o u)/\HO.dct u/\∀ v,H1 v=none->Q (.ref v) (upd H1 v (.ext λh=>h.IsItemsView v d))
theorem AY (he:PE X e te) (hbase:attributeBase e "items" X.env (eval e X.env)=eval e X.env) (hline:(ap.endLine == cp.line)=true):PE X (.Call (.Attribute e "items" ap) [] [] cp) (IQ te):=by
 intro aa s σ H Q I h
 refine Vh (T:="dict") (id:="dict.items") hbase rfl hline F.plainAttrs_dict Ue F.type_dict_items (bC (he aa s σ H _ I h) λv s1 ⟨x,H1,I1,r1,d,o,u,ex,hH,hd,q⟩=>?_)
 subst ex
 cases r1
 obtain ⟨ho,ok⟩:=(show bz X.prog X.w H1 s1.heap d (.frz o u) from I1.hok d _ hH)
 obtain ⟨hx,es,ep,hod,hp,hs,hz⟩:=di ok hd ho
 have hT:s1.TypeIs (.ref d) "dict":=⟨o,ho,hx.1⟩
 refine ⟨hT,λb z=>by cases z; exact ⟨o,ho,hx.2.1⟩,?_⟩
 show wpAny _ _ (callWith cp (.builtin "dict.items") [.ref d] [] []) _ _ s1
 refine method_meetsIn Ue F.entry_dict_items rfl (U7 ⟨rfl,hT,F.args_dict_items_1 _,_,jB d hs,hT,?_⟩)
 have Hv:H1 s1.heap.objs.size=none:=I1.hok.fresh (Pa _)
 have hve:(s1.heap.push { cls:=.type "dict_items",data:=.fields #[.ref d] }).IsItemsView s1.heap.objs.size d:=⟨_,Pp _ rfl,rfl,rfl⟩
 have I2:Inv X aa σ (upd H1 s1.heap.objs.size (.ext λh=>h.IsItemsView s1.heap.objs.size d)) { s1 with heap:=s1.heap.push { cls:=.type "dict_items",data:=.fields #[.ref d] },toks:=s1.toks } :=
  I1.laid (a:=s1.heap.objs.size) (λ_ _ q=>Pc _ q) (Pa _) ⟨hve,⟨_,Pp _ rfl⟩,λh1 h2 ⟨o,e,r⟩ k=>⟨o,k o e,r⟩⟩
 exact ⟨.ref s1.heap.objs.size,_,I2,rfl,q _ Hv⟩
section
variable {X:Cx} {aa:List (Addr×Obj)} {σ:L2.St} {H Hf:Hp} {s:Shared} {E:Value->Shared->Prop} {α:Type} {enc:α->D} {lt:α->α->Bool} {κ:SortKind}
theorem qR {K:O7}:∀ {L:List α} {xs:List V} {us:List Value},ak K Hf (L.map enc) xs->Vals xs us->Paired (λx u=>oJ K Hf (enc x) u) L us
 | [],xs,us,h,v=>by rw [Qv,aB] at h; subst h; cases v; exact .nil
 | t::L,xs,us,h,v=>by
  rw [Pd] at h
  obtain ⟨x,r,rfl,h1,h2⟩:=aF.mp h
  cases v with
  | cons r1 r2=>exact .cons ⟨x,r1,h1⟩ (qR h2 r2)
theorem qS {K:O7}:∀ {L:List α} {us:List Value},Paired (λx u=>oJ K Hf (enc x) u) L us->∃ xs,ak K Hf (L.map enc) xs/\Vals xs us
 | _,_,.nil=>⟨[],aB.mpr rfl,.nil⟩
 | _,_,.cons ⟨x,r1,h1⟩ t=>by
  obtain ⟨xs,h2,h3⟩:=qS t
  exact ⟨x::xs,.cons h1 h2,.cons r1 h3⟩
structure IS (X:Cx) (enc:α->D) (lt:α->α->Bool) (κ:SortKind):Prop where
 lin:∀ L:List α,SR.Ky lt L
 inj:∀ (aa:List (Addr×Obj)) (σ:L2.St) (H Hf:Hp) (s:Shared),Inv X aa σ H s->aM Hf H->∀ x y u,oJ X.K Hf (enc x) u->oJ X.K Hf (enc y) u->x=y
 kind:∀ (aa:List (Addr×Obj)) (σ:L2.St) (H Hf:Hp) (s:Shared) (A:Around) (E:Value->Shared->Prop),Inv X aa σ H s->aM Hf H->∀ (L:List α) (us:List Value),Paired (λx u=>oJ X.K Hf (enc x) u) L us->2<=us.length->∀ Q:SortKind->Shared->Prop,Q κ s->wpAny (model X.prog X.w) A (keyKind' us.toArray) Q E s
 cmp:∀ (aa:List (Addr×Obj)) (σ:L2.St) (H Hf:Hp) (s:Shared) (A:Around) (E:Value->Shared->Prop),Inv X aa σ H s->aM Hf H->A.units+10<cLine->∀ (x y:α) (u v:Value),oJ X.K Hf (enc x) u->oJ X.K Hf (enc y) v->∀ Q:Bool->Shared->Prop,Q (lt x y) s->wpAny (model X.prog X.w) A (keyLt' κ u v) Q E s
theorem Ez:IS X av cR (tuples' false) :=
 ⟨jZ,λ_ _ _ _ _ I sb _ _ _ h1 h2=>Eu I sb h1 h2,λ_ _ _ _ _ _ _ I sb _ _ p h2 _ hQ=>AW I sb p h2 hQ,λ_ _ _ _ _ _ _ I sb hA _ _ _ _ hx hy _ hQ=>IP I sb hA hx hy hQ⟩
def jH (lt:α->α->Bool) (b:Bool) (L:List α):Prop:=L.Pairwise λx y=>if b then lt y x=true else lt x y=true
abbrev iJ (b:Bool) (L:List aD):Prop:=jH cR b L
theorem qT {Q:Value->Shared->Prop} (hs:IS X enc lt κ) (I:Inv X aa σ H s) (sb:aM Hf H) (hA:A.units+20<cLine) (hr:ak X.K Hf (L.map enc) xs) (hv:Vals xs us) (hz:us.length<=sizeLine) (nd:L.Nodup)
 (hQ:∀ (L':List α) (xs':List V) (s':Shared),L'.Perm L->jH lt b L'->ak X.K Hf (L'.map enc) xs'->xs'.length<=sizeLine->Inv X aa σ (upd H s.heap.objs.size (.lst xs')) s'->Q (.ref s.heap.objs.size) s') :
 wpAny (model X.prog X.w) A (newList us >>= λl=>(holding [l] (call (.builtin "list.sort") [l] [(O5 "reverse",.bool b)]) >>= λ_=>ret l)) (λfin s'=>∃ v,fin=.done (.ret v)/\Q v s') E s:=by
 refine O6 (UA ?_ hz)
 have ha:(s.heap.push (seqObj "list" us.toArray 0)).get? s.heap.objs.size=some (seqObj "list" us.toArray 0):=Pp _ rfl
 have I1:Inv X aa σ H { s with heap:=s.heap.push (seqObj "list" us.toArray 0),toks:=s.toks }:=I.kept λb o e=>Pc _ e
 have Ha:H s.heap.objs.size=none:=I.hok.fresh (Pa _)
 obtain ⟨f0,f1,f2,f3,f4,f5⟩:=I.j9 (H':=H) (Pa _) Ha
 have pL:=qR hr hv
 refine O6 (QL (wpAny_call_entry_kw slot_list_sort ⟨_,ha,rfl⟩ entry_list_sort (SR.xE (κ:=κ) (rk:=SR.AQ (λx u=>oJ X.K Hf (enc x) u) lt L) (b:=b) ha ?_ hz λout hp ho=>⟨_,rfl,?_⟩) (args_list_sort_rev _ _)))
 ·intro h' k
  have I2:=I1.turned (h':=h') (t':=s.toks) (it:=s.heap.objs.size) (λb o hb e=>k b o hb e) f0 f1 f3 f4 f5
  refine ⟨λQ E h2 hQ=>hs.kind _ _ _ _ _ _ _ I2 sb _ _ pL h2 _ hQ,SR.IM (λx y u h1 h2=>hs.inj _ _ _ _ _ I2 sb x y u h1 h2) (hs.lin L) pL λx _ y _ u v hx hy E Q hQ=>hs.cmp _ _ _ _ _ _ _ I2 sb ?_ _ _ _ _ hx hy _ hQ⟩
  show A.units+1+10<cLine
  lia
 ·obtain ⟨L',p1,p2,p3⟩:=SR.AR (S:=λx u=>oJ X.K Hf (enc x) u) (λx y u h1 h2=>hs.inj _ _ _ _ _ I sb x y u h1 h2) (hs.lin L) nd pL hp ho
  obtain ⟨xs',r',v'⟩:=qS p3
  obtain ⟨e,he⟩:=sortedHeap_at (vs:=us) (out:=out) ha
  have hl:out.toList.length=us.length:=hp.length_eq
  refine O8 ⟨_,rfl,hQ L' xs' _ p1 p2 r' ?_ ?_⟩
  ·have:=v'.length; lia
  ·refine I.laid (t':=s.toks) (λb o q=>?_) (Pa _) ⟨by have:=v'.length; lia,out.toList,e,v',by simpa using he⟩
   have lt:=Pf q
   rw [sortedHeap_old (PM lt) (by rw [size_push']; exact Vm lt)]
   exact Pc _ q
end
section
variable {K:O7}
end
theorem oN (hc:X.calm=true) (I:Inv X aa σ H s) (sb:aM Hf H) (hA:X.A.units+60<cLine) (hl:fk X.K Hf l ys) (hr:ak X.K Hf (L.map av) ys) (nd:L.Nodup)
 (hQ:∀ (L':List aD) (xs':List V) (s':Shared) (a:Addr),L'.Perm L->iJ b L'->ak X.K Hf (L'.map av) xs'->H a=none->Inv X aa σ (upd H a (.lst xs')) s'->Q (.ref a) s') :
 wpAny (model X.prog X.w) X.A (call (.builtin "sorted") [.ref l] [(O5 "reverse",.bool b)]) Q E s:=by
 refine UW kind_sorted plain_sorted entry_sorted (args_sorted_rev _ _) ?_
 unfold Builtin.«sorted»
 refine O6 (m:=checkCount "sorted" 1 1 _) (O8 ?_)
 obtain ⟨its,rv,p,hz⟩:=I.list (sb.seq hl)
 have el:=rv.length
 refine O6 (collect_list p.isList ?_ (by lia))
 have I2:Inv X aa σ H { s with heap:=(s.heap.push (seqObj "list" #[] 0)).update s.heap.objs.size (P1 (· ++its.toArray)),toks:=s.toks }:=I.kept λc o e=>by
  rw [Rn _ _ _ _ (PM (Pf e))]
  exact Pc _ e
 refine qT (b:=b) Ez I2 sb ?_ hr rv (by lia) nd λL' xs' s2 p1 p2 p3 p4 I3=>hQ L' xs' s2 _ p1 p2 p3 (I2.hok.fresh (Pa _)) I3
 show X.A.units+1+20<cLine
 lia
section
variable {K:O7} {c:Ctx P w K mg base k N sc bk}
theorem tE (hm:mg "sorted"=none) (h:aL c e ρ λd=>∃ L:List aD,d=.lst (L.map av)/\Sd L.Nodup (∀ L':List aD,L'.Perm L->iJ true L'->R (.ow (L'.map av))))
 (hg:sc.names.lookup (O5 "sorted")=some .globalImplicit:=by walk_at "u")
 (he:∀ env,starEach [e] env=(false,eval e env)::starEach [] env:=by intro _; walk_at "u")
 (hpl:∀ env,(backTo pos (starEach [e] env)).any (·.1)=false:=by intro _; walk_at "u") :
 cV c (.Call (.Name "sorted" np) [e] [⟨some "reverse",.Constant (.bool true) j kp1,kp⟩] pos) ρ R:=λσ H Hf Q S q aa s I=>by
 have hgl:Gl c.X "sorted":=by unfold Gl P6; rw [c.esc]; exact hg
 refine Q5 (cW I hgl (by rw [c.emg]; exact hm) (show bootBuiltins "sorted"=some (.builtin "sorted") by decide +kernel) ?_ (by decide) (by decide))
 refine callWith_kw ?_ (by rw [he]; rfl) (hpl _)
 have hpa:=bM (X:=c.X) (e:=e) (es:=[]) c6 dD (he _)
 refine bC (hpa pos aa s σ H (λvs H1=>∃ x,vs=[x]/\∃ (L:List aD) (aR:Hp),Rep c.X.K aR (.lst (L.map av)) x/\L.Nodup/\br H Hf H1 aR/\∀ L':List aD,L'.Perm L->iJ true L'->R (.ow (L'.map av))) I ?_) λus s1 hh=>z2 hh λvs H1 hh=>w3 hh λI1 r1 hh=>hh.elim λx hh=>w2 hh λex hh=>z2 hh λL aR hh=>w4 hh λe1 e7 e8 e9=>?_
 ·exact h σ H Hf _ S λd v H1 aR ⟨L,hp,⟨hn,hR⟩⟩ rv g=>⟨_,rfl,L,aR,by rw [<- hp]; exact rv,hn,g,hR⟩
 ·subst ex
  obtain ⟨a0,ys,rfl,hs,hr⟩:=aU.mp e1
  have eu:us=[.ref a0]:=by
   cases r1 with
   | cons q1 q2=>cases q2; cases q1; rfl
  subst eu
  refine kws_cons (bC (yR (X:=c.X) (b:=true) (j:=j) (pos:=kp1) aa s1 σ _ (λx H2=>x=.bl true/\H2=H1) I1 ⟨rfl,rfl⟩) λkv s2 ⟨x,H2,I2,rx,e10,e11⟩=>kws_nil ?_)
  subst e10 e11
  have ek:kv=.bool true:=rx
  subst ek
  refine oN (b:=true) c.calm I2 e8.b ?_ hs hr e7 λL' xs' s' a p1 p2 p3 na I3=>?_
  ·have:=c.room.un
   lia
  ·exact ⟨.ref a,_,I3,rfl,q (.ow (L'.map av)) _ _ aR (e9 L' p1 p2) ⟨a,xs',rfl,e8.s.free na,af,e8.b.free na,p3⟩ (e8.trans (br.eU e8.b na))⟩
end
end EV
namespace EV
open PySem PySem.Spec PyProof.Rows L2
noncomputable def trim (l:List Int):List Int:=(l.reverse.dropWhile λx=>x == 0).reverse
theorem gn (l):trim (l++[0])=trim l:=by simp [trim]
theorem ni (l) (h:x≠0):trim (l++[x])=l++[x]:=by simp [trim,List.dropWhile_cons,h]
theorem jg {l:List Int} (h:m<l.length):l.take (m+1)=l.take m++[l.getD m 0]:=by
 rw [QE h]; simp [QA,h]
theorem nj (h:m<l.length) (z:l.getD m 0=0) (e:trim (l.take (m+1))=trim l):trim (l.take m)=trim l:=by
 rw [jg h,z,gn] at e; exact e
theorem nk (h:m<l.length) (z:l.getD m 0≠0) (e:trim (l.take (m+1))=trim l):l.take (m+1)=trim l:=by
 rw [<- e,jg h,ni _ z]
theorem fT (l):(trim l).length<=l.length:=by
 unfold trim
 rw [List.length_reverse]
 exact Pw (List.dropWhile_sublist _).length_le (by simp)
theorem cy (l):trim (trim l)=trim l:=by
 unfold trim
 rw [List.reverse_reverse]
 congr 1
 generalize l.reverse=r
 induction r with
 | nil=>rfl
 | cons x r ih=>by_cases h:x == 0 <;> simp [List.dropWhile_cons,h,ih]
theorem AZ (l:List α) (h:m<=l.length):EV.cutD l none (some (m:Int))=l.take m:=by
 unfold EV.cutD HT.b9
 have e:¬ (m:Int)<0:=by lia
 simp only [e,if_false,Qt]
 simp [S0 h]
section
variable {K:O7} {c:Ctx P w K mg base k N sc bk}
theorem s_pop (hN:At N i x) (hi:At ρ i r) (hr:r.getL=some ds) (h:Sd (ds≠[]) (Nx ρ i nx (r.putL ds.dropLast)))
 (hs:∀ env,swapsWith (.Call (.Attribute (.Name x px) "pop" ap) [] [] cp) none pos.line env=pure false:=by intro _; walk_at "u") (hd:(x == ("__debug__":Str))=false:=by decide) (hcd:(x == ("__classdict__":Str))=false:=by decide)
 (hbase:∀ env,attributeBase (.Name x px) "pop" env (eval (.Name x px) env)=eval (.Name x px) env:=by intro _; walk_at "u")
 (hline:(ap.endLine == cp.line)=true:=by walk_at "u") :
 eV c (.Expr (.Call (.Attribute (.Name x px) "pop" ap) [] [] cp) pos) ρ nx p:=λσ H Hf D S o=>by
 obtain ⟨q,eq,rq⟩:=S.own hi.get (c8 hr)
 obtain ⟨xs,h1,h2,h3⟩:=Ih hr rq
 obtain ⟨hz,ρ',hs',hn⟩:=h
 have hl:=h3.length
 have hlen:0<xs.length:=by
  rw [<- hl]; exact List.length_pos_iff.mpr hz
 obtain ⟨y,hy⟩:∃ y,xs[xs.length - 1]?=some y:=⟨_,PU (by omega)⟩
 refine dW (jP (zo PySem.F.plainAttrs_list PySem.F.slot_list_pop PySem.F.type_list_pop Ht (c.i9 hN hd hcd) (hbase _) hline) (hs _)) ⟨_,eq,.inl ⟨rfl,xs,.inl (.inl h1)⟩,?_⟩
 refine ⟨q,xs,y,rfl,rfl,h1,hy,?_⟩
 refine o.nx _ _ Hf ρ' ?_ hn
 rw [hs'.eq]
 exact S.upd hi.get (c8 hr) eq (gj S.sb h2) (kC hr rq af h2 h3.dropLast) (gD hr)
end
noncomputable def encA (A:List aD):List (List Key×D):=A.map λt=>(t.1.map PV,.int t.2)
theorem oO:∀ {l m:List Int},(l.map (PV:Int->Key))=m.map PV->l=m
 | [],[],_=>rfl
 | x::l,y::m,h=>by
  simp only [Pd,List.cons.injEq,PV.injEq] at h
  rw [h.1,oO h.2]
 | [],_::_,h=>by simp at h
 | _::_,[],h=>by simp at h
theorem vF (A) (l):bD (encA A) (l.map PV)=(bD A l).map D.int:=by
 induction A with
 | nil=>rfl
 | cons t A ih =>
  by_cases e:t.1=l
  ·rw [bx e]
   show bD ((t.1.map PV,D.int t.2)::encA A) _=_
   rw [bx (by rw [e])]; rfl
  ·rw [aW e,<- ih]
   show bD ((t.1.map PV,D.int t.2)::encA A) _=_
   rw [aW λz=>e (oO z)]
theorem EA (A) (l) (n):putD (encA A) (l.map PV) (.int n)=encA (putD A l n):=by
 unfold putD
 rw [vF]
 by_cases h:(bD A l).isSome=true
 ·rw [if_pos h,if_pos (by rw [RW]; exact h)]
  unfold encA
  rw [PX,PX]
  refine Rm λt _=>?_
  simp only [UC]
  by_cases e:t.1=l
  ·rw [if_pos e,if_pos (by rw [e])]
  ·rw [if_neg e,if_neg λz=>e (oO z)]
 ·rw [if_neg h,if_neg (by rw [RW]; exact h)]
  unfold encA
  simp
theorem jh:∀ l:List Int,D.keys (l.map D.int)=some (l.map PV)
 | []=>rfl
 | x::l=>by
  simp only [Pd]
  unfold D.keys
  rw [jh l]; rfl
theorem EB (A:List aD) (l:List Int) (n:Int):(putD A l n).length<=A.length+1:=by
 unfold putD; split <;> simp
theorem EC (A):(encA A).length=A.length:=by simp [encA]
theorem qU (l:List Int) (n:Int) (h:(A.map (·.1)).Nodup):((putD A l n).map (·.1)).Nodup:=by
 unfold putD
 split
 ·rw [PX]
  have e:(A.map ((·.1)∘λkv:aD=>if kv.1=l then (kv.1,n) else kv))=A.map (·.1):=Rm λt _=>by
   simp only [UC]; split <;> rfl
  rw [e]; exact h
 ·rename_i q
  rw [Px,Rf]
  refine ⟨h,by simp,?_⟩
  intro a ha b hb
  simp at hb
  subst hb
  intro z
  subst z
  apply q
  obtain ⟨t,ht,e⟩:=Pr.mp ha
  unfold bD
  rw [RW,List.find?_isSome]
  exact ⟨t,ht,decide_eq_true e⟩
theorem keys_nodup {A:List aD} (h:(A.map (·.1)).Nodup):A.Nodup:=by
 unfold Tu at *
 rw [SS] at h
 exact h.imp λq z=>q (by rw [z])
noncomputable def fE (A:List aD) (t:aD):List aD:=putD A (trim t.1) ((bD A (trim t.1)).getD 0+t.2)
noncomputable def aX (ts:List aD):List aD:=ts.foldl fE []
theorem qV (ts) (t):aX (ts++[t])=fE (aX ts) t:=by simp [aX]
theorem oQ (ts:List aD) (A):(ts.foldl fE A).length<=A.length+ts.length:=by
 induction ts generalizing A with
 | nil=>simp
 | cons t ts ih =>
  have h1:=ih (fE A t)
  have h2:=EB A (trim t.1) ((bD A (trim t.1)).getD 0+t.2)
  simp only [QK,Qg]
  unfold fE at *
  lia
theorem gr (ts):(aX ts).length<=ts.length:=by
 have:=oQ ts []
 simpa [aX] using this
theorem eZ (ts):((aX ts).map (·.1)).Nodup:=by
 unfold aX
 have:∀ A:List aD,(A.map (·.1)).Nodup->((ts.foldl fE A).map (·.1)).Nodup:=by
  induction ts with
  | nil=>exact λA h=>h
  | cons t ts ih=>exact λA h=>ih _ (qU _ _ h)
 exact this [] (by simp)
theorem ED (x):cR x x=false:=(jZ [x]).irr x (by simp)
theorem A0 (h:cR x y=true) (g:cR y z=true):cR x z=true:=(jZ [x,y,z]).tr x (by simp) y (by simp) z (by simp) h g
theorem qW:∀ {L M:List aD},L.Perm M->iJ true L->iJ true M->L=M
 | [],M,h,_,_=>by rw [List.nil_perm] at h; exact h.symm
 | x::L,[],h,_,_=>by simp at h
 | x::L,y::M,h,h1,h2=>by
  unfold iJ jH at h1 h2
  rw [Sv] at h1 h2
  by_cases e:x=y
  ·subst e
   rw [qW ((List.perm_cons _).mp h) h1.2 h2.2]
  ·exfalso
   have hx:x∈M:=by
    have:=h.subset (Po)
    rcases Pg.mp this with z | z
    ·exact absurd z e
    ·exact z
   have hy:y∈L:=by
    have:=h.symm.subset (Po)
    rcases Pg.mp this with z | z
    ·exact absurd z.symm e
    ·exact z
   have a:=h1.1 y hy
   have b:=h2.1 x hx
   simp only [if_true] at a b
   have:=A0 a b
   rw [ED] at this; cases this
noncomputable def xH (t:aD):List aD->List aD
 | []=>[t]
 | x::r=>if cR x t=true then t::x::r else x::xH t r
noncomputable def iK (L:List aD):List aD:=L.foldr xH []
theorem kX (t):∀ L:List aD,(xH t L).Perm (t::L)
 | []=>.refl _
 | x::r=>by
  unfold xH
  split
  ·exact .refl _
  ·exact ((kX t r).cons x).trans (.swap _ _ _)
theorem bY:∀ L:List aD,(iK L).Perm L
 | []=>.refl _
 | t::L=>(kX t (iK L)).trans ((bY L).cons t)
theorem EE (h:x≠y):cR x y=true\/cR y x=true:=(jZ [x,y]).tot x (by simp) y (by simp) h
theorem vG (t):∀ L:List aD,t∉L->iJ true L->iJ true (xH t L)
 | [],_,_=>So _ _
 | x::r,hn,h=>by
  have h':=h
  unfold iJ jH at h'
  rw [Sv] at h'
  unfold xH
  by_cases e:cR x t=true
  ·rw [if_pos e]
   unfold iJ jH
   rw [Sv]
   refine ⟨λy hy=>?_,h⟩
   simp only [if_true]
   rcases Pg.mp hy with rfl | z
   ·exact e
   ·have:=h'.1 y z
    simp only [if_true] at this
    exact A0 this e
  ·rw [if_neg e]
   unfold iJ jH
   rw [Sv]
   refine ⟨λy hy=>?_,vG t r (λz=>hn (Pj _ z)) h'.2⟩
   rcases Pg.mp ((kX t r).subset hy) with rfl | z
   ·simp only [if_true]
    rcases EE (x:=x) (y:=y) (λz=>hn (by rw [z]; exact Po)) with q | q
    ·exact absurd q e
    ·exact q
   ·exact h'.1 y z
theorem iL:∀ {L:List aD},L.Nodup->iJ true (iK L)
 | [],_=>SW
 | t::L,h=>by
  rw [Qu] at h
  exact vG t _ (λz=>h.1 ((bY L).subset z)) (iL h.2)
theorem tF (hn:L.Nodup) (hp:L'.Perm L) (hs:iJ true L'):L'=iK L:=qW (hp.trans (bY L).symm) hs (iL hn)
noncomputable def nz (L:List aD):List aD:=L.filter λt=>t.2 != 0
theorem IT (hn:L.Nodup):nz (iK L)=iK (nz L) :=
 tF (U5 _ hn) ((bY L).filter _) ((iL hn).filter _)
theorem encK (A):(Sl.oT (encA A)).qA=some (.fdT (A.map λt=>t.1.map PV) (A.map λt=>.int t.2)):=by
 show some _=some _
 unfold encA
 rw [PX,PX]; rfl
theorem xJ (A:List aD):(D.fdT (A.map λt=>t.1.map PV) (A.map λt=>.int t.2)).pairs=some (A.map av):=by
 show some _=some _
 congr 1
 rw [Uj,Ua]
 refine Rm λt _=>?_
 unfold av
 congr 3
 rw [PX]; rfl
theorem IU (h:r.xm=some (encA A)) (l):Gf r (.tup (l.map .int)) ((bD A l).map D.int):=by
 rw [<- vF]; exact .t h (jh l)
theorem IV (hz:A.length<sizeLine):DW (.oT (encA A)) (.tup (l.map .int)) (.int n) (.oT (encA (putD A l n))):=by
 rw [<- EA]
 exact .t (r:=.oT (encA A)) rfl (jh l) (by rw [EC]; exact hz)
theorem A1 (o:Option Int):(o.map D.int).getD (.int 0)=.int (o.getD 0):=by cases o <;> rfl
end EV
namespace EV
open PySem PySem.Spec PySem.Calls PyProof.Rows L2
theorem gu {L:List Addr} (I:Inv X aa σ H s) (k:∀ b o,b∉L->s.heap.get? b=some o->h'.get? b=some o) (hf:∀ b∈L,dR X aa H b):Inv X aa σ H { s with heap:=h',toks:=t' }:=by
 have nit:∀ b u,H b=some u->b∉L:=λb u e z=>by rw [(hf b z).1] at e; cases e
 refine I.step (g':=s.gens) (d':=s.drawn) (ch:=L) (λb hb=>?_) (λb o _ _ hc e _=>k b o hc e) (λb o _ _ hc e _=>⟨o.slots,k b o hc e⟩) (λ_ _ _ _ n=>n)
  (λb o hc e=>⟨o,k b o hc e⟩) (λ_ _ e=>e) (λ_ _ _ e=>e) (λb ps e=>⟨#[],by rw [e]; simp⟩) (λm hm=>?_) (λb u e=>?_) I.bare
 ·obtain ⟨_,f1,_,f3,f4,f5⟩:=hf b hb
  exact ⟨f3,f1,f4,f5⟩
 ·obtain ⟨o,es,ep,ho,r⟩:=hm
  exact ⟨o,es,ep,k _ o (λz=>(hf _ z).2.1 rfl) ho,r⟩
 ·refine (I.hok b u e).stay (λc v hc q=>k c v ?_ q) (λ_ q=>q) λ_ _ q=>q
  rcases hc with z | z
  ·rw [z]; exact nit b u e
  ·exact nit c _ z
noncomputable def jI (ds es:List D):List D:=Th (λx y=>D.tup [x,y]) ds es
theorem boot_zip:bootBuiltins "zip"=some (.type "zip"):=by decide +kernel
theorem jC {K:O7}:∀ {bs:List Bool} {xs:List V},ak K H (bs.map D.bl) xs->xs=bs.map V.bl
 | [],xs,h=>by rw [Qv,aB] at h; subst h; rfl
 | b::bs,xs,h=>by
  rw [Pd,aF] at h
  obtain ⟨x,r,rfl,h1,h2⟩:=h
  rw [cZ] at h1
  rw [h1,jC h2]; rfl
theorem qX:∀ {bs:List Bool} {us:List Value},Vals (bs.map V.bl) us->us=bs.map RJ
 | [],_,h=>by cases h; rfl
 | b::bs,_,h=>by
  cases h with
  | cons q t =>
   cases q
   rw [qX t]; rfl
theorem range_all (bs:List Bool):(PZ bs.length).all (λi=>bs.getD i true)=bs.all id:=by
 induction bs with
 | nil=>rfl
 | cons b bs ih =>
  rw [Qg,List.range_succ_eq_map,List.all_cons,List.all_map,List.all_cons,<- ih]
  rfl
theorem xK (hc:X.calm=true):fM X (.builtin "all") (λxs H Q=>∃ (p:Addr) (bs:List Bool),xs=[.ref p]/\fk X.K H p (bs.map V.bl)/\Q (.bl (bs.all id)) H):=by
 intro aa s σ H xs us Q I r h
 obtain ⟨p,bs,rfl,hq,q⟩:=h
 obtain ⟨u,rfl,rx⟩:=vals1 r
 cases rx
 obtain ⟨its,rv,pl,hz⟩:=I.list hq
 have e:=qX rv
 subst e
 have hlt:p<s.heap.objs.size:=by obtain ⟨o,e,_⟩:=pl.isList; exact Pf e
 refine call_all_walk (Rv pl.isList ?_)
 have hh:X.A.in1.handled=none:=I.ok.hd hc
 refine ⟨_,_,_,_,_,_,λi=>bs.getD i true,rfl,Walks.list hh s.heap.objs.size p (PM hlt) (bs.map RJ).toArray,⟨⟨_,Pp _ rfl,rfl,rfl⟩,pl.isList.at λo e=>Pc _ e⟩,?_,?_⟩
 ·intro i v s Q E hP hQ
  have hP':(bs.map RJ)[i]?=some v:=by simpa using hP
  rw [Pk,Pq] at hP'
  obtain ⟨b,hb,rfl⟩:=hP'
  have e:bs.getD i true=b:=by rw [QA,hb]; rfl
  have CQ:Q (bs.getD i true) s:=hQ
  rw [e] at CQ
  exact Sx CQ
 ·intro h' tk hk
  have es:(bs.map RJ).toArray.size=bs.length:=by simp
  rw [es,range_all]
  exact ⟨.bl (bs.all id),H,I.kept (h':=h') (t':=tk) (λb u e=>hk b u (by simpa using PM (Pf e)) (Pc _ e)),rfl,q⟩
section
variable {K:O7} {c:Ctx P w K mg base k N sc bk}
theorem boot_all:bootBuiltins "all"=some (.builtin "all"):=by decide +kernel
theorem A2 (hm:mg "all"=none) (h:aL c e ρ λx=>∃ bs:List Bool,x=.lst (bs.map D.bl)/\R (.bl (bs.all id))) (hg:sc.names.lookup (O5 "all")=some .globalImplicit:=by walk_at "u")
 (he:∀ env,starEach [e] env=(false,eval e env)::starEach [] env:=by intro _; walk_at "u"):aL c (.Call (.Name "all" p) [e] [] pos) ρ R :=
 qk (xK c.calm) (q:=λds R=>∃ bs:List Bool,ds=[.lst (bs.map D.bl)]/\R (.bl (bs.all id))) (by
  rintro ds vs H Hf Q R s rs ⟨bs,rfl,hR⟩ q
  obtain ⟨v,rfl,rv⟩:=mQ rs
  rw [aU] at rv
  obtain ⟨a,xs,rfl,h1,h2⟩:=rv
  rw [jC h2] at h1
  exact ⟨a,bs,rfl,s.seq h1,q _ _ H Hf hR (cZ.mpr rfl) (.refl s)⟩) hm boot_all (c7 (h.imp λd ⟨bs,e,hR⟩=>jy ⟨bs,by rw [e],hR⟩) he) hg (by decide) (by decide) he (by intro _; walk_at "u")
end
end EV
namespace EV
open PySem PySem.Spec PyProof.Rows L2
theorem oR {A:List aD} {l:List Int} {n:Int} {t:aD} (h:t∈putD A l n):t.1=l\/t∈A:=by
 unfold putD at h
 split at h
 ·obtain ⟨u,hu,e⟩:=Pr.mp h
  split at e
  ·rename_i q; subst e; exact .inl q
  ·subst e; exact .inr hu
 ·rcases PD.mp h with q | q
  ·exact .inr q
  ·simp at q; subst q; exact .inl rfl
theorem oS (hl:∀ t∈ts,t.1.length<=n):∀ t∈aX ts,trim t.1=t.1/\t.1.length<=n:=by
 unfold aX
 suffices H:∀ A:List aD,(∀ t∈A,trim t.1=t.1/\t.1.length<=n)->∀ t∈ts.foldl fE A,trim t.1=t.1/\t.1.length<=n from H [] (by simp)
 induction ts with
 | nil=>exact λA h=>h
 | cons u ts ih =>
  refine λA h=>ih (λt ht=>hl t (Pj _ ht)) _ λt ht=>?_
  rcases oR ht with e | e
  ·rw [e,cy]
   exact ⟨rfl,Pw (fT _) (hl u Po)⟩
  ·exact h t e
noncomputable def aQ (ts:List aD):List aD:=iK (nz (aX ts))
theorem vH (h:(A.map (·.1)).Nodup):((nz A).map (·.1)).Nodup:=Tu.sublist (List.filter_sublist.map _) h
theorem nv (ts):(aQ ts).Perm (nz (aX ts)):=bY _
theorem qY (h:t∈aQ ts):t∈aX ts/\t.2≠0:=by
 have:=(nv ts).subset h
 unfold nz at this
 rw [S6] at this
 exact ⟨this.1,by simpa using this.2⟩
theorem qZ (ts):(aQ ts).length<=ts.length:=by
 rw [(nv ts).length_eq]
 exact Pw (List.length_filter_le _ _) (gr ts)
end EV
namespace EV
open PySem PySem.Spec PySem.Calls PyProof.Rows L2
theorem EF {K:O7} {f:Int->Int->Int}:zO K (λxs H Q=>∃ i j,xs=[.int i,.int j]/\Q (.int (f i j)) H) (λds R=>∃ i j:Int,ds=[.int i,.int j]/\R (.int (f i j))):=by
 rintro ds vs H Hf Q R s rs ⟨i,j,rfl,hR⟩ q
 obtain ⟨v,r,rfl,r1,r2⟩:=aF.mp rs
 obtain ⟨v',r',rfl,r1',r2'⟩:=aF.mp r2
 rw [aB] at r2'
 subst r2'
 rw [aA] at r1 r1'
 subst r1 r1'
 exact ⟨i,j,rfl,q _ _ H Hf hR (aA.mpr rfl) (.refl s)⟩
section
variable {K:O7} {c:Ctx P w K mg base k N sc bk}
theorem boot_max:bootBuiltins "max"=some (.builtin "max"):=by decide +kernel
theorem A3 (hm:mg "max"=none) (h:aL c a ρ λx=>aL c b ρ λy=>I2 (λi j=>R (.int (if j>i then j else i))) x y) (hg:sc.names.lookup (O5 "max")=some .globalImplicit:=by walk_at "u")
 (he:∀ env,starEach [a,b] env=(false,eval a env)::starEach [b] env:=by intro _; walk_at "u") (he2:∀ env,starEach [b] env=(false,eval b env)::starEach [] env:=by intro _; walk_at "u")
 (hpl:∀ env,(backTo pos (starEach [b] env)).any (·.1)=false:=by intro _; walk_at "u"):aL c (.Call (.Name "max" p) [a,b] [] pos) ρ R :=
 qk (wQ c.calm) (EF (f:=λi j=>if j>i then j else i)) hm boot_max (c7 (h.imp λx h1=>c7 (h1.imp λy ⟨i,j,e1,e2,hR⟩=>jy ⟨i,j,by rw [e1,e2],hR⟩) he2) he) hg (by decide) (by decide) he hpl
theorem Gr (h:aL c a ρ λx=>aL c b ρ λy=>I2 (λi j=>Sd (za i j) (R (.int (i * 2 ^ j.toNat)))) x y):aL c (.BinOp a .LShift b pos) ρ R :=
 gZ (nX Hh mP (h.imp λx hx=>hx.imp λy ⟨i,j,e1,e2,⟨hc,r⟩⟩=>⟨i,j,e1,e2,hc,_,rfl,r⟩))
theorem Gs (h:aL c a ρ λx=>aL c b ρ λy=>I2 (λi j=>Sd (0<=j) (R (.int (i / 2 ^ j.toNat)))) x y):aL c (.BinOp a .RShift b pos) ρ R :=
 gZ (nX Hi mP (h.imp λx hx=>hx.imp λy ⟨i,j,e1,e2,⟨hc,r⟩⟩=>⟨i,j,e1,e2,hc,_,rfl,r⟩))
theorem A4 (h:aL c a ρ λx=>aL c b ρ λy=>I2 (λi j=>R (.int (Builtin.bitAnd i j))) x y):aL c (.BinOp a .BitAnd b pos) ρ R :=
 gZ (nX Hj zG (h.imp λx hx=>hx.imp λy ⟨i,j,e1,e2,r⟩=>⟨i,j,e1,e2,_,rfl,r⟩))
end
noncomputable abbrev M4:=List (Key×D)->List D->(List (Key×D)->Prop)->Prop
noncomputable def IW (K:O7) (F:M4):Sp:=λvs H Q _=>∃ Hf p kvs xs us ds B,vs=.ref p::us/\aM Hf H/\H p=some (.dK xs)/\Hf p=none/\lN K Hf kvs xs/\ak K Hf ds us/\F kvs ds B /\
 ∀ kvs' H' aj xs',B kvs'->br (del H p) Hf H' aj->H' p=some (.dK xs')->aj p=none->lN K aj kvs' xs'->Q .non H'
structure EG (P:Program) (w:World) (K:O7) (mg:Str->Option Value) (base:Heap) (k:Nat) (x:Str) (F:M4):Prop where
 ex:∃ f fd ps,mg x=some (.ref f)/\Q7 K (.ref f)=true/\Binds K fd ps []/\bq P w K mg base (cK P w) k f fd ps (IW K F)
noncomputable def startM (q:Addr) (kvs:List (Key×D)) (N:List Str) (ds:List D):List Sl:=.aK q kvs::(ds.map .va++Pu (N.length - (ds.length+1)) .un)
theorem xM {K:O7} (r:ak K Hf ds us) (sb:aM Hf H) (h1:H q=some (.dK xs)) (h2:Hf q=none) (h3:lN K Hf kvs xs) :
 cH K (del H q) Hf (L2.start N (.ref q::us)) H Hf (startM q kvs N ds):=by
 have hl:=r.length
 have rest:∀ (i:Nat) (r':Sl),(startM q kvs N ds)[i+1]?=some r'->r'≠.un->∃ d,ds[i]?=some d/\r'=.va d:=λi r' h hu=>by
  have h':(ds.map Sl.va++Pu (N.length - (ds.length+1)) Sl.un)[i]?=some r':=by simpa [startM] using h
  by_cases w:i<ds.length
  ·rw [Rt (by simpa using w),Pk,PU w] at h'
   cases h'
   exact ⟨_,by simp,rfl⟩
  ·rw [Sk (by simp; lia)] at h'
   exact absurd (TQ (QI h')) hu
 refine ⟨⟨λb o e=>(ir e).2,.refl _,sb,λ_ h _ _=>h⟩,by simp [L2.start,startM,hl],λi r' h hu=>?_,λi j r1 r2 p hne e1 e2 o1 o2=>?_⟩
 ·cases i with
  | zero =>
   have:r'=.aK q kvs:=by simpa [startM] using h.symm
   subst this
   exact ⟨.ref q,by simp [L2.start],q,xs,rfl,⟨ig,rfl⟩,h1,h2,h3⟩
  | succ i =>
   obtain ⟨d,hd,rfl⟩:=rest i r' h hu
   obtain ⟨x,e2,rx⟩:=r.get hd
   refine ⟨x,?_,rx⟩
   have hi:i<us.length:=(Ph.mp e2).1
   unfold L2.start
   rw [Rt (by simp; lia)]
   simp [e2]
 ·exfalso
  have own:∀ {i:Nat} {r:Sl},(startM q kvs N ds)[i]?=some r->r.owned=true->i=0:=λ{i r} h ho=>by
   cases i with
   | zero=>rfl
   | succ i =>
    obtain ⟨d,_,rfl⟩:=rest i r h (by rintro rfl; cases ho)
    cases ho
  exact hne ((own e1 o1).trans (own e2 o2).symm)
section
variable {K:O7} {c:Ctx P w K mg base k N sc bk}
theorem LX {st:Stmt} (Fu:dI K x qual st f fd) (SV:FS N ps st) (ar:∀ kvs ds B,F kvs ds B->ds.length+1=ps.length)
 (body:∀ (c:Ctx P w K mg base k N (aO st) false),c.X.xe=(λ_ _=>False)->∀ q kvs ds B,F kvs ds B->aH c (aq st) (startM q kvs N ds) (λρ=>∃ kvs' r,B kvs'/\ρ=.aK q kvs'::r) { rt:=λ_=>False }) :
 bq P w K mg base (cK P w) (k+1) f fd ps (IW K F):=by
 obtain ⟨Sc,Vi⟩:=zN SV
 obtain ⟨oc,od,kV,doc,pm,an,cdv,ct,osl,rfl,lk,hcd⟩:=Fu.ex
 refine ze lk hcd Sc (λvs H Q E hh=>z4 hh λHf q kvs xs hh=>z3 hh λus ds B hh=>w8 hh λe _ _ _ _ rs hF _=>by rw [e,Qg,<- rs.length]; exact ar _ _ _ hF) λA outer s H vs Q E hr hh=>z4 hh λHf q kvs xs hh=>z3 hh λus ds B hh=>w8 hh λe sb h1 h2 h3 rs hF hq=>?_
 subst e
 let X:Cx:=(p5 (cK P w) P w K mg base N qual (aO st) f cdv A outer s H E).F1
 let c:Ctx P w K mg base k N (aO st) false :=
  { X:=X,eP:=rfl,ew:=rfl,eK:=rfl,emg:=rfl,eb:=rfl,eN:=rfl,esc:=rfl,calm:=rfl,top:=λ_=>⟨rfl,rfl,rfl⟩,cb:=λ_ _ _ _ _ I x c h=>I.ok.cab x c rfl h,fn:=λ_ _=>.inl rfl,B:=del H q,room:=hr,nd:=Sc.nd,vis:=Vi,Hf:=Hf,RX:=λ_ _=>False,
    exc:=λ_ _ _ _ _ _ _ _ _ _ _ _ h _ _=>h.elim,RM:=λ_ _=>False,mde:=λ_ _ _ _ _ _ _ _ _ _ _ _ h _=>h.elim }
 refine ⟨_,pY.F1 (t:=HG X (aq st)) (nW (X:=X)),?_⟩
 refine body c rfl q kvs ds B hF (L2.start N (.ref q::us)) H Hf _ (xM rs sb h1 h2 h3) ⟨λσ H' aj ρ S ⟨kvs',r,hB,e⟩=>?_,λr v H' aj g rv e=>e.elim,λ_ _ _ _ _ h=>h.elim,λ_ _ _ _ _ h=>h.elim⟩
 subst e
 obtain ⟨v,_,q',xs',_,⟨_,rfl⟩,a1,a2,a3⟩:=S.at_ 0 _ rfl (by simp)
 exact hq kvs' H' aj xs' hB S.bas a1 a2 a3
theorem vI (h:EG P w K mg base j x F) (hj:j<=k) (hN:At N i y) (hi:At ρ i r) (hr:r.sR=some kvs)
 (ha:qj c es ρ λds=>∃ B,F kvs ds B/\∀ kvs',B kvs'->Nx ρ i nx (r.qv kvs'))
 (hg:sc.names.lookup x=some .globalImplicit:=by walk_at "u") (hdb:(x == ("__debug__":Str))=false:=by decide) (hd:(y == ("__debug__":Str))=false:=by decide) (hcd:(y == ("__classdict__":Str))=false:=by decide)
 (he:∀ env,starEach (.Name y py::es) env=(false,eval (.Name y py) env)::starEach es env:=by intro _; walk_at "u")
 (hpl:∀ env,(backTo cp (starEach es env)).any (·.1)=false:=by intro _; walk_at "u")
 (hs:∀ env,swapsWith (.Call (.Name x px) (.Name y py::es) [] cp) none pos.line env=pure false:=by intro _; walk_at "u"):eV c (.Expr (.Call (.Name x px) (.Name y py::es) [] cp) pos) ρ nx p:=λσ H Hf D S o=>by
 obtain ⟨q,eq,rq⟩:=S.own hi.get (kD hr)
 obtain ⟨xs,h1,h2,h3⟩:=xo hr rq
 refine dW (jP c6 (hs _)) (show bE c.X _ σ H (λ_ H'=>D.nx σ H') from λaa s I=>?_)
 obtain ⟨f,fd,ps,hm,hk,hb,hF⟩:=h.ex
 refine Q5 (gW I (by unfold Gl P6; rw [c.esc]; exact hg) (by rw [c.emg]; exact hm) ?_ hdb)
 have hA:bA c.X (.Name y py::es) σ H (λvs H1=>∃ us aR ds B,vs=.ref q::us/\F kvs ds B/\(∀ kvs',B kvs'->Nx ρ i nx (r.qv kvs'))/\ak c.X.K aR ds us/\br H Hf H1 aR) :=
  mO (bM (c.i9 hN hd hcd) CU (he _)) ⟨_,eq,ha σ H Hf _ S λds vs H1 aR ⟨B,hF,hn⟩ rs g=>⟨vs,aR,ds,B,rfl,hF,hn,rs,g⟩⟩
 refine T7 (h₀:=c.X.base) I.ok.mod.kin (by rw [c.eK]; exact hk) (bC (hA cp aa s I) λus s1 hh=>z2 hh λvs H1 hh=>w3 hh λI1 rv hh=>z4 hh λus' aR ds B hh=>w5 hh λev hF' hn rs g=>⟨I1.nL,?_⟩) (he _) (hpl _)
 subst ev
 have S1:=S.cD g
 have rq1:=rq.cD g
 obtain ⟨xs1,a1,a2,a3⟩:=xo hr rq1
 have hF2:bq c.X.prog c.X.w c.X.K c.X.mg c.X.base (cK c.X.prog c.X.w) k f fd ps (IW c.X.K F):=by rw [c.eP,c.ew,c.eK,c.emg,c.eb]; exact hF.mono hj
 have pU:IW c.X.K F (.ref q::us') H1 (λ_ H'=>D.nx σ H') (λ_ _ _=>False):=by
  refine ⟨aR,q,kvs,xs1,us',ds,B,rfl,g.b,a1,a2,a3,rs,hF',λkvs' H' aj xs' hB g2 b1 b2 b3=>?_⟩
  obtain ⟨ρ',hs',hn⟩:=hn kvs' hB
  refine o.nx σ H' aj ρ' ?_ hn
  rw [hs'.eq]
  exact S1.upd hi.get (kD hr) eq g2 (qw hr rq1 b1 b2 b3) (kE hr)
 have hl:us.length=ps.length:=by rw [<- rv.length]; exact hF2.len _ _ _ _ pU
 have hb':Binds c.X.K fd ps []:=by rw [c.eK]; exact hb
 have hb2:=hb' s1 us I1.nL (by simpa using hl)
 rw [Qp] at hb2
 refine SH (SD (hF2.run c.X.A c.X.stack s1 H1 ⟨us,[]⟩ us _ _ _ c.room I1.Dp hb2 rv pU) λr' s' hq=>?_)
 cases r' with
 | error e =>
  obtain ⟨a,C,H',rfl,hE,h⟩:=hq
  exact h.elim
 | ok fl =>
  cases fl with
  | ret u=>exact I1.after hq
  | next=>exact Qs hq
  | brk=>exact Qs hq
  | cont=>exact Qs hq
end
theorem ak.many {K:O7} (h:ak K H ds xs):∀ k:Nat,ak K H (Pu k ds).flatten (Pu k xs).flatten
 | 0=>aB.mpr rfl
 | k+1=>by
  rw [Rb,Rb,RY,RY]
  exact h.append (ak.many h k)
theorem ak.set {K:O7}:∀ {ds:List D} {xs:List V} (i:Nat) {d:D} {v:V},ak K H ds xs->Rep K H d v->ak K H (ds.set i d) (xs.set i v)
 | [],_,i,_,_,h,_=>by rw [aB] at h; subst h; exact aB.mpr rfl
 | e::ds,_,i,d,v,h,q=>by
  obtain ⟨x,r,rfl,h1,h2⟩:=aF.mp h
  cases i with
  | zero=>exact .cons q h2
  | succ i=>exact .cons h1 (ak.set i h2 q)
theorem A5 {n k:Nat} {i:Int} (hi:i=k) (e:s.heap.get? l=some { cls:=.type "list",data:=.seq items n }) (hk:k<items.size) (hf:items.size<2 ^ 63)
 (hQ:Q () { s with heap:=s.heap.update l (P1 λxs=>xs.setIfInBounds k v) }):wpAny (model prog w) A (setItem (.ref l) (.int i t) v) Q E s:=by
 have ht:s.TypeIs (.ref l) "list":=⟨_,e,rfl⟩
 have hx:items[k]?=some items[k]:=PR hk
 unfold setItem
 refine QL (O6 (Vf ht (by decide) ?_))
 refine O6 (Q9 (name:=O5 "__setitem__") ht PySem.slot_list_setitem (QO PySem.slot_list_setitem ht PySem.entry_list_setitem ?_ (PySem.args_list_setitem _ _ _)))
 show wpAny _ _ (Builtin.List.listSubscript? (.int i t) >>= _) _ _ s
 refine O6 (wpAny_listSubscript_int (fitsIndex_of (show 0<=i by lia) (show i<2 ^ 63 by lia)) ?_)
 clear hf
 subst hi
 show wpAny _ _ ((seqItemAt l k >>= λr=>pure (r.map λx=>(k,x))) >>= _) _ _ s
 refine O6 (O6 (wpAny_seqItemAt e rfl (O8 ?_)))
 rw [hx]
 show wpAny _ _ (setSeqItemAt l k v >>= _) _ _ s
 refine O6 (wpAny_setSeqItemAt e rfl ?_)
 first
  | exact O6 (O8 (O8 ⟨Qw,rfl,O8 hQ⟩))
  | exact O8 ⟨Qw,rfl,O8 hQ⟩
noncomputable def LY:G1:=λo i v H Q=>∃ l xs k,o=.ref l/\i=.int (k:Nat)/\H l=some (.lst xs)/\k<xs.length/\Q (upd H l (.lst (xs.set k v)))
theorem A6:KU X LY:=by
 intro aa s σ H o i v ov iv u Q I r1 r2 r3 h
 obtain ⟨l,xs,k,rfl,rfl,hH,hk,q⟩:=h
 cases r1
 obtain ⟨t,rfl⟩:=r2
 obtain ⟨z,its,n,r,hl,e⟩:=I.p7 hH
 have hbig:xs.length<2 ^ 63:=Ro z (by decide)
 refine A5 rfl e (by rw [PF,<- hl]; exact hk) (by rw [PF,<- hl]; exact hbig) ⟨_,I.sM (its':=its.set k u) (t':=s.toks) hH e ?_ (Vals.set r3 k r) (by rw [S9]; exact z),q⟩
 show its.toArray.setIfInBounds k u=(its.set k u).toArray
 simp
theorem EH:NK X "int.bit_length" (λx vs H Q=>∃ i,x=.int i/\vs=[]/\Q (.int (QJ i:Nat)) H):=by
 intro aa s σ H x xs v us Q I r1 r2 h
 obtain ⟨i,rfl,rfl,q⟩:=h
 obtain ⟨t,rfl⟩:=r1
 cases r2
 exact PyProof.Rows.call_int_bit_length ⟨.int (QJ i:Nat),H,I.tok _,⟨_,rfl⟩,q⟩
section
variable {K:O7} {c:Ctx P w K mg base k N sc bk}
theorem IX (h:aL c e ρ (I1 λi=>R (.int (QJ i:Nat)))) (hbase:∀ env,attributeBase e "bit_length" env (eval e env)=eval e env:=by intro _; walk_at "u") (hline:(ap.endLine == cp.line)=true:=by walk_at "u") :
 aL c (.Call (.Attribute e "bit_length" ap) [] [] cp) ρ R:=λσ H Hf Q S q =>
 bK (zo PySem.F.plainAttrs_int PySem.F.slot_int_bit_length PySem.F.type_int_bit_length EH c6 (hbase _) hline) (h σ H Hf _ S λd v H' aj ⟨i,e,hR⟩ r g=>by
  subst e
  rw [aA] at r; subst r
  exact ⟨rfl,i,rfl,rfl,q _ _ H' aj hR (aA.mpr rfl) g⟩)
theorem LZ {R:Sl->Prop} (h:cV c a ρ λr=>∃ ds,r=.ow ds/\aL c b ρ (I1 λn=>Sd ((0<=n/\n<2 ^ 63)/\ds.length * n.toNat<=sizeLine) (R (.ow (Pu n.toNat ds).flatten)))):cV c (.BinOp a .Mult b pos) ρ R:=λσ H Hf Q S q =>
 bK (uw Hu c6 c6) (h σ H Hf _ S λr v H1 aR ⟨ds,er,h1⟩ rr g1=>h1 σ H1 aR _ (S.cD g1) λdn u H2 cL ⟨n,en,⟨⟨n0,n1⟩,hz⟩,hR⟩ rn g2=>by
  subst er en
  rw [aA] at rn; subst rn
  obtain ⟨l,xs,rfl,fl,k1,k2,k3⟩:=rr
  have k1':=g2.s _ _ k1
  refine ⟨l,n,xs,rfl,rfl,k1',by lia,n1,by rw [<- k3.length]; exact hz,λp hp=>?_⟩
  have g3:=br.eU (o:=.lst (Pu n.toNat xs).flatten) g2.b hp
  exact q _ _ _ _ hR ⟨p,_,rfl,(g1.trans g2).s.free hp,af,g2.b.free hp,(k3.mono g2.f).many _⟩ ((g1.trans g2).trans g3))
theorem IY (hN:At N i x) (hi:At ρ i r) (hr:r.getL=some ds) (h:aL c e ρ λdv=>aL c b ρ λdk=>∃ m:Nat,dk=.int m/\Sd (m<ds.length) (Nx ρ i nx (r.putL (ds.set m dv))))
 (hs:∀ env,swapsWithSole [.Subscript (.Name x px) b tp] e pos.line env=pure false:=by intro _; walk_at "u") (hw:∀ env,swappedStores [.Subscript (.Name x px) b tp] e env=pure none:=by intro _; walk_at "u")
 (h1:∀ env,(assignEach [.Subscript (.Name x px) b tp] env).map (·.2)=[assign (.Subscript (.Name x px) b tp) env]:=by intro _; walk_at "u")
 (ha:∀ env v,assign (.Subscript (.Name x px) b tp) env v=(do
   let ov <- holding [v] (eval (.Name x px) env)
   let iv <- holding [v,ov] (eval b env)
   standAt tp
   holding [v,ov,iv] (setItem ov iv v)
   release [v,ov,iv] []):=by intro _ _; walk_at "u")
 (hd:(x == ("__debug__":Str))=false:=by decide) (hcd:(x == ("__classdict__":Str))=false:=by decide):eV c (.Assign [.Subscript (.Name x px) b tp] e pos) ρ nx p:=λσ H Hf D S o=>by
 obtain ⟨q,eq,rq⟩:=S.own hi.get (c8 hr)
 refine dW (G4 c6 (G3 (c.i9 hN hd hcd) c6 A6 (ha _)) (hs _) (hw _) (h1 _)) (h σ H Hf _ S λdv v H1 aR h2 rv g1=>⟨_,eq,h2 σ H1 aR _ (S.cD g1) λdk y H2 cL ⟨m,em,hm,ρ',hs',hn⟩ ry g2=>?_⟩)
 subst em
 rw [aA] at ry; subst ry
 have g:=g1.trans g2
 obtain ⟨xs,k1,k2,k3⟩:=Ih hr (rq.cD g)
 refine ⟨q,xs,m,rfl,rfl,k1,by rw [<- k3.length]; exact hm,o.nx _ _ cL ρ' ?_ hn⟩
 rw [hs'.eq]
 exact (S.cD g).upd hi.get (c8 hr) eq (gj g.b k2) (kC hr (rq.cD g) af k2 (k3.set m (Rep.mono g2.f _ rv))) (gD hr)
end
theorem gK {K:O7}:∀ {ns:List Int} {xs:List V},ak K H (ns.map D.int) xs->xs=ns.map V.int
 | [],xs,h=>by rw [Qv,aB] at h; subst h; rfl
 | b::bs,xs,h=>by
  rw [Pd,aF] at h
  obtain ⟨x,r,rfl,h1,h2⟩:=h
  rw [aA] at h1
  rw [h1,gK h2]; rfl
theorem fU {ns:List Int} {us:List Value} (h:Vals (ns.map V.int) us) (i:Nat) (v:Value) (e:us.toArray[i]?=some v):∃ t,v=.int (ns.getD i 0) t:=by
 have e':us[i]?=some v:=by simpa using e
 have hi:i<ns.length:=by
  have:=(Ph.mp e').1
  have l:=h.length
  rw [Pe] at l
  omega
 obtain ⟨u,hu,r⟩:=h.get (i:=i) (x:=.int (ns.getD i 0)) (by simp [QA,hi])
 rw [e'] at hu; cases hu
 exact r
theorem kY (I:Inv X aa σ H s) (hq:fk X.K H p xs) :
 ∃ its:List Value,Vals xs its/\s.heap.IsList p its.toArray/\p<s.heap.objs.size:=by
 obtain ⟨its,rv,pl,hz⟩:=I.list hq
 exact ⟨its,rv,pl.isList,by obtain ⟨o,e,_⟩:=pl.isList; exact Pf e⟩
theorem ny (I:Inv X aa σ H s) (hk:∀ b o,b∉[s.heap.objs.size]->(s.heap.push ob).get? b=some o->h'.get? b=some o):Inv X aa σ H { s with heap:=h',toks:=tk } :=
 I.kept (h':=h') (t':=tk) λb u e=>hk b u (by simpa using PM (Pf e)) (Pc _ e)
theorem xN (hc:X.calm=true):fM X (.builtin "max") (λxs H Q=>∃ (p:Addr) (ns:List Int),xs=[.ref p]/\ns≠[]/\fk X.K H p (ns.map V.int)/\∀ m∈ns,(∀ n∈ns,n<=m)->Q (.int m) H):=by
 intro aa s σ H xs us Q I r h
 obtain ⟨p,ns,rfl,hne,hq,q⟩:=h
 obtain ⟨u,rfl,rx⟩:=vals1 r
 cases rx
 obtain ⟨its,rv,pl,hlt⟩:=kY I hq
 have hn:its.toArray.size=ns.length:=by have l:=rv.length; rw [Pe] at l; simp [l]
 have hpos:0<ns.length:=List.length_pos_iff.mpr hne
 refine call_max_walk (Rv pl ?_)
 have hh:X.A.in1.handled=none:=I.ok.hd hc
 refine ⟨_,_,_,_,_,_,_,rfl,Walks.list hh s.heap.objs.size p (PM hlt) its.toArray,⟨⟨_,Pp _ rfl,rfl,rfl⟩,pl.at λo e=>Pc _ e⟩,?_,by rw [hn]; exact hpos,CmpOf.ints_gt (λi=>ns.getD i 0) (fU rv),?_⟩
 ·intro b hb
  show b<(s.heap.push _).objs.size
  rw [Q3]
  simp only [Pg,Qf,or_false] at hb
  rcases hb with rfl | rfl
  ·exact RZ _
  ·exact Vm hlt
 ·intro v h' tk hP hk
  obtain ⟨t,rfl⟩:=fU rv _ _ hP
  obtain ⟨b1,b2⟩:=argBest_gt (λi=>ns.getD i 0) (its.toArray.size - 1)
  rw [hn] at b1 b2 |-
  have J:=ny (s:=s) (tk:=tk) I hk
  refine ⟨.int _,H,J,⟨_,rfl⟩,q _ ?_ λn hm=>?_⟩
  ·rw [QA,PU (by omega)]
   exact Qa _
  ·obtain ⟨j,hj,rfl⟩:=List.getElem_of_mem hm
   have:=b2 j (by omega)
   rw [show ns.getD j 0=ns[j] by simp [QA,hj]] at this
   exact this
theorem vJ (ns:List Int):∀ j,j<=ns.length->preSum (λi=>ns.getD i 0) j=(ns.take j).sum
 | 0,_=>rfl
 | j+1,h=>by
  show preSum (λi=>ns.getD i 0) j+ns.getD j 0=_
  rw [vJ ns j (by omega),QE (by omega),Sz]
  simp [QA,show j<ns.length by omega]
theorem xO (hc:X.calm=true):fM X (.builtin "sum") (λxs H Q=>∃ (p:Addr) (ns:List Int),xs=[.ref p]/\fk X.K H p (ns.map V.int)/\Q (.int ns.sum) H):=by
 intro aa s σ H xs us Q I r h
 obtain ⟨p,ns,rfl,hq,q⟩:=h
 obtain ⟨u,rfl,rx⟩:=vals1 r
 cases rx
 obtain ⟨its,rv,pl,hlt⟩:=kY I hq
 have hn:its.toArray.size=ns.length:=by have l:=rv.length; rw [Pe] at l; simp [l]
 refine call_sum_walkG (Rv pl ?_)
 have hh:X.A.in1.handled=none:=I.ok.hd hc
 refine ⟨_,_,_,_,_,_,λi=>ns.getD i 0,rfl,Walks.list hh s.heap.objs.size p (PM hlt) its.toArray,⟨⟨_,Pp _ rfl,rfl,rfl⟩,pl.at λo e=>Pc _ e⟩,?_,fU rv,?_⟩
 ·intro b hb
  show b<(s.heap.push _).objs.size
  rw [Q3]
  simp only [Pg,Qf,or_false] at hb
  rcases hb with rfl | rfl
  ·exact RZ _
  ·exact Vm hlt
 ·intro h' tk t' hk
  rw [hn,vJ ns _ (Pa _),QC]
  have J:=ny (s:=s) (tk:=tk) I hk
  exact ⟨.int ns.sum,H,J,⟨_,rfl⟩,q⟩
section
variable {K:O7} {c:Ctx P w K mg base k N sc bk}
theorem boot_sum:bootBuiltins "sum"=some (.builtin "sum"):=by decide +kernel
theorem xP {Z:List Int->Int->Prop} (hr:∀ (p:Addr) (ns:List Int) H Q,fk K H p (ns.map V.int)->(∀ m,Z ns m->Q (.int m) H)->ns≠[]->r [.ref p] H Q) :
 zO K r (λds R=>∃ ns:List Int,ns≠[]/\ds=[.lst (ns.map D.int)]/\∀ m,Z ns m->R (.int m)):=by
 rintro ds vs H Hf Q R s rs ⟨ns,hne,rfl,hR⟩ q
 obtain ⟨v,rfl,rv⟩:=mQ rs
 rw [aU] at rv
 obtain ⟨a,xs,rfl,h1,h2⟩:=rv
 rw [gK h2] at h1
 exact hr a ns H Q (s.seq h1) (λm hm=>q _ _ H Hf (hR m hm) (aA.mpr rfl) (.refl s)) hne
theorem IZ (hm:mg "max"=none) (h:aL c e ρ λx=>∃ ns:List Int,ns≠[]/\x=.lst (ns.map D.int)/\∀ m,(m∈ns/\∀ n∈ns,n<=m)->R (.int m)) (hg:sc.names.lookup (O5 "max")=some .globalImplicit:=by walk_at "u")
 (he:∀ env,starEach [e] env=(false,eval e env)::starEach [] env:=by intro _; walk_at "u"):aL c (.Call (.Name "max" p) [e] [] pos) ρ R :=
 qk (xN c.calm) (xP (Z:=λns m=>m∈ns/\∀ n∈ns,n<=m) λp ns H Q h q hne=>⟨p,ns,rfl,hne,h,λm h1 h2=>q m ⟨h1,h2⟩⟩) hm boot_max
  (c7 (h.imp λd ⟨ns,hne,e,hR⟩=>jy ⟨ns,hne,by rw [e],hR⟩) he) hg (by decide) (by decide) he (by intro _; walk_at "u")
theorem I0 (hm:mg "sum"=none) (h:aL c e ρ λx=>∃ ns:List Int,x=.lst (ns.map D.int)/\R (.int ns.sum)) (hg:sc.names.lookup (O5 "sum")=some .globalImplicit:=by walk_at "u")
 (he:∀ env,starEach [e] env=(false,eval e env)::starEach [] env:=by intro _; walk_at "u"):aL c (.Call (.Name "sum" p) [e] [] pos) ρ R :=
 qk (xO c.calm) (q:=λds R=>∃ ns:List Int,ds=[.lst (ns.map D.int)]/\R (.int ns.sum)) (by
  rintro ds vs H Hf Q R s rs ⟨ns,rfl,hR⟩ q
  obtain ⟨v,rfl,rv⟩:=mQ rs
  rw [aU] at rv
  obtain ⟨a,xs,rfl,h1,h2⟩:=rv
  rw [gK h2] at h1
  exact ⟨a,ns,rfl,s.seq h1,q _ _ H Hf hR (aA.mpr rfl) (.refl s)⟩) hm boot_sum (c7 (h.imp λd ⟨ns,e,hR⟩=>jy ⟨ns,by rw [e],hR⟩) he) hg (by decide) (by decide) he (by intro _; walk_at "u")
end
section
variable {prog:Program} {w:World} {A:Around} {E:Value->Shared->Prop} {s:Shared}
variable {jt tp:Addr} {i:Nat} {items:Array Value}
theorem nextT (hh:A.handled=none) (h1:s.heap.IsTupleIter jt tp i) (h2:s.heap.IsTuple tp items)
 (hv:∀ v,items[i]?=some v->∀ h',h'.IsTupleIter jt tp (i+1)->QZ jt s.heap h'->Q v { s with heap:=h' })
 (hn:items[i]?=none->∀ h' e,RI jt s.heap h'->(∃ o,h'.get? e=some o/\o.cls=.type "StopIteration")->E (.ref e) { s with heap:=h' }) :
 wpAny (model prog w) A (QY (.ref jt)) Q E s:=by
 obtain ⟨ob,hob,hcb,hdb⟩:=id h1
 obtain ⟨ot,hot,_,m,hdt⟩:=id h2
 unfold QY
 refine O6 (Q9 (name:=O5 "__next__") h1.typeIs F.slot_tuple_iterator_next (QO F.slot_tuple_iterator_next h1.typeIs F.entry_tuple_iterator_next ?_ (F.args_tuple_iterator_next_1 _)))
 show wpAny _ _ (field (.ref jt) 0 >>= _) _ _ s
 refine O6 (Qc hob hdb (x:=.ref tp) rfl ?_)
 show wpAny _ _ (if (PJ tp == Qw)=true then _ else _) _ _ s
 rw [if_neg (show ¬ ((PJ tp == Qw)=true) from Pn)]
 show wpAny _ _ (field (.ref jt) 1 >>= _) _ _ s
 refine O6 (Qc hob hdb (x:=.int i 0) rfl ?_)
 show wpAny _ _ (seqItems? (.ref tp) >>= _) _ _ s
 refine O6 (Rh hot hdt ?_)
 rw [Qt]
 dsimp only
 cases hx:items[i]? with
 | some v =>
  have q:=hv v hx (s.heap.update jt (Obj.mapFields λvs=>vs.setIfInBounds 1 (rawInt ((i:Int)+1)))) ⟨_,Heap.get?_update_self _ hob (Obj.isFreed_of_fields (T8 hdb _)),(Obj.cls_mapFields ..).trans hcb,by rw [T8 hdb]; simp [rawInt]⟩ (SQ ..)
  dsimp only
  exact O6 (Td hob hdb (by simp) (O8 ⟨v,rfl,O8 q⟩))
 | none =>
  dsimp only
  refine O6 (Qz (O6 (Td hob hdb (by simp) (show wpAny _ _ (newExc (.type "StopIteration") [] >>= _) _ _ _ from O6 ?_))))
  simp only [newExc,newTuple]
  refine O6 (QB (O6 (m:=firstArgMember _ _) (wpAny_of_eq (a:=Qw) (by first | rfl | (simp only [firstArgMember]; rfl)) (QB ?_ (by size_fits)))) (by size_fits))
  simp only [raiseNew]
  refine O6 (wpAny_handled ?_)
  rw [show A.in1.handled=none from hh]
  exact O6 (O8 (wpAny_throw (hn hx _ _ (((SQ ..).extBut.push _).push _) ⟨_,Pp _ rfl,rfl⟩)))
theorem Ja (hh:A.handled=none) (jt tp:Addr) (hne:tp≠jt) (items:Array Value) :
 Draws prog w A jt [jt,tp] items.size (λi v=>items[i]?=some v) (λi h=>h.IsTupleIter jt tp i/\h.IsTuple tp items) where
 live:=λ_ _ ⟨⟨o,ho,_⟩,_⟩=>⟨o,ho⟩
 frame:=λ_ _ _ ⟨⟨o,e,r⟩,⟨o',e',r'⟩⟩ hk=>⟨⟨o,hk jt (by simp) o e,r⟩,o',hk tp (by simp) o' e',r'⟩
 item:=λi s Q E hi ⟨s1,s2⟩ q=>nextT hh s1 s2 (λv hv h' a b=>q v h' s.toks hv ⟨a,s2.extBut b.extBut hne⟩ b) λhx=>by
  rw [PR hi] at hx; cases hx
 done:=λs Q E ⟨s1,s2⟩ q=>nextT hh s1 s2 (λv hv=>by simp at hv) λ_=>q
end
set_option maxHeartbeats 1000000 in
theorem q8 (tp) (items) (n) (dc) (sl) :
 Meets (Builtin.«enumerate.__new__» ⟨[.type "enumerate",.ref tp],[]⟩) (λ_ R s=>s.heap.get? tp=some { cls:=.type "tuple",dict:=dc,data:=.seq items n,slots:=sl } /\
  R (.ok (.ret (.ref (s.heap.push { cls:=.type "tuple_iterator",data:=.fields #[.ref tp,.int 0 0] }).objs.size)))
   { s with heap:=(s.heap.push { cls:=.type "tuple_iterator",data:=.fields #[.ref tp,.int 0 0] }).push { cls:=.type "enumerate",data:=.fields #[.none,.bool false,.ref s.heap.objs.size,rawInt 0,.none,.none] } }) :=
 .of_wp λprog w A R ⟨hp,g,d,tk,os⟩ ⟨hl,h⟩=>by
  have hz:=sub_enumerate
  have hT:Heap.IsTuple (R9 ⟨hp,g,d,tk,os⟩) tp items:=⟨_,hl,rfl,n,rfl⟩
  wp_walk using TU hl
  refine wpAny_stack_any λst=>O8 ?_
  split
  ·rename_i k _ _ _ _ _
   cases (k == QD "enumerate") <;> (wp_walk using TU hl,Va hT; exact ⟨_,rfl,h⟩)
  ·wp_walk using TU hl,Va hT; exact ⟨_,rfl,h⟩
theorem tG (hT:s.heap.IsTuple tp items)
 (h:∀ h',IsEnum h' (s.heap.objs.size+1) s.heap.objs.size 0 .none->h'.IsTupleIter s.heap.objs.size tp 0->(∀ b o,s.heap.get? b=some o->h'.get? b=some o)->Q (.ref (s.heap.objs.size+1)) { s with heap:=h' }) :
 wpAny (model prog w) A (call (.type "enumerate") [.ref tp]) Q E s:=by
 obtain ⟨⟨c,dc,dt,sl⟩,hl,hc,n,hd⟩:=hT
 obtain rfl:c=.type "tuple":=hc
 obtain rfl:dt=.seq items n:=hd
 refine callType_new F.called_enumerate (by decide) (F.typeCall_enumerate_1 _) (F.newCall_enumerate_1 _) (λob=>F.args_object_init_2 ob _) F.entry_enumerate_new (q8 tp items n dc sl) ⟨hl,?_⟩
 generalize e1:s.heap.push { cls:=.type "tuple_iterator",data:=.fields #[.ref tp,.int 0 0] }=g1
 have hz:g1.objs.size=s.heap.objs.size+1:=by rw [<- e1]; exact Q3 ..
 have hi:g1.get? s.heap.objs.size=some { cls:=.type "tuple_iterator",data:=.fields #[.ref tp,.int 0 0] }:=by rw [<- e1]; exact Pp _ rfl
 have hb:∀ b o,s.heap.get? b=some o->g1.get? b=some o:=λb o q=>by rw [<- e1]; exact Pc _ q
 have he:IsEnum (g1.push { cls:=.type "enumerate",data:=.fields #[.none,.bool false,.ref s.heap.objs.size,rawInt 0,.none,.none] }) g1.objs.size s.heap.objs.size 0 .none:=Pp _ rfl
 rw [hz] at he
 show _/\_
 rw [hz]
 exact ⟨⟨_,he,rfl⟩,h _ he ⟨_,Pc _ hi,rfl,rfl⟩ λb o q=>Pc _ (hb b o q)⟩
noncomputable def kZ (ds:List D):List D:=ds.zipIdx.map λx=>D.tup [.int x.2,x.1]
noncomputable def N8 (K:O7) (t:Addr):It :=
 ⟨λi H=>∃ xs x,dh K H t xs/\xs[i]?=some x,
  λi H v H'=>∃ p x,v=.ref p/\H p=none/\H'=upd H p (.tup [.int (i:Nat),x])/\∀ xs,dh K H t xs->xs[i]?=some x,
  λi H=>∃ xs,dh K H t xs/\xs.length<=i⟩
theorem EI (I:Inv X aa σ H s) (h1:dh X.K H a xs) (h2:dh X.K H a ys):xs=ys:=I.gi h1 h2
theorem A7 {prog:Program} {w:World} {A:Around} (hh:A.handled=none) (j t:Addr) (items:Array Value) (i:Nat) (hx:items[i]?=none) :
 Draws prog w A j [j,t] i (λ_ _=>False) (λk h=>k=i/\h.IsTupleIter j t i/\h.IsTuple t items) where
 live:=λ_ _ ⟨_,⟨o,ho,_⟩,_⟩=>⟨o,ho⟩
 frame:=λ_ _ _ ⟨ek,⟨o,e,r⟩,⟨o',e',r'⟩⟩ hk=>⟨ek,⟨o,hk j (by simp) o e,r⟩,o',hk t (by simp) o' e',r'⟩
 item:=λk s Q E hi ⟨ek,_⟩ _=>absurd ek (PM hi)
 done:=λs Q E ⟨_,s1,s2⟩ q=>nextT hh s1 s2 (λv hv=>by rw [hx] at hv; cases hv) λ_=>q
theorem xQ {P:Program} {w:World} {K:O7} {elts:List Expr} {k:Nat} {pos:Pos} {e j t:Addr} (hne:e≠j) :
 Turn P w K (.Tuple elts k pos) (N8 K t) [e,j] e (λi h=>(∃ old,IsEnum h e j i old)/\h.IsTupleIter j t i) where
 mem:=by simp
 obj:=λi h ⟨⟨old,he⟩,⟨o1,e1,_,d1⟩⟩ b hb=>by
  simp only [Pg,Qf,or_false] at hb
  rcases hb with rfl | rfl
  ·exact ⟨_,he,λv q=>by have q':Tq _=Se v:=q; cases q'⟩
  ·exact ⟨_,e1,λv q=>by rw [d1] at q; cases q⟩
 keep:=λi h h' ⟨⟨old,he⟩,⟨o1,e1,r1⟩⟩ hk=>⟨⟨old,hk e (by simp) _ he⟩,⟨o1,hk j (by simp) _ e1,r1⟩⟩
 item:=by
  intro X hP hw hK hc i aa s σ H E I hf st hg
  subst hP hw hK
  obtain ⟨⟨old,he⟩,hj⟩:=st
  obtain ⟨xs,x,q1,hx⟩:=hg
  obtain ⟨its,rv,p1,z1⟩:=I.tuple q1
  obtain ⟨u,hu,ru⟩:=rv.get hx
  have pT:s.heap.IsTuple t its.toArray:=by obtain ⟨o,ho,hc',n,hd⟩:=p1; exact ⟨o,ho,hc',n,hd⟩
  have hjt:t≠j:=by
   obtain ⟨o,ho,hc',n,hd⟩:=pT
   obtain ⟨o',ho',hc'',_⟩:=hj
   rintro rfl
   rw [ho] at ho'; cases ho'
   rw [hc'] at hc''; exact absurd hc'' (by simp)
  have het:e≠t:=by
   obtain ⟨o,ho,hc',n,hd⟩:=pT
   rintro rfl
   rw [he] at ho; cases ho
   exact absurd hc' (by simp)
  have hi:i<its.toArray.size:=by
   have:i<its.length:=(Ph.mp hu).1
   simpa using this
  have hh:X.A.in1.handled=none:=I.ok.hd hc
  refine wpAny_pyNext_enum_itemD (Ja hh j t hjt its.toArray) he ⟨hj,pT⟩ hi hne (by simp; exact ⟨hne,het⟩) λx' h' tk hPx a1 a2 a3 a4 hk=>?_
  have ex:x'=u:=by
   have:its[i]?=some x':=by simpa using hPx
   rw [hu] at this; cases this; rfl
  subst ex
  have Hp:H s.heap.objs.size=none:=I.hok.fresh (Pa _)
  have IA:Inv X aa σ (upd H s.heap.objs.size (.tup [.int (i:Nat),x])) { s with heap:=s.heap.push { cls:=.type "tuple",data:=.seq #[.int (i:Nat) tk,x'] },toks:=tk+1 } :=
   I.laid (a:=s.heap.objs.size) (o:=.tup [.int (i:Nat),x]) (λ_ _ q=>Pc _ q) (Pa _) ⟨by show 2<=sizeLine; decide,[.int (i:Nat) tk,x'],.cons ⟨tk,rfl⟩ (.cons ru .nil),_,Pp _ rfl,rfl,0,rfl⟩
  have lt:∀ b∈[e,j],b<s.heap.objs.size:=λb hb=>by
   obtain ⟨o1,e1,_⟩:=hj
   simp only [Pg,Qf,or_false] at hb
   rcases hb with rfl | rfl
   ·exact Pf he
   ·exact Pf e1
  have gf:∀ b∈[e,j],dR X aa (upd H s.heap.objs.size (.tup [.int (i:Nat),x])) b:=λb hb=>⟨by rw [ah (PM (lt b hb))]; exact (hf b hb).1,(hf b hb).2⟩
  have I1:Inv X aa σ (upd H s.heap.objs.size (.tup [.int (i:Nat),x])) { s with heap:=h',toks:=tk+1 } :=
   gu (s:={ s with heap:=s.heap.push { cls:=.type "tuple",data:=.seq #[.int (i:Nat) tk,x'] },toks:=tk+1 }) (t':=tk+1) (h':=h') (L:=[e,j]) IA (λb o hb q=>by
    simp only [Pg,Qf,or_false,not_or] at hb
    by_cases z:b=s.heap.objs.size
    ·subst z
     rw [Pp _ rfl] at q; cases q; exact a3
    ·refine hk b o hb.1 hb.2 ?_
     rw [Vq _ _ _ z] at q; exact q) gf
  refine ⟨_,rfl,wpAny_letOwnedTupleGo_enum (s:={ s with heap:=h',toks:=tk+1 }) a1 λh2' hz' hs'=>?_⟩
  refine ⟨.ref s.heap.objs.size,_,gu (s:={ s with heap:=h',toks:=tk+1 }) (t':=tk+1) (h':=h2') (L:=[e,j]) I1 (λb o hb q=>hs'.extBut b o (λz=>hb (by simp [z])) q) gf,rfl,
   ⟨_,x,rfl,Hp,rfl,λxs' h=>by rw [EI I h q1]; exact hx⟩,⟨⟨x',?_⟩,a2.1.extBut hs'.extBut (Py hne)⟩,λb hb=>(gf b hb).1⟩
  have hz2:=hz'
  rw [show ((i:Int)+1)=((i+1:Nat):Int) by lia] at hz2
  exact hz2
 done:=by
  intro X hP hw hK hc i aa s σ H E I hf st hg
  subst hP hw hK
  obtain ⟨⟨old,he⟩,hj⟩:=st
  obtain ⟨xs,q1,hend⟩:=hg
  obtain ⟨its,rv,p1,z1⟩:=I.tuple q1
  have pT:s.heap.IsTuple t its.toArray:=by obtain ⟨o,ho,hc',n,hd⟩:=p1; exact ⟨o,ho,hc',n,hd⟩
  have hl:=rv.length
  have hx:its.toArray[i]?=none:=by simp; lia
  have hh:X.A.in1.handled=none:=I.ok.hd hc
  exact wpAny_pyNext_enum_endD (A7 hh j t its.toArray i hx) he ⟨rfl,hj,pT⟩ λh' hk=>⟨rfl,gu (t':=s.toks) (L:=[e,j]) I (λb o hb q=>hk b o (λz=>hb (by simp [z])) q) hf⟩
 self:=λA i s Q E ⟨⟨old,he⟩,_⟩ h=>wpAny_pyIter_enum he h
theorem xR {K:O7} {Hf:Hp} {ds:List D} {xs:List V} {t:Addr} (h1:dh K Hf t xs) (r1:ak K Hf ds xs):i8 K (N8 K t) (kZ ds) Hf where
 go:=λi d H aR s1 s2 e=>by
  unfold kZ at e
  rw [Pk,Pq] at e
  obtain ⟨⟨x,m⟩,ex,rfl⟩:=e
  rw [List.getElem?_zipIdx,Pq] at ex
  obtain ⟨x',ex,ee⟩:=ex
  cases ee
  obtain ⟨v1,f1,g1⟩:=r1.get ex
  have q1:=az (s1.trans s2) h1
  refine ⟨⟨xs,v1,q1,f1⟩,λv H' ⟨p,y,e1,e2,e3,e4⟩=>?_⟩
  have z1:=e4 xs q1
  rw [f1] at z1; cases z1
  subst e1 e3
  have g:=br.new s2 e2 (o:=.tup [.int (i:Nat),v1])
  rw [RD]
  exact ⟨upd aR p (.tup [.int (i:Nat),v1]),g,aG.mpr ⟨p,_,rfl,.inl (.inl af),.cons (aA.mpr rfl) (.cons (Rep.mono (s1.trans g.f) _ g1) (aB.mpr rfl))⟩⟩
 stop:=λi H aR s1 s2 e=>⟨xs,az (s1.trans s2) h1,by
  rw [<- r1.length]
  simpa [kZ] using e⟩
theorem xS:bootBuiltins "enumerate"=some (.type "enumerate"):=by decide +kernel
noncomputable def L5 (K:O7) (ta:TA):TI:=λσ H R=>ta σ H λvs H1=>∃ t xs,vs=[.ref t]/\dh K H1 t xs/\R (N8 K t) H1
theorem EJ (hg:Gl X "enumerate") (hm:X.mg "enumerate"=none) (ha:PA X [a] ta) (hs:starEach [a] X.env=[(false,eval a X.env)]) :
 PI X (.Tuple elts kt tpos) (.Call (.Name "enumerate" p) [a] [] pos) (L5 X.K ta):=by
 intro aa s σ H R I h
 refine Call_ (cW I hg hm xS (Si (bC (ha pos aa s σ H _ I h) λus s1 ⟨vs,H1,I1,r1,q1⟩=>?_) hs (by rfl)))
 obtain ⟨t,xs,e,q1,q⟩:=q1
 subst e
 obtain ⟨u,rfl,rx⟩:=vals1 r1
 cases rx
 obtain ⟨its,rv,p1,z1⟩:=I1.tuple q1
 have pT:s1.heap.IsTuple t its.toArray:=by obtain ⟨o,ho,hc',n,hd⟩:=p1; exact ⟨o,ho,hc',n,hd⟩
 refine tG pT λh' a1 a2 hk=>wpAny_pyIter_enum a1 ?_
 refine ⟨s1.heap.objs.size+1,[s1.heap.objs.size+1,s1.heap.objs.size],_,_,H1,rfl,I1.kept (t':=s1.toks) hk,xQ (RE (RZ _)),⟨⟨.none,a1⟩,a2⟩,λb hb=>?_,q⟩
 have hb':s1.heap.objs.size<=b:=by
  simp only [Pg,Qf,or_false] at hb
  rcases hb with rfl | rfl
  ·exact Rw _ _
  ·exact Pa _
 exact I1.j9 hb' (I1.hok.fresh hb')
section
variable {K:O7} {c:Ctx P w K mg base k N sc bk}
theorem Jb (hm:mg "enumerate"=none) (h:aL c a ρ λx=>∃ ds,x=.tup ds/\R (kZ ds)) (hg:sc.names.lookup (O5 "enumerate")=some .globalImplicit:=by walk_at "u")
 (hs:∀ env,starEach [a] env=(false,eval a env)::starEach [] env:=by intro _; walk_at "u"):uV c (.Tuple elts kt tpos) (.Call (.Name "enumerate" p) [a] [] pos) ρ R:=λσ H Hf Q S q aa s I =>
 EJ (by unfold Gl P6; rw [c.esc]; exact hg) (by rw [c.emg]; exact hm) (bM c6 dD (hs _)) (by rw [hs]; rfl) aa s σ H Q I
  (h σ H Hf _ S λx v1 H1 aR ⟨ds,e1,hR⟩ r1 g1=>by
    subst e1
    rw [aG] at r1
    obtain ⟨t,xs,rfl,s1,t1⟩:=r1
    exact ⟨t,xs,rfl,az g1.b s1,q _ _ H1 aR hR g1 (xR s1 t1)⟩)
end
noncomputable def Jc (lo:Int) (n:Nat):It:=⟨λi _=>i<n,λi H x H'=>H'=H/\x=.int (lo - i),λi _=>n<=i⟩
noncomputable def A8 (lo:Int) (n:Nat):List D:=(PZ n).map λ(i:Nat)=>D.int (lo - (i:Int))
theorem xT {P:Program} {w:World} {K:O7} {tg:Expr} (j:Addr) (lo:Int) (n:Nat):Turn P w K tg (Jc lo n) [j] j (λi h=>IsRangeIter h j (lo+(i:Nat) * -1) ((n:Int) - (i:Nat)) (-1)) where
 mem:=PB.mpr rfl
 obj:=λi h st b hb=>by
  obtain rfl:b=j:=PB.mp hb
  exact ⟨_,st,λv z=>by have q:Tq _=Se v:=z; cases q⟩
 keep:=λi h h' st k=>k j (PB.mpr rfl) _ st
 item:=by
  intro X hP hw hK hc i aa s σ H E I hf st hg
  subst hP hw hK
  obtain ⟨f0,f1,f2,f3,f4,f5⟩:=hf j (PB.mpr rfl)
  have W:=Walks.range (prog:=X.prog) (w:=X.w) (I.ok.hd hc) j lo (-1) n
  refine W.item i s _ _ hg st λv h' tk hv st' kk=>?_
  obtain ⟨t,rfl⟩:=hv
  have I1:Inv X aa σ H { s with heap:=h',toks:=tk }:=I.turned (λb o hb e=>kk b o (by simpa using hb) e) f0 f1 f3 f4 f5
  have e:lo+(i:Int) * -1=lo - i:=by lia
  exact ⟨_,rfl,pZ (s:={ s with heap:=h',toks:=tk }) (n:="range_iterator") st' rfl rfl (by decide) ⟨.int (lo - i),H,I1,⟨t,by rw [e]⟩,⟨rfl,rfl⟩,st',λb hb=>(hf b hb).1⟩⟩
 done:=by
  intro X hP hw hK hc i aa s σ H E I hf st hg
  subst hP hw hK
  obtain ⟨f0,f1,f2,f3,f4,f5⟩:=hf j (PB.mpr rfl)
  exact wpAny_pyNext_range_end (I.ok.hd hc) st (by have:n<=i:=hg; lia) λh' eb=>⟨rfl,I.turned (t':=s.toks) (λb o hb e=>eb b o hb e) f0 f1 f3 f4 f5⟩
 self:=λ_ _ _ _ _ st h=>wpAny_pyIter_rangeiter st h
theorem k9 {lo hi:Int}:TV lo hi (-1)=((lo - hi).toNat:Int):=by
 unfold TV
 rw [if_neg (by decide)]
 split
 ·rw [show - (-1:Int)=1 by decide,Int.ediv_one]; lia
 ·lia
theorem small_down (ha: -(2 ^ 62)<=a) (ha':a<2 ^ 62) (hb: -(2 ^ 62)<=b) (hb':b<2 ^ 62):Builtin.Range.small a b (-1)=true:=by
 unfold Builtin.Range.small
 rw [k9]
 simp only [Builtin.Range.rangeFitsLong,SX,Bool.or_eq_true,decide_eq_true_eq,beq_iff_eq,show ¬ (-1:Int)>0 by decide,if_false]
 lia
noncomputable def L6 (ta:TA):TI:=λσ H R=>ta σ H λvs H1=>∃ i j:Int,vs=[.int i,.int j,.int (-1)]/\(-(2 ^ 62)<=i/\i<2 ^ 62/\ -(2 ^ 62)<=j/\j<2 ^ 62)/\R (Jc i (i - j).toNat) H1
theorem EK (hg:Gl X "range") (hm:X.mg "range"=none) (ha:PA X [a,b,c] ta) (hs:starEach [a,b,c] X.env=[(false,eval a X.env),(false,eval b X.env),(false,eval c X.env)])
 (hs2:starEach [b,c] X.env=[(false,eval b X.env),(false,eval c X.env)]):PI X tg (.Call (.Name "range" p) [a,b,c] [] pos) (L6 ta):=by
 intro aa s σ H R I h
 refine Call_ (cW I hg hm boot_range (Si (bC (ha pos aa s σ H _ I h) λus s1 ⟨vs,H1,I1,r1,q1⟩=>?_) (by rw [hs,hs2]) (by rw [hs2]; rfl)))
 obtain ⟨i,j,e,⟨q1,q2,q3,q4⟩,q⟩:=q1
 subst e
 cases r1 with
 | cons r rr=>cases rr with
  | cons r' rr=>cases rr with
   | cons r'' rr =>
    cases rr
    obtain ⟨t,rfl⟩:=r
    obtain ⟨t',rfl⟩:=r'
    obtain ⟨t'',rfl⟩:=r''
    refine call_range_3 (by decide) ?_ (.inl (PyProof.noPylong_of_log2 (by decide +kernel)))
    refine wpAny_pyIter_range (IsRange.new ..) (small_down q1 q2 q3 q4) ?_
    have I2:Inv X aa σ H1 { s1 with heap:=s1.heap.push { cls:=.type "range",data:=.fields #[.int i t,.int j t',.int (-1) t''] },toks:=s1.toks }:=I1.kept λb o e=>Pc _ e
    generalize s1.heap.push { cls:=.type "range",data:=.fields #[.int i t,.int j t',.int (-1) t''] }=g at I2 |-
    refine ⟨g.objs.size,[g.objs.size],_,_,H1,rfl,I2.kept (t':=s1.toks) λb o e=>Pc _ e,xT _ i (i - j).toNat,?_,λb hb=>?_,q⟩
    ·show IsRangeIter _ _ (i+((0:Nat):Int) * -1) ((((i - j).toNat:Nat):Int) - ((0:Nat):Int)) (-1)
     rw [show i+((0:Nat):Int) * -1=i by simp,show (((i - j).toNat:Nat):Int) - ((0:Nat):Int)=TV i j (-1) by rw [k9]; lia]
     exact Pp _ rfl
    ·obtain rfl:b=g.objs.size:=PB.mp hb
     exact I2.j9 (Pa _) (I2.hok.fresh (Pa _))
theorem A9 {K:O7} {lo:Int} {n:Nat} {c9:Hp}:i8 K (Jc lo n) (A8 lo n) c9 where
 go:=λi d H Hf s1 s2 e=>by
  unfold A8 at e
  rw [Pk] at e
  obtain ⟨j,e1,e2⟩:=Pq.mp e
  have hi:i<n:=by simpa using (Ph.mp e1).1
  have:j=i:=by rw [SO hi] at e1; cases e1; rfl
  subst this
  refine ⟨hi,λx H' ⟨e3,e4⟩=>?_⟩
  subst e3 e4 e2
  exact ⟨Hf,.refl s2,aA.mpr rfl⟩
 stop:=λi H Hf s1 s2 e=>show n<=i by simpa [A8] using e
section
variable {K:O7} {c:Ctx P w K mg base k N sc bk}
theorem Jd (hm:mg "range"=none) (h:aL c a ρ λx=>aL c b ρ λy=>aL c e ρ λz=>∃ i j:Int,x=.int i/\y=.int j/\z=.int (-1)/\Sd (Aa i) (Sd (Aa j) (R (A8 i (i - j).toNat))))
 (hg:sc.names.lookup (O5 "range")=some .globalImplicit:=by walk_at "u")
 (hs:∀ env,starEach [a,b,e] env=(false,eval a env)::starEach [b,e] env:=by intro _; walk_at "u") (hs2:∀ env,starEach [b,e] env=(false,eval b env)::starEach [e] env:=by intro _; walk_at "u")
 (hs3:∀ env,starEach [e] env=(false,eval e env)::starEach [] env:=by intro _; walk_at "u"):uV c tg (.Call (.Name "range" p) [a,b,e] [] pos) ρ R:=λσ H Hf Q S q aa s I =>
 EK (by unfold Gl P6; rw [c.esc]; exact hg) (by rw [c.emg]; exact hm) (bM c6 (bM c6 (bM c6 dD (hs3 _)) (hs2 _)) (hs _)) (by rw [hs,hs2,hs3]; rfl) (by rw [hs2,hs3]; rfl) aa s σ H Q I
  (h σ H Hf _ S λx v1 H1 aR h1 r1 g1=>h1 σ H1 aR _ (S.cD g1) λy v2 H2 cL h2 r2 g2=>h2 σ H2 cL _ (S.cD (g1.trans g2)) λz v3 H3 Hf3 ⟨i,j,e1,e2,e3,⟨hi,⟨hj,hR⟩⟩⟩ r3 g3=>by
    subst e1 e2 e3; rw [aA] at r1 r2 r3; subst r1 r2 r3
    exact ⟨i,j,rfl,⟨hi.1,hi.2,hj.1,hj.2⟩,q _ _ H3 Hf3 hR ((g1.trans g2).trans g3) A9⟩)
end
noncomputable abbrev ltI (x y:Int):Bool:=decide (x<y)
noncomputable def OD (d:Addr) (o:Obj) (ys:List (Key×V)):It :=
 ⟨λi H=>H d=some (.frz o (.dK ys))/\i<ys.length,λi H x H'=>H'=H/\∃ y,ys[i]?=some y/\x=kV y.1,λi H=>H d=some (.frz o (.dK ys))/\ys.length<=i⟩
theorem oU (I:Inv X aa σ H s) (hH:H d=some (.frz o (.dK ys))):∃ (vs:List (Key×Value)) (es:Array DictEntry) (ep:Nat),o.data=.dict es ep/\KV ys vs/\s.heap.DictAt (bU X.prog X.w) d vs ep/\(d == sysModules)=false/\ys.length<=sizeLine:=by
 obtain ⟨ho,ok⟩:=(show bz X.prog X.w H s.heap d (.frz o (.dK ys)) from I.hok d _ hH)
 obtain ⟨z,y,vs,kv,o',es,ep,h1,h2,h3,h4,h5,h6⟩:=ok
 rw [ho] at h1; cases h1
 exact ⟨vs,es,ep,h3,kv,⟨o,es,ho,h2,h3,h4,h5,h6⟩,y,z⟩
theorem xU {P:Program} {w:World} {K:O7} {tg:Expr} {d j:Addr} {o:Obj} {ys:List (Key×V)} {es:Array DictEntry} {ep:Nat} (hod:o.data=.dict es ep):Turn P w K tg (OD d o ys) [j] j (λi h=>h.IsKeyIter j d i ys.length ep) where
 mem:=PB.mpr rfl
 obj:=λi h ⟨q,e,_,hd⟩ b hb=>by
  obtain rfl:b=j:=PB.mp hb
  exact ⟨_,e,λv z=>by rw [hd] at z; cases z⟩
 keep:=λi h h' ⟨q,e,r⟩ k=>⟨q,k j (PB.mpr rfl) _ e,r⟩
 item:=by
  intro X hP hw hK hc i aa s σ H E I hf st hg
  subst hP hw hK
  obtain ⟨f0,f1,f2,f3,f4,f5⟩:=hf j (PB.mpr rfl)
  obtain ⟨hH,hi⟩:=hg
  obtain ⟨vs,es',ep',e1,kv,da,_⟩:=oU I hH
  rw [hod] at e1; cases e1
  have hl:ys.length=vs.length:=Q4 kv
  obtain ⟨⟨ky,v⟩,hv,r1,r2⟩:=fy kv (PU hi)
  rw [hl] at st
  refine wpAny_pyNext_dict_item st da hv λkey h' hkey hit' hs'=>?_
  have I1:Inv X aa σ H { s with heap:=h',toks:=s.toks }:=I.turned (λb o hb e=>hs'.extBut b o hb e) f0 f1 f3 f4 f5
  obtain ⟨q,e,qc,qd⟩:=id hit'
  rw [<- hl] at hit'
  exact ⟨_,rfl,pZ (s:={ s with heap:=h',toks:=s.toks }) (n:="dict_keyiterator") e qc qd (by decide) ⟨kV ky,H,I1,vc hkey,⟨rfl,_,PU hi,by rw [r1]⟩,hit',λb hb=>(hf b hb).1⟩⟩
 done:=by
  intro X hP hw hK hc i aa s σ H E I hf st hg
  subst hP hw hK
  obtain ⟨f0,f1,f2,f3,f4,f5⟩:=hf j (PB.mpr rfl)
  obtain ⟨hH,hi⟩:=hg
  obtain ⟨vs,es',ep',e1,kv,da,_⟩:=oU I hH
  rw [hod] at e1; cases e1
  have hl:ys.length=vs.length:=Q4 kv
  rw [hl] at st
  exact wpAny_pyNext_dict_end (I.ok.hd hc) st da (Ra (by lia)) λh' eb=>⟨rfl,I.turned (t':=s.toks) (λb o hb e=>eb b o hb e) f0 f1 f3 f4 f5⟩
 self:=λ_ _ _ _ _ st h=>wpAny_pyIter_keyiter st h
theorem xV {K:O7} {Hf:Hp} {d:Addr} {o:Obj} {ys:List (Key×V)} {ns:List Int} (hH:Hf d=some (.frz o (.dK ys))) (hk:ys.map (·.1)=ns.map PV):i8 K (OD d o ys) (ns.map D.int) Hf where
 go:=λi x H aR s1 s2 e=>by
  rw [Pk,Pq] at e
  obtain ⟨n,hn,rfl⟩:=e
  have hq:=congrArg (λl=>l[i]?) hk
  simp only [Pk,hn,Option.map_some] at hq
  obtain ⟨y,hy,ey⟩:=Pq.mp hq
  refine ⟨⟨s2 _ _ (s1 _ _ hH),(Ph.mp hy).1⟩,λv H' ⟨e1,y',e2,e3⟩=>?_⟩
  rw [hy] at e2; cases e2
  subst e1 e3
  exact ⟨aR,.refl s2,by rw [ey]; exact aA.mpr rfl⟩
 stop:=λi H aR s1 s2 e=>⟨s2 _ _ (s1 _ _ hH),by
  have:=congrArg SG hk
  simp only [Pe] at this e
  lia⟩
theorem xW (hT:s.TypeIs (.ref v) "dict") (hQ:Q false s):wpAny (model prog w) A (Sj (.ref v)) Q E s:=by
 unfold Sj
 refine O6 (wpAny_specialOf hT PySem.F.slot_dict_len.lookup ?_)
 have e:splitId "dict.__len__"=some ("dict","__len__"):=by decide +kernel
 dsimp only
 rw [e]
 dsimp only
 refine O6 (Ug (b:=true) hT (by rw [isSubtype_type]; kernel_rfl) ?_)
 rw [if_neg (by decide)]
 exact O6 (RC hT (O8 hQ))
section
variable {X:Cx} {aa:List (Addr×Obj)} {σ:L2.St} {H Hf:Hp} {s:Shared} {E:Value->Shared->Prop}
theorem q9 {K:O7}:∀ {L:List Int} {us:List Value},Paired (λx u=>oJ K Hf (D.int x) u) L us->IntsAre us L
 | _,_,.nil=>.nil
 | _,_,.cons ⟨x,r1,h1⟩ t=>by
  rw [aA] at h1; subst h1
  obtain ⟨tk,rfl⟩:=r1
  exact .cons _ _ (q9 t)
theorem EL:IS X D.int ltI oneType' where
 lin:=λL=>⟨λx _=>by simp,λx _ y _ z _ h g=>by simp only [decide_eq_true_eq] at *; lia,λx _ y _ h=>by simp only [decide_eq_true_eq]; lia⟩
 inj:=λ_ _ _ _ _ _ _ x y u ⟨v,r1,h1⟩ ⟨v',r2,h2⟩=>by
  rw [aA] at h1 h2; subst h1 h2
  obtain ⟨t,rfl⟩:=r1
  obtain ⟨t',e⟩:=r2
  cases e; rfl
 kind:=λ_ _ _ _ _ _ _ _ _ L us p h2 Q hQ=>by
  rw [ksk_kind (kz:=L) (q9 p) (by simpa using h2)]
  exact O8 hQ
 cmp:=λ_ _ _ _ _ _ _ _ _ _ x y u v ⟨a,r1,h1⟩ ⟨b,r2,h2⟩ Q hQ=>by
  rw [aA] at h1 h2; subst h1 h2
  obtain ⟨t,rfl⟩:=r1
  obtain ⟨t',rfl⟩:=r2
  rw [keyLt'_oneType]
  exact oneLt_int hQ
theorem ri (hc:X.calm=true) (I:Inv X aa σ H s) (sb:aM Hf H) (hA:X.A.units+60<cLine) (hH:Hf d=some (.frz o (.dK ys))) (hk:ys.map (·.1)=ns.map PV) (nd:ns.Nodup)
 (hQ:∀ (L':List Int) (xs':List V) (s':Shared) (H' aj:Hp) (a:Addr),L'.Perm ns->jH ltI b L'->ak X.K aj (L'.map D.int) xs'->br H Hf H' aj->H' a=none->Inv X aa σ (upd H' a (.lst xs')) s'->Q (.ref a) s') :
 wpAny (model X.prog X.w) X.A (call (.builtin "sorted") [.ref d] [(O5 "reverse",.bool b)]) Q E s:=by
 refine UW kind_sorted plain_sorted entry_sorted (args_sorted_rev _ _) ?_
 unfold Builtin.«sorted»
 refine O6 (m:=checkCount "sorted" 1 1 _) (O8 ?_)
 have h1:X.A.in1.handled=none:=I.ok.hd hc
 have h2:X.A.in1.frames=some X.stack:=I.ok.frames
 obtain ⟨vs,es,ep,e1,kv,da,hs,hz⟩:=oU I (sb _ _ hH)
 have hl:ys.length=vs.length:=Q4 kv
 have hn:(ns.map D.int).length=ys.length:=by have:=congrArg SG hk; simp only [Pe] at this |-; lia
 refine O6 (tD (X:=Gq X X.A.in1) (H:=H) (Hf:=Hf) (ds:=ns.map D.int) (T:="dict") hc h1 h2 (kW I (λ_=>h1) h2) sb da.lt_size (by lia) (by decide) (λs' k=>(da.keep k).dictOf.typeIs) (λA s' Q E q h=>xW q h) (λA s1 H1 E I1 sb1 k1=>?_) λus s' H' aj xs I' rv rr g hz'=>?_)
 ·refine wpAny_pyIter_dict hs (da.keep k1) ?_
  refine ⟨_,_,_,rfl,Pa _,I1.kept (t':=s1.toks) λb o e=>Pc _ e,xU e1,⟨_,Pp _ rfl,rfl,?_⟩,λb hb=>?_,λb o e=>Pc _ e,xV hH hk⟩
  ·rw [hl]; rfl
  ·obtain rfl:b=s1.heap.objs.size:=PB.mp hb
   exact I1.j9 (Pa _) (I1.hok.fresh (Pa _))
 ·have I2:=iI I.ok I'
  have el:=rr.length
  have el2:=rv.length
  refine qT (b:=b) EL I2 g.b ?_ rr rv (by lia) nd λL' xs' s2 p1 p2 p3 p4 I3=>hQ L' xs' s2 H' aj _ p1 p2 p3 g (I2.hok.fresh (Pa _)) I3
  show X.A.units+1+20<cLine
  lia
end
section
variable {K:O7} {c:Ctx P w K mg base k N sc bk}
theorem tH (hm:mg "sorted"=none) (h:aL c e ρ λd=>∃ (ns:List Int) (ds:List D),d=.fdK (ns.map PV) ds/\Sd ns.Nodup (∀ L':List Int,L'.Perm ns->jH ltI true L'->R (.ow (L'.map D.int))))
 (hg:sc.names.lookup (O5 "sorted")=some .globalImplicit:=by walk_at "u")
 (he:∀ env,starEach [e] env=(false,eval e env)::starEach [] env:=by intro _; walk_at "u")
 (hpl:∀ env,(backTo pos (starEach [e] env)).any (·.1)=false:=by intro _; walk_at "u") :
 cV c (.Call (.Name "sorted" np) [e] [⟨some "reverse",.Constant (.bool true) j kp1,kp⟩] pos) ρ R:=λσ H Hf Q S q aa s I=>by
 have hgl:Gl c.X "sorted":=by unfold Gl P6; rw [c.esc]; exact hg
 refine Q5 (cW I hgl (by rw [c.emg]; exact hm) (show bootBuiltins "sorted"=some (.builtin "sorted") by decide +kernel) ?_ (by decide) (by decide))
 refine callWith_kw ?_ (by rw [he]; rfl) (hpl _)
 have hpa:=bM (X:=c.X) (e:=e) (es:=[]) c6 dD (he _)
 refine bC (hpa pos aa s σ H (λvs H1=>∃ x,vs=[x]/\∃ (ns:List Int) (ds:List D) (aR:Hp),Rep c.X.K aR (.fdK (ns.map PV) ds) x/\ns.Nodup/\br H Hf H1 aR/\∀ L':List Int,L'.Perm ns->jH ltI true L'->R (.ow (L'.map D.int))) I ?_) λus s1 hh=>z2 hh λvs H1 hh=>w3 hh λI1 r1 hh=>hh.elim λx hh=>w2 hh λex hh=>z3 hh λns ds aR hh=>w4 hh λe1 e7 e8 e9=>?_
 ·exact h σ H Hf _ S λd v H1 aR ⟨ns,ds,hp,⟨hn,hR⟩⟩ rv g=>⟨_,rfl,ns,ds,aR,by rw [<- hp]; exact rv,hn,g,hR⟩
 ·subst ex
  obtain ⟨a0,ys,o,rfl,hs,hk,hr⟩:=gY.mp e1
  have eu:us=[.ref a0]:=by
   cases r1 with
   | cons q1 q2=>cases q2; cases q1; rfl
  subst eu
  refine kws_cons (bC (yR (X:=c.X) (b:=true) (j:=j) (pos:=kp1) aa s1 σ _ (λx H2=>x=.bl true/\H2=H1) I1 ⟨rfl,rfl⟩) λkv s2 ⟨x,H2,I2,rx,e10,e11⟩=>kws_nil ?_)
  subst e10 e11
  have ek:kv=.bool true:=rx
  subst ek
  refine ri (b:=true) c.calm I2 e8.b ?_ hs hk e7 λL' xs' s' H' aj a p1 p2 p3 g na I3=>?_
  ·have:=c.room.un
   lia
  ·have gg:=e8.trans g
   exact ⟨.ref a,_,I3,rfl,q (.ow (L'.map D.int)) _ _ aj (e9 L' p1 p2) ⟨a,xs',rfl,gg.s.free na,af,g.b.free na,p3⟩ (gg.trans (br.eU g.b na))⟩
end
theorem EM {Q:Value->Shared->Prop} (ho:s.heap.get? l=some o) (hc:o.cls=.type "tuple") (hd:o.data=.seq its.toArray n) (hk:0<=k) (hk2:k<2 ^ 63) (hz:its.length * k.toNat<=sizeLine) (hne:its≠[])
 (h1:k=1->Q (.ref l) s) (h2:k≠1->Q (.ref s.heap.objs.size) { s with heap:=s.heap.push { cls:=.type "tuple",data:=.seq (Pu k.toNat its).flatten.toArray } }) :
 wpAny (model prog w) A (Builtin.«tuple.__mul__» ⟨[.ref l,.int k u],[]⟩) (λfin s'=>∃ v,fin=.done (.ret v)/\Q v s') E s:=by
 unfold Builtin.«tuple.__mul__»
 show wpAny _ _ (asIndex (.int k u) >>= _) _ _ s
 have ea:asIndex (.int k u)=pure k:=rfl
 rw [ea]
 refine O6 (O8 ?_)
 have b1:(decide (k< -2 ^ 63) || decide (k>=2 ^ 63))=false:=by simp only [Bool.or_eq_false_iff,decide_eq_false_iff_not]; lia
 rw [if_neg (by rw [b1]; exact Pn)]
 dsimp only
 refine O6 (show wpAny _ _ (seqItems? (.ref l) >>= _) _ _ s from O6 (Rh ho hd (O8 ?_)))
 have hne':its.toArray.isEmpty=false:=by cases its with | nil=>exact absurd rfl hne | cons a r=>rfl
 rw [hne',Bool.false_or]
 by_cases e:k=1
 ·rw [if_pos (by simp [e])]
  refine O6 (O6 (RC ⟨o,ho,hc⟩ (O8 ?_)))
  rw [if_pos (by decide)]
  exact O6 (Qz (O8 ⟨_,rfl,h1 e⟩))
 ·rw [if_neg (by simpa using e)]
  have h2':=h2 e
  by_cases e0:k=0
  ·subst e0
   rw [if_pos (by decide)]
   exact O6 (QB (O8 ⟨_,rfl,h2'⟩))
  ·have hpos:0<k:=by lia
   rw [if_neg (by simp; lia)]
   have hm:(its.toArray.size:Int) * k=((its.length * k.toNat:Nat):Int):=by
    rw [Int.natCast_mul,Int.toNat_of_nonneg hk,PF]
   have hs:(sizeLine:Nat)<=(2 ^ 63 - 1) / 8:=by decide
   rw [hm,if_neg (by lia),if_neg (by unfold Builtin.Tuple.tupleTooMany; simp only [decide_eq_true_eq]; lia)]
   have ef:=foldl_rep its k.toNat []
   rw [Q6] at ef
   show wpAny _ _ (newObj (.type "tuple") (.seq (SI (λx1 x2=>x1++x2) ([]:List Value).toArray (Pu k.toNat its.toArray))) >>= _) _ _ _
   rw [ef]
   exact O6 (QB (O8 ⟨_,rfl,h2'⟩) (hd:=by
    show (Pu k.toNat its).flatten.toArray.size<=sizeLine
    rw [PF,len_rep,UH]; exact hz))
theorem tK:fillsNumberSlot (.type "tuple") "mul"=pure false:=PySem.fillsNumberSlot_seq (id:="tuple.__mul__") (r:=some (.builtin "tuple.__rmul__")) Vy.lookup (by decide +kernel) F.slot_tuple_rmul.lookup (by decide +kernel)
theorem tL:seqRepeat? (.type "tuple")=pure (some (.builtin "tuple.__mul__")):=by
 unfold seqRepeat?
 rw [PySem.seqSlot_of (T:="tuple") (name:="__mul__") (id:="tuple.__mul__") Vy.lookup (by decide +kernel),PySem.seqSlot_of (T:="tuple") (name:="__rmul__") (id:="tuple.__rmul__") F.slot_tuple_rmul.lookup (by decide +kernel)]
 rfl
theorem Ba (a) (t:Tok) (l) (o) (items) (n) :
 Meets (Builtin.«int.__rmul__» ⟨[.int a t,.ref l],[]⟩) (λ_ R s=>s.heap.get? l=some o/\o.cls=.type "tuple"/\o.data=.seq items n/\R (.ok (.ret Value.notImplemented)) s) :=
 .of_wp λprog w A R ⟨hp,g,d,tk,os⟩ ⟨hl,hc,hd,h⟩=>by
  obtain ⟨c,dc,dt,sl⟩:=o
  obtain rfl:c=.type "tuple":=hc
  obtain rfl:dt=.seq items n:=hd
  wp_walk
  exact ⟨_,rfl,h⟩
noncomputable def L7 (K:O7):R2:=λx y H Q=>∃ l k xs,x=.ref l/\y=.int k/\dh K H l xs/\xs≠[]/\0<=k/\k<2 ^ 63/\xs.length * k.toNat<=sizeLine/\(k=1->Q (.ref l) H)/\(k≠1->∀ p,H p=none->Q (.ref p) (upd H p (.tup (Pu k.toNat xs).flatten)))
theorem EN:fL X (binaryOp .Mult) (L7 X.K):=by
 intro aa s σ H x y v u Q I rx ry h
 obtain ⟨l,k,xs,rfl,rfl,hq,hne,h0,h1,hz,q1,q2⟩:=h
 cases rx
 obtain ⟨t,rfl⟩:=ry
 obtain ⟨its,r,pl,hz0⟩:=I.tuple hq
 obtain ⟨o,ho,hc,n,hd⟩:=pl
 have hl:=r.length
 refine wpAny_binaryOp_repeat_ref (T:="tuple") (U:="int") (by decide) ⟨o,ho,hc⟩ (λs'=>Tr s' k t) tK F.fills_int_mul Ut tL F.slot_int_index.lookup
  (Tt Ut (Tr s k t) F.entry_int_rmul (F.args_int_rmul_2 _ _) (Ba k t l o _ _) ⟨ho,hc,hd,rfl,⟨o,ho,hc⟩,QO Vy ⟨o,ho,hc⟩ F.entry_tuple_mul (EM (its:=its) ho hc hd h0 h1 (by rw [<- hl]; exact hz) (by rintro rfl; cases r; exact hne rfl) (λe=>?_) λe=>?_) (F.args_tuple_mul_2 _ _)⟩)
 ·exact ⟨.ref l,H,I,rfl,q1 e⟩
 ·have Hp:H s.heap.objs.size=none:=I.hok.fresh (Pa _)
  have hz2:(Pu k.toNat xs).flatten.length<=sizeLine:=by rw [len_rep,UH]; exact hz
  have IA:Inv X aa σ (upd H s.heap.objs.size (.tup (Pu k.toNat xs).flatten)) { s with heap:=s.heap.push { cls:=.type "tuple",data:=.seq (Pu k.toNat its).flatten.toArray },toks:=s.toks } :=
   I.laid (a:=s.heap.objs.size) (o:=.tup (Pu k.toNat xs).flatten) (λ_ _ q=>Pc _ q) (Pa _) ⟨hz2,_,r.rep k.toNat,_,Pp _ rfl,rfl,0,rfl⟩
  exact ⟨.ref s.heap.objs.size,_,IA,rfl,q2 e _ Hp⟩
section
variable {K:O7}
theorem Je (h:aL c a ρ λx=>aL c b ρ λy=>∃ ds n,x=.tup ds/\y=.int n/\Sd (ds≠[]/\0<=n/\n<2 ^ 63/\ds.length * n.toNat<=sizeLine) (R (.tup (Pu n.toNat ds).flatten))):aL c (.BinOp a .Mult b pos) ρ R:=λσ H Hf Q S q =>
 bK (uw EN c6 c6) (h σ H Hf _ S λx v H1 aR h1 r1 g1=>h1 σ H1 aR _ (S.cD g1) λy u H2 cL ⟨ds,n,e1,e2,⟨hne,n0,n1,hz⟩,hR⟩ r2 g2=>by
  subst e1 e2
  have r1':=Rep.mono g2.f _ r1
  obtain ⟨l,xs,rfl,k1,k2⟩:=aG.mp r1'
  rw [aA] at r2; subst r2
  have hl:=k2.length
  have g:=g1.trans g2
  refine ⟨l,n,xs,rfl,rfl,az g2.b k1,by rintro rfl; exact hne (List.eq_nil_of_length_eq_zero hl),n0,n1,by rw [<- hl]; exact hz,λe=>?_,λ_ p hp=>?_⟩
  ·subst e
   refine q _ _ H2 cL hR ?_ g
   rw [show (Pu (1:Int).toNat ds).flatten=ds by simp]
   exact r1'
  ·have g3:=br.new (o:=.tup (Pu n.toNat xs).flatten) g2.b hp
   exact q _ _ _ _ hR (aG.mpr ⟨p,_,rfl,.inl (.inl af),(k2.mono g3.f).many _⟩) (g.trans g3))
end
section
variable {K:O7}
end
end EV
namespace EV
open PySem PySem.Spec PyProof.Rows L2
noncomputable def dig (b:Int):Nat->(Nat->Int)->Int
 | 0,_=>0
 | m+1,f=>f 0 * b ^ m+dig b m (λi=>f (i+1))
noncomputable abbrev bR (p:List Int) (i:Nat):Int:=p.getD i 0
noncomputable def pk (b:Int) (p:List Int):Int:=dig b 6 (bR p)
theorem iM:∀ {m:Nat} {f g:Nat->Int},(∀ i,i<m->f i=g i)->dig b m f=dig b m g
 | 0,_,_,_=>rfl
 | m+1,f,g,h=>by
  unfold dig
  rw [h 0 (by lia),iM (m:=m) λi hi=>h (i+1) (by lia)]
theorem vK:∀ (m:Nat) (f g:Nat->Int),dig b m (λi=>f i+g i)=dig b m f+dig b m g
 | 0,_,_=>rfl
 | m+1,f,g=>by
  unfold dig
  rw [vK m (λi=>f (i+1)) (λi=>g (i+1)),RH]
  lia
theorem iN:∀ (m:Nat),dig b m (λ_=>0)=0
 | 0=>rfl
 | m+1=>by unfold dig; rw [iN m,R7]; rfl
theorem gM (hb:0<b):∀ (m:Nat) (f:Nat->Int),(∀ i,i<m->0<=f i/\f i<b)->0<=dig b m f/\dig b m f<b ^ m
 | 0,_,_=>⟨QH _,by show (0:Int)<b ^ 0; rw [Int.pow_zero]; decide⟩
 | m+1,f,h=>by
  have h0:=h 0 (by lia)
  have ih:=gM hb m (λi=>f (i+1)) λi hi=>h (i+1) (by lia)
  have hp:0<b ^ m:=Sa hb
  unfold dig
  rw [Int.pow_succ]
  have a1:0<=f 0 * b ^ m:=Uy h0.1 (by lia)
  have a2:(f 0+1) * b ^ m<=b * b ^ m:=VI (by lia) (by lia)
  rw [RH,Tp] at a2
  rw [Int.mul_comm (b ^ m) b]
  lia
theorem vL (hb:0<b):∀ (m:Nat) (f:Nat->Int),(∀ i,i<m->0<=f i/\f i<b)->∀ i,i<m->dig b m f / b ^ (m - 1 - i) % b=f i
 | 0,_,_,_,hi=>absurd hi (Nat.not_lt_zero _)
 | m+1,f,h,i,hi=>by
  have ih:=vL hb m (λi=>f (i+1)) λi hi=>h (i+1) (by lia)
  have bd:=gM hb m (λi=>f (i+1)) λi hi=>h (i+1) (by lia)
  have hp:0<b ^ m:=Sa hb
  unfold dig
  cases i with
  | zero =>
   rw [show m+1 - 1 - 0=m by lia,UJ,Int.add_mul_ediv_right _ _ (by lia),Int.ediv_eq_zero_of_lt bd.1 bd.2,Tj]
   exact Int.emod_eq_of_lt (h 0 (by lia)).1 (h 0 (by lia)).2
  | succ i =>
   have e:b ^ m=b ^ (i+1) * b ^ (m - 1 - i):=by rw [<- Int.pow_add]; congr 1; lia
   have hq:0<b ^ (m - 1 - i):=Sa hb
   rw [show m+1 - 1 - (i+1)=m - 1 - i by lia,e,<- Tf,UJ,Int.add_mul_ediv_right _ _ (by lia),Int.pow_succ,<- Tf,Int.add_mul_emod_self_right]
   exact ih i (by lia)
theorem ji (h:trim (x::p)=x::p):trim p=p:=by
 rcases List.eq_nil_or_concat p with rfl | ⟨r,z,rfl⟩
 ·rfl
 ·rw [List.concat_eq_append] at h |-
  by_cases e:z=0
  ·subst e
   rw [<- QG,gn] at h
   have:=congrArg SG h
   have l:=fT (x::r)
   simp only [Qg,P0,Rg] at this l
   lia
  ·exact ni r e
theorem rm:∀ {p:List Int},trim p=p->p≠[]->(∀ x∈p,0<=x)->∃ i,i<p.length/\0<bR p i
 | [],_,h,_=>absurd rfl h
 | [x],h,_,h0=>by
  refine ⟨0,by simp,?_⟩
  have:x≠0:=by rintro rfl; simp [trim] at h
  have:=h0 x (by simp)
  show 0<x
  lia
 | x::y::p,h,_,h0=>by
  obtain ⟨i,hi,hq⟩:=rm (ji h) (by simp) λz hz=>h0 z (Pj _ hz)
  exact ⟨i+1,by simp only [Qg] at *; lia,by simpa [bR] using hq⟩
theorem vM (hb:0<b):∀ (m:Nat) (f:Nat->Int),(∀ i,i<m->0<=f i/\f i<b)->(∃ i,i<m/\0<f i)->0<dig b m f
 | 0,_,_,h=>by obtain ⟨i,hi,_⟩:=h; lia
 | m+1,f,h,⟨i,hi,hq⟩=>by
  have bd:=gM hb m (λi=>f (i+1)) λi hi=>h (i+1) (by lia)
  have hp:0<b ^ m:=Sa hb
  unfold dig
  cases i with
  | zero =>
   have:=Int.mul_pos hq hp
   lia
  | succ i =>
   have:=vM hb m (λi=>f (i+1)) (λi hi=>h (i+1) (by lia)) ⟨i,by lia,hq⟩
   have:=Uy (h 0 (by lia)).1 (show 0<=b ^ m by lia)
   lia
theorem Bb (hb:0<b):∀ (m:Nat) (p q:List Int),trim p=p->trim q=q->p.length<=m->q.length<=m->(∀ x∈p,0<=x/\x<b)->(∀ x∈q,0<=x/\x<b)->HT.lexLt p q=true->dig b m (bR p)<dig b m (bR q)
 | m,[],[],_,_,_,_,_,_,h=>by cases h
 | m,[],y::q,_,tq,_,lq,_,hq,_=>by
  have e:dig b m (bR [])=0:=by
   rw [show bR ([]:List Int)=λ_=>0 from funext λi=>by simp [bR]]; exact iN m
  rw [e]
  obtain ⟨i,hi,h0⟩:=rm tq (by simp) λx hx=>(hq x hx).1
  refine vM hb m _ (λj hj=>?_) ⟨i,by lia,h0⟩
  by_cases z:j<(y::q).length
  ·have:bR (y::q) j=(y::q)[j]:=by unfold bR; rw [QA,PU z]; rfl
   rw [this]; exact hq _ (Qa _)
  ·have:bR (y::q) j=0:=by simp only [bR,QA,Ra (by lia:(y::q).length<=j)]; rfl
   rw [this]; lia
 | m,x::p,[],_,_,_,_,_,_,h=>by cases h
 | 0,x::p,y::q,_,_,lp,_,_,_,_=>by simp at lp
 | m+1,x::p,y::q,tp,tq,lp,lq,hp,hq,h=>by
  simp only [Qg] at lp lq
  rw [HT.cY] at h
  have rd:∀ (r:List Int),(∀ z∈r,0<=z/\z<b)->∀ j,0<=bR r j/\bR r j<b:=λr hr j=>by
   by_cases z:j<r.length
   ·have:bR r j=r[j]:=by unfold bR; rw [QA,PU z]; rfl
    rw [this]; exact hr _ (Qa _)
   ·have:bR r j=0:=by simp only [bR,QA,Ra (by lia:r.length<=j)]; rfl
    rw [this]; lia
  have hp':∀ z∈p,0<=z/\z<b:=λz hz=>hp z (Pj _ hz)
  have hq':∀ z∈q,0<=z/\z<b:=λz hz=>hq z (Pj _ hz)
  unfold dig
  show x * b ^ m+dig b m (bR p)<y * b ^ m+dig b m (bR q)
  by_cases e:x=y
  ·rw [if_pos e] at h
   subst e
   have:=Bb hb m p q (ji tp) (ji tq) (by lia) (by lia) hp' hq' h
   lia
  ·rw [if_neg e] at h
   have hxy:x<y:=of_decide_eq_true h
   have b1:=gM hb m (bR p) λi _=>rd p hp' i
   have b2:=gM hb m (bR q) λi _=>rd q hq' i
   have a2:(x+1) * b ^ m<=y * b ^ m:=VI (by lia) (by have hh:0<b ^ m:=Sa hb; lia)
   rw [RH,Tp] at a2
   lia
def Bd (b:Int) (p:List Int):Prop:=p.length<=6/\∀ x∈p,0<=x/\x<b
theorem dG (z:j<p.length):bR p j=p[j]:=by unfold bR; rw [QA,PU z]; rfl
theorem cS (z:p.length<=j):bR p j=0:=by unfold bR; rw [QA,Ra z]; rfl
theorem Gu (hb:0<b) (h:Bd b p) (i):0<=bR p i/\bR p i<b:=by
 by_cases z:i<p.length
 ·rw [dG z]; exact h.2 _ (Qa _)
 ·rw [cS (by lia)]; lia
theorem rA (p):∃ m,p=trim p++Pu m 0:=by
 suffices H:∀ r:List Int,∃ m,r=Pu m 0++r.dropWhile λx=>x == 0 by
  obtain ⟨m,h⟩:=H p.reverse
  refine ⟨m,?_⟩
  have:=congrArg List.reverse h
  rw [List.reverse_reverse,U9,List.reverse_replicate] at this
  exact this
 intro r
 induction r with
 | nil=>exact ⟨0,rfl⟩
 | cons x r ih =>
  by_cases e:x=0
  ·subst e
   obtain ⟨m,h⟩:=ih
   refine ⟨m+1,?_⟩
   rw [Rb,List.dropWhile_cons_of_pos (by simp),QG,<- h]
  ·exact ⟨0,by rw [List.dropWhile_cons_of_neg (by simpa using e)]; rfl⟩
theorem dY (p) (i):bR (trim p) i=bR p i:=by
 obtain ⟨m,h⟩:=rA p
 by_cases z:i<(trim p).length
 ·have e:bR p i=bR (trim p++Pu m 0) i:=by rw [<- h]
  rw [e]
  unfold bR
  simp only [QA]
  rw [Rt z]
 ·rw [cS (by lia)]
  have e:bR p i=bR (trim p++Pu m 0) i:=by rw [<- h]
  rw [e]
  unfold bR
  simp only [QA]
  rw [Sk (by lia),UT]
  split <;> rfl
theorem EO (b) (p):pk b (trim p)=pk b p:=iM λi _=>dY p i
theorem rB (h:x∈trim p):x∈p:=by
 obtain ⟨m,e⟩:=rA p
 rw [e]; exact QM _ h
theorem oV (h:Bd b p):Bd b (trim p):=⟨Pw (fT p) h.1,λx hx=>h.2 x (rB hx)⟩
theorem Bc (hb:0<b) (hp:Bd b p) (hq:Bd b q) (tp:trim p=p) (tq:trim q=q) (h:HT.lexLt p q=true):pk b p<pk b q:=Bb hb 6 p q tp tq hp.1 hq.1 hp.2 hq.2 h
theorem tM (hb:0<b) (hp:Bd b p) (hq:Bd b q) (tp:trim p=p) (tq:trim q=q) (h:pk b p=pk b q):p=q:=by
 by_cases e:p=q
 ·exact e
 ·exfalso
  rcases oH e with z | z
  ·have:=Bc hb hp hq tp tq z; lia
  ·have:=Bc hb hq hp tq tp z; lia
noncomputable def M5 (b:Int) (key:Int):List Int:=trim ((PZ 6).map λ(i:Nat)=>key / b ^ (5 - i) % b)
theorem Jf (hb:0<b) (h:Bd b p):M5 b (pk b p)=trim p:=by
 have e:((PZ 6).map λ(i:Nat)=>pk b p / b ^ (5 - i) % b)=p++Pu (6 - p.length) 0:=by
  refine Um (by simp; have:=h.1; lia) λi h1 h2=>?_
  have hi:i<6:=by simpa using h1
  rw [Vw,Vd]
  have:=vL hb 6 (bR p) (λj _=>Gu hb h j) i hi
  rw [show 6 - 1 - i=5 - i by lia] at this
  rw [show pk b p=dig b 6 (bR p) from rfl,this]
  by_cases z:i<p.length
  ·rw [dG z,List.getElem_append_left z]
  ·rw [cS (by lia),List.getElem_append_right (by lia),List.getElem_replicate]
 unfold M5
 rw [e]
 generalize 6 - p.length=m
 induction m with
 | zero=>simp
 | succ m ih=>rw [List.replicate_succ',<- Pz,gn]; exact ih
noncomputable def cJ (B:List (Int×Int)):List (Key×D):=B.map λx=>(.inl x.1,.int x.2)
theorem iO (B) (k):bD (cJ B) (.inl k)=(bD B k).map D.int:=by
 induction B with
 | nil=>rfl
 | cons t B ih =>
  by_cases e:t.1=k
  ·rw [bx e]
   show bD ((PV t.1,D.int t.2)::cJ B) _=_
   rw [bx (by rw [e])]; rfl
  ·rw [aW e,<- ih]
   show bD ((PV t.1,D.int t.2)::cJ B) _=_
   rw [aW λz=>e (PV.inj z)]
theorem rC (B) (k n):putD (cJ B) (.inl k) (.int n)=cJ (putD B k n):=by
 unfold putD
 rw [iO]
 by_cases h:(bD B k).isSome=true
 ·rw [if_pos h,if_pos (by rw [RW]; exact h)]
  unfold cJ
  rw [PX,PX]
  refine Rm λt _=>?_
  simp only [UC]
  by_cases e:t.1=k
  ·rw [if_pos e,if_pos (by rw [e])]
  ·rw [if_neg e,if_neg λz=>e (PV.inj z)]
 ·rw [if_neg h,if_neg (by rw [RW]; exact h)]
  unfold cJ
  simp
noncomputable def fV (b:Int) (t:aD):Int×Int:=(pk b t.1,t.2)
def Gd (b:Int) (A:List aD):Prop:=∀ t∈A,Bd b t.1/\trim t.1=t.1
theorem tN (hb:0<b) (h:Gd b A) (hp:Bd b p) (tp:trim p=p):bD (A.map (fV b)) (pk b p)=bD A p:=by
 induction A with
 | nil=>rfl
 | cons t A ih =>
  have ih:=ih λx hx=>h x (Pj _ hx)
  have ht:=h t Po
  by_cases e:t.1=p
  ·rw [bx e,Pd,bx (show (fV b t).1=pk b p by unfold fV; rw [e])]; rfl
  ·rw [aW e,Pd,aW λz=>e (tM hb ht.1 hp ht.2 tp z),ih]
theorem Jg (hb:0<b) (h:Gd b A) (hp:Bd b p) (tp:trim p=p):putD (A.map (fV b)) (pk b p) n=(putD A p n).map (fV b):=by
 unfold putD
 rw [tN hb h hp tp]
 split
 ·rw [PX,PX]
  refine Rm λt ht=>?_
  simp only [UC]
  by_cases e:t.1=p
  ·rw [if_pos e,if_pos (show (fV b t).1=pk b p by unfold fV; rw [e])]; rfl
  ·rw [if_neg e,if_neg (show ¬ (fV b t).1=pk b p from λz=>e (tM hb (h t ht).1 hp (h t ht).2 tp z))]
 ·simp [fV]
theorem Jh (h:Gd b A) (hp:Bd b p) (tp:trim p=p):Gd b (putD A p n):=λt ht=>by
 rcases oR ht with e | e
 ·rw [e]; exact ⟨hp,tp⟩
 ·exact h t e
theorem oW (h:∀ t∈ts,Bd b t.1):Gd b (aX ts):=by
 unfold aX
 suffices H:∀ A,Gd b A->Gd b (ts.foldl fE A) from H [] (λ_ h=>by cases h)
 induction ts with
 | nil=>exact λA h=>h
 | cons u ts ih=>exact λA hA=>ih (λt ht=>h t (Pj _ ht)) _ (Jh hA (oV (h u Po)) (cy _))
theorem Ji (hb:0<b) (h:∀ t∈ts,Bd b t.1) (ht:Bd b t.1) :
 putD ((aX ts).map (fV b)) (pk b t.1) ((bD ((aX ts).map (fV b)) (pk b t.1)).getD 0+t.2)=(aX (ts++[t])).map (fV b):=by
 rw [qV]
 unfold fE
 rw [<- EO b t.1,tN hb (oW h) (oV ht) (cy _),Jg hb (oW h) (oV ht) (cy _)]
theorem rD:∀ {L M:List Int},L.Perm M->L.Pairwise (λx y=>y<x)->M.Pairwise (λx y=>y<x)->L=M
 | [],M,h,_,_=>by rw [List.nil_perm] at h; exact h.symm
 | x::L,[],h,_,_=>by simp at h
 | x::L,y::M,h,h1,h2=>by
  rw [Sv] at h1 h2
  by_cases e:x=y
  ·subst e
   rw [rD ((List.perm_cons _).mp h) h1.2 h2.2]
  ·exfalso
   have hx:x∈M:=(Pg.mp (h.subset Po)).resolve_left e
   have hy:y∈L:=(Pg.mp (h.symm.subset Po)).resolve_left (Py e)
   have a:=h1.1 y hy
   have b:=h2.1 x hx
   lia
theorem vN {A:List aD} (hk:(A.map (·.1)).Nodup) {t:aD} (h:t∈A):bD A t.1=some t.2:=by
 induction A with
 | nil=>cases h
 | cons u A ih =>
  rw [Pd,Qu] at hk
  rcases Pg.mp h with rfl | h
  ·exact bx rfl
  ·rw [aW λe=>hk.1 (by rw [e]; exact List.mem_map_of_mem h)]
   exact ih hk.2 h
theorem Be (hb:0<b) (h:∀ t∈ts,Bd b t.1) (hp:L'.Perm (((aX ts).map (fV b)).map (·.1))) (hs:L'.Pairwise λx y=>y<x):L'=(iK (aX ts)).map λt=>pk b t.1:=by
 have hg:=oW h
 have hk:=eZ ts
 generalize aX ts=A at *
 refine rD (hp.trans ?_) hs ?_
 ·rw [PX]
  exact ((bY A).map _).symm
 ·rw [SS]
  have hs2:=iL (keys_nodup hk)
  have hm:∀ t∈iK A,t∈A:=λt ht=>(bY A).subset ht
  have hk2:(iK A).Pairwise λx y=>x.1≠y.1:=by
   have:=((bY A).map (·.1)).nodup_iff.mpr hk
   unfold Tu at this
   rwa [SS] at this
  unfold iJ jH at hs2
  refine VB.imp_of_mem (R:=λx y=>(if true then cR y x=true else cR x y=true)/\x.1≠y.1) (λ{x y} hx hy q=>?_) (hs2.and hk2)
  obtain ⟨q1,q2⟩:=q
  rw [if_pos rfl] at q1
  unfold cR at q1
  rw [if_neg (Py q2)] at q1
  exact Bc hb (hg _ (hm _ hy)).1 (hg _ (hm _ hx)).1 (hg _ (hm _ hy)).2 (hg _ (hm _ hx)).2 q1
noncomputable def ER (b:Int) (p:List Int):Int:=p.foldl (λa x=>a * b+x) 0
theorem Bf (b) (p) (x):ER b (p++[x])=ER b p * b+x:=by unfold ER; rw [Uc]; rfl
theorem rE (b):∀ (p:List Int) (a:Int),p.foldl (λa x=>a * b+x) a=a * b ^ p.length+dig b p.length (bR p)
 | [],a=>by simp [dig]
 | x::p,a=>by
  rw [QK,rE b p]
  show (a * b+x) * b ^ p.length+_=a * b ^ (p.length+1)+(x * b ^ p.length+dig b p.length (bR p))
  rw [RH,Int.pow_succ,Tf,Int.mul_comm b (b ^ p.length)]
  lia
theorem vO (b) (p):ER b p=dig b p.length (bR p):=by unfold ER; rw [rE]; lia
theorem rF (k):∀ (m:Nat) (f:Nat->Int),(∀ i,m<=i->f i=0)->dig b (m+k) f=dig b m f * b ^ k
 | 0,f,h=>by
  rw [RD,iM (g:=λ_=>0) λi _=>h i (PY _),iN]
  show 0=0 * b ^ k
  rw [R7]
 | m+1,f,h=>by
  rw [show m+1+k=(m+k)+1 by lia]
  unfold dig
  rw [rF k m (λi=>f (i+1)) λi hi=>h (i+1) (by lia),RH,Int.pow_add,Tf]
theorem Jj (h:p.length<=6):ER b p * b ^ (6 - p.length)=pk b p:=by
 rw [vO,<- rF (6 - p.length) p.length (bR p) λi hi=>cS hi]
 rw [show p.length+(6 - p.length)=6 by lia]
 rfl
theorem Bg (hb:0<b) (h:∀ x∈p,0<=x/\x<b):0<=ER b p/\ER b p<b ^ p.length:=by
 rw [vO]
 exact gM hb _ _ λi hi=>by rw [dG hi]; exact h _ (Qa _)
theorem L8 (hb:0<b) (h:Bd b p):0<=pk b p/\pk b p<b ^ 6:=gM hb _ _ λi _=>Gu hb h i
theorem two_pos (W):(0:Int)<2 ^ W:=Sa (by decide)
theorem gv (W):((2:Int) ^ W)=((2 ^ W:Nat):Int):=by rw [Int.natCast_pow]; rfl
theorem Bh (hW:W<=10) (hn:n<=6):((2:Int) ^ W) ^ n<=2 ^ 60:=by
 rw [<- Int.pow_mul,gv,gv]
 exact Int.ofNat_le.mpr (Nat.pow_le_pow_right (by decide) (Pw (Rz hW hn) (by decide)))
theorem vP (hW:W<=10) (hn:n<=6) (h0:0<=x) (h:x<((2:Int) ^ W) ^ n):x.natAbs<2 ^ 64:=by
 have:=Bh hW hn
 have h60:(2:Int) ^ 60<2 ^ 64:=by decide
 have:x<((2 ^ 64:Nat):Int):=by rw [<- gv]; lia
 lia
theorem xX (W) (h:0<=x):Builtin.bitAnd x (1 * 2 ^ W - 1)=x % 2 ^ W:=by
 have hp:=two_pos W
 have e0:(1:Int) * 2 ^ W - 1=((2 ^ W - 1:Nat):Int):=by
  have:0<2 ^ W:=Nat.pow_pos (by decide)
  rw [Tp,gv]; lia
 rw [e0]
 show (match decide (0<=x),decide (0<=((2 ^ W - 1:Nat):Int)) with
  | true,true=>(((x.toNat &&& (((2 ^ W - 1:Nat):Int)).toNat:Nat)):Int)
  | true,false=>_ | false,true=>_ | false,false=>_)=_
 rw [decide_eq_true h,decide_eq_true (Int.natCast_nonneg _)]
 show ((x.toNat &&& (2 ^ W - 1):Nat):Int)=_
 rw [Nat.and_two_pow_sub_one_eq_mod,gv,Int.natCast_emod,Int.toNat_of_nonneg h]
noncomputable def cz (p q:List Int):List Int:=(PZ (max p.length q.length)).map λk=>bR p k+bR q k
noncomputable def dP (l r:aD):aD:=(cz l.1 r.1,l.2 * r.2)
noncomputable def aI (A B:List aD):List aD:=A.flatMap λl=>B.map (dP l)
theorem iP (p q):(cz p q).length=max p.length q.length:=by simp [cz]
theorem bZ (p q) (i):bR (cz p q) i=bR p i+bR q i:=by
 by_cases z:i<max p.length q.length
 ·rw [dG (by rw [iP]; exact z)]; simp [cz]
 ·rw [cS (by rw [iP]; lia),cS (by lia),cS (by lia)]; rfl
theorem ES (b) (p q):pk b (cz p q)=pk b p+pk b q:=by
 unfold pk
 rw [<- vK]
 exact iM λi _=>bZ p q i
theorem fW (h:t∈aI A B):∃ l∈A,∃ r∈B,t=dP l r:=by
 unfold aI at h
 obtain ⟨l,hl,h⟩:=Vu.mp h
 obtain ⟨r,hr,rfl⟩:=Pr.mp h
 exact ⟨l,hl,r,hr,rfl⟩
theorem nC (A B) (l):aI (A++[l]) B=aI A B++B.map (dP l):=by
 unfold aI
 rw [List.flatMap_append,Sy,Ul,Qp]
theorem dz (A B):(aI A B).length=A.length * B.length:=by
 induction A with
 | nil=>simp [aI]
 | cons a A ih =>
  unfold aI at *
  rw [Sy,P0,ih,Pe,Qg,Tg]
  lia
end EV
namespace EV
open PySem PySem.Spec PySem.Calls PyProof.Rows L2
theorem Bj {K:O7}:∀ {kvs:List (Key×D)} {ys:List (Key×V)},ys.map (·.1)=kvs.map (·.1)->ak K H (kvs.map (·.2)) (ys.map (·.2))->lN K H kvs ys
 | [],[],_,_=>.nil
 | [],y::ys,h,_=>by simp at h
 | x::kvs,[],h,_=>by simp at h
 | x::kvs,y::ys,h,r=>by
  rw [Pd,Pd] at h r
  obtain ⟨v,t,e,r1,r2⟩:=aF.mp r
  injection e with e1 e2
  injection h with h1 h2
  subst e1 e2
  exact .cons ⟨h1.symm,r1⟩ (Bj h2 r2)
section
variable {K:O7}
theorem Jk (h:aL c a ρ λx=>aL c b ρ λy=>∃ (kvs:List (Key×D)) (kk:Key) (d:D),x=.fdK (kvs.map (·.1)) (kvs.map (·.2))/\y.xj=some kk/\bD kvs kk=some d/\R d) (hs:Hx b:=by with_unfolding_all exact λ_ _=>rfl):aL c (.Subscript a b pos) ρ R:=λσ H Hf Q S q =>
 bK (DB c.hu c6 c6 hs) (h σ H Hf _ S λx v H1 aR h1 r1 g1=>h1 σ H1 aR _ (S.cD g1) λy u H2 cL ⟨kvs,kk,d,e1,e2,e3,hR⟩ r2 g2=>by
  subst e1
  obtain ⟨p,ys,o,rfl,k1,k2,k3⟩:=gY.mp r1
  have kv:=(Bj k2 k3).mono g2.f
  have rel:=kv.val kk
  rw [e3] at rel
  rw [iu e2 r2]
  cases z:kj ys kk with
  | none=>rw [z] at rel; exact rel.elim
  | some v =>
   rw [z] at rel
   exact ⟨p,v,rfl,.inl ⟨ys,kk,.inr ⟨o,g2.b _ _ (g2.f _ _ k1)⟩,rfl,z.symm⟩,q d v H2 cL hR rel (g1.trans g2)⟩)
end
end EV
namespace EV
open PySem PySem.Spec PyProof.Rows L2
theorem rG {A:List aD} {l:List Int} {n:Int} {t:aD} (h:t∈putD A l n):t=(l,n)\/t∈A:=by
 unfold putD at h
 split at h
 ·obtain ⟨u,hu,e⟩:=Pr.mp h
  split at e
  ·rename_i q; subst e; exact .inl (by rw [q])
  ·subst e; exact .inr hu
 ·rcases PD.mp h with q | q
  ·exact .inr q
  ·simp at q; exact .inl q
theorem Jl {A:List aD} (h:∀ t∈A,t.2.natAbs<=c) (l):((bD A l).getD 0).natAbs<=c:=by
 unfold bD
 cases e:A.find? (λkv=>decide (kv.1=l)) with
 | none=>exact PY _
 | some u=>exact h u (List.mem_of_find?_eq_some e)
theorem vQ:∀ (ts A:List aD) (c:Nat),(∀ t∈A,t.2.natAbs<=c)->(∀ t∈ts,t.2.natAbs<=m)->∀ t∈ts.foldl fE A,t.2.natAbs<=c+ts.length * m
 | [],A,c,h,_,t,ht=>by simpa using h t ht
 | u::ts,A,c,h,g,t,ht=>by
  have:=vQ (m:=m) ts (fE A u) (c+m) (λt' ht'=>by
   rcases rG ht' with rfl | q
   ·have a:=Jl h (trim u.1)
    have b:=g u Po
    show ((bD A (trim u.1)).getD 0+u.2).natAbs<=c+m
    omega
   ·have:=h t' q; omega) (λt h=>g t (Pj _ h)) t ht
  rw [Qg,Tg]
  omega
theorem Jm (h:∀ t∈ts,t.2.natAbs<=m):∀ t∈aX ts,t.2.natAbs<=ts.length * m:=λt ht=>by
 have:=vQ ts [] 0 (by simp) h t ht
 omega
theorem xY (l m:List Int):jT (n+1) (.tup (l.map D.int)) (.tup (m.map D.int)):=.tup λi d e h1 h2=>by
 simp only [Pk,Pq] at h1 h2
 obtain ⟨a,_,rfl⟩:=h1
 obtain ⟨b,_,rfl⟩:=h2
 exact .sc rfl
theorem Bk (x y):jT (n+2) (av x) (av y):=.tup λi d e h1 h2=>by
 rcases i with _ | _ | i
 ·simp at h1 h2; subst h1 h2; exact xY _ _
 ·simp at h1 h2; subst h1 h2; exact .sc rfl
 ·simp at h1
theorem Bl (L M:List aD):jT (n+3) (.lst (L.map av)) (.lst (M.map av)):=.lst λi d e h1 h2=>by
 simp only [Pk,Pq] at h1 h2
 obtain ⟨a,_,rfl⟩:=h1
 obtain ⟨b,_,rfl⟩:=h2
 exact Bk a b
theorem Bm (es):lX [] es:=λi d e h _=>by simp at h
theorem nD (h:jT 40 d e) (t:lX ds es):lX (d::ds) (e::es):=λi a b h1 h2=>by
 cases i with
 | zero=>simp at h1 h2; subst h1 h2; exact h
 | succ i=>exact t i a b (by simpa using h1) (by simpa using h2)
theorem Bo (h:lX ds ds) (t:T true):CV (.lst ds) (.lst ds) T:=DL ⟨h,by rw [decide_eq_true rfl]; exact t⟩
theorem lg {α:Type} (xs:List α) (a b:Nat):(EV.cutD xs (some (a:Int)) (some (b:Int))).length<=b - a:=by
 unfold EV.cutD HT.b9
 simp only [show ¬ ((a:Int)<0) by omega,show ¬ ((b:Int)<0) by omega,if_false,Qk,Uk,Qt]
 omega
section
variable {K:O7}
theorem int_mk (KX:K.In h) (G:h.Ns mainGlobals mg) (a:Qq K mainGlobals x=some (some (.int i tk))):∃ tk:Tok,mg x=some (.int i tk):=⟨tk,PySem.W.mg_of KX G a⟩
theorem vR (P) (w) (base) {st:Stmt} (D:ay K mg x st) (ok:∀ {f:Addr} {fd:FuncData},dI K x x st f fd->bq P w K mg base (cK P w) k f fd ps (IW K F))
 (hb:∀ (kV doc pm:Value) (an:Option Addr) (cdv ct:Value) (us:List Value),us.length=ps.length->bindArgs (Ri x x (d9 st) (aq st) (aO st) .none kV doc pm an cdv ct) ⟨us,[]⟩=pure (ps.zip us):=by intro _ _ _ _ _ _ us hl; first | (obtain ⟨a,rfl⟩:=IB us hl; rfl) | (obtain ⟨a,b,rfl⟩:=IC us hl; rfl) | (obtain ⟨a,b,c,rfl⟩:=ID us hl; rfl) | (obtain ⟨a,b,c,d,rfl⟩:=len4 us hl; rfl) | (obtain ⟨a,b,c,d,e,rfl⟩:=len5 us hl; rfl) | (obtain ⟨a,b,c,d,e,f,rfl⟩:=len6 us hl; rfl) | (obtain rfl:=len0 us hl; rfl)):EG P w K mg base k x F :=
 let ⟨f,fd,m,Fu⟩:=D; ⟨f,fd,ps,m,Fu.kp,Fu.binds hb,ok Fu⟩
end
theorem fF (h:n<=100000):n<sizeLine:=Ro h (by decide)
theorem l6 (h:n<=100000):n<=sizeLine:=RG (fF h)
structure tO (P:Program) (w:World) (K:O7) (mg:Str->Option Value) (base:Heap) (k:Nat) (f:Addr) (F:Fn):Prop where
 ex:∃ fd ps,Q7 K (.ref f)=true/\Binds K fd ps []/\bq P w K mg base (cK P w) k f fd ps (dM K F)
section
variable {K:O7} {c:Ctx P w K mg base k N sc bk}
theorem cI.at_ (h:cI P w K mg base j x F):∃ f,mg x=some (.ref f)/\tO P w K mg base j f F:=by
 obtain ⟨f,fd,ps,a,b,c,d⟩:=h.ex
 exact ⟨f,a,fd,ps,b,c,d⟩
theorem oX (hm:mg x=some (.ref f)) (hR:R (.adr f)) (hg:sc.names.lookup x=some .globalImplicit:=by walk_at "u") (hd:(x == ("__debug__":Str))=false:=by decide) :
 aL c (.Name x pos) ρ R:=λσ H Hf Q S q =>
 bK (uv (X:=c.X) (v:=.ref f) (u:=.ref f) (by unfold Gl P6; rw [c.esc]; exact hg) (by rw [c.emg]; exact hm) rfl hd) (q _ _ H Hf hR (dU.mpr rfl) (.refl S.sb))
theorem Bp (h:tO P w K mg base j f F) (hj:j<=k):Q7 K (.ref f)=true /\
 ∀ (aa:List (Addr×Obj)) (σ:L2.St) (H Hf:Hp) (s:Shared) (us:List Value) (vs:List V) (ds:List D) (r:Res) (Q:VK),Inv c.X aa σ H s->bB c σ H Hf ρ->Vals vs us->ak c.X.K Hf ds vs->F ds r ->
  (∀ sl v H' aj,r=.ok sl->aY c.X.K (λp=>H p=none) H' aj sl v->br H Hf H' aj->Q v H')->(∀ C,r=.ex C->c.RX C ρ)->wpAny (model c.X.prog c.X.w) c.X.A (call (.ref f) us) (EP c.X aa σ Q) c.X.xe s:=by
 obtain ⟨fd,ps,hk,hb,hF⟩:=h.ex
 refine ⟨hk,λaa σ H Hf s us vs ds r Q I S rv rs hr q hx=>?_⟩
 have hF':bq c.X.prog c.X.w c.X.K c.X.mg c.X.base (cK c.X.prog c.X.w) k f fd ps (dM c.X.K F):=by rw [c.eP,c.ew,c.eK,c.emg,c.eb]; exact hF.mono hj
 have pU:dM c.X.K F vs H Q (λcv ao H'=>∃ C,r=.ex C/\cv=.ref C/\aM H H'):=by
  refine ⟨Hf,ds,r,S.bas.b,rs,hr,?_⟩
  cases r with
  | ok sl=>exact λv H' aj g rs2=>q sl v H' aj rfl rs2 g
  | ex C=>exact λa H' s2=>⟨C,rfl,rfl,s2⟩
 have hl:us.length=ps.length:=by rw [<- rv.length]; exact hF'.len _ _ _ _ pU
 have hb':Binds c.X.K fd ps []:=by rw [c.eK]; exact hb
 have hb2:=hb' s us I.nL (by simpa using hl)
 rw [Qp] at hb2
 refine SH (SD (hF'.run c.X.A c.X.stack s H ⟨us,[]⟩ us vs Q _ c.room I.Dp hb2 rv pU) λr' s' hq=>?_)
 cases r' with
 | error e =>
  obtain ⟨a,C,H',rfl,hE,C',e1,e2,sm⟩:=hq
  cases e2
  exact c.exc C a aa σ H Hf ρ s H' s' I S (hx C e1) hE sm
 | ok fl =>
  cases fl with
  | ret u=>exact I.after hq
  | next=>exact Qs hq
  | brk=>exact Qs hq
  | cont=>exact Qs hq
theorem oY {R:Sl->Prop} (h:tO P w K mg base j f F) (hj:j<=k) (hN:At N i x) (hi:At ρ i (.va (.adr f)))
 (ha:qj c (e::es) ρ λds=>∃ r,F ds r/\HQ c ρ R r)
 (hdb:(x == ("__debug__":Str))=false:=by decide) (hcd:(x == ("__classdict__":Str))=false:=by decide) (he:∀ env,starEach (e::es) env=(false,eval e env)::starEach es env:=by intro _; walk_at "u")
 (hpl:∀ env,(backTo pos (starEach es env)).any (·.1)=false:=by intro _; walk_at "u"):cV c (.Call (.Name x p) (e::es) [] pos) ρ R:=λσ H Hf Q S q aa s I=>by
 obtain ⟨hk,run⟩:=Bp (c:=c) (ρ:=ρ) h hj
 obtain ⟨v0,e0,r0⟩:=S.va hi.get
 rw [dU] at r0
 subst r0
 refine Q5 (bC (c.i9 hN hdb hcd aa s σ H (λv H1=>v=.ref f/\H1=H) I ⟨_,e0,rfl,rfl⟩) λfv s1 ⟨v,H1,I1,rv,e1,e2⟩=>?_)
 subst e1 e2
 have ef:fv=.ref f:=rv
 subst ef
 refine T7 (h₀:=c.X.base) I1.ok.mod.kin (by rw [c.eK]; exact hk) (bC (ha σ _ Hf (λvs H1=>∃ aR ds,(∃ r,F ds r/\HQ c ρ R r)/\ak c.X.K aR ds vs/\br _ Hf H1 aR) S (λds vs H1 aR hr rs g=>⟨aR,ds,hr,rs,g⟩) pos aa s1 I1) λus s2 ⟨vs,H2,I2,rv,aR,ds,⟨r,hF,hR⟩,rs,g⟩=>⟨I2.nL,?_⟩) (he _) (hpl _)
 refine run aa σ H2 aR s2 us vs ds r Q I2 (S.cD g) rv rs hF (λsl v H' aj e1 rs2 g2=>?_) λC e1=>?_
 ·subst e1
  exact q sl v H' aj hR (rs2.weak λp hp=>g.s.free hp) (g.trans g2)
 ·subst e1
  exact hR
end
end EV
namespace EV
open PySem PySem.Spec PySem.Calls PyProof.Rows L2
theorem xZ (hc:X.calm=true) (I:Inv X aa σ H s) (sb:aM Hf H) (hv:s.heap.IsItemsView v d) (hH:Hf d=some (.frz o u)) (hd:HO.dct u) (hp:Paired (mW X.K Hf) ds (cG u))
 (hQ:∀ (a:Addr) (s':Shared) (H' aj:Hp) (xs:List V),Inv X aa σ H' s'->H' a=some (.lst xs)->H a=none->aj a=none->ak X.K aj ds xs->br H Hf H' aj->Q (.ref a) s'):wpAny (model X.prog X.w) X.A (call (.type "list") [.ref v]) Q E s:=by
 obtain ⟨ho,ok⟩:=(show bz X.prog X.w H s.heap d (.frz o u) from I.hok d _ (sb _ _ hH))
 obtain ⟨_,_,_,_,_,_,hz⟩:=di ok hd ho
 have h1:X.A.in1.handled=none:=I.ok.hd hc
 have h2:X.A.in1.frames=some X.stack:=I.ok.frames
 refine callType_codes (Q₁:=λobj s₁=>obj=.ref s.heap.objs.size/\s₁={ s with heap:=s.heap.push { cls:=.type "list",data:=.seq #[] } }) F.called_list (F.typeCall_list_1 _) F.entry_list_init
  (code_list_new _ ⟨rfl,rfl⟩) λobj s₁ h₁=>?_
 obtain ⟨rfl,rfl⟩:=h₁
 have hS:(s.heap.push { cls:=.type "list",data:=.seq #[] }).get? s.heap.objs.size=some { cls:=.type "list",data:=.seq #[] }:=Pp _ rfl
 refine ⟨⟨_,hS,rfl⟩,F.args_list_init_2 _ _,?_⟩
 show wpAny _ X.A.in1.in1 (do let old <- RT (.ref s.heap.objs.size); Ru (.ref s.heap.objs.size) (λ_=> #[]); letGo old.toList.reverse; TF (.ref s.heap.objs.size) (.ref v) .none) _ _ _
 refine O6 (R5 hS rfl ?_)
 have HS:H s.heap.objs.size=none:=I.hok.fresh (Pa _)
 have I1:Inv X aa σ (upd H s.heap.objs.size (.lst [])) { s with heap:=s.heap.push { cls:=.type "list",data:=.seq ([]:List Value).toArray },toks:=s.toks }:=I.Dw (t':=s.toks) (ys:=[]) (its:=[]) .nil (PY _)
 refine O6 (QV hS rfl ?_)
 have I2:=I1.sM (f:=λ_=>(#[]:Array Value)) (its':=[]) (ys:=[]) (t':=s.toks) af (n:=0) hS (by simp) .nil (PY _)
 rw [jO] at I2
 refine O6 (R8 ?_)
 have k1:∀ b o,s.heap.get? b=some o->((s.heap.push { cls:=.type "list",data:=.seq ([]:List Value).toArray }).update s.heap.objs.size (P1 λ_=>(#[]:Array Value))).get? b=some o:=λb o e=>by
  rw [Rn _ _ _ _ (PM (Pf e))]
  exact Pc _ e
 have up:∀ s':Shared,(∀ b o,s.heap.get? b=some o->s'.heap.get? b=some o)->s'.heap.IsItemsView v d:=λs' k=>by obtain ⟨q,q1,q2⟩:=hv; exact ⟨q,k _ _ q1,q2⟩
 have hne:s.heap.objs.size≠v:=RE (by obtain ⟨_,q,_⟩:=hv; exact Pf q)
 have g0:br H Hf (upd H s.heap.objs.size (.lst [])) Hf:=br.eU sb HS
 refine nh (X:=Gq X X.A.in1) (T:="dict_items") (ds:=ds) (H:=H) (Hf:=Hf) (R:=wants (λr s₂=>r=.none/\Q (.ref s.heap.objs.size) s₂) E) hc h1 h2 (kW I2 (λ_=>h1) h2) sb HS hne ?_ (by rw [Q4 hp]; exact hz) (by decide) (λs' k=>(up s' λb o e=>k b o (k1 b o e)).typeIs) (λA s' Q E q h=>xG q h) ?_ λs' H' aj xs I' hS' hfS hr g=>⟨rfl,hQ _ s' H' aj xs (iI I.ok I') hS' HS hfS hr g⟩
 ·show _<(Heap.update _ _ _).objs.size
  rw [Vx]
  show _<(Heap.push _ _).objs.size
  rw [Q3]; exact RZ _
 ·refine Qd (Ey (X:=Gq X X.A.in1) (tg:=.Name "x" ⟨0,0,0,0⟩) (kW I2 (λ_=>h1) h2) (up _ k1) (g0.b _ _ hH) hd) (λitv s2 hh=>z3 hh λit es ep hh=>w7 hh λe hit I3 Tn t0 hf k2=>?_) λ_ _ x=>x
  exact ⟨it,_,_,e,hit,I3,Tn,t0,hf,k2,kK hH hp⟩
section
variable {K:O7} {c:Ctx P w K mg base k N sc bk}
theorem rH (hm:mg "list"=none) (h:aL c e ρ λd=>∃ ds,d.pairs=some ds/\R (.ow ds)) (hg:sc.names.lookup (O5 "list")=some .globalImplicit:=by walk_at "u")
 (hb:∀ env,attributeBase e "items" env (eval e env)=eval e env:=by intro _; walk_at "u") (hl:(ap.endLine == cp.line)=true:=by walk_at "u") :
 cV c (.Call (.Name "list" np) [.Call (.Attribute e "items" ap) [] [] cp] [] pos) ρ R:=λσ H Hf Q S q aa s I=>by
 have hgl:Gl c.X "list":=by unfold Gl P6; rw [c.esc]; exact hg
 refine Q5 (cW I hgl (by rw [c.emg]; exact hm) (show bootBuiltins "list"=some (.type "list") by decide +kernel) ?_ (by decide) (by decide))
 have hpa:=bM (X:=c.X) (e:=.Call (.Attribute e "items" ap) [] [] cp) (es:=[]) (AY c6 (hb _) hl) dD (by rfl)
 refine Si (bC (hpa pos aa s σ H (λvs H1=>∃ x,vs=[x]/\∃ (v d:Addr) (o:Obj) (u:HO) (ds:List D) (H0 De:Hp),x=.ref v/\H1=upd H0 v (.ext λh=>h.IsItemsView v d)/\H0 v=none/\De d=some (.frz o u)/\HO.dct u/\Paired (mW c.X.K De) ds (cG u)/\br H Hf H0 De/\R (.ow ds)) I ?_) λus s1 hh=>z2 hh λvs H1 hh=>w3 hh λI1 r1 hh=>hh.elim λx hh=>w2 hh λex hh=>z4 hh λv d o u hh=>z3 hh λds H0 De hh=>w8 hh λe1 e2 e3 e4 e5 e6 e8 e9=>?_) (by rfl) (by rfl)
 ·exact h σ H Hf _ S λd v H1 aR ⟨ds,hp,hR⟩ rv g=>by
   obtain ⟨a,o,u,e1,e2,e3,e4⟩:=mX hp rv
   exact ⟨a,o,u,e1,g.b _ _ e2,e3,λvw hv=>⟨_,rfl,vw,a,o,u,ds,H1,aR,rfl,rfl,hv,e2,e3,e4,g,hR⟩⟩
 ·subst ex e1 e2
  have eu:us=[.ref v]:=by
   cases r1 with
   | cons q1 q2=>cases q2; cases q1; rfl
  subst eu
  have g1:br H0 De (upd H0 v (.ext λh=>h.IsItemsView v d)) De:=br.eU e8.b e3
  obtain ⟨hvw,_⟩:=(show bz c.X.prog c.X.w _ s1.heap v (.ext λh=>h.IsItemsView v d) from I1.hok v _ af)
  refine xZ c.calm I1 g1.b hvw e4 e5 e6 λa s' H' aj xs I' hS' na yN hr g=>?_
  have gg:=(e8.trans g1).trans g
  exact ⟨.ref a,H',I',rfl,q (.ow ds) _ _ aj e9 ⟨a,xs,rfl,e8.s.free (g1.s.free na),hS',yN,hr⟩ gg⟩
end
theorem Bq {K:O7}:∀ {ds:List D} {xs:List V} {us:List Value},ak K Hf ds xs->Vals xs us->Paired (λd u=>oJ K Hf d u) ds us
 | [],xs,us,h,v=>by rw [aB] at h; subst h; cases v; exact .nil
 | t::L,xs,us,h,v=>by
  obtain ⟨x,r,rfl,h1,h2⟩:=aF.mp h
  cases v with
  | cons r1 r2=>exact .cons ⟨x,r1,h1⟩ (Bq h2 r2)
theorem Br {K:O7}:∀ {ds:List D} {us:List Value},Paired (λd u=>oJ K Hf d u) ds us->∃ xs,ak K Hf ds xs/\Vals xs us
 | _,_,.nil=>⟨[],aB.mpr rfl,.nil⟩
 | _,_,.cons ⟨x,r1,h1⟩ t=>by
  obtain ⟨xs,h2,h3⟩:=Br t
  exact ⟨x::xs,.cons h1 h2,.cons r1 h3⟩
theorem tP (hc:X.calm=true) (I:Inv X aa σ H s) (sb:aM Hf H) (hl:fk X.K Hf l ys) (hr:ak X.K Hf ds ys) (hd:∀ d∈ds,∃ es,d=.lst es)
 (hQ:∀ (ds':List D) (xs':List V) (s':Shared) (a:Addr),ds'.Perm ds->ak X.K Hf ds' xs'->H a=none->Inv X aa σ (upd H a (.lst xs')) s'->Q (.ref a) s') :
 wpAny (model X.prog X.w) X.A (call (.builtin "sorted") [.ref l] [(O5 "key",.builtin "len")]) Q E s:=by
 refine UW kind_sorted plain_sorted entry_sorted (SR.jG _ _) ?_
 unfold Builtin.«sorted»
 refine O6 (m:=checkCount "sorted" 1 1 _) (O8 ?_)
 obtain ⟨its,rv,p,hz⟩:=I.list (sb.seq hl)
 have el:=rv.length
 refine O6 (collect_list p.isList ?_ (by lia))
 have I2:Inv X aa σ H { s with heap:=(s.heap.push (seqObj "list" #[] 0)).update s.heap.objs.size (P1 (· ++its.toArray)),toks:=s.toks }:=I.kept λc o e=>by
  rw [Rn _ _ _ _ (PM (Pf e))]
  exact Pc _ e
 generalize (s.heap.push (seqObj "list" #[] 0)).update s.heap.objs.size (P1 (· ++its.toArray))=h0 at I2 |-
 refine O6 (UA ?_ (by lia))
 have ha:(h0.push (seqObj "list" its.toArray 0)).get? h0.objs.size=some (seqObj "list" its.toArray 0):=Pp _ rfl
 have Ha:H h0.objs.size=none:=I2.hok.fresh (Pa _)
 have k2:∀ b o,h0.get? b=some o->(h0.push (seqObj "list" its.toArray 0)).get? b=some o:=λb o e=>Pc _ e
 have I3:Inv X aa σ H { s with heap:=h0.push (seqObj "list" its.toArray 0),toks:=s.toks }:=I2.kept (t':=s.toks) k2
 have pL:=Bq hr rv
 refine O6 (QL (wpAny_call_entry_kw slot_list_sort ⟨_,ha,rfl⟩ entry_list_sort (SR.AS ha (by lia) (λv hv=>?_) λout h' tk e hp he hk=>⟨_,rfl,?_⟩) (SR.gI _ _)))
 ·obtain ⟨d,hd',x,r1,h1⟩:=SR.gH pL v hv
  obtain ⟨es,rfl⟩:=hd d hd'
  obtain ⟨b,zs,rfl,q1,q2⟩:=aU.mp h1
  cases r1
  obtain ⟨its',rv',p',hz'⟩:=I3.list (sb.seq q1)
  have e':=rv'.length
  refine ⟨b,its'.toArray,rfl,?_,p'.isList,by simp only [PF]; lia⟩
  rintro rfl
  obtain ⟨_,_,p2,_⟩:=I2.list (sb.seq q1)
  obtain ⟨o,q,_⟩:=p2.isList
  exact QW _ (Pf q)
 ·obtain ⟨ds',p1,p2⟩:=SR.fS hp pL
  obtain ⟨xs',r',v'⟩:=Br p2
  have hlen:out.toList.length=its.length:=hp.length_eq
  refine O8 ⟨_,rfl,hQ ds' xs' _ _ p1 r' Ha ?_⟩
  refine I2.laid (t':=tk) (a:=h0.objs.size) (λb o q=>hk b o (PM (Pf q)) (k2 b o q)) (Pa _) ⟨by have:=v'.length; lia,out.toList,e,v',by simpa using he⟩
section
variable {K:O7} {c:Ctx P w K mg base k N sc bk}
theorem x6 (hm:mg "sorted"=none) (hml:mg "len"=none) (h:aL c e ρ λd=>∃ ds,d=.lst ds/\Sd (∀ x∈ds,∃ es,x=.lst es) (∀ ds':List D,ds'.Perm ds->R (.ow ds')))
 (hg:sc.names.lookup (O5 "sorted")=some .globalImplicit:=by walk_at "u") (hgl:sc.names.lookup (O5 "len")=some .globalImplicit:=by walk_at "u")
 (he:∀ env,starEach [e] env=(false,eval e env)::starEach [] env:=by intro _; walk_at "u")
 (hpl:∀ env,(backTo pos (starEach [e] env)).any (·.1)=false:=by intro _; walk_at "u") :
 cV c (.Call (.Name "sorted" np) [e] [⟨some "key",.Name "len" kp1,kp⟩] pos) ρ R:=λσ H Hf Q S q aa s I=>by
 have hgs:Gl c.X "sorted":=by unfold Gl P6; rw [c.esc]; exact hg
 have hgl':Gl c.X "len":=by unfold Gl P6; rw [c.esc]; exact hgl
 refine Q5 (cW I hgs (by rw [c.emg]; exact hm) (show bootBuiltins "sorted"=some (.builtin "sorted") by decide +kernel) ?_ (by decide) (by decide))
 refine callWith_kw ?_ (by rw [he]; rfl) (hpl _)
 have hpa:=bM (X:=c.X) (e:=e) (es:=[]) c6 dD (he _)
 refine bC (hpa pos aa s σ H (λvs H1=>∃ x,vs=[x]/\∃ (ds:List D) (aR:Hp),Rep c.X.K aR (.lst ds) x/\(∀ x∈ds,∃ es,x=.lst es)/\br H Hf H1 aR/\∀ ds':List D,ds'.Perm ds->R (.ow ds')) I ?_) λus s1 hh=>z2 hh λvs H1 hh=>w3 hh λI1 r1 hh=>hh.elim λx hh=>w2 hh λex hh=>z2 hh λds aR hh=>w4 hh λe1 e7 e8 e9=>?_
 ·exact h σ H Hf _ S λd v H1 aR ⟨ds,hp,⟨hn,hR⟩⟩ rv g=>⟨_,rfl,ds,aR,by rw [<- hp]; exact rv,hn,g,hR⟩
 ·subst ex
  obtain ⟨a0,ys,rfl,hs,hr⟩:=aU.mp e1
  have eu:us=[.ref a0]:=by
   cases r1 with
   | cons q1 q2=>cases q2; cases q1; rfl
  subst eu
  refine kws_cons (cW I1 hgl' (by rw [c.emg]; exact hml) (show bootBuiltins "len"=some (.builtin "len") by decide +kernel) ?_ (by decide) (by decide))
  refine kws_nil ?_
  exact tP c.calm I1 e8.b hs hr e7 λds' xs' s' a p1 p3 na I3=>⟨.ref a,_,I3,rfl,q (.ow ds') _ _ aR (e9 ds' p1) ⟨a,xs',rfl,e8.s.free na,af,e8.b.free na,p3⟩ (e8.trans (br.eU e8.b na))⟩
end
mutual
def Sh.d:Sh->D
 | .v d=>d
 | .l ds=>.lst ds
 | .la _ ds=>.lst ds
 | .t ss=>.tup (Sh.ds ss)
 | .ls ss=>.lst (Sh.ds ss)
def Sh.ds:List Sh->List D
 | []=>[]
 | s::ss=>s.d::Sh.ds ss
end
section
variable {K:O7} {H Hf H' aj:Hp}
mutual
theorem aP.rep (sf:aM Hf aj):∀ (s:Sh) {v:V} {fp:Fp},(∀ a∈fp,aj a.1=some (.lst a.2))->aP K H Hf s v fp->Rep K aj s.d v
 | .v d,_,_,_,h=>by simp only [aP] at h; exact h.1.mono sf d
 | .l ds,_,_,hk,h=>by
  simp only [aP] at h
  obtain ⟨p,xs,e,h1,h2,h3,rfl⟩:=h
  exact aU.mpr ⟨p,xs,e,.inl (.inl (hk _ Po)),h3.mono sf ds⟩
 | .la p ds,_,_,hk,h=>by
  simp only [aP] at h
  obtain ⟨xs,e,h1,h2,h3,rfl⟩:=h
  exact aU.mpr ⟨p,xs,e,.inl (.inl (hk _ Po)),h3.mono sf ds⟩
 | .t ss,_,_,hk,h=>by
  simp only [aP] at h
  obtain ⟨a,xs,e,h1,h2⟩:=h
  exact aG.mpr ⟨a,xs,e,az sf h1,ai.rep sf ss hk h2⟩
 | .ls ss,_,_,hk,h=>by
  simp only [aP] at h
  obtain ⟨p,xs,fq,e,h1,h2,h3,rfl⟩:=h
  exact aU.mpr ⟨p,xs,e,.inl (.inl (hk _ Po)),ai.rep sf ss (λa ha=>hk a (Pj _ ha)) h3⟩
theorem ai.rep (sf:aM Hf aj):∀ (ss:List Sh) {xs:List V} {fp:Fp},(∀ a∈fp,aj a.1=some (.lst a.2))->ai K H Hf ss xs fp->ak K aj (Sh.ds ss) xs
 | [],_,_,_,h=>by simp only [ai] at h; exact aB.mpr h.1
 | s::ss,_,_,hk,h=>by
  simp only [ai] at h
  obtain ⟨x,r,f1,f2,e,h1,h2,rfl⟩:=h
  exact aF.mpr ⟨x,r,e,aP.rep sf s (λa ha=>hk a (QM _ ha)) h1,ai.rep sf ss (λa ha=>hk a (P9 _ ha)) h2⟩
end
noncomputable def jJ (H:Hp) (fp:Fp):Hp:=λa=>if a∈fp.map (·.1) then none else H a
noncomputable def gz (g:Addr->List V->HO):Fp->Hp->Hp
 | [],H=>H
 | p::fp,H=>upd (gz g fp H) p.1 (g p.1 p.2)
noncomputable def Bt:Addr->List V->HO:=λ_ xs=>.lst xs
theorem cU (h:a∉fp.map (·.1)):jJ H fp a=H a:=if_neg h
theorem j3 (h:a∈fp.map (·.1)):jJ H fp a=none:=if_pos h
theorem bf:∀ {fp:Fp},a∉fp.map (·.1)->gz g fp H a=H a
 | [],_=>rfl
 | p::fp,h=>by
  rw [Pd,Pg,not_or] at h
  show upd _ _ _ a=_
  rw [ah h.1,bf h.2]
theorem fG:∀ {fp:Fp},(fp.map (·.1)).Nodup->∀ a∈fp,gz g fp H a.1=some (g a.1 a.2)
 | p::fp,nd,a,ha=>by
  rw [Pd,Qu] at nd
  show upd _ _ _ a.1=_
  rcases Pg.mp ha with rfl | ha
  ·exact af
  ·rw [ah λe=>nd.1 (by rw [<- e]; exact Pr.mpr ⟨a,ha,rfl⟩)]
   exact fG nd.2 a ha
theorem bV {fp:Fp} (h:a∈fp.map (·.1)):∃ p∈fp,p.1=a:=Pr.mp h
theorem Bu (nd:(fp.map (·.1)).Nodup) (hz:∀ a∈fp,H a.1=some (pl a.1 a.2)/\Hf a.1=none) (g:br (gz Bt fp H) (gz Bt fp Hf) H' aj):br H Hf (gz pl fp H') (jJ aj fp):=by
 refine ⟨λb o e=>?_,λb o e=>?_,λb o e=>?_,λb h1 h2 h3=>?_⟩
 ·by_cases m:b∈fp.map (·.1)
  ·obtain ⟨p,hp,rfl⟩:=bV m
   rw [fG nd p hp,<- (hz p hp).1]; exact e
  ·rw [bf m]; exact g.s b o (by rw [bf m]; exact e)
 ·have m:b∉fp.map (·.1):=λm=>by obtain ⟨p,hp,rfl⟩:=bV m; rw [(hz p hp).2] at e; cases e
  rw [cU m]; exact g.f b o (by rw [bf m]; exact e)
 ·by_cases m:b∈fp.map (·.1)
  ·rw [j3 m] at e; cases e
  ·rw [cU m] at e; rw [bf m]; exact g.b b o e
 ·by_cases m:b∈fp.map (·.1)
  ·exact j3 m
  ·rw [cU m]; exact g.n b (by rw [bf m]; exact h1) (by rw [bf m]; exact h2) λxs=>by rw [bf m]; exact h3 xs
end
theorem Gv:bz P w H h p (pl p xs)↔bz P w H h p (.lst xs):=by
 constructor
 ·exact λq=>q.1
 ·rintro ⟨z,its,n,r,e⟩
  exact ⟨⟨z,its,n,r,e⟩,⟨_,e⟩,λh1 h2 ⟨z,its,n,r,e⟩ k=>⟨z,its,n,r,k _ e⟩⟩
theorem fH (I:Inv X aa σ H s) (h:H a=some (.lst xs)):Inv X aa σ (upd H a (pl a xs)) s :=
 oA I h (by intro _ z; cases z) (by intro _ z; cases z) (by intro _ z; cases z) (λo z e=>by have q:=I.base.frzs a o z e; rw [h] at q; cases q) (Gv.mpr (I.hok a _ h))
theorem gO (I:Inv X aa σ H s) (h:H a=some (pl a xs)):Inv X aa σ (upd H a (.lst xs)) s :=
 oA I h (by intro _ z; cases z) (by intro _ z; cases z) (by intro _ z; cases z) (λo z e=>by have q:=I.base.frzs a o z e; rw [h] at q; cases q) (Gv.mp (I.hok a _ h))
theorem lu (I:Inv X aa σ H s):∀ {fp:Fp},(fp.map (·.1)).Nodup->(∀ a∈fp,H a.1=some (pl a.1 a.2))->Inv X aa σ (gz Bt fp H) s
 | [],_,_=>I
 | p::fp,nd,h=>by
  rw [Pd,Qu] at nd
  exact gO (lu I nd.2 λa ha=>h a (Pj _ ha)) (by rw [bf nd.1]; exact h p Po)
theorem rJ (I:Inv X aa σ H s):∀ {fp:Fp},(fp.map (·.1)).Nodup->(∀ a∈fp,H a.1=some (.lst a.2))->Inv X aa σ (gz pl fp H) s
 | [],_,_=>I
 | p::fp,nd,h=>by
  rw [Pd,Qu] at nd
  exact fH (rJ I nd.2 λa ha=>h a (Pj _ ha)) (by rw [bf nd.1]; exact h p Po)
inductive Kz:List Sl->Prop where
 | nil:Kz []
 | cons {r:Sl} {l:List Sl} (h:r.F4=false):Kz l->Kz (r::l)
inductive ly:List Sl->Nat->Sh->Prop where
 | z {s:Sh} {l:List Sl}:Kz l->ly (.fo s::l) 0 s
 | s {r:Sl} {l:List Sl} {i:Nat} {s:Sh} (h:r.F4=false):ly l i s->ly (r::l) (i+1) s
theorem Kz.get (h:Kz l):∀ {j:Nat} {r:Sl},l[j]?=some r->r.F4=false:=by
 induction h with
 | nil=>intro j r e; simp at e
 | cons h _ ih =>
  intro j r e
  cases j with
  | zero=>simp at e; subst e; exact h
  | succ j=>exact ih (by simpa using e)
theorem ly.at_ {l:List Sl} {i:Nat} {s:Sh} (h:ly l i s):l[i]?=some (.fo s)/\∀ {j:Nat} {r:Sl},j≠i->l[j]?=some r->r.F4=false:=by
 induction h with
 | z h =>
  refine ⟨rfl,λ{j r} hj e=>?_⟩
  cases j with
  | zero=>exact absurd rfl hj
  | succ j=>exact h.get (by simpa using e)
 | s h _ ih =>
  refine ⟨by simpa using ih.1,λ{j r} hj e=>?_⟩
  cases j with
  | zero=>simp at e; subst e; exact h
  | succ j=>exact ih.2 (λz=>hj (congrArg (· +1) z)) (by simpa using e)
section
variable {K:O7}
theorem cH.Ma (S:cH K H₀ c9 σ H Hf ρ) (h:ly ρ i s) :
 ∃ fp:Fp,(fp.map (·.1)).Nodup/\(∀ a∈fp,H a.1=some (pl a.1 a.2)/\Hf a.1=none)/\cH K H₀ c9 σ (gz Bt fp H) (gz Bt fp Hf) (ρ.set i (.va s.d)):=by
 obtain ⟨hi,ho⟩:=h.at_
 obtain ⟨v,ev,fp,rf,nd,hfr⟩:=S.at_ i _ hi (by intro z; cases z)
 have hz:=aP.fz s rf
 have hlt:i<ρ.length:=(Ph.mp hi).1
 have none_in:∀ {b:Addr} {o:HO},Hf b=some o->b∉fp.map (·.1):=λe m=>by obtain ⟨p,hp,rfl⟩:=bV m; rw [(hz p hp).2] at e; cases e
 have fr_in:∀ {b:Addr},b∈fp.map (·.1)->H₀ b=none:=λm=>by obtain ⟨p,hp,rfl⟩:=bV m; exact hfr p hp
 have sf:aM Hf (gz Bt fp Hf):=λb o e=>by rw [bf (none_in e)]; exact e
 refine ⟨fp,nd,hz,⟨⟨λb o e=>?_,S.bas.f.trans sf,λb o e=>?_,λb h1 h2 h3=>?_⟩,by simp [S.len],λj r hj hu=>?_,λj j' r r' q hne h1 h2 o1 o2=>?_⟩⟩
 ·rw [bf λm=>by rw [fr_in m] at e; cases e]; exact S.bas.s b o e
 ·by_cases m:b∈fp.map (·.1)
  ·obtain ⟨p,hp,rfl⟩:=bV m
   rw [fG nd p hp] at e |-; exact e
  ·rw [bf m] at e |-; exact S.sb b o e
 ·rw [bf λm=>h2 (fr_in m)]; exact S.bas.n b h1 h2 h3
 ·by_cases q:j=i
  ·subst q
   rw [Qm hlt] at hj
   cases hj
   exact ⟨v,ev,aP.rep sf s (λa ha=>fG nd a ha) rf⟩
  ·rw [Qe (Py q)] at hj
   obtain ⟨v,e1,e2⟩:=S.at_ j r hj hu
   refine ⟨v,e1,aY.mv (B:=λa=>a∈fp.map (·.1)) sf (λa o hm e1 _ e3=>⟨by rw [bf hm]; exact e1,by rw [bf hm]; exact e3⟩) (λhf=>by rw [ho q hj] at hf; cases hf) (λow a e m=>?_) e2⟩
   subst e
   obtain ⟨_,_,e,_,_,_,nf⟩:=e2.qp ow
   cases e
   obtain ⟨p,hp,rfl⟩:=bV m
   exact nf ⟨p.2,(hz p hp).1⟩
 ·have out:∀ {j:Nat} {r:Sl},(ρ.set i (.va s.d))[j]?=some r->r.owned=true->ρ[j]?=some r:=λ{j r} hj ho=>by
   by_cases q:j=i
   ·subst q; rw [Qm hlt] at hj; cases hj; cases ho
   ·rw [Qe (Py q)] at hj; exact hj
  exact S.sep j j' r r' q hne (out h1 o1) (out h2 o2) o1 o2
end
section
variable {K:O7}
theorem Jo (i) (h1:ly ρ i s) (hs:SSet ρ i (.va s.d) ρ') (h:i7 c e ρ' T):i7 c e ρ T:=λσ H Hf Q S q aa s' I=>by
 obtain ⟨fp,nd,hz,S1⟩:=S.Ma h1
 rw [<- hs.eq] at S1
 refine bC (h σ _ _ (λb H'=>∃ aj,T b/\br (gz Bt fp H) (gz Bt fp Hf) H' aj) S1 (λb H' aj rd g=>⟨aj,rd,g⟩) aa s' (lu I nd λa ha=>(hz a ha).1)) λb s1 ⟨H1,I1,aR,rd,g⟩=>?_
 have hL:∀ a∈fp,H1 a.1=some (.lst a.2):=λa ha=>g.s _ _ (fG nd a ha)
 exact ⟨_,rJ I1 nd hL,q b _ (jJ aR fp) rd (Bu nd hz g)⟩
theorem Mb {R:Sl->Prop} (h:cV c e ρ λr=>∃ ds,r=.ow ds/\R (.fo (.l ds))):cV c e ρ R:=λσ H Hf Q S q aa s I=>by
 refine bC (h σ H Hf (λv H'=>∃ ds aj,aY c.X.K (λp=>H p=none) H' aj (.ow ds) v/\br H Hf H' aj/\R (.fo (.l ds))) S (λr v H' aj ⟨ds,e,hR⟩ rs g=>⟨ds,aj,by rw [<- e]; exact rs,g,hR⟩) aa s I) λu s1 hh=>z2 hh λv H1 hh=>w3 hh λI1 rv hh=>z2 hh λds aR hh=>w3 hh λhh g hR=>z2 hh λa xs hh=>w5 hh λev fa h1 h2 h3=>?_
 subst ev
 exact ⟨_,_,fH I1 h1,rv,q (.fo (.l ds)) _ _ aR hR ⟨[(a,xs)],by simp only [aP]; exact ⟨a,xs,rfl,af,h2,h3,rfl⟩,by simp,λb hb=>by obtain rfl:=PB.mp hb; exact fa⟩ (oi g fa h2)⟩
def Bv (c:Ctx P w K mg base k N sc bk) (es:List Expr) (ρ:List Sl) (R:List Sh->Prop):Prop :=
 ∀ (σ:L2.St) (H Hf:Hp) (Q:List V->Hp->Prop),bB c σ H Hf ρ->(∀ ss vs fp H' aj,R ss->ai c.X.K H' aj ss vs fp->(fp.map (·.1)).Nodup->(∀ a∈fp,H a.1=none)->br H Hf H' aj->Q vs H')->bA c.X es σ H Q
theorem nE {R:List Sh->Prop} (h:R []):Bv c [] ρ R:=λσ H Hf Q S q=>mO dD (q [] [] [] H Hf h (by simp [ai]) List.nodup_nil (by intro a ha; cases ha) (.refl S.sb))
theorem jj {R:List Sh->Prop} (h:cV c e ρ λr=>∃ s,r.sh=some s/\Bv c es ρ λss=>R (s::ss)) (hs:∀ env,starEach (e::es) env=(false,eval e env)::starEach es env:=by intro _; walk_at "u"):Bv c (e::es) ρ R:=λσ H Hf Q S q =>
 mO (bM c6 CU (hs _)) (h σ H Hf _ S λr v H1 aR ⟨s,es,h1⟩ rs g1=>by
  obtain ⟨f1,r1,n1,fr1⟩:=Am es rs
  have z1:=aP.fz s r1
  refine h1 σ H1 aR _ (S.cD g1) λss vs fp H2 cL h2 r2 n2 fr2 g2=>q (s::ss) (v::vs) (f1++fp) H2 cL h2 ?_ ?_ ?_ (g1.trans g2)
  ·simp only [ai]
   refine ⟨v,vs,f1,fp,rfl,aP.mv g2.f s (λa _ e1 e2=>⟨g2.s _ _ e1,g2.n a.1 e2 (by rw [e1]; simp) (by intro ys z; rw [e1] at z; cases z)⟩) r1,r2,rfl⟩
  ·rw [Px,Rf]
   refine ⟨n1,n2,λa ha b hb e=>?_⟩
   subst e
   obtain ⟨p,hp,rfl⟩:=bV ha
   obtain ⟨p',hp',e'⟩:=bV hb
   have:=(z1 p hp).1
   rw [<- e',fr2 p' hp'] at this; cases this
  ·intro a ha
   rcases PD.mp ha with ha | ha
   ·exact fr1 a ha
   ·exact g1.s.free (fr2 a ha))
theorem ai.len:∀ {ss:List Sh} {xs:List V} {fp:Fp},ai K H Hf ss xs fp->ss.length=xs.length
 | [],_,_,h=>by simp only [ai] at h; rw [h.1]; rfl
 | s::ss,_,_,h=>by
  simp only [ai] at h
  obtain ⟨x,r,f1,f2,rfl,_,h2,_⟩:=h
  rw [Qg,Qg,ai.len h2]
theorem oZ {R:Sl->Prop} (h:Bv c es ρ λss=>Sd (ss.length<=sizeLine) (R (.fo (.t ss)))):cV c (.Tuple es j pos) ρ R:=λσ H Hf Q S q =>
 bK (zc CU) (h σ H Hf _ S λss vs fp H' aj ⟨hl,hR⟩ r nd fr g=>⟨by rw [<- ai.len r]; exact hl,λp hp=>by
  have g2:=br.new g.b hp (o:=.tup vs)
  have hz:=ai.fz ss r
  refine q _ _ _ _ hR ⟨fp,?_,nd,fr⟩ (g.trans g2)
  simp only [aP]
  exact ⟨p,vs,rfl,.inl (.inl af),ai.mv g2.f ss (λa _ e1 e2=>⟨g2.s _ _ e1,g2.n a.1 e2 (by rw [e1]; simp) (by intro ys z; rw [e1] at z; cases z)⟩) r⟩⟩)
end
noncomputable def KA (K:O7) (ok:Sh->Prop):Sp:=λvs H Q _=>∃ Hf s v fp,vs=[v]/\aM Hf H/\aP K H Hf s v fp/\(fp.map (·.1)).Nodup/\ok s/\∀ H' aj,br (jJ H fp) Hf H' aj->Q .non H'
structure Jp (P:Program) (w:World) (K:O7) (mg:Str->Option Value) (base:Heap) (k:Nat) (x:Str) (ok:Sh->Prop):Prop where
 ex:∃ f fd ps,mg x=some (.ref f)/\Q7 K (.ref f)=true/\Binds K fd ps []/\bq P w K mg base (cK P w) k f fd ps (KA K ok)
theorem o6:aM (jJ H fp) H:=λb o e=>by
 by_cases m:b∈fp.map (·.1)
 ·rw [j3 m] at e; cases e
 ·rw [cU m] at e; exact e
theorem Bw (sb:aM Hf H):br (jJ H fp) Hf H Hf:=⟨o6,.refl _,sb,λ_ h _ _=>h⟩
theorem x8 {K:O7} (r:aP K H Hf s v fp) (nd:(fp.map (·.1)).Nodup) (sb:aM Hf H) (hN:1<=N.length) :
 cH K (jJ H fp) Hf (L2.start N [v]) H Hf (.fo s::Pu (N.length - 1) .un):=by
 have rest:∀ (i:Nat) (r':Sl),(Sl.fo s::Pu (N.length - 1) Sl.un)[i]?=some r'->r'≠.un->i=0/\r'=.fo s:=λi r' h hu=>by
  cases i with
  | zero=>exact ⟨rfl,by simpa using h.symm⟩
  | succ i=>exact absurd (TQ (QI (by simpa using h))) hu
 refine ⟨Bw sb,by simp [L2.start],λi r' h hu=>?_,λi j r1 r2 p hne e1 e2 o1 o2=>?_⟩
 ·obtain ⟨rfl,rfl⟩:=rest i r' h hu
  exact ⟨v,by simp [L2.start],fp,r,nd,λa ha=>j3 (Pr.mpr ⟨a,ha,rfl⟩)⟩
 ·obtain ⟨_,rfl⟩:=rest i r1 e1 (by rintro rfl; cases o1)
  cases o1
section
variable {K:O7} {c:Ctx P w K mg base k N sc bk}
theorem N9 {st:Stmt} (Fu:dI K x qual st f fd) (SV:FS N ps st) (h1:ps.length=1) (hN:1<=N.length)
 (body:∀ (c:Ctx P w K mg base k N (aO st) false),c.X.xe=(λ_ _=>False)->∀ s,ok s->aH c (aq st) (.fo s::Pu (N.length - 1) .un) (λ_=>True) { rt:=λ_=>False }) :
 bq P w K mg base (cK P w) (k+1) f fd ps (KA K ok):=by
 obtain ⟨Sc,Vi⟩:=zN SV
 obtain ⟨oc,od,kV,doc,pm,an,cdv,ct,osl,rfl,lk,hcd⟩:=Fu.ex
 refine ze lk hcd Sc (λvs H Q E ⟨Hf,s,v,fp,e,_⟩=>by rw [e,h1]; rfl) λA outer st' H vs Q E hr hh=>z4 hh λHf s v fp hh=>w6 hh λe sb rf nd hok hq=>?_
 subst e
 let X:Cx:=(p5 (cK P w) P w K mg base N qual (aO st) f cdv A outer st' H E).F1
 let c:Ctx P w K mg base k N (aO st) false :=
  { X:=X,eP:=rfl,ew:=rfl,eK:=rfl,emg:=rfl,eb:=rfl,eN:=rfl,esc:=rfl,calm:=rfl,top:=λ_=>⟨rfl,rfl,rfl⟩,cb:=λ_ _ _ _ _ I x c h=>I.ok.cab x c rfl h,fn:=λ_ _=>.inl rfl,B:=jJ H fp,room:=hr,nd:=Sc.nd,vis:=Vi,Hf:=Hf,RX:=λ_ _=>False,
    exc:=λ_ _ _ _ _ _ _ _ _ _ _ _ h _ _=>h.elim,RM:=λ_ _=>False,mde:=λ_ _ _ _ _ _ _ _ _ _ _ _ h _=>h.elim }
 refine ⟨_,pY.F1 (t:=HG X (aq st)) (nW (X:=X)),?_⟩
 exact body c rfl s hok (L2.start N [v]) H Hf _ (x8 rf nd sb hN) ⟨λσ H' aj ρ S _=>hq H' aj S.bas,λr v H' aj g rv e=>e.elim,λ_ _ _ _ _ h=>h.elim,λ_ _ _ _ _ h=>h.elim⟩
theorem bg {α:Type} {l:List α} {a b:α} (h:(l.set i a)[j]?=some b):(j=i/\b=a)\/(j≠i/\l[j]?=some b):=by
 by_cases e:j=i
 ·subst e
  have hl:j<l.length:=by have:=(Ph.mp h).1; simpa using this
  rw [Qm hl] at h
  exact .inl ⟨rfl,(QS h).symm⟩
 ·rw [Qe (Py e)] at h
  exact .inr ⟨e,h⟩
noncomputable def Sh.raw:Sh->Option D | .v d=>some d | .la a _=>some (.adr a) | _=>none
noncomputable def x9:List Sh->Option (List D)
 | []=>some []
 | s::ss=>match s.raw,x9 ss with | some d,some ds=>some (d::ds) | _,_=>none
theorem aP.raw (e:s.raw=some d) (h:aP K H Hf s v fp):Rep K Hf d v:=by
 cases s with
 | v d'=>cases e; simp only [aP] at h; exact h.1
 | la a ds=>cases e; simp only [aP] at h; obtain ⟨xs,e,_⟩:=h; exact dU.mpr e
 | _=>cases e
theorem ai.raw:∀ {ss:List Sh} {vs:List V} {fp:Fp} {ds:List D},x9 ss=some ds->ai K H Hf ss vs fp->ak K Hf ds vs
 | [],_,_,_,e,h=>by cases e; simp only [ai] at h; exact aB.mpr h.1
 | s::ss,_,_,_,e,h=>by
  simp only [ai] at h
  obtain ⟨x,r,f1,f2,rfl,h1,h2,_⟩:=h
  unfold x9 at e
  split at e
  ·rename_i d ds q1 q2
   cases e
   exact .cons (h1.raw q1) (ai.raw q2 h2)
  ·cases e
theorem Jq (hN:At N i y) (hi:At ρ i (.fo (.t ss))) (hr:x9 ss=some ds) (hR:R (.tup ds)) (hd:(y == ("__debug__":Str))=false:=by decide) (hcd:(y == ("__classdict__":Str))=false:=by decide):aL c (.Name y py) ρ R:=λσ H Hf Q S q=>by
 obtain ⟨v,ev,fp,rf,nd,hfr⟩:=S.at_ i _ hi.get (by intro z; cases z)
 refine bK (c.i9 hN hd hcd) ⟨v,ev,q (.tup ds) v H Hf hR ?_ (.refl S.sb)⟩
 simp only [aP] at rf
 obtain ⟨a,xs,e,h1,h2⟩:=rf
 exact aG.mpr ⟨a,xs,e,h1,ai.raw hr h2⟩
end
section
variable {K:O7}
noncomputable def gP (L:List (Addr×List D)):List Sh:=L.map λx=>.la x.1 x.2
theorem vS (q1:H q=some (pl q xs)) (q2:Hf q=none) (q3:ak K Hf ds xs):aP K H Hf (.la q ds) (.ref q) [(q,xs)]:=by
 simp only [aP]
 exact ⟨xs,trivial,q1,q2,q3,rfl⟩
theorem ai.tag:∀ {dss:List (List D)} {vs:List V} {fp:Fp},ai K H Hf (dss.map .l) vs fp->∃ L:List (Addr×List D),L.map (·.2)=dss/\ai K H Hf (gP L) vs fp
 | [],_,_,h=>⟨[],rfl,h⟩
 | ds::dss,_,_,h=>by
  simp only [Pd,ai] at h
  obtain ⟨x,r,f1,f2,rfl,h1,h2,rfl⟩:=h
  obtain ⟨L,e,h3⟩:=ai.tag h2
  simp only [aP] at h1
  obtain ⟨p,xs,rfl,q1,q2,q3,rfl⟩:=h1
  refine ⟨(p,ds)::L,by rw [Pd,e],?_⟩
  show ai K H Hf (.la p ds::gP L) _ _
  simp only [ai]
  exact ⟨_,r,_,f2,rfl,vS q1 q2 q3,h3,rfl⟩
theorem cH.Oa (S:cH K H₀ c9 σ H Hf ρ) (h:ρ[i]?=some (.fo (.t (dss.map .l)))):∃ L:List (Addr×List D),L.map (·.2)=dss/\cH K H₀ c9 σ H Hf (ρ.set i (.fo (.t (gP L)))):=by
 obtain ⟨v,ev,fp,rf,nd,hfr⟩:=S.at_ i _ h (by intro z; cases z)
 simp only [aP] at rf
 obtain ⟨a,xs,e,h1,h2⟩:=rf
 obtain ⟨L,eL,h3⟩:=ai.tag h2
 refine ⟨L,eL,S.bas,by simp [S.len],λj r hj hu=>?_,λj j' r r' q hne h1 h2 o1 o2=>?_⟩
 ·rcases bg hj with ⟨rfl,rfl⟩ | ⟨_,hj⟩
  ·exact ⟨v,ev,fp,by simp only [aP]; exact ⟨a,xs,e,h1,h3⟩,nd,hfr⟩
  ·exact S.at_ j r hj hu
 ·have out:∀ {j:Nat} {r:Sl},(ρ.set i (.fo (.t (gP L))))[j]?=some r->r.owned=true->ρ[j]?=some r:=λ{j r} hj ho=>by
   rcases bg hj with ⟨_,rfl⟩ | ⟨_,hj⟩
   ·cases ho
   ·exact hj
  exact S.sep j j' r r' q hne (out h1 o1) (out h2 o2) o1 o2
theorem ai.Gw:∀ {pre post:List Sh} {vs:List V} {fp:Fp},ai K H Hf (pre++.la q ds::post) vs fp ->
 ∃ (xs:List V) (f1 f2:Fp),fp=f1++(q,xs)::f2/\H q=some (pl q xs)/\Hf q=none/\ak K Hf ds xs/\ai K H Hf (pre++.v (.adr q)::post) vs (f1++f2)
 | [],post,_,_,h=>by
  simp only [Q6,ai] at h
  obtain ⟨x,r,f1,f2,rfl,h1,h2,rfl⟩:=h
  simp only [aP] at h1
  obtain ⟨xs,rfl,q1,q2,q3,rfl⟩:=h1
  refine ⟨xs,[],f2,rfl,q1,q2,q3,?_⟩
  simp only [Q6,ai]
  exact ⟨_,r,[],f2,rfl,by simp only [aP]; exact ⟨dU.mpr rfl,trivial⟩,h2,rfl⟩
 | s::pre,post,_,_,h=>by
  simp only [QG,ai] at h
  obtain ⟨x,r,f1,f2,rfl,h1,h2,rfl⟩:=h
  obtain ⟨xs,g1,g2,rfl,q1,q2,q3,q4⟩:=ai.Gw h2
  refine ⟨xs,f1++g1,g2,by rw [Pz],q1,q2,q3,?_⟩
  simp only [QG,ai]
  exact ⟨x,r,f1,g1++g2,rfl,h1,q4,by rw [Pz]⟩
theorem ai.Gx (q1:H q=some (pl q xs)) (q2:Hf q=none) (q3:ak K Hf ds xs):∀ {pre post:List Sh} {vs:List V} {fp:Fp},ai K H Hf (pre++.v (.adr q)::post) vs fp ->
 ∃ (f1 f2:Fp),fp=f1++f2/\ai K H Hf (pre++.la q ds::post) vs (f1++(q,xs)::f2)
 | [],post,_,_,h=>by
  simp only [Q6,ai] at h
  obtain ⟨x,r,f1,f2,rfl,h1,h2,rfl⟩:=h
  simp only [aP] at h1
  obtain ⟨h1,rfl⟩:=h1
  rw [dU] at h1
  subst h1
  refine ⟨[],f2,rfl,?_⟩
  simp only [Q6,ai]
  exact ⟨_,r,[(q,xs)],f2,rfl,vS q1 q2 q3,h2,rfl⟩
 | s::pre,post,_,_,h=>by
  simp only [QG,ai] at h
  obtain ⟨x,r,f1,f2,rfl,h1,h2,rfl⟩:=h
  obtain ⟨g1,g2,rfl,q4⟩:=ai.Gx q1 q2 q3 h2
  refine ⟨f1++g1,g2,by rw [Pz],?_⟩
  simp only [QG,ai]
  exact ⟨x,r,f1,g1++(q,xs)::g2,rfl,h1,q4,by rw [Pz]⟩
theorem cH.Gy (S:cH K H₀ c9 σ H Hf ρ) (h1:ly ρ i s) (hk:k<ρ.length) (hik:k≠i) (fq:H₀ q=none) (su:Hf q=none) (hq:∀ (j:Nat) (r:Sl),j≠i->j≠k->ρ[j]?=some r->r.owned=true->σ[j]?≠some (some (.ref q)))
 (v1:r1≠.un->∃ v,σ[i]?=some (some v)/\aY K (λp=>H₀ p=none) (L2.upd H q o) Hf r1 v) (v2:r2≠.un->∃ v,σ[k]?=some (some v)/\aY K (λp=>H₀ p=none) (L2.upd H q o) Hf r2 v) (n1:r1.owned=false) (n2:r2.owned=true->σ[k]?=some (some (.ref q))) :
 cH K H₀ c9 σ (L2.upd H q o) Hf ((ρ.set i r1).set k r2):=by
 obtain ⟨hi,ho⟩:=h1.at_
 have get:∀ {j:Nat} {r:Sl},((ρ.set i r1).set k r2)[j]?=some r->(j=k/\r=r2)\/(j≠k/\j=i/\r=r1)\/(j≠k/\j≠i/\ρ[j]?=some r):=λ{j r} h=>by
  rcases bg h with ⟨a,b⟩ | ⟨a,h⟩
  ·exact .inl ⟨a,b⟩
  ·rcases bg h with ⟨b,c⟩ | ⟨b,h⟩
   ·exact .inr (.inl ⟨a,b,c⟩)
   ·exact .inr (.inr ⟨a,b,h⟩)
 refine ⟨⟨λb u e=>by rw [L2.ah (aE e fq)]; exact S.bas.s b u e,S.bas.f,λb u e=>by rw [L2.ah (aE e su)]; exact S.bas.b b u e,S.bas.n⟩,by simp [S.len],λj r hj hu=>?_,λj j' r r' p hne e1 e2 o1 o2=>?_⟩
 ·rcases get hj with ⟨rfl,rfl⟩ | ⟨_,rfl,rfl⟩ | ⟨a,b,hj⟩
  ·exact v2 hu
  ·exact v1 hu
  ·obtain ⟨v,e1,e2⟩:=S.at_ j r hj hu
   exact ⟨v,e1,aY.mv (B:=λz=>z=q) (.refl _) (λz u hz e1 _ e3=>⟨by rw [L2.ah hz]; exact e1,e3⟩) (λhf=>by rw [ho b hj] at hf; cases hf) (λow z ez e=>by subst e; subst ez; exact hq j r b a hj ow e1) e2⟩
 ·rcases get e1 with ⟨rfl,rfl⟩ | ⟨_,rfl,rfl⟩ | ⟨a,b,f1⟩
  ·intro s1 s2
   rw [n2 o1] at s1; cases s1
   rcases get e2 with ⟨rfl,rfl⟩ | ⟨_,rfl,rfl⟩ | ⟨a2,b2,f2⟩
   ·exact hne rfl
   ·rw [n1] at o2; cases o2
   ·exact hq j' r' b2 a2 f2 o2 s2
  ·rw [n1] at o1; cases o1
  ·rcases get e2 with ⟨rfl,rfl⟩ | ⟨_,rfl,rfl⟩ | ⟨a2,b2,f2⟩
   ·intro s1 s2
    rw [n2 o2] at s2; cases s2
    exact hq j r b a f1 o1 s1
   ·rw [n1] at o2; cases o2
   ·exact S.sep j j' r r' p hne f1 f2 o1 o2
end
section
variable {K:O7} {st:Stmt}
theorem Jr (i) (hi:At ρ i (.fo (.t (dss.map .l)))) (h:∀ L:List (Addr×List D),L.map (·.2)=dss->eV c st (ρ.set i (.fo (.t (gP L)))) nx p):eV c st ρ nx p:=λσ H Hf D S o=>by
 obtain ⟨L,e,S1⟩:=S.Oa hi.get
 exact h L e σ H Hf D S1 o
theorem Bx (i j) (h1:ly ρ i (.t (pre++.la q ds::post))) (hj:At ρ j (.va (.adr q))) (h:aH c sts ((ρ.set i (.fo (.t (pre++.v (.adr q)::post)))).set j (.aw q ds)) nx p) (hij:j≠i):aH c sts ρ nx p:=λσ H Hf D S o aa s I=>by
 obtain ⟨v,ev,fp,rf,nd,hfr⟩:=S.at_ i _ h1.at_.1 (by intro z; cases z)
 obtain ⟨vj,evj,rj⟩:=S.va hj.get
 rw [dU] at rj
 subst rj
 simp only [aP] at rf
 obtain ⟨a,vs,e,t1,t2⟩:=rf
 obtain ⟨xs,f1,f2,rfl,q1,q2,q3,q4⟩:=ai.Gw t2
 have fq:c.B q=none:=hfr (q,xs) (by simp)
 have nq:q∉(f1++f2).map (·.1):=λm=>by
  rw [Px,Pd,Rf,Qu] at nd
  rw [Px,PD] at m
  rcases m with m | m
  ·exact nd.2.2 q m q Po rfl
  ·exact nd.2.1.1 m
 have I1:=gO I q1
 refine h σ _ Hf D (S.Gy h1 (Ph.mp hj.get).1 hij fq q2 (λj' r a b hj' ow e=>?_) (λ_=>⟨v,ev,f1++f2,?_,?_,?_⟩) (λ_=>⟨_,evj,q,xs,rfl,⟨fq,rfl⟩,af,q2,q3⟩) rfl λ_=>evj) o aa s I1
 ·obtain ⟨v',e',r'⟩:=S.at_ j' r hj' (by rintro rfl; cases ow)
  rw [e] at e'; cases e'
  obtain ⟨_,_,e2,_,_,_,nf⟩:=r'.qp ow
  cases e2
  exact nf ⟨xs,q1⟩
 ·simp only [aP]
  exact ⟨a,vs,e,t1,ai.mv (.refl _) _ (λz hz e1 e2=>⟨by rw [ah λe=>nq (by rw [<- e]; exact Pr.mpr ⟨z,hz,rfl⟩)]; exact e1,e2⟩) q4⟩
 ·rw [Px] at nd |-
  exact nd.sublist (Ti.append (Ti.refl _) (by rw [Pd]; exact List.sublist_cons_self _ _))
 ·intro z hz
  exact hfr z (by rcases PD.mp hz with h | h; exact QM _ h; exact P9 _ (Pj _ h))
theorem By (i j) (h1:ly ρ i (.t (pre++.v (.adr q)::post))) (hj:At ρ j (.aw q ds)) (h:aH c sts ((ρ.set i (.fo (.t (pre++.la q ds::post)))).set j .un) nx p) (hij:j≠i):aH c sts ρ nx p:=λσ H Hf D S o aa s I=>by
 obtain ⟨v,ev,fp,rf,nd,hfr⟩:=S.at_ i _ h1.at_.1 (by intro z; cases z)
 obtain ⟨vj,evj,rj⟩:=S.at_ j _ hj.get (by intro z; cases z)
 obtain ⟨q',xs,rfl,⟨fq,rfl⟩,q1,q2,q3⟩:=rj
 have hz:=aP.fz _ rf
 simp only [aP] at rf
 obtain ⟨a,vs,e,t1,t2⟩:=rf
 have nq:q'∉fp.map (·.1):=λm=>by
  obtain ⟨z,hm,rfl⟩:=bV m
  have:=(hz z hm).1
  rw [q1] at this; cases this
 have t3:=ai.mv (H':=upd H q' (pl q' xs)) (.refl _) _ (λz hz e1 e2=>⟨by rw [ah λe=>nq (by rw [<- e]; exact Pr.mpr ⟨z,hz,rfl⟩)]; exact e1,e2⟩) t2
 obtain ⟨f1,f2,rfl,t4⟩:=ai.Gx af q2 q3 t3
 have I1:=fH I q1
 refine h σ _ Hf D (S.Gy h1 (Ph.mp hj.get).1 hij fq q2 (λj' r a b hj' ow e=>?_) (λ_=>⟨v,ev,f1++(q',xs)::f2,?_,?_,?_⟩) (λz=>absurd rfl z) rfl λz=>by cases z) o aa s I1
 ·exact S.sep j' j r _ q' b hj' hj.get ow rfl e evj
 ·simp only [aP]
  exact ⟨a,vs,e,t1,t4⟩
 ·rw [Px,Pd]
  rw [Px] at nd nq
  rw [Rf] at nd |-
  rw [PD,not_or] at nq
  refine ⟨nd.1,Qu.mpr ⟨nq.2,nd.2.1⟩,λa ha b hb e=>?_⟩
  rcases Pg.mp hb with rfl | hb
  ·subst e; exact nq.1 ha
  ·exact nd.2.2 a ha b hb e
 ·intro z hz
  rcases PD.mp hz with h | h
  ·exact hfr z (QM _ h)
  ·rcases Pg.mp h with rfl | h
   ·exact fq
   ·exact hfr z (P9 _ h)
end
end EV
namespace EV
open PySem PySem.Spec PyProof.Rows L2
noncomputable def fX (t:aD):aD:=(t.1,-t.2)
theorem ET (h:trim m=m) (hn:m≠[]):bR m (m.length - 1)≠0:=by
 rcases List.eq_nil_or_concat m with rfl | ⟨l,x,rfl⟩
 ·exact absurd rfl hn
 ·rw [List.concat_eq_append] at h |-
  intro z
  have e:bR (l++[x]) ((l++[x]).length - 1)=x:=by
   rw [dG (by simp)]; simp
  rw [e] at z; subst z
  rw [gn] at h
  have:=fT l
  rw [h,P0,RV] at this
  lia
theorem ya (hl:trim l=l) (hm:trim m=m) (h:∀ i,bR l i=bR m i):l=m:=by
 have key:∀ {l m:List Int},trim m=m->(∀ i,bR l i=bR m i)->m.length<=l.length:=λ{l m} hm h=>by
  rcases Nat.lt_or_ge l.length m.length with z | z
  ·have hn:m≠[]:=by rintro rfl; simp at z
   have:=ET hm hn
   rw [<- h,cS (by lia)] at this
   exact absurd rfl this
  ·exact z
 have e:l.length=m.length:=Nat.le_antisymm (key hl λi=>(h i).symm) (key hm h)
 refine Um e λi h1 h2=>?_
 have:=h i
 rwa [dG h1,dG h2] at this
theorem fY (h:∀ i,bR p i=bR q i):trim p=trim q:=ya (cy p) (cy q) λi=>by rw [dY,dY,h]
theorem yb (a b):trim (cz (trim a) (trim b))=trim (cz a b):=fY λi=>by rw [bZ,bZ,dY,dY]
theorem tQ (a b):trim (cz (trim a) b)=trim (cz a b):=fY λi=>by rw [bZ,bZ,dY]
theorem tR (a b):trim (cz a (trim b))=trim (cz a b):=fY λi=>by rw [bZ,bZ,dY]
theorem yc (a b):cz a b=cz b a:=by
 unfold cz; rw [Nat.max_comm]; exact Rm λk _=>UJ _ _
theorem lz (a):trim (cz [] a)=trim a:=fY λi=>by rw [bZ,cS (PY _),Tj]
theorem tS (a b c):trim (cz (cz a b) c)=trim (cz a (cz b c)):=fY λi=>by
 rw [bZ,bZ,bZ,bZ,Int.add_assoc]
noncomputable def ev (g:List Int->Int):List aD->Int
 | []=>0
 | t::A=>t.2 * g (trim t.1)+ev g A
theorem bu (g) (t) (A):ev g (t::A)=t.2 * g (trim t.1)+ev g A:=rfl
theorem cj (g) (B):∀ A,ev g (A++B)=ev g A+ev g B
 | []=>by simp [ev]
 | t::A=>by rw [QG,bu,bu,cj g B A]; lia
theorem jk (g):∀ A:List aD,ev g (A.map fX)= - ev g A
 | []=>rfl
 | t::A=>by
  rw [Pd,bu,bu,jk g A]
  show -t.2 * g (trim t.1)+_=_
  rw [Int.neg_mul]; lia
theorem BA (g) (l):∀ B:List aD,ev g (B.map (dP l))=l.2 * ev (λq=>g (trim (cz (trim l.1) q))) B
 | []=>by simp [ev]
 | r::B=>by
  rw [Pd,bu,bu,BA g l B]
  show l.2 * r.2 * g (trim (cz l.1 r.1))+_=_
  rw [Int.mul_add,yb,Tf]
theorem bO (g) (B):∀ A:List aD,ev g (aI A B)=ev (λp=>ev (λq=>g (trim (cz p q))) B) A
 | []=>rfl
 | l::A=>by
  show ev g (B.map (dP l)++aI A B)=_
  rw [cj,BA,bO g B A]; rfl
theorem fZ (e:∀ p,trim p=p->g p=h p):∀ A,ev g A=ev h A
 | []=>rfl
 | t::A=>by rw [bu,bu,e _ (cy _),fZ e A]
theorem BB (g h):∀ A,ev (λp=>g p+h p) A=ev g A+ev h A
 | []=>rfl
 | t::A=>by rw [bu,bu,bu,BB g h A,Int.mul_add]; lia
theorem Gz (c) (g):∀ A,ev (λp=>c * g p) A=c * ev g A
 | []=>by simp [ev]
 | t::A=>by rw [bu,bu,Gz c g A,Int.mul_add,Int.mul_left_comm]
theorem vU:∀ A,ev (λ_=>0) A=0
 | []=>rfl
 | t::A=>by rw [bu,vU A]; simp
theorem vV (f:List Int->List Int->Int) (B):∀ A,ev (λp=>ev (λq=>f p q) B) A=ev (λq=>ev (λp=>f p q) A) B
 | []=>by show 0=ev (λ_=>0) B; rw [vU]
 | t::A=>by
  show t.2 * ev (λq=>f (trim t.1) q) B+ev _ A=ev (λq=>t.2 * f (trim t.1) q+ev (λp=>f p q) A) B
  rw [BB,Gz,vV f B A]
def eqv (A B:List aD):Prop:=∀ g,ev g A=ev g B
theorem eqv.rf (A):eqv A A:=λ_=>rfl
theorem eqv.app (h:eqv A A') (k:eqv B B'):eqv (A++B) (A'++B'):=λg=>by rw [cj,cj,h g,k g]
theorem eqv.neg (h:eqv A B):eqv (A.map fX) (B.map fX):=λg=>by rw [jk,jk,h g]
theorem eqv.prod (h:eqv A A') (k:eqv B B'):eqv (aI A B) (aI A' B'):=λg=>by
 rw [bO,bO,h]; exact fZ (λp _=>k _) _
instance trmSetoid:Setoid (List aD):=⟨eqv,⟨eqv.rf,λh g=>(h g).symm,λh k g=>(h g).trans (k g)⟩⟩
noncomputable def MP:Type:=Quotient trmSetoid
noncomputable def mp (A:List aD):MP:=Quotient.mk trmSetoid A
theorem dZ:mp A=mp B↔eqv A B:=⟨λh=>Quotient.exact h,λh=>Uw h⟩
noncomputable def cT (n:Int):List aD:=[([],n)]
theorem jK (g) (n):ev g (cT n)=n * g []:=by show n * g (trim [])+0=_; rw [UI]; rfl
noncomputable instance:Add MP:=⟨Quotient.lift₂ (λA B=>mp (A++B)) λ_ _ _ _ h k=>Uw (eqv.app h k)⟩
noncomputable instance:Mul MP:=⟨Quotient.lift₂ (λA B=>mp (aI A B)) λ_ _ _ _ h k=>Uw (eqv.prod h k)⟩
noncomputable instance:Neg MP:=⟨Quotient.lift (λA=>mp (A.map fX)) λ_ _ h=>Uw (eqv.neg h)⟩
noncomputable instance:Sub MP:=⟨λa b=>a+ -b⟩
noncomputable instance:NatCast MP:=⟨λn=>mp (cT n)⟩
noncomputable instance:IntCast MP:=⟨λn=>mp (cT n)⟩
noncomputable instance (n:Nat):OfNat MP n:=⟨mp (cT n)⟩
noncomputable instance:SMul Nat MP:=⟨λn a=>(n:MP) * a⟩
noncomputable instance:SMul Int MP:=⟨λn a=>(n:MP) * a⟩
noncomputable def MP.pow (a:MP):Nat->MP
 | 0=>1
 | n+1=>MP.pow a n * a
noncomputable instance:HPow MP Nat MP:=⟨MP.pow⟩
theorem lB (A B):mp (A++B)=mp A+mp B:=rfl
theorem o7 (A B):mp (aI A B)=mp A * mp B:=rfl
theorem Js (A B):mp (A++B.map fX)=mp A - mp B:=rfl
theorem o8 (n):mp (cT n)=(n:MP):=rfl
theorem pQ {P:MP->Prop} (h:∀ A,P (mp A)) (a:MP):P a:=Quotient.inductionOn a h
theorem Jt (g) (A):ev g (aI (cT 1) A)=ev g A:=by
 rw [bO,jK,Tp]
 exact fZ (λp hp=>by rw [lz,hp]) _
theorem mulC:∀ a b:MP,a * b=b * a:=pQ λA=>pQ λB=>dZ.mpr λg=>by
 rw [bO,bO,vV]
 exact fZ (λq _=>fZ (λp _=>by rw [yc]) _) _
theorem Mc:∀ a:MP,1 * a=a:=pQ λA=>dZ.mpr λg=>Jt g A
theorem Ob:∀ a b:MP,a+b=b+a:=pQ λA=>pQ λB=>dZ.mpr λg=>by rw [cj,cj,UJ]
theorem GA:∀ a b c:MP,(a+b) * c=a * c+b * c:=pQ λA=>pQ λB=>pQ λC=>dZ.mpr λg=>by rw [bO,cj,cj,bO,bO]
theorem GB:∀ a:MP,0 * a=0:=pQ λA=>dZ.mpr λg=>by
 rw [bO,jK,jK]; show 0 * _=0 * _; rw [R7,R7]
noncomputable instance:Lean.Grind.CommRing MP where
 add_zero:=pQ λA=>dZ.mpr λg=>by rw [cj,jK]; show _+0 * _=_; rw [R7,UI]
 add_comm:=Ob
 add_assoc:=pQ λA=>pQ λB=>pQ λC=>dZ.mpr λg=>by rw [cj,cj,cj,cj,Int.add_assoc]
 mul_assoc:=pQ λA=>pQ λB=>pQ λC=>dZ.mpr λg=>by
  rw [bO,bO,bO]
  refine fZ (λp _=>?_) _
  rw [bO]
  refine fZ (λq _=>fZ (λr _=>?_) _) _
  rw [tQ,tR,tS]
 mul_one:=λa=>by rw [mulC,Mc]
 one_mul:=Mc
 left_distrib:=λa b c=>by rw [mulC,GA,mulC b,mulC c]
 right_distrib:=GA
 zero_mul:=GB
 mul_zero:=λa=>by rw [mulC,GB]
 pow_zero:=λ_=>rfl
 pow_succ:=λ_ _=>rfl
 ofNat_succ:=λn=>dZ.mpr λg=>by
  show ev g (cT ((n+1:Nat):Int))=ev g (cT (n:Int)++cT ((1:Nat):Int))
  rw [cj,jK,jK,jK,Int.natCast_add,RH]
 ofNat_eq_natCast:=λ_=>rfl
 nsmul_eq_natCast_mul:=λ_ _=>rfl
 neg_add_cancel:=pQ λA=>dZ.mpr λg=>by
  rw [cj,jk,jK]; show _=0 * _; rw [R7]; lia
 sub_eq_add_neg:=λ_ _=>rfl
 neg_zsmul:=λi=>pQ λA=>dZ.mpr λg=>by
  show ev g (aI (cT (-i)) A)=ev g ((aI (cT i) A).map fX)
  rw [jk,bO,bO,jK,jK,Int.neg_mul]
 zsmul_natCast_eq_nsmul:=λ_ _=>rfl
 intCast_ofNat:=λ_=>rfl
 intCast_neg:=λi=>dZ.mpr λg=>by
  show ev g (cT (-i))=ev g ((cT i).map fX)
  rw [jk,jK,jK,Int.neg_mul]
 mul_comm:=mulC
theorem BC {A:List aD} {p q:List Int} {n:Int}:(bD (putD A p n) q).getD 0=if q=p then n else (bD A q).getD 0:=by
 unfold putD
 split
 ·rename_i h
  induction A with
  | nil=>simp [bD] at h
  | cons t A ih =>
   rw [Pd]
   by_cases e:t.1=p
   ·rw [if_pos e]
    by_cases z:q=p
    ·rw [if_pos z,bx (by rw [e,z])]; rfl
    ·rw [if_neg z,aW (by rw [e]; exact λw=>z w.symm),aW (by rw [e]; exact λw=>z w.symm)]
     clear ih h
     induction A with
     | nil=>rfl
     | cons u A ih =>
      rw [Pd]
      by_cases w:u.1=q
      ·rw [if_neg (by rw [w]; exact z),bx w,bx w]
      ·rw [aW w,<- ih,aW (by split <;> exact w)]
   ·rw [if_neg e]
    have h':(bD A p).isSome=true:=by rw [aW e] at h; exact h
    by_cases z:t.1=q
    ·rw [bx z,bx z,if_neg (by rw [<- z]; exact e)]
    ·rw [aW z,aW z,ih h']
 ·rename_i h
  induction A with
  | nil =>
   rw [Q6]
   by_cases z:q=p
   ·rw [if_pos z,bx z.symm]; rfl
   ·rw [if_neg z,aW λw=>z w.symm]
  | cons t A ih =>
   have h0:¬ t.1=p:=λe=>h (by rw [bx e]; rfl)
   rw [QG]
   by_cases z:t.1=q
   ·rw [bx z,bx z,if_neg (by rw [<- z]; exact h0)]
   ·rw [aW z,aW z,ih (by rw [aW h0] at h; exact h)]
noncomputable def cf (p:List Int) (A:List aD):Int:=ev (λq=>if q=p then 1 else 0) A
theorem BD (p):∀ ts:List aD,(bD (aX ts) p).getD 0=cf p ts:=by
 intro ts
 suffices H:∀ (ts A:List aD),(bD (ts.foldl fE A) p).getD 0=(bD A p).getD 0+cf p ts by
  have:=H ts []
  rw [show (bD ([]:List aD) p).getD 0=0 from rfl,Tj] at this
  exact this
 intro ts
 induction ts with
 | nil=>intro A; show _=_+0; rw [UI]; rfl
 | cons t ts ih =>
  intro A
  rw [QK,ih]
  unfold fE
  rw [BC]
  show _=_+(t.2 * (if trim t.1=p then 1 else 0)+cf p ts)
  by_cases z:p=trim t.1
  ·rw [if_pos z,if_pos z.symm,z]; lia
  ·rw [if_neg z,if_neg λw=>z w.symm]; lia
theorem BE:t∈nz (aX ts)↔trim t.1=t.1/\t.2≠0/\t.2=cf t.1 ts:=by
 have hk:=eZ ts
 constructor
 ·intro h
  unfold nz at h
  rw [S6] at h
  refine ⟨?_,by simpa using h.2,?_⟩
  ·have bd:∃ n,∀ t∈ts,t.1.length<=n:=by
    clear h hk
    induction ts with
    | nil=>exact ⟨0,λt h=>by cases h⟩
    | cons u ts ih =>
     obtain ⟨n,hn⟩:=ih
     refine ⟨max n u.1.length,λt ht=>?_⟩
     rcases Pg.mp ht with rfl | ht
     ·lia
     ·have:=hn t ht; lia
   obtain ⟨n,hn⟩:=bd
   exact (oS hn t h.1).1
  ·rw [<- BD,vN hk h.1]; rfl
 ·rintro ⟨h1,h2,h3⟩
  unfold nz
  rw [S6]
  refine ⟨?_,by simpa using h2⟩
  rw [<- BD] at h3
  cases e:bD (aX ts) t.1 with
  | none=>rw [e] at h3; exact absurd h3 h2
  | some n =>
   rw [e] at h3
   have h3':t.2=n:=h3
   unfold bD at e
   obtain ⟨u,hu,e2⟩:=Pq.mp e
   have m:=List.mem_of_find?_eq_some hu
   have z:u.1=t.1:=by simpa using List.find?_some hu
   have:u=t:=Prod.ext z (by rw [e2,h3'])
   rw [<- this]; exact m
theorem rK {L M:List aD} (h1:L.Nodup) (h2:M.Nodup) (h:∀ t,t∈L↔t∈M):L.Perm M:=(List.perm_ext_iff_of_nodup h1 h2).mpr h
theorem BF (h:eqv A B):aQ A=aQ B:=by
 have nA:=keys_nodup (vH (eZ A))
 have nB:=keys_nodup (vH (eZ B))
 have hp:(nz (aX A)).Perm (nz (aX B)):=rK nA nB λt=>by rw [BE,BE]; unfold cf; rw [h]
 exact tF nB ((bY _).trans hp) (iL nA)
theorem gQ (h:mp A=mp B):aQ A=aQ B:=BF (dZ.mp h)
theorem Ju (g) (hp:trim p=p) (n) (hk:(A.map (·.1)).Nodup) (ht:∀ t∈A,trim t.1=t.1):ev g (putD A p n)=ev g A+(n - (bD A p).getD 0) * g p:=by
 unfold putD
 split
 ·rename_i h
  induction A with
  | nil=>simp [bD] at h
  | cons t A ih =>
   rw [Pd]
   rw [Pd,Qu] at hk
   by_cases e:t.1=p
   ·rw [if_pos e]
    have same:A.map (λkv:aD=>if kv.1=p then (kv.1,n) else kv)=A:=by
     refine (Rm λu hu=>?_).trans (List.map_id A)
     rw [if_neg λz=>hk.1 (by rw [e,<- z]; exact Pr.mpr ⟨u,hu,rfl⟩)]; rfl
    rw [same,bx e]
    rw [bu,bu]
    show n * g (trim t.1)+_=_+(n - t.2) * _
    rw [ht t Po,e,Int.sub_mul]; lia
   ·rw [if_neg e]
    rw [bu,bu,ih hk.2 (λu hu=>ht u (Pj _ hu)) (by rw [aW e] at h; exact h),aW e]; lia
 ·rename_i h
  have e:bD A p=none:=by
   cases e:bD A p with
   | none=>rfl
   | some n=>rw [e] at h; exact absurd rfl h
  rw [cj,e]
  show _+(n * g (trim p)+0)=_+(n - 0) * _
  rw [hp,Int.sub_zero,UI]
theorem vW (ts):eqv (aX ts) ts:=by
 suffices H:∀ (ts A:List aD),(A.map (·.1)).Nodup->(∀ t∈A,trim t.1=t.1)->eqv (ts.foldl fE A) (A++ts) from H ts [] (by simp) (by simp)
 intro ts
 induction ts with
 | nil=>intro A _ _ g; simp
 | cons t ts ih =>
  intro A hk ht g
  have ih':ev g (ts.foldl fE (fE A t))=ev g (fE A t++ts):=ih _ (qU _ _ hk) (λu hu=>by
   rcases oR hu with e | e
   ·rw [e,cy]
   ·exact ht u e) g
  rw [QK,ih',cj,cj]
  unfold fE
  rw [Ju g (cy _) _ hk ht]
  show _=_+(t.2 * g (trim t.1)+ev g ts)
  rw [Int.sub_mul,RH]; lia
theorem EU (g) (h:A.Perm B):ev g A=ev g B:=by
 induction h with
 | nil=>rfl
 | cons x _ ih=>rw [bu,bu,ih]
 | swap x y l=>rw [bu,bu,bu,bu]; lia
 | trans _ _ a b=>rw [a,b]
theorem BG (g):∀ A:List aD,ev g (nz A)=ev g A
 | []=>rfl
 | t::A=>by
  unfold nz
  by_cases h:t.2=0
  ·rw [SJ (by simp [h])]
   show ev g (nz A)=t.2 * _+_
   rw [BG g A,h,R7,Tj]
  ·rw [RQ (by simp [h])]
   show _+ev g (nz A)=_
   rw [BG g A]; rfl
theorem BH (ts):eqv (aQ ts) ts:=λg=>by
 show ev g (iK (nz (aX ts)))=_
 rw [EU g (bY _),BG,vW ts g]
theorem iQ (A):mp (aQ A)=mp A:=dZ.mpr (BH A)
theorem Jv (A):mp (aX A)=mp A:=dZ.mpr (vW A)
noncomputable def stp {α:Type} (xs:List α) (lo hi st:Option Int):List α:=(sliceRange (sliceBounds lo hi st xs.length).1 (sliceBounds lo hi st xs.length).2.1 (sliceBounds lo hi st xs.length).2.2).filterMap (xs[·]?)
theorem div_le_self {m st:Int} (h:0<m) (hs:0<st):(m+st - 1) / st<=m:=by
 have e:(m+st - 1) / st<m+1:=by
  apply Int.ediv_lt_of_lt_mul hs
  have:0<=m * (st - 1):=Uy (by lia) (by lia)
  rw [Int.mul_sub,Int.mul_one] at this
  rw [RH,Tp]
  lia
 lia
theorem vX {lo hi:Option Int} (hk:0<k):(stp xs lo hi (some k)).length<=xs.length:=by
 unfold stp
 refine Pw (List.length_filterMap_le ..) ?_
 have h0:0<=(sliceBounds lo hi (some k) xs.length).1:=by
  cases lo with
  | none=>simp only [sliceBounds,Uh]; rw [if_pos hk]; lia
  | some i=>simp only [sliceBounds,Uh]; rw [if_pos hk]; lia
 have h1:(sliceBounds lo hi (some k) xs.length).2.1<=xs.length:=by
  cases hi with
  | none=>simp only [sliceBounds,Uh]; rw [if_pos hk]; lia
  | some i=>simp only [sliceBounds,Uh]; rw [if_pos hk]; lia
 have h2:(sliceBounds lo hi (some k) xs.length).2.2=k:=rfl
 rw [h2]
 unfold sliceRange
 simp only [Pe,List.length_range]
 rw [if_pos (by exact hk)]
 split
 ·rename_i z
  have:=div_le_self (m:=(sliceBounds lo hi (some k) xs.length).2.1 - (sliceBounds lo hi (some k) xs.length).1) (by lia) hk
  lia
 ·simp
theorem EW (f:α->β) (xs) (lo hi st):stp (xs.map f) lo hi st=(stp xs lo hi st).map f:=by
 unfold stp
 rw [Pe,List.map_filterMap]
 congr 1
 funext i
 rw [Pk]
theorem yd (h:Vals xs its):∀ ns:List Nat,Vals (ns.filterMap (xs[·]?)) (ns.filterMap (its[·]?)):=by
 intro ns
 induction ns with
 | nil=>exact .nil
 | cons n ns ih =>
  rw [Rc,Rc]
  by_cases z:n<xs.length
  ·obtain ⟨u,e,hu⟩:=h.get (PU z)
   rw [PU z,e]
   exact .cons hu ih
  ·rw [Ra (by lia),Ra (by rw [<- h.length]; lia)]
   exact ih
theorem ye {K:O7} (h:ak K H ds xs):∀ ns:List Nat,ak K H (ns.filterMap (ds[·]?)) (ns.filterMap (xs[·]?)):=by
 intro ns
 induction ns with
 | nil=>exact aB.mpr rfl
 | cons n ns ih =>
  rw [Rc,Rc]
  by_cases z:n<ds.length
  ·obtain ⟨u,e,hu⟩:=h.get (PU z)
   rw [PU z,e]
   exact aF.mpr ⟨_,_,rfl,hu,ih⟩
  ·rw [Ra (by lia),Ra (by rw [<- h.length]; lia)]
   exact ih
noncomputable def Oc (X:Cx) (te:TE) (tl th ts:TO):TE:=λσ H Q=>te σ H λx H1=>tl σ H1 λl H2=>th σ H2 λu H3=>ts σ H3 λt H4=>∃ a xs k,x=.ref a/\fk X.K H4 a xs/\t=some k/\0<k/\∀ p,H4 p=none->Q (.ref p) (upd H4 p (.lst (stp xs l u (some k))))
section
variable {lo hi:Option Expr} {st:Expr}
theorem Jw (he:PE X e te) (hl:PO X lo tl) (hu:PO X hi th) (ht:PO X (some st) ts):PE X (.Subscript e (.Slice lo hi (some st) p2) pos) (Oc X te tl th ts):=by
 intro aa s σ H Q I h
 refine Subscript_ (bC (he aa s σ H _ I h) λv s1 ⟨x,H1,I1,r1,q1⟩=>?_)
 refine wpAny_Slice (bC (hl aa s1 σ H1 _ I1 q1) λvl s2 ⟨l,H2,I2,pl,q2⟩=>bC (hu aa s2 σ H2 _ I2 q2) λvu s3 ⟨u,H3,I3,pu,q3⟩=>bC (ht aa s3 σ H3 _ I3 q3) λvt s4 ⟨t,H4,I4,pt,q4⟩=>?_)
 obtain ⟨a,xs,k,rfl,hx,rfl,hk,q⟩:=q4
 have I5:Inv X aa σ H4 { s4 with heap:=s4.heap.push { cls:=.type "slice",data:=.fields #[vl,vu,vt] } }:=I4.kept (t':=s4.toks) λb ob q=>Pc _ q
 cases r1
 obtain ⟨its,r,hi,hz⟩:=I5.list hx
 have hlen:=r.length
 show wpAny (model X.prog X.w) X.A (subscriptTail e (.Slice lo _ (some st) p2) (.ref a) (.ref s4.heap.objs.size)) (EP X aa σ Q) X.xe { s4 with heap:=s4.heap.push { cls:=.type "slice",data:=.fields #[vl,vu,vt] } }
 refine tail_any (ops:=[.ref a,.ref s4.heap.objs.size]) hi.isList.typeIs Vj.lookup ?_ (by walk_at "u")
 refine wpAny_getItem_list_slice hi.isList (Heap.IsSliceOf.new ..) pl pu pt (by intro e; injection e with e; lia) ?_ (by rw [PF] <;> lia)
 have I6:=I5
 generalize hS:({ s4 with heap:=s4.heap.push { cls:=.type "slice",data:=.fields #[vl,vu,vt] } }:Shared)=S at I6 |-
 have ep:slicePick its.toArray l u (some k)=(stp its l u (some k)).toArray:=by
  unfold slicePick stp
  simp only [PF,List.getElem?_toArray]
 rw [ep]
 refine ⟨.ref S.heap.objs.size,_,I6.laid (t':=S.toks) (o:=.lst (stp xs l u (some k))) (λb ob q=>Pc _ q) (Pa _) ?_,rfl,q _ (I6.hok.fresh (Pa _))⟩
 exact ⟨Pw (vX hk) hz,_,0,by unfold stp; rw [hlen]; exact yd r _,Pp _ rfl⟩
end
section
variable {K:O7}
theorem Me {lo hi:Option Expr} {st:Expr} (h:aL c e ρ λx=>CW c lo ρ λl=>CW c hi ρ λu=>CW c (some st) ρ λt=>∃ ds k,x=.lst ds/\t=some k/\0<k/\R (.ow (stp ds l u (some k)))):cV c (.Subscript e (.Slice lo hi (some st) p2) pos) ρ R:=λσ H Hf Q S q =>
 bK (Jw c6 LJ LJ LJ) (h σ H Hf _ S λx v H1 aR h1 r1 g1=>h1 σ H1 aR _ (S.cD g1) λl H2 cL h2 g2=>h2 σ H2 cL _ (S.cD (g1.trans g2)) λu H3 Hf3 h3 g3=>h3 σ H3 Hf3 _ (S.cD ((g1.trans g2).trans g3)) λt H4 Hf4 h4 g4=>by
  obtain ⟨ds,k,rfl,rfl,hk,hR⟩:=h4
  have r3:=Rep.mono g4.f _ (Rep.mono g3.f _ (Rep.mono g2.f _ r1))
  have g:=((g1.trans g2).trans g3).trans g4
  rw [aU] at r3
  obtain ⟨a,xs,rfl,k1,k2⟩:=r3
  refine ⟨a,xs,k,rfl,g4.b.seq k1,rfl,hk,λp hp=>?_⟩
  exact q _ _ _ _ hR ⟨p,_,rfl,g.s.free hp,af,g4.b.free hp,by unfold stp; rw [k2.length]; exact ye k2 _⟩ (g.trans (br.eU g4.b hp)))
end
end EV
namespace EV
open PySem PySem.Spec PySem.Calls PyProof.Rows L2
structure M6 (prog:Program) (w:World) (L:List Addr) (i:Addr) (N N':Heap->Prop) (x:Value):Prop where
 keep:∀ {b:Addr} {h h':Heap},b∈L->RI b h h'->N h->N h'
 keep':∀ {b:Addr} {h h':Heap},b∈L->RI b h h'->N' h->N' h'
 run:∀ {A:Around} {E Q:Value->Shared->Prop} {s:Shared},N s.heap->(∀ h',N' h'->QZ i s.heap h'->Q x { s with heap:=h' })->wpAny (model prog w) A (QY (.ref i)) Q E s
structure Od (prog:Program) (w:World) (L:List Addr) (i:Addr) (N:Heap->Prop):Prop where
 keep:∀ {b:Addr} {h h':Heap},b∈L->RI b h h'->N h->N h'
 run:∀ {A:Around} {E Q:Value->Shared->Prop} {s:Shared},A.handled=none->N s.heap->(∀ h' e,RI i s.heap h'->(∃ o,h'.get? e=some o/\o.cls=.type "StopIteration")->E (.ref e) { s with heap:=h' })->wpAny (model prog w) A (QY (.ref i)) Q E s
structure Mf (z TI TO i1 i2:Addr):Prop where
 a:TI≠z
 b:TO≠z
 c:i1≠z
 d:i2≠z
 e:TI≠TO
 f:TI≠i1
 g:TI≠i2
 h:TO≠i1
 i:TO≠i2
 j:i1≠i2
section
variable {z TI TO i1 i2:Addr}
theorem BI {Q:Value->Shared->Prop} (D:Mf z TI TO i1 i2) (hz:IsZip s.heap z TI TO .none) (hTI:IsPair s.heap TI (.ref i1) (.ref i2)) (hTO:IsPair s.heap TO a b)
 (d1:M6 prog w [z,TO,i2] i1 N1 N1' x) (d2:M6 prog w [z,TO,i1] i2 N2 N2' y) (h1:N1 s.heap) (h2:N2 s.heap)
 (up1:∀ {h h':Heap},(∀ c o,c≠z->h.get? c=some o->h'.get? c=some o)->N1' h->N1' h') (up2:∀ {h h':Heap},(∀ c o,c≠z->h.get? c=some o->h'.get? c=some o)->N2' h->N2' h')
 (q:∀ h',IsZip h' z TI TO (rawInt s.heap.objs.size)->IsPair h' TO x y->N1' h'->N2' h'->IsPair h' s.heap.objs.size x y ->
   (∀ c o,c≠z->c≠TO->c≠i1->c≠i2->s.heap.get? c=some o->h'.get? c=some o)->Q (.ref s.heap.objs.size) { s with heap:=h' }) :
 wpAny (model prog w) A (Builtin.«zip.__next__» ⟨[.ref z],[]⟩) (λfin s'=>∃ v,fin=.done (.ret v)/\Q v s') E s:=by
 refine O6 (m:=field (.ref z) 2) (Qc hz rfl (x:=.bool false) rfl ?_)
 refine O6 (m:=field (.ref z) 3) (Qc hz rfl (x:=.ref TI) rfl (O6 (Rh hTI rfl ?_)))
 refine O6 (m:=Tw (.ref z)) ?_
 unfold Tw
 refine O6 (Qc hz rfl (x:=.none) rfl (O8 ?_))
 simp only [if_true]
 refine O6 (Qz (O6 (Qc hz rfl (x:=.ref TO) rfl (O6 (QN hz (by simp) λg1 (k1:IsZip g1 z TI TO .ellipsis) b1=>?_)))))
 have c1:=b1.extBut
 refine O6 ?_
 simp only [Vt,List.zipIdx_nil,R3,List.forIn_nil]
 refine O6 (O6 (Uz ?_))
 refine O6 (m:=QY (.ref i1)) (d1.run (d1.keep (by simp) c1 h1) λg2 m1 b2=>O8 ?_)
 have c2:=b2.extBut
 have o2:IsPair g2 TO a b:=c2 _ _ D.h (c1 _ _ D.b hTO)
 refine O6 (Rh o2 rfl (O6 (U4 o2 λg3 (o3:IsPair g3 TO x b) b3=>O6 (R8 (O8 ?_)))))
 have c3:=b3.extBut
 refine O6 (O6 (Uz ?_))
 refine O6 (m:=QY (.ref i2)) (d2.run (d2.keep (by simp) c3 (d2.keep (by simp) c2 (d2.keep (by simp) c1 h2))) λg4 m2 b4=>O8 ?_)
 have c4:=b4.extBut
 have o4:IsPair g4 TO x b:=c4 _ _ D.i o3
 refine O6 (Rh o4 rfl (O6 (U4 o4 λg5 (o5:IsPair g5 TO x y) b5=>O6 (R8 (O8 (O8 ?_))))))
 have c5:=b5.extBut
 refine O6 (Rh o5 rfl (O6 (Uu ?_)))
 have sz:g5.objs.size=s.heap.objs.size:=by rw [b5.1,b4.1,b3.1,b2.1,b1.1]
 have k5:IsZip g5 z TI TO .ellipsis:=c5 _ _ D.b.symm (c4 _ _ D.d.symm (c3 _ _ D.b.symm (c2 _ _ D.c.symm k1)))
 have all:∀ c o,c≠z->c≠TO->c≠i1->c≠i2->s.heap.get? c=some o->g5.get? c=some o:=λc o n1 n2 n3 n4 e=>c5 _ _ n2 (c4 _ _ n4 (c3 _ _ n2 (c2 _ _ n3 (c1 _ _ n1 e))))
 have m1':N1' g5:=d1.keep' (by simp) c5 (d1.keep' (by simp) c4 (d1.keep' (by simp) c3 m1))
 have m2':N2' g5:=d2.keep' (by simp) c5 m2
 refine O6 (m:=VC (.ref z) (.ref g5.objs.size)) ?_
 unfold VC
 have k6:IsZip (g5.push { cls:=.type "tuple",data:=.seq #[x,y] }) z TI TO .ellipsis:=Pc _ k5
 refine O6 (QN k6 (by simp) λg7 (k7:IsZip g7 z TI TO (rawInt g5.objs.size)) b7=>QN k7 (by simp) λg8 (k8:IsZip g8 z TI TO (rawInt g5.objs.size)) b8=>?_)
 have up:∀ c o,c≠z->g5.get? c=some o->g8.get? c=some o:=λc o n e=>b8.extBut _ _ n (b7.extBut _ _ n (Pc _ e))
 have nz:g5.objs.size≠z:=RE (Pf k5)
 have p8:IsPair g8 g5.objs.size x y:=b8.extBut _ _ nz (b7.extBut _ _ nz (Pp _ rfl))
 refine O8 ⟨_,rfl,?_⟩
 show Q (.ref g5.objs.size) _
 rw [sz] at k8 p8 |-
 exact q g8 k8 (up _ _ D.b o5) (up1 up m1') (up2 up m2') p8 λc o n1 n2 n3 n4 e=>up c o n1 (all c o n1 n2 n3 n4 e)
theorem EX (hh:A.handled=none) (D:Mf z TI TO i1 i2) (hz:IsZip s.heap z TI TO .none) (hTI:IsPair s.heap TI (.ref i1) (.ref i2)) (hTO:IsPair s.heap TO a b)
 (d:Od prog w [z] i1 N1\/∃ x N1',M6 prog w [z] i1 N1 N1' x/\Od prog w [z,TO,i1] i2 N2) (h1:N1 s.heap) (h2:N2 s.heap)
 (q:∀ h' e,(∀ c o,c≠z->c≠TO->c≠i1->c≠i2->s.heap.get? c=some o->h'.get? c=some o)->(∃ o,h'.get? e=some o/\o.cls=.type "StopIteration")->E (.ref e) { s with heap:=h' }) :
 wpAny (model prog w) A (Builtin.«zip.__next__» ⟨[.ref z],[]⟩) Q E s:=by
 refine O6 (m:=field (.ref z) 2) (Qc hz rfl (x:=.bool false) rfl ?_)
 refine O6 (m:=field (.ref z) 3) (Qc hz rfl (x:=.ref TI) rfl (O6 (Rh hTI rfl ?_)))
 refine O6 (m:=Tw (.ref z)) ?_
 unfold Tw
 refine O6 (Qc hz rfl (x:=.none) rfl (O8 ?_))
 simp only [if_true]
 refine O6 (Qz (O6 (Qc hz rfl (x:=.ref TO) rfl (O6 (QN hz (by simp) λg1 (k1:IsZip g1 z TI TO .ellipsis) b1=>?_)))))
 have c1:=b1.extBut
 refine O6 ?_
 simp only [Vt,List.zipIdx_nil,R3,List.forIn_nil]
 refine O6 (O6 (Uz ?_))
 refine O6 (m:=QY (.ref i1)) ?_
 rcases d with d | ⟨x,N1',d1,d2⟩
 ·refine d.run hh (d.keep (by simp) c1 h1) λg2 e b2 ⟨oe,e1,e2⟩=>?_
  have k2:IsZip g2 z TI TO .ellipsis:=b2 _ _ D.c.symm k1
  have ne:e≠z:=λu=>by subst u; rw [k2] at e1; cases e1; simp at e2
  exact QN k2 (by simp) λg3 _ b3=>q g3 e (λc o n1 _ n3 _ u=>b3.extBut _ _ n1 (b2 _ _ n3 (c1 _ _ n1 u))) ⟨oe,b3.extBut _ _ ne e1,e2⟩
 ·refine d1.run (d1.keep (by simp) c1 h1) λg2 m1 b2=>O8 ?_
  have c2:=b2.extBut
  have o2:IsPair g2 TO a b:=c2 _ _ D.h (c1 _ _ D.b hTO)
  refine O6 (Rh o2 rfl (O6 (U4 o2 λg3 (o3:IsPair g3 TO x b) b3=>O6 (R8 (O8 ?_)))))
  have c3:=b3.extBut
  refine O6 (O6 (Uz ?_))
  refine O6 (m:=QY (.ref i2)) (d2.run hh (d2.keep (by simp) c3 (d2.keep (by simp) c2 (d2.keep (by simp) c1 h2))) λg4 e b4 ⟨oe,e1,e2⟩=>?_)
  have k4:IsZip g4 z TI TO .ellipsis:=b4 _ _ D.d.symm (c3 _ _ D.b.symm (c2 _ _ D.c.symm k1))
  have ne:e≠z:=λu=>by subst u; rw [k4] at e1; cases e1; simp at e2
  exact QN k4 (by simp) λg5 _ b5=>q g5 e (λc o n1 n2 n3 n4 u=>b5.extBut _ _ n1 (b4 _ _ n4 (c3 _ _ n2 (c2 _ _ n3 (c1 _ _ n1 u))))) ⟨oe,b5.extBut _ _ ne e1,e2⟩
end
end EV
namespace EV
open PySem PySem.Spec PyProof.Rows L2
theorem EY (nd:(fp.map (·.1)).Nodup) (hn:∀ a∈fp,aR a.1=none) (fr:∀ a∈fp,H a.1=none) (g:br H Hf H1 aR):br H Hf (gz Bt fp H1) (gz Bt fp aR):=by
 have o1:∀ {b:Addr} {o:HO},H b=some o->b∉fp.map (·.1):=λe m=>by obtain ⟨p,hp,rfl⟩:=bV m; rw [fr p hp] at e; cases e
 refine ⟨λb o e=>?_,λb o e=>?_,λb o e=>?_,λb h1 h2 h3=>?_⟩
 ·rw [bf (o1 e)]; exact g.s b o e
 ·have e1:=g.f b o e
  rw [bf λm=>by obtain ⟨p,hp,rfl⟩:=bV m; rw [hn p hp] at e1; cases e1]; exact e1
 ·by_cases m:b∈fp.map (·.1)
  ·obtain ⟨p,hp,rfl⟩:=bV m
   rw [fG nd p hp] at e |-; exact e
  ·rw [bf m] at e |-; exact g.b b o e
 ·rw [bf λm=>by obtain ⟨p,hp,rfl⟩:=bV m; exact h2 (fr p hp)]; exact g.n b h1 h2 h3
section
variable {K:O7}
theorem Mg (h:cV c e ρ λr=>∃ s,r=.fo s/\R s.d):aL c e ρ R:=λσ H Hf Q S q aa s I=>by
 refine bC (h σ H Hf (λv H'=>∃ (sh:Sh) (fp:Fp) (aj:Hp),aP c.X.K H' aj sh v fp/\(fp.map (·.1)).Nodup/\(∀ a∈fp,H a.1=none)/\br H Hf H' aj/\R sh.d) S (λr v H' aj ⟨sh,e,hR⟩ rs g=>by subst e; obtain ⟨fp,r1,r2,r3⟩:=rs; exact ⟨sh,fp,aj,r1,r2,r3,g,hR⟩) aa s I) λu s1 hh=>z2 hh λv H1 hh=>w3 hh λI1 rv hh=>z3 hh λsh fp aR hh=>w5 hh λrf nd fr g hR=>?_
 have hz:=aP.fz sh rf
 exact ⟨v,_,lu I1 nd λa ha=>(hz a ha).1,rv,q sh.d v _ (gz Bt fp aR) hR (aP.rep (λb o e=>by rw [bf λm=>by obtain ⟨p,hp,rfl⟩:=bV m; rw [(hz p hp).2] at e; cases e]; exact e) sh (λa ha=>fG nd a ha) rf) (EY nd (λa ha=>(hz a ha).2) fr g)⟩
end
end EV
namespace EV
open PySem PySem.Spec PySem.Calls PyProof.Rows L2
structure ZS (K:O7) where
 sq:Hp->Addr->List V->Prop
 it:Heap->Addr->Addr->Nat->Prop
 us:Heap->Addr->Array Value->Prop
 dm:List D->D
 cl:String
 rep:∀ {H:Hp} {ds:List D} {v:V},Rep K H (dm ds) v↔∃ a xs,v=.ref a/\sq H a xs/\ak K H ds xs
 same:∀ {H H':Hp} {a:Addr} {xs:List V},aM H H'->sq H a xs->sq H' a xs
 ini:∀ {h:Heap} {i l:Addr},h.get? i=some { cls:=.type cl,data:=.fields #[.ref l,.int 0 0] }->it h i l 0
 get:∀ {X:Cx} {aa:List (Addr×Obj)} {σ:L2.St} {H:Hp} {s:Shared} {l:Addr} {xs:List V},X.K=K->Inv X aa σ H s->sq H l xs->∃ its,Vals xs its/\us s.heap l its.toArray
 inj:∀ {X:Cx} {aa:List (Addr×Obj)} {σ:L2.St} {H:Hp} {s:Shared} {l:Addr} {xs ys:List V},X.K=K->Inv X aa σ H s->sq H l xs->sq H l ys->xs=ys
 ito:∀ {h:Heap} {i l:Addr} {k:Nat},it h i l k->∃ o,h.get? i=some o/\∀ v,o.data≠.cell v
 itk:∀ {h h':Heap} {i l:Addr} {k:Nat},(∀ o,h.get? i=some o->h'.get? i=some o)->it h i l k->it h' i l k
 usk:∀ {h h':Heap} {l:Addr} {a:Array Value},(∀ o,h.get? l=some o->h'.get? l=some o)->us h l a->us h' l a
 uso:∀ {h:Heap} {l:Addr} {a:Array Value},us h l a->∃ o,h.get? l=some o
 run:∀ {prog:Program} {w:World} {i l:Addr} {a:Array Value} {k:Nat} {x:Value} {A:Around} {E Q:Value->Shared->Prop} {s:Shared},l≠i->a[k]?=some x->it s.heap i l k->us s.heap l a->(∀ h',it h' i l (k+1)->QZ i s.heap h'->Q x { s with heap:=h' })->wpAny (model prog w) A (QY (.ref i)) Q E s
 dry:∀ {prog:Program} {w:World} {i l:Addr} {a:Array Value} {k:Nat} {A:Around} {E Q:Value->Shared->Prop} {s:Shared},A.handled=none->a[k]?=none->it s.heap i l k->us s.heap l a->(∀ h' e,RI i s.heap h'->(∃ o,h'.get? e=some o/\o.cls=.type "StopIteration")->E (.ref e) { s with heap:=h' })->wpAny (model prog w) A (QY (.ref i)) Q E s
noncomputable def Oe (K:O7):ZS K where
 sq:=dh K
 it:=IsTupIter
 us:=IsTup
 dm:=.tup
 cl:="tuple_iterator"
 rep:=aG
 same:=az
 ini:=λe=>⟨_,e,rfl,rfl⟩
 get:=λh I q=>by subst h; obtain ⟨its,rv,p,_⟩:=I.tuple q; exact ⟨its,rv,p⟩
 inj:=λh I q q'=>by subst h; exact I.gi q q'
 ito:=λ⟨o,e,_,d⟩=>⟨o,e,λv q=>by rw [d] at q; cases q⟩
 itk:=λk ⟨o,e,r⟩=>⟨o,k o e,r⟩
 usk:=λk ⟨o,e,r⟩=>⟨o,k o e,r⟩
 uso:=λ⟨o,e,_⟩=>⟨o,e⟩
 run:=λ{prog w i l a k x A E Q s} hil hx t u q=>by
  obtain ⟨o,ho,hc,hd⟩:=id t
  obtain ⟨ol,hol,_,nl,hdl⟩:=id u
  unfold QY
  refine O6 (Q9 (name:=O5 "__next__") t.typeIs T5 (QO T5 t.typeIs entry_tupleiter_next ?_ (args_tupleiter_next _)))
  refine O6 (m:=field (.ref i) 0) (Qc ho hd (x:=.ref l) rfl ?_)
  show wpAny _ _ (if (PJ l == Qw)=true then _ else _) _ _ s
  rw [if_neg (show ¬ ((PJ l == Qw)=true) from Pn)]
  refine O6 (m:=field (.ref i) 1) (Qc ho hd (x:=.int k 0) rfl ?_)
  refine O6 (m:=seqItems? (.ref l)) (Rh hol hdl ?_)
  simp only [Qt,hx]
  refine O6 (Td ho hd (by simp) (O8 ⟨x,rfl,O8 (q _ ?_ (SQ ..))⟩))
  exact ⟨_,Heap.get?_update_self _ ho (Obj.isFreed_of_fields (T8 hd _)),(Obj.cls_mapFields ..).trans hc,by rw [T8 hd]; simp [rawInt]⟩
 dry:=λ{prog w i l a k A E Q s} hh hx t u q=>by
  obtain ⟨o,ho,hc,hd⟩:=id t
  obtain ⟨ol,hol,_,nl,hdl⟩:=id u
  unfold QY
  refine O6 (Q9 (name:=O5 "__next__") t.typeIs T5 (QO T5 t.typeIs entry_tupleiter_next ?_ (args_tupleiter_next _)))
  refine O6 (m:=field (.ref i) 0) (Qc ho hd (x:=.ref l) rfl ?_)
  show wpAny _ _ (if (PJ l == Qw)=true then _ else _) _ _ s
  rw [if_neg (show ¬ ((PJ l == Qw)=true) from Pn)]
  refine O6 (m:=field (.ref i) 1) (Qc ho hd (x:=.int k 0) rfl ?_)
  refine O6 (m:=seqItems? (.ref l)) (Rh hol hdl ?_)
  simp only [Qt,hx]
  refine O6 (Qz (O6 (Td ho hd (by simp) ?_)))
  refine O6 (m:=newExc (.type "StopIteration") []) ?_
  simp only [newExc,newTuple]
  refine O6 (QB ?_ (by size_fits))
  refine O6 (m:=firstArgMember _ _) (wpAny_of_eq (a:=Qw) (by first | rfl | (simp only [firstArgMember]; rfl)) ?_)
  refine QB ?_ (by size_fits)
  simp only [raiseNew]
  refine O6 (wpAny_handled ?_)
  first | rw [show A.in1.handled=none from hh] | rw [hh]
  refine O6 (O8 (wpAny_throw ?_))
  exact q _ _ (((SQ ..).extBut.push _).push _) ⟨_,Pp _ rfl,rfl⟩
noncomputable def Mh (K:O7):ZS K where
 sq:=fk K
 it:=λh i l k=>h.IsListIter i l k
 us:=λh l a=>h.IsList l a
 dm:=.lst
 cl:="list_iterator"
 rep:=aU
 same:=λe q=>e.seq q
 ini:=λe=>⟨_,e,rfl,rfl⟩
 get:=λh I q=>by subst h; obtain ⟨its,rv,p,_⟩:=I.list q; exact ⟨its,rv,p.isList⟩
 inj:=λh I q q'=>by subst h; exact I.j8 q q'
 ito:=λ⟨o,e,_,d⟩=>⟨o,e,λv q=>by rw [d] at q; cases q⟩
 itk:=λk t=>t.at λo e=>k o e
 usk:=λk ⟨o,e,r⟩=>⟨o,k o e,r⟩
 uso:=λ⟨o,e,_⟩=>⟨o,e⟩
 run:=λ_ hx t u q=>wpAny_nextOf_list_item t u hx q
 dry:=λhh hx t u q=>wpAny_nextOf_list_end hh t u hx q
section
variable {prog:Program} {w:World} {E:Value->Shared->Prop} {s:Shared} {K:O7} {i l:Addr} {us:Array Value} {k:Nat} {L:List Addr}
def ZS.At (A:ZS K) (i l:Addr) (us:Array Value) (k:Nat) (h:Heap):Prop:=A.it h i l k/\A.us h l us
theorem ZS.At.keep {A:ZS K} (t:A.At i l us k h) (e:RI b h h') (n1:i≠b) (n2:l≠b):A.At i l us k h':=⟨A.itk (λo=>e _ o n1) t.1,A.usk (λo=>e _ o n2) t.2⟩
theorem BJ {A:ZS K} {x:Value} (hL:∀ b∈L,i≠b/\l≠b) (hil:l≠i) (hx:us[k]?=some x):M6 prog w L i (A.At i l us k) (A.At i l us (k+1)) x where
 keep:=λhb e t=>t.keep e (hL _ hb).1 (hL _ hb).2
 keep':=λhb e t=>t.keep e (hL _ hb).1 (hL _ hb).2
 run:=λt q=>A.run hil hx t.1 t.2 λh' a b=>q h' ⟨a,A.usk (λo=>b.extBut _ o hil) t.2⟩ b
theorem GC {A:ZS K} (hL:∀ b∈L,i≠b/\l≠b) (hx:us[k]?=none):Od prog w L i (A.At i l us k) where
 keep:=λhb e t=>t.keep e (hL _ hb).1 (hL _ hb).2
 run:=λhh t q=>A.dry hh hx t.1 t.2 q
theorem OZ {z TI TO i1 i2 l1 l2:Addr} (D:ZipApart z TI TO i1 i2 l1 l2):∀ b∈[z,TO,i2],i1≠b/\l1≠b:=by
 intro b hb
 simp only [Pg,Qf,or_false] at hb
 rcases hb with rfl | rfl | rfl
 ·exact ⟨D.i1z,D.l1z⟩
 ·exact ⟨D.TOi1.symm,D.l1TO⟩
 ·exact ⟨D.i12,D.l1i2⟩
theorem OE {z TI TO i1 i2 l1 l2:Addr} (D:ZipApart z TI TO i1 i2 l1 l2):∀ b∈[z,TO,i1],i2≠b/\l2≠b:=by
 intro b hb
 simp only [Pg,Qf,or_false] at hb
 rcases hb with rfl | rfl | rfl
 ·exact ⟨D.i2z,D.l2z⟩
 ·exact ⟨D.TOi2.symm,D.l2TO⟩
 ·exact ⟨D.i12.symm,D.l2i1⟩
theorem OF {z TI TO i1 i2 l1 l2:Addr} (D:ZipApart z TI TO i1 i2 l1 l2):∀ b∈[z],i1≠b/\l1≠b:=by
 intro b hb
 cases PB.mp hb
 exact ⟨D.i1z,D.l1z⟩
variable {B C:ZS K}
theorem yf {z TI TO i1 i2 l1 l2:Addr} (D:ZipApart z TI TO i1 i2 l1 l2)
 (hz:IsZip s.heap z TI TO .none) (hTI:IsPair s.heap TI (.ref i1) (.ref i2)) (hTO:IsPair s.heap TO a b) (h1:B.At i1 l1 xs k s.heap) (h2:C.At i2 l2 ys k s.heap) (hx:xs[k]?=some x) (hy:ys[k]?=some y)
 (q:∀ h',IsZip h' z TI TO (rawInt s.heap.objs.size)->IsPair h' TO x y->B.At i1 l1 xs (k+1) h'->C.At i2 l2 ys (k+1) h'->IsPair h' s.heap.objs.size x y ->
   (∀ c o,c≠z->c≠TO->c≠i1->c≠i2->s.heap.get? c=some o->h'.get? c=some o)->Q (some (.ref s.heap.objs.size)) { s with heap:=h' }):wpAny (model prog w) A (pyNext (.ref z)) Q E s:=by
 have hT:s.TypeIs (.ref z) "zip":=⟨_,hz,rfl⟩
 have up:∀ {B:ZS K} {i l:Addr} {us:Array Value} {k:Nat},i≠z->l≠z->∀ {h h':Heap},(∀ c o,c≠z->h.get? c=some o->h'.get? c=some o)->B.At i l us k h->B.At i l us k h':=λ{B} {_} {_} {_} {_} n1 n2 h h' e t=>⟨B.itk (λo=>e _ o n1) t.1,B.usk (λo=>e _ o n2) t.2⟩
 unfold pyNext
 exact O6 (RB (Q9 (name:=O5 "__next__") hT Us
  (QO Us hT F.entry_zip_next
    (BI ⟨D.TIz,D.TOz,D.i1z,D.i2z,D.TITO,D.TIi1,D.TIi2,D.TOi1,D.TOi2,D.i12⟩ hz hTI hTO
      (BJ (OZ D) D.l1i1 hx) (BJ (OE D) D.l2i2 hy) h1 h2
      (up D.i1z D.l1z) (up D.i2z D.l2z) λh' a1 a2 a3 a4 a5 a6=>O8 (q h' a1 a2 a3 a4 a5 a6)) (F.args_zip_next_1 _))))
theorem yg {z TI TO i1 i2 l1 l2:Addr} (hh:A.handled=none) (D:ZipApart z TI TO i1 i2 l1 l2)
 (hz:IsZip s.heap z TI TO .none) (hTI:IsPair s.heap TI (.ref i1) (.ref i2)) (hTO:IsPair s.heap TO a b) (h1:B.At i1 l1 xs k s.heap) (h2:C.At i2 l2 ys k s.heap) (hend:xs.size<=k\/ys.size<=k)
 (q:∀ h',(∀ c o,c≠z->c≠TO->c≠i1->c≠i2->s.heap.get? c=some o->h'.get? c=some o)->Q none { s with heap:=h' }):wpAny (model prog w) A (pyNext (.ref z)) Q E s:=by
 have hT:s.TypeIs (.ref z) "zip":=⟨_,hz,rfl⟩
 unfold pyNext
 refine O6 (RB (Q9 (name:=O5 "__next__") hT Us
  (QO Us hT F.entry_zip_next (EX (N1:=B.At i1 l1 xs k) (N2:=C.At i2 l2 ys k) hh ⟨D.TIz,D.TOz,D.i1z,D.i2z,D.TITO,D.TIi1,D.TIi2,D.TOi1,D.TOi2,D.i12⟩ hz hTI hTO ?_ h1 h2 λh' e hk he=>?_) (F.args_zip_next_1 _))))
 ·by_cases z:k<xs.size
  ·exact .inr ⟨_,_,BJ (OF D) D.l1i1 (PR z),GC (OE D) (U0 (by lia))⟩
  ·exact .inl (GC (OF D) (U0 (by lia)))
 ·obtain ⟨o,ho,hc⟩:=he
  refine O6 (Ug (T:="StopIteration") (b:=true) ⟨o,ho,hc⟩ isSubtype_stop ?_)
  exact O8 (q _ hk)
end
noncomputable def Jx {K:O7} (B C:ZS K) (l1 l2:Addr):It :=
 ⟨λi H=>∃ xs ys x y,B.sq H l1 xs/\C.sq H l2 ys/\xs[i]?=some x/\ys[i]?=some y,
  λi H v H'=>∃ p x y,v=.ref p/\H p=none/\H'=upd H p (.tup [x,y])/\(∀ xs,B.sq H l1 xs->xs[i]?=some x)/\∀ ys,C.sq H l2 ys->ys[i]?=some y,
  λi H=>∃ xs ys,B.sq H l1 xs/\C.sq H l2 ys/\(xs.length<=i\/ys.length<=i)⟩
theorem yh {P:Program} {w:World} {K:O7} {B C:ZS K} {elts:List Expr} {k:Nat} {pos:Pos} {z TI TO i1 i2 l1 l2:Addr} (D:ZipApart z TI TO i1 i2 l1 l2) :
 Turn P w K (.Tuple elts k pos) (Jx B C l1 l2) [z,TI,TO,i1,i2] z (λi h=>IsZip h z TI TO .none/\IsPair h TI (.ref i1) (.ref i2)/\(∃ a b,IsPair h TO a b)/\B.it h i1 l1 i/\C.it h i2 l2 i) where
 mem:=by simp
 obj:=λi h ⟨hz,hTI,⟨a,b,hTO⟩,h1,h2⟩ b hb=>by
  simp only [Pg,Qf,or_false] at hb
  rcases hb with rfl | rfl | rfl | rfl | rfl
  ·exact ⟨_,hz,λv q=>by have q':Tq _=Se v:=q; cases q'⟩
  ·exact ⟨_,hTI,λv q=>by have q':Data.seq _ _=Se v:=q; cases q'⟩
  ·exact ⟨_,hTO,λv q=>by have q':Data.seq _ _=Se v:=q; cases q'⟩
  ·exact B.ito h1
  ·exact C.ito h2
 keep:=λi h h' ⟨hz,hTI,⟨a,b,hTO⟩,h1,h2⟩ hk=>⟨hk z (by simp) _ hz,hk TI (by simp) _ hTI,⟨a,b,hk TO (by simp) _ hTO⟩,B.itk (hk i1 (by simp)) h1,C.itk (hk i2 (by simp)) h2⟩
 item:=by
  intro X hP hw hK hc i aa s σ H E I hf st hg
  obtain ⟨hz,hTI,⟨a,b,hTO⟩,h1,h2⟩:=st
  obtain ⟨xs,ys,x,y,q1,q2,hx,hy⟩:=hg
  obtain ⟨MU,Nf,p1⟩:=B.get hK I q1
  obtain ⟨its2,MV,p2⟩:=C.get hK I q2
  subst hP hw
  obtain ⟨u1,hu1,ru1⟩:=Nf.get hx
  obtain ⟨u2,hu2,ru2⟩:=MV.get hy
  refine yf D hz hTI hTO ⟨h1,p1⟩ ⟨h2,p2⟩ (x:=u1) (y:=u2) (by simpa using hu1) (by simpa using hu2) λh' a1 a2 a3 a4 a5 hk=>?_
  have Hp:H s.heap.objs.size=none:=I.hok.fresh (Pa _)
  have IA:Inv X aa σ (upd H s.heap.objs.size (.tup [x,y])) { s with heap:=s.heap.push { cls:=.type "tuple",data:=.seq #[u1,u2] },toks:=s.toks } :=
   I.laid (a:=s.heap.objs.size) (o:=.tup [x,y]) (λ_ _ q=>Pc _ q) (Pa _) ⟨by show 2<=sizeLine; decide,[u1,u2],.cons ru1 (.cons ru2 .nil),_,Pp _ rfl,rfl,0,rfl⟩
  have lt:∀ b∈[z,TI,TO,i1,i2],b<s.heap.objs.size:=λb hb=>by
   obtain ⟨o1,e1,_⟩:=B.ito h1
   obtain ⟨o2,e2,_⟩:=C.ito h2
   simp only [Pg,Qf,or_false] at hb
   rcases hb with rfl | rfl | rfl | rfl | rfl
   ·exact Pf hz
   ·exact Pf hTI
   ·exact Pf hTO
   ·exact Pf e1
   ·exact Pf e2
  have gf:∀ b∈[z,TI,TO,i1,i2],dR X aa (upd H s.heap.objs.size (.tup [x,y])) b:=λb hb=>⟨by rw [ah (PM (lt b hb))]; exact (hf b hb).1,(hf b hb).2⟩
  have I1:Inv X aa σ (upd H s.heap.objs.size (.tup [x,y])) { s with heap:=h',toks:=s.toks }:=gu (s:={ s with heap:=s.heap.push { cls:=.type "tuple",data:=.seq #[u1,u2] },toks:=s.toks }) (t':=s.toks) (h':=h') (L:=[z,TI,TO,i1,i2]) IA (λb o hb q=>by
   simp only [Pg,Qf,or_false,not_or] at hb
   by_cases e:b=s.heap.objs.size
   ·subst e
    rw [Pp _ rfl] at q; cases q; exact a5
   ·refine hk b o hb.1 hb.2.2.1 hb.2.2.2.1 hb.2.2.2.2 ?_
    rw [Vq _ _ _ e] at q; exact q) gf
  have b1:IsPair h' TI (.ref i1) (.ref i2):=hk _ _ D.TIz D.TITO D.TIi1 D.TIi2 hTI
  refine ⟨_,rfl,wpAny_letOwnedTupleGo_zip (s:={ s with heap:=h' }) a1 λh2' hz' hs'=>?_⟩
  refine ⟨.ref s.heap.objs.size,_,gu (s:={ s with heap:=h',toks:=s.toks }) (t':=s.toks) (h':=h2') (L:=[z,TI,TO,i1,i2]) I1 (λb o hb q=>hs'.extBut b o (λe=>hb (by simp [e])) q) gf,rfl,
   ⟨_,x,y,rfl,Hp,rfl,λxs' h=>by rw [B.inj hK I h q1]; exact hx,λys' h=>by rw [C.inj hK I h q2]; exact hy⟩,
   ⟨hz',hs'.extBut _ _ D.TIz b1,⟨_,_,hs'.extBut _ _ D.TOz a2⟩,B.itk (λo=>hs'.extBut _ o D.i1z) a3.1,C.itk (λo=>hs'.extBut _ o D.i2z) a4.1⟩,λb hb=>(gf b hb).1⟩
 done:=by
  intro X hP hw hK hc i aa s σ H E I hf st hg
  obtain ⟨hz,hTI,⟨a,b,hTO⟩,h1,h2⟩:=st
  obtain ⟨xs,ys,q1,q2,hend⟩:=hg
  obtain ⟨MU,Nf,p1⟩:=B.get hK I q1
  obtain ⟨its2,MV,p2⟩:=C.get hK I q2
  subst hP hw
  have l1:=Nf.length
  have l2:=MV.length
  refine yg (I.ok.hd hc) D hz hTI hTO ⟨h1,p1⟩ ⟨h2,p2⟩ (by simp; lia) λh' hk=>⟨rfl,gu (t':=s.toks) (L:=[z,TI,TO,i1,i2]) I (λb o hb q=>?_) hf⟩
  simp only [Pg,Qf,or_false,not_or] at hb
  exact hk b o hb.1 hb.2.2.1 hb.2.2.2.1 hb.2.2.2.2 q
 self:=λA i s Q E st h=>wpAny_pyIter_zip st.1 h
theorem yi {K:O7} {B C:ZS K} {Hf:Hp} {ds es:List D} {xs ys:List V} {l1 l2:Addr} (h1:B.sq Hf l1 xs) (r1:ak K Hf ds xs) (h2:C.sq Hf l2 ys) (r2:ak K Hf es ys):i8 K (Jx B C l1 l2) (jI ds es) Hf where
 go:=λi d H aR s1 s2 e=>by
  unfold jI at e
  rw [List.getElem?_zipWith_eq_some] at e
  obtain ⟨x,y,ex,ey,rfl⟩:=e
  obtain ⟨v1,f1,g1⟩:=r1.get ex
  obtain ⟨v2,f2,g2⟩:=r2.get ey
  have q1:=B.same (s1.trans s2) h1
  have q2:=C.same (s1.trans s2) h2
  refine ⟨⟨xs,ys,v1,v2,q1,q2,f1,f2⟩,λv H' ⟨p,x',y',e1,e2,e3,e4,e5⟩=>?_⟩
  have z1:=e4 xs q1
  have z2:=e5 ys q2
  rw [f1] at z1; cases z1
  rw [f2] at z2; cases z2
  subst e1 e3
  have g:=br.new s2 e2 (o:=.tup [v1,v2])
  exact ⟨upd aR p (.tup [v1,v2]),g,aG.mpr ⟨p,_,rfl,.inl (.inl af),.cons (Rep.mono (s1.trans g.f) _ g1) (.cons (Rep.mono (s1.trans g.f) _ g2) (aB.mpr rfl))⟩⟩
 stop:=λi H aR s1 s2 e=>⟨xs,ys,B.same (s1.trans s2) h1,C.same (s1.trans s2) h2,by
  rw [<- r1.length,<- r2.length]
  unfold jI at e
  rw [List.length_zipWith] at e
  lia⟩
noncomputable abbrev OG (c:String) (h:Heap) (l:Addr):Heap:=h.push { cls:=.type c,data:=.fields #[.ref l,.int 0 0] }
noncomputable abbrev OH (h:Heap) (a b:Value):Heap:=h.push { cls:=.type "tuple",data:=.seq #[a,b] }
section
variable (c d:String)
noncomputable abbrev M7 (h:Heap) (l1 _l2:Addr):Heap:=OG c h l1
noncomputable abbrev Mi (h:Heap) (l1 l2:Addr):Heap:=OG d (M7 c h l1 l2) l2
noncomputable abbrev M8 (h:Heap) (l1 l2:Addr):Heap:=OH (Mi c d h l1 l2) (.ref h.objs.size) (.ref (M7 c h l1 l2).objs.size)
noncomputable abbrev M9 (h:Heap) (l1 l2:Addr):Heap:=OH (M8 c d h l1 l2) .none .none
noncomputable abbrev GD (h:Heap) (l1 l2:Addr):Heap:=(M9 c d h l1 l2).push { cls:=.type "zip",data:=.fields #[.none,.bool false,.bool false,.ref (Mi c d h l1 l2).objs.size,.ref (M8 c d h l1 l2).objs.size] }
end
abbrev yj {K:O7} (B C:ZS K):Prop:=∀ (l1 l2:Addr) (xs ys:Array Value),Meets (Builtin.«zip.__new__» ⟨[.type "zip",.ref l1,.ref l2],[]⟩) (λ_ R s=>B.us s.heap l1 xs/\C.us s.heap l2 ys/\R (.ok (.ret (.ref (M9 B.cl C.cl s.heap l1 l2).objs.size))) { s with heap:=GD B.cl C.cl s.heap l1 l2 })
theorem BK (K):yj (Oe K) (Oe K):=λl1 l2 xs ys =>
 .of_wp λprog w A R s h=>by
  obtain ⟨hp,g,d,tk,os⟩:=s
  obtain ⟨e1,e2,h⟩:=h
  have hsub:=PySem.sub_zip
  have t1:IsTup (R9 ⟨hp,g,d,tk,os⟩) l1 xs:=e1
  have t2:IsTup (R9 ⟨hp.push { cls:=.type "tuple_iterator",data:=.fields #[.ref l1,.int 0 0] },g,d,tk,os⟩) l2 ys:=IsTup.push e2 _
  wp_walk using iter_tuple t1,iter_tuple t2
  exact ⟨_,rfl,h⟩
theorem BL (K):yj (Oe K) (Mh K):=λl1 l2 xs ys =>
 .of_wp λprog w A R s h=>by
  obtain ⟨hp,g,d,tk,os⟩:=s
  obtain ⟨e1,e2,h⟩:=h
  have hsub:=PySem.sub_zip
  have t1:IsTup (R9 ⟨hp,g,d,tk,os⟩) l1 xs:=e1
  have t2:Heap.IsList (R9 ⟨hp.push { cls:=.type "tuple_iterator",data:=.fields #[.ref l1,.int 0 0] },g,d,tk,os⟩) l2 ys:=(Mh K).usk (λo e=>Pc _ e) e2
  wp_walk using iter_tuple t1,Rv t2
  exact ⟨_,rfl,h⟩
theorem BN (K):yj (Mh K) (Mh K):=λl1 l2 xs ys =>
 .of_wp λprog w A R s h=>by
  obtain ⟨hp,g,d,tk,os⟩:=s
  obtain ⟨e1,e2,h⟩:=h
  have hsub:=PySem.sub_zip
  have t1:Heap.IsList (R9 ⟨hp,g,d,tk,os⟩) l1 xs:=e1
  have t2:Heap.IsList (R9 ⟨hp.push { cls:=.type "list_iterator",data:=.fields #[.ref l1,.int 0 0] },g,d,tk,os⟩) l2 ys:=(Mh K).usk (λo e=>Pc _ e) e2
  wp_walk using Rv t1,Rv t2
  exact ⟨_,rfl,h⟩
section
variable {K:O7}
theorem yk (M:yj B C) (e1:B.us s.heap l1 xs) (e2:C.us s.heap l2 ys)
 (h:∀ h',IsZip h' (s.heap.objs.size+4) (s.heap.objs.size+2) (s.heap.objs.size+3) .none->IsPair h' (s.heap.objs.size+2) (.ref s.heap.objs.size) (.ref (s.heap.objs.size+1)) ->
   IsPair h' (s.heap.objs.size+3) .none .none->B.it h' s.heap.objs.size l1 0->C.it h' (s.heap.objs.size+1) l2 0 ->
   (∀ c o,s.heap.get? c=some o->h'.get? c=some o)->Q (.ref (s.heap.objs.size+4)) { s with heap:=h' }):wpAny (model prog w) A (call (.type "zip") [.ref l1,.ref l2]) Q E s:=by
 refine callType_new F.called_zip (by decide) (F.typeCall_zip_2 _ _) (F.newCall_zip_2 _ _) (λobj=>F.args_object_init_3 obj _ _) F.entry_zip_new (M l1 l2 xs ys) ⟨e1,e2,?_⟩
 have z1:(M7 B.cl s.heap l1 l2).objs.size=s.heap.objs.size+1:=Q3 ..
 have z2:(Mi B.cl C.cl s.heap l1 l2).objs.size=s.heap.objs.size+2:=by rw [Q3,z1]
 have z3:(M8 B.cl C.cl s.heap l1 l2).objs.size=s.heap.objs.size+3:=by rw [Q3,z2]
 have z4:(M9 B.cl C.cl s.heap l1 l2).objs.size=s.heap.objs.size+4:=by rw [Q3,z3]
 have g5:(GD B.cl C.cl s.heap l1 l2).get? (M9 B.cl C.cl s.heap l1 l2).objs.size=some _:=Pp _ rfl
 have g4:(GD B.cl C.cl s.heap l1 l2).get? (M8 B.cl C.cl s.heap l1 l2).objs.size=some _:=Pc _ (Pp _ rfl)
 have g3:(GD B.cl C.cl s.heap l1 l2).get? (Mi B.cl C.cl s.heap l1 l2).objs.size=some _:=Pc _ (Pc _ (Pp _ rfl))
 have g2:(GD B.cl C.cl s.heap l1 l2).get? (M7 B.cl s.heap l1 l2).objs.size=some _:=Pc _ (Pc _ (Pc _ (Pp _ rfl)))
 have g1:(GD B.cl C.cl s.heap l1 l2).get? s.heap.objs.size=some _:=Pc _ (Pc _ (Pc _ (Pc _ (Pp _ rfl))))
 have q:=h (GD B.cl C.cl s.heap l1 l2)
 rw [<- z2,<- z3,<- z4] at q
 have pr:IsPair (GD B.cl C.cl s.heap l1 l2) (Mi B.cl C.cl s.heap l1 l2).objs.size (.ref s.heap.objs.size) (.ref (s.heap.objs.size+1)):=by rw [<- z1]; exact g3
 refine ⟨⟨_,g5,rfl⟩,q g5 pr g4 (B.ini g1) (C.ini (by rw [<- z1]; exact g2)) λc o x=>Pc _ (Pc _ (Pc _ (Pc _ (Pc _ x))))⟩
end
theorem apart_new {n l1 l2:Nat} (h1:l1<n) (h2:l2<n):ZipApart (n+4) (n+2) (n+3) n (n+1) l1 l2:=by
 constructor <;> first | exact PM (by lia) | exact RE (by lia)
noncomputable def Mj {K:O7} (B C:ZS K) (ta:TA):TI:=λσ H R=>ta σ H λvs H1=>∃ l1 l2 xs ys,vs=[.ref l1,.ref l2]/\B.sq H1 l1 xs/\C.sq H1 l2 ys/\R (Jx B C l1 l2) H1
theorem EZ {B C:ZS X.K} (M:yj B C) (hg:Gl X "zip") (hm:X.mg "zip"=none) (ha:PA X [a,b] ta) (hs:starEach [a,b] X.env=[(false,eval a X.env),(false,eval b X.env)]) (hs2:starEach [b] X.env=[(false,eval b X.env)]) :
 PI X (.Tuple elts kt tpos) (.Call (.Name "zip" p) [a,b] [] pos) (Mj B C ta):=by
 intro aa s σ H R I h
 refine Call_ (cW I hg hm EV.boot_zip (Si (bC (ha pos aa s σ H _ I h) λus s1 ⟨vs,H1,I1,r1,q1⟩=>?_) (by rw [hs,hs2]) (by rw [hs2]; rfl)))
 obtain ⟨l1,l2,xs,ys,e,q1,q2,q⟩:=q1
 subst e
 cases r1 with
 | cons r rr =>
  cases rr with
  | cons r' rr =>
   cases rr
   cases r
   cases r'
   obtain ⟨MU,Nf,p1⟩:=B.get rfl I1 q1
   obtain ⟨its2,MV,p2⟩:=C.get rfl I1 q2
   have b1:l1<s1.heap.objs.size:=by obtain ⟨_,e⟩:=B.uso p1; exact Pf e
   have b2:l2<s1.heap.objs.size:=by obtain ⟨_,e⟩:=C.uso p2; exact Pf e
   refine yk M p1 p2 λh' a1 a2 a3 a4 a5 hk=>wpAny_pyIter_zip a1 ?_
   refine ⟨s1.heap.objs.size+4,[s1.heap.objs.size+4,s1.heap.objs.size+2,s1.heap.objs.size+3,s1.heap.objs.size,s1.heap.objs.size+1],_,_,H1,rfl,I1.kept (t':=s1.toks) hk,yh (apart_new b1 b2),⟨a1,a2,⟨_,_,a3⟩,a4,a5⟩,λb hb=>?_,q⟩
   have hb':s1.heap.objs.size<=b:=by
    simp only [Pg,Qf,or_false] at hb
    rcases hb with rfl | rfl | rfl | rfl | rfl
    ·exact Rw _ _
    ·exact Rw _ _
    ·exact Rw _ _
    ·exact Pa _
    ·exact Rw _ _
   exact I1.j9 hb' (I1.hok.fresh hb')
section
variable {K:O7} {c:Ctx P w K mg base k N sc bk}
theorem tT {B C:ZS c.X.K} (M:yj B C) (hm:mg "zip"=none) (h:aL c a ρ λx=>aL c b ρ λy=>∃ ds es,x=B.dm ds/\y=C.dm es/\R (jI ds es)) (hg:sc.names.lookup (O5 "zip")=some .globalImplicit:=by walk_at "u")
 (hs:∀ env,starEach [a,b] env=(false,eval a env)::starEach [b] env:=by intro _; walk_at "u") (hs2:∀ env,starEach [b] env=(false,eval b env)::starEach [] env:=by intro _; walk_at "u"):uV c (.Tuple elts kt tpos) (.Call (.Name "zip" p) [a,b] [] pos) ρ R:=λσ H Hf Q S q aa s I =>
 EZ M (by unfold Gl P6; rw [c.esc]; exact hg) (by rw [c.emg]; exact hm) (bM c6 (bM c6 dD (hs2 _)) (hs _)) (by rw [hs,hs2]; rfl) (by rw [hs2]; rfl) aa s σ H Q I
  (h σ H Hf _ S λx v1 H1 aR h1 r1 g1=>h1 σ H1 aR _ (S.cD g1) λy v2 H2 cL ⟨ds,es,e1,e2,hR⟩ r2 g2=>by
    subst e1 e2
    rw [B.rep] at r1
    rw [C.rep] at r2
    obtain ⟨l1,xs,rfl,s1,t1⟩:=r1
    obtain ⟨l2,ys,rfl,s2,t2⟩:=r2
    have s1':=B.same g2.f s1
    exact ⟨l1,l2,xs,ys,rfl,B.same g2.b s1',C.same g2.b s2,q _ _ H2 cL hR (g1.trans g2) (yi s1' (t1.mono g2.f) s2 t2)⟩)
theorem Jy (hm:mg "zip"=none) (h:aL c a ρ λx=>aL c b ρ λy=>∃ ds es,x=.tup ds/\y=.tup es/\R (jI ds es)) (hg:sc.names.lookup (O5 "zip")=some .globalImplicit:=by walk_at "u")
 (hs:∀ env,starEach [a,b] env=(false,eval a env)::starEach [b] env:=by intro _; walk_at "u") (hs2:∀ env,starEach [b] env=(false,eval b env)::starEach [] env:=by intro _; walk_at "u"):uV c (.Tuple elts kt tpos) (.Call (.Name "zip" p) [a,b] [] pos) ρ R:=tT (BK _) hm h hg hs hs2
theorem Jz (hm:mg "zip"=none) (h:aL c a ρ λx=>aL c b ρ λy=>∃ ds es,x=.tup ds/\y=.lst es/\R (jI ds es)) (hg:sc.names.lookup (O5 "zip")=some .globalImplicit:=by walk_at "u")
 (hs:∀ env,starEach [a,b] env=(false,eval a env)::starEach [b] env:=by intro _; walk_at "u") (hs2:∀ env,starEach [b] env=(false,eval b env)::starEach [] env:=by intro _; walk_at "u"):uV c (.Tuple elts kt tpos) (.Call (.Name "zip" p) [a,b] [] pos) ρ R:=tT (BL _) hm h hg hs hs2
theorem GF (hm:mg "zip"=none) (h:aL c a ρ λx=>aL c b ρ λy=>∃ ds es,x=.lst ds/\y=.lst es/\R (jI ds es)) (hg:sc.names.lookup (O5 "zip")=some .globalImplicit:=by walk_at "u")
 (hs:∀ env,starEach [a,b] env=(false,eval a env)::starEach [b] env:=by intro _; walk_at "u") (hs2:∀ env,starEach [b] env=(false,eval b env)::starEach [] env:=by intro _; walk_at "u"):uV c (.Tuple elts kt tpos) (.Call (.Name "zip" p) [a,b] [] pos) ρ R:=tT (BN _) hm h hg hs hs2
end
end EV
namespace EV
open PySem PySem.Spec PyProof.Rows L2
theorem E0 (P) (w) (base) {K:O7} {st:Stmt} (D:ay K mg x st) (h:∀ {f:Addr} {fd:FuncData},dI K x x st f fd->bq P w K mg base (cK P w) k f fd ps (KA K ok))
 (hb:∀ (kV doc pm:Value) (an:Option Addr) (cdv ct:Value) (us:List Value),us.length=ps.length->bindArgs (Ri x x (d9 st) (aq st) (aO st) .none kV doc pm an cdv ct) ⟨us,[]⟩=pure (ps.zip us):=by intro _ _ _ _ _ _ us hl; first | (obtain ⟨a,rfl⟩:=IB us hl; rfl) | (obtain ⟨a,b,rfl⟩:=IC us hl; rfl) | (obtain ⟨a,b,c,rfl⟩:=ID us hl; rfl) | (obtain ⟨a,b,c,d,rfl⟩:=len4 us hl; rfl) | (obtain ⟨a,b,c,d,e,rfl⟩:=len5 us hl; rfl) | (obtain ⟨a,b,c,d,e,f,rfl⟩:=len6 us hl; rfl) | (obtain rfl:=len0 us hl; rfl)):Jp P w K mg base k x ok :=
 let ⟨f,fd,m,Fu⟩:=D; ⟨f,fd,ps,m,Fu.kp,Fu.binds hb,h Fu⟩
end EV
namespace EV
open PySem PySem.Spec PySem.Calls PyProof.Rows L2
structure Of (ρ:List Sl) (i:Nat) (s:Sh):Prop where
 hi:ρ[i]?=some (.fo s)
 ho:∀ {j:Nat} {r:Sl},j≠i->ρ[j]?=some r->r.F4=false\/∃ L0 L:List (Addr×List D),s=.t (gP L0)/\r=.fo (.t (gP L))/\∀ x∈L,∀ y∈L0,x.1≠y.1
section
variable {K:O7}
theorem ai.addrs:∀ {L:List (Addr×List D)} {vs:List V} {fp:Fp},ai K H Hf (gP L) vs fp->fp.map (·.1)=L.map (·.1)
 | [],_,_,h=>by simp only [gP,Qv,ai] at h; rw [h.2]; rfl
 | x::L,_,_,h=>by
  have h':ai K H Hf (.la x.1 x.2::gP L) _ _:=h
  simp only [ai] at h'
  obtain ⟨y,r,f1,f2,rfl,h1,h2,rfl⟩:=h'
  simp only [aP] at h1
  obtain ⟨xs,rfl,q1,q2,q3,rfl⟩:=h1
  rw [Px,ai.addrs h2]; rfl
theorem aP.addrs (h:aP K H Hf (.t (gP L)) v fp):fp.map (·.1)=L.map (·.1):=by
 simp only [aP] at h
 obtain ⟨a,xs,e,h1,h2⟩:=h
 exact ai.addrs h2
theorem BO (hr:r.F4=false\/∃ L0 L:List (Addr×List D),s=.t (gP L0)/\r=.fo (.t (gP L))/\∀ x∈L,∀ y∈L0,x.1≠y.1)
 (rf:aP K H Hf s v0 fp) (sf:aM Hf aj) (hk:∀ a o,¬ a∈fp.map (·.1)->H a=some o->Hf a=none->H' a=some o/\aj a=none) (e2:aY K fr H Hf r v):aY K fr H' aj r v:=by
 have hz:=aP.fz s rf
 rcases hr with hr | ⟨L0,L,rfl,rfl,hd⟩
 ·refine aY.mv (B:=λa=>a∈fp.map (·.1)) sf (λa o hm e1 _ e3=>hk a o hm e1 e3) (λhf=>by rw [hr] at hf; cases hf) (λow a e m=>?_) e2
  subst e
  obtain ⟨_,_,e,_,_,_,nf⟩:=e2.qp ow
  cases e
  obtain ⟨p,hp,rfl⟩:=bV m
  exact nf ⟨p.2,(hz p hp).1⟩
 ·obtain ⟨fp2,r2,nd,f2⟩:=e2
  refine ⟨fp2,aP.mv sf _ (λq hq e1 e3=>hk q.1 _ (λm=>?_) e1 e3) r2,nd,f2⟩
  rw [rf.addrs] at m
  have m2:q.1∈L.map (·.1):=by rw [<- r2.addrs]; exact Pr.mpr ⟨q,hq,rfl⟩
  obtain ⟨y,hy,ey⟩:=Pr.mp m
  obtain ⟨x,hx,ex⟩:=Pr.mp m2
  exact hd x hx y hy (ex.trans ey.symm)
theorem cH.Ml (S:cH K H₀ c9 σ H Hf ρ) (h:Of ρ i s) (rf:aP K H Hf s v fp) (fr:∀ a∈fp,H₀ a.1=none) (g:br (jJ H fp) Hf H1 aR):cH K H₀ c9 σ H1 aR (ρ.set i .un):=by
 obtain ⟨hi,ho⟩:=h
 have fr_in:∀ {b:Addr},b∈fp.map (·.1)->H₀ b=none:=λm=>by obtain ⟨p,hp,rfl⟩:=bV m; exact fr p hp
 have s0:aM H₀ (jJ H fp):=λb o e=>by rw [cU λm=>by rw [fr_in m] at e; cases e]; exact S.bas.s b o e
 refine ⟨⟨s0.trans g.s,S.bas.f.trans g.f,g.b,λb h1 h2 h3=>?_⟩,by simp [S.len],λj r hj hu=>?_,λj j' r r' q hne h1 h2 o1 o2=>?_⟩
 ·cases z:H₀ b with
  | none=>exact absurd z h2
  | some o1 =>
   have e1:=s0 b o1 z
   exact g.n b (S.bas.n b h1 h2 h3) (by rw [e1]; simp) λxs=>by rw [e1,<- z]; exact h3 xs
 ·rcases bg hj with ⟨_,rfl⟩ | ⟨q,hj⟩
  ·exact absurd rfl hu
  ·obtain ⟨v,e1,e2⟩:=S.at_ j r hj hu
   have e3:aY K (λp=>H₀ p=none) (jJ H fp) Hf r v:=BO (ho q hj) rf (.refl _) (λa o hm e1 e3=>⟨by rw [cU hm]; exact e1,e3⟩) e2
   exact ⟨v,e1,e3.cD g⟩
 ·have out:∀ {j:Nat} {r:Sl},(ρ.set i .un)[j]?=some r->r.owned=true->ρ[j]?=some r:=λ{j r} hj ho=>by
   rcases bg hj with ⟨_,rfl⟩ | ⟨_,hj⟩
   ·cases ho
   ·exact hj
  exact S.sep j j' r r' q hne (out h1 o1) (out h2 o2) o1 o2
end
section
variable {K:O7}
end
section
variable {K:O7}
theorem ai.lose:∀ {pre post:List Sh} {xs:List V} {fq:Fp},ai K H Hf (pre++.t ts::post) xs fq ->
 ∃ (a:Addr) (f1 f2 f3:Fp),fq=f1++(f2++f3)/\xs[pre.length]?=some (.ref a)/\aP K H Hf (.t ts) (.ref a) f2 /\
  ∀ {H' aj:Hp},aM Hf aj->(∀ q∈f1++f3,H q.1=some (pl q.1 q.2)->Hf q.1=none->H' q.1=some (pl q.1 q.2)/\aj q.1=none)->ai K H' aj (pre++.v (.adr a)::post) xs (f1++f3)
 | [],post,_,_,h=>by
  simp only [Q6,ai] at h
  obtain ⟨x,r,f1,f2,rfl,h1,h2,rfl⟩:=h
  have h1':=h1
  simp only [aP] at h1'
  obtain ⟨a,xs,rfl,_,_⟩:=h1'
  refine ⟨a,[],f1,f2,rfl,rfl,h1,λsf hk=>?_⟩
  simp only [Q6,ai]
  exact ⟨_,r,[],f2,rfl,by simp only [aP]; exact ⟨dU.mpr rfl,trivial⟩,ai.mv sf post hk h2,rfl⟩
 | s::pre,post,_,_,h=>by
  simp only [QG,ai] at h
  obtain ⟨x,r,g1,g2,rfl,h1,h2,rfl⟩:=h
  obtain ⟨a,f1,f2,f3,rfl,e,h3,h4⟩:=ai.lose h2
  refine ⟨a,g1++f1,f2,f3,by rw [Pz],by simpa using e,h3,λsf hk=>?_⟩
  simp only [QG,ai]
  exact ⟨x,r,g1,f1++f3,rfl,aP.mv sf s (λq hq=>hk q (by rw [Pz]; exact QM _ hq)) h1,h4 sf λq hq=>hk q (by rw [Pz]; exact P9 _ hq),by rw [Pz]⟩
end
section
variable {K:O7}
theorem BP (h:Bv c es ρ λss=>Sd (ss.length<=sizeLine) (R (.fo (.ls ss)))):cV c (.List es pos) ρ R:=λσ H Hf Q S q aa s I=>by
 refine bC (bK (Q:=λv H2=>∃ (ss:List Sh) (vs:List V) (fp:Fp) (H' aj:Hp) (p:Addr),v=.ref p/\H2=upd H' p (.lst vs)/\H' p=none/\R (.fo (.ls ss))/\ai c.X.K H' aj ss vs fp/\(fp.map (·.1)).Nodup/\(∀ a∈fp,H a.1=none)/\br H Hf H' aj) (zd CU) (h σ H Hf _ S λss vs fp H' aj ⟨hl,hR⟩ r nd fr g=>⟨by rw [<- ai.len r]; exact hl,λp hp=>⟨ss,vs,fp,H',aj,p,rfl,rfl,hp,hR,r,nd,fr,g⟩⟩) aa s I) λu s1 hh=>z2 hh λv H1 hh=>w3 hh λI1 rv hh=>v6 hh λss vs fp H' aj p hh=>w8 hh λe1 e2 hp hR r nd fr g=>?_
 subst e1 e2
 have hz:=ai.fz ss r
 have hne:∀ a∈fp,a.1≠p:=λa ha z=>by have:=(hz a ha).1; rw [z,hp] at this; cases this
 have I2:Inv c.X aa σ (upd H' p (pl p vs)) s1:=by
  have:=fH I1 af
  rwa [jO] at this
 refine ⟨_,_,I2,rv,q (.fo (.ls ss)) _ _ aj hR ⟨(p,vs)::fp,?_,?_,λb hb=>?_⟩ (g.trans (br.eU g.b hp))⟩
 ·simp only [aP]
  exact ⟨p,vs,fp,rfl,af,g.b.free hp,ai.mv (.refl _) ss (λa ha e1 e2=>⟨by rw [ah (hne a ha)]; exact e1,e2⟩) r,rfl⟩
 ·rw [Pd,Qu]
  exact ⟨λm=>by obtain ⟨a,ha,ea⟩:=Pr.mp m; exact hne a ha ea,nd⟩
 ·rcases Pg.mp hb with rfl | hb
  ·exact g.s.free hp
  ·exact fr b hb
end
theorem rL (h:H p=some u):upd (upd H p o) p u=H:=by
 funext b
 by_cases e:b=p
 ·subst e; rw [af,h]
 ·rw [ah e,ah e]
noncomputable def OI (p:Addr) (xs:List V):It :=
 ⟨λi H=>H p=some (pl p xs)/\i<xs.length,λi H x H'=>H'=H/\xs[i]?=some x,λi H=>H p=some (pl p xs)/\xs.length<=i⟩
theorem E1 {P:Program} {w:World} {K:O7} {tg:Expr} (p:Addr) (xs:List V) (it:Addr):Turn P w K tg (OI p xs) [it] it (λi h=>h.IsListIter it p i) where
 mem:=(cX (P:=P) (w:=w) (K:=K) (tg:=tg) p it).mem
 obj:=(cX (P:=P) (w:=w) (K:=K) (tg:=tg) p it).obj
 keep:=(cX (P:=P) (w:=w) (K:=K) (tg:=tg) p it).keep
 item:=by
  intro X hP hw hK hc i aa s σ H E I hf st ⟨hp,hx⟩
  have hne:∀ b∈[it],b≠p:=λb hb e=>by have:=(hf b hb).1; rw [e,hp] at this; cases this
  have hf':∀ b∈[it],dR X aa (upd H p (.lst xs)) b:=λb hb=>⟨by rw [ah (hne b hb)]; exact (hf b hb).1,(hf b hb).2⟩
  refine bC ((cX p it).item X hP hw hK hc i aa s σ _ E (gO I hp) hf' st ⟨xs,xs[i],.of af,PU hx⟩) λr s1 ⟨u,hr,h4⟩=>⟨u,hr,bC h4 λ_ s2 ⟨x,H',I',rx,⟨e,hy⟩,st',fr⟩=>?_⟩
  subst e
  refine ⟨x,H,?_,rx,⟨rfl,hy xs (.of af)⟩,st',λb hb=>(hf b hb).1⟩
  have I2:=fH I' af
  rwa [rL hp] at I2
 done:=by
  intro X hP hw hK hc i aa s σ H E I hf st ⟨hp,hx⟩
  have hne:∀ b∈[it],b≠p:=λb hb e=>by have:=(hf b hb).1; rw [e,hp] at this; cases this
  have hf':∀ b∈[it],dR X aa (upd H p (.lst xs)) b:=λb hb=>⟨by rw [ah (hne b hb)]; exact (hf b hb).1,(hf b hb).2⟩
  refine bC ((cX (tg:=tg) p it).done X hP hw hK hc i aa s σ _ E (gO I hp) hf' st ⟨xs,.of af,hx⟩) λr s1 ⟨hr,I'⟩=>⟨hr,?_⟩
  have I2:=fH I' af
  rwa [rL hp] at I2
 self:=(cX (P:=P) (w:=w) (K:=K) (tg:=tg) p it).self
noncomputable def Mm:R2:=λx y H Q=>∃ l b xs zs,x=.ref l/\y=.ref b/\l≠b/\H l=some (pl l xs)/\H b=some (pl b zs)/\xs.length+zs.length<=sizeLine/\∀ p,H p=none->Q (.ref p) (upd H p (pl p (xs++zs)))
theorem E2:fL X (binaryOp .Add) Mm:=by
 intro aa s σ H x y v u Q I rx ry ⟨l,b,xs,zs,ex,ey,hne,h1,h2,hz,q⟩
 have h2':upd H l (.lst xs) b=some (pl b zs):=by rw [ah (Py hne)]; exact h2
 refine bC (uT aa s σ _ x y v u (λv H'=>∃ p,v=.ref p/\H p=none/\H'=upd (upd (upd H l (.lst xs)) b (.lst zs)) p (.lst (xs++zs))) (gO (gO I h1) h2') rx ry ⟨l,b,xs,zs,ex,ey,.of (by rw [ah hne]; exact af),.of af,hz,λp hp=>⟨p,rfl,?_,rfl⟩⟩) λu s1 ⟨v,H',I',rv,p,ev,hp,eH⟩=>?_
 ·by_cases e1:p=b
  ·subst e1; rw [af] at hp; cases hp
  ·rw [ah e1] at hp
   by_cases e2:p=l
   ·subst e2; rw [af] at hp; cases hp
   ·rw [ah e2] at hp; exact hp
 ·subst eH
  have nl:l≠p:=λe=>by rw [e,hp] at h1; cases h1
  have nb:b≠p:=λe=>by rw [e,hp] at h2; cases h2
  have J1:=fH I' (a:=p) af
  have J2:=fH J1 (a:=b) (xs:=zs) (by rw [ah nb,ah nb]; exact af)
  have J3:=fH J2 (a:=l) (xs:=xs) (by rw [ah hne,ah nl,ah nl,ah hne]; exact af)
  refine ⟨v,_,J3,rv,?_⟩
  have e:upd (upd (upd (upd (upd (upd H l (.lst xs)) b (.lst zs)) p (.lst (xs++zs))) p (pl p (xs++zs))) b (pl b zs)) l (pl l xs)=upd H p (pl p (xs++zs)):=by
   funext a
   by_cases e1:a=l
   ·subst e1; rw [af,ah nl]; exact h1.symm
   ·rw [ah e1]
    by_cases e2:a=b
    ·subst e2; rw [af,ah nb]; exact h2.symm
    ·rw [ah e2]
     by_cases e3:a=p
     ·subst e3; rw [af,af]
     ·rw [ah e3,ah e3,ah e2,ah e1,ah e3]
  rw [e,ev]
  exact q p hp
section
variable {K:O7}
theorem ai.app:∀ {ss ts:List Sh} {xs ys:List V} {f1 f2:Fp},ai K H Hf ss xs f1->ai K H Hf ts ys f2->ai K H Hf (ss++ts) (xs++ys) (f1++f2)
 | [],_,_,_,_,_,h1,h2=>by
  simp only [ai] at h1
  obtain ⟨rfl,rfl⟩:=h1
  exact h2
 | s::ss,_,_,_,_,_,h1,h2=>by
  simp only [ai] at h1
  obtain ⟨x,r,g1,g2,rfl,a,b,rfl⟩:=h1
  simp only [QG,ai]
  exact ⟨x,_,g1,_,rfl,a,ai.app b h2,by rw [Pz]⟩
theorem cH.drop (S:cH K H₀ c9 σ H Hf ρ) (i):cH K H₀ c9 σ H Hf (ρ.set i .un):=by
 have out:∀ {j:Nat} {r:Sl},(ρ.set i .un)[j]?=some r->r≠.un->ρ[j]?=some r:=λ{j r} hj ho=>by
  rcases bg hj with ⟨_,rfl⟩ | ⟨_,hj⟩
  ·exact absurd rfl ho
  ·exact hj
 exact ⟨S.bas,by simp [S.len],λj r hj hu=>S.at_ j r (out hj hu) hu,λj j' r r' q hne h1 h2 o1 o2=>S.sep j j' r r' q hne (out h1 (by rintro rfl; cases o1)) (out h2 (by rintro rfl; cases o2)) o1 o2⟩
theorem cH.Mn (S:cH K H₀ c9 σ H Hf ρ) (rf:aP K H Hf s v fp) (nd:(fp.map (·.1)).Nodup) (fr:∀ a∈fp,H₀ a.1=none):cH K H₀ c9 (σ.set i (some v)) H Hf (ρ.set i (.fo s)):=by
 refine ⟨S.bas,by simp [S.len],λj r hj hu=>?_,λj j' r r' q hne h1 h2 o1 o2=>?_⟩
 ·rcases bg hj with ⟨rfl,rfl⟩ | ⟨q,hj⟩
  ·have hlt:j<σ.length:=by
    have:=(Ph.mp hj).1
    rw [S.len]; simpa using this
   exact ⟨v,Qm hlt,fp,rf,nd,fr⟩
  ·obtain ⟨v',e1,e2⟩:=S.at_ j r hj hu
   exact ⟨v',by rw [Qe (Py q)]; exact e1,e2⟩
 ·have out:∀ {j:Nat} {r:Sl},(ρ.set i (.fo s))[j]?=some r->r.owned=true->j≠i/\ρ[j]?=some r:=λ{j r} hj ho=>by
   rcases bg hj with ⟨_,rfl⟩ | ⟨q,hj⟩
   ·cases ho
   ·exact ⟨q,hj⟩
  obtain ⟨a1,b1⟩:=out h1 o1
  obtain ⟨a2,b2⟩:=out h2 o2
  rw [Qe (Py a1),Qe (Py a2)]
  exact S.sep j j' r r' q hne b1 b2 o1 o2
end
section
variable {K:O7} {c:Ctx P w K mg base k N sc bk}
theorem JA (hN:At N i y) (h1:At ρ i (.fo (.ls ss))) (h:cV c e ρ λr=>∃ ts,r=.fo (.ls ts)/\ss.length+ts.length<=sizeLine/\Nx ρ i nx (.fo (.ls (ss++ts))))
 (hd:(y == ("__debug__":Str))=false:=by decide) (hcd:(y == ("__classdict__":Str))=false:=by decide)
 (hs:∀ env,swapsWith (.BinOp (.Name y py) .Add e bp) (some (.Name y pos2)) pos.line env=pure false:=by intro _; walk_at "u") (hf:bk=false\/sc.names.lookup y=some .local:=by first | exact .inl rfl | exact .inr (by walk_at "u")):eV c (.Assign [.Name y pos2] (.BinOp (.Name y py) .Add e bp) pos) ρ nx p:=λσ H Hf D S o=>by
 obtain ⟨v,ev,fp,rf,nd,hfr⟩:=S.at_ i _ h1.get (by intro z; cases z)
 have hz:=aP.fz _ rf
 have rf':=rf
 simp only [aP] at rf'
 obtain ⟨l,xs,fq,rfl,hp,hpf,rfs,rfl⟩:=rf'
 refine dW (yW (X:=c.X) (i:=i) (by rw [c.eN]; exact c.nd) (by rw [c.eN]; exact hN.get) (by rw [c.esc]; exact c.vis y hN.mem) (uw E2 (c.i9 hN hd hcd) c6) (hs _) (c.fn y hf)) ?_
 refine ⟨_,ev,λaa s I=>bC (h σ H Hf (λv H'=>∃ ts aj,aY c.X.K (λp=>H p=none) H' aj (.fo (.ls ts)) v/\br H Hf H' aj/\ss.length+ts.length<=sizeLine/\Nx ρ i nx (.fo (.ls (ss++ts)))) S (λr v H' aj ⟨ts,e,hl,hR⟩ rs g=>⟨ts,aj,by rw [<- e]; exact rs,g,hl,hR⟩) aa s I) λu s1 ⟨v,H1,I1,rv,ts,aR,rs,g,hl,hR⟩=>?_⟩
 obtain ⟨gp,rg,ng,fg⟩:=rs
 have hw:=aP.fz _ rg
 simp only [aP] at rg
 obtain ⟨b,zs,gq,rfl,hb,hbf,rgs,rfl⟩:=rg
 have hl1:H1 l=some (pl l xs):=g.s _ _ hp
 have lb:l≠b:=λe=>by have:=fg (b,zs) Po; rw [<- e,hp] at this; cases this
 refine ⟨_,_,I1,rv,l,b,xs,zs,rfl,rfl,lb,hl1,hb,by rw [<- ai.len rfs,<- ai.len rgs]; exact hl,λq hq=>?_⟩
 obtain ⟨ρ',hs',hx⟩:=hR
 refine o.nx _ _ aR ρ' ?_ hx
 rw [hs'.eq]
 have g2:br H1 aR (upd H1 q (pl q (xs++zs))) aR:=br.eU g.b hq
 have hqf:aR q=none:=g.b.free hq
 have r1:ai c.X.K H1 aR ss xs fq:=ai.mv g.f ss (λa ha e1 e2=>⟨g.s _ _ e1,g.n a.1 e2 (by rw [e1]; simp) (by intro ys z; rw [e1] at z; cases z)⟩) rfs
 have mvq:∀ {ts:List Sh} {ys:List V} {f:Fp},ai c.X.K H1 aR ts ys f->ai c.X.K (upd H1 q (pl q (xs++zs))) aR ts ys f:=λ{ts ys f} r=>ai.mv (.refl _) ts (λa ha e1 e2=>⟨g2.s _ _ e1,e2⟩) r
 have old:∀ a∈fq,H a.1≠none:=λa ha z=>by have:=(hz a (Pj _ ha)).1; rw [z] at this; cases this
 have old1:∀ a∈fq++gq,H1 a.1≠none:=λa ha z=>by
  rcases PD.mp ha with ha | ha
  ·have:=g.s _ _ (hz a (Pj _ ha)).1; rw [z] at this; cases this
  ·have:=(hw a (Pj _ ha)).1; rw [z] at this; cases this
 refine cH.Mn (S.cD (g.trans g2)) (fp:=(q,xs++zs)::(fq++gq)) ?_ ?_ λa ha=>?_
 ·simp only [aP]
  exact ⟨q,xs++zs,fq++gq,rfl,af,hqf,(mvq r1).app (mvq rgs),rfl⟩
 ·rw [Pd,Qu,Px,Rf]
  rw [Pd,Qu] at nd ng
  refine ⟨λmm=>?_,nd.2,ng.2,λa ha b' hb' e=>?_⟩
  ·rw [<- Px] at mm
   obtain ⟨a,ha,ea⟩:=bV mm
   exact old1 a ha (by rw [ea]; exact hq)
  ·subst e
   obtain ⟨a1,ha1,ea⟩:=bV ha
   obtain ⟨a2,ha2,eb⟩:=bV hb'
   exact old a1 ha1 (by rw [ea,<- eb]; exact fg a2 (Pj _ ha2))
 ·rcases Pg.mp ha with rfl | ha
  ·exact S.bas.s.free (g.s.free hq)
  ·rcases PD.mp ha with ha | ha
   ·exact hfr a (Pj _ ha)
   ·exact S.bas.s.free (fg a (Pj _ ha))
theorem JB (h:Jp P w K mg base j x ok) (hj:j<=k) (hq:c.X.xe=λ_ _=>False) (hN:At N i y) (hNz:At N m z) (h1:ly ρ i (.ls ss)) (hm:At ρ m r0) (him:i≠m) (hok:∀ s∈ss,∃ ts,s=.t ts/\ok s) (hn:nx ((ρ.set i .un).set m .un))
 (hg:sc.names.lookup x=some .globalImplicit:=by walk_at "u") (hdb:(x == ("__debug__":Str))=false:=by decide) (hd:(y == ("__debug__":Str))=false:=by decide) (hcd:(y == ("__classdict__":Str))=false:=by decide) (hdz:(z == ("__debug__":Str))=false:=by decide) (hcdz:(z == ("__classdict__":Str))=false:=by decide)
 (he:∀ env,starEach [.Name z sp] env=(false,eval (.Name z sp) env)::starEach [] env:=by intro _; walk_at "u")
 (hpl:∀ env,(backTo cp (starEach [] env)).any (·.1)=false:=by intro _; walk_at "u")
 (hs:∀ env,swapsWith (.Call (.Name x px) [.Name z sp] [] cp) none pos2.line env=pure false:=by intro _; walk_at "u")
 (hsi:∀ env x,foldedSetIterable (.Name y py) env x=pure x:=by intro _ _; walk_at "u") (hf:bk=false\/sc.names.lookup z=some .local:=by first | exact .inl rfl | exact .inr (by walk_at "u")) :
 eV c (.For (.Name z pz) (.Name y py) [.Expr (.Call (.Name x px) [.Name z sp] [] cp) pos2] [] pos) ρ nx p:=λσ H Hf D S o=>by
 obtain ⟨hi,ho⟩:=h1.at_
 obtain ⟨v,ev,fp,rf,nd,hfr⟩:=S.at_ i _ hi (by intro z; cases z)
 have rf':=rf
 simp only [aP] at rf'
 obtain ⟨p0,xs,fq,rfl,hp,hpf,rfs,rfl⟩:=rf'
 have hl:=ai.len rfs
 refine dW (yZ (by rw [hq]; exact PassesOwn.never) c.calm OC (jQ (X:=c.X) (i:=m) (by rw [c.eN]; exact c.nd) (by rw [c.eN]; exact hNz.get) (by rw [c.esc]; exact c.vis z hNz.mem) (c.fn z hf)) nW (hsi _)) ?_
 show bI c.X _ _ σ H _
 intro aa s I
 refine bC ((c.i9 hN hd hcd) aa s σ H (λv H1=>v=.ref p0/\H1=H) I ⟨_,ev,rfl,rfl⟩) λu s1 ⟨v,H1,I1,rv,e1,e2⟩=>?_
 subst e1 e2
 cases rv
 obtain ⟨its,MV,ML,hz2⟩:=(gO I1 hp).list (fk.of af)
 refine Rv ML.isList ?_
 refine ⟨s1.heap.objs.size,[s1.heap.objs.size],_,OI p0 xs,H1,rfl,I1.kept (t':=s1.toks) λb o e=>Pc _ e,E1 p0 xs _,⟨_,Pp _ rfl,rfl,rfl⟩,λb hb=>?_,?_⟩
 ·have e:b=s1.heap.objs.size:=by simpa using hb
  subst e
  exact I1.j9 (Pa _) (I1.hok.fresh (Pa _))
 let W:Nat->L2.St->Hp->Prop:=λt σ' H'=>∃ (aj:Hp) (pre:List Sh) (fq':Fp),pre.length=t/\σ'[i]?=some (some (.ref p0))/\H' p0=some (pl p0 xs)/\aj p0=none/\ai c.X.K H' aj (pre++ss.drop t) xs fq'/\(((p0,xs)::fq').map (·.1)).Nodup/\(∀ a∈(p0,xs)::fq',c.B a.1=none)/\bB c σ' H' aj ((ρ.set i .un).set m .un)
 refine ⟨λt n σ' H'=>n=ss.length - t/\t<=ss.length/\W t σ' H',⟨_,rfl,PY _,Hf,[],fq,rfl,ev,hp,hpf,rfs,nd,hfr,(S.drop i).drop m⟩,?_⟩
 rintro t n σ' H' ⟨rfl,ht,aj,pre,fq',hpl',ev',hp',hpf',rfs',nd',fr',S'⟩
 by_cases hlt:t<ss.length
 ·refine .inr ⟨⟨hp',by rw [<- hl]; exact hlt⟩,W (t+1),λσ2 H2 hW=>⟨_,by omega,rfl,hlt,hW⟩,λxv H2 ⟨eH,hx⟩=>?_⟩
  subst eH
  have hd0:ss.drop t=ss[t]::ss.drop (t+1):=TL hlt
  obtain ⟨ts,ets,hokt⟩:=hok ss[t] (Qa hlt)
  rw [hd0,ets] at rfs'
  rw [ets] at hokt
  obtain ⟨a,f1,f2,f3,rfl,ea,rt,hmv⟩:=ai.lose rfs'
  rw [hpl',hx] at ea
  obtain rfl:xv=.ref a:=QS ea
  have hz2:=aP.fz _ rt
  have in2:∀ {b:Addr×List V},b∈f2->b∈(p0,xs)::(f1++(f2++f3)):=λhb=>Pj _ (P9 _ (QM _ hb))
  have nd2:(f2.map (·.1)).Nodup:=by
   rw [Pd,Qu,Px,Rf,Px,Rf] at nd'
   exact nd'.2.2.1.1
  have out2:∀ b∈(p0,xs)::(f1++f3),b.1∉f2.map (·.1):=λb hb m=>by
   obtain ⟨q,hq,eq⟩:=Pr.mp m
   rw [Pd,Qu,Px,Rf,Px,Rf] at nd'
   obtain ⟨n1,n2,⟨n3,n4,n5⟩,n6⟩:=nd'
   rcases Pg.mp hb with rfl | hb
   ·exact n1 (P9 _ (QM _ (by rw [<- eq]; exact Pr.mpr ⟨q,hq,rfl⟩)))
   ·rcases PD.mp hb with hb | hb
    ·exact n6 _ (Pr.mpr ⟨b,hb,rfl⟩) _ (QM _ (Pr.mpr ⟨q,hq,rfl⟩)) eq.symm
    ·exact n5 _ (Pr.mpr ⟨q,hq,rfl⟩) _ (Pr.mpr ⟨b,hb,rfl⟩) eq
  have nd13:((p0,xs)::(f1++f3)).map (·.1) |>.Nodup:=by
   refine Tu.sublist ?_ nd'
   refine Ti.map _ (Ti.cons₂ _ (Ti.append_left ?_ _))
   exact List.sublist_append_right _ _
  have hml:m<σ'.length:=by
   rw [S'.len,S9,S9]; exact (Ph.mp hm.get).1
  have S1:=S'.Mn (i:=m) rt nd2 λb hb=>fr' b (in2 hb)
  rw [List.set_set] at S1
  refine sO (Dh (jP c6 (hs _))) (show bE c.X _ (σ'.set m (some (.ref a))) H2 (λ_ H3=>W (t+1) (σ'.set m (some (.ref a))) H3) from λaa s' I=>?_)
  obtain ⟨f,fd,ps,hm',hk,hb,hF⟩:=h.ex
  refine Q5 (gW I (by unfold Gl P6; rw [c.esc]; exact hg) (by rw [c.emg]; exact hm') ?_ hdb)
  have hA:bA c.X [.Name z sp] (σ'.set m (some (.ref a))) H2 (λvs H1=>vs=[.ref a]/\H1=H2):=mO (bM (c.i9 hNz hdz hcdz) dD (he _)) ⟨_,Qm hml,rfl,rfl⟩
  refine T7 (h₀:=c.X.base) I.ok.mod.kin (by rw [c.eK]; exact hk) (bC (hA cp aa s' I) λus s1 ⟨vs,H1,I1,rv,e1,e2⟩=>⟨I1.nL,?_⟩) (he _) (hpl _)
  subst e1 e2
  have hF2:bq c.X.prog c.X.w c.X.K c.X.mg c.X.base (cK c.X.prog c.X.w) k f fd ps (KA c.X.K ok):=by rw [c.eP,c.ew,c.eK,c.emg,c.eb]; exact hF.mono hj
  have pU:KA c.X.K ok [.ref a] H1 (λ_ H3=>W (t+1) (σ'.set m (some (.ref a))) H3) (λ_ _ _=>False):=by
   refine ⟨aj,.t ts,.ref a,f2,rfl,S'.sb,rt,nd2,hokt,λH3 Hf3 g=>?_⟩
   have keep:∀ b∈(p0,xs)::(f1++f3),∀ {u:HO},H1 b.1=some u->H3 b.1=some u:=λb hb u e=>g.s _ _ (by rw [cU (out2 b hb)]; exact e)
   have kf:∀ b∈(p0,xs)::(f1++f3),H1 b.1=some (pl b.1 b.2)->aj b.1=none->Hf3 b.1=none:=λb hb e1 e2=>g.n b.1 e2 (by rw [cU (out2 b hb),e1]; simp) (by intro ys z; rw [cU (out2 b hb),e1] at z; cases z)
   refine ⟨Hf3,pre++[.v (.adr a)],f1++f3,by rw [P0,hpl']; rfl,by rw [Qe (Py him)]; exact ev',keep _ Po hp',kf _ Po hp' hpf',?_,nd13,λb hb=>fr' b ?_,?_⟩
   ·rw [Pz]
    exact hmv g.f λq hq e1 e2=>⟨keep q (Pj _ hq) e1,kf q (Pj _ hq) e1 e2⟩
   ·rcases Pg.mp hb with rfl | hb
    ·exact Po
    ·rcases PD.mp hb with hb | hb
     ·exact Pj _ (QM _ hb)
     ·exact Pj _ (P9 _ (P9 _ hb))
   ·have S2:=S1.Ml (i:=m) (s:=.t ts) ⟨Qm (by rw [S9]; exact (Ph.mp hm.get).1),λ{j r} hj e=>.inl ?_⟩ rt (λb hb=>fr' b (in2 hb)) g
    ·rwa [List.set_set] at S2
    ·rw [Qe (Py hj)] at e
     rcases bg e with ⟨_,rfl⟩ | ⟨q,e⟩
     ·rfl
     ·exact ho q e
  have hl:us.length=ps.length:=by rw [<- rv.length]; exact hF2.len _ _ _ _ pU
  have hb':Binds c.X.K fd ps []:=by rw [c.eK]; exact hb
  have hb2:=hb' s1 us I1.nL (by simpa using hl)
  rw [Qp] at hb2
  refine SH (SD (hF2.run c.X.A c.X.stack s1 H1 ⟨us,[]⟩ us _ _ _ c.room I1.Dp hb2 rv pU) λr' s' hq=>?_)
  cases r' with
  | error e =>
   obtain ⟨a,C,H',rfl,hE,h⟩:=hq
   exact h.elim
  | ok fl =>
   cases fl with
   | ret u=>exact I1.after hq
   | next=>exact Qs hq
   | brk=>exact Qs hq
   | cont=>exact Qs hq
 ·obtain rfl:t=ss.length:=by omega
  exact .inl ⟨⟨hp',by rw [hl]; exact Pa _⟩,o.nx σ' H' aj _ S' hn⟩
end
end EV
namespace My
open PySem PySem.Spec PyProof.Rows L2 EV
noncomputable abbrev top (i:Nat):Stmt:=PySem.Challenge.pw_everydraw_k14_raw_rules_by_points_and_li.main.body.getD i (.Pass ⟨0,0,0,0⟩)
theorem tU:FS ["powers","end"] ["powers"] (top 2):=by decide +kernel
theorem gR:FS ["some","greatest","powers","number","k","power"] ["some"] (top 3):=by decide +kernel
theorem yl:FS ["powers","width","key","power"] ["powers","width"] (top 4):=by decide +kernel
theorem o9:FS ["key","width","mask"] ["key","width"] (top 5):=by decide +kernel
theorem ym:FS ["some","width"] ["some","width"] (top 6):=by decide +kernel
theorem rM:FS ["total","width"] ["total","width"] (top 7):=by decide +kernel
theorem jL:FS ["total","left","right","key","number","shift","part","whole"] ["total","left","right"] (top 8):=by decide +kernel
theorem rN:FS ["parts","most","part"] ["parts"] (top 10):=by decide +kernel
theorem rP:FS ["whole","part","width","factors","left","right","product"] ["whole","part","width"] (top 11):=by decide +kernel
theorem l7:FS ["parts","width","whole","part"] ["parts"] (top 12):=by decide +kernel
theorem jl:FS ["total","l"] ["total","l"] (top 14):=by decide +kernel
theorem pe:FS ["total","i","l"] ["total","i","l"] (top 16):=by decide +kernel
theorem lC:FS ["total","i","l"] ["total","i","l"] (top 17):=by decide +kernel
theorem pA:FS ["total","i","l"] ["total","i","l"] (top 18):=by decide +kernel
theorem jm:FS ["total","i","l","foot","square"] ["total","i","l"] (top 19):=by decide +kernel
theorem pB:FS ["i","l"] ["i","l"] (top 20):=by decide +kernel
theorem lD:FS ["i","l"] ["i","l"] (top 21):=by decide +kernel
theorem l8:FS ["i","l"] ["i","l"] (top 22):=by decide +kernel
theorem iR:FS ["i","l"] ["i","l"] (top 23):=by decide +kernel
theorem tV:FS ["_law_found"] ["_law_found"] (top 25):=by decide +kernel
theorem yo:FS ["_law_script","_law_k"] ["_law_script","_law_k"] (top 26):=by decide +kernel
theorem tW:FS ["_law_cell_here","_law_k","_law_many","_law_number"] ["_law_cell_here","_law_k","_law_many"] (top 27):=by decide +kernel
theorem pD:FS ["_law_powers","_law_found"] ["_law_powers"] (top 28):=by decide +kernel
theorem BQ:FS ["_law_terms","_law_counts","_law_powers","_law_number","_law_short"] ["_law_terms"] (top 29):=by decide +kernel
theorem pF:FS ["_law_one","_law_other","_law_terms","_law_left","_law_first","_law_right","_law_second","_law_wide","_law_powers"] ["_law_one","_law_other"] (top 30):=by decide +kernel
theorem yp:FS ["_law_found","_law_due","_law_one","_law_other"] ["_law_found","_law_due"] (top 31):=by decide +kernel
theorem yq:FS ["_law_one","_law_other"] ["_law_one","_law_other"] (top 32):=by decide +kernel
theorem rQ:FS ["_law_some","_law_many"] ["_law_some","_law_many"] (top 33):=by decide +kernel
theorem tX:FS ["_law_cells","_law_offset","_law_found","_law_k","_law_terms","_law_cell_here"] ["_law_cells","_law_offset"] (top 34):=by decide +kernel
theorem jM:FS ["_law_cell_here","_law_rest","_law_powers","_law_k"] ["_law_cell_here"] (top 35):=by decide +kernel
theorem jN:FS ["_law_found","_law_due"] ["_law_found","_law_due"] (top 36):=by decide +kernel
theorem yr:FS ["_law_some"] ["_law_some"] (top 37):=by decide +kernel
theorem tY:FS ["_law_found","_law_terms"] ["_law_found"] (top 38):=by decide +kernel
theorem tZ:FS ["_law_some","_law_found","_law_one"] ["_law_some"] (top 39):=by decide +kernel
theorem yt:FS ["_law_i","_law_l","_law_last"] ["_law_i","_law_l"] (top 40):=by decide +kernel
theorem rR:FS ["_law_i","_law_l","_law_first"] ["_law_i","_law_l"] (top 41):=by decide +kernel
theorem yu:FS ["_law_i","_law_l","_law_one","_law_two","_law_wide","_law_first"] ["_law_i","_law_l"] (top 42):=by decide +kernel
theorem l9:FS ["_law_i","_law_l","_law_foot_here","_law_wide","_law_first"] ["_law_i","_law_l"] (top 43):=by decide +kernel
theorem yv:FS ["_law_i","_law_l","_law_handed","_law_due","_law_k","_law_found","_law_some"] ["_law_i","_law_l"] (top 44):=by decide +kernel
theorem JC:FS ["_law_script","_law_cells","_law_i","_law_l","_law_kind","_law_plain"] ["_law_script"] (top 45):=by decide +kernel
local macro_rules | `(tactic| walk_at "side")=> `(tactic| first | lia | assumption | exact jb | exact cM (Rk rfl) | exact zL (by decide) (by decide +kernel) | (show za _ _; exact ⟨by decide,by decide,by decide +kernel⟩))
local macro_rules | `(tactic| walk_at "at")=> `(tactic| with_reducible (repeat (first | exact At.z | apply At.s)))
local macro_rules | `(tactic| walk_at "sset")=> `(tactic| with_reducible (repeat (first | exact SSet.z | apply SSet.s)))
local macro_rules | `(tactic| walk_at "atI")=> `(tactic| first | assumption | rfl)
local macro_rules | `(tactic| walk_at "own")=> `(tactic| walk_at "u")
local macro_rules | `(tactic| walk_at "evSs")=> `(tactic| first
 | with_reducible refine aN ?_
 | with_reducible refine sQ ?_)
local macro_rules | `(tactic| walk_at "evS")=> `(tactic| first
 | ((with_reducible show eV _ (UK [PK _ _] _ _) _ _ _); with_reducible refine zK (by walk_at "at") ?_)
 | ((with_reducible show eV _ (Stmt.If _ _ _ _) _ _ _); walk_at "evIf")
 | ((with_reducible show eV _ (Stmt.Expr _ _) _ _ _); walk_at "evXp")
 | ((with_reducible show eV _ (Stmt.Return (some (PK _ _)) _) _ _ _); with_reducible refine zJ (by walk_at "at") (by walk_at "at") rfl ?_)
 | ((with_reducible show eV _ (Stmt.Return (some _) _) _ _ _); with_reducible refine eB ?_)
 | ((with_reducible show eV _ (Stmt.Return none _) _ _ _); with_reducible refine s_retN ?_)
 | ((with_reducible show eV _ (Uv (PK _ _) UG _ _) _ _ _); with_reducible refine s_addq (by walk_at "at") (by walk_at "at") ?_)
 | ((with_reducible show eV _ (Uv (PK _ _) Operator.Sub _ _) _ _ _); with_reducible refine HP (by walk_at "at") (by walk_at "at") ?_)
 | ((with_reducible show eV _ (Uv (RA (PK _ _) _ _) UG _ _) _ _ _); with_reducible refine uX (by walk_at "at") (by walk_at "at") ?_)
 | ((with_reducible show eV _ (UK [Expr.Tuple [PK _ _,PK _ _] _ _] (Expr.Tuple [_,_] _ _) _) _ _ _); with_reducible refine s_par (by walk_at "at") (by walk_at "at") (by decide) ?_)
 | ((with_reducible show eV _ (UK [Expr.Tuple _ _ _] _ _) _ _ _); with_reducible refine s_asg ?_)
 | ((with_reducible show eV _ (UK [RA (PK _ _) _ _] _ _) _ _ _); walk_at "evPut")
 | with_reducible refine s_break ?_
 | with_reducible refine s_continue ?_
 | with_reducible refine s_pass ?_)
local macro_rules | `(tactic| walk_at "evIf")=> `(tactic| with_reducible refine HM ?_)
local macro_rules | `(tactic| walk_at "evXp")=> `(tactic| with_reducible refine Ah (by walk_at "at") (by walk_at "at") (by walk_at "own") ?_)
local macro_rules | `(tactic| walk_at "evPut")=> `(tactic| with_reducible refine Ij (by walk_at "at") (by walk_at "at") ?_ (ho:=by walk_at "own"))
local macro_rules | `(tactic| walk_at "evK")=> `(tactic| first
 | with_reducible refine Lk ?_
 | with_reducible refine NW ?_
 | with_reducible refine e_non ?_
 | with_reducible refine e_str ?_)
local macro_rules | `(tactic| walk_at "evCm")=> `(tactic| first
 | with_reducible refine e_isN ?_
 | with_reducible refine e_notN ?_
 | with_reducible refine e_lt ?_
 | with_reducible refine e_eq ?_
 | with_reducible refine e_ne ?_)
local macro_rules | `(tactic| walk_at "evIx")=> `(tactic| first
 | ((with_reducible show aL _ (RA _ (Expr.Slice _ _ _ _) _) _ _); with_reducible refine Ac ?_)
 | ((with_reducible show aL _ (RA (PK _ _) _ _) _ _); with_reducible refine LO (by walk_at "at") (by walk_at "at") (by walk_at "own") (by walk_at "sset") ?_ (by walk_at "at"))
 | ((with_reducible show aL _ (RA (PK _ _) _ _) _ _); with_reducible refine e_dix (by walk_at "at") (by walk_at "at") ?_)
 | with_reducible refine LL ?_)
local macro_rules | `(tactic| walk_at "evBo")=> `(tactic| first
 | with_reducible refine Ic ?_
 | with_reducible refine Lp ?_
 | with_reducible refine Lq ?_
 | with_reducible refine Lr ?_
 | with_reducible refine HK ?_
 | with_reducible refine Lu ?_)
local macro_rules | `(tactic| walk_at "evCa")=> `(tactic| first
 | ((with_reducible show aL _ (Qh (Expr.Attribute _ _ _) _ _ _) _ _); walk_at "evMt")
 | ((with_reducible show aL _ (Qh (PK "isinstance" _) _ _ _) _ _); first
  | with_reducible refine nY (Txt.isin (by assumption)) (Txt.LP (by assumption)) ?_
  | with_reducible refine nY (Txt.isin (by assumption)) (Txt.Ea (by assumption)) ?_
  | with_reducible refine nY (Txt.isin (by assumption)) (Txt.Ir (by assumption)) ?_
  | with_reducible refine nY (Txt.isin (by assumption)) (Txt.Iq (by assumption)) ?_)
 | ((with_reducible show aL _ (Qh (PK "len" _) _ _ _) _ _); first
  | ((with_reducible show aL _ (Qh _ [PK _ _] _ _) _ _); with_reducible refine Im (Txt.len (by assumption)) (by walk_at "at") (by walk_at "at") (by walk_at "own") (by walk_at "sset") ?_)
  | with_reducible refine e_len (Txt.len (by assumption)) ?_)
 | ((with_reducible show aL _ (Qh (PK "tuple" _) _ _ _) _ _); first
  | ((with_reducible show aL _ (Qh _ [PK _ _] _ _) _ _); with_reducible refine Ar (Txt.tuple (by assumption)) (by walk_at "at") (by walk_at "at") (by walk_at "own") (by walk_at "sset") ?_)
  | with_reducible refine uS (Txt.tuple (by assumption)) ?_)
 | ((with_reducible show aL _ (Qh (PK "abs" _) _ _ _) _ _); with_reducible refine e_abs (Txt.abs (by assumption)) ?_)
 | ((with_reducible show aL _ (Qh (PK "int" _) _ _ _) _ _); with_reducible refine e_intB (Txt.int (by assumption)) ?_))
local macro_rules | `(tactic| walk_at "evMt")=> `(tactic| with_reducible refine Ii (by walk_at "at") (by walk_at "at") ?_ (ho:=by walk_at "own"))
local macro_rules | `(tactic| walk_at "evE")=> `(tactic| first
 | ((with_reducible show aL _ (PK _ _) _ _); with_reducible refine uH (by walk_at "at") (by walk_at "at") ?_)
 | ((with_reducible show aL _ (Expr.Constant _ _ _) _ _); walk_at "evK")
 | ((with_reducible show aL _ (Qh _ _ _ _) _ _); walk_at "evCa")
 | ((with_reducible show aL _ (RA _ _ _) _ _); walk_at "evIx")
 | ((with_reducible show aL _ (Expr.BinOp _ _ _ _) _ _); walk_at "evBo")
 | ((with_reducible show aL _ (Expr.Compare _ _ _ _) _ _); walk_at "evCm")
 | with_reducible refine LC ?_
 | with_reducible refine Ie ?_
 | with_reducible refine Lv ?_
 | with_reducible refine LA ?_
 | with_reducible refine Lz ?_
 | with_reducible refine e_or ?_
 | with_reducible refine Ly ?_
 | with_reducible refine DP ?_)
local macro_rules | `(tactic| walk_at "evX")=> `(tactic| first
 | ((with_reducible show cV _ (Expr.List _ _) _ _); with_reducible refine F8 ?_)
 | ((with_reducible show cV _ (Qh _ _ _ _) _ _); walk_at "evXC")
 | ((with_reducible show cV _ (Expr.BinOp _ UG _ _) _ _); with_reducible refine Gb ?_)
 | ((with_reducible show cV _ (RA _ (Expr.Slice _ _ _ _) _) _ _); with_reducible refine uU ?_)
 | with_reducible refine Lj ?_)
local macro_rules | `(tactic| walk_at "evXC")=> `(tactic| first
 | ((with_reducible show cV _ (Qh (PK "list" _) _ _ _) _ _); first
  | ((with_reducible show cV _ (Qh _ [PK _ _] _ _) _ _); with_reducible refine x_listO (Txt.list (by assumption)) (by walk_at "at") (by walk_at "at") (by walk_at "own") (by walk_at "sset") ?_)
  | with_reducible refine zT (Txt.list (by assumption)) ?_)
 | with_reducible refine Lj ?_)
local macro_rules | `(tactic| walk_at "evT")=> `(tactic| first
 | ((with_reducible show i7 _ (Expr.Compare _ _ _ _) _ _); first
  | with_reducible refine t_isN ?_
  | with_reducible refine t_notN ?_
  | with_reducible refine N4 ?_
  | with_reducible refine N3 ?_
  | with_reducible refine NX ?_
  | with_reducible refine t_le ?_
  | with_reducible refine NY ?_
  | with_reducible refine t_ge ?_
  | with_reducible refine Gg (by walk_at "at") (by walk_at "at") ?_
  | with_reducible refine t_dnotin (by walk_at "at") (by walk_at "at") ?_)
 | with_reducible refine Lx ?_
 | with_reducible refine OB (w_and ?_)
 | with_reducible refine OB (w_or ?_)
 | with_reducible refine LB ?_)
local macro_rules | `(tactic| walk_at "evW")=> `(tactic| first
 | with_reducible refine w_and ?_
 | with_reducible refine w_or ?_
 | with_reducible refine HL ?_
 | with_reducible refine Lw ?_)
local macro_rules | `(tactic| walk_at "evG")=> `(tactic| first
 | ((with_reducible show ku _ (PK _ _) _ _ _); with_reducible refine eO (by walk_at "at") ?_)
 | with_reducible refine F9 rfl (by walk_at "u") ?_)
local macro_rules | `(tactic| walk_at "evGs")=> `(tactic| first
 | with_reducible refine HN ?_
 | ((with_reducible show wX _ (_::_) _ _ _); with_reducible refine DQ (by walk_at "at") ?_))
local macro_rules | `(tactic| walk_at "evL")=> `(tactic| first
 | ((with_reducible show Nx _ _ _ _); with_reducible refine uL (by walk_at "sset") ?_)
 | ((with_reducible show Sd _ _); first | with_reducible refine Sd.mk (by walk_at "side") ?_ | with_reducible refine Sd.mk ?_ ?_)
 | ((with_reducible show lP _ _ _); first
  | with_reducible refine Ln ?_
  | with_reducible refine Lo ?_
  | with_reducible refine DI ?_
  | with_reducible refine DH (λh=>?_) (λh=>?_)
  | with_reducible refine if2 (λh=>?_) (λh=>?_))
 | with_reducible refine i2 ?_
 | with_reducible refine i1 ?_
 | with_reducible refine b1 ?_
 | ((with_reducible show CV _ _ _); first
  | with_reducible refine DJ ?_
  | with_reducible refine eqp_bl ?_
  | with_reducible refine eqp_str ?_)
 | ((with_reducible show kB _ _ _); first
  | with_reducible refine Ad ?_
  | with_reducible refine Ae ?_
  | with_reducible refine Af ?_)
 | ((with_reducible show HH _ _); first
  | with_reducible refine Ab ?_
  | with_reducible refine dJ ?_)
 | ((with_reducible show IsN _ _); first
  | with_reducible refine isn_t ?_
  | with_reducible refine isn_f (by intro q; cases q) ?_)
 | ((with_reducible show Kx _ _ _); first
  | refine qm (by rfl) ?_
  | refine uQ (by rfl) ?_)
 | ((with_reducible show Ia _ _ _ _); first
  | with_reducible refine EV.Ia.lst ?_
  | with_reducible refine EV.Ia.tup ?_)
 | ((with_reducible show ∃ ys,D.row _=some ys/\_); refine LM (by rfl) ?_)
 | ((with_reducible show ∃ t b,wZ _ _ t/\_); first
  | with_reducible refine Ig .int Iu ?_
  | with_reducible refine Ig .int (Txt.ib (by assumption)) ?_
  | with_reducible refine Ig .bl kit_bb ?_
  | with_reducible refine Ig .lst Iw ?_
  | with_reducible refine Ig .tup Iv ?_)
 | ((with_reducible show ∃ j d,D.int _=D.int j/\_); refine ⟨_,_,rfl,(by walk_at "atI"),?_⟩)
 | ((with_reducible show ∃ r,_/\HQ _ _ _ r); walk_at "evR"))
local macro_rules | `(tactic| walk_at "ev1")=> `(tactic| first
 | ((with_reducible show aL _ _ _ _); walk_at "evE")
 | ((with_reducible show cV _ _ _ _); walk_at "evX")
 | ((with_reducible show i7 _ _ _ _); walk_at "evT")
 | ((with_reducible show aH _ _ _ _ _); walk_at "evSs")
 | ((with_reducible show eV _ _ _ _ _); walk_at "evS")
 | ((with_reducible show qj _ _ _ _); first | with_reducible refine c7 ?_ | with_reducible refine jy ?_)
 | ((with_reducible show F7 _ _ _ _); walk_at "evW")
 | ((with_reducible show ku _ _ _ _ _); walk_at "evG")
 | ((with_reducible show wX _ _ _ _ _); walk_at "evGs")
 | ((with_reducible show CW _ _ _ _); first | with_reducible refine HY ?_ | with_reducible refine HZ ?_)
 | walk_at "evL")
local macro_rules | `(tactic| walk_at "ev")=> `(tactic| repeat' (walk_at "ev1"))
section
variable {K:O7}
noncomputable def pG:Fn:=λds r=>∃ n:Int,ds=[.int n]/\r=.ok (.va (.bl true))
theorem E3 (n):pG [.int n] (.ok (.va (.bl true))):=⟨n,rfl,rfl⟩
theorem BR (Fu:dI K "_law_whole" "_law_whole" (top 25) f fd) (T:Txt K mg):bq P w K mg base (cK P w) 1 f fd ["_law_found"] (dM K pG):=by
 refine cg Fu tV (by rintro ds r ⟨a,rfl,_⟩; rfl) (by rintro ds r ⟨a,_,rfl⟩; exact ⟨_,rfl⟩) λc hq ds sl hF=>?_
 obtain ⟨a,rfl,e⟩:=hF
 injection e with e
 subst e
 show aH c _ [.va (.int a)] _ _
 conv in (aq _)=>whnf
 walk_at "ev"
 rfl
noncomputable def lE:Fn:=λds r=>∃ l:List Int,l.length<=64/\ds=[.tup (l.map .int)]/\r=.ok (.va (.tup ((trim l).map .int)))
theorem BS (h:l.length<=64):lE [.tup (l.map .int)] (.ok (.va (.tup ((trim l).map .int)))):=⟨l,h,rfl,rfl⟩
theorem BU {cl:List Int} {j:Int} (h0:0<=j) (h1:j<cl.length) (h:R (.int (cl.getD j.toNat 0))):Kx (.tup (cl.map D.int)) (.int j) R:=by
 refine qm ?_ h
 rw [iB h0 (by simpa using h1)]
 have hj:j.toNat<cl.length:=by lia
 simp [Pk,hj]
theorem E4 (Fu:dI K "trimmed" "trimmed" (top 2) f fd) (T:Txt K mg):bq P w K mg base (cK P w) 1 f fd ["powers"] (dM K lE):=by
 refine cg Fu tU (by rintro ds r ⟨a,_,rfl,_⟩; rfl) (by rintro ds r ⟨a,_,_,rfl⟩; exact ⟨_,rfl⟩) λc hq ds sl hF=>?_
 obtain ⟨l,hl,rfl,e⟩:=hF
 injection e with e
 subst e
 show aH c _ [.va (.tup (l.map .int)),.un] _ _
 conv in (aq _)=>whnf
 walk_at "ev"
 with_reducible refine uM hq (λm ρ'=>m<=l.length/\trim (l.take m)=trim l/\ρ'=[.va (.tup (l.map .int)),.va (.int (m:Int))]) (m₀:=l.length) ?_ ?_
 ·refine ⟨Pa _,by rw [QC],?_⟩
  rw [Pe]
 ·rintro m ρ' ⟨hm,ht,rfl⟩
  walk_at "ev"
  ·refine BU (by lia) (by lia) ?_
   have hk:((m:Int) - 1).toNat=m - 1:=by lia
   rw [hk]
   have hm1:m - 1+1=m:=by lia
   walk_at "ev"
   ·exact ⟨m - 1,by lia,by lia,nj (by lia) (by assumption) (by rw [hm1]; exact ht),by rw [show ((m - 1:Nat):Int)=(m:Int) - 1 by lia]⟩
   ·show Sl.va _=Sl.va _
    rw [iA,AZ _ hm]
    have:=nk (l:=l) (m:=m - 1) (by lia) (by assumption) (by rw [hm1]; exact ht)
    rw [hm1] at this
    rw [this]
  ·show Sl.va _=Sl.va _
   have:m=0:=by lia
   subst this
   rw [iA,AZ _ hm,<- ht]
   rfl
noncomputable def thing (a k m:Int):Int :=
 ((a % 2147483647 * 48271+69621 * k * k+7 * k) % 2147483629 * ((a % 2147483647 * 48271+69621 * k * k+7 * k) % 2147483629) % 2147483587) * ((a % 2147483647 * 48271+69621 * k * k+7 * k) % 2147483629 * ((a % 2147483647 * 48271+69621 * k * k+7 * k) % 2147483629) % 2147483587+48271) % 2147483563 % m
theorem iS (a k) (h:0<m):0<=thing a k m/\thing a k m<m:=⟨Int.emod_nonneg _ (by lia),Int.emod_lt_of_pos _ h⟩
noncomputable def pH:Fn:=λds r=>∃ a k m:Int,0<m/\m.natAbs<2 ^ 63/\k.natAbs<2 ^ 40/\ds=[.int a,.int k,.int m]/\r=.ok (.va (.int (thing a k m)))
theorem E5 (hm:0<m) (h2:m.natAbs<2 ^ 63) (hk:k.natAbs<2 ^ 40):pH [.int a,.int k,.int m] (.ok (.va (.int (thing a k m)))):=⟨a,k,m,hm,h2,hk,rfl,rfl⟩
theorem BV (Fu:dI K "_law_thing" "_law_thing" (top 27) f fd) (T:Txt K mg):bq P w K mg base (cK P w) 1 f fd ["_law_cell_here","_law_k","_law_many"] (dM K pH):=by
 refine cg Fu tW (by rintro ds r ⟨a,k,m,_,_,_,rfl,_⟩; rfl) (by rintro ds r ⟨a,k,m,_,_,_,_,rfl⟩; exact ⟨_,rfl⟩) λc hq ds sl hF=>?_
 obtain ⟨a,k,m,hm,hm2,hk,rfl,e⟩:=hF
 injection e with e
 subst e
 show aH c _ [.va (.int a),.va (.int k),.va (.int m),.un] _ _
 conv in (aq _)=>whnf
 walk_at "ev"
 all_goals first
  | exact qz (by lia)
  | exact dv_few hm hm2
  | rfl
  | trace_state
theorem BW {l:List Int} (h:m<l.length):jR ((l.take (m+1)).map D.int) (-1)=some (.int (l.getD m 0)):=by
 have hl:(l.take (m+1)).length=m+1:=by simp; lia
 rw [u9 (by decide) (by simp only [Pe,hl]; lia),Pe,hl]
 have e:(-1+((m+1:Nat):Int)).toNat=m:=by lia
 rw [e,Pk,List.getElem?_take]
 simp [QA,h]
section
local macro_rules | `(tactic| walk_at "side")=> `(tactic| exact iy _)
local macro_rules | `(tactic| walk_at "evXp")=> `(tactic| ((with_reducible show eV _ (Stmt.Expr (Qh _ [] _ _) _) _ _ _); with_reducible refine s_pop (by walk_at "at") (by walk_at "at") (by walk_at "own") ?_))
theorem BX (Fu:dI K "_law_trimmed" "_law_trimmed" (top 28) f fd) (T:Txt K mg):bq P w K mg base (cK P w) 1 f fd ["_law_powers"] (dM K lE):=by
 refine cg Fu pD (by rintro ds r ⟨a,_,rfl,_⟩; rfl) (by rintro ds r ⟨a,_,_,rfl⟩; exact ⟨_,rfl⟩) λc hq ds sl hF=>?_
 obtain ⟨l,hl,rfl,e⟩:=hF
 injection e with e
 subst e
 show aH c _ [.va (.tup (l.map .int)),.un] _ _
 conv in (aq _)=>whnf
 walk_at "ev"
 with_reducible refine uM hq (λm ρ'=>m<=l.length/\trim (l.take m)=trim l/\ρ'=[.va (.tup (l.map .int)),.ow ((l.take m).map .int)]) (m₀:=l.length) ?_ ?_
 ·exact ⟨Pa _,by rw [QC],by rw [QC]⟩
 ·rintro m ρ' ⟨hm,ht,rfl⟩
  have hL:((l.take m).map D.int).length=m:=by simp; lia
  walk_at "ev"
  ·rw [hL] at *
   obtain ⟨n,rfl⟩:∃ n,m=n+1:=⟨m - 1,by lia⟩
   refine ⟨_,_,rfl,BW (by lia),?_⟩
   walk_at "ev"
   ·intro z; have z':=congrArg SG z; rw [Pe,Qk,Rg] at z'; lia
   ·refine ⟨n,by lia,by lia,nj (by lia) (by assumption) ht,?_⟩
    show [_,Sl.ow _]=_
    rw [jg (by lia),Px,List.map_singleton,List.dropLast_concat]
   ·show Sl.va _=Sl.va _
    rw [nk (by lia) (by assumption) ht]
  ·show Sl.va _=Sl.va _
   have:m=0:=by rw [hL] at *; lia
   subst this
   rw [<- ht]
   rfl
end
end
section
variable {K:O7}
theorem pI (x):(av x).nl:=oq (by unfold D.om; exact ⟨oq (iy _),fu (f:=D.int) (l:=[x.2]) λ_ _=>jb⟩)
noncomputable def BY (t:aD):Option D:=if t.2≠0 then some (av t) else none
theorem j4:∀ L:List aD,(L.map BY).filterMap id=(nz L).map av
 | []=>rfl
 | t::L=>by
  unfold nz
  by_cases h:t.2=0
  ·simp only [Pd,BY,h,ne_eq,not_true,if_false,Rc,id,List.filter_cons,bne_self_eq_false,Qj]
   exact j4 L
  ·have hb:(t.2 != 0)=true:=by simpa using h
   rw [List.filter_cons,if_pos hb,Pd,Pd,Rc]
   simp only [BY,ne_eq,h,not_false_eq_true,if_true,id]
   rw [j4 L]; rfl
noncomputable def f6:Fn:=λds r=>∃ ts:List aD,ts.length<=20000/\(∀ t∈ts,t.1.length<=64)/\ds=[.lst (ts.map av)]/\r=.ok (.ow ((iK (nz (aX ts))).map av))
theorem lF (h:ts.length<=20000) (h2:∀ t∈ts,t.1.length<=64):f6 [.lst (ts.map av)] (.ok (.ow ((iK (nz (aX ts))).map av))):=⟨ts,h,h2,rfl,rfl⟩
section
local macro_rules | `(tactic| walk_at "evX")=> `(tactic| first | ((with_reducible show cV _ (Expr.Dict _ _ _) _ _); with_reducible refine DX ?_))
local macro_rules | `(tactic| walk_at "evCa")=> `(tactic| first | with_reducible refine bh (F:=lE) (by assumption) (by decide) ?_)
local macro_rules | `(tactic| walk_at "evR")=> `(tactic| first | with_reducible refine aC (BS ?_) ?_)
theorem E6 (Fu:dI K "_law_sum" "_law_sum" (top 29) f fd) (T:Txt K mg) (h1:cI P w K mg base 1 "_law_trimmed" lE):bq P w K mg base (cK P w) 2 f fd ["_law_terms"] (dM K f6):=by
 refine cg Fu BQ (by rintro ds r ⟨n,_,_,rfl,_⟩; rfl) (by rintro ds r ⟨n,_,_,_,rfl⟩; exact ⟨_,rfl⟩) λc hq ds sl hF=>?_
 obtain ⟨ts,hl,hlen,rfl,e⟩:=hF
 injection e with e
 subst e
 show aH c _ [.va (.lst (ts.map av)),.un,.un,.un,.un] _ _
 conv in (aq _)=>whnf
 walk_at "ev"
 with_reducible refine cN hq (cB ?_)
 walk_at "ev"
 refine ⟨λi ρ'=>∃ s2 s3 s4:Sl,ρ'=[.va (.lst (ts.map av)),.oT (encA (aX (ts.take i))),s2,s3,s4],⟨_,_,_,rfl⟩,?_,?_⟩
 ·rintro c' lR wG wH i d ρ' hd ⟨s2,s3,s4,rfl⟩
  simp only [Pk,Pq] at hd
  obtain ⟨t,ht,rfl⟩:=hd
  obtain ⟨hi,rfl⟩:=Ph.mp ht
  have h6:=hlen _ (Qa hi)
  have hsz:(aX (ts.take i)).length<sizeLine:=fF (by have:=gr (ts.take i); rw [Qk] at this; lia)
  show ku c' _ (D.tup [.tup (ts[i].1.map .int),.int ts[i].2]) _ _
  walk_at "ev"
  ·exact h6
  walk_at "ev"
  refine ⟨_,IU (A:=aX (ts.take i)) rfl _,?_⟩
  rw [A1]
  walk_at "ev"
  refine ⟨_,IV hsz,?_⟩
  walk_at "ev"
  have e:aX (ts.take (i+1))=putD (aX (ts.take i)) (trim ts[i].1) ((bD (aX (ts.take i)) (trim ts[i].1)).getD 0+ts[i].2):=by
   rw [QE hi,qV]; rfl
  show ∃ s2 s3 s4:Sl,_=[_,Sl.oT (encA (aX (ts.take (i+1)))),s2,s3,s4]
  rw [e]
  exact ⟨_,_,_,rfl⟩
 ·rintro ρ' ⟨s2,s3,s4,rfl⟩
  rw [Pe,QC]
  have hn:=keys_nodup (eZ ts)
  with_reducible refine aN ?_
  with_reducible refine eB ?_
  refine tE (Txt.sorted T) (e_x (sW 1 (by walk_at "at") (encK _) (by walk_at "sset") (dF hq (N':=["_law_powers","_law_number"]) (ρ0:=λ_=>[.un,.un]) (λt=>.un (.un .nil)) (Eg ?_))))
  walk_at "ev"
  refine II (xJ _) ⟨?_,(aX ts).map BY,by simp,?_,?_⟩
  ·exact l6 (by rw [Pe]; have:=gr ts; lia)
  ·intro c' hc t i d o hd ho
   simp only [Pk,Pq] at hd ho
   obtain ⟨x,hx,rfl⟩:=hd
   obtain ⟨x',hx',rfl⟩:=ho
   rw [hx] at hx'; cases hx'
   show ku c' _ (.tup [.tup (x.1.map .int),.int x.2]) _ _
   walk_at "ev"
   refine ⟨.un (.un .nil),?_⟩
   simp only [jV]
   walk_at "ev"
   all_goals first
    | (show BY x=some (av x); unfold BY; rw [if_pos (by assumption)])
    | (show BY x=none; unfold BY; rw [if_neg λh=>h (by assumption)])
  ·rw [j4]
   refine ⟨fu λx _=>pI x,dJ ⟨_,rfl,U5 _ hn,λL' hp hs=>?_⟩⟩
   have eL:=tF (U5 _ hn) hp hs
   rw [eL]
   rfl
end
end
section
variable {K:O7}
theorem BZ (x y:aD):lX [.tup (x.1.map .int),.int x.2] [.tup (y.1.map .int),.int y.2]:=λi d e h1 h2=>by
 rcases i with _ | _ | i
 ·simp at h1 h2; subst h1 h2
  exact .tup λj d e h1 h2=>by
   simp only [Pk,Pq] at h1 h2
   obtain ⟨a,_,rfl⟩:=h1
   obtain ⟨b,_,rfl⟩:=h2
   exact .sc rfl
 ·simp at h1 h2; subst h1 h2
  exact .sc rfl
 ·simp at h1
theorem E7 (h:T (decide (av x=av y))):CV (.tup [.tup (x.1.map .int),.int x.2]) (.tup [.tup (y.1.map .int),.int y.2]) T:=by
 refine DK ⟨BZ x y,?_⟩
 have e:decide ([D.tup (x.1.map .int),.int x.2]=[D.tup (y.1.map .int),.int y.2])=decide (av x=av y):=by
  unfold av; simp
 rw [e]; exact h
noncomputable def vY:Fn:=λds r=>∃ L:List aD,L.length<=20000/\(∀ t∈L,t.1.length<=64)/\ds=[.lst (L.map av),.lst (L.map av)]/\r=.ok (.va (.bl true))
theorem JD {L:List aD} (h:L.length<=20000) (h2:∀ t∈L,t.1.length<=64):vY [.lst (L.map av),.lst (L.map av)] (.ok (.va (.bl true))):=⟨L,h,h2,rfl,rfl⟩
section
local macro_rules | `(tactic| walk_at "evCa")=> `(tactic| first | with_reducible refine bh (F:=pG) (by assumption) (by decide) ?_)
local macro_rules | `(tactic| walk_at "evR")=> `(tactic| first | with_reducible refine aC (E3 _) ?_)
theorem E8 (Fu:dI K "_law_same" "_law_same" (top 31) f fd) (T:Txt K mg) (h1:cI P w K mg base 1 "_law_whole" pG):bq P w K mg base (cK P w) 2 f fd ["_law_found","_law_due"] (dM K vY):=by
 refine cg Fu yp (by rintro ds r ⟨n,_,_,rfl,_⟩; rfl) (by rintro ds r ⟨n,_,_,_,rfl⟩; exact ⟨_,rfl⟩) λc hq ds sl hF=>?_
 obtain ⟨L,hl,hlen,rfl,e⟩:=hF
 injection e with e
 subst e
 show aH c _ [.va (.lst (L.map av)),.va (.lst (L.map av)),.un,.un] _ _
 conv in (aq _)=>whnf
 walk_at "ev"
 ·with_reducible refine cN hq (GF (Txt.zip T) ?_)
  walk_at "ev"
  refine ⟨_,_,rfl,rfl,?_⟩
  have ez:jI (L.map av) (L.map av)=L.map λt=>D.tup [av t,av t]:=by
   unfold jI
   rw [Uj,Ua]
  rw [ez]
  refine ⟨λi ρ'=>∃ s2 s3:Sl,ρ'=[.va (.lst (L.map av)),.va (.lst (L.map av)),s2,s3],⟨_,_,rfl⟩,?_,?_⟩
  ·rintro c' lR wG wH i d ρ' hd ⟨s2,s3,rfl⟩
   simp only [Pk,Pq] at hd
   obtain ⟨t,ht,rfl⟩:=hd
   have hlt:=hlen t (QI ht)
   show ku c' _ (.tup [.tup [.tup (t.1.map .int),.int t.2],.tup [.tup (t.1.map .int),.int t.2]]) _ _
   walk_at "ev"
   ·refine A2 (Txt.all T) (e_x (dF (show c'.X.xe=gE by rw [lR]; exact hq) (N':=["_law_power"]) (ρ0:=λ_=>[.un]) (λt=>.un .nil) (cB ?_)))
    walk_at "ev"
    ·exact l6 (by rw [Pe]; lia)
    refine ⟨t.1.map λ_=>some (.bl true),by simp,?_,dJ ⟨t.1.map λ_=>true,?_,?_⟩⟩
    ·intro c2 hc2 tg j d o hd ho
     simp only [Pk,Pq] at hd ho
     obtain ⟨x,hx,rfl⟩:=hd
     obtain ⟨x',hx',rfl⟩:=ho
     refine eO (by walk_at "at") (uL (by walk_at "sset") ⟨.un .nil,?_⟩)
     simp only [jV]
     refine ⟨λ_=>?_,λh=>by cases h⟩
     walk_at "ev"
     rfl
    ·congr 1
     induction t.1 with
     | nil=>rfl
     | cons a l ih=>simpa using ih
    ·have e:((t.1.map λ_=>true).all id)=true:=by simp
     rw [e]
     walk_at "ev"
     refine E7 ?_
     rw [decide_eq_true rfl]
     walk_at "ev"
     exact ⟨_,_,rfl⟩
   ·exact absurd (show (([D.tup (t.1.map .int),.int t.2].length:Nat):Int)=2 from rfl) (by assumption)
  ·rintro ρ' ⟨s2,s3,rfl⟩
   walk_at "ev"
   rfl
 ·exact absurd rfl (by assumption)
end
end
section
variable {K:O7}
noncomputable def E9 (p:List Int) (g:Nat->Int) (k:Nat):Int:=if bR p k>g k then bR p k else g k
noncomputable def gk (L:List aD) (k:Nat):Int:=L.foldl (λa t=>if bR t.1 k>a then bR t.1 k else a) 0
noncomputable def d7 (L:List aD):List Int:=(PZ 6).map (gk L)
noncomputable def gS (p:List Int) (g:Nat->Int) (j k:Nat):Int:=if k<j then E9 p g k else g k
theorem vZ (L:List aD) (k):∀ a:Int,a<=L.foldl (λa t=>if bR t.1 k>a then bR t.1 k else a) a:=by
 induction L with
 | nil=>exact λa=>QH _
 | cons t L ih =>
  intro a
  rw [QK]
  refine P4 ?_ (ih _)
  split <;> lia
theorem GG (L) (k):0<=gk L k:=vZ L k 0
theorem Fb (L) (t):gk (L++[t])=E9 t.1 (gk L):=by
 funext k
 unfold gk E9
 rw [Uc]; rfl
theorem Fc:gS p (gk L) p.length=E9 p (gk L):=by
 funext k
 unfold gS
 split
 ·rfl
 ·unfold E9
  rw [cS (by lia)]
  have:=GG L k
  rw [if_neg (by lia)]
theorem B0 (p) (g):gS p g 0=g:=by funext k; unfold gS; rw [if_neg (by lia)]
noncomputable def fJ (g:Nat->Int):List D:=((PZ 6).map g).map D.int
theorem B3 (p) (g) (h:j<6) (q:E9 p g j=bR p j):(fJ (gS p g j)).set j (.int (bR p j))=fJ (gS p g (j+1)):=by
 refine Um (by simp [fJ]) λi h1 h2=>?_
 have hi:i<6:=by simpa [fJ] using h2
 rw [List.getElem_set]
 simp only [fJ,Vw,Vd]
 unfold gS
 by_cases e:j=i
 ·subst e
  rw [if_pos rfl,if_pos (by lia),q]
 ·rw [if_neg e]
  by_cases z:i<j
  ·rw [if_pos z,if_pos (by lia)]
  ·rw [if_neg z,if_neg (by lia)]
theorem yw (p) (g) (q:E9 p g j=g j):fJ (gS p g j)=fJ (gS p g (j+1)):=by
 unfold fJ
 congr 1
 refine Rm λi _=>?_
 unfold gS
 by_cases z:i<j
 ·rw [if_pos z,if_pos (by lia)]
 ·by_cases e:i=j
  ·subst e; rw [if_neg z,if_pos (by lia),q]
  ·rw [if_neg z,if_neg (by lia)]
theorem Fd (g) {j:Nat} (h:j<6):jR (fJ g) (j:Int)=some (.int (g j)):=by
 rw [iB (by lia) (by simp [fJ]; lia),Qt]
 simp [fJ,h]
noncomputable def pJ:Fn:=λds r=>∃ L:List aD,(∀ t∈L,t.1.length<=6)/\ds=[.lst (L.map av)]/\r=.ok (.ow (fJ (gk L)))
theorem Fe (h:∀ t∈L,t.1.length<=6):pJ [.lst (L.map av)] (.ok (.ow (fJ (gk L)))):=⟨L,h,rfl,rfl⟩
section
local macro_rules | `(tactic| walk_at "evPut")=> `(tactic| with_reducible refine IY (by walk_at "at") (by walk_at "at") (by walk_at "own") ?_)
local macro_rules | `(tactic| walk_at "evX")=> `(tactic| first | ((with_reducible show cV _ (Expr.BinOp _ Operator.Mult _ _) _ _); with_reducible refine LZ ?_))
local macro_rules | `(tactic| walk_at "evE")=> `(tactic| first | ((with_reducible show aL _ (PK "PLACES" _) _ _); with_reducible refine sP (by assumption) ?_))
theorem B4 (Fu:dI K "greatest_powers" "greatest_powers" (top 3) f fd) (T:Txt K mg) (PL:∃ tk:Tok,mg "PLACES"=some (.int 6 tk)):bq P w K mg base (cK P w) 1 f fd ["some"] (dM K pJ):=by
 obtain ⟨tk,hPL⟩:=PL
 refine cg Fu gR (by rintro ds r ⟨L,_,rfl,_⟩; rfl) (by rintro ds r ⟨L,_,_,rfl⟩; exact ⟨_,rfl⟩) λc hq ds sl hF=>?_
 obtain ⟨L,hl,rfl,e⟩:=hF
 injection e with e
 subst e
 show aH c _ [.va (.lst (L.map av)),.un,.un,.un,.un,.un] _ _
 conv in (aq _)=>whnf
 walk_at "ev"
 refine ⟨_,rfl,?_⟩
 walk_at "ev"
 ·exact ⟨⟨by decide,by decide⟩,by decide⟩
 walk_at "ev"
 show eV c _ [.va (.lst (L.map av)),.ow (fJ (gk [])),.un,.un,.un,.un] _ _
 with_reducible refine cN hq (cB ?_)
 walk_at "ev"
 refine ⟨λi ρ'=>∃ s2 s3 s4 s5:Sl,ρ'=[.va (.lst (L.map av)),.ow (fJ (gk (L.take i))),s2,s3,s4,s5],⟨_,_,_,_,rfl⟩,?_,?_⟩
 ·rintro c' lR wG wH i d ρ' hd ⟨s2,s3,s4,s5,rfl⟩
  simp only [Pk,Pq] at hd
  obtain ⟨t,ht,rfl⟩:=hd
  obtain ⟨hi,rfl⟩:=Ph.mp ht
  have h6:=hl _ (Qa hi)
  have hq':c'.X.xe=λ_ _=>False:=by rw [lR]; exact hq
  show ku c' _ (D.tup [.tup (L[i].1.map .int),.int L[i].2]) _ _
  walk_at "ev"
  have eg:gk (L.take (i+1))=gS L[i].1 (gk (L.take i)) L[i].1.length:=by rw [QE hi,Fb,Fc]
  generalize L[i]=t at h6 eg |-
  generalize gk (L.take i)=g at eg |-
  with_reducible refine cN hq' (Jb (Txt.enum (by assumption)) ?_)
  walk_at "ev"
  refine ⟨_,rfl,?_⟩
  refine ⟨λj ρ'=>∃ s4 s5:Sl,ρ'=[.va (.lst (L.map av)),.ow (fJ (gS t.1 g j)),.va (.tup (t.1.map .int)),.va (.int t.2),s4,s5],⟨s4,s5,by rw [B0]⟩,?_,?_⟩
  ·rintro c2 hcX2 hcR2 hcM2 j d ρ' hd ⟨s4,s5,rfl⟩
   unfold kZ at hd
   simp only [Pk,Pq,List.getElem?_zipIdx] at hd
   obtain ⟨⟨x,m⟩,⟨y,⟨z,hz,rfl⟩,e⟩,rfl⟩:=hd
   obtain ⟨rfl,rfl⟩:D.int z=x/\0+j=m:=by simpa using e
   obtain ⟨hj,rfl⟩:=Ph.mp hz
   have hj6:j<6:=by lia
   have ha:jR (fJ (gS t.1 g j)) (((0+j:Nat):Int))=some (.int (g j)):=by
    rw [RD,Fd _ hj6]; unfold gS; rw [if_neg (by lia)]
   have ep:bR t.1 j=t.1[j]:=dG hj
   have hj0:0+j=j:=RD j
   rw [hj0] at ha |-
   show ku c2 _ (D.tup [.int (j:Nat),.int t.1[j]]) _ _
   walk_at "ev"
   ·refine ⟨j,rfl,⟨by simp [fJ]; lia,?_⟩⟩
    walk_at "ev"
    refine ⟨.va (.int (j:Nat)),.va (.int t.1[j]),?_⟩
    show [_,Sl.ow ((fJ (gS t.1 g j)).set j (.int t.1[j])),_,_,_,_]=_
    rw [<- ep,B3 t.1 g hj6 (by unfold E9; rw [ep,if_pos (by assumption)])]
   ·refine ⟨.va (.int (j:Nat)),.va (.int t.1[j]),?_⟩
    rw [yw t.1 g (by unfold E9; rw [ep,if_neg (by assumption)])]
  ·rintro ρ' ⟨s4,s5,rfl⟩
   rw [show (kZ (t.1.map D.int)).length=t.1.length by simp [kZ]]
   walk_at "ev"
   exact ⟨_,_,_,_,by rw [eg]⟩
 ·rintro ρ' ⟨s2,s3,s4,s5,rfl⟩
  rw [Pe,QC]
  walk_at "ev"
  rfl
end
noncomputable def C1 (ns:List Int):Int:=ns.foldr max 0
theorem B5:∀ {ns:List Int} {n:Int},n∈ns->n<=C1 ns
 | x::ns,n,h=>by
  show n<=max x (C1 ns)
  rcases Pg.mp h with rfl | h
  ·lia
  ·have:=B5 h; lia
theorem GH:∀ (ns:List Int),0<=C1 ns
 | []=>QH _
 | x::ns=>by show 0<=max x (C1 ns); have:=GH ns; lia
theorem t6:∀ {ns:List Int} {m:Int},0<=m->(∀ n∈ns,n<=m)->C1 ns<=m
 | [],_,h,_=>h
 | x::ns,m,h0,h=>by
  show max x (C1 ns)<=m
  have:=t6 h0 λn hn=>h n (Pj _ hn)
  have:=h x Po
  lia
theorem B6 (h:m∈d7 L) (h2:∀ n∈d7 L,n<=m):m=C1 (d7 L):=by
 have h0:0<=m:=by
  unfold d7 at h
  obtain ⟨k,_,rfl⟩:=Pr.mp h
  exact GG L k
 exact Int.le_antisymm (B5 h) (t6 h0 h2)
end
section
variable {K:O7}
noncomputable def Ff:Fn:=λds r=>∃ (p:List Int) (W:Nat),W<=10/\Bd (2 ^ W) p/\ds=[.tup (p.map .int),.int (W:Nat)]/\r=.ok (.va (.int (pk (2 ^ W) p)))
theorem Mp (h:W<=10) (h2:Bd (2 ^ W) p):Ff [.tup (p.map .int),.int (W:Nat)] (.ok (.va (.int (pk (2 ^ W) p)))):=⟨p,W,h,h2,rfl,rfl⟩
section
local macro_rules | `(tactic| walk_at "evE")=> `(tactic| first | ((with_reducible show aL _ (PK "PLACES" _) _ _); with_reducible refine sP (by assumption) ?_))
local macro_rules | `(tactic| walk_at "evBo")=> `(tactic| first | with_reducible refine Gr ?_ | with_reducible refine Gs ?_ | with_reducible refine A4 ?_)
theorem JE (Fu:dI K "key_of" "key_of" (top 4) f fd) (T:Txt K mg) (PL:∃ tk:Tok,mg "PLACES"=some (.int 6 tk)):bq P w K mg base (cK P w) 1 f fd ["powers","width"] (dM K Ff):=by
 obtain ⟨tk,hPL⟩:=PL
 refine cg Fu yl (by rintro ds r ⟨p,W,_,_,rfl,_⟩; rfl) (by rintro ds r ⟨p,W,_,_,_,rfl⟩; exact ⟨_,rfl⟩) λc hq ds sl hF=>?_
 obtain ⟨p,W,hW,hp,rfl,e⟩:=hF
 injection e with e
 subst e
 have h6:=hp.1
 show aH c _ [.va (.tup (p.map .int)),.va (.int (W:Nat)),.un,.un] _ _
 conv in (aq _)=>whnf
 walk_at "ev"
 with_reducible refine cN hq (cB ?_)
 walk_at "ev"
 refine ⟨λi ρ'=>∃ s3:Sl,ρ'=[.va (.tup (p.map .int)),.va (.int (W:Nat)),.va (.int (ER (2 ^ W) (p.take i))),s3],⟨_,rfl⟩,?_,?_⟩
 ·rintro c' lR wG wH i d ρ' hd ⟨s3,rfl⟩
  simp only [Pk,Pq] at hd
  obtain ⟨x,hx,rfl⟩:=hd
  obtain ⟨hi,rfl⟩:=Ph.mp hx
  have bd:=Bg (two_pos W) (p:=p.take i) λx hx=>hp.2 x (T3 hx)
  have hl:(p.take i).length<=6:=by rw [Qk]; lia
  walk_at "ev"
  ·exact ⟨by lia,by lia,vP hW hl bd.1 bd.2⟩
  ·refine ⟨.va (.int p[i]),?_⟩
   rw [QE hi,Bf,Qt]
 ·rintro ρ' ⟨s3,rfl⟩
  rw [Pe,QC]
  have bd:=Bg (two_pos W) hp.2
  have ew:(W:Int) * (6 - ((p.map D.int).length:Nat))=((W * (6 - p.length):Nat):Int):=by
   rw [Pe,Int.natCast_mul,Int.ofNat_sub h6]; rfl
  have ew2:W * (6 - p.length)<=60:=Pw (Rz hW (Nat.sub_le 6 _)) (by decide)
  walk_at "ev"
  ·exact qz (by lia)
  ·rw [ew]; exact ⟨by lia,by lia,vP hW h6 bd.1 bd.2⟩
  ·show Sl.va _=Sl.va _
   rw [ew,Qt,Int.pow_mul,Jj h6]
end
theorem fc {α:Type} (f:α->D):∀ L:List α,(L.map λt=>some (f t)).filterMap id=L.map f
 | []=>rfl
 | x::L=>by
  rw [Pd,Pd,Rc]
  exact congrArg (f x:: ·) (fc f L)
noncomputable def v5:Fn:=λds r=>∃ (x:Int) (W:Nat),W<=10/\0<=x/\ds=[.int x,.int (W:Nat)]/\r=.ok (.va (.tup ((M5 (2 ^ W) x).map .int)))
theorem JF (h:W<=10) (h2:0<=x):v5 [.int x,.int (W:Nat)] (.ok (.va (.tup ((M5 (2 ^ W) x).map .int)))):=⟨x,W,h,h2,rfl,rfl⟩
section
local macro_rules | `(tactic| walk_at "evE")=> `(tactic| first | ((with_reducible show aL _ (PK "PLACES" _) _ _); with_reducible refine sP (by assumption) ?_))
local macro_rules | `(tactic| walk_at "evBo")=> `(tactic| first | with_reducible refine Gr ?_ | with_reducible refine Gs ?_ | with_reducible refine A4 ?_)
local macro_rules | `(tactic| walk_at "evXC")=> `(tactic| first | with_reducible refine x_call (F:=lE) (by assumption) (by decide) ?_)
theorem Fg (Fu:dI K "powers_of" "powers_of" (top 5) f fd) (T:Txt K mg) (PL:∃ tk:Tok,mg "PLACES"=some (.int 6 tk)) (h1:cI P w K mg base 1 "trimmed" lE):bq P w K mg base (cK P w) 2 f fd ["key","width"] (dM K v5):=by
 obtain ⟨tk,hPL⟩:=PL
 refine cg Fu o9 (by rintro ds r ⟨x,W,_,_,rfl,_⟩; rfl) (by rintro ds r ⟨x,W,_,_,_,rfl⟩; exact ⟨_,rfl⟩) λc hq ds sl hF=>?_
 obtain ⟨x,W,hW,hx,rfl,e⟩:=hF
 injection e with e
 subst e
 show aH c _ [.va (.int x),.va (.int (W:Nat)),.un] _ _
 conv in (aq _)=>whnf
 walk_at "ev"
 ·exact ⟨by lia,by lia,by decide⟩
 walk_at "ev"
 rw [Qt]
 refine e_x (dF hq (N':=["k","key","mask","width"]) (ρ0:=λ_=>[.un,.va (.int x),.va (.int (1 * 2 ^ W - 1)),.va (.int (W:Nat))]) (λt=>.un (.fr (by walk_at "at") (by walk_at "at") (by decide) rfl (.fr (by walk_at "at") (by walk_at "at") (by decide) rfl (.fr (by walk_at "at") (by walk_at "at") (by decide) rfl .nil)))) (Jd (Txt.range T) ?_))
 walk_at "ev"
 refine ⟨rfl,⟨⟨by decide,by decide⟩,⟨⟨by decide,by decide⟩,⟨by decide,?_⟩⟩⟩⟩
 refine ⟨(PZ 6).map λ(i:Nat)=>some (.int (x / (2 ^ W) ^ (5 - i) % 2 ^ W)),rfl,?_,dJ ?_⟩
 ·intro c' hc t i d o hd ho
  unfold A8 at hd
  simp only [Pk,Pq] at hd ho
  obtain ⟨a,ha,rfl⟩:=hd
  obtain ⟨a',ha',rfl⟩:=ho
  have hi:i<6:=by simpa using (Ph.mp ha').1
  rw [SO hi] at ha'; cases ha'
  rw [show (6 - 1 - -1:Int).toNat=6 by decide,SO hi] at ha; cases ha
  refine eO (by walk_at "at") (uL (by walk_at "sset") ⟨.un (.same (.same (.same .nil))),?_⟩)
  simp only [jV]
  refine ⟨λ_=>?_,λh=>by cases h⟩
  have e5:((W:Int) * (6 - 1 - (i:Int))).toNat=W * (5 - i):=by
   rw [show ((6:Int) - 1 - (i:Int))=((5 - i:Nat):Int) by lia,<- Int.natCast_mul,Qt]
  have e6:(0:Int)<=(W:Int) * (6 - 1 - (i:Int)):=Uy (by lia) (by lia)
  have hp:(0:Int)<(2 ^ W) ^ (5 - i):=Sa (two_pos W)
  walk_at "ev"
  ·exact qz (by lia)
  ·show some _=some (D.int _)
   rw [e5,Int.pow_mul,xX W (Int.ediv_nonneg hx (by lia))]
 ·refine ⟨_,rfl,?_⟩
  rw [fc (λ(i:Nat)=>D.int (x / (2 ^ W) ^ (5 - i) % 2 ^ W)) (PZ 6),show ((PZ 6).map λ(i:Nat)=>D.int (x / (2 ^ W) ^ (5 - i) % 2 ^ W))=((PZ 6).map λ(i:Nat)=>x / (2 ^ W) ^ (5 - i) % 2 ^ W).map D.int by rw [PX]; rfl]
  walk_at "ev"
  exact aC (BS (by simp)) rfl
end
noncomputable def rS (b:Int) (t:aD):D:=.tup [.int (pk b t.1),.int t.2]
noncomputable def v7:Fn:=λds r=>∃ (L:List aD) (W:Nat),W<=10/\L.length<=20000/\(∀ t∈L,Bd (2 ^ W) t.1)/\ds=[.lst (L.map av),.int (W:Nat)]/\r=.ok (.ow (L.map (rS (2 ^ W))))
theorem JG {L:List aD} (h:W<=10) (h1:L.length<=20000) (h2:∀ t∈L,Bd (2 ^ W) t.1):v7 [.lst (L.map av),.int (W:Nat)] (.ok (.ow (L.map (rS (2 ^ W))))):=⟨L,W,h,h1,h2,rfl,rfl⟩
section
local macro_rules | `(tactic| walk_at "evCa")=> `(tactic| first | with_reducible refine bh (F:=Ff) (by assumption) (by decide) ?_)
theorem Fi (Fu:dI K "packed" "packed" (top 6) f fd) (T:Txt K mg) (h1:cI P w K mg base 1 "key_of" Ff):bq P w K mg base (cK P w) 2 f fd ["some","width"] (dM K v7):=by
 refine cg Fu ym (by rintro ds r ⟨L,W,_,_,_,rfl,_⟩; rfl) (by rintro ds r ⟨L,W,_,_,_,_,rfl⟩; exact ⟨_,rfl⟩) λc hq ds sl hF=>?_
 obtain ⟨L,W,hW,hL,hb,rfl,e⟩:=hF
 injection e with e
 subst e
 show aH c _ [.va (.lst (L.map av)),.va (.int (W:Nat))] _ _
 conv in (aq _)=>whnf
 refine aN (eB (dF hq (N':=["powers","number","width"]) (ρ0:=λ_=>[.un,.un,.va (.int (W:Nat))]) (λt=>.un (.un (.fr (by walk_at "at") (by walk_at "at") (by decide) rfl .nil))) (cB ?_)))
 walk_at "ev"
 ·exact l6 (by rw [Pe]; lia)
 refine ⟨L.map λt=>some (rS (2 ^ W) t),by simp,?_,by show Sl.ow _=Sl.ow _; rw [fc]⟩
 intro c' hc t i d o hd ho
 simp only [Pk,Pq] at hd ho
 obtain ⟨x,hx,rfl⟩:=hd
 obtain ⟨x',hx',rfl⟩:=ho
 rw [hx] at hx'; cases hx'
 have hbx:=hb x (QI hx)
 show ku c' _ (.tup [.tup (x.1.map .int),.int x.2]) _ _
 walk_at "ev"
 refine ⟨.un (.un (.same .nil)),?_⟩
 simp only [jV]
 refine ⟨λ_=>?_,λh=>by cases h⟩
 walk_at "ev"
 refine aC (Mp hW hbx) ?_
 walk_at "ev"
 rfl
end
end
section
variable {P:Program} {w:World} {K:O7} {mg:Str->Option Value} {base:Heap}
noncomputable def JH:M4:=λkvs ds Z=>∃ (ts A B:List aD) (W:Nat),W<=10/\ts.length+A.length * B.length<=20000/\A.length<=20000/\B.length<=20000/\(∀ t∈ts,Bd (2 ^ W) t.1)/\(∀ l∈A,∀ r∈B,Bd (2 ^ W) (cz l.1 r.1)/\EV.MulOk l.2 r.2) /\
 kvs=cJ ((aX ts).map (fV (2 ^ W)))/\ds=[.lst (A.map (rS (2 ^ W))),.lst (B.map (rS (2 ^ W)))]/\Z=λkvs'=>kvs'=cJ ((aX (ts++aI A B)).map (fV (2 ^ W)))
section
local macro_rules | `(tactic| walk_at "evS")=> `(tactic| first | ((with_reducible show eV _ (Uv (RA (PK _ _) _ _) UG _ _) _ _ _); with_reducible refine uX (by walk_at "at") (by walk_at "at") ?_ (ho:=by walk_at "own")))
theorem JI (Fu:dI K "add_products" "add_products" (top 8) f fd) (T:Txt K mg):bq P w K mg base (cK P w) 1 f fd ["total","left","right"] (IW K JH):=by
 refine LX Fu jL (by rintro kvs ds Z ⟨t0,A,B,W,_,_,_,_,_,_,_,rfl,_⟩; rfl) λc hq q kvs ds Z hF=>?_
 obtain ⟨t0,A,B,W,hW,hl,hA,hB,hb0,hp,rfl,rfl,rfl⟩:=hF
 have e00:t0=t0++aI (A.take 0) B:=by show t0=t0++[]; rw [Qp]
 rw [show cJ ((aX t0).map (fV (2 ^ W)))=cJ ((aX (t0++aI (A.take 0) B)).map (fV (2 ^ W))) by rw [<- e00]]
 show aH c _ [.aK q (cJ ((aX (t0++aI (A.take 0) B)).map (fV (2 ^ W)))),.va (.lst (A.map (rS (2 ^ W)))),.va (.lst (B.map (rS (2 ^ W)))),.un,.un,.un,.un,.un] _ _
 conv in (aq _)=>whnf
 walk_at "ev"
 with_reducible refine cN hq (cB ?_)
 walk_at "ev"
 refine ⟨λi ρ'=>∃ s3 s4 s5 s6 s7:Sl,ρ'=[.aK q (cJ ((aX (t0++aI (A.take i) B)).map (fV (2 ^ W)))),.va (.lst (A.map (rS (2 ^ W)))),.va (.lst (B.map (rS (2 ^ W)))),s3,s4,s5,s6,s7],⟨_,_,_,_,_,rfl⟩,?_,?_⟩
 ·rintro c' lR wG wH i d ρ' hd ⟨s3,s4,s5,s6,s7,rfl⟩
  simp only [Pk,Pq] at hd
  obtain ⟨l,hlx,rfl⟩:=hd
  obtain ⟨hi,rfl⟩:=Ph.mp hlx
  have hq':c'.X.xe=λ_ _=>False:=by rw [lR]; exact hq
  show ku c' _ (.tup [.int (pk (2 ^ W) A[i].1),.int A[i].2]) _ _
  walk_at "ev"
  with_reducible refine cN hq' (cB ?_)
  walk_at "ev"
  have hpi:=hp A[i] (Qa hi)
  have e0:t0++aI (A.take (i+1)) B=(t0++aI (A.take i) B)++B.map (dP A[i]):=by
   rw [QE hi,nC,Pz]
  have hprev:∀ t∈t0++aI (A.take i) B,Bd (2 ^ W) t.1:=λt ht=>by
   rcases PD.mp ht with z | z
   ·exact hb0 t z
   ·obtain ⟨l,hl,r,hr,rfl⟩:=fW z
    exact (hp l (T3 hl) r hr).1
  have hlen:(t0++aI (A.take i) B).length+B.length<=20000:=by
   rw [P0,dz,Qk,S0 (by lia),Nat.add_assoc,<- Tg]
   exact Pw (Nat.add_le_add_left (Nat.mul_le_mul_right _ (by lia)) _) hl
  generalize A[i]=l at hpi e0 |-
  generalize t0++aI (A.take i) B=ts at e0 hprev hlen |-
  refine ⟨λj ρ'=>∃ s5 s6 s7:Sl,ρ'=[.aK q (cJ ((aX (ts++(B.take j).map (dP l))).map (fV (2 ^ W)))),.va (.lst (A.map (rS (2 ^ W)))),.va (.lst (B.map (rS (2 ^ W)))),.va (.int (pk (2 ^ W) l.1)),.va (.int l.2),s5,s6,s7],⟨s5,s6,s7,by simp⟩,?_,?_⟩
  ·rintro c2 hcX2 hcR2 hcM2 j d ρ' hd ⟨s5,s6,s7,rfl⟩
   simp only [Pk,Pq] at hd
   obtain ⟨r,hrx,rfl⟩:=hd
   obtain ⟨hj,rfl⟩:=Ph.mp hrx
   obtain ⟨hb,hm⟩:=hpi B[j] (Qa hj)
   have e1:ts++(B.take (j+1)).map (dP l)=(ts++(B.take j).map (dP l))++[dP l B[j]]:=by
    rw [QE hj,Px,Pz]; rfl
   have hprev2:∀ t∈ts++(B.take j).map (dP l),Bd (2 ^ W) t.1:=λt ht=>by
    rcases PD.mp ht with z | z
    ·exact hprev t z
    ·obtain ⟨r,hr,rfl⟩:=Pr.mp z
     exact (hpi r (T3 hr)).1
   have hlen2:(ts++(B.take j).map (dP l)).length<20000:=by
    rw [P0,Pe,Qk]; lia
   have key:=Ji (two_pos W) hprev2 (t:=dP l B[j]) hb
   rw [<- e1] at key
   generalize ts++(B.take j).map (dP l)=us at key hlen2 |-
   generalize B[j]=r at key hb hm |-
   show ku c2 _ (.tup [.int (pk (2 ^ W) r.1),.int r.2]) _ _
   have ek:pk (2 ^ W) (dP l r).1=pk (2 ^ W) l.1+pk (2 ^ W) r.1:=ES _ _ _
   rw [ek] at key
   have hC:(cJ ((aX us).map (fV (2 ^ W)))).length<sizeLine:=fF (by
    have:=gr us
    simp only [cJ,Pe]; lia)
   generalize (aX us).map (fV (2 ^ W))=C at key hC |-
   walk_at "ev"
   refine Gg (by walk_at "at") (by walk_at "at") ?_
   walk_at "ev"
   refine ⟨_,.k rfl rfl,?_⟩
   rw [iO]
   cases hv:bD C (pk (2 ^ W) l.1+pk (2 ^ W) r.1) with
   | some m =>
    rw [hv] at key
    show lP _ _ true
    walk_at "ev"
    refine ⟨m,by rw [<- show bD (cJ C) (.inl (pk (2 ^ W) l.1+pk (2 ^ W) r.1))=some (D.int m) by rw [iO,hv]; rfl]; exact .k rfl rfl,?_⟩
    walk_at "ev"
    refine ⟨_,.k rfl rfl hC,?_⟩
    walk_at "ev"
    refine ⟨.va (.int (pk (2 ^ W) r.1)),.va (.int r.2),.va (.int (pk (2 ^ W) l.1+pk (2 ^ W) r.1)),?_⟩
    show [Sl.aK q (putD (cJ C) (.inl (pk (2 ^ W) l.1+pk (2 ^ W) r.1)) (.int (m+l.2 * r.2))),_,_,_,_,_,_,_]=_
    rw [rC,show putD C (pk (2 ^ W) l.1+pk (2 ^ W) r.1) (m+l.2 * r.2)=_ from key]
   | none =>
    rw [hv] at key
    show lP _ _ false
    walk_at "ev"
    refine ⟨_,.k rfl rfl hC,?_⟩
    walk_at "ev"
    refine ⟨.va (.int (pk (2 ^ W) r.1)),.va (.int r.2),.va (.int (pk (2 ^ W) l.1+pk (2 ^ W) r.1)),?_⟩
    show [Sl.aK q (putD (cJ C) (.inl (pk (2 ^ W) l.1+pk (2 ^ W) r.1)) (.int (l.2 * r.2))),_,_,_,_,_,_,_]=_
    rw [rC,<- Tj (l.2 * r.2),show putD C (pk (2 ^ W) l.1+pk (2 ^ W) r.1) (0+l.2 * r.2)=_ from key]
  ·rintro ρ' ⟨s5,s6,s7,rfl⟩
   rw [Pe,QC,<- e0]
   walk_at "ev"
   exact ⟨_,_,_,_,_,rfl⟩
 ·rintro ρ' ⟨s3,s4,s5,s6,s7,rfl⟩
  rw [Pe,QC]
  walk_at "ev"
  exact ⟨_,_,rfl,rfl⟩
end
noncomputable def KC (C:List (Int×Int)):D:=.fdK ((cJ C).map (·.1)) ((cJ C).map (·.2))
theorem B7 (C):(cJ C).map (·.1)=(C.map (·.1)).map PV:=by unfold cJ; rw [PX,PX]; rfl
noncomputable def Fj:Fn:=λds r=>∃ (ts:List aD) (W:Nat),W<=10/\ts.length<=20000/\(∀ t∈ts,Bd (2 ^ W) t.1)/\ds=[KC ((aX ts).map (fV (2 ^ W))),.int (W:Nat)]/\r=.ok (.ow ((aQ ts).map av))
theorem Mq (h:W<=10) (h1:ts.length<=20000) (h2:∀ t∈ts,Bd (2 ^ W) t.1):Fj [KC ((aX ts).map (fV (2 ^ W))),.int (W:Nat)] (.ok (.ow ((aQ ts).map av))):=⟨ts,W,h,h1,h2,rfl,rfl⟩
theorem t8 (h:jH ltI true L):L.Pairwise λx y=>y<x:=by
 unfold jH at h
 exact h.imp λ{x y} q=>by simpa using q
section
local macro_rules | `(tactic| walk_at "evIx")=> `(tactic| with_reducible refine Jk ?_)
local macro_rules | `(tactic| walk_at "evCa")=> `(tactic| first | with_reducible refine bh (F:=v5) (by assumption) (by decide) ?_)
theorem JJ (Fu:dI K "unpacked" "unpacked" (top 7) f fd) (T:Txt K mg) (h1:cI P w K mg base 2 "powers_of" v5):bq P w K mg base (cK P w) 3 f fd ["total","width"] (dM K Fj):=by
 refine cg Fu rM (by rintro ds r ⟨ts,W,_,_,_,rfl,_⟩; rfl) (by rintro ds r ⟨ts,W,_,_,_,_,rfl⟩; exact ⟨_,rfl⟩) λc hq ds sl hF=>?_
 obtain ⟨ts,W,hW,hl,hb,rfl,e⟩:=hF
 injection e with e
 subst e
 show aH c _ [.va (KC ((aX ts).map (fV (2 ^ W)))),.va (.int (W:Nat))] _ _
 conv in (aq _)=>whnf
 refine aN (eB (dF hq (N':=["key","total","width"]) (ρ0:=λ_=>[.un,.va (KC ((aX ts).map (fV (2 ^ W)))),.va (.int (W:Nat))]) (λt=>.un (.fr (by walk_at "at") (by walk_at "at") (by decide) rfl (.fr (by walk_at "at") (by walk_at "at") (by decide) rfl .nil))) (cB (e_x (tH (Txt.sorted T) ?_)))))
 walk_at "ev"
 have hk:=eZ ts
 have hg:=oW hb
 have nd:(((aX ts).map (fV (2 ^ W))).map (·.1)).Nodup:=by
  rw [PX]
  unfold Tu at hk |-
  rw [SS] at hk |-
  exact VB.imp_of_mem (λ{x y} hx hy q z=>q (tM (two_pos W) (hg x hx).1 (hg y hy).1 (hg x hx).2 (hg y hy).2 z)) hk
 refine ⟨((aX ts).map (fV (2 ^ W))).map (·.1),_,by rw [<- B7]; rfl,nd,λL' hp hs=>?_⟩
 have eL:=Be (two_pos W) hb hp (t8 hs)
 subst eL
 have hle:=gr ts
 have hpl:=(bY (aX ts)).length_eq
 refine dJ (LM rfl ⟨l6 (by simp only [Pe]; lia),(iK (aX ts)).map BY,by simp,?_,?_⟩)
 ·intro c' hc t i d o hd ho
  simp only [Pk,Pq] at hd ho
  obtain ⟨n,⟨x,hx,rfl⟩,rfl⟩:=hd
  obtain ⟨x',hx',rfl⟩:=ho
  rw [hx] at hx'; cases hx'
  have hm:x∈aX ts:=(bY (aX ts)).subset (QI hx)
  have hv:bD (cJ ((aX ts).map (fV (2 ^ W)))) (.inl (pk (2 ^ W) x.1))=some (.int x.2):=by
   rw [iO,tN (two_pos W) hg (hg x hm).1 (hg x hm).2,vN hk hm]; rfl
  refine eO (by walk_at "at") (uL (by walk_at "sset") ⟨.un (.same (.same .nil)),?_⟩)
  simp only [jV]
  have h0:=(L8 (two_pos W) (hg x hm).1).1
  walk_at "ev"
  refine ⟨_,_,_,rfl,rfl,hv,?_⟩
  walk_at "ev"
  ·unfold BY; rw [if_neg λh=>h (by assumption)]
  refine aC (JF hW h0) ?_
  rw [Jf (two_pos W) (hg x hm).1,(hg x hm).2]
  walk_at "ev"
  refine ⟨_,_,_,rfl,rfl,hv,?_⟩
  walk_at "ev"
  unfold BY
  rw [if_pos (by assumption)]
 ·show Sl.ow _=Sl.ow _
  rw [j4,IT (keys_nodup hk)]
  rfl
end
structure iT (A B:List aD):Prop where
 la:A.length<=20000
 lb:B.length<=20000
 lp:A.length * B.length<=20000
 pa:∀ t∈A,t.1.length<=6/\∀ x∈t.1,0<=x/\x<=500
 pb:∀ t∈B,t.1.length<=6/\∀ x∈t.1,0<=x/\x<=500
 mu:∀ l∈A,∀ r∈B,EV.MulOk l.2 r.2
theorem v8:∀ {L:List aD} (a:Int),a<=m->(∀ t∈L,bR t.1 k<=m)->L.foldl (λa t=>if bR t.1 k>a then bR t.1 k else a) a<=m
 | [],_,h,_=>h
 | t::L,a,h,q=>by
  rw [QK]
  have:=q t Po
  exact v8 _ (by split <;> lia) λu hu=>q u (Pj _ hu)
theorem B8 (h0:0<=m) (h:∀ t∈L,∀ x∈t.1,x<=m):C1 (d7 L)<=m:=by
 refine t6 h0 λn hn=>?_
 unfold d7 at hn
 obtain ⟨k,_,rfl⟩:=Pr.mp hn
 refine v8 0 h0 λt ht=>?_
 by_cases z:k<t.1.length
 ·rw [dG z]; exact h t ht _ (Qa _)
 ·rw [cS (by lia)]; exact h0
theorem B9 (ht:t∈L) (hl:t.1.length<=6) (hx:x∈t.1):x<=C1 (d7 L):=by
 obtain ⟨k,hk,rfl⟩:=List.getElem_of_mem hx
 refine P4 ?_ (B5 (show gk L k∈d7 L from Pr.mpr ⟨k,by simp; lia,rfl⟩))
 unfold gk
 rw [<- dG hk]
 suffices H:∀ a:Int,bR t.1 k<=L.foldl (λa t=>if bR t.1 k>a then bR t.1 k else a) a from H 0
 induction L with
 | nil=>cases ht
 | cons u L ih =>
  intro a
  rw [QK]
  rcases Pg.mp ht with rfl | ht
  ·refine P4 ?_ (vZ L k _)
   split <;> lia
  ·exact ih ht _
theorem Fl (h:0<=x):x<2 ^ QJ x:=by
 unfold QJ
 by_cases z:x=0
 ·subst z; decide
 ·have e:(x == 0)=false:=by simpa using z
  rw [e,if_neg Pn,gv]
  have:=Nat.lt_log2_self (n:=x.natAbs)
  lia
theorem bits_le (h:x.natAbs<1024):QJ x<=10:=by
 unfold QJ
 by_cases z:x=0
 ·subst z; decide
 ·have e:(x == 0)=false:=by simpa using z
  rw [e,if_neg Pn]
  have:=(Nat.log2_lt (n:=x.natAbs) (k:=10) (by lia)).mpr h
  lia
end
section
variable {K:O7}
theorem v9 (n):(lZ 0 n).length=n:=by simp [lZ]
theorem yx (L) (t):L.map av++[av t]=(L++[t]).map av:=by rw [Px]; rfl
noncomputable def pK:Fn:=λds r=>∃ A B:List aD,iT A B/\ds=[.lst (A.map av),.lst (B.map av)]/\r=.ok (.ow ((aQ (aI A B)).map av))
theorem Fo (h:iT A B):pK [.lst (A.map av),.lst (B.map av)] (.ok (.ow ((aQ (aI A B)).map av))):=⟨A,B,h,rfl,rfl⟩
theorem yy (n):(Pu n [D.int 0]).flatten=(Pu n (0:Int)).map D.int:=by
 induction n with
 | zero=>rfl
 | succ n ih=>rw [Rb,RY,ih,Rb]; rfl
theorem Ca (h:k<n) (hp:p.length<=n):jR (p.map D.int++(Pu n [D.int 0]).flatten) (k:Int)=some (.int (bR p k)):=by
 rw [yy,<- Px,iB (by lia) (by simp; lia),Qt,Pk]
 by_cases z:k<p.length
 ·rw [Rt z,PU z,dG z]; rfl
 ·rw [Sk (by lia),UT,if_pos (by lia),cS (by lia)]; rfl
section
local macro_rules | `(tactic| walk_at "evBo")=> `(tactic| first | ((with_reducible show aL _ (Expr.BinOp (Expr.Tuple _ _ _) Operator.Mult _ _) _ _); with_reducible refine Je ?_))
local macro_rules | `(tactic| walk_at "evCa")=> `(tactic| first
 | ((with_reducible show aL _ (Qh (PK "max" _) [_,_] _ _) _ _); with_reducible refine A3 (Txt.max (by assumption)) ?_))
theorem Cb (Fu:dI K "_law_product" "_law_product" (top 30) f fd) (T:Txt K mg) (h1:cI P w K mg base 2 "_law_sum" f6):bq P w K mg base (cK P w) 3 f fd ["_law_one","_law_other"] (dM K pK):=by
 refine cg Fu pF (by rintro ds r ⟨A,B,_,rfl,_⟩; rfl) (by rintro ds r ⟨A,B,_,_,rfl⟩; exact ⟨_,rfl⟩) λc hq ds sl hF=>?_
 obtain ⟨A,B,h,rfl,e⟩:=hF
 injection e with e
 subst e
 show aH c _ [.va (.lst (A.map av)),.va (.lst (B.map av)),.un,.un,.un,.un,.un,.un,.un] _ _
 conv in (aq _)=>whnf
 walk_at "ev"
 show eV c _ [.va (.lst (A.map av)),.va (.lst (B.map av)),.ow ((aI (A.take 0) B).map av),.un,.un,.un,.un,.un,.un] _ _
 with_reducible refine cN hq (cB ?_)
 walk_at "ev"
 refine ⟨λi ρ'=>∃ s3 s4 s5 s6 s7 s8:Sl,ρ'=[.va (.lst (A.map av)),.va (.lst (B.map av)),.ow ((aI (A.take i) B).map av),s3,s4,s5,s6,s7,s8],⟨_,_,_,_,_,_,rfl⟩,?_,?_⟩
 ·rintro c' lR wG wH i d ρ' hd ⟨s3,s4,s5,s6,s7,s8,rfl⟩
  simp only [Pk,Pq] at hd
  obtain ⟨l,hlx,rfl⟩:=hd
  obtain ⟨hi,rfl⟩:=Ph.mp hlx
  have hq':c'.X.xe=λ_ _=>False:=by rw [lR]; exact hq
  show ku c' _ (.tup [.tup (A[i].1.map .int),.int A[i].2]) _ _
  walk_at "ev"
  with_reducible refine cN hq' (cB ?_)
  walk_at "ev"
  have hm:=h.mu A[i] (Qa hi)
  have h6:=(h.pa A[i] (Qa hi)).1
  have e0:aI (A.take (i+1)) B=aI (A.take i) B++B.map (dP A[i]):=by
   rw [QE hi,nC]
  have hlen:(aI (A.take i) B).length+B.length<=20000:=by
   rw [dz,Qk,S0 (by lia),<- Tg]
   exact Pw (Nat.mul_le_mul_right _ (by lia)) h.lp
  generalize A[i]=l at hm h6 e0 |-
  generalize aI (A.take i) B=ts at e0 hlen |-
  refine ⟨λj ρ'=>∃ s5 s6 s7 s8:Sl,ρ'=[.va (.lst (A.map av)),.va (.lst (B.map av)),.ow ((ts++(B.take j).map (dP l)).map av),.va (.tup (l.1.map .int)),.va (.int l.2),s5,s6,s7,s8],⟨s5,s6,s7,s8,by simp⟩,?_,?_⟩
  ·rintro c2 hcX2 hcR2 hcM2 j d ρ' hd ⟨s5,s6,s7,s8,rfl⟩
   simp only [Pk,Pq] at hd
   obtain ⟨r,hrx,rfl⟩:=hd
   obtain ⟨hj,rfl⟩:=Ph.mp hrx
   have hmr:=hm B[j] (Qa hj)
   have h6r:=(h.pb B[j] (Qa hj)).1
   have hq2:c2.X.xe=λ_ _=>False:=by rw [hcX2]; exact hq'
   have e1:ts++(B.take (j+1)).map (dP l)=(ts++(B.take j).map (dP l))++[dP l B[j]]:=by
    rw [QE hj,Px,Pz]; rfl
   have hlen2:((ts++(B.take j).map (dP l)).map av).length<sizeLine:=fF (by
    rw [Pe,P0,Pe,Qk]; lia)
   generalize ts++(B.take j).map (dP l)=us at e1 hlen2 |-
   generalize B[j]=r at hmr h6r e1 |-
   show ku c2 _ (.tup [.tup (r.1.map .int),.int r.2]) _ _
   walk_at "ev"
   have ew:(if ((r.1.map D.int).length:Int)>((l.1.map D.int).length:Int) then ((r.1.map D.int).length:Int) else ((l.1.map D.int).length:Int))=((max l.1.length r.1.length:Nat):Int):=by simp only [Pe]; split <;> lia
   rw [ew]
   have hw6:max l.1.length r.1.length<=6:=by lia
   refine Il (by walk_at "at") hq2 (N':=["_law_k","_law_left","_law_right","_law_wide"]) (ρ0:=λ_=>[.un,.va (.tup (l.1.map .int)),.va (.tup (r.1.map .int)),.va (.int ((max l.1.length r.1.length:Nat):Int))]) (λt=>.un (.fr (by walk_at "at") (by walk_at "at") (by decide) rfl (.fr (by walk_at "at") (by walk_at "at") (by decide) rfl (.fr (by walk_at "at") (by walk_at "at") (by decide) rfl .nil)))) (fO (Txt.range T) ?_)
   walk_at "ev"
   ·exact ⟨by lia,by lia⟩
   ·rw [v9]; exact l6 (by lia)
   refine ⟨(PZ (max l.1.length r.1.length)).map λk=>some (.int (bR l.1 k+bR r.1 k)),by simp [v9],?_,?_⟩
   ·intro c3 hc3 t k d o hd ho
    rw [Qt] at hd
    obtain ⟨hk,rfl⟩:=iC hd
    rw [Pk,SO hk] at ho
    cases ho
    refine eO (by walk_at "at") (uL (by walk_at "sset") ⟨.un (.same (.same (.same .nil))),?_⟩)
    simp only [jV]
    refine ⟨λ_=>?_,λh=>by cases h⟩
    walk_at "ev"
    refine ⟨_,_,rfl,rfl,⟨⟨by simp,by lia,by lia,?_⟩,?_⟩⟩
    ·exact l6 (by simp; lia)
    rw [Qt]
    walk_at "ev"
    ·exact l6 (by simp; lia)
    refine qm (Ca (p:=l.1) hk (by lia)) ?_
    walk_at "ev"
    refine ⟨_,_,rfl,rfl,⟨⟨by simp,by lia,by lia,?_⟩,?_⟩⟩
    ·exact l6 (by simp; lia)
    rw [Qt]
    walk_at "ev"
    ·exact l6 (by simp; lia)
    refine qm (Ca (p:=r.1) hk (by lia)) ?_
    walk_at "ev"
    rfl
   ·rw [fc (λk=>D.int (bR l.1 k+bR r.1 k)),show (PZ (max l.1.length r.1.length)).map (λk=>D.int (bR l.1 k+bR r.1 k))=(cz l.1 r.1).map D.int by unfold cz; rw [PX]; rfl]
    walk_at "ev"
    ·exact iy _
    refine ⟨.va (.tup (r.1.map .int)),.va (.int r.2),.va (.int ((max l.1.length r.1.length:Nat):Int)),.ow ((cz l.1 r.1).map .int),?_⟩
    show [_,_,Sl.ow _,_,_,_,_,_,_]=_
    rw [e1,<- yx]
    rfl
  ·rintro ρ' ⟨s5,s6,s7,s8,rfl⟩
   rw [Pe,QC,<- e0]
   walk_at "ev"
   exact ⟨_,_,_,_,_,_,rfl⟩
 ·rintro ρ' ⟨s3,s4,s5,s6,s7,s8,rfl⟩
  rw [Pe,QC]
  refine aN (eB (Gh 2 (by walk_at "at") rfl (by walk_at "sset") (x_call (F:=f6) (by assumption) (by decide) ?_)))
  walk_at "ev"
  refine aC (lF (by rw [dz]; exact h.lp) λt ht=>?_) ⟨fu λx _=>pI x,rfl⟩
  obtain ⟨l,hl,r,hr,rfl⟩:=fW ht
  show (cz l.1 r.1).length<=64
  have:=(h.pa l hl).1
  have:=(h.pb r hr).1
  rw [iP]; lia
end
end
section
variable {P:Program} {w:World} {K:O7} {mg:Str->Option Value} {base:Heap}
noncomputable abbrev Part:=Int×List (List aD)
noncomputable def au (A:List aD):D:=.lst (A.map av)
noncomputable def f7 (p:Part):D:=.tup (.int p.1::p.2.map au)
noncomputable def iU (n:Int) (As:List (List aD)):List aD:=As.foldl aI (cT n)
noncomputable def dQ (ps:List Part):List aD:=ps.flatMap λp=>iU p.1 p.2
noncomputable def aZ (As:List (List aD)):Nat:=(As.map λA=>max A.length 1).foldr (· * ·) 1
noncomputable def lQ (A:List aD):Int:=C1 (d7 A)
noncomputable def gU (As:List (List aD)):MP:=(As.map mp).foldr (· * ·) 1
theorem Cc (As):∀ L:List aD,mp (As.foldl aI L)=mp L * gU As:=by
 induction As with
 | nil=>intro L; show mp L=mp L * 1; grind
 | cons A As ih =>
  intro L
  rw [QK,ih,o7]
  show _=mp L * (mp A * gU As)
  grind
theorem fK (n) (As):mp (iU n As)=(n:MP) * gU As:=by unfold iU; rw [Cc,o8]
theorem Cd (h:As.Perm Bs):gU As=gU Bs:=by
 induction h with
 | nil=>rfl
 | cons x _ ih=>exact congrArg (mp x * ·) ih
 | swap x y l=>show mp y * (mp x * gU l)=mp x * (mp y * gU l); grind
 | trans _ _ a b=>rw [a,b]
theorem Ce (As) (A):gU (As++[A])=gU As * mp A:=by
 induction As with
 | nil=>show mp A * 1=1 * mp A; grind
 | cons B As ih=>show mp B * gU (As++[A])=mp B * gU As * mp A; rw [ih]; grind
theorem yz (h:As.Perm Bs):aZ As=aZ Bs:=by
 unfold aZ
 induction h with
 | nil=>rfl
 | cons x _ ih=>simp only [Pd,Rx] at ih |-; rw [ih]
 | swap x y l=>simp only [Pd,Rx]; rw [Nat.mul_left_comm]
 | trans _ _ a b=>rw [a,b]
theorem yC (As) (A):aZ (As++[A])=aZ As * max A.length 1:=by
 unfold aZ
 induction As with
 | nil=>simp
 | cons B As ih=>simp only [QG,Pd,Rx] at ih |-; rw [ih,Nat.mul_assoc]
theorem Cf (As):1<=aZ As:=by
 unfold aZ
 induction As with
 | nil=>exact Pa _
 | cons B As ih=>simp only [Pd,Rx]; exact Rz (m₁:=1) (n₁:=1) (by lia) ih
theorem yD (As) (i):aZ (As.take i)<=aZ As:=by
 induction As generalizing i with
 | nil=>simp
 | cons B As ih =>
  cases i with
  | zero=>exact Cf _
  | succ i =>
   have:=ih i
   unfold aZ at *
   simp only [List.take_succ_cons,Pd,Rx]
   exact Nat.mul_le_mul_left _ this
def Ex (m:Int) (L:List aD):Prop:=∀ t∈L,t.1.length<=6/\∀ x∈t.1,0<=x/\x<=m
def Bn (m:Nat) (L:List aD):Prop:=∀ t∈L,t.2.natAbs<2 ^ m
theorem Ex.bd (h:Ex m L) (hm:m<2 ^ W):∀ t∈L,Bd (2 ^ W) t.1:=λt ht=>⟨(h t ht).1,λx hx=>⟨((h t ht).2 x hx).1,T9 ((h t ht).2 x hx).2 hm⟩⟩
theorem Cg (h0:0<=m) (h:∀ x∈p,0<=x/\x<=m) (k):0<=bR p k/\bR p k<=m:=by
 by_cases z:k<p.length
 ·rw [dG z]; exact h _ (Qa _)
 ·rw [cS (by lia)]; lia
theorem Fq (h0:0<=m) (g0:0<=n) (hp:p.length<=6/\∀ x∈p,0<=x/\x<=m) (hq:q.length<=6/\∀ x∈q,0<=x/\x<=n):(cz p q).length<=6/\∀ x∈cz p q,0<=x/\x<=m+n:=by
 refine ⟨by rw [iP]; lia,λx hx=>?_⟩
 unfold cz at hx
 obtain ⟨k,_,rfl⟩:=Pr.mp hx
 have:=Cg h0 hp.2 k
 have:=Cg g0 hq.2 k
 lia
theorem Ex.prod (h0:0<=m) (g0:0<=n) (h:Ex m A) (g:Ex n B):Ex (m+n) (aI A B):=λt ht=>by
 obtain ⟨l,hl,r,hr,rfl⟩:=fW ht
 exact Fq h0 g0 (h l hl) (g r hr)
theorem Ex.sum (h:Ex m L):Ex m (aX L):=by
 unfold aX
 suffices H:∀ (ts A:List aD),Ex m A->Ex m ts->Ex m (ts.foldl fE A) from H L [] (λt ht=>by cases ht) h
 intro ts
 induction ts with
 | nil=>exact λA hA _=>hA
 | cons u ts ih =>
  refine λA hA hts=>ih _ (λt ht=>?_) λt ht=>hts t (Pj _ ht)
  rcases rG ht with rfl | q
  ·have:=hts u Po
   exact ⟨Pw (fT _) this.1,λx hx=>this.2 x (rB hx)⟩
  ·exact hA t q
theorem Ex.mono (h:Ex m L) (hn:m<=n):Ex n L:=λt ht=>⟨(h t ht).1,λx hx=>⟨((h t ht).2 x hx).1,P4 ((h t ht).2 x hx).2 hn⟩⟩
theorem Ex.app (h:Ex m A) (g:Ex m B):Ex m (A++B):=λt ht=>(PD.mp ht).elim (h t) (g t)
theorem Bn.mono (h:Bn m L) (hn:m<=n):Bn n L:=λt ht=>Qo (h t ht) (Nat.pow_le_pow_right (by decide) hn)
theorem Bn.prod (h:Bn m A) (g:Bn n B):Bn (m+n) (aI A B):=λt ht=>by
 obtain ⟨l,hl,r,hr,rfl⟩:=fW ht
 show (l.2 * r.2).natAbs<_
 rw [Int.natAbs_mul,Nat.pow_add]
 exact Nat.mul_lt_mul'' (h l hl) (g r hr)
theorem Bn.sum (h:Bn m L) (hl:L.length<2 ^ 16):Bn (m+16) (aX L):=λt ht=>by
 have:=Jm (m:=2 ^ m) (λt ht=>RG (h t ht)) t ht
 refine Ro this ?_
 rw [Nat.pow_add,UH]
 exact Nat.mul_lt_mul_of_pos_left hl (Nat.two_pow_pos m)
theorem wc (h:a.natAbs<2 ^ m):QJ a<=m+1:=by
 unfold QJ
 by_cases z:a=0
 ·subst z; simp
 ·have e:(a == 0)=false:=by simpa using z
  rw [e,if_neg Pn]
  have:=(Nat.log2_lt (n:=a.natAbs) (k:=m) (by lia)).mpr h
  lia
theorem pM (h:a.natAbs<2 ^ m) (g:b.natAbs<2 ^ n) (hm:m+n<=1000000):EV.MulOk a b:=by
 have h1:=wc h
 have h2:=wc g
 unfold EV.MulOk IntMulOk Builtin.Int.intTooBig bitsLine
 have e:decide (((QJ a+QJ b:Nat):Int)>((2 ^ 27:Nat):Int))=false:=by
  apply decide_eq_false
  rw [show (2:Nat) ^ 27=134217728 by decide]
  lia
 simp only [SX]
 rintro ⟨_,z⟩
 have z':=of_decide_eq_true z
 rw [show (2:Nat) ^ 27=134217728 by decide] at z'
 lia
structure cA (A:List aD):Prop where
 l:A.length<=20000
 e:Ex 120 A
 b:Bn 2000 A
structure bX (p:Part):Prop where
 n:p.1.natAbs<2 ^ 2000
 m:p.2.length<=8
 f:∀ A∈p.2,cA A
structure bH (ps:List Part):Prop where
 p:∀ p∈ps,bX p
 l:ps.length<=1000
 s:(ps.map λp=>aZ p.2).sum<=20000
theorem Ci (A):0<=lQ A:=GH _
theorem cA.mx (h:cA A):lQ A<=120:=B8 (by decide) λt ht x hx=>((h.e t ht).2 x hx).2
theorem cA.ex (h:cA A):Ex (lQ A) A:=λt ht=>⟨(h.e t ht).1,λx hx=>⟨((h.e t ht).2 x hx).1,B9 ht (h.e t ht).1 hx⟩⟩
noncomputable def pR (p:Part):Int:=(p.2.map lQ).sum
theorem we (As:List (List aD)):0<=(As.map lQ).sum:=by
 induction As with
 | nil=>exact QH _
 | cons A As ih=>rw [Pd,SA]; have:=Ci A; lia
theorem bX.sz (h:bX p):pR p<=960:=by
 have:∀ As:List (List aD),(∀ A∈As,cA A)->(As.map lQ).sum<=120 * As.length:=λAs=>by
  induction As with
  | nil=>exact λ_=>by simp
  | cons A As ih =>
   intro hA
   have:=ih λB hB=>hA B (Pj _ hB)
   have:=(hA A Po).mx
   rw [Pd,SA,Qg]; lia
 have h1:=this p.2 h.f
 have h2:=h.m
 unfold pR
 lia
noncomputable def f9 (ps:List Part):Int:=ps.foldl (λm p=>if pR p>m then pR p else m) 0
theorem nF (ps:List Part):∀ m:Int,m<=ps.foldl (λm p=>if pR p>m then pR p else m) m:=by
 induction ps with
 | nil=>exact λm=>QH _
 | cons p ps ih=>intro m; rw [QK]; refine P4 ?_ (ih _); split <;> lia
theorem Ft (h:p∈ps):pR p<=f9 ps:=by
 unfold f9
 suffices H:∀ m:Int,pR p<=ps.foldl (λm p=>if pR p>m then pR p else m) m from H 0
 induction ps with
 | nil=>cases h
 | cons q ps ih =>
  intro m
  rw [QK]
  rcases Pg.mp h with rfl | h
  ·refine P4 ?_ (nF ps _)
   split <;> lia
  ·exact ih h _
theorem Fv (h:∀ p∈ps,bX p):f9 ps<=960:=by
 unfold f9
 suffices H:∀ m:Int,m<=960->ps.foldl (λm p=>if pR p>m then pR p else m) m<=960 from H 0 (by decide)
 induction ps with
 | nil=>exact λm hm=>hm
 | cons q ps ih =>
  intro m hm
  rw [QK]
  refine ih (λp hp=>h p (Pj _ hp)) _ ?_
  have:=(h q Po).sz
  split <;> lia
noncomputable def Cj (ps:List Part):Nat:=QJ (f9 ps)
theorem Fw (h:∀ p∈ps,bX p):Cj ps<=10/\∀ p∈ps,pR p<2 ^ Cj ps:=by
 have h0:0<=f9 ps:=nF ps 0
 have h1:=Fv h
 exact ⟨bits_le (by lia),λp hp=>T9 (Ft hp) (Fl h0)⟩
theorem iV (x:α) (xs):EV.cutD (x::xs) (some 1) none=xs:=by
 unfold EV.cutD HT.b9; simp
noncomputable def Fx:Fn:=λds r=>∃ ps:List Part,(∀ p∈ps,bX p)/\ds=[.lst (ps.map f7)]/\r=.ok (.va (.int (Cj ps:Nat)))
theorem Mr (h:∀ p∈ps,bX p):Fx [.lst (ps.map f7)] (.ok (.va (.int (Cj ps:Nat)))):=⟨ps,h,rfl,rfl⟩
section
local macro_rules | `(tactic| walk_at "evMt")=> `(tactic| with_reducible refine IX ?_)
local macro_rules | `(tactic| walk_at "evCa")=> `(tactic| first
 | ((with_reducible show aL _ (Qh (PK "max" _) [_] _ _) _ _); with_reducible refine IZ (Txt.max (by assumption)) ?_)
 | ((with_reducible show aL _ (Qh (PK "max" _) [_,_] _ _) _ _); with_reducible refine A3 (Txt.max (by assumption)) ?_)
 | ((with_reducible show aL _ (Qh (PK "sum" _) _ _ _) _ _); with_reducible refine I0 (Txt.sum (by assumption)) ?_)
 | with_reducible refine bh (F:=pJ) (by assumption) (by decide) ?_)
theorem JK (Fu:dI K "width_of" "width_of" (top 10) f fd) (T:Txt K mg) (h1:cI P w K mg base 1 "greatest_powers" pJ):bq P w K mg base (cK P w) 2 f fd ["parts"] (dM K Fx):=by
 refine cg Fu rN (by rintro ds r ⟨ps,_,rfl,_⟩; rfl) (by rintro ds r ⟨ps,_,_,rfl⟩; exact ⟨_,rfl⟩) λc hq ds sl hF=>?_
 obtain ⟨ps,hp,rfl,e⟩:=hF
 injection e with e
 subst e
 show aH c _ [.va (.lst (ps.map f7)),.un,.un] _ _
 conv in (aq _)=>whnf
 walk_at "ev"
 with_reducible refine cN hq (cB ?_)
 walk_at "ev"
 refine ⟨λi ρ'=>∃ s2:Sl,ρ'=[.va (.lst (ps.map f7)),.va (.int (f9 (ps.take i))),s2],⟨_,rfl⟩,?_,?_⟩
 ·rintro c' lR wG wH i d ρ' hd ⟨s2,rfl⟩
  simp only [Pk,Pq] at hd
  obtain ⟨p,hpx,rfl⟩:=hd
  obtain ⟨hi,rfl⟩:=Ph.mp hpx
  have hpo:=hp ps[i] (Qa hi)
  have eg:f9 (ps.take (i+1))=if pR ps[i]>f9 (ps.take i) then pR ps[i] else f9 (ps.take i):=by
   unfold f9; rw [QE hi,Uc]; rfl
  generalize ps[i]=p at hpo eg |-
  show ku c' _ (.tup (.int p.1::p.2.map au)) _ _
  walk_at "ev"
  refine e_x (dF (show c'.X.xe=gE by rw [lR]; exact hq) (N':=["some"]) (ρ0:=λ_=>[.un]) (λt=>.un .nil) (cB ?_))
  walk_at "ev"
  ·rw [iV,Pe]; exact l6 (by have:=hpo.m; lia)
  rw [iV]
  refine ⟨p.2.map λA=>some (.int (lQ A)),by simp,?_,dJ ?_⟩
  ·intro c2 hc2 t j d o hd ho
   simp only [Pk,Pq] at hd ho
   obtain ⟨A,hA,rfl⟩:=hd
   obtain ⟨A',hA',rfl⟩:=ho
   rw [hA] at hA'; cases hA'
   have hf:=hpo.f A (QI hA)
   refine eO (by walk_at "at") (uL (by walk_at "sset") ⟨.un .nil,?_⟩)
   simp only [jV]
   refine ⟨λ_=>?_,λh=>by cases h⟩
   show aL c2 _ [.va (.lst (A.map av))] _
   walk_at "ev"
   refine aC (Fe λt ht=>(hf.e t ht).1) (dJ ⟨d7 A,by simp [d7],rfl,λm ⟨m1,m2⟩=>?_⟩)
   rw [B6 m1 m2]; rfl
  ·rw [fc]
   refine ⟨p.2.map lQ,by rw [PX]; rfl,?_⟩
   walk_at "ev"
   refine ⟨.va (f7 p),?_⟩
   rw [eg]; rfl
 ·rintro ρ' ⟨s2,rfl⟩
  rw [Pe,QC]
  walk_at "ev"
  rfl
end
end
section
variable {P:Program} {w:World} {K:O7} {mg:Str->Option Value} {base:Heap}
theorem Fy (x:α) (xs):jR (x::xs) 0=some x:=by rw [iB (by decide) (by simp)]; rfl
theorem JL (b):pk b []=0:=(iM (g:=λ_=>0) λi _=>cS (PY _)).trans (iN _)
theorem GI (b n):(cT n).map (rS b)=[.tup [.int 0,.int n]]:=by show [D.tup [.int (pk b []),.int n]]=_; rw [JL]
theorem Ck (xs:List α):EV.cutD xs none (some (-1))=xs.dropLast:=by
 unfold EV.cutD HT.b9
 rw [U3]
 simp only [List.drop_zero]
 congr 1
 split <;> lia
theorem Fz (xs) (x:α):jR (xs++[x]) (-1)=some x:=by
 rw [u9 (by decide) (by simp; lia),show (-1+((xs++[x]).length:Int)).toNat=xs.length by simp; lia]
 simp
noncomputable def Na (b:Int) (A:List aD):D:=.lst (A.map (rS b))
theorem Cm {α β:Type} {f:α->β} {L:List α} {M:List β} (h:M.Perm (L.map f)):∃ L':List α,L'.Perm L/\M=L'.map f:=by
 have p:∀ L:List α,Paired (λa b=>b=f a) L (L.map f):=λL=>by
  induction L with
  | nil=>exact .nil
  | cons x L ih=>exact .cons rfl ih
 obtain ⟨L',h1,h2⟩:=SR.fS h (p L)
 refine ⟨L',h1,?_⟩
 clear h1 h p
 induction h2 with
 | nil=>rfl
 | cons r _ ih=>rw [r,ih]; rfl
theorem yE (C):(KC C).pairs=some (C.map λc=>D.tup [.int c.1,.int c.2]):=by
 show some _=some _
 congr 1
 unfold cJ
 rw [PX,PX,Uj,Ua]
 rfl
theorem yF (b) (L:List aD):(KC (L.map (fV b))).pairs=some (L.map (rS b)):=by
 rw [yE,PX]; rfl
theorem JM (b) (L:List aD):D.om (L.map (rS b)):=fu λx _=>oq (by unfold D.om; exact ⟨jb,by unfold D.om; exact ⟨jb,by unfold D.om; trivial⟩⟩)
structure Way (n:Int) (As:List (List aD)) (L:List aD):Prop where
 m:mp L=(n:MP) * gU As
 l:L.length<=aZ As
 e:Ex (As.map lQ).sum L
 b:Bn (2000+2016 * As.length) L
theorem FA {n:Int} (h:n.natAbs<2 ^ 2000):Way n [] (cT n) where
 m:=by rw [o8]; show _=_ * (1:MP); grind
 l:=Pa _
 e:=λt ht=>by
  have:t=([],n):=by simpa [cT] using ht
  subst this
  exact ⟨PY _,λx hx=>by cases hx⟩
 b:=λt ht=>by
  have:t=([],n):=by simpa [cT] using ht
  subst this
  exact h
theorem uc:cA (cT 1) where
 l:=by show (1:Nat)<=_; lia
 e:=λt ht=>by
  have:t=([],1):=by simpa [cT] using ht
  subst this
  exact ⟨PY _,λx hx=>by cases hx⟩
 b:=λt ht=>by
  have:t=([],1):=by simpa [cT] using ht
  subst this
  exact Vb (by decide)
theorem yG (As) (A):((As++[A]).map lQ).sum=(As.map lQ).sum+lQ A:=by
 rw [Px,Sz]; simp
theorem lG (h:Way n As L) (f:cA A):mp (aI L A)=(n:MP) * gU (As++[A])/\(aI L A).length<=aZ (As++[A])/\Ex ((As++[A]).map lQ).sum (aI L A)/\Bn (2000+2016 * As.length+2000) (aI L A):=by
 refine ⟨?_,?_,?_,h.b.prod f.b⟩
 ·rw [o7,h.m,Ce]; grind
 ·rw [dz,yC]; exact Rz h.l (by lia)
 ·rw [yG]; exact Ex.prod (we _) (Ci _) h.e f.ex
theorem Cn (h:Way n As L) (f:cA A) (hl:aZ (As++[A])<=20000):Way n (As++[A]) (aX (aI L A)):=by
 obtain ⟨h1,h2,h3,h4⟩:=lG h f
 refine ⟨by rw [Jv,h1],Pw (gr _) h2,h3.sum,(h4.sum (Ro (Pw h2 hl) (by decide))).mono ?_⟩
 rw [P0,RV]; lia
theorem Co {As Bs:List (List aD)} (h:As.Perm Bs):(As.map lQ).sum=(Bs.map lQ).sum:=by
 induction h with
 | nil=>rfl
 | cons x _ ih=>rw [Pd,SA,Pd,SA,ih]
 | swap x y l=>simp only [Pd,SA]; lia
 | trans _ _ a b=>rw [a,b]
theorem Cp (As:List (List aD)) (i):((As.take i).map lQ).sum<=(As.map lQ).sum:=by
 have e:(As.map lQ).sum=((As.take i).map lQ).sum+((As.drop i).map lQ).sum:=by rw [<- Sz,<- Px,Rl]
 have:=we (As.drop i)
 lia
noncomputable def ud:M4:=λkvs ds Z=>∃ (ts:List aD) (p:Part) (W:Nat),W<=10/\bX p/\pR p<2 ^ W/\ts.length+aZ p.2<=20000/\(∀ t∈ts,Bd (2 ^ W) t.1)/\kvs=cJ ((aX ts).map (fV (2 ^ W)))/\ds=[f7 p,.int (W:Nat)] /\
 Z=λkvs'=>∃ X,mp X=mp (iU p.1 p.2)/\X.length<=aZ p.2/\(∀ t∈X,Bd (2 ^ W) t.1)/\kvs'=cJ ((aX (ts++X)).map (fV (2 ^ W)))
section
local macro_rules | `(tactic| walk_at "evX")=> `(tactic| first | ((with_reducible show cV _ (Expr.Dict _ _ _) _ _); with_reducible refine uW ?_))
local macro_rules | `(tactic| walk_at "evXC")=> `(tactic| first
 | ((with_reducible show cV _ (Qh (PK "sorted" _) _ _ _) _ _); with_reducible refine x6 (Txt.sorted (by assumption)) (Txt.len (by assumption)) ?_)
 | ((with_reducible show cV _ (Qh (PK "list" _) [Qh _ _ _ _] _ _) _ _); refine sW 6 (by walk_at "at") rfl (by walk_at "sset") (rH (Txt.list (by assumption)) ?_)))
local macro_rules | `(tactic| walk_at "evXp")=> `(tactic| with_reducible refine vI (F:=JH) (by assumption) (by decide) (by walk_at "at") (by walk_at "at") (by walk_at "own") ?_)
theorem Cq (Fu:dI K "add_part" "add_part" (top 11) f fd) (T:Txt K mg) (h1:cI P w K mg base 2 "packed" v7) (h2:EG P w K mg base 1 "add_products" JH):bq P w K mg base (cK P w) 3 f fd ["whole","part","width"] (IW K ud):=by
 refine LX Fu rP (by rintro kvs ds Z ⟨ts,p,W,_,_,_,_,_,_,rfl,_⟩; rfl) λc hq q kvs ds Z hF=>?_
 obtain ⟨ts,p,W,hW,hp,hsz,hl,hb,rfl,rfl,rfl⟩:=hF
 show aH c _ [.aK q (cJ ((aX ts).map (fV (2 ^ W)))),.va (.tup (.int p.1::p.2.map au)),.va (.int (W:Nat)),.un,.un,.un,.un] _ _
 conv in (aq _)=>whnf
 walk_at "ev"
 refine e_x (dF hq (N':=["some","width"]) (ρ0:=λ_=>[.un,.va (.int (W:Nat))]) (λt=>.un (.fr (by walk_at "at") (by walk_at "at") (by decide) rfl .nil)) (cB ?_))
 walk_at "ev"
 ·rw [iV,Pe]; exact l6 (by have:=hp.m; lia)
 rw [iV]
 refine ⟨p.2.map λA=>some (Na (2 ^ W) A),by simp,?_,dJ ?_⟩
 ·intro c2 hc2 t j d o hd ho
  simp only [Pk,Pq] at hd ho
  obtain ⟨A,hA,rfl⟩:=hd
  obtain ⟨A',hA',rfl⟩:=ho
  rw [hA] at hA'; cases hA'
  have hm:=QI hA
  have hf:=hp.f A hm
  refine eO (by walk_at "at") (uL (by walk_at "sset") ⟨.un (.same .nil),?_⟩)
  simp only [jV]
  refine ⟨λ_=>?_,λh=>by cases h⟩
  show aL c2 _ [.va (.lst (A.map av)),_] _
  refine bh (F:=v7) h1 (by decide) ?_
  walk_at "ev"
  have hx:lQ A<2 ^ W:=by
   refine T9 ?_ hsz
   obtain ⟨l,r,e⟩:=List.append_of_mem hm
   unfold pR
   rw [e,Px,Pd,Sz,SA]
   have:=we l
   have:=we r
   lia
  exact aC (JG hW hf.l (hf.ex.bd hx)) (dJ rfl)
 rw [fc]
 refine ⟨_,rfl,λx hx=>by obtain ⟨A,_,rfl⟩:=Pr.mp hx; exact ⟨_,rfl⟩,λds' hp'=>?_⟩
 obtain ⟨As,hpm,rfl⟩:=Cm hp'
 have yN:∀ A∈As,cA A:=λA hA=>hp.f A (hpm.mem_iff.mp hA)
 have hpl:=yz hpm
 have hps:=Co hpm
 have hlen:=hpm.length_eq
 refine uL (by walk_at "sset") ?_
 with_reducible refine cF 3 (by walk_at "at") rfl (by walk_at "sset") ?_
 walk_at "ev"
 refine qm (Fy _ _) ?_
 walk_at "ev"
 with_reducible refine Gi 4 (by walk_at "at") rfl (by walk_at "sset") ?_
 rw [<- GI (2 ^ W) p.1]
 with_reducible refine cN hq (cB ?_)
 walk_at "ev"
 rw [Ck]
 have hcap:∀ i,aZ (As.take i)<=20000:=λi=>Pw (yD As i) (by lia)
 have hm8:As.length<=8:=by rw [hlen]; exact hp.m
 have CC:∀ (i:Nat) (L A:List aD),As[i]?=some A->Way p.1 (As.take i) L->cA A/\As.take (i+1)=As.take i++[A]/\mp (aI L A)=(p.1:MP) * gU (As.take (i+1))/\(aI L A).length<=aZ (As.take (i+1))/\(∀ l∈L,∀ r∈A,Bd (2 ^ W) (cz l.1 r.1)/\EV.MulOk l.2 r.2)/\L.length<=20000:=λi L A hA hw=>by
  obtain ⟨hi,rfl⟩:=Ph.mp hA
  have hf:=yN As[i] (Qa hi)
  have et:As.take (i+1)=As.take i++[As[i]]:=QE hi
  obtain ⟨q1,q2,q3,q4⟩:=lG hw hf
  rw [<- et] at q1 q2 q3
  refine ⟨hf,et,q1,q2,λl hl r hr=>⟨?_,?_⟩,Pw hw.l (hcap i)⟩
  ·have hm:dP l r∈aI L As[i]:=Vu.mpr ⟨l,hl,Pr.mpr ⟨r,hr,rfl⟩⟩
   have hx:=Cp As (i+1)
   exact q3.bd (by unfold pR at hsz; lia) _ hm
  ·refine pM (hw.b l hl) (hf.b r hr) ?_
   rw [Qk]; lia
 refine ⟨λi ρ'=>∃ (L:List aD) (s5 s6:Sl),Way p.1 (As.take i) L/\ρ'=[.aK q (cJ ((aX ts).map (fV (2 ^ W)))),.va (.tup (.int p.1::p.2.map au)),.va (.int (W:Nat)),.va (.lst (As.map (Na (2 ^ W)))),.va (.lst (L.map (rS (2 ^ W)))),s5,s6],⟨_,_,_,FA hp.n,rfl⟩,?_,?_⟩
 ·rintro c' lR wG wH i d ρ' hd ⟨L,s5,s6,hw,rfl⟩
  rw [<- List.map_dropLast] at hd
  simp only [Pk,Pq] at hd
  obtain ⟨A,hA,rfl⟩:=hd
  rw [List.getElem?_dropLast] at hA
  replace hA:As[i]?=some A:=by
   split at hA
   ·exact hA
   ·cases hA
  obtain ⟨hf,et,q1,q2,q3,q4⟩:=CC i L A hA hw
  have q5:=hcap (i+1)
  have q6:=Cn hw hf (by rw [<- et]; exact q5)
  rw [<- et] at q6
  show ku c' _ (.lst (A.map (rS (2 ^ W)))) _ _
  walk_at "ev"
  refine ⟨_,⟨[],L,A,W,hW,by rw [dz] at q2; show 0+_<=_; lia,q4,hf.l,(by intro t ht; cases ht),q3,rfl,rfl,rfl⟩,?_⟩
  rintro kvs' rfl
  walk_at "ev"
  refine ⟨_,yF _ _,JM _ _,?_⟩
  repeat ((fail_if_success (with_reducible show aH _ [] _ _ _)); walk_at "ev1")
  with_reducible refine cF 4 (by walk_at "at") rfl (by walk_at "sset") ?_
  walk_at "ev"
  exact ⟨_,_,_,q6,rfl⟩
 ·rintro ρ' ⟨L,s5,s6,hw,rfl⟩
  rw [List.length_dropLast,Pe] at hw
  walk_at "ev"
  ·have hne:As≠[]:=by rintro rfl; simp at *
   obtain ⟨i0,A,e0⟩:∃ i0 A,As=i0++[A]:=⟨As.dropLast,As.getLast hne,(List.dropLast_concat_getLast hne).symm⟩
   have ei:As.length - 1=i0.length:=by rw [e0]; simp
   have hA:As[As.length - 1]?=some A:=by rw [ei,e0]; simp
   have etl:As.take (As.length - 1+1)=As:=SK (by lia)
   obtain ⟨hf,et,q1,q2,q3,q4⟩:=CC _ L A hA hw
   rw [etl] at q1 q2
   refine uQ (show jR (As.map (Na (2 ^ W))) (-1)=some (Na (2 ^ W) A) by rw [e0,Px]; exact Fz _ _) ?_
   walk_at "ev"
   refine ⟨_,⟨ts,L,A,W,hW,by rw [dz] at q2; lia,q4,hf.l,hb,q3,rfl,rfl,rfl⟩,?_⟩
   rintro kvs' rfl
   walk_at "ev"
   refine ⟨_,_,⟨aI L A,by rw [q1,fK,Cd hpm],by rw [<- hpl]; exact q2,λt ht=>?_,rfl⟩,rfl⟩
   obtain ⟨l,hl,r,hr,rfl⟩:=fW ht
   exact (q3 l hl r hr).1
  ·have e0:As=[]:=by
    cases As with
    | nil=>rfl
    | cons A As=>simp at *
   have hw0:Way p.1 [] L:=by rw [e0] at hw; exact hw
   have p0:p.2=[]:=List.length_eq_zero_iff.mp (by rw [<- hlen,e0]; rfl)
   obtain ⟨q1,q2,q3,q4⟩:=lG hw0 uc
   have hL:L.length<=1:=hw0.l
   have q5:(aI L (cT 1)).length<=1:=q2
   have h0W:(0:Int)<2 ^ W:=two_pos W
   have hx:(([]++[cT 1]:List (List aD)).map lQ).sum<2 ^ W:=h0W
   have hp1:aZ p.2=1:=by rw [p0]; rfl
   rw [<- GI (2 ^ W) 1]
   refine ⟨_,⟨ts,L,cT 1,W,hW,by rw [dz] at q5; lia,by lia,uc.l,hb,λl hl r hr=>⟨?_,?_⟩,rfl,rfl,rfl⟩,?_⟩
   ·exact q3.bd hx _ (Vu.mpr ⟨l,hl,Pr.mpr ⟨r,hr,rfl⟩⟩)
   ·exact pM (hw0.b l hl) (uc.b r hr) (by show 2000+2016 * 0+2000<=_; lia)
   rintro kvs' rfl
   walk_at "ev"
   refine ⟨_,_,⟨aI L (cT 1),?_,by rw [hp1]; exact q5,q3.bd hx,rfl⟩,rfl⟩
   rw [q1,fK,p0]
   show _ * (mp (cT 1) * 1)=_ * (1:MP)
   rw [o8]
   show _ * ((1:MP) * 1)=_ * (1:MP)
   grind
end
end
section
variable {K:O7}
theorem rT (ps) (p:Part):mp (dQ (ps++[p]))=mp (dQ ps)+mp (iU p.1 p.2):=by
 unfold dQ
 rw [List.flatMap_append,lB]
 congr 1
 rw [Sy,Ul,Qp]
theorem rV (l:List Nat) (i):(l.take i).sum<=l.sum:=by
 rw [<- Rl i l,Sz,Rl]; lia
noncomputable def jn:Fn:=λds r=>∃ ps:List Part,bH ps/\ds=[.lst (ps.map f7)]/\r=.ok (.ow ((aQ (dQ ps)).map av))
theorem fh (h:bH ps):jn [.lst (ps.map f7)] (.ok (.ow ((aQ (dQ ps)).map av))):=⟨ps,h,rfl,rfl⟩
section
local macro_rules | `(tactic| walk_at "evX")=> `(tactic| first | ((with_reducible show cV _ (Expr.Dict _ _ _) _ _); with_reducible refine uW ?_))
local macro_rules | `(tactic| walk_at "evCa")=> `(tactic| first | with_reducible refine bh (F:=Fx) (by assumption) (by decide) ?_)
local macro_rules | `(tactic| walk_at "evXp")=> `(tactic| with_reducible refine vI (F:=ud) (by assumption) (by decide) (by walk_at "at") (by walk_at "at") (by walk_at "own") ?_)
local macro_rules | `(tactic| walk_at "evXC")=> `(tactic| first | ((with_reducible show cV _ (Qh (PK "unpacked" _) _ _ _) _ _); refine sW 2 (by walk_at "at") rfl (by walk_at "sset") (x_call (F:=Fj) (by assumption) (by decide) ?_)))
theorem JN (Fu:dI K "poly_total" "poly_total" (top 12) f fd) (T:Txt K mg) (h1:cI P w K mg base 2 "width_of" Fx) (h2:EG P w K mg base 3 "add_part" ud) (h3:cI P w K mg base 3 "unpacked" Fj):bq P w K mg base (cK P w) 4 f fd ["parts"] (dM K jn):=by
 refine cg Fu l7 (by rintro ds r ⟨ps,_,rfl,_⟩; rfl) (by rintro ds r ⟨ps,_,_,rfl⟩; exact ⟨_,rfl⟩) λc hq ds sl hF=>?_
 obtain ⟨ps,h,rfl,e⟩:=hF
 injection e with e
 subst e
 show aH c _ [.va (.lst (ps.map f7)),.un,.un,.un] _ _
 conv in (aq _)=>whnf
 obtain ⟨hW,hsz⟩:=Fw h.p
 walk_at "ev"
 refine aC (Mr h.p) ?_
 walk_at "ev"
 generalize Cj ps=W at hW hsz |-
 with_reducible refine cN hq (cB ?_)
 walk_at "ev"
 refine ⟨λi ρ'=>∃ (ts:List aD) (s3:Sl),mp ts=mp (dQ (ps.take i))/\ts.length<=((ps.take i).map λp=>aZ p.2).sum/\(∀ t∈ts,Bd (2 ^ W) t.1)/\ρ'=[.va (.lst (ps.map f7)),.va (.int (W:Nat)),.oK (cJ ((aX ts).map (fV (2 ^ W)))),s3],⟨[],_,rfl,Pa _,(by intro t ht; cases ht),rfl⟩,?_,?_⟩
 ·rintro c' lR wG wH i d ρ' hd ⟨ts,s3,hm,hl,hb,rfl⟩
  simp only [Pk,Pq] at hd
  obtain ⟨p,hpx,rfl⟩:=hd
  obtain ⟨hi,rfl⟩:=Ph.mp hpx
  have et:ps.take (i+1)=ps.take i++[ps[i]]:=QE hi
  have hmem:ps[i]∈ps:=Qa hi
  have hcap:((ps.take (i+1)).map λp=>aZ p.2).sum<=20000:=by rw [List.map_take]; exact Pw (rV _ _) h.s
  have ec:((ps.take (i+1)).map λp=>aZ p.2).sum=((ps.take i).map λp=>aZ p.2).sum+aZ ps[i].2:=by rw [et,Px,Sz]; simp
  rw [ec] at hcap
  walk_at "ev"
  refine ⟨_,⟨ts,ps[i],W,hW,h.p _ hmem,hsz _ hmem,by lia,hb,rfl,rfl,rfl⟩,?_⟩
  rintro kvs' ⟨X,x1,x2,x3,rfl⟩
  walk_at "ev"
  refine ⟨ts++X,.va (f7 ps[i]),?_,?_,λt ht=>(PD.mp ht).elim (hb t) (x3 t),rfl⟩
  ·rw [lB,hm,x1,et,rT]
  ·rw [ec,P0]; lia
 ·rintro ρ' ⟨ts,s3,hm,hl,hb,rfl⟩
  rw [Pe,QC] at hm hl
  walk_at "ev"
  refine aC (Mq (ts:=ts) hW (by have:=h.s; lia) hb) ⟨fu λx _=>pI x,?_⟩
  show Sl.ow _=Sl.ow _
  rw [gQ hm]
end
end
section
variable {K:O7}
noncomputable def wg:Nat->Int->List Int×Int
 | 0,r=>([],r)
 | i+1,r=>((wg i r).1++[(wg i r).2 / 5 % 4],(wg i r).2 / 4)
noncomputable def yO (n:Int):aD :=
 if n % 2=1 then ((wg (n / 2 % 5).toNat (n / 2)).1,(wg (n / 2 % 5).toNat (n / 2)).2 / 5 % (2 * 10 ^ Int.toNat 9+1) - 10 ^ Int.toNat 9)
 else ((PZ (thing (n / 2) 0 4).toNat).map λ(i:Nat)=>thing (n / 2) (1+(i:Int)) 2,thing (n / 2) 9 7 - 3)
theorem wj (i) (r):(wg i r).1.length=i:=by
 induction i with
 | zero=>rfl
 | succ i ih=>simp [wg,ih]
theorem JO (i) (r):∀ x∈(wg i r).1,0<=x/\x<=3:=by
 induction i with
 | zero=>intro x hx; cases hx
 | succ i ih =>
  intro x hx
  simp only [wg,PD,PB] at hx
  rcases hx with hx | rfl
  ·exact ih x hx
  ·lia
def OJ (t:aD):Prop:=t.1.length<=4/\(∀ x∈t.1,0<=x/\x<=3)/\t.2.natAbs<2 ^ 31
theorem JP (n):OJ (yO n):=by
 unfold yO
 split
 ·refine ⟨by rw [wj]; lia,JO _ _,?_⟩
  show ((wg (n / 2 % 5).toNat (n / 2)).2 / 5 % (2 * 1000000000+1) - 1000000000).natAbs<2 ^ 31
  lia
 ·have h4:=iS (n / 2) 0 (m:=4) (by decide)
  have h7:=iS (n / 2) 9 (m:=7) (by decide)
  refine ⟨by simp; lia,λx hx=>?_,?_⟩
  ·obtain ⟨i,_,rfl⟩:=Pr.mp hx
   have:=iS (n / 2) (1+(i:Int)) (m:=2) (by decide)
   lia
  ·show (thing (n / 2) 9 7 - 3).natAbs<2 ^ 31
   lia
theorem lH (n):(lZ 0 n).length=n:=by simp [lZ]
noncomputable def FD:Fn:=λds r=>∃ n:Int,ds=[.int n]/\r=.ok (.va (av (yO n)))
theorem Mt (n):FD [.int n] (.ok (.va (av (yO n)))):=⟨n,rfl,rfl⟩
section
local macro_rules | `(tactic| walk_at "side")=> `(tactic| exact iy _)
local macro_rules | `(tactic| walk_at "evCa")=> `(tactic| with_reducible refine bh (F:=pH) (by assumption) (by decide) ?_)
local macro_rules | `(tactic| walk_at "evR")=> `(tactic| first | with_reducible refine aC (E5 ?_ ?_ ?_) ?_)
theorem JQ (Fu:dI K "_law_small_term" "_law_small_term" (top 35) f fd) (T:Txt K mg) (h1:cI P w K mg base 1 "_law_thing" pH):bq P w K mg base (cK P w) 2 f fd ["_law_cell_here"] (dM K FD):=by
 refine cg Fu jM (by rintro ds r ⟨n,rfl,_⟩; rfl) (by rintro ds r ⟨n,_,rfl⟩; exact ⟨_,rfl⟩) λc hq ds sl hF=>?_
 obtain ⟨n,rfl,e⟩:=hF
 injection e with e
 subst e
 show aH c _ [.va (.int n),.un,.un,.un] _ _
 conv in (aq _)=>whnf
 walk_at "ev"
 ·with_reducible refine cN hq (fO (Txt.range (by assumption)) ?_)
  walk_at "ev"
  ·exact ⟨by lia,by lia⟩
  refine ⟨λi ρ'=>∃ s4:Sl,ρ'=[.va (.int n),.va (.int (wg i (n / 2)).2),.ow ((wg i (n / 2)).1.map .int),s4],⟨.un,rfl⟩,?_,?_⟩
  ·rintro c' lR wG wH i d ρ' hd ⟨s4,rfl⟩
   obtain ⟨hi,rfl⟩:=iC hd
   have hlen:((wg i (n / 2)).1.map D.int).length=i:=by rw [Pe,wj]
   walk_at "ev"
   ·exact fF (by lia)
   ·refine ⟨.va (.int (i:Int)),?_⟩
    show [_,_,Sl.ow _,_]=_
    simp only [wg,Px,Pd,Qv]
  ·rintro ρ' ⟨s4,rfl⟩
   rw [lH]
   walk_at "ev"
   all_goals first
    | exact qz (by decide)
    | decide
    | exact ⟨by decide,by decide,by decide +kernel⟩
    | (show Sl.va _=Sl.va _; unfold yO; rw [if_pos (by assumption)])
 ·have t4:=iS (n / 2) 0 (m:=4) (by decide)
  with_reducible refine cN hq (fO (Txt.range (by assumption)) ?_)
  walk_at "ev"
  ·decide
  ·decide
  ·decide
  walk_at "ev"
  ·exact ⟨by lia,by lia⟩
  refine ⟨λi ρ'=>∃ s4:Sl,ρ'=[.va (.int n),.va (.int (n / 2)),.ow (((PZ i).map λ(i:Nat)=>thing (n / 2) (1+(i:Int)) 2).map .int),s4],⟨.un,rfl⟩,?_,?_⟩
  ·rintro c' lR wG wH i d ρ' hd ⟨s4,rfl⟩
   obtain ⟨hi,rfl⟩:=iC hd
   have hlen:(((PZ i).map λ(i:Nat)=>thing (n / 2) (1+(i:Int)) 2).map D.int).length=i:=by simp
   walk_at "ev"
   ·decide
   ·decide
   ·lia
   walk_at "ev"
   ·exact fF (by lia)
   ·refine ⟨.va (.int (i:Int)),?_⟩
    show [_,_,Sl.ow _,_]=_
    simp only [List.range_succ,Px,Pd,Qv]
  ·rintro ρ' ⟨s4,rfl⟩
   rw [lH]
   walk_at "ev"
   ·decide
   ·decide
   ·decide
   walk_at "ev"
   show Sl.va _=Sl.va _
   unfold yO
   rw [if_neg (by assumption)]
end
end
section
variable {K:O7}
theorem Cr {lo hi:Option Int} (h:x∈EV.cutD xs lo hi):x∈xs:=List.mem_of_mem_drop (T3 h)
theorem Cs (xs:List α):(EV.cutD xs none (some 4)).length<=4:=by
 unfold EV.cutD
 have:HT.b9 xs.length xs.length (some 4)<=4:=by
  simp only [HT.b9,show ¬ ((4:Int)<0) by decide,if_false]
  exact Nat.min_le_left _ _
 rw [Qk]; lia
noncomputable def jo (cs:List Int) (o:Int) (k:Int):List aD:=EV.cutD ((stp cs (some (3 * o+k)) none (some 9)).map yO) none (some 4)++[([],k+1)]
theorem lI (cs) (o k):(jo cs o k).length<=5:=by
 unfold jo
 rw [P0]
 have:=Cs ((stp cs (some (3 * o+k)) none (some 9)).map yO)
 simp only [RV]; lia
theorem j5 (cs) (o k) (hk:k.natAbs<5):∀ t∈jo cs o k,OJ t:=by
 intro t ht
 unfold jo at ht
 rcases PD.mp ht with h | h
 ·obtain ⟨n,_,rfl⟩:=Pr.mp (Cr h)
  exact JP n
 ·rw [PB] at h
  subst h
  exact ⟨PY _,(by intro x hx; cases hx),by show (k+1).natAbs<2 ^ 31; lia⟩
noncomputable def O0 (cs:List Int) (o:Int):List (List aD):=(PZ 3).map λ(k:Nat)=>aQ (jo cs o k)
noncomputable def FE:Fn:=λds r=>∃ (cs:List Int) (o:Int),o.natAbs<10/\cs.length<=1000/\ds=[.lst (cs.map .int),.int o]/\r=.ok (.va (.tup ((O0 cs o).map au)))
theorem Mu {i:Nat} (h:i<3):jR [D.int 1,D.int 2,D.int 3] (i:Int)=some (D.int ((i:Int)+1)):=by
 obtain rfl | rfl | rfl:i=0\/i=1\/i=2:=by lia
 all_goals rfl
section
local macro_rules | `(tactic| walk_at "side")=> `(tactic| exact iy _)
local macro_rules | `(tactic| walk_at "evCa")=> `(tactic| first | with_reducible refine bh (F:=FD) (by assumption) (by decide) ?_)
local macro_rules | `(tactic| walk_at "evR")=> `(tactic| first | with_reducible refine aC (Mt _) ?_)
theorem Ct (Fu:dI K "_law_three" "_law_three" (top 34) f fd) (T:Txt K mg) (h1:cI P w K mg base 2 "_law_small_term" FD) (h2:cI P w K mg base 2 "_law_sum" f6):bq P w K mg base (cK P w) 3 f fd ["_law_cells","_law_offset"] (dM K FE):=by
 refine cg Fu tX (by rintro ds r ⟨cs,o,_,_,rfl,_⟩; rfl) (by rintro ds r ⟨cs,o,_,_,_,rfl⟩; exact ⟨_,rfl⟩) λc hq ds sl hF=>?_
 obtain ⟨cs,o,ho,hl,rfl,e⟩:=hF
 injection e with e
 subst e
 show aH c _ [.va (.lst (cs.map .int)),.va (.int o),.un,.un,.un,.un] _ _
 conv in (aq _)=>whnf
 walk_at "ev"
 with_reducible refine cN hq (fO (Txt.range (by assumption)) ?_)
 walk_at "ev"
 ·exact ⟨by decide,by decide⟩
 refine ⟨λi ρ'=>∃ s3 s4 s5:Sl,ρ'=[.va (.lst (cs.map .int)),.va (.int o),.ow (((PZ i).map λ(k:Nat)=>aQ (jo cs o k)).map au),s3,s4,s5],⟨_,_,_,rfl⟩,?_,?_⟩
 ·rintro c' lR wG wH i d ρ' hd ⟨s3,s4,s5,rfl⟩
  obtain ⟨hi,rfl⟩:=iC hd
  have hi':i<3:=hi
  walk_at "ev"
  refine cN (by rw [lR]; exact hq) (cB (e_x (Me ?_)))
  walk_at "ev"
  ·exact qz (by decide)
  refine ⟨_,9,rfl,rfl,by decide,?_⟩
  rw [EW]
  walk_at "ev"
  refine ⟨λj ρ''=>∃ s5:Sl,ρ''=[.va (.lst (cs.map .int)),.va (.int o),.ow (((PZ i).map λ(k:Nat)=>aQ (jo cs o k)).map au),.va (.int (i:Int)),.ow (((((stp cs (some (3 * o+i)) none (some 9)).take j).map yO).map av)),s5],⟨_,rfl⟩,?_,?_⟩
  ·rintro c'' hdX hdR hdM j d ρ'' hd ⟨s5,rfl⟩
   simp only [Pk,Pq] at hd
   obtain ⟨n,hn,rfl⟩:=hd
   obtain ⟨hj,rfl⟩:=Ph.mp hn
   have hs:(stp cs (some (3 * o+(i:Int))) none (some 9)).length<=cs.length:=vX (by decide)
   walk_at "ev"
   ·exact fF (by rw [Pe,Pe,Qk]; lia)
   ·refine ⟨.va (.int (stp cs (some (3 * o+(i:Int))) none (some 9))[j]),?_⟩
    show [_,_,_,_,Sl.ow _,_]=_
    rw [QE hj,Px,Px]
    rfl
  ·rintro ρ'' ⟨s5,rfl⟩
   rw [Pe,QC]
   walk_at "ev"
   refine e_x (Gh 4 (by walk_at "at") rfl (by walk_at "sset") (x_call (F:=f6) (by assumption) (by decide) ?_))
   walk_at "ev"
   refine uQ (Mu hi') ?_
   walk_at "ev"
   ·have:=Cs (((stp cs (some (3 * o+(i:Int))) none (some 9)).map yO).map av)
    exact l6 (by simp only [RV]; lia)
   have eL:jo cs o (i:Int)=EV.cutD ((stp cs (some (3 * o+(i:Int))) none (some 9)).map yO) none (some 4)++[([],(i:Int)+1)]:=rfl
   have eM:(jo cs o (i:Int)).map av=EV.cutD (((stp cs (some (3 * o+(i:Int))) none (some 9)).map yO).map av) none (some 4)++[.tup [.tup [],.int ((i:Int)+1)]]:=by rw [eL]; simp only [iA,Px]; rfl
   refine ⟨_,⟨jo cs o i,Pw (lI ..) (by decide),λt ht=>Pw (j5 cs o i (by lia) t ht).1 (by decide),by rw [eM],rfl⟩,?_⟩
   refine ⟨fu λx _=>pI x,dJ ?_⟩
   walk_at "ev"
   ·exact fF (by rw [Pe,Pe,List.length_range]; lia)
   ·show ∃ s3 s4 s5:Sl,[_,_,Sl.ow _,_,_,_]=[_,_,Sl.ow (((PZ (i+1)).map λ(k:Nat)=>aQ (jo cs o k)).map au),s3,s4,s5]
    simp only [List.range_succ,Px,Pd,Qv]
    exact ⟨_,_,_,rfl⟩
 ·rintro ρ' ⟨s3,s4,s5,rfl⟩
  rw [lH]
  walk_at "evSs"
  refine Gi 2 (by walk_at "at") rfl (by walk_at "sset") ?_
  walk_at "ev"
  rfl
end
end
section
variable {K:O7}
theorem smap {α β:Type} (L:List α) (f:α->β):(L.map λx=>some (f x)).filterMap id=L.map f:=by
 induction L with
 | nil=>rfl
 | cons a l ih=>simpa using ih
noncomputable def d8:Fn:=λds r=>∃ A B:List aD,A.length+B.length<=20000/\(∀ t∈A++B,t.1.length<=64)/\ds=[.lst (A.map av),.lst (B.map av)]/\r=.ok (.ow ((aQ (A++B.map fX)).map av))
theorem FF (h:A.length+B.length<=20000) (h2:∀ t∈A++B,t.1.length<=64):d8 [.lst (A.map av),.lst (B.map av)] (.ok (.ow ((aQ (A++B.map fX)).map av))):=⟨A,B,h,h2,rfl,rfl⟩
noncomputable def rX:Fn:=λds r=>∃ Ls:List (List aD),Ls.length<=1000/\ds=[.tup (Ls.map au)]/\r=.ok (.va (.tup (Ls.map au)))
theorem JR {Ls:List (List aD)} (h:Ls.length<=1000):rX [.tup (Ls.map au)] (.ok (.va (.tup (Ls.map au)))):=⟨Ls,h,rfl,rfl⟩
noncomputable def Mw:Bool->List D->D
 | true=>.lst
 | false=>.tup
noncomputable def lJ:Fn:=λds r=>∃ (b:Bool) (Ls:List (List aD)),Ls.length=3/\(∀ L∈Ls,L.length<=20000/\∀ t∈L,t.1.length<=64)/\ds=[.tup (Ls.map au),Mw b (Ls.map au)]/\r=.ok (.va (.bl true))
theorem FG (b) {Ls:List (List aD)} (h:Ls.length=3) (h2:∀ L∈Ls,L.length<=20000/\∀ t∈L,t.1.length<=64):lJ [.tup (Ls.map au),Mw b (Ls.map au)] (.ok (.va (.bl true))):=⟨b,Ls,h,h2,rfl,rfl⟩
section
local macro_rules | `(tactic| walk_at "evXC")=> `(tactic| first | with_reducible refine x_call (F:=f6) (by assumption) (by decide) ?_)
local macro_rules | `(tactic| walk_at "evR")=> `(tactic| first | with_reducible refine aC (lF ?_ ?_) ?_)
theorem Cu (Fu:dI K "_law_less" "_law_less" (top 32) f fd) (T:Txt K mg) (h1:cI P w K mg base 2 "_law_sum" f6):bq P w K mg base (cK P w) 3 f fd ["_law_one","_law_other"] (dM K d8):=by
 refine cg Fu yq (by rintro ds r ⟨A,B,_,_,rfl,_⟩; rfl) (by rintro ds r ⟨A,B,_,_,_,rfl⟩; exact ⟨_,rfl⟩) λc hq ds sl hF=>?_
 obtain ⟨A,B,hl,hp,rfl,e⟩:=hF
 injection e with e
 subst e
 show aH c _ [.va (.lst (A.map av)),.va (.lst (B.map av))] _ _
 conv in (aq _)=>whnf
 walk_at "ev"
 refine e_x (dF hq (N':=["_law_powers","_law_number"]) (ρ0:=λ_=>[.un,.un]) (λt=>.un (.un .nil)) (cB ?_))
 walk_at "ev"
 ·exact l6 (by rw [Pe]; lia)
 refine ⟨B.map λt=>some (av (fX t)),by simp,?_,dJ ?_⟩
 ·intro c' hc t i d o hd ho
  simp only [Pk,Pq] at hd ho
  obtain ⟨x,hx,rfl⟩:=hd
  obtain ⟨x',hx',rfl⟩:=ho
  rw [hx] at hx'; cases hx'
  show ku c' _ (.tup [.tup (x.1.map .int),.int x.2]) _ _
  walk_at "ev"
  refine ⟨.un (.un .nil),?_⟩
  simp only [jV]
  refine ⟨λ_=>?_,λh=>by cases h⟩
  walk_at "ev"
  rw [Int.zero_sub]
  rfl
 ·rw [smap]
  rw [show (B.map λt=>av (fX t))=(B.map fX).map av by rw [PX]; rfl]
  walk_at "ev"
  ·rw [Pe,Pe,Pe]; exact l6 (by lia)
  rw [<- Px]
  refine aC (lF (by rw [P0,Pe]; lia) λt ht=>?_) rfl
  rcases PD.mp ht with q | q
  ·exact hp t (QM _ q)
  ·obtain ⟨u,hu,rfl⟩:=Pr.mp q
   exact hp u (P9 _ hu)
end
theorem FH (Fu:dI K "_law_copy" "_law_copy" (top 37) f fd) (T:Txt K mg):bq P w K mg base (cK P w) 1 f fd ["_law_some"] (dM K rX):=by
 refine cg Fu yr (by rintro ds r ⟨A,_,rfl,_⟩; rfl) (by rintro ds r ⟨A,_,_,rfl⟩; exact ⟨_,rfl⟩) λc hq ds sl hF=>?_
 obtain ⟨Ls,hl,rfl,e⟩:=hF
 injection e with e
 subst e
 show aH c _ [.va (.tup (Ls.map au))] _ _
 conv in (aq _)=>whnf
 walk_at "ev"
 refine e_x (dF hq (N':=["_law_terms"]) (ρ0:=λ_=>[.un]) (λt=>.un .nil) (cB ?_))
 walk_at "ev"
 ·exact l6 (by rw [Pe]; lia)
 refine ⟨Ls.map λt=>some (au t),by simp,?_,dJ ?_⟩
 ·intro c' hc t i d o hd ho
  simp only [Pk,Pq] at hd ho
  obtain ⟨x,hx,rfl⟩:=hd
  obtain ⟨x',hx',rfl⟩:=ho
  rw [hx] at hx'; cases hx'
  refine eO (by walk_at "at") (uL (by walk_at "sset") ⟨.un .nil,?_⟩)
  simp only [jV]
  refine ⟨λ_=>?_,λh=>by cases h⟩
  refine e_x (zT (Txt.list T) ?_)
  walk_at "ev"
  rfl
 ·rw [smap]
  walk_at "ev"
  rfl
section
local macro_rules | `(tactic| walk_at "evCa")=> `(tactic| first | with_reducible refine bh (F:=vY) (by assumption) (by decide) ?_)
theorem Cv (Fu:dI K "_law_same_three" "_law_same_three" (top 36) f fd) (T:Txt K mg) (h1:cI P w K mg base 2 "_law_same" vY):bq P w K mg base (cK P w) 3 f fd ["_law_found","_law_due"] (dM K lJ):=by
 refine cg Fu jN (by rintro ds r ⟨b,A,_,_,rfl,_⟩; rfl) (by rintro ds r ⟨b,A,_,_,_,rfl⟩; exact ⟨_,rfl⟩) λc hq ds sl hF=>?_
 obtain ⟨b,Ls,hl,hL,rfl,e⟩:=hF
 injection e with e
 subst e
 cases b
 all_goals
  show aH c _ [.va (.tup (Ls.map au)),.va _] _ _
  conv in (aq _)=>whnf
  walk_at "ev"
  ·refine A2 (Txt.all T) (e_x (dF hq (N':=["_law_one","_law_other"]) (ρ0:=λ_=>[.un,.un]) (λt=>.un (.un .nil)) ?_))
   first
   | (refine Jy (Txt.zip T) ?_; walk_at "ev"; refine ⟨_,_,rfl,rfl,?_⟩)
   | (refine Jz (Txt.zip T) ?_; walk_at "ev"; refine ⟨_,_,rfl,rfl,?_⟩)
   have ez:jI (Ls.map au) (Ls.map au)=Ls.map λt=>D.tup [au t,au t]:=by
    unfold jI
    rw [Uj,Ua]
   rw [ez]
   refine Sd.mk (l6 (by rw [Pe]; lia)) ⟨Ls.map λ_=>some (.bl true),by simp,?_,dJ ⟨Ls.map λ_=>true,?_,?_⟩⟩
   ·intro c' hc t i d o hd ho
    simp only [Pk,Pq] at hd ho
    obtain ⟨x,hx,rfl⟩:=hd
    obtain ⟨x',hx',rfl⟩:=ho
    have hx2:=hL x (QI hx)
    show ku c' _ (.tup [.lst (x.map av),.lst (x.map av)]) _ _
    walk_at "ev"
    refine ⟨.un (.un .nil),?_⟩
    simp only [jV]
    refine ⟨λ_=>?_,λh=>by cases h⟩
    walk_at "ev"
    exact aC (JD hx2.1 hx2.2) (Ab rfl)
   ·rw [smap,PX]
    rfl
   ·rw [show ((Ls.map λ_=>true).all id)=true by simp]
  ·exact absurd (show (((Ls.map au).length:Nat):Int)=3 by rw [Pe,hl]; rfl) (by assumption)
end
end
section
variable {P:Program} {w:World} {K:O7} {mg:Str->Option Value} {base:Heap}
noncomputable def JS:D:=.tup [.tup [.int 12],.int 1]
noncomputable def Mx (i:Nat) (L:List (Addr×List D)):List (Addr×List D):=(L.take i).map (λx=>(x.1,x.2++[JS]))++L.drop i
theorem Cw:∀ L:List (Addr×List D),x9 (gP L)=some (L.map λx=>D.adr x.1)
 | []=>rfl
 | x::L=>by
  have:=Cw L
  unfold gP at this |-
  simp only [Pd,x9,Sh.raw,this]
theorem ue (A B):gP (A++B)=gP A++gP B:=by unfold gP; rw [Px]
theorem Cy (h:i<L.length):gP (Mx i L)=gP ((L.take i).map λx=>(x.1,x.2++[JS]))++.la L[i].1 L[i].2::gP (L.drop (i+1)):=by
 unfold Mx
 rw [ue,TL h]
 rfl
theorem Cz (h:i<L.length):gP ((L.take i).map λx=>(x.1,x.2++[JS]))++.la L[i].1 (L[i].2++[JS])::gP (L.drop (i+1))=gP (Mx (i+1) L):=by
 unfold Mx
 rw [ue,QE h,Px,ue,Pz]
 rfl
def CA (s:Sh):Prop:=∃ dss:List (List D),s=.t (dss.map .l)/\dss.length<=1000/\∀ ds∈dss,ds.length<=20000
theorem CB (Fu:dI K "_law_spoil" "_law_spoil" (top 38) f fd):bq P w K mg base (cK P w) 1 f fd ["_law_found"] (KA K CA):=by
 refine N9 Fu tY rfl (by decide) λc hq s hs=>?_
 obtain ⟨dss,rfl,hl,hd'⟩:=hs
 show aH c _ [.fo (.t (dss.map .l)),.un] _ _
 conv in (aq _)=>whnf
 refine aN (Jr 0 (by walk_at "at") λL e=>?_)
 subst e
 show eV c _ [.fo (.t (gP L)),.un] _ _
 have hll:L.length<=1000:=by rw [<- Pe (f:=(·.2))]; exact hl
 with_reducible refine cN hq (cB (Jq (by walk_at "at") (by walk_at "at") (Cw L) ?_))
 refine ⟨_,rfl,λi ρ'=>ρ'=[.fo (.t (gP (Mx i L))),.un],rfl,?_,?_⟩
 ·rintro c' lR wG wH i d ρ' hd rfl
  simp only [Pk,Pq] at hd
  obtain ⟨x,hx,rfl⟩:=hd
  obtain ⟨hi,rfl⟩:=Ph.mp hx
  have hli:L[i].2.length<=20000:=hd' _ (Pr.mpr ⟨_,Qa hi,rfl⟩)
  refine eO (by walk_at "at") (uL (by walk_at "sset") ?_)
  rw [Cy hi]
  refine Bx 0 1 (.z (.cons rfl .nil)) (by walk_at "at") ?_ (by decide)
  show aH c' _ [.fo (.t (gP ((L.take i).map λx=>(x.1,x.2++[JS]))++.v (.adr L[i].1)::gP (L.drop (i+1)))),.aw L[i].1 L[i].2] _ _
  refine aN ?_
  with_reducible refine Ah (by walk_at "at") (by walk_at "at") (by walk_at "own") ?_
  generalize hG:(λρ''=>aH c' [] ρ'' _ _)=G
  walk_at "ev"
  ·exact fF (by lia)
  subst hG
  show aH c' _ [.fo (.t (gP ((L.take i).map λx=>(x.1,x.2++[JS]))++.v (.adr L[i].1)::gP (L.drop (i+1)))),.aw L[i].1 (L[i].2++[JS])] _ _
  refine By 0 1 (.z (.cons rfl .nil)) (by walk_at "at") ?_ (by decide)
  refine sQ ?_
  show [Sl.fo (.t _),Sl.un]=_
  rw [Cz hi]
 ·rintro ρ' rfl
  exact sQ trivial
structure Lm (l:Nat) (e:Int) (b:Nat) (A:List aD):Prop where
 l:A.length<=l
 e:Ex e A
 b:Bn b A
theorem Ex.gc (h:Ex m L):Ex m (aQ L):=λt ht=>Ex.sum h t (qY ht).1
theorem Bn.gc (h:Bn m L) (hl:L.length<2 ^ 16):Bn (m+16) (aQ L):=λt ht=>Bn.sum h hl t (qY ht).1
section
variable {l l':Nat} {e e':Int} {b b':Nat} {A B:List aD}
theorem Lm.gc (h:Lm l e b A) (hl:l<2 ^ 16:=by decide):Lm l e (b+16) (aQ A):=⟨Pw (qZ _) h.l,h.e.gc,h.b.gc (Ro h.l hl)⟩
theorem Lm.mono (h:Lm l e b A) (h1:l<=l':=by decide) (h2:e<=e':=by decide) (h3:b<=b':=by decide):Lm l' e' b' A:=⟨Pw h.l h1,h.e.mono h2,h.b.mono h3⟩
theorem Lm.app (h:Lm l e b A) (g:Lm l' e b B):Lm (l+l') e b (A++B):=⟨by rw [P0]; exact Nat.add_le_add h.l g.l,h.e.app g.e,λt ht=>(PD.mp ht).elim (h.b t) (g.b t)⟩
theorem Lm.prod (h:Lm l e b A) (g:Lm l' e' b' B) (h0:0<=e:=by decide) (g0:0<=e':=by decide):Lm (l * l') (e+e') (b+b') (aI A B):=⟨by rw [dz]; exact Rz h.l g.l,h.e.prod h0 g0 g.e,h.b.prod g.b⟩
theorem Lm.neg (h:Lm l e b A):Lm l e b (A.map fX):=⟨by rw [Pe]; exact h.l,λt ht=>by obtain ⟨u,hu,rfl⟩:=Pr.mp ht; exact h.e u hu,λt ht=>by obtain ⟨u,hu,rfl⟩:=Pr.mp ht; have:=h.b u hu; show (-u.2).natAbs<_; rw [Int.natAbs_neg]; exact this⟩
noncomputable def pN (n:Int) (t:aD):aD:=(t.1,t.2 * n)
theorem Lm.O1 (h:Lm l e b A) (hn:n.natAbs<2 ^ b'):Lm l e (b+b') (A.map (pN n)):=⟨by rw [Pe]; exact h.l,λt ht=>by obtain ⟨u,hu,rfl⟩:=Pr.mp ht; exact h.e u hu,λt ht=>by
 obtain ⟨u,hu,rfl⟩:=Pr.mp ht
 show (u.2 * n).natAbs<_
 rw [Int.natAbs_mul,Nat.pow_add]
 exact Nat.mul_lt_mul_of_lt_of_lt (h.b u hu) hn⟩
theorem Lm.CC (h:Lm l e b A) (h1:l<=20000:=by decide) (h2:e<=120:=by decide) (h3:b<=2000:=by decide):cA A:=⟨Pw h.l h1,h.e.mono h2,h.b.mono h3⟩
theorem Lm.pow (h:Lm l e b A):∀ t∈A,t.1.length<=64:=λt ht=>Pw (h.e t ht).1 (by decide)
theorem Lm.JT (h:Lm l e b A) (g:Lm l' e' b' B) (hl:l * l'<=20000:=by decide) (h1:l<=20000:=by decide) (g1:l'<=20000:=by decide) (h2:e<=500:=by decide) (g2:e'<=500:=by decide) (hb:b+b'<=1000000:=by decide):iT A B where
 la:=Pw h.l h1
 lb:=Pw g.l g1
 lp:=Pw (Rz h.l g.l) hl
 pa:=h.e.mono h2
 pb:=g.e.mono g2
 mu:=λx hx y hy=>pM (h.b x hx) (g.b y hy) hb
theorem Lm.nil:Lm l e b []:=⟨PY _,(λt ht=>by cases ht),λt ht=>by cases ht⟩
theorem Lm.con (hn:n.natAbs<2 ^ b):Lm 1 e b [([],n)]:=⟨Pa _,(λt ht=>by cases PB.mp ht; exact ⟨PY _,λx hx=>by cases hx⟩),λt ht=>by cases PB.mp ht; exact hn⟩
end
theorem lz (p):cz [] p=p:=by
 unfold cz
 refine Um (by simp) λi h1 h2=>?_
 rw [Vw,Vd]
 simp [bR,PU h2]
theorem JU (n:Int) (A:List aD):mp (A.map (pN n))=(n:MP) * mp A:=by
 rw [<- o8,<- o7]
 refine congrArg mp ?_
 unfold aI cT
 rw [Sy,Ul,Qp]
 refine Rm λt _=>?_
 unfold pN dP
 rw [lz,Int.mul_comm]
noncomputable def Mz (ps:List Part):List D:=(aQ (dQ ps)).map av
noncomputable abbrev bJ (A B C:List aD):D:=.tup [au A,au B,au C]
noncomputable def CD (pss:List (List Part)):Sl:=.fo (.t (pss.map λps=>.l (Mz ps)))
noncomputable def JV (x y:List aD):List Part:=[(1,[x,x]),(1,[y,y])]
noncomputable def pS (x y:List aD):List aD:=aQ (dQ (JV x y))
noncomputable def KD (P:Program) (w:World) (K:O7) (mg:Str->Option Value) (base:Heap):Fn:=λds r=>∃ (f:Addr) (x y z:List aD),tO P w K mg base 4 f jn/\bH (JV x y)/\ds=[.adr f,bJ x y z]/\r=.ok (.ow ((pS x y).map av))
theorem MA (hf:tO P w K mg base 4 f jn) (h:bH (JV x y)):KD P w K mg base [.adr f,bJ x y z] (.ok (.ow ((pS x y).map av))):=⟨f,x,y,z,hf,h,rfl,rfl⟩
noncomputable def mh (P:Program) (w:World) (K:O7) (mg:Str->Option Value) (base:Heap) (ok:List aD->List aD->List aD->List aD->List aD->List aD->Prop) (rp:List aD->List aD->List aD->List aD->List aD->List aD->List (List Part)):Fn:=λds r=>∃ (f:Addr) (a b c x y z:List aD),tO P w K mg base 4 f jn/\ok a b c x y z/\(∀ ps∈rp a b c x y z,bH ps)/\ds=[.adr f,bJ a b c,bJ x y z]/\r=.ok (CD (rp a b c x y z))
noncomputable def yH (a b c x y _z:List aD):List (List Part):=[[(1,[x,c])],[(1,[y,c])],[(-1,[x,a]),(-1,[y,b])]]
noncomputable def jq (a b c x y _z:List aD):List (List Part):=[[(-1,[y,c])],[(1,[x,c])],[(1,[y,a]),(-1,[x,b])]]
noncomputable def sd (a b c x y z:List aD):List (List Part):=[[(1,[y,y,a]),(-1,[x,y,b]),(-1,[x,z,c])],[(1,[x,x,b]),(-1,[x,y,a]),(-1,[y,z,c])],[(1,[pS x y,c])]]
noncomputable def wm (i:Nat) (a b c x y z:List aD):List aD:=aQ (dQ ((sd a b c x y z).getD i []))
noncomputable def yI (a b c x y z:List aD):List (List Part):=[[(2,[wm 0 a b c x y z]),(-1,[pS x y,a])],[(2,[wm 1 a b c x y z]),(-1,[pS x y,b])],[(1,[pS x y,c])]]
noncomputable abbrev yP:List aD->List aD->List aD->List aD->List aD->List aD->Prop:=λ_ _ _ _ _ _=>True
noncomputable abbrev JW:List aD->List aD->List aD->List aD->List aD->List aD->Prop:=λ_ _ _ x y _=>bH (JV x y)
noncomputable abbrev KG:List aD->List aD->List aD->List aD->List aD->List aD->Prop:=λa b c x y z=>bH (JV x y)/\∀ ps∈sd a b c x y z,bH ps
theorem MB (Fu:dI K "square_of_way" "square_of_way" (top 14) f fd):bq P w K mg base (cK P w) 5 f fd ["total","l"] (dM K (KD P w K mg base)):=by
 refine cg Fu jl (by rintro ds r ⟨f,x,y,z,_,_,rfl,_⟩; rfl) (by rintro ds r ⟨f,x,y,z,_,_,_,rfl⟩; exact ⟨_,rfl⟩) λk hq ds sl hF=>?_
 obtain ⟨g,x,y,z,hg,h,rfl,e⟩:=hF
 injection e with e
 subst e
 show aH k _ [.va (.adr g),.va (bJ x y z)] _ _
 conv in (aq _)=>whnf
 walk_at "evSs"
 refine eB (oY (F:=jn) (by assumption) (by decide) (by walk_at "at") (by walk_at "at") ?_)
 walk_at "ev"
 refine aC (fh h) rfl
section
local macro_rules | `(tactic| walk_at "evCa")=> `(tactic| first
 | with_reducible refine bh (F:=KD P w K mg base) (by assumption) (by decide) ?_)
local macro_rules | `(tactic| walk_at "evR")=> `(tactic| first
 | refine aC (MA (by assumption) (by assumption)) ?_)
local macro_rules | `(tactic| walk_at "cmp")=> `(tactic| (refine jj (Mb (oY (F:=jn) (by assumption) (by decide) (by walk_at "at") (by walk_at "at") ?_)); walk_at "ev"))
theorem MC (Fu:dI K "side_rule" "side_rule" (top 16) f fd):bq P w K mg base (cK P w) 5 f fd ["total","i","l"] (dM K (mh P w K mg base yP yH)):=by
 refine cg Fu pe (by rintro ds r ⟨f,a,b,c,x,y,z,_,_,_,rfl,_⟩; rfl) (by rintro ds r ⟨f,a,b,c,x,y,z,_,_,_,_,rfl⟩; exact ⟨_,rfl⟩) λk hq ds sl hF=>?_
 obtain ⟨g,a,b,c,x,y,z,hg,_,h,rfl,e⟩:=hF
 injection e with e
 subst e
 have t1:bH [(1,[x,c])]:=h _ (by simp [yH])
 have t2:bH [(1,[y,c])]:=h _ (by simp [yH])
 have t3:bH [(-1,[x,a]),(-1,[y,b])]:=h _ (by simp [yH])
 show aH k _ [.va (.adr g),.va (bJ a b c),.va (bJ x y z)] _ _
 conv in (aq _)=>whnf
 walk_at "evSs"
 refine eB (oZ ?_)
 walk_at "cmp"
 refine aC (fh t1) ⟨_,rfl,_,rfl,?_⟩
 walk_at "cmp"
 refine aC (fh t2) ⟨_,rfl,_,rfl,?_⟩
 walk_at "cmp"
 refine aC (fh t3) ⟨_,rfl,_,rfl,?_⟩
 refine nE (Sd.mk (cM (Rk rfl)) rfl)
theorem JX (Fu:dI K "square_rule" "square_rule" (top 17) f fd):bq P w K mg base (cK P w) 5 f fd ["total","i","l"] (dM K (mh P w K mg base yP jq)):=by
 refine cg Fu lC (by rintro ds r ⟨f,a,b,c,x,y,z,_,_,_,rfl,_⟩; rfl) (by rintro ds r ⟨f,a,b,c,x,y,z,_,_,_,_,rfl⟩; exact ⟨_,rfl⟩) λk hq ds sl hF=>?_
 obtain ⟨g,a,b,c,x,y,z,hg,_,h,rfl,e⟩:=hF
 injection e with e
 subst e
 have t1:bH [(-1,[y,c])]:=h _ (by simp [jq])
 have t2:bH [(1,[x,c])]:=h _ (by simp [jq])
 have t3:bH [(1,[y,a]),(-1,[x,b])]:=h _ (by simp [jq])
 show aH k _ [.va (.adr g),.va (bJ a b c),.va (bJ x y z)] _ _
 conv in (aq _)=>whnf
 walk_at "evSs"
 refine eB (oZ ?_)
 walk_at "cmp"
 refine aC (fh t1) ⟨_,rfl,_,rfl,?_⟩
 walk_at "cmp"
 refine aC (fh t2) ⟨_,rfl,_,rfl,?_⟩
 walk_at "cmp"
 refine aC (fh t3) ⟨_,rfl,_,rfl,?_⟩
 refine nE (Sd.mk (cM (Rk rfl)) rfl)
theorem MD (Fu:dI K "foot_rule" "foot_rule" (top 18) f fd) (h2:cI P w K mg base 5 "square_of_way" (KD P w K mg base)):bq P w K mg base (cK P w) 6 f fd ["total","i","l"] (dM K (mh P w K mg base JW sd)):=by
 refine cg Fu pA (by rintro ds r ⟨f,a,b,c,x,y,z,_,_,_,rfl,_⟩; rfl) (by rintro ds r ⟨f,a,b,c,x,y,z,_,_,_,_,rfl⟩; exact ⟨_,rfl⟩) λk hq ds sl hF=>?_
 obtain ⟨g,a,b,c,x,y,z,hg,hs,h,rfl,e⟩:=hF
 injection e with e
 subst e
 have t1:bH [(1,[y,y,a]),(-1,[x,y,b]),(-1,[x,z,c])]:=h _ (by simp [sd])
 have t2:bH [(1,[x,x,b]),(-1,[x,y,a]),(-1,[y,z,c])]:=h _ (by simp [sd])
 have t3:bH [(1,[pS x y,c])]:=h _ (by simp [sd])
 show aH k _ [.va (.adr g),.va (bJ a b c),.va (bJ x y z)] _ _
 conv in (aq _)=>whnf
 walk_at "evSs"
 refine eB (oZ ?_)
 walk_at "cmp"
 refine aC (fh t1) ⟨_,rfl,_,rfl,?_⟩
 walk_at "cmp"
 refine aC (fh t2) ⟨_,rfl,_,rfl,?_⟩
 walk_at "cmp"
 refine aC (fh t3) ⟨_,rfl,_,rfl,?_⟩
 refine nE (Sd.mk (cM (Rk rfl)) rfl)
end
theorem rY (hf:tO P w K mg base 4 f jn) (h:ok a b c x y z) (h2:∀ ps∈rp a b c x y z,bH ps):mh P w K mg base ok rp [.adr f,bJ a b c,bJ x y z] (.ok (CD (rp a b c x y z))):=⟨f,a,b,c,x,y,z,hf,h,h2,rfl,rfl⟩
noncomputable def se (ok:List aD->List aD->List aD->List aD->List aD->List aD->Prop) (rp:List aD->List aD->List aD->List aD->List aD->List aD->List (List Part)):Fn:=λds r=>∃ a b c x y z:List aD,ok a b c x y z/\(∀ ps∈rp a b c x y z,bH ps)/\ds=[bJ a b c,bJ x y z]/\r=.ok (CD (rp a b c x y z))
section
local macro_rules | `(tactic| walk_at "evXC")=> `(tactic| first
 | with_reducible refine x_call (F:=KD P w K mg base) (by assumption) (by decide) ?_)
local macro_rules | `(tactic| walk_at "evR")=> `(tactic| first
 | refine aC (MA (by assumption) (by assumption)) ?_)
local macro_rules | `(tactic| walk_at "cmp")=> `(tactic| (refine jj (Mb (oY (F:=jn) (by assumption) (by decide) (by walk_at "at") (by walk_at "at") ?_)); walk_at "ev"))
theorem ME (Fu:dI K "mirrored_rule" "mirrored_rule" (top 19) f fd) (h2:cI P w K mg base 6 "foot_rule" (mh P w K mg base JW sd)) (h3:cI P w K mg base 5 "square_of_way" (KD P w K mg base)):bq P w K mg base (cK P w) 7 f fd ["total","i","l"] (dM K (mh P w K mg base KG yI)):=by
 refine cg Fu jm (by rintro ds r ⟨f,a,b,c,x,y,z,_,_,_,rfl,_⟩; rfl) (by rintro ds r ⟨f,a,b,c,x,y,z,_,_,_,_,rfl⟩; exact ⟨_,rfl⟩) λk hq ds sl hF=>?_
 obtain ⟨g,a,b,c,x,y,z,hg,⟨hs,hft⟩,h,rfl,e⟩:=hF
 injection e with e
 subst e
 have t1:bH [(2,[wm 0 a b c x y z]),(-1,[pS x y,a])]:=h _ (by simp [yI])
 have t2:bH [(2,[wm 1 a b c x y z]),(-1,[pS x y,b])]:=h _ (by simp [yI])
 have t3:bH [(1,[pS x y,c])]:=h _ (by simp [yI])
 show aH k _ [.va (.adr g),.va (bJ a b c),.va (bJ x y z),.un,.un] _ _
 conv in (aq _)=>whnf
 refine aN (zK (by walk_at "at") (Lj (Mg (x_call h2 (by decide) ?_))))
 walk_at "ev"
 refine aC (rY hg hs hft) ⟨_,rfl,?_⟩
 refine uL (by walk_at "sset") ?_
 show aH k _ [.va (.adr g),.va (bJ a b c),.va (bJ x y z),.va (bJ (wm 0 a b c x y z) (wm 1 a b c x y z) (wm 2 a b c x y z)),.un] _ _
 refine aN ?_
 generalize hG:(λρ'=>aH k _ ρ' _ _)=G
 walk_at "ev"
 subst hG
 refine cF 4 (by walk_at "at") rfl (by walk_at "sset") ?_
 show aH k _ [.va (.adr g),.va (bJ a b c),.va (bJ x y z),.va (bJ (wm 0 a b c x y z) (wm 1 a b c x y z) (wm 2 a b c x y z)),.va (au (pS x y))] _ _
 walk_at "evSs"
 refine eB (oZ ?_)
 walk_at "cmp"
 refine aC (fh t1) ⟨_,rfl,_,rfl,?_⟩
 walk_at "cmp"
 refine aC (fh t2) ⟨_,rfl,_,rfl,?_⟩
 walk_at "cmp"
 refine aC (fh t3) ⟨_,rfl,_,rfl,?_⟩
 refine nE (Sd.mk (cM (Rk rfl)) rfl)
end
theorem MF (Fu:dI K "side_line" "side_line" (top 20) f fd) (h1:cI P w K mg base 4 "poly_total" jn) (h2:cI P w K mg base 5 "side_rule" (mh P w K mg base yP yH)):bq P w K mg base (cK P w) 6 f fd ["i","l"] (dM K (se yP yH)):=by
 refine cg Fu pB (by rintro ds r ⟨a,b,c,x,y,z,_,_,rfl,_⟩; rfl) (by rintro ds r ⟨a,b,c,x,y,z,_,_,_,rfl⟩; exact ⟨_,rfl⟩) λk hq ds sl hF=>?_
 obtain ⟨a,b,c,x,y,z,h0,h,rfl,e⟩:=hF
 injection e with e
 subst e
 obtain ⟨g,hm,hg⟩:=h1.at_
 show aH k _ [.va (bJ a b c),.va (bJ x y z)] _ _
 conv in (aq _)=>whnf
 walk_at "evSs"
 refine eB (x_call h2 (by decide) (c7 (oX hm ?_)))
 walk_at "ev"
 exact aC (rY hg h0 h) rfl
theorem JY (Fu:dI K "square_line" "square_line" (top 21) f fd) (h1:cI P w K mg base 4 "poly_total" jn) (h2:cI P w K mg base 5 "square_rule" (mh P w K mg base yP jq)):bq P w K mg base (cK P w) 6 f fd ["i","l"] (dM K (se yP jq)):=by
 refine cg Fu lD (by rintro ds r ⟨a,b,c,x,y,z,_,_,rfl,_⟩; rfl) (by rintro ds r ⟨a,b,c,x,y,z,_,_,_,rfl⟩; exact ⟨_,rfl⟩) λk hq ds sl hF=>?_
 obtain ⟨a,b,c,x,y,z,h0,h,rfl,e⟩:=hF
 injection e with e
 subst e
 obtain ⟨g,hm,hg⟩:=h1.at_
 show aH k _ [.va (bJ a b c),.va (bJ x y z)] _ _
 conv in (aq _)=>whnf
 walk_at "evSs"
 refine eB (x_call h2 (by decide) (c7 (oX hm ?_)))
 walk_at "ev"
 exact aC (rY hg h0 h) rfl
theorem JZ (Fu:dI K "foot_point" "foot_point" (top 22) f fd) (h1:cI P w K mg base 4 "poly_total" jn) (h2:cI P w K mg base 6 "foot_rule" (mh P w K mg base JW sd)):bq P w K mg base (cK P w) 7 f fd ["i","l"] (dM K (se JW sd)):=by
 refine cg Fu l8 (by rintro ds r ⟨a,b,c,x,y,z,_,_,rfl,_⟩; rfl) (by rintro ds r ⟨a,b,c,x,y,z,_,_,_,rfl⟩; exact ⟨_,rfl⟩) λk hq ds sl hF=>?_
 obtain ⟨a,b,c,x,y,z,h0,h,rfl,e⟩:=hF
 injection e with e
 subst e
 obtain ⟨g,hm,hg⟩:=h1.at_
 show aH k _ [.va (bJ a b c),.va (bJ x y z)] _ _
 conv in (aq _)=>whnf
 walk_at "evSs"
 refine eB (x_call h2 (by decide) (c7 (oX hm ?_)))
 walk_at "ev"
 exact aC (rY hg h0 h) rfl
theorem J0 (Fu:dI K "mirrored_point" "mirrored_point" (top 23) f fd) (h1:cI P w K mg base 4 "poly_total" jn) (h2:cI P w K mg base 7 "mirrored_rule" (mh P w K mg base KG yI)):bq P w K mg base (cK P w) 8 f fd ["i","l"] (dM K (se KG yI)):=by
 refine cg Fu iR (by rintro ds r ⟨a,b,c,x,y,z,_,_,rfl,_⟩; rfl) (by rintro ds r ⟨a,b,c,x,y,z,_,_,_,rfl⟩; exact ⟨_,rfl⟩) λk hq ds sl hF=>?_
 obtain ⟨a,b,c,x,y,z,h0,h,rfl,e⟩:=hF
 injection e with e
 subst e
 obtain ⟨g,hm,hg⟩:=h1.at_
 show aH k _ [.va (bJ a b c),.va (bJ x y z)] _ _
 conv in (aq _)=>whnf
 walk_at "evSs"
 refine eB (x_call h2 (by decide) (c7 (oX hm ?_)))
 walk_at "ev"
 exact aC (rY hg h0 h) rfl
end
section
variable {K:O7}
noncomputable def aJ (As:List (List aD)):List aD:=As.foldl (λL A=>aQ (aI L A)) (cT 1)
def jr (As:List (List aD)):Prop:=As.length<=1000/\∀ (i:Nat) (h:i<As.length),iT (aJ (As.take i)) As[i]
noncomputable def fj:Fn:=λds r=>∃ As:List (List aD),jr As/\ds=[.lst (As.map au)]/\r=.ok (.va (au (aJ As)))
theorem uf (h:jr As):fj [.lst (As.map au)] (.ok (.va (au (aJ As)))):=⟨As,h,rfl,rfl⟩
section
local macro_rules | `(tactic| walk_at "evCa")=> `(tactic| first
 | with_reducible refine bh (F:=pK) (by assumption) (by decide) ?_)
theorem FI (Fu:dI K "_law_times" "_law_times" (top 39) f fd) (h1:cI P w K mg base 3 "_law_product" pK):bq P w K mg base (cK P w) 4 f fd ["_law_some"] (dM K fj):=by
 refine cg Fu tZ (by rintro ds r ⟨As,_,rfl,_⟩; rfl) (by rintro ds r ⟨As,_,_,rfl⟩; exact ⟨_,rfl⟩) λk hq ds sl hF=>?_
 obtain ⟨As,h,rfl,e⟩:=hF
 injection e with e
 subst e
 show aH k _ [.va (.lst (As.map au)),.un,.un] _ _
 conv in (aq _)=>whnf
 refine aN ?_
 generalize hG:(λρ'=>aH k _ ρ' _ _)=G
 walk_at "ev"
 subst hG
 refine cF 1 (by walk_at "at") rfl (by walk_at "sset") ?_
 show aH k _ [.va (.lst (As.map au)),.va (au (aJ (As.take 0))),.un] _ _
 walk_at "evSs"
 with_reducible refine cN hq (cB ?_)
 walk_at "ev"
 refine ⟨λi ρ'=>∃ s2:Sl,ρ'=[.va (.lst (As.map au)),.va (au (aJ (As.take i))),s2],⟨_,rfl⟩,?_,?_⟩
 ·rintro c' lR wG wH i d ρ' hd ⟨s2,rfl⟩
  simp only [Pk,Pq] at hd
  obtain ⟨A,hA,rfl⟩:=hd
  obtain ⟨hi,rfl⟩:=Ph.mp hA
  have et:aJ (As.take (i+1))=aQ (aI (aJ (As.take i)) As[i]):=by
   unfold aJ
   rw [QE hi,Uc]
   rfl
  walk_at "ev"
  refine aC (Fo (h.2 i hi)) ?_
  walk_at "ev"
  simp only [et]
  exact ⟨_,rfl⟩
 ·rintro ρ' ⟨s2,rfl⟩
  rw [Pe,QC]
  walk_at "ev"
  rfl
end
noncomputable def sj (n:Int) (A:List aD):List aD:=aQ (A.map (pN n))
theorem rZ (h:Lm l e b A) (hn:n.natAbs<2 ^ 120) (hl:l<2 ^ 16:=by decide):Lm l e (b+120+16) (sj n A):=(h.O1 hn).gc hl
noncomputable def r6:Fn:=λds r=>∃ (A:List aD) (n:Int),A.length<=20000/\(∀ t∈A,t.1.length<=64)/\(∀ t∈A,EV.MulOk t.2 n)/\ds=[.lst (A.map av),.int n]/\r=.ok (.ow ((sj n A).map av))
theorem wo (h:Lm l e b A) (hn:n.natAbs<2 ^ 120) (hl:l<=20000:=by decide) (hb:b+120<=1000000:=by decide):r6 [.lst (A.map av),.int n] (.ok (.ow ((sj n A).map av))) :=
 ⟨A,n,Pw h.l hl,h.pow,λt ht=>pM (h.b t ht) hn hb,rfl,rfl⟩
section
local macro_rules | `(tactic| walk_at "evXC")=> `(tactic| first | with_reducible refine x_call (F:=f6) (by assumption) (by decide) ?_)
theorem J4 (Fu:dI K "_law_scaled" "_law_scaled" (top 33) f fd) (T:Txt K mg) (h1:cI P w K mg base 2 "_law_sum" f6):bq P w K mg base (cK P w) 3 f fd ["_law_some","_law_many"] (dM K r6):=by
 refine cg Fu rQ (by rintro ds r ⟨A,n,_,_,_,rfl,_⟩; rfl) (by rintro ds r ⟨A,n,_,_,_,_,rfl⟩; exact ⟨_,rfl⟩) λc hq ds sl hF=>?_
 obtain ⟨A,n,hl,hp,hm,rfl,e⟩:=hF
 injection e with e
 subst e
 show aH c _ [.va (.lst (A.map av)),.va (.int n)] _ _
 conv in (aq _)=>whnf
 walk_at "ev"
 refine e_x (dF hq (N':=["_law_powers","_law_number","_law_many"]) (ρ0:=λ_=>[.un,.un,.va (.int n)]) (λt=>.un (.un (.fr (by walk_at "at") (by walk_at "at") (by decide) rfl .nil))) (cB ?_))
 walk_at "ev"
 ·exact l6 (by rw [Pe]; lia)
 refine ⟨A.map λt=>some (av (pN n t)),by simp,?_,dJ ?_⟩
 ·intro c' hc t i d o hd ho
  simp only [Pk,Pq] at hd ho
  obtain ⟨x,hx,rfl⟩:=hd
  obtain ⟨x',hx',rfl⟩:=ho
  rw [hx] at hx'; cases hx'
  have hx2:=hm x (QI hx)
  show ku c' _ (.tup [.tup (x.1.map .int),.int x.2]) _ _
  walk_at "ev"
  refine ⟨.un (.un (.same .nil)),?_⟩
  simp only [jV]
  refine ⟨λ_=>?_,λh=>by cases h⟩
  walk_at "ev"
  rfl
 ·rw [smap]
  rw [show (A.map λt=>av (pN n t))=(A.map (pN n)).map av by rw [PX]; rfl]
  walk_at "ev"
  refine aC (lF (by rw [Pe]; lia) λt ht=>?_) rfl
  obtain ⟨u,hu,rfl⟩:=Pr.mp ht
  exact hp u hu
end
abbrev cE (A:List aD):Prop:=Lm 5 3 47 A
theorem wu:Lm 1 0 1 (cT 1):=Lm.con (Vb (by decide))
theorem FJ (As):∀ L:List aD,mp (As.foldl (λL A=>aQ (aI L A)) L)=mp L * gU As:=by
 induction As with
 | nil=>intro L; show mp L=mp L * 1; grind
 | cons A As ih =>
  intro L
  rw [QK,ih,iQ,o7]
  show mp L * mp A * gU As=mp L * (mp A * gU As)
  grind
theorem dH (As):mp (aJ As)=gU As:=by
 unfold aJ
 rw [FJ]
 show (1:MP) * _=_
 grind
section
variable {b b' b2:Nat}
theorem Lm.t1 {l b:Nat} {e:Int} {A:List aD} (h:Lm l e b A) (h0:0<=e:=by decide) (hl:1 * l<2 ^ 16:=by decide):Lm (1 * l) (0+e) (1+b+16) (aQ (aI (cT 1) A)):=(wu.prod h (by decide) h0).gc hl
theorem Lm.t2 {l l' b b':Nat} {e e':Int} {A B:List aD} (h:Lm l e b A) (g:Lm l' e' b' B) (h0:0<=e:=by decide) (g0:0<=e':=by decide) (hl:1 * l<2 ^ 16:=by decide) (hl2:1 * l * l'<2 ^ 16:=by decide) (hz:0<=0+e:=by decide):Lm (1 * l * l') (0+e+e') (1+b+16+b'+16) (aJ [A,B]) :=
 ((h.t1 h0 hl).prod g hz g0).gc hl2
theorem Lm.t3 {l l' l2 b b' b2:Nat} {e e' e2:Int} {A B C:List aD} (h:Lm l e b A) (g:Lm l' e' b' B) (j:Lm l2 e2 b2 C) (h0:0<=e:=by decide) (g0:0<=e':=by decide) (j0:0<=e2:=by decide) (hl:1 * l<2 ^ 16:=by decide) (hl2:1 * l * l'<2 ^ 16:=by decide) (hl3:1 * l * l' * l2<2 ^ 16:=by decide) (hz:0<=0+e:=by decide) (hz2:0<=0+e+e':=by decide):Lm (1 * l * l' * l2) (0+e+e'+e2) (1+b+16+b'+16+b2+16) (aJ [A,B,C]) :=
 ((h.t2 g h0 g0 hl hl2 hz).prod j hz2 j0).gc hl3
end
theorem GJ (h:iT (cT 1) A) (g:iT (aQ (aI (cT 1) A)) B):jr [A,B]:=⟨by show (2:Nat)<=1000; decide,λi hi=>by
 match i,hi with
 | 0,_=>exact h
 | 1,_=>exact g⟩
theorem MG (h:iT (cT 1) A) (g:iT (aQ (aI (cT 1) A)) B) (j:iT (aJ [A,B]) C):jr [A,B,C]:=⟨by show (3:Nat)<=1000; decide,λi hi=>by
 match i,hi with
 | 0,_=>exact h
 | 1,_=>exact g
 | 2,_=>exact j⟩
theorem CF (h:cE A) (g:cE B):jr [A,B]:=GJ (wu.JT h) (h.t1.JT g)
theorem CG (h:cE A) (g:cE B) (j:cE C):jr [A,B,C]:=MG (wu.JT h) (h.t1.JT g) ((h.t2 g).JT j)
end
section
variable {P:Program} {w:World} {K:O7} {mg:Str->Option Value} {base:Heap}
structure dB (a b c x y z:List aD):Prop where
 a:cE a
 b:cE b
 c:cE c
 x:cE x
 y:cE y
 z:cE z
theorem pO (h:cE A) (g:cE B):fj [.lst [au A,au B]] (.ok (.va (.lst ((aJ [A,B]).map av)))):=uf (As:=[A,B]) (CF h g)
theorem J5 (h:cE A) (g:cE B) (j:cE C):fj [.lst [au A,au B,au C]] (.ok (.va (.lst ((aJ [A,B,C]).map av)))):=uf (As:=[A,B,C]) (CG h g j)
theorem ug (h:Lm l e b A) (g:Lm l' e' b' B) (hl:l+l'<=20000:=by decide):f6 [.lst ((A++B).map av)] (.ok (.ow ((aQ (A++B)).map av))) :=
 lF (by rw [P0]; have:=h.l; have:=g.l; lia) λt ht=>(PD.mp ht).elim (h.pow t) (g.pow t)
noncomputable def J6 (a b c x y _z:List aD):List (List aD):=[aJ [x,c],aJ [y,c],sj (0 - 1) (aQ (aJ [x,a]++aJ [y,b]))]
noncomputable def wz:Fn:=λds r=>∃ a b c x y z:List aD,dB a b c x y z/\ds=[bJ a b c,bJ x y z]/\r=.ok (.va (.tup ((J6 a b c x y z).map au)))
section
local macro_rules | `(tactic| walk_at "evCa")=> `(tactic| first
 | with_reducible refine bh (F:=fj) (by assumption) (by decide) ?_
 | with_reducible refine bh (F:=f6) (by assumption) (by decide) ?_)
local macro_rules | `(tactic| walk_at "evXC")=> `(tactic| first
 | with_reducible refine x_call (F:=r6) (by assumption) (by decide) ?_)
local macro_rules | `(tactic| walk_at "evR")=> `(tactic| first
 | with_reducible refine aC (pO (by assumption) (by assumption)) ?_)
theorem CH (Fu:dI K "_law_side" "_law_side" (top 40) f fd) (h1:cI P w K mg base 4 "_law_times" fj) (h2:cI P w K mg base 2 "_law_sum" f6) (h3:cI P w K mg base 3 "_law_scaled" r6):bq P w K mg base (cK P w) 5 f fd ["_law_i","_law_l"] (dM K wz):=by
 refine cg Fu yt (by rintro ds r ⟨a,b,c,x,y,z,_,rfl,_⟩; rfl) (by rintro ds r ⟨a,b,c,x,y,z,_,_,rfl⟩; exact ⟨_,rfl⟩) λk hq ds sl hF=>?_
 obtain ⟨a,b,c,x,y,z,⟨ha,hb,hc,hx,hy,hz⟩,rfl,e⟩:=hF
 injection e with e
 subst e
 have u1:=hx.t2 ha
 have u2:=hy.t2 hb
 show aH k _ [.va (bJ a b c),.va (bJ x y z),.un] _ _
 conv in (aq _)=>whnf
 refine aN ?_
 generalize hG:(λρ'=>aH k _ ρ' _ _)=G
 walk_at "ev"
 ·rw [Pe,Pe]; exact l6 (by have:=u1.l; have:=u2.l; lia)
 rw [<- Px]
 refine aC (ug u1 u2) ?_
 walk_at "ev"
 refine aC (wo (u1.app u2).gc (by decide)) ?_
 walk_at "ev"
 subst hG
 refine cF 2 (by walk_at "at") rfl (by walk_at "sset") ?_
 walk_at "ev"
 rfl
end
noncomputable def gh (A B:List aD):List aD:=aQ (A++B.map fX)
theorem lK (h:Lm l e b A) (g:Lm l' e' b' B) (hl:l+l'<=20000:=by decide):d8 [.lst (A.map av),.lst (B.map av)] (.ok (.ow ((gh A B).map av))) :=
 FF (by have:=h.l; have:=g.l; lia) λt ht=>(PD.mp ht).elim (h.pow t) (g.pow t)
noncomputable def J7 (a b c x y _z:List aD):List (List aD):=[sj (0 - 1) (aJ [y,c]),aJ [x,c],gh (aJ [y,a]) (aJ [x,b])]
noncomputable def FL:Fn:=λds r=>∃ a b c x y z:List aD,dB a b c x y z/\ds=[bJ a b c,bJ x y z]/\r=.ok (.va (.tup ((J7 a b c x y z).map au)))
section
local macro_rules | `(tactic| walk_at "evCa")=> `(tactic| first
 | with_reducible refine bh (F:=fj) (by assumption) (by decide) ?_
 | with_reducible refine bh (F:=d8) (by assumption) (by decide) ?_)
local macro_rules | `(tactic| walk_at "evXC")=> `(tactic| first
 | with_reducible refine x_call (F:=r6) (by assumption) (by decide) ?_)
local macro_rules | `(tactic| walk_at "evR")=> `(tactic| first
 | with_reducible refine aC (pO (by assumption) (by assumption)) ?_)
theorem FN (Fu:dI K "_law_square" "_law_square" (top 41) f fd) (h1:cI P w K mg base 4 "_law_times" fj) (h2:cI P w K mg base 3 "_law_less" d8) (h3:cI P w K mg base 3 "_law_scaled" r6):bq P w K mg base (cK P w) 5 f fd ["_law_i","_law_l"] (dM K FL):=by
 refine cg Fu rR (by rintro ds r ⟨a,b,c,x,y,z,_,rfl,_⟩; rfl) (by rintro ds r ⟨a,b,c,x,y,z,_,_,rfl⟩; exact ⟨_,rfl⟩) λk hq ds sl hF=>?_
 obtain ⟨a,b,c,x,y,z,⟨ha,hb,hc,hx,hy,hz⟩,rfl,e⟩:=hF
 injection e with e
 subst e
 show aH k _ [.va (bJ a b c),.va (bJ x y z),.un] _ _
 conv in (aq _)=>whnf
 refine aN ?_
 generalize hG:(λρ'=>aH k _ ρ' _ _)=G
 walk_at "ev"
 refine aC (wo (hy.t2 hc) (by decide)) ?_
 walk_at "ev"
 subst hG
 refine cF 2 (by walk_at "at") rfl (by walk_at "sset") ?_
 walk_at "ev"
 refine aC (lK (hy.t2 ha) (hx.t2 hb)) ?_
 walk_at "ev"
 rfl
end
noncomputable def C9 (x y:List aD):List aD:=aQ (aJ [x,x]++aJ [y,y])
noncomputable def J8 (a b c x y z:List aD):List (List aD):=[gh (gh (aJ [y,y,a]) (aJ [x,y,b])) (aJ [x,z,c]),gh (gh (aJ [x,x,b]) (aJ [x,y,a])) (aJ [y,z,c]),aJ [C9 x y,c]]
noncomputable def GK:Fn:=λds r=>∃ a b c x y z:List aD,dB a b c x y z/\ds=[bJ a b c,bJ x y z]/\r=.ok (.va (.tup ((J8 a b c x y z).map au)))
theorem cE.wd (hx:cE x) (hy:cE y):Lm 50 6 160 (C9 x y):=(((hx.t2 hx).app (hy.t2 hy)).gc).mono
theorem cE.Og {x y a z w b:List aD} (hx:cE x) (hy:cE y) (ha:cE a) (hz:cE z) (hw:cE w) (hb:cE b):Lm 250 9 220 (gh (aJ [x,y,a]) (aJ [z,w,b])):=(((hx.t3 hy ha).app (hz.t3 hw hb).neg).gc).mono
theorem CI (hx:cE x) (hy:cE y) (hc:cE c):fj [.lst [.lst ((C9 x y).map av),au c]] (.ok (.va (.lst ((aJ [C9 x y,c]).map av)))):=uf (As:=[C9 x y,c]) (GJ (wu.JT (hx.wd hy)) ((hx.wd hy).t1.JT hc))
section
local macro_rules | `(tactic| walk_at "evCa")=> `(tactic| first
 | with_reducible refine bh (F:=fj) (by assumption) (by decide) ?_
 | with_reducible refine bh (F:=d8) (by assumption) (by decide) ?_)
local macro_rules | `(tactic| walk_at "evXC")=> `(tactic| first
 | with_reducible refine x_call (F:=d8) (by assumption) (by decide) ?_
 | with_reducible refine x_call (F:=f6) (by assumption) (by decide) ?_)
local macro_rules | `(tactic| walk_at "evR")=> `(tactic| first
 | with_reducible refine aC (pO (by assumption) (by assumption)) ?_
 | with_reducible refine aC (J5 (by assumption) (by assumption) (by assumption)) ?_
 | with_reducible refine aC (CI (by assumption) (by assumption) (by assumption)) ?_)
theorem J9 (Fu:dI K "_law_foot" "_law_foot" (top 42) f fd) (h1:cI P w K mg base 4 "_law_times" fj) (h2:cI P w K mg base 3 "_law_less" d8) (h3:cI P w K mg base 2 "_law_sum" f6):bq P w K mg base (cK P w) 5 f fd ["_law_i","_law_l"] (dM K GK):=by
 refine cg Fu yu (by rintro ds r ⟨a,b,c,x,y,z,_,rfl,_⟩; rfl) (by rintro ds r ⟨a,b,c,x,y,z,_,_,rfl⟩; exact ⟨_,rfl⟩) λk hq ds sl hF=>?_
 obtain ⟨a,b,c,x,y,z,⟨ha,hb,hc,hx,hy,hz⟩,rfl,e⟩:=hF
 injection e with e
 subst e
 show aH k _ [.va (bJ a b c),.va (bJ x y z),.un,.un,.un,.un] _ _
 conv in (aq _)=>whnf
 refine aN ?_
 generalize hG:(λρ'=>aH k _ ρ' _ _)=G
 walk_at "ev"
 refine aC (lK (hy.t3 hy ha) (hx.t3 hy hb)) ?_
 walk_at "ev"
 subst hG
 refine cF 2 (by walk_at "at") rfl (by walk_at "sset") ?_
 refine aN ?_
 generalize hG:(λρ'=>aH k _ ρ' _ _)=G
 walk_at "ev"
 refine aC (lK (hx.t3 hx hb) (hx.t3 hy ha)) ?_
 walk_at "ev"
 subst hG
 refine cF 3 (by walk_at "at") rfl (by walk_at "sset") ?_
 refine aN ?_
 generalize hG:(λρ'=>aH k _ ρ' _ _)=G
 walk_at "ev"
 ·rw [Pe,Pe]; exact l6 (by have:=(hx.t2 hx).l; have:=(hy.t2 hy).l; lia)
 rw [<- Px]
 refine aC (ug (hx.t2 hx) (hy.t2 hy)) ?_
 walk_at "ev"
 subst hG
 refine cF 4 (by walk_at "at") rfl (by walk_at "sset") ?_
 refine aN ?_
 generalize hG:(λρ'=>aH k _ ρ' _ _)=G
 walk_at "ev"
 refine aC (lK (hy.Og hy ha hx hy hb) (hx.t3 hz hc)) ?_
 walk_at "ev"
 subst hG
 refine cF 5 (by walk_at "at") rfl (by walk_at "sset") ?_
 walk_at "ev"
 refine aC (lK (hx.Og hx hb hx hy ha) (hy.t3 hz hc)) ?_
 walk_at "ev"
 refine aC (CI hx hy hc) ?_
 walk_at "ev"
 rfl
end
end
section
variable {K:O7}
noncomputable def Ka (a b c x y z:List aD):List (List aD):=[gh (sj 2 (gh (gh (aJ [y,y,a]) (aJ [x,y,b])) (aJ [x,z,c]))) (aJ [C9 x y,a]),gh (sj 2 (gh (gh (aJ [x,x,b]) (aJ [x,y,a])) (aJ [y,z,c]))) (aJ [C9 x y,b]),aJ [C9 x y,c]]
noncomputable def Nb:Fn:=λds r=>∃ a b c x y z:List aD,dB a b c x y z/\ds=[bJ a b c,bJ x y z]/\r=.ok (.va (.tup ((Ka a b c x y z).map au)))
theorem Oh (h:dB a b c x y z):GK [bJ a b c,bJ x y z] (.ok (.va (.tup [.lst ((gh (gh (aJ [y,y,a]) (aJ [x,y,b])) (aJ [x,z,c])).map av),.lst ((gh (gh (aJ [x,x,b]) (aJ [x,y,a])) (aJ [y,z,c])).map av),.lst ((aJ [C9 x y,c]).map av)]))):=⟨a,b,c,x,y,z,h,rfl,rfl⟩
theorem cE.Dc {x y a z w b p q r:List aD} (hx:cE x) (hy:cE y) (ha:cE a) (hz:cE z) (hw:cE w) (hb:cE b) (hp:cE p) (hq:cE q) (hr:cE r):Lm 375 9 240 (gh (gh (aJ [x,y,a]) (aJ [z,w,b])) (aJ [p,q,r])):=(((hx.Og hy ha hz hw hb).app ((hp.t3 hq hr).neg.mono (e':=9) (b':=220) (l':=125))).gc).mono
section
local macro_rules | `(tactic| walk_at "evCa")=> `(tactic| first
 | with_reducible refine bh (F:=fj) (by assumption) (by decide) ?_
 | with_reducible refine bh (F:=d8) (by assumption) (by decide) ?_
 | with_reducible refine bh (F:=r6) (by assumption) (by decide) ?_
 | with_reducible refine bh (F:=GK) (by assumption) (by decide) ?_)
local macro_rules | `(tactic| walk_at "evXC")=> `(tactic| first
 | with_reducible refine x_call (F:=d8) (by assumption) (by decide) ?_
 | with_reducible refine x_call (F:=GK) (by assumption) (by decide) ?_
 | with_reducible refine x_call (F:=f6) (by assumption) (by decide) ?_)
local macro_rules | `(tactic| walk_at "evR")=> `(tactic| first
 | with_reducible refine aC (pO (by assumption) (by assumption)) ?_
 | with_reducible refine aC (Oh (by assumption)) ?_
 | with_reducible refine aC (CI (by assumption) (by assumption) (by assumption)) ?_)
theorem Kc (Fu:dI K "_law_mirrored" "_law_mirrored" (top 43) f fd) (h1:cI P w K mg base 4 "_law_times" fj) (h2:cI P w K mg base 3 "_law_less" d8) (h3:cI P w K mg base 2 "_law_sum" f6) (h4:cI P w K mg base 3 "_law_scaled" r6) (h5:cI P w K mg base 5 "_law_foot" GK):bq P w K mg base (cK P w) 6 f fd ["_law_i","_law_l"] (dM K Nb):=by
 refine cg Fu l9 (by rintro ds r ⟨a,b,c,x,y,z,_,rfl,_⟩; rfl) (by rintro ds r ⟨a,b,c,x,y,z,_,_,rfl⟩; exact ⟨_,rfl⟩) λk hq ds sl hF=>?_
 obtain ⟨a,b,c,x,y,z,h,rfl,e⟩:=hF
 obtain ⟨ha,hb,hc,hx,hy,hz⟩:=id h
 injection e with e
 subst e
 show aH k _ [.va (bJ a b c),.va (bJ x y z),.un,.un,.un] _ _
 conv in (aq _)=>whnf
 refine aN ?_
 generalize hG:(λρ'=>aH k _ ρ' _ _)=G
 walk_at "ev"
 subst hG
 refine aN ?_
 generalize hG:(λρ'=>aH k _ ρ' _ _)=G
 walk_at "ev"
 ·rw [Pe,Pe]; exact l6 (by have:=(hx.t2 hx).l; have:=(hy.t2 hy).l; lia)
 rw [<- Px]
 refine aC (ug (hx.t2 hx) (hy.t2 hy)) ?_
 walk_at "ev"
 subst hG
 refine cF 3 (by walk_at "at") rfl (by walk_at "sset") ?_
 refine aN ?_
 generalize hG:(λρ'=>aH k _ ρ' _ _)=G
 walk_at "ev"
 refine aC (wo (hy.Dc hy ha hx hy hb hx hz hc) (by decide)) ?_
 walk_at "ev"
 refine aC (CI hx hy ha) ?_
 walk_at "ev"
 refine aC (lK (rZ (hy.Dc hy ha hx hy hb hx hz hc) (by decide)) ((hx.wd hy).t2 ha)) ?_
 walk_at "ev"
 subst hG
 refine cF 4 (by walk_at "at") rfl (by walk_at "sset") ?_
 walk_at "ev"
 refine aC (wo (hx.Dc hx hb hx hy ha hy hz hc) (by decide)) ?_
 walk_at "ev"
 refine aC (CI hx hy hb) ?_
 walk_at "ev"
 refine aC (lK (rZ (hx.Dc hx hb hx hy ha hy hz hc) (by decide)) ((hx.wd hy).t2 hb)) ?_
 walk_at "ev"
 rfl
end
end
noncomputable def genS (Ls:List (List aD)):Sh:=.t (Ls.map λA=>Sh.l (A.map av))
theorem iW (pss):CD pss=.fo (genS (pss.map λps=>aQ (dQ ps))):=by
 unfold CD genS Mz
 rw [PX]
 rfl
theorem pq (h:mp A=mp (aQ B)):aQ A=aQ B:=gQ (by rw [h,iQ])
theorem wA (A B):mp (gh A B)=mp A - mp B:=by unfold gh; rw [iQ,Js]
theorem CJ (n) (A):mp (sj n A)=(n:MP) * mp A:=by unfold sj; rw [iQ,JU]
theorem lM (p:Part):mp (dQ [p])=(p.1:MP) * gU p.2:=by
 unfold dQ
 rw [Sy,Ul,Qp,fK]
theorem nG (p:Part) (ps):mp (dQ (p::ps))=(p.1:MP) * gU p.2+mp (dQ ps):=by
 unfold dQ
 rw [Sy,lB,fK]
theorem Nc (A B):aQ (dQ [(1,[A,B])])=aJ [A,B]:=by
 refine pq (B:=aI (aJ [A]) B) ?_
 show _=mp (aJ [A,B])
 rw [lM,dH]
 show (1:MP) * _=_
 grind
theorem MH:(yH a b c x y z).map (λps=>aQ (dQ ps))=J6 a b c x y z:=by
 unfold yH J6
 simp only [Pd,Qv,Nc]
 congr 3
 refine pq (B:=(aQ (aJ [x,a]++aJ [y,b])).map (pN (0 - 1))) ?_
 show _=mp (sj (0 - 1) (aQ (aJ [x,a]++aJ [y,b])))
 rw [CJ,iQ,lB,dH,dH,nG,lM]
 simp only [gU,Pd,Qv,Rx,List.foldr_nil]
 grind
theorem Kd:(jq a b c x y z).map (λps=>aQ (dQ ps))=J7 a b c x y z:=by
 unfold jq J7
 simp only [Pd,Qv,Nc]
 have e1:aQ (dQ [(-1,[y,c])])=sj (0 - 1) (aJ [y,c]):=by
  refine pq (B:=(aJ [y,c]).map (pN (0 - 1))) ?_
  show _=mp (sj (0 - 1) (aJ [y,c]))
  rw [CJ,dH,lM]
  simp only [gU,Pd,Qv,Rx,List.foldr_nil]
  grind
 have e2:aQ (dQ [(1,[y,a]),(-1,[x,b])])=gh (aJ [y,a]) (aJ [x,b]):=by
  refine pq (B:=aJ [y,a]++(aJ [x,b]).map fX) ?_
  show _=mp (gh (aJ [y,a]) (aJ [x,b]))
  rw [wA,dH,dH,nG,lM]
  simp only [gU,Pd,Qv,Rx,List.foldr_nil]
  grind
 rw [e1,e2]
theorem CK (x y):pS x y=C9 x y:=gQ (by
 unfold JV
 rw [lB,dH,dH,nG,lM]
 generalize gU [x,x]=u
 generalize gU [y,y]=v
 grind)
theorem Oi (A B C):aQ (dQ [(1,A),(-1,B),(-1,C)])=gh (gh (aJ A) (aJ B)) (aJ C):=by
 refine pq (B:=gh (aJ A) (aJ B)++(aJ C).map fX) ?_
 show _=mp (gh (gh (aJ A) (aJ B)) (aJ C))
 rw [wA,wA,dH,dH,dH,nG,nG,lM]
 generalize gU A=u
 generalize gU B=v
 generalize gU C=t
 grind
theorem O2 (A) (B):aQ (dQ [(2,[A]),(-1,B)])=gh (sj 2 A) (aJ B):=by
 refine pq (B:=sj 2 A++(aJ B).map fX) ?_
 show _=mp (gh (sj 2 A) (aJ B))
 rw [wA,CJ,dH,nG,lM,show gU [A]=mp A * 1 from rfl]
 generalize gU B=v
 generalize mp A=u
 grind
theorem MI:(sd a b c x y z).map (λps=>aQ (dQ ps))=J8 a b c x y z:=by
 unfold sd J8
 simp only [Pd,Qv,Oi,Nc,CK]
theorem OL:wm 0 a b c x y z=gh (gh (aJ [y,y,a]) (aJ [x,y,b])) (aJ [x,z,c]):=Oi _ _ _
theorem MJ:wm 1 a b c x y z=gh (gh (aJ [x,x,b]) (aJ [x,y,a])) (aJ [y,z,c]):=Oi _ _ _
theorem MK:(yI a b c x y z).map (λps=>aQ (dQ ps))=Ka a b c x y z:=by
 unfold yI Ka
 simp only [Pd,Qv,O2,Nc,CK,OL,MJ]
theorem OM (h:A.length<=k) (hk:1<=k:=by decide):My.aZ [A]<=k:=by
 show max A.length 1 * 1<=_
 rw [Nat.mul_one]
 exact Nat.max_le.mpr ⟨h,hk⟩
theorem ML (h:A.length<=k) (g:B.length<=l) (hk:1<=k:=by decide) (hl:1<=l:=by decide):My.aZ [A,B]<=k * l :=
 Rz (Nat.max_le.mpr ⟨h,hk⟩) (OM g hl)
theorem O4 (h:A.length<=k) (g:B.length<=l) (j:C.length<=m) (hk:1<=k:=by decide) (hl:1<=l:=by decide) (hm:1<=m:=by decide):My.aZ [A,B,C]<=k * (l * m) :=
 Rz (Nat.max_le.mpr ⟨h,hk⟩) (ML g j hl hm)
theorem wB (hn:n.natAbs<3) (hl:As.length<=8) (h:∀ A∈As,cA A):bX (n,As):=⟨Qo hn (by decide +kernel),hl,h⟩
theorem MM (h:cA A):∀ C∈[A],cA C:=λC hC=>by
 cases PB.mp hC; exact h
theorem Ke (h:cA A) (g:cA B):∀ C∈[A,B],cA C:=λC hC=>(Pg.mp hC).elim (λe=>e ▸ h) (MM g C)
theorem Oj {A B D:List aD} (h:cA A) (g:cA B) (j:cA D):∀ C∈[A,B,D],cA C:=λC hC=>(Pg.mp hC).elim (λe=>e ▸ h) (Ke g j C)
theorem yJ (h:bX p) (hs:My.aZ p.2<=20000):bH [p]:=⟨λq hq=>by cases PB.mp hq; exact h,by show (1:Nat)<=1000; decide,by show My.aZ p.2+0<=20000; omega⟩
theorem CL (h:bX p) (g:bX q) (hs:My.aZ p.2+My.aZ q.2<=20000):bH [p,q]:=⟨λr hr=>by
 simp only [Pg,Qf,or_false] at hr
 rcases hr with rfl | rfl
 ·exact h
 ·exact g,by show (2:Nat)<=1000; decide,by show My.aZ p.2+(My.aZ q.2+0)<=20000; omega⟩
theorem MN (h:bX p) (g:bX q) (j:bX r) (hs:My.aZ p.2+(My.aZ q.2+My.aZ r.2)<=20000):bH [p,q,r]:=⟨λt ht=>by
 simp only [Pg,Qf,or_false] at ht
 rcases ht with rfl | rfl | rfl
 ·exact h
 ·exact g
 ·exact j,by show (3:Nat)<=1000; decide,by show My.aZ p.2+(My.aZ q.2+(My.aZ r.2+0))<=20000; omega⟩
theorem Dd (hn:n.natAbs<3) (h:cE A) (g:cE B):bX (n,[A,B])/\My.aZ [A,B]<=25:=⟨wB hn (by show (2:Nat)<=8; decide) (Ke h.CC g.CC),ML h.l g.l⟩
theorem KH (hn:n.natAbs<3) (h:cE A) (g:cE B) (j:cE C):bX (n,[A,B,C])/\My.aZ [A,B,C]<=125:=⟨wB hn (by show (3:Nat)<=8; decide) (Oj h.CC g.CC j.CC),O4 h.l g.l j.l⟩
theorem Nd (hn:n.natAbs<3) (hx:cE x) (hy:cE y) (j:cE C):bX (n,[pS x y,C])/\My.aZ [pS x y,C]<=250:=by
 rw [CK]
 exact ⟨wB hn (by show (2:Nat)<=8; decide) (Ke (hx.wd hy).CC j.CC),ML (hx.wd hy).l j.l⟩
theorem MO (hn:n.natAbs<3) (h:Lm 375 9 240 A):bX (n,[A])/\My.aZ [A]<=375:=⟨wB hn (by show (1:Nat)<=8; decide) (MM h.CC),OM h.l⟩
theorem Kf (h:dB a b c x y z):∀ ps∈yH a b c x y z,bH ps:=λps hps=>by
 simp only [yH,Pg,Qf,or_false] at hps
 obtain ⟨a1,a2⟩:=Dd (n:=1) (by decide) h.x h.c
 obtain ⟨b1,b2⟩:=Dd (n:=1) (by decide) h.y h.c
 obtain ⟨c1,c2⟩:=Dd (n:= -1) (by decide) h.x h.a
 obtain ⟨d1,d2⟩:=Dd (n:= -1) (by decide) h.y h.b
 rcases hps with rfl | rfl | rfl
 ·exact yJ a1 (by show My.aZ [x,c]<=20000; omega)
 ·exact yJ b1 (by show My.aZ [y,c]<=20000; omega)
 ·exact CL c1 d1 (by show My.aZ [x,a]+My.aZ [y,b]<=20000; omega)
theorem FO (h:dB a b c x y z):∀ ps∈jq a b c x y z,bH ps:=λps hps=>by
 simp only [jq,Pg,Qf,or_false] at hps
 obtain ⟨a1,a2⟩:=Dd (n:= -1) (by decide) h.y h.c
 obtain ⟨b1,b2⟩:=Dd (n:=1) (by decide) h.x h.c
 obtain ⟨c1,c2⟩:=Dd (n:=1) (by decide) h.y h.a
 obtain ⟨d1,d2⟩:=Dd (n:= -1) (by decide) h.x h.b
 rcases hps with rfl | rfl | rfl
 ·exact yJ a1 (by show My.aZ [y,c]<=20000; omega)
 ·exact yJ b1 (by show My.aZ [x,c]<=20000; omega)
 ·exact CL c1 d1 (by show My.aZ [y,a]+My.aZ [x,b]<=20000; omega)
theorem CM (hx:cE x) (hy:cE y):bH (JV x y):=by
 obtain ⟨a1,a2⟩:=Dd (n:=1) (by decide) hx hx
 obtain ⟨b1,b2⟩:=Dd (n:=1) (by decide) hy hy
 exact CL a1 b1 (by show My.aZ [x,x]+My.aZ [y,y]<=20000; omega)
theorem CN (h:dB a b c x y z):∀ ps∈sd a b c x y z,bH ps:=λps hps=>by
 simp only [sd,Pg,Qf,or_false] at hps
 obtain ⟨a1,a2⟩:=KH (n:=1) (by decide) h.y h.y h.a
 obtain ⟨b1,b2⟩:=KH (n:= -1) (by decide) h.x h.y h.b
 obtain ⟨c1,c2⟩:=KH (n:= -1) (by decide) h.x h.z h.c
 obtain ⟨d1,d2⟩:=KH (n:=1) (by decide) h.x h.x h.b
 obtain ⟨e1,e2⟩:=KH (n:= -1) (by decide) h.x h.y h.a
 obtain ⟨f1,f2⟩:=KH (n:= -1) (by decide) h.y h.z h.c
 obtain ⟨g1,g2⟩:=Nd (n:=1) (by decide) h.x h.y h.c
 rcases hps with rfl | rfl | rfl
 ·exact MN a1 b1 c1 (by show My.aZ [y,y,a]+(My.aZ [x,y,b]+My.aZ [x,z,c])<=20000; omega)
 ·exact MN d1 e1 f1 (by show My.aZ [x,x,b]+(My.aZ [x,y,a]+My.aZ [y,z,c])<=20000; omega)
 ·exact yJ g1 (by show My.aZ [pS x y,c]<=20000; omega)
theorem Kg (h:dB a b c x y z):∀ ps∈yI a b c x y z,bH ps:=λps hps=>by
 simp only [yI,Pg,Qf,or_false] at hps
 obtain ⟨a1,a2⟩:=MO (n:=2) (by decide) (h.y.Dc h.y h.a h.x h.y h.b h.x h.z h.c)
 obtain ⟨b1,b2⟩:=MO (n:=2) (by decide) (h.x.Dc h.x h.b h.x h.y h.a h.y h.z h.c)
 rw [<- OL] at a1 a2
 rw [<- MJ] at b1 b2
 obtain ⟨d1,d2⟩:=Nd (n:= -1) (by decide) h.x h.y h.a
 obtain ⟨e1,e2⟩:=Nd (n:= -1) (by decide) h.x h.y h.b
 obtain ⟨g1,g2⟩:=Nd (n:=1) (by decide) h.x h.y h.c
 rcases hps with rfl | rfl | rfl
 ·exact CL a1 d1 (by show My.aZ [wm 0 a b c x y z]+My.aZ [pS x y,a]<=20000; omega)
 ·exact CL b1 e1 (by show My.aZ [wm 1 a b c x y z]+My.aZ [pS x y,b]<=20000; omega)
 ·exact yJ g1 (by show My.aZ [pS x y,c]<=20000; omega)
theorem Ol (h:dB a b c x y z):se yP yH [bJ a b c,bJ x y z] (.ok (.fo (genS (J6 a b c x y z)))):=⟨a,b,c,x,y,z,trivial,Kf h,rfl,by rw [iW,MH]⟩
theorem MQ (h:dB a b c x y z):se yP jq [bJ a b c,bJ x y z] (.ok (.fo (genS (J7 a b c x y z)))):=⟨a,b,c,x,y,z,trivial,FO h,rfl,by rw [iW,Kd]⟩
theorem MR (h:dB a b c x y z):se JW sd [bJ a b c,bJ x y z] (.ok (.fo (genS (J8 a b c x y z)))):=⟨a,b,c,x,y,z,CM h.x h.y,CN h,rfl,by rw [iW,MI]⟩
theorem MS (h:dB a b c x y z):se KG yI [bJ a b c,bJ x y z] (.ok (.fo (genS (Ka a b c x y z)))):=⟨a,b,c,x,y,z,⟨CM h.x h.y,CN h⟩,Kg h,rfl,by rw [iW,MK]⟩
abbrev nH (L:List aD):Prop:=L.length<=20000/\∀ t∈L,t.1.length<=64
theorem Lm.out {l b:Nat} {e:Int} {A:List aD} (h:Lm l e b A) (hl:l<=20000:=by decide):nH A:=⟨Pw h.l hl,h.pow⟩
def O3 (Ls:List (List aD)):Prop:=Ls.length=3/\∀ L∈Ls,nH L
theorem FP (ha:nH A) (hb:nH B) (hc:nH C):O3 [A,B,C]:=⟨rfl,λL hL=>by
 simp only [Pg,Qf,or_false] at hL
 rcases hL with rfl | rfl | rfl
 ·exact ha
 ·exact hb
 ·exact hc⟩
theorem Kh (h:dB a b c x y z):O3 (J6 a b c x y z):=FP (h.x.t2 h.c).out (h.y.t2 h.c).out (rZ ((h.x.t2 h.a).app (h.y.t2 h.b)).gc (by decide)).out
theorem FQ (h:dB a b c x y z):O3 (J7 a b c x y z):=FP (rZ (h.y.t2 h.c) (by decide)).out (h.x.t2 h.c).out (Lm.out (((h.y.t2 h.a).app (h.x.t2 h.b).neg).gc))
theorem Kl (h:dB a b c x y z):O3 (J8 a b c x y z):=FP (h.y.Dc h.y h.a h.x h.y h.b h.x h.z h.c).out (h.x.Dc h.x h.b h.x h.y h.a h.y h.z h.c).out ((h.x.wd h.y).t2 h.c).out
theorem wC (h:Lm 375 9 240 A) (g:Lm 50 6 160 B) (j:cE C):nH (gh (sj 2 A) (aJ [B,C])) :=
 Lm.out (((rZ h (by decide)).app ((g.t2 j).neg.mono (l':=250) (e':=9) (b':=376))).gc)
theorem Km (h:dB a b c x y z):O3 (Ka a b c x y z):=FP (wC (h.y.Dc h.y h.a h.x h.y h.b h.x h.z h.c) (h.x.wd h.y) h.a) (wC (h.x.Dc h.x h.b h.x h.y h.a h.y h.z h.c) (h.x.wd h.y) h.b) ((h.x.wd h.y).t2 h.c).out
theorem gw (h:O3 Ls):CA (genS Ls):=⟨Ls.map λA=>A.map av,by unfold genS; rw [PX]; rfl,by rw [Pe,h.1]; decide,λds hd=>by
 obtain ⟨L,hL,rfl⟩:=Pr.mp hd
 rw [Pe]; exact (h.2 L hL).1⟩
theorem Om (h:O3 Ls):lJ [.tup (Ls.map au),.tup (Ls.map au)] (.ok (.va (.bl true))):=FG false (Ls:=Ls) h.1 h.2
theorem CO:∀ Ls:List (List aD),Sh.ds (Ls.map λA=>Sh.l (A.map av))=Ls.map au
 | []=>rfl
 | A::Ls=>congrArg (au A:: ·) (CO Ls)
theorem wD (Ls):(genS Ls).d=.tup (Ls.map au):=congrArg D.tup (CO Ls)
section
variable {K:O7}
theorem nI (Ls Ms:List (List aD)):jT (n+4) (.tup (Ls.map au)) (.tup (Ms.map au)):=.tup λi d e h1 h2=>by
 simp only [Pk,Pq] at h1 h2
 obtain ⟨a,_,rfl⟩:=h1
 obtain ⟨b,_,rfl⟩:=h2
 exact Bl a b
theorem CP (L1 L2:List (List aD)):lX [.tup (L1.map au),.tup (L2.map au)] [.tup (L1.map au),.tup (L2.map au)]:=nD (nI L1 L1) (nD (nI L2 L2) (Bm _))
theorem FT (a b c):rX [bJ a b c] (.ok (.va (bJ a b c))):=JR (Ls:=[a,b,c]) (by show (3:Nat)<=1000; decide)
noncomputable def wF:Fn:=λds r=>∃ a b c x y z:List aD,dB a b c x y z/\ds=[bJ a b c,bJ x y z]/\r=.ok (.va (.bl true))
theorem uh (h:dB a b c x y z):wF [bJ a b c,bJ x y z] (.ok (.va (.bl true))):=⟨a,b,c,x,y,z,h,rfl,rfl⟩
theorem Oo (h:dB a b c x y z):wz [bJ a b c,bJ x y z] (.ok (.va (.tup ((J6 a b c x y z).map au)))):=⟨a,b,c,x,y,z,h,rfl,rfl⟩
theorem Oq (h:dB a b c x y z):FL [bJ a b c,bJ x y z] (.ok (.va (.tup ((J7 a b c x y z).map au)))):=⟨a,b,c,x,y,z,h,rfl,rfl⟩
theorem Ot (h:dB a b c x y z):GK [bJ a b c,bJ x y z] (.ok (.va (.tup ((J8 a b c x y z).map au)))):=⟨a,b,c,x,y,z,h,rfl,rfl⟩
theorem Ou (h:dB a b c x y z):Nb [bJ a b c,bJ x y z] (.ok (.va (.tup ((Ka a b c x y z).map au)))):=⟨a,b,c,x,y,z,h,rfl,rfl⟩
theorem MT {α:Type} {p:α->Prop} {a b c d:α} (ha:p a) (hb:p b) (hc:p c) (hd:p d):∀ x∈[a,b,c,d],p x:=λx hx=>by
 simp only [Pg,Qf,or_false] at hx
 rcases hx with rfl | rfl | rfl | rfl
 ·exact ha
 ·exact hb
 ·exact hc
 ·exact hd
section
local macro_rules | `(tactic| walk_at "evCa")=> `(tactic| first
 | with_reducible refine bh (F:=rX) (by assumption) (by decide) ?_
 | with_reducible refine bh (F:=wz) (by assumption) (by decide) ?_
 | with_reducible refine bh (F:=FL) (by assumption) (by decide) ?_
 | with_reducible refine bh (F:=GK) (by assumption) (by decide) ?_
 | with_reducible refine bh (F:=Nb) (by assumption) (by decide) ?_
 | with_reducible refine bh (F:=lJ) (by assumption) (by decide) ?_)
local macro_rules | `(tactic| walk_at "evR")=> `(tactic| first
 | with_reducible refine aC (FT _ _ _) ?_
 | with_reducible refine aC (Oo (by assumption)) ?_
 | with_reducible refine aC (Oq (by assumption)) ?_
 | with_reducible refine aC (Ot (by assumption)) ?_
 | with_reducible refine aC (Ou (by assumption)) ?_)
theorem FU (Fu:dI K "_law_good" "_law_good" (top 44) ff fd) (T:Txt K mg) (h1:cI P w K mg base 6 "side_line" (se yP yH)) (h2:cI P w K mg base 6 "square_line" (se yP jq)) (h3:cI P w K mg base 7 "foot_point" (se JW sd)) (h4:cI P w K mg base 8 "mirrored_point" (se KG yI))
 (g1:cI P w K mg base 1 "_law_copy" rX) (g2:cI P w K mg base 5 "_law_side" wz) (g3:cI P w K mg base 5 "_law_square" FL) (g4:cI P w K mg base 5 "_law_foot" GK) (g5:cI P w K mg base 6 "_law_mirrored" Nb) (g6:cI P w K mg base 3 "_law_same_three" lJ) (g7:Jp P w K mg base 1 "_law_spoil" CA):bq P w K mg base (cK P w) 9 ff fd ["_law_i","_law_l"] (dM K wF):=by
 refine cg Fu yv (by rintro ds r ⟨a,b,c,x,y,z,_,rfl,_⟩; rfl) (by rintro ds r ⟨a,b,c,x,y,z,_,_,rfl⟩; exact ⟨_,rfl⟩) λk hq ds sl hF=>?_
 obtain ⟨a,b,c,x,y,z,h,rfl,ee⟩:=hF
 injection ee with ee
 subst ee
 show aH k _ [.va (bJ a b c),.va (bJ x y z),.un,.un,.un,.un,.un] _ _
 conv in (aq _)=>whnf
 refine aN ?_
 generalize hG:(λρ'=>aH k _ ρ' _ _)=G
 walk_at "ev"
 subst hG
 refine cF 2 (d0:=.lst [bJ a b c,bJ x y z]) (by walk_at "at") rfl (by walk_at "sset") ?_
 refine aN ?_
 generalize hG:(λρ'=>aH k _ ρ' _ _)=G
 walk_at "ev"
 subst hG
 have o1:=Kh h
 have o2:=FQ h
 have o3:=Kl h
 have o4:=Km h
 have c1:=Ol h
 have c2:=MQ h
 have c3:=MR h
 have c4:=MS h
 generalize J6 a b c x y z=L1 at o1 c1 |-
 generalize J7 a b c x y z=L2 at o2 c2 |-
 generalize J8 a b c x y z=L3 at o3 c3 |-
 generalize Ka a b c x y z=L4 at o4 c4 |-
 refine cF 3 (d0:=.lst [.tup (L1.map au),.tup (L2.map au),.tup (L3.map au),.tup (L4.map au)]) (by walk_at "at") rfl (by walk_at "sset") ?_
 refine aN ?_
 with_reducible refine cN hq (fO (Txt.range (by assumption)) ?_)
 walk_at "ev"
 ·exact ⟨by decide,by decide⟩
 refine ⟨λi ρ'=>∃ s4:Sl,s4.F4=false/\ρ'=[.va (bJ a b c),.va (bJ x y z),.va (.lst [bJ a b c,bJ x y z]),.va (.lst [.tup (L1.map au),.tup (L2.map au),.tup (L3.map au),.tup (L4.map au)]),s4,.un,.un],⟨_,rfl,rfl⟩,?_,?_⟩
 ·rintro c' lR wG wH i dd ρ' hd ⟨s4,h4F,rfl⟩
  obtain ⟨hi,rfl⟩:=iC hd
  refine eO (by walk_at "at") (uL (by walk_at "sset") ?_)
  refine aN (zK (by walk_at "at") (BP ?_))
  generalize hG:(λρ'=>aH c' _ ρ' _ _)=G
  refine jj (x_call (x:=O5 "side_line") (F:=se yP yH) h1 (by decide) ?_)
  walk_at "ev"
  refine aC c1 ⟨_,rfl,?_⟩
  refine jj (x_call (x:=O5 "square_line") (F:=se yP jq) h2 (by decide) ?_)
  walk_at "ev"
  refine aC c2 ⟨_,rfl,?_⟩
  refine nE (Sd.mk (cM (Rk rfl)) (uL (by walk_at "sset") ?_))
  subst hG
  refine aN (JA (by walk_at "at") (by walk_at "at") (BP ?_))
  generalize hG:(λρ'=>aH c' _ ρ' _ _)=G
  refine jj (x_call (x:=O5 "foot_point") (F:=se JW sd) h3 (by decide) ?_)
  walk_at "ev"
  refine aC c3 ⟨_,rfl,?_⟩
  refine jj (x_call (x:=O5 "mirrored_point") (F:=se KG yI) h4 (by decide) ?_)
  walk_at "ev"
  refine aC c4 ⟨_,rfl,?_⟩
  refine nE (Sd.mk (cM (Rk rfl)) ⟨_,rfl,cM (Rk rfl),uL (by walk_at "sset") ?_⟩)
  subst hG
  show aH c' _ [.va (bJ a b c),.va (bJ x y z),.va (.lst [bJ a b c,bJ x y z]),.va (.lst [.tup (L1.map au),.tup (L2.map au),.tup (L3.map au),.tup (L4.map au)]),.va (.int i),.fo (.ls [genS L1,genS L2,genS L3,genS L4]),.un] _ _
  refine aN (HM (Jo 5 (.s rfl (.s rfl (.s rfl (.s rfl (.s rfl (.z (.cons rfl .nil))))))) (by walk_at "sset") ?_))
  have ed:(Sh.ls [genS L1,genS L2,genS L3,genS L4]).d=.lst ([L1,L2,L3,L4].map λL=>.tup (L.map au)):=by
   show D.lst [(genS L1).d,(genS L2).d,(genS L3).d,(genS L4).d]=_
   rw [wD,wD,wD,wD]; rfl
  rw [ed]
  have eq4:[D.tup (L1.map au),.tup (L2.map au),.tup (L3.map au),.tup (L4.map au)]=[L1,L2,L3,L4].map λL=>D.tup (L.map au):=rfl
  rw [eq4]
  generalize hG:(λρ'=>aH c' _ ρ' _ _)=G
  walk_at "ev"
  refine A2 (Txt.all T) (e_x (dF (by rw [lR]; exact hq) (N':=["_law_one","_law_other"]) (ρ0:=λ_=>[.un,.un]) (λt=>.un (.un .nil)) (GF (Txt.zip T) ?_)))
  walk_at "ev"
  refine ⟨_,_,rfl,rfl,?_⟩
  have ez:jI ([L1,L2,L3,L4].map λL=>D.tup (L.map au)) ([L1,L2,L3,L4].map λL=>D.tup (L.map au))=[L1,L2,L3,L4].map λL=>D.tup [.tup (L.map au),.tup (L.map au)]:=rfl
  rw [ez]
  have oo:∀ L∈[L1,L2,L3,L4],O3 L:=MT o1 o2 o3 o4
  refine Sd.mk (cM (Rk rfl)) ⟨[L1,L2,L3,L4].map λ_=>some (.bl true),rfl,?_,dJ ⟨[true,true,true,true],rfl,?_⟩⟩
  ·intro c2 hc t j d o hd ho
   simp only [Pk,Pq] at hd ho
   obtain ⟨L,hL,rfl⟩:=hd
   obtain ⟨L',hL',rfl⟩:=ho
   have hO:=oo L (QI hL)
   show ku c2 _ (.tup [.tup (L.map au),.tup (L.map au)]) _ _
   refine F9 rfl (by walk_at "u") ?_
   walk_at "ev"
   refine ⟨.un (.un .nil),?_⟩
   simp only [jV]
   refine ⟨λ_=>?_,λh=>by cases h⟩
   walk_at "ev"
   exact aC (Om hO) (Ab rfl)
  rw [show ([true,true,true,true].all id)=true from rfl]
  walk_at "ev"
  subst hG
  refine aN (JB g7 (by decide) (by rw [lR]; exact hq) (by walk_at "at") (by walk_at "at") (.s rfl (.s rfl (.s rfl (.s rfl (.s rfl (.z (.cons rfl .nil))))))) (by walk_at "at") (by decide) (MT ⟨_,rfl,gw o1⟩ ⟨_,rfl,gw o2⟩ ⟨_,rfl,gw o3⟩ ⟨_,rfl,gw o4⟩) ?_)
  show aH c' _ [.va (bJ a b c),.va (bJ x y z),.va (.lst [bJ a b c,bJ x y z]),.va _,.va (.int i),.un,.un] _ _
  walk_at "ev"
  refine Bo (CP [a,b,c] [x,y,z]) ?_
  walk_at "ev"
  exact ⟨_,rfl,rfl⟩
 ·rintro ρ' ⟨s4,h4F,rfl⟩
  walk_at "ev"
  rfl
end
end
section
variable {P:Program} {w:World} {K:O7} {mg:Str->Option Value} {base:Heap}
noncomputable def nJ (ns:List Int) (k:Nat):Int:=if k<ns.length then ns.getD k 0 % 2147483647 else 0
noncomputable def r8:Fn:=λds r=>∃ (ns:List Int) (k:Nat),ds=[.lst (ns.map .int),.int (k:Int)]/\r=.ok (.va (.int (nJ ns k)))
theorem Kn (ns) (k:Nat):r8 [.lst (ns.map .int),.int (k:Int)] (.ok (.va (.int (nJ ns k)))):=⟨ns,k,rfl,rfl⟩
theorem Ko {ns:List Int} (h:k<ns.length):jR (ns.map D.int) (k:Int)=some (D.int (ns.getD k 0)):=by
 rw [iB (by omega) (by simp; omega),Qt,Pk,PU h,QA,PU h]
 rfl
theorem FW (ns):r8 [.lst (ns.map .int),.int 0] (.ok (.va (.int (nJ ns 0)))):=Kn ns 0
theorem FY (Fu:dI K "_law_cell" "_law_cell" (top 26) f fd) (T:Txt K mg):bq P w K mg base (cK P w) 1 f fd ["_law_script","_law_k"] (dM K r8):=by
 refine cg Fu yo (by rintro ds r ⟨ns,k,rfl,_⟩; rfl) (by rintro ds r ⟨ns,k,_,rfl⟩; exact ⟨_,rfl⟩) λc hq ds sl hF=>?_
 obtain ⟨ns,k,rfl,e⟩:=hF
 injection e with e
 subst e
 show aH c _ [.va (.lst (ns.map .int)),.va (.int (k:Int))] _ _
 conv in (aq _)=>whnf
 walk_at "ev"
 ·have hk:k<ns.length:=by simp only [Pe] at *; omega
  refine uQ (Ko hk) ?_
  walk_at "ev"
  show Sl.va _=Sl.va _
  unfold nJ
  rw [if_pos hk]
 ·have hk:¬ k<ns.length:=by simp only [Pe] at *; omega
  show Sl.va _=Sl.va _
  unfold nJ
  rw [if_neg hk]
theorem ju (cs:List Int) (o:Int) {k:Int} (hk:k.natAbs<5):cE (aQ (jo cs o k)) where
 l:=Pw (qZ _) (lI ..)
 e:=Ex.gc λt ht=>⟨Pw (j5 cs o k hk t ht).1 (by decide),(j5 cs o k hk t ht).2.1⟩
 b:=Bn.gc (λt ht=>(j5 cs o k hk t ht).2.2) (Ro (lI ..) (by decide))
noncomputable def th (cs:List Int) (o:Int) (k:Nat):List aD:=aQ (jo cs o (k:Int))
theorem Kp (ho:o.natAbs<10) (hl:cs.length<=1000):FE [.lst (cs.map .int),.int o] (.ok (.va (.tup [au (th cs o 0),au (th cs o 1),au (th cs o 2)]))):=⟨cs,o,ho,hl,rfl,rfl⟩
theorem lg {α:Type} (xs:List α) (a b:Nat):(EV.cutD xs (some (a:Int)) (some (b:Int))).length<=b - a:=by
 unfold EV.cutD HT.b9
 simp only [show ¬ ((a:Int)<0) by omega,show ¬ ((b:Int)<0) by omega,if_false,Qk,Uk,Qt]
 omega
theorem GL:cE (cT 1):=(Lm.con (b:=47) (Vb (by decide))).mono (h2:=QH 3)
section
local macro_rules | `(tactic| walk_at "evR")=> `(tactic| first
 | with_reducible refine aC (Kp (by decide) (by assumption)) ?_
 | with_reducible refine aC (FW _) ?_)
local macro_rules | `(tactic| walk_at "evCa")=> `(tactic| first
 | with_reducible refine bh (F:=FE) (by assumption) (by decide) ?_
 | with_reducible refine bh (F:=r8) (by assumption) (by decide) ?_
 | with_reducible refine bh (F:=wF) (by assumption) (by decide) ?_)
theorem Kq (Fu:dI K "law" "law" (top 45) f fd) (T:Txt K mg) (h1:cI P w K mg base 1 "_law_cell" r8) (h2:cI P w K mg base 3 "_law_three" FE) (h5:cI P w K mg base 9 "_law_good" wF):bq P w K mg base (cK P w) 10 f fd ["_law_script"] (dM K Au):=by
 refine cg Fu JC (by rintro ds r ⟨ns,_,rfl,_⟩; rfl) (by rintro ds r ⟨ns,_,_,rfl⟩; exact ⟨_,rfl⟩) λc hq ds sl hF=>?_
 obtain ⟨ns,hl,rfl,e⟩:=hF
 injection e with e
 subst e
 show aH c _ [.va (.lst (ns.map D.int)),.un,.un,.un,.un,.un] _ _
 conv in (aq _)=>whnf
 refine aN ?_
 generalize hG:(λρ'=>aH c _ ρ' _ _)=G
 walk_at "ev"
 ·have:(EV.cutD (ns.map D.int) (some 2) (some 63)).length<=61:=lg _ 2 63
  exact l6 (by simp only [RV]; omega)
 subst hG
 show aH c _ [.va (.lst (ns.map D.int)),.ow (EV.cutD (ns.map D.int) (some 2) (some 63)++[.int 5]),.un,.un,.un,.un] _ _
 have hcs:EV.cutD (ns.map D.int) (some 2) (some 63)++[D.int 5]=(EV.cutD ns (some 2) (some 63)++[5]).map .int:=by rw [iA,Px]; rfl
 have hcl:(EV.cutD ns (some 2) (some 63)++[5]).length<=1000:=by
  have:(EV.cutD ns (some 2) (some 63)).length<=61:=lg _ 2 63
  rw [P0,RV]; omega
 rw [hcs]
 generalize EV.cutD ns (some 2) (some 63)++[5]=cs at hcl |-
 refine cF 1 (by walk_at "at") rfl (by walk_at "sset") ?_
 have a0:cE (th cs 0 0):=ju cs 0 (by decide)
 have a1:cE (th cs 0 1):=ju cs 0 (by decide)
 have a2:cE (th cs 0 2):=ju cs 0 (by decide)
 have b0:cE (th cs 1 0):=ju cs 1 (by decide)
 have b1:cE (th cs 1 1):=ju cs 1 (by decide)
 have b2:cE (th cs 1 2):=ju cs 1 (by decide)
 refine aN ?_
 generalize hG:(λρ'=>aH c _ ρ' _ _)=G
 walk_at "ev"
 subst hG
 refine aN ?_
 generalize hG:(λρ'=>aH c _ ρ' _ _)=G
 walk_at "ev"
 subst hG
 generalize th cs 0 0=p0 at a0 |-
 generalize th cs 0 1=p1 at a1 |-
 generalize th cs 0 2=p2 at a2 |-
 generalize th cs 1 0=q0 at b0 |-
 generalize th cs 1 1=q1 at b1 |-
 generalize th cs 1 2=q2 at b2 |-
 refine aN ?_
 generalize hG:(λρ'=>aH c _ ρ' _ _)=G
 walk_at "ev"
 subst hG
 generalize nJ ns 0 % 8=kd
 refine aN (Gj (λρ'=>∃ x y z,cE x/\cE y/\cE z/\ρ'=[.va (.lst (ns.map D.int)),.va (.lst (cs.map D.int)),.va (bJ p0 p1 p2),.va (bJ x y z),.va (.int kd),.un]) ?_ ?_)
 ·walk_at "ev"
  ·exact ⟨_,_,_,a0,a1,a2,rfl⟩
  ·exact ⟨_,_,_,b0,b1,b2,rfl⟩
 rintro ρ' ⟨x,y,z,hx,hy,hz,rfl⟩
 refine aN (Gj (λρ'=>∃ a b c,cE a/\cE b/\cE c/\ρ'=[.va (.lst (ns.map D.int)),.va (.lst (cs.map D.int)),.va (bJ a b c),.va (bJ x y z),.va (.int kd),.un]) ?_ ?_)
 ·walk_at "ev"
  ·exact ⟨_,_,_,a0,a1,Lm.nil,rfl⟩
  ·exact ⟨_,_,_,a0,a1,a2,rfl⟩
 rintro ρ' ⟨a,b,c',ha,hb,hc,rfl⟩
 have S1:dB a b c' x y z:=⟨ha,hb,hc,hx,hy,hz⟩
 have S2:dB [] [] (cT 1) x y z:=⟨Lm.nil,Lm.nil,GL,hx,hy,hz⟩
 have S3:dB a b c' (cT 1) [] []:=⟨ha,hb,hc,GL,Lm.nil,Lm.nil⟩
 refine aN ?_
 generalize hG:(λρ'=>aH c _ ρ' _ _)=G
 walk_at "ev"
 subst hG
 walk_at "ev"
 refine aC (uh S1) ?_
 walk_at "ev"
 refine aC (uh S2) ?_
 walk_at "ev"
 refine aC (uh S3) ?_
 walk_at "ev"
 rfl
end
end
section
variable {K:O7}
theorem FZ (yN:mg "law"=some (.ref fa)) (T:Txt K mg) (xPLACES:∃ tk:Tok,mg "PLACES"=some (.int 6 tk))
 (D2:ay K mg "trimmed" (top 2))
 (D3:ay K mg "greatest_powers" (top 3))
 (D4:ay K mg "key_of" (top 4))
 (D5:ay K mg "powers_of" (top 5))
 (D6:ay K mg "packed" (top 6))
 (D7:ay K mg "unpacked" (top 7))
 (D8:ay K mg "add_products" (top 8))
 (D10:ay K mg "width_of" (top 10))
 (D11:ay K mg "add_part" (top 11))
 (D12:ay K mg "poly_total" (top 12))
 (D14:ay K mg "square_of_way" (top 14))
 (D16:ay K mg "side_rule" (top 16))
 (D17:ay K mg "square_rule" (top 17))
 (D18:ay K mg "foot_rule" (top 18))
 (D19:ay K mg "mirrored_rule" (top 19))
 (D20:ay K mg "side_line" (top 20))
 (D21:ay K mg "square_line" (top 21))
 (D22:ay K mg "foot_point" (top 22))
 (D23:ay K mg "mirrored_point" (top 23))
 (D25:ay K mg "_law_whole" (top 25))
 (D26:ay K mg "_law_cell" (top 26))
 (D27:ay K mg "_law_thing" (top 27))
 (D28:ay K mg "_law_trimmed" (top 28))
 (D29:ay K mg "_law_sum" (top 29))
 (D30:ay K mg "_law_product" (top 30))
 (D31:ay K mg "_law_same" (top 31))
 (D32:ay K mg "_law_less" (top 32))
 (D33:ay K mg "_law_scaled" (top 33))
 (D34:ay K mg "_law_three" (top 34))
 (D35:ay K mg "_law_small_term" (top 35))
 (D36:ay K mg "_law_same_three" (top 36))
 (D37:ay K mg "_law_copy" (top 37))
 (D38:ay K mg "_law_spoil" (top 38))
 (D39:ay K mg "_law_times" (top 39))
 (D40:ay K mg "_law_side" (top 40))
 (D41:ay K mg "_law_square" (top 41))
 (D42:ay K mg "_law_foot" (top 42))
 (D43:ay K mg "_law_mirrored" (top 43))
 (D44:ay K mg "_law_good" (top 44))
 (D45:ay K mg "law" (top 45))
 : ∃ fd:FuncData,(∀ (s:Shared) (u:Value),BindsTo s fd ⟨[u],[]⟩ [("_law_script",u)])/\∀ base:Heap,K.In base->base.Ns mainGlobals mg->bq P w K mg base (cK P w) 20 fa fd ["_law_script"] (dM K Au):=by
 refine Classical.byContradiction λhG=>?_
 obtain ⟨f45,fd45,m45,Fu45⟩:=D45
 have e:=yN.symm.trans m45
 cases e
 refine hG ⟨fd45,?_,λbase _ _=>?_⟩
 ·obtain ⟨oc,od,kV,doc,pm,an,cdv,ct,osl,rfl,lk,hcd⟩:=Fu45.ex
  exact λs u=>.of_eq rfl
 have C2:=aS P w base D2 λu=>E4 u T
 have C3:=aS P w base D3 λu=>B4 u T xPLACES
 have C4:=aS P w base D4 λu=>JE u T xPLACES
 have C5:=aS P w base D5 λu=>Fg u T xPLACES C2
 have C6:=aS P w base D6 λu=>Fi u T C4
 have C7:=aS P w base D7 λu=>JJ u T C5
 have C8:=vR P w base D8 λu=>JI u T
 have C10:=aS P w base D10 λu=>JK u T C3
 have C11:=vR P w base D11 λu=>Cq u T C6 C8
 have C12:=aS P w base D12 λu=>JN u T C10 C11 C7
 have C25:=aS P w base D25 λu=>BR u T
 have C26:=aS P w base D26 λu=>FY u T
 have C27:=aS P w base D27 λu=>BV u T
 have C28:=aS P w base D28 λu=>BX u T
 have C29:=aS P w base D29 λu=>E6 u T C28
 have C30:=aS P w base D30 λu=>Cb u T C29
 have C31:=aS P w base D31 λu=>E8 u T C25
 have C32:=aS P w base D32 λu=>Cu u T C29
 have C33:=aS P w base D33 λu=>J4 u T C29
 have C35:=aS P w base D35 λu=>JQ u T C27
 have C34:=aS P w base D34 λu=>Ct u T C35 C29
 have C36:=aS P w base D36 λu=>Cv u T C31
 have C37:=aS P w base D37 λu=>FH u T
 have C38:=E0 P w base D38 λu=>CB u
 have C14:=aS P w base D14 λu=>MB u
 have C16:=aS P w base D16 λu=>MC u
 have C17:=aS P w base D17 λu=>JX u
 have C18:=aS P w base D18 λu=>MD u C14
 have C19:=aS P w base D19 λu=>ME u C18 C14
 have C20:=aS P w base D20 λu=>MF u C12 C16
 have C21:=aS P w base D21 λu=>JY u C12 C17
 have C22:=aS P w base D22 λu=>JZ u C12 C18
 have C23:=aS P w base D23 λu=>J0 u C12 C19
 have C39:=aS P w base D39 λu=>FI u C30
 have C40:=aS P w base D40 λu=>CH u C39 C29 C33
 have C41:=aS P w base D41 λu=>FN u C39 C32 C33
 have C42:=aS P w base D42 λu=>J9 u C39 C32 C29
 have C43:=aS P w base D43 λu=>Kc u C39 C32 C29 C33 C42
 have C44:=aS P w base D44 λu=>FU u T C20 C21 C22 C23 C37 C40 C41 C42 C43 C36 C38
 exact (Kq Fu45 T C26 C34 C44).mono (by decide)
end
end My
open PySem PySem.W PyProof.Rows
local macro_rules | `(tactic| walk_at "dm")=> `(tactic| (dsimp only [L2.eG]; refine' EV.Io (by assumption) (by assumption) ?a ?l ?c ?k; (case a=>k_is); (case l=>k_is); (case c=>k_is); (case k=>k_is)))
set_option maxRecDepth 100000 in
set_option maxHeartbeats 0 in
theorem PySem.Challenge.cw_everydraw_k14_raw_rules_by_points_and_li_holds : PySem.Challenge.rw_everydraw_k14_raw_rules_by_points_and_li.Holds := by
 w_on; o_law; k_head; (case hw=>w_witness2)
 k_fill
 refine EV.walk (k:=20) (l:=PySem.Challenge.rw_everydraw_k14_raw_rules_by_points_and_li) (by decide) rfl rfl (λw h Y=>PySem.W.kIn_of Y) ?F
 case F =>
  intro w mg fa h KX G hmg
  have D2:EV.ay (L2.eG KX) mg (Str.ofString "trimmed") (My.top 2):=by walk_at "dm"
  have D3:EV.ay (L2.eG KX) mg (Str.ofString "greatest_powers") (My.top 3):=by walk_at "dm"
  have D4:EV.ay (L2.eG KX) mg (Str.ofString "key_of") (My.top 4):=by walk_at "dm"
  have D5:EV.ay (L2.eG KX) mg (Str.ofString "powers_of") (My.top 5):=by walk_at "dm"
  have D6:EV.ay (L2.eG KX) mg (Str.ofString "packed") (My.top 6):=by walk_at "dm"
  have D7:EV.ay (L2.eG KX) mg (Str.ofString "unpacked") (My.top 7):=by walk_at "dm"
  have D8:EV.ay (L2.eG KX) mg (Str.ofString "add_products") (My.top 8):=by walk_at "dm"
  have D10:EV.ay (L2.eG KX) mg (Str.ofString "width_of") (My.top 10):=by walk_at "dm"
  have D11:EV.ay (L2.eG KX) mg (Str.ofString "add_part") (My.top 11):=by walk_at "dm"
  have D12:EV.ay (L2.eG KX) mg (Str.ofString "poly_total") (My.top 12):=by walk_at "dm"
  have D14:EV.ay (L2.eG KX) mg (Str.ofString "square_of_way") (My.top 14):=by walk_at "dm"
  have D16:EV.ay (L2.eG KX) mg (Str.ofString "side_rule") (My.top 16):=by walk_at "dm"
  have D17:EV.ay (L2.eG KX) mg (Str.ofString "square_rule") (My.top 17):=by walk_at "dm"
  have D18:EV.ay (L2.eG KX) mg (Str.ofString "foot_rule") (My.top 18):=by walk_at "dm"
  have D19:EV.ay (L2.eG KX) mg (Str.ofString "mirrored_rule") (My.top 19):=by walk_at "dm"
  have D20:EV.ay (L2.eG KX) mg (Str.ofString "side_line") (My.top 20):=by walk_at "dm"
  have D21:EV.ay (L2.eG KX) mg (Str.ofString "square_line") (My.top 21):=by walk_at "dm"
  have D22:EV.ay (L2.eG KX) mg (Str.ofString "foot_point") (My.top 22):=by walk_at "dm"
  have D23:EV.ay (L2.eG KX) mg (Str.ofString "mirrored_point") (My.top 23):=by walk_at "dm"
  have D25:EV.ay (L2.eG KX) mg (Str.ofString "_law_whole") (My.top 25):=by walk_at "dm"
  have D26:EV.ay (L2.eG KX) mg (Str.ofString "_law_cell") (My.top 26):=by walk_at "dm"
  have D27:EV.ay (L2.eG KX) mg (Str.ofString "_law_thing") (My.top 27):=by walk_at "dm"
  have D28:EV.ay (L2.eG KX) mg (Str.ofString "_law_trimmed") (My.top 28):=by walk_at "dm"
  have D29:EV.ay (L2.eG KX) mg (Str.ofString "_law_sum") (My.top 29):=by walk_at "dm"
  have D30:EV.ay (L2.eG KX) mg (Str.ofString "_law_product") (My.top 30):=by walk_at "dm"
  have D31:EV.ay (L2.eG KX) mg (Str.ofString "_law_same") (My.top 31):=by walk_at "dm"
  have D32:EV.ay (L2.eG KX) mg (Str.ofString "_law_less") (My.top 32):=by walk_at "dm"
  have D33:EV.ay (L2.eG KX) mg (Str.ofString "_law_scaled") (My.top 33):=by walk_at "dm"
  have D34:EV.ay (L2.eG KX) mg (Str.ofString "_law_three") (My.top 34):=by walk_at "dm"
  have D35:EV.ay (L2.eG KX) mg (Str.ofString "_law_small_term") (My.top 35):=by walk_at "dm"
  have D36:EV.ay (L2.eG KX) mg (Str.ofString "_law_same_three") (My.top 36):=by walk_at "dm"
  have D37:EV.ay (L2.eG KX) mg (Str.ofString "_law_copy") (My.top 37):=by walk_at "dm"
  have D38:EV.ay (L2.eG KX) mg (Str.ofString "_law_spoil") (My.top 38):=by walk_at "dm"
  have D39:EV.ay (L2.eG KX) mg (Str.ofString "_law_times") (My.top 39):=by walk_at "dm"
  have D40:EV.ay (L2.eG KX) mg (Str.ofString "_law_side") (My.top 40):=by walk_at "dm"
  have D41:EV.ay (L2.eG KX) mg (Str.ofString "_law_square") (My.top 41):=by walk_at "dm"
  have D42:EV.ay (L2.eG KX) mg (Str.ofString "_law_foot") (My.top 42):=by walk_at "dm"
  have D43:EV.ay (L2.eG KX) mg (Str.ofString "_law_mirrored") (My.top 43):=by walk_at "dm"
  have D44:EV.ay (L2.eG KX) mg (Str.ofString "_law_good") (My.top 44):=by walk_at "dm"
  have D45:EV.ay (L2.eG KX) mg (Str.ofString "law") (My.top 45):=by walk_at "dm"
  have T:EV.Txt (L2.eG KX) mg:=by
   dsimp only [L2.eG]
   refine' EV.Iz KX G ?z1 ?z2 ?z3 ?z4 ?z5 ?z6 ?z7 ?z8 ?z9 ?z10 ?z11 ?z12 ?z13 ?z14 ?z15 ?z16 ?z17 ?sib
   (case z1=>k_is)
   (case z2=>k_is)
   (case z3=>k_is)
   (case z4=>k_is)
   (case z5=>k_is)
   (case z6=>k_is)
   (case z7=>k_is)
   (case z8=>k_is)
   (case z9=>k_is)
   (case z10=>k_is)
   (case z11=>k_is)
   (case z12=>k_is)
   (case z13=>k_is)
   (case z14=>k_is)
   (case z15=>k_is)
   (case z16=>k_is)
   (case z17=>k_is)
   (case sib=>k_is)
  have xPLACES:∃ tk:Tok,mg (Str.ofString "PLACES")=some (.int 6 tk):=by
   refine' EV.int_mk KX G ?a
   (case a=>k_is)
  exact My.FZ hmg T xPLACES D2 D3 D4 D5 D6 D7 D8 D10 D11 D12 D14 D16 D17 D18 D19 D20 D21 D22 D23 D25 D26 D27 D28 D29 D30 D31 D32 D33 D34 D35 D36 D37 D38 D39 D40 D41 D42 D43 D44 D45
